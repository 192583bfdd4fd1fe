import PyProof.Rows.All
import Wide.All
import OpenK.AllK
import Wide.FinOn
import Lean
import PyProof.EqAt
import PyProof.EqKinds
import PyProof.TupleCall
import PySem.Challenge.RW_backslope_k82_log_numbers_written
set_option Elab.async false
set_option linter.all false
set_option maxRecDepth 100000
namespace L2
open PySem PySem.Spec PyProof.Rows
noncomputable abbrev Key := Sum Int Str
noncomputable def qf0 : Key → Value → Bool
  | .inl k, v => Value.isInt k v
  | .inr x, v => Value.isStrOf x v
noncomputable def qg5 (w : World) : Key → Int
  | .inl k => hashInt k
  | .inr x => hashStr w x
theorem qax : ∀ {k : Key} {v : Value}, qf0 k v = true → (∃ i t, k = Sum.inl i ∧ v = Value.int i t) ∨ (∃ x t, k = Sum.inr x ∧ v = Value.str x t)
  | .inl i, v, h => by
    obtain ⟨t, e⟩ := Value.isInt_shape (k := i) (v := v) h
    exact .inl ⟨i, t, rfl, e⟩
  | .inr x, v, h => by
    obtain ⟨t, e⟩ := Value.isStrOf_shape (x := x) (v := v) h
    exact .inr ⟨x, t, rfl, e⟩
theorem qf1 (a b : Int) : decide ((Sum.inl a : Key) = Sum.inl b) = (a == b) := by
  by_cases e : a = b
  · subst e; simp
  · have h : ¬ (Sum.inl a : Key) = Sum.inl b := fun q => e (Sum.inl.inj q)
    rw [decide_eq_false h]
    exact (beq_eq_false_iff_ne.mpr e).symm
theorem qf2 (a b : Str) : decide ((Sum.inr a : Key) = Sum.inr b) = decide (a = b) := by
  by_cases e : a = b
  · subst e; simp
  · have h : ¬ (Sum.inr a : Key) = Sum.inr b := fun q => e (Sum.inr.inj q)
    rw [decide_eq_false h, decide_eq_false e]
theorem qf3 (a : Int) (b : Str) : decide ((Sum.inl a : Key) = Sum.inr b) = false := decide_eq_false (fun q => nomatch q)
theorem qf4 (a : Str) (b : Int) : decide ((Sum.inr a : Key) = Sum.inl b) = false := decide_eq_false (fun q => nomatch q)
noncomputable def qcF (prog : Program) (w : World) : PySem.KeyKind prog w Key where
  is := qf0
  hash := qg5 w
  inj := fun v a b ha hb => by
    rcases qax ha with ⟨i, t, rfl, rfl⟩ | ⟨x, t, rfl, rfl⟩
    · rcases qax hb with ⟨j, u, rfl, e⟩ | ⟨y, u, rfl, e⟩
      · injection e with e1 _; rw [e1]
      · exact nomatch e
    · rcases qax hb with ⟨j, u, rfl, e⟩ | ⟨y, u, rfl, e⟩
      · exact nomatch e
      · injection e with e1 _; rw [e1]
  byValue := fun k v h => by
    rcases qax h with ⟨i, t, rfl, rfl⟩ | ⟨x, t, rfl, rfl⟩ <;> rfl
  pyHash := fun hv h => by
    rcases qax hv with ⟨i, t, rfl, rfl⟩ | ⟨x, t, rfl, rfl⟩
    · exact wpAny_pyHash_int h
    · exact wpAny_pyHash_str h
  eqBool := fun hu hv h => by
    rcases qax hu with ⟨i, t, rfl, rfl⟩ | ⟨x, t, rfl, rfl⟩
    · rcases qax hv with ⟨j, u, rfl, rfl⟩ | ⟨y, u, rfl, rfl⟩
      · rw [qf1] at h; exact wpAny_eqBool_int h
      · rw [qf3] at h; exact SeqAt.EqAt.int_str i t y u _ _ _ _ h
    · rcases qax hv with ⟨j, u, rfl, rfl⟩ | ⟨y, u, rfl, rfl⟩
      · rw [qf4] at h; exact SeqAt.EqAt.str_int x t j u _ _ _ _ h
      · rw [qf2] at h; exact wpAny_eqBool_str h
  «strs» := fun k x t v h => by
    rcases qax h with ⟨i, u, rfl, e⟩ | ⟨y, u, rfl, e⟩
    · exact nomatch e
    · injection e with e1 _
      subst e1
      cases v <;> rfl
end L2
namespace L2
open PySem PySem.Spec PyProof.Rows
inductive V where
  | non | bl (b : Bool) | int (i : Int) | str (x : Str) | byt (b : Array UInt8) | flt (b : UInt64) | ref (a : Addr) | ty (n : String)
  deriving DecidableEq
noncomputable def RelV : V → Value → Prop
  | .non, u => u = Value.none
  | .bl b, u => u = Value.bool b
  | .int i, u => ∃ t, u = Value.int i t
  | .str x, u => ∃ t, u = Value.str x t
  | .byt b, u => ∃ t, u = Value.bytes b t
  | .flt b, u => ∃ t, u = Value.float b t
  | .ref a, u => u = Value.ref a
  | .ty n, u => u = Value.type n
noncomputable abbrev Vals : List V → List Value → Prop := Paired RelV
theorem Vals.length {xs : List V} {us : List Value} (r : Vals xs us) : xs.length = us.length := Paired.length r
theorem Vals.get : ∀ {xs : List V} {us : List Value} {i : Nat} {x : V}, Vals xs us → xs[i]? = some x → ∃ u, us[i]? = some u ∧ RelV x u
  | _, _, _, _, .nil, e => by simp at e
  | _, _, 0, _, .cons r _, e => by simp at e; subst e; exact ⟨_, rfl, r⟩
  | _, _, i + 1, x, .cons _ t, e => by
    obtain ⟨u, h1, h2⟩ := Vals.get (i := i) (x := x) t (by simpa using e)
    exact ⟨u, by simpa using h1, h2⟩
theorem Vals.set {x : V} {u : Value} (r : RelV x u) : ∀ {xs : List V} {us : List Value} (i : Nat), Vals xs us → Vals (xs.set i x) (us.set i u)
  | _, _, _, .nil => .nil
  | _, _, 0, .cons _ t => .cons r t
  | _, _, i + 1, .cons q t => .cons q (Vals.set r i t)
theorem Vals.append : ∀ {xs ys : List V} {us ws : List Value}, Vals xs us → Vals ys ws → Vals (xs ++ ys) (us ++ ws)
  | _, _, _, _, .nil, s => s
  | _, _, _, _, .cons r t, s => .cons r (Vals.append t s)
theorem Vals.take : ∀ {xs : List V} {us : List Value} (n : Nat), Vals xs us → Vals (xs.take n) (us.take n)
  | _, _, 0, _ => .nil
  | _, _, _ + 1, .nil => .nil
  | _, _, n + 1, .cons r t => .cons r (Vals.take n t)
noncomputable def qgF : Option V → Option Value → Prop
  | some v, some u => RelV v u
  | none, none => True
  | _, _ => False
noncomputable def KV {κ : Type} : List (κ × V) → List (κ × Value) → Prop := Paired fun (p : κ × V) (q : κ × Value) => p.1 = q.1 ∧ RelV p.2 q.2
noncomputable def kV : Key → V
  | .inl i => .int i
  | .inr x => .str x
inductive HO where

  | lst (xs : List V)

  | tup (xs : List V)

  | dK (kvs : List (Key × V)) | dT (kvs : List (List Key × V))

  | set (S : Int → Bool) (n : Nat)

  | ins (C dx : Addr) (fs : List (Str × V))

  | own (x : Addr)

  | xd (fs : List (Str × V))

  | met (f x : Addr)

  | rng (lo hi : Int)

  | frz (o : Obj) (u : HO)

  | tbl (ps : Array Value)

  | ext (φ : Heap → Prop)
noncomputable abbrev Hp := Addr → Option HO
noncomputable def upd (H : Hp) (a : Addr) (o : HO) : Hp := fun b => if b = a then some o else H b
theorem qaf {H : Hp} {a : Addr} {o : HO} : upd H a o a = some o := by unfold upd; rw [if_pos rfl]
theorem qap {H : Hp} {a b : Addr} {o : HO} (h : b ≠ a) : upd H a o b = H b := by unfold upd; rw [if_neg h]
theorem qdN {H : Hp} {a b : Addr} {o u : HO} (h : H a = some o) (h' : H b = some u) (d : o ≠ u) : a ≠ b := by
  intro e; subst e; rw [h] at h'; exact d (Option.some.inj h')
theorem qam {H : Hp} {a b : Addr} {o : HO} (h : H a = some o) (h' : H b = none) : a ≠ b := by
  intro e; subst e; rw [h] at h'; cases h'
section
variable (P : Program) (w : World)
noncomputable def ObjOk (H : Hp) (h : Heap) (a : Addr) : HO → Prop
  | .lst xs => xs.length ≤ sizeLine ∧ ∃ (its : List Value) (n : Nat), Vals xs its ∧ h.get? a = some { cls := .type "list", data := .seq its.toArray n }
  | .tup xs => xs.length ≤ sizeLine ∧ ∃ its : List Value, Vals xs its ∧ IsTup h a its.toArray
  | .dK kvs => kvs.length ≤ sizeLine ∧ (a == sysModules) = false ∧ ∃ vs, KV kvs vs ∧ h.DictOf (qcF P w) a vs
  | .dT kvs => kvs.length ≤ sizeLine ∧ (a == sysModules) = false ∧ ∃ xs : List (List Key × Addr × Value),
      Paired (fun (p : List Key × V) (q : List Key × Addr × Value) => p.1 = q.1 ∧ H q.2.1 = some (.tup (p.1.map kV)) ∧ RelV p.2 q.2.2) kvs xs ∧
      ∃ o es ep, h.get? a = some o ∧ o.ExactDict ∧ o.data = .dict es ep ∧ es.toList = xs.map (entryOfKey (tupleKind (qcF P w))) ∧ (xs.map (·.1)).Nodup
  | .set S n => h.SetOf (intKind P w) a S n
  | .ins C dx fs => H dx = some (.own a) ∧ fs.length ≤ 1000 ∧ dx ≠ a ∧ h.get? a = some (PySem.W.instObj C dx) ∧
      ∃ mA, h.Ns1 dx mA ∧ (∀ f, qgF (fs.lookup f) (mA f)) ∧ PySem.Within mA (fs.map (·.1))
  | .own _ => ∃ o, h.get? a = some o
  | .xd fs => ∃ mA, h.Ns1 a mA ∧ ∀ f, qgF (fs.lookup f) (mA f)
  | .rng lo hi => ∃ t u v, h.get? a = some { cls := .type "range", data := .fields #[.int lo t, .int hi u, .int 1 v] }
  | .frz o u => h.get? a = some o ∧ ObjOk H h a u
  | .tbl ps => h.get? a = some { cls := .none, data := .fields ps }
  | .met f x => h.get? a = some (PySem.W.methodObj (.ref f) (.ref x))
  | .ext φ => φ h ∧ (∃ o, h.get? a = some o) ∧ ∀ h1 h2 : Heap, φ h1 → (∀ o, h1.get? a = some o → h2.get? a = some o) → φ h2
noncomputable def HOk (H : Hp) (h : Heap) : Prop := ∀ a o, H a = some o → ObjOk P w H h a o
end
section
variable {P : Program} {w : World} {H H' : Hp} {h h' : Heap} {a : Addr} {o : HO}
theorem ObjOk.lt (x : ObjOk P w H h a o) : a < h.objs.size := by
  cases o with
  | lst xs => obtain ⟨_, _, _, _, e⟩ := x; exact Heap.lt_size e
  | tup xs => obtain ⟨_, _, _, p⟩ := x; exact p.lt
  | dK kvs => obtain ⟨_, _, _, _, o, _, _, e, _⟩ := x; exact Heap.lt_size e
  | dT kvs => obtain ⟨_, _, _, _, o, _, _, e, _⟩ := x; exact Heap.lt_size e
  | set S n => obtain ⟨o, _, _, _, e, _⟩ := x; exact Heap.lt_size e
  | ins C dx fs => obtain ⟨_, _, _, e, _⟩ := x; exact Heap.lt_size e
  | own y => obtain ⟨_, e⟩ := x; exact Heap.lt_size e
  | xd fs => obtain ⟨_, ⟨_, _, _, e, _⟩, _⟩ := x; exact Heap.lt_size e
  | rng lo hi => obtain ⟨_, _, _, e⟩ := x; exact Heap.lt_size e
  | frz ob u => obtain ⟨e, _⟩ := x; exact Heap.lt_size e
  | tbl ps => exact Heap.lt_size (show h.get? a = some _ from x)
  | met f y => exact Heap.lt_size (show h.get? a = some _ from x)
  | ext φ => obtain ⟨_, ⟨_, e⟩, _⟩ := x; exact Heap.lt_size e
theorem Paired.mapP {α β : Type} {F G : α → β → Prop} : ∀ {l₁ : List α} {l₂ : List β}, Paired F l₁ l₂ → (∀ a b, F a b → G a b) → Paired G l₁ l₂
  | _, _, .nil, _ => .nil
  | _, _, .cons r t, f => .cons (f _ _ r) (Paired.mapP t f)
theorem ObjOk.stay (x : ObjOk P w H h a o) (k : ∀ b u, (b = a ∨ H b = some (.own a)) → h.get? b = some u → h'.get? b = some u)
    (ho : ∀ b, H b = some (.own a) → H' b = some (.own a)) (ht : ∀ b xs, H b = some (.tup xs) → H' b = some (.tup xs)) : ObjOk P w H' h' a o := by
  induction o with
  | lst xs => obtain ⟨z, its, n, r, e⟩ := x; exact ⟨z, its, n, r, k _ _ (.inl rfl) e⟩
  | tup xs => obtain ⟨z, its, r, ob, e, c⟩ := x; exact ⟨z, its, r, ob, k _ _ (.inl rfl) e, c⟩
  | dK kvs => obtain ⟨z, y, vs, r, ob, es, ep, e, c⟩ := x; exact ⟨z, y, vs, r, ob, es, ep, k _ _ (.inl rfl) e, c⟩
  | dT kvs =>
    obtain ⟨z, y, xs, r, ob, es, ep, e, c⟩ := x
    exact ⟨z, y, xs, Paired.mapP r fun p q z => ⟨z.1, ht _ _ z.2.1, z.2.2⟩, ob, es, ep, k _ _ (.inl rfl) e, c⟩
  | set S n => obtain ⟨ob, es, ep, t, e, c⟩ := x; exact ⟨ob, es, ep, t, k _ _ (.inl rfl) e, c⟩
  | ins C dx fs =>
    obtain ⟨d, z, ne, e, mA, ⟨od, es, ep, e2, c⟩, r⟩ := x
    exact ⟨ho _ d, z, ne, k _ _ (.inl rfl) e, mA, ⟨od, es, ep, k _ _ (.inr d) e2, c⟩, r⟩
  | own y => obtain ⟨ob, e⟩ := x; exact ⟨ob, k _ _ (.inl rfl) e⟩
  | xd fs => obtain ⟨mA, ⟨od, es, ep, e, c⟩, r⟩ := x; exact ⟨mA, ⟨od, es, ep, k _ _ (.inl rfl) e, c⟩, r⟩
  | rng lo hi => obtain ⟨t, u, v, e⟩ := x; exact ⟨t, u, v, k _ _ (.inl rfl) e⟩
  | frz ob u ih => obtain ⟨e, q⟩ := x; exact ⟨k _ _ (.inl rfl) e, ih q⟩
  | tbl ps =>
    have e : h.get? a = some { cls := .none, data := .fields ps } := x
    show h'.get? a = some { cls := .none, data := .fields ps }
    exact k a _ (.inl rfl) e
  | met f y =>
    have e : h.get? a = some (PySem.W.methodObj (.ref f) (.ref y)) := x
    show h'.get? a = some (PySem.W.methodObj (.ref f) (.ref y))
    exact k a _ (.inl rfl) e
  | ext φ => obtain ⟨p, ⟨o, e⟩, st⟩ := x; exact ⟨st _ _ p fun o q => k _ _ (.inl rfl) q, ⟨o, k _ _ (.inl rfl) e⟩, st⟩
theorem HOk.lt (x : HOk P w H h) (e : H a = some o) : a < h.objs.size := (x a o e).lt
theorem HOk.fresh (x : HOk P w H h) (e : h.objs.size ≤ a) : H a = none := by
  cases q : H a with
  | none => rfl
  | some u => exact absurd (Nat.lt_of_lt_of_le (x.lt q) e) (Nat.lt_irrefl _)
theorem HOk.kept (x : HOk P w H h) (k : ∀ b u, h.get? b = some u → h'.get? b = some u) : HOk P w H h' := fun a o e =>
  (x a o e).stay (fun b u _ q => k b u q) (fun _ q => q) fun _ _ q => q
theorem HOk.laid (x : HOk P w H h) (k : ∀ b u, h.get? b = some u → h'.get? b = some u) (hp : h.objs.size ≤ a) (new : ObjOk P w (upd H a o) h' a o) : HOk P w (upd H a o) h' := fun b u e => by
  have hn := x.fresh hp
  by_cases hb : b = a
  · subst hb; rw [qaf] at e; cases e; exact new
  · rw [qap hb] at e
    exact (x b u e).stay (fun c v _ q => k c v q) (fun c q => by rw [qap (qam q hn)]; exact q) fun c xs q => by rw [qap (qam q hn)]; exact q
end
noncomputable def Rd (H : Hp) (a : Addr) (u : HO) : Prop := H a = some u ∨ ∃ o, H a = some (.frz o u)
theorem Rd.of {H : Hp} {a : Addr} {u : HO} (h : H a = some u) : Rd H a u := .inl h
theorem Rd.ok {P : Program} {w : World} {H : Hp} {h : Heap} {a : Addr} {u : HO} (r : Rd H a u) (x : HOk P w H h) : ObjOk P w H h a u := by
  rcases r with r | ⟨o, r⟩
  · exact x a u r
  · obtain ⟨_, q⟩ := x a _ r
    exact q
noncomputable def Mut : Option HO → Prop
  | some (.lst _) => True
  | some (.dK _) => True
  | some (.dT _) => True
  | some (.set _ _) => True
  | some (.ins _ _ _) => True
  | some (.ext _) => True
  | _ => False
section
variable {P : Program} {w : World} {H : Hp} {h h' : Heap} {x e : Addr} {o' : HO}
theorem HOk.write (ok : HOk P w H h) (mu : Mut (H x)) (he : e = x ∨ H e = some (.own x)) (k : ∀ b u, b ≠ e → h.get? b = some u → h'.get? b = some u) (heo : ∃ u, h'.get? e = some u)
    (new : ObjOk P w (upd H x o') h' x o') : HOk P w (upd H x o') h' := fun b u q => by
  have nown : ∀ c y, H c = some (.own y) → c ≠ x := fun c y r z => by subst z; rw [r] at mu; exact mu
  have ntup : ∀ c xs, H c = some (.tup xs) → c ≠ x := fun c xs r z => by subst z; rw [r] at mu; exact mu
  by_cases hb : b = x
  · subst hb; rw [qaf] at q; cases q; exact new
  · rw [qap hb] at q
    by_cases hbe : b = e
    · have q' : H b = some (.own x) := by
        rcases he with z | z
        · exact absurd (hbe.trans z) hb
        · rw [hbe]; exact z
      rw [q] at q'; cases q'
      obtain ⟨v, hv⟩ := heo
      exact ⟨v, by rw [hbe]; exact hv⟩
    · refine (ok b u q).stay (fun c v hc r => k c v ?_ r) (fun c r => by rw [qap (nown c b r)]; exact r) fun c xs r => by rw [qap (ntup c xs r)]; exact r
      rcases hc with rfl | hc
      · exact hbe
      · rintro rfl
        rcases he with z | z
        · exact nown c b hc z
        · rw [hc] at z; cases z; exact hb rfl
end
structure Un (fs ex : List Addr) (H H' : Hp) (h h' : Heap) : Prop where
  keep : ∀ b o, h.get? b = some o → H b = none → b ∉ fs → b ∉ ex → h'.get? b = some o
  slot : ∀ b o, h.get? b = some o → H b = none → b ∈ fs → b ∉ ex → ∃ sl, h'.get? b = some { o with slots := sl }
  free : ∀ b o, h.get? b = some o → H b = none → b ∉ ex → H' b = none
  there : ∀ b o, h.get? b = some o → b ∉ ex → ∃ o', h'.get? b = some o'
  tups : ∀ b xs, H b = some (.tup xs) → H' b = some (.tup xs)
  frzs : ∀ b o u, H b = some (.frz o u) → H' b = some (.frz o u)
  tbls : ∀ b ps, H b = some (.tbl ps) → ∃ more, H' b = some (.tbl (ps ++ more))
section
variable {fs fs' ex ex' : List Addr} {H H1 H2 : Hp} {h h1 h2 h' : Heap} {a x e : Addr} {o : HO}
theorem Un.any (u : Un fs ex H H1 h h1) {b : Addr} {ob : Obj} (q : h.get? b = some ob) (n : H b = none) (hx : b ∉ ex) : ∃ sl, h1.get? b = some { ob with slots := sl } := by
  by_cases hb : b ∈ fs
  · exact u.slot b ob q n hb hx
  · exact ⟨ob.slots, u.keep b ob q n hb hx⟩
theorem Un.trans (a : Un fs ex H H1 h h1) (b : Un fs ex H1 H2 h1 h2) : Un fs ex H H2 h h2 where
  keep := fun c ob q n hc hx => b.keep c ob (a.keep c ob q n hc hx) (a.free c ob q n hx) hc hx
  slot := fun c ob q n hc hx => by
    obtain ⟨sl, e1⟩ := a.slot c ob q n hc hx
    obtain ⟨sl', e2⟩ := b.slot c _ e1 (a.free c ob q n hx) hc hx
    exact ⟨sl', e2⟩
  free := fun c ob q n hx => by
    obtain ⟨o', e1⟩ := a.there c ob q hx
    exact b.free c o' e1 (a.free c ob q n hx) hx
  there := fun c ob q hx => by
    obtain ⟨o', e1⟩ := a.there c ob q hx
    exact b.there c o' e1 hx
  tups := fun c xs q => b.tups c xs (a.tups c xs q)
  frzs := fun c ob xs q => b.frzs c ob xs (a.frzs c ob xs q)
  tbls := fun c ps q => by
    obtain ⟨m1, e1⟩ := a.tbls c ps q
    obtain ⟨m2, e2⟩ := b.tbls c _ e1
    exact ⟨m1 ++ m2, by rw [e2, Array.append_assoc]⟩
theorem Un.kept (k : ∀ b u, h.get? b = some u → h'.get? b = some u) : Un fs ex H H h h' :=
  ⟨fun b ob q _ _ _ => k b ob q, fun b ob q _ _ _ => ⟨ob.slots, k b ob q⟩, fun _ _ _ n _ => n, fun b ob q _ => ⟨ob, k b ob q⟩, fun _ _ q => q, fun _ _ _ q => q, fun _ ps q => ⟨#[], by rw [q]; simp⟩⟩
theorem Un.refl : Un fs ex H H h h := Un.kept fun _ _ q => q
theorem Un.laid (k : ∀ b u, h.get? b = some u → h'.get? b = some u) (hp : h.objs.size ≤ a) (hn : H a = none) : Un fs ex H (upd H a o) h h' where
  keep := fun b u q _ _ _ => k b u q
  slot := fun b u q _ _ _ => ⟨u.slots, k b u q⟩
  free := fun b u q n _ => by rw [qap (Nat.ne_of_lt (Nat.lt_of_lt_of_le (Heap.lt_size q) hp))]; exact n
  there := fun b u q _ => ⟨u, k b u q⟩
  tups := fun b xs q => by rw [qap (qam q hn)]; exact q
  frzs := fun b u xs q => by rw [qap (qam q hn)]; exact q
  tbls := fun b ps q => ⟨#[], by rw [qap (qam q hn), q]; simp⟩
theorem Un.write (mu : Mut (H x)) (he : e = x ∨ H e = some (.own x)) (k : ∀ b u, b ≠ e → h.get? b = some u → h'.get? b = some u) (heo : ∃ u, h'.get? e = some u) : Un fs ex H (upd H x o) h h' := by
  have hx : ∀ b, H b = none → b ≠ x := fun b n z => by subst z; rw [n] at mu; exact mu
  have hb : ∀ b, H b = none → b ≠ e := fun b n z => by
    subst z
    rcases he with r | r
    · exact hx b n r
    · rw [n] at r; cases r
  have hm : ∀ b u, H b = some u → ¬ Mut (some u) → b ≠ x := fun b u q nm z => by subst z; rw [q] at mu; exact nm mu
  refine ⟨fun b u q n _ _ => k b u (hb b n) q, fun b u q n _ _ => ⟨u.slots, k b u (hb b n) q⟩, fun b u q n _ => by rw [qap (hx b n)]; exact n, fun b u q _ => ?_,
    fun b xs q => by rw [qap (hm b _ q fun z => z)]; exact q, fun b u xs q => by rw [qap (hm b _ q fun z => z)]; exact q, fun b ps q => ⟨#[], by rw [qap (hm b _ q fun z => z), q]; simp⟩⟩
  by_cases hbe : b = e
  · subst hbe; exact heo
  · exact ⟨u, k b u hbe q⟩
theorem Un.mono (u : Un fs ex H H1 h h1) (hs : ∀ b ∈ fs, b ∈ fs') (hx : ∀ b ∈ ex, b ∈ ex') : Un fs' ex' H H1 h h1 :=
  ⟨fun b ob q n hb he => u.keep b ob q n (fun z => hb (hs b z)) fun z => he (hx b z), fun _ _ q n _ he => u.any q n fun z => he (hx _ z), fun b ob q n he => u.free b ob q n fun z => he (hx b z), fun b ob q he => u.there b ob q fun z => he (hx b z), u.tups, u.frzs, u.tbls⟩
end
noncomputable def trk (h : Heap) (H : Hp) : List Addr := (List.range h.objs.size).filter fun a => (H a).isSome
noncomputable def qey (h : Heap) (H : Hp) : Heap := PySem.W.hideAll h (trk h H)
theorem qdO (h : Heap) (H : Hp) : (qey h H).objs.size = h.objs.size := PySem.W.hideAll_size _ _
theorem qeB {h : Heap} {H : Hp} {b : Addr} {o : Obj} (e : h.get? b = some o) (n : H b = none) : (qey h H).get? b = some o :=
  PySem.W.hideAll_get _ e fun hm => by
    have q : (H b).isSome = true := (List.mem_filter.mp hm).2
    rw [n] at q; simp at q
theorem qfg {h : Heap} {H : Hp} {b : Addr} {o : Obj} (e : (qey h H).get? b = some o) : h.get? b = some o ∧ H b = none := by
  have e' : h.get? b = some o := PySem.W.of_hideAll (trk h H) e
  refine ⟨e', ?_⟩
  cases q : H b with
  | none => rfl
  | some x =>
    have hm : b ∈ trk h H := List.mem_filter.mpr ⟨List.mem_range.mpr (Heap.lt_size e'), by simp [q]⟩
    have z : (qey h H).get? b = none := PySem.W.hideAll_none (trk h H) hm
    rw [z] at e; cases e
noncomputable def qfh (g h : Heap) (L : Addr) : List (Addr × Obj) := (List.range h.objs.size).filterMap fun a => if a = L ∨ (g.get? a).isSome = true then none else (h.get? a).map fun o => (a, o)
noncomputable def rest (g h : Heap) (L d : Addr) : List (Addr × Obj) := (qfh g h L).filter fun p => decide (p.1 ≠ d)
end L2
namespace L2
open PySem PySem.Spec PyProof.Rows
structure Mod (K : PySem.W.Frag) (mg : Str → Option Value) (base : Heap) : Prop where
  kin : K.In base
  glob : base.Ns mainGlobals mg
  blt : ∃ mb, base.Ns builtinsNs mb ∧ ∀ x : Str, x ≠ "__name__" → mb x = bootBuiltins x
  nolimit : base.NoLimit
structure Cx where
  prog : Program
  w : World
  K : PySem.W.Frag
  mg : Str → Option Value
  base : Heap
  A : Around
  N : List Str
  s₀ : Shared
  H₀ : Hp
  env : Env
  outer : List Env
  stack : List Env
  ex : List Addr
  fn : Str → Bool
  calm : Bool
  pn : List (Addr × Obj)
  xe : Value → Shared → Prop
noncomputable def frs (l : List Env) : List Addr := l.filterMap (·.frame)
noncomputable abbrev Cx.fs (X : Cx) : List Addr := frs X.outer
noncomputable def Vis (sc : Scope) (x : Str) : Prop := sc.names.lookup x = some .local ∨ sc.names.lookup x = some .cell ∨ sc.names.lookup x = some .free
noncomputable def Loc (sc : Scope) (x : Str) : Prop := sc.names.lookup x = some .local ∨ sc.names.lookup x = some .cell
noncomputable def Look (env : Env) (h : Heap) (m : Str → Option Value) (x : Str) (u : Value) : Prop :=
  (env.kindOf x = some .local ∧ m x = some u) ∨ ((env.kindOf x = some .cell ∨ env.kindOf x = some .free) ∧ ∃ c, env.cells.lookup x = some c ∧ h.IsCell c (some u))
structure Cx.Ok (X : Cx) : Prop where
  mod : Mod X.K X.mg X.base
  kind : X.env.scope.kind = .function
  glob : X.env.globals = mainGlobals
  blt : X.env.builtins = builtinsNs
  above : X.s₀.heap.objs.size ≤ X.env.locals
  inj : ∀ x y c, X.env.cells.lookup x = some c → X.env.cells.lookup y = some c → x = y
  has : ∀ x, (X.env.kindOf x = some .cell ∨ X.env.kindOf x = some .free) → ∃ c, X.env.cells.lookup x = some c
  cab : ∀ x c, X.fn x = true → X.env.cells.lookup x = some c → X.s₀.heap.objs.size ≤ c
  hd : X.calm = true → X.A.handled = none
  frames : X.A.frames = some X.stack
  stk : X.stack = X.outer ∨ (X.stack = X.env :: X.outer ∧ X.env.frame = some X.env.locals)
  exf : ∀ b ∈ X.ex, b ≠ X.env.locals ∧ ∀ x c, X.env.cells.lookup x = some c → c ≠ b
  bs : ∀ b o, X.base.get? b = some o → X.s₀.heap.get? b = some o ∧ X.H₀ b = none
  bsz : X.base.objs.size ≤ X.s₀.heap.objs.size
  noex : ∀ b o, X.base.get? b = some o → b ∉ X.ex
  exfs : ∀ b ∈ X.ex, b ∉ X.fs
  funs : X.s₀.heap.FunFrames X.base X.outer
  frf : ∀ b ∈ X.fs, X.H₀ b = none
  seer : X.base.NoSeer
  tree : (model X.prog X.w).prog.given.tree = none
  plr : ∀ s : Shared, (∀ b o, X.base.get? b = some o → s.heap.get? b = some o) → PySem.PylongRoom (model X.prog X.w) X.A s
structure Inv (X : Cx) (pins : List (Addr × Obj)) (σ : List (Option V)) (H : Hp) (s : Shared) : Prop where
  ok : X.Ok
  os : s.os = X.s₀.os
  bare : AllBare s.gens
  base : Un X.fs X.ex X.H₀ H X.s₀.heap s.heap
  loc : ∃ m, s.heap.Ns X.env.locals m ∧ ∀ (i : Nat) (x : Str) (v : V), X.N[i]? = some x → σ[i]? = some (some v) → Vis X.env.scope x → ∃ u, RelV v u ∧ Look X.env s.heap m x u
  cell : ∀ x c, X.env.cells.lookup x = some c → ∃ v, s.heap.IsCell c v
  free : H X.env.locals = none
  freeC : ∀ x c, X.env.cells.lookup x = some c → H c = none
  pin : ∀ p ∈ X.pn ++ pins, s.heap.get? p.1 = some p.2 ∧ H p.1 = none ∧ p.1 ≠ X.env.locals ∧ p.1 ∉ X.fs ∧ ∀ v, p.2.data ≠ .cell v
  hok : HOk X.prog X.w H s.heap
  len : σ.length = X.N.length
section
variable {X : Cx} {pins : List (Addr × Obj)} {σ : List (Option V)} {H H' : Hp} {s : Shared} {h' : Heap}
theorem Cx.Ok.nofr (ok : X.Ok) {b : Addr} {o : Obj} (e : X.base.get? b = some o) : b ∉ X.fs := fun hb => by
  have := (ok.funs.mem hb).1
  rw [e] at this; cases this
theorem Inv.bs (I : Inv X pins σ H s) : ∀ b o, X.base.get? b = some o → s.heap.get? b = some o ∧ H b = none := fun b o e =>
  ⟨I.base.keep b o (I.ok.bs b o e).1 (I.ok.bs b o e).2 (I.ok.nofr e) (I.ok.noex b o e), I.base.free b o (I.ok.bs b o e).1 (I.ok.bs b o e).2 (I.ok.noex b o e)⟩
theorem Inv.bk (I : Inv X pins σ H s) : ∀ b o, X.base.get? b = some o → s.heap.get? b = some o := fun b o e => (I.bs b o e).1
theorem Inv.mod (I : Inv X pins σ H s) : Mod X.K X.mg X.base := I.ok.mod
theorem Inv.kIn (I : Inv X pins σ H s) : X.K.In s.heap := I.ok.mod.kin.keeps I.bk
theorem Inv.nolimit (I : Inv X pins σ H s) : s.heap.NoLimit := I.ok.mod.nolimit.keeps I.bk
theorem Inv.lt (I : Inv X pins σ H s) : X.env.locals < s.heap.objs.size := let ⟨_, hn, _⟩ := I.loc; hn.lt
theorem Inv.sz (I : Inv X pins σ H s) : X.s₀.heap.objs.size ≤ s.heap.objs.size := Nat.le_trans I.ok.above (Nat.le_of_lt I.lt)
theorem Inv.nofs (I : Inv X pins σ H s) {a : Addr} (h : s.heap.objs.size ≤ a) : a ∉ X.fs := fun hb => by
  obtain ⟨_, o, ho, _⟩ := I.ok.funs.mem hb
  exact absurd (Nat.lt_of_lt_of_le (Heap.lt_size ho) (Nat.le_trans I.sz h)) (Nat.lt_irrefl _)
theorem Inv.cne (I : Inv X pins σ H s) : ∀ x c, X.env.cells.lookup x = some c → c ≠ X.env.locals := fun x c e z => by
  obtain ⟨v, o, ho, hd⟩ := I.cell x c e
  obtain ⟨m, ⟨o', es, ep, ho', hd', _⟩, _⟩ := I.loc
  rw [z, ho'] at ho; cases ho; rw [hd'] at hd; cases hd
theorem Inv.funs (I : Inv X pins σ H s) : s.heap.FunFrames X.base X.outer := by
  have all : ∀ (l : List Env), (∀ b ∈ frs l, b ∈ X.fs) → X.s₀.heap.FunFrames X.base l → s.heap.FunFrames X.base l := by
    intro l
    induction l with
    | nil => intro _ _; trivial
    | cons env r ih =>
      intro hs hl
      obtain ⟨hk, ⟨L, o, hf, hn, ho, hd⟩, hr⟩ := hl
      have hL : L ∈ X.fs := hs L (by unfold frs; rw [List.filterMap_cons, hf]; exact List.mem_cons_self)
      obtain ⟨sl, e⟩ := I.base.slot L o ho (I.ok.frf L hL) hL fun z => I.ok.exfs L z hL
      exact ⟨hk, ⟨L, _, hf, hn, e, hd⟩, ih (fun b hb => hs b (by unfold frs; rw [List.filterMap_cons, hf]; exact List.mem_cons_of_mem _ hb)) hr⟩
  exact all X.outer (fun _ hb => hb) I.ok.funs
theorem Inv.stack (I : Inv X pins σ H s) : s.heap.FunFrames X.base X.stack := by
  rcases I.ok.stk with e | ⟨e, hf⟩
  · rw [e]; exact I.funs
  · rw [e]
    obtain ⟨m, hn, _⟩ := I.loc
    refine .cons (by rw [I.ok.kind]; decide) hf hn ?_ I.funs
    exact Heap.get?_none_of_le (Nat.le_trans I.ok.bsz I.ok.above)
theorem Inv.stkSub (I : Inv X pins σ H s) : ∀ b ∈ frs X.stack, b ∈ X.env.locals :: X.fs := fun b hb => by
  rcases I.ok.stk with e | ⟨e, hf⟩
  · rw [e] at hb; exact List.mem_cons_of_mem _ hb
  · rw [e] at hb
    unfold frs at hb
    rw [List.filterMap_cons, hf] at hb
    exact hb
theorem Inv.stkFree (I : Inv X pins σ H s) : ∀ b ∈ frs X.stack, H b = none := fun b hb => by
  rcases List.mem_cons.mp (I.stkSub b hb) with e | hb
  · rw [e]; exact I.free
  · obtain ⟨_, o, ho, _⟩ := I.ok.funs.mem hb
    exact I.base.free b o ho (I.ok.frf b hb) fun z => I.ok.exfs b z hb
theorem Inv.step {g' : Array GenState} {t' : Nat} {d' : Drawn} {ch : List Addr} (I : Inv X pins σ H s)
    (hch : ∀ b ∈ ch, (b ∈ X.ex ∨ X.s₀.heap.objs.size ≤ b) ∧ b ≠ X.env.locals ∧ (∀ x c, X.env.cells.lookup x = some c → c ≠ b) ∧ ∀ p ∈ X.pn ++ pins, p.1 ≠ b)
    (keep : ∀ b o, b ≠ X.env.locals → b ∉ X.fs → b ∉ ch → s.heap.get? b = some o → H b = none → h'.get? b = some o)
    (slot : ∀ b o, b ≠ X.env.locals → b ∈ X.fs → b ∉ ch → s.heap.get? b = some o → H b = none → ∃ sl, h'.get? b = some { o with slots := sl }) (free : ∀ b o, b ∉ ch → s.heap.get? b = some o → H b = none → H' b = none)
    (there : ∀ b o, b ∉ ch → s.heap.get? b = some o → ∃ o', h'.get? b = some o')
    (tups : ∀ b xs, H b = some (.tup xs) → H' b = some (.tup xs)) (frzs : ∀ b o u, H b = some (.frz o u) → H' b = some (.frz o u)) (tbls : ∀ b ps, H b = some (.tbl ps) → ∃ more, H' b = some (.tbl (ps ++ more)))
    (ns : ∀ m, s.heap.Ns X.env.locals m → h'.Ns X.env.locals m) (hok : HOk X.prog X.w H' h') (hg : AllBare g') :
    Inv X pins σ H' { s with heap := h', gens := g', drawn := d', toks := t' } := by
  have neL : ∀ b o, X.s₀.heap.get? b = some o → b ≠ X.env.locals := fun b o e => Nat.ne_of_lt (Nat.lt_of_lt_of_le (Heap.lt_size e) I.ok.above)
  have neC : ∀ b o, X.s₀.heap.get? b = some o → b ∉ X.ex → b ∉ ch := fun b o e hx hb => by
    rcases (hch b hb).1 with z | z
    · exact hx z
    · exact absurd (Nat.lt_of_lt_of_le (Heap.lt_size e) z) (Nat.lt_irrefl _)
  have cellK : ∀ x c, X.env.cells.lookup x = some c → ∀ v, s.heap.IsCell c v → h'.IsCell c v := fun x c e v ⟨o, ho, hd⟩ => by
    have nch : c ∉ ch := fun z => (hch c z).2.2.1 x c e rfl
    by_cases hc : c ∈ X.fs
    · obtain ⟨sl, q⟩ := slot c o (I.cne x c e) hc nch ho (I.freeC x c e)
      exact ⟨_, q, hd⟩
    · exact ⟨o, keep c o (I.cne x c e) hc nch ho (I.freeC x c e), hd⟩
  refine ⟨I.ok, I.os, hg, ⟨fun b o e n hb hx => ?_, fun b o e n hb hx => ?_, fun b o e n hx => ?_, fun b o e hx => ?_, fun b xs e => tups b xs (I.base.tups b xs e), fun b o xs e => frzs b o xs (I.base.frzs b o xs e), fun b ps e => ?_⟩, ?_, fun x c e => ?_, ?_, fun x c e => ?_, fun p hp => ?_, hok, I.len⟩
  · exact keep b o (neL b o e) hb (neC b o e hx) (I.base.keep b o e n hb hx) (I.base.free b o e n hx)
  · obtain ⟨sl, e1⟩ := I.base.slot b o e n hb hx
    obtain ⟨sl', e2⟩ := slot b _ (neL b o e) hb (neC b o e hx) e1 (I.base.free b o e n hx)
    exact ⟨sl', e2⟩
  · obtain ⟨o', e1⟩ := I.base.there b o e hx
    exact free b o' (neC b o e hx) e1 (I.base.free b o e n hx)
  · obtain ⟨o', e1⟩ := I.base.there b o e hx
    exact there b o' (neC b o e hx) e1
  · obtain ⟨m1, e1⟩ := I.base.tbls b ps e
    obtain ⟨m2, e2⟩ := tbls b _ e1
    exact ⟨m1 ++ m2, by rw [e2, Array.append_assoc]⟩
  · obtain ⟨m, hn, hl⟩ := I.loc
    refine ⟨m, ns m hn, fun i x v e1 e2 e3 => ?_⟩
    obtain ⟨u, r, l⟩ := hl i x v e1 e2 e3
    refine ⟨u, r, ?_⟩
    rcases l with l | ⟨k, c, e, z⟩
    · exact .inl l
    · exact .inr ⟨k, c, e, cellK x c e _ z⟩
  · obtain ⟨v, z⟩ := I.cell x c e
    exact ⟨v, cellK x c e v z⟩
  · obtain ⟨m, ⟨o, _, _, ho, _⟩, _⟩ := I.loc
    exact free _ o (fun z => (hch _ z).2.1 rfl) ho I.free
  · obtain ⟨v, o, ho, hd⟩ := I.cell x c e
    exact free c o (fun z => (hch c z).2.2.1 x c e rfl) ho (I.freeC x c e)
  · obtain ⟨e, n, ne, nf, d⟩ := I.pin p hp
    have nch : p.1 ∉ ch := fun z => (hch p.1 z).2.2.2 p hp rfl
    exact ⟨keep p.1 p.2 ne nf nch e n, free p.1 p.2 nch e n, ne, nf, d⟩
theorem Inv.un {t' : Nat} (I : Inv X pins σ H s) (u : Un X.fs [] H H' s.heap h') (hok : HOk X.prog X.w H' h') : Inv X pins σ H' { s with heap := h', toks := t' } := by
  obtain ⟨m, ⟨o, es, ep, ho, r⟩, _⟩ := id I.loc
  obtain ⟨sl, hL⟩ := u.any ho I.free (by simp)
  exact I.step (g' := s.gens) (d' := s.drawn) (ch := []) (fun _ z => nomatch z) (fun b o _ hb _ e n => u.keep b o e n hb (by simp)) (fun b o _ hb _ e n => u.slot b o e n hb (by simp)) (fun b o _ e n => u.free b o e n (by simp)) (fun b o _ e => u.there b o e (by simp)) u.tups u.frzs u.tbls (fun m' hm => by
    obtain ⟨o', es', ep', ho', r'⟩ := hm
    rw [ho] at ho'; cases ho'
    exact ⟨_, es', ep', hL, r'⟩) hok I.bare
theorem Inv.call {g' : Array GenState} {t' : Nat} {d' : Drawn} {ch : List Addr} (I : Inv X pins σ H s) (u : Un (frs X.stack) ch H H' s.heap h') (hok : HOk X.prog X.w H' h') (hg : AllBare g')
    (hch : ∀ b ∈ ch, (b ∈ X.ex ∨ X.s₀.heap.objs.size ≤ b) ∧ b ≠ X.env.locals ∧ (∀ x c, X.env.cells.lookup x = some c → c ≠ b) ∧ ∀ p ∈ X.pn ++ pins, p.1 ≠ b) :
    Inv X pins σ H' { s with heap := h', gens := g', drawn := d', toks := t' } := by
  obtain ⟨m, ⟨o, es, ep, ho, r⟩, _⟩ := id I.loc
  obtain ⟨sl, hL⟩ := u.any ho I.free fun z => (hch _ z).2.1 rfl
  exact I.step (ch := ch) hch (fun b o hL hb hc e n => u.keep b o e n (fun z => (List.mem_cons.mp (I.stkSub b z)).elim hL hb) hc) (fun b o _ _ hc e n => u.any e n hc) (fun b o hc e n => u.free b o e n hc) (fun b o hc e => u.there b o e hc) u.tups u.frzs u.tbls (fun m' hm => by
    obtain ⟨o', es', ep', ho', r'⟩ := hm
    rw [ho] at ho'; cases ho'
    exact ⟨_, es', ep', hL, r'⟩) hok hg
theorem Inv.turned {t' : Nat} {it : Addr} (I : Inv X pins σ H s) (k : ∀ b o, b ≠ it → s.heap.get? b = some o → h'.get? b = some o) (hn : H it = none) (hL : it ≠ X.env.locals)
    (h1 : it ∈ X.ex ∨ X.s₀.heap.objs.size ≤ it) (h2 : ∀ x c, X.env.cells.lookup x = some c → c ≠ it) (h3 : ∀ p ∈ X.pn ++ pins, p.1 ≠ it) : Inv X pins σ H { s with heap := h', toks := t' } := by
  have nit : ∀ b u, H b = some u → b ≠ it := fun b u e z => by rw [z, hn] at e; cases e
  refine I.step (g' := s.gens) (d' := s.drawn) (ch := [it]) (fun b hb => ?_) (fun b o _ _ hc e _ => k b o (fun z => hc (by simp [z])) e) (fun b o _ _ hc e _ => ⟨o.slots, k b o (fun z => hc (by simp [z])) e⟩) (fun _ _ _ _ n => n)
    (fun b o hc e => ⟨o, k b o (fun z => hc (by simp [z])) e⟩) (fun _ _ e => e) (fun _ _ _ e => e) (fun b ps e => ⟨#[], by rw [e]; simp⟩) (fun m hm => ?_) (fun b u e => ?_) I.bare
  · have e : b = it := by simpa using hb
    subst e
    exact ⟨h1, hL, h2, h3⟩
  · obtain ⟨o, es, ep, ho, r⟩ := hm
    exact ⟨o, es, ep, k _ o (Ne.symm hL) ho, r⟩
  · refine (I.hok b u e).stay (fun c v hc q => k c v ?_ q) (fun _ q => q) fun _ _ q => q
    rcases hc with z | z
    · rw [z]; exact nit b u e
    · exact nit c _ z
theorem Inv.tok (I : Inv X pins σ H s) (t : Nat) : Inv X pins σ H { s with toks := t } := I.un (h' := s.heap) (t' := t) Un.refl I.hok
theorem Inv.kept {t' : Nat} (I : Inv X pins σ H s) (k : ∀ b u, s.heap.get? b = some u → h'.get? b = some u) : Inv X pins σ H { s with heap := h', toks := t' } := I.un (Un.kept k) (I.hok.kept k)
theorem Inv.laid {a : Addr} {o : HO} {t' : Nat} (I : Inv X pins σ H s) (k : ∀ b u, s.heap.get? b = some u → h'.get? b = some u) (hp : s.heap.objs.size ≤ a) (new : ObjOk X.prog X.w (upd H a o) h' a o) :
    Inv X pins σ (upd H a o) { s with heap := h', toks := t' } := I.un (Un.laid k hp (I.hok.fresh hp)) (I.hok.laid k hp new)
theorem Inv.write {x e : Addr} {o : HO} {t' : Nat} (I : Inv X pins σ H s) (mu : Mut (H x)) (he : e = x ∨ H e = some (.own x)) (k : ∀ b u, b ≠ e → s.heap.get? b = some u → h'.get? b = some u) (heo : ∃ u, h'.get? e = some u)
    (new : ObjOk X.prog X.w (upd H x o) h' x o) : Inv X pins σ (upd H x o) { s with heap := h', toks := t' } := I.un (Un.write mu he k heo) (I.hok.write mu he k heo new)
theorem Inv.pins_of {pins' : List (Addr × Obj)} (I : Inv X pins σ H s) (h : ∀ p ∈ pins', s.heap.get? p.1 = some p.2 ∧ H p.1 = none ∧ p.1 ≠ X.env.locals ∧ p.1 ∉ X.fs ∧ ∀ v, p.2.data ≠ .cell v) : Inv X pins' σ H s :=
  ⟨I.ok, I.os, I.bare, I.base, I.loc, I.cell, I.free, I.freeC, fun p hp => (List.mem_append.mp hp).elim (fun z => I.pin p (List.mem_append_left _ z)) (h p), I.hok, I.len⟩
theorem qc0 {N : List Str} (hN : N.Nodup) {i j : Nat} {x : Str} (a : N[i]? = some x) (b : N[j]? = some x) : i = j := by
  obtain ⟨h1, e1⟩ := List.getElem?_eq_some_iff.mp a
  obtain ⟨h2, e2⟩ := List.getElem?_eq_some_iff.mp b
  exact (List.getElem_inj hN).mp (e1.trans e2.symm)
theorem qdP {M : Model} {A : Around} {E : Value → Shared → Prop} {i : Nat} {x : Str} {v : V} {u : Value} {Q : Unit → Shared → Prop} (I : Inv X pins σ H s) (hN : X.N.Nodup) (hi : X.N[i]? = some x) (hx : Loc X.env.scope x) (r : RelV v u)
    (h : ∀ s', Inv X pins (σ.set i (some v)) H s' → (∃ a, Heap.SameBut a s.heap s'.heap ∧ (a = X.env.locals ∨ X.env.cells.lookup x = some a)) → Q () s') (hf : X.fn x = true ∨ X.env.scope.names.lookup x = some .local := by first | exact .inl rfl | exact .inr rfl | assumption) : wpAny M A (storeName X.env x u) Q E s := by
  obtain ⟨m, hn, hl⟩ := id I.loc
  have hcls : (X.env.scope.kind == .class || (X.env.scope.kind == .module && X.env.locals != X.env.globals)) = false := by rw [I.ok.kind]; rfl
  have hiσ : i < σ.length := by rw [I.len]; exact (List.getElem?_eq_some_iff.mp hi).1
  have cne := I.cne
  have tracked : ∀ {a : Addr} {h' : Heap}, (∃ o, s.heap.get? a = some o ∧ H a = none) → Heap.SameBut a s.heap h' → HOk X.prog X.w H h' := fun {a h'} ha hs b ob e => by
    obtain ⟨_, _, hfree⟩ := ha
    refine (I.hok b ob e).stay (fun c w' hc q => (hs.2 c ?_).trans q) (fun _ q => q) fun _ _ q => q
    rintro rfl
    rcases hc with rfl | hc
    · rw [hfree] at e; cases e
    · rw [hfree] at hc; cases hc
  rcases hx with hk | hk
  · refine wpAny_storeName_local hk hn (fun h' hn' hs => ?_) hcls
    obtain ⟨oL, _, _, hoL, _⟩ := id hn
    refine h _ ⟨I.ok, I.os, I.bare, ⟨fun b o e n hb hx => ?_, fun b o e n hb hx => ?_, I.base.free, fun b o e hx => ?_, I.base.tups, I.base.frzs, I.base.tbls⟩, ⟨_, hn', fun j y v' e1 e2 e3 => ?_⟩, fun y c e => ?_, I.free, I.freeC, fun p hp => ?_, tracked ⟨oL, hoL, I.free⟩ hs, by simpa using I.len⟩ ⟨_, hs, .inl rfl⟩
    · exact (hs.2 b (Nat.ne_of_lt (Nat.lt_of_lt_of_le (Heap.lt_size e) I.ok.above))).trans (I.base.keep b o e n hb hx)
    · obtain ⟨sl, e1⟩ := I.base.slot b o e n hb hx
      exact ⟨sl, (hs.2 b (Nat.ne_of_lt (Nat.lt_of_lt_of_le (Heap.lt_size e) I.ok.above))).trans e1⟩
    · obtain ⟨o', e1⟩ := I.base.there b o e hx
      exact ⟨o', (hs.2 b (Nat.ne_of_lt (Nat.lt_of_lt_of_le (Heap.lt_size e) I.ok.above))).trans e1⟩
    · by_cases hj : j = i
      · subst hj
        rw [hi] at e1; cases e1
        rw [List.getElem?_set_self hiσ] at e2
        cases e2
        exact ⟨u, r, .inl ⟨hk, by simp⟩⟩
      · rw [List.getElem?_set_ne (Ne.symm hj)] at e2
        obtain ⟨u', r', q⟩ := hl j y v' e1 e2 e3
        refine ⟨u', r', ?_⟩
        rcases q with ⟨k, e⟩ | ⟨k, c, e, z⟩
        · refine .inl ⟨k, ?_⟩
          have : y ≠ x := fun e => hj (qc0 hN e1 (e ▸ hi))
          simp [this, e]
        · exact .inr ⟨k, c, e, z.sameBut hs (cne y c e)⟩
    · obtain ⟨w', z⟩ := I.cell y c e
      exact ⟨w', z.sameBut hs (cne y c e)⟩
    · obtain ⟨e, n, ne, nf, d⟩ := I.pin p hp
      exact ⟨(hs.2 p.1 ne).trans e, n, ne, nf, d⟩
  · have hfn : X.fn x = true := by
      rcases hf with z | z
      · exact z
      · rw [z] at hk; cases hk
    obtain ⟨c, hc⟩ := I.ok.has x (.inl hk)
    obtain ⟨w', z⟩ := I.cell x c hc
    refine wpAny_storeName_cell I.ok.kind hk hc z (fun h' hc' hs => ?_)
    obtain ⟨oc, hoc, hocd⟩ := id z
    refine h { s with heap := h' } ⟨I.ok, I.os, I.bare, ⟨fun b o e n hb hx => ?_, fun b o e n hb hx => ?_, I.base.free, fun b o e hx => ?_, I.base.tups, I.base.frzs, I.base.tbls⟩, ⟨m, hn.sameBut hs (Ne.symm (cne x c hc)), fun j y v' e1 e2 e3 => ?_⟩, fun y c' e => ?_, I.free, I.freeC, fun p hp => ?_, tracked ⟨oc, hoc, I.freeC x c hc⟩ hs, by simpa using I.len⟩ ⟨c, hs, .inr hc⟩
    · exact (hs.2 b (Nat.ne_of_lt (Nat.lt_of_lt_of_le (Heap.lt_size e) (I.ok.cab x c hfn hc)))).trans (I.base.keep b o e n hb hx)
    · obtain ⟨sl, e1⟩ := I.base.slot b o e n hb hx
      exact ⟨sl, (hs.2 b (Nat.ne_of_lt (Nat.lt_of_lt_of_le (Heap.lt_size e) (I.ok.cab x c hfn hc)))).trans e1⟩
    · obtain ⟨o', e1⟩ := I.base.there b o e hx
      exact ⟨o', (hs.2 b (Nat.ne_of_lt (Nat.lt_of_lt_of_le (Heap.lt_size e) (I.ok.cab x c hfn hc)))).trans e1⟩
    · by_cases hj : j = i
      · subst hj
        rw [hi] at e1; cases e1
        rw [List.getElem?_set_self hiσ] at e2
        cases e2
        exact ⟨u, r, .inr ⟨.inl hk, c, hc, hc'⟩⟩
      · rw [List.getElem?_set_ne (Ne.symm hj)] at e2
        obtain ⟨u', r', q⟩ := hl j y v' e1 e2 e3
        refine ⟨u', r', ?_⟩
        rcases q with q | ⟨k, c', e, z'⟩
        · exact .inl q
        · refine .inr ⟨k, c', e, z'.sameBut hs ?_⟩
          rintro rfl
          exact hj (qc0 hN e1 (I.ok.inj _ _ _ e hc ▸ hi))
    · by_cases hcc : c' = c
      · subst hcc; exact ⟨_, hc'⟩
      · obtain ⟨w2, z2⟩ := I.cell y c' e
        exact ⟨w2, z2.sameBut hs hcc⟩
    · obtain ⟨e, n, ne, nf, d⟩ := I.pin p hp
      refine ⟨(hs.2 p.1 ?_).trans e, n, ne, nf, d⟩
      intro q
      rw [q, hoc] at e
      have q' : oc = p.2 := Option.some.inj e
      exact d w' (by rw [← q']; exact hocd)
theorem qbk {M : Model} {A : Around} {E : Value → Shared → Prop} {i : Nat} {x : Str} {v : V} {u : Value} {Q : Unit → Shared → Prop} (I : Inv X pins σ H s) (hN : X.N.Nodup) (hi : X.N[i]? = some x) (hx : Loc X.env.scope x) (r : RelV v u)
    (h : ∀ s', Inv X pins (σ.set i (some v)) H s' → Q () s') (hf : X.fn x = true ∨ X.env.scope.names.lookup x = some .local := by first | exact .inl rfl | exact .inr rfl | assumption) : wpAny M A (storeName X.env x u) Q E s :=
  qdP I hN hi hx r (fun s' I' _ => h s' I') hf
theorem Inv.call' {s' : Shared} {ch : List Addr} (I : Inv X pins σ H s) (ho : s'.os = s.os) (u : Un (frs X.stack) ch H H' s.heap s'.heap) (hok : HOk X.prog X.w H' s'.heap) (hg : AllBare s'.gens)
    (hch : ∀ b ∈ ch, (b ∈ X.ex ∨ X.s₀.heap.objs.size ≤ b) ∧ b ≠ X.env.locals ∧ (∀ x c, X.env.cells.lookup x = some c → c ≠ b) ∧ ∀ p ∈ X.pn ++ pins, p.1 ≠ b) : Inv X pins σ H' s' := by
  obtain ⟨h', g', d', t', o'⟩ := s'
  have e : o' = s.os := ho
  subst e
  exact I.call (g' := g') (t' := t') (d' := d') u hok hg hch
end
noncomputable abbrev XK := Value → Option Addr → Hp → Prop
noncomputable abbrev St := List (Option V)
noncomputable abbrev VK := V → Hp → Prop
noncomputable abbrev TE := St → Hp → VK → Prop
noncomputable abbrev TT := St → Hp → (Bool → Hp → Prop) → Prop
noncomputable abbrev TA := St → Hp → (List V → Hp → Prop) → Prop
structure Ends where
  nx : St → Hp → Prop
  rt : VK
  bk : St → Hp → Prop := fun _ _ => False
  ct : St → Hp → Prop := fun _ _ => False
noncomputable abbrev TS := Ends → St → Hp → Prop
noncomputable def EP (X : Cx) (pins : List (Addr × Obj)) (σ : St) (Q : VK) (u : Value) (s' : Shared) : Prop := ∃ v H', Inv X pins σ H' s' ∧ RelV v u ∧ Q v H'
noncomputable def TP (X : Cx) (pins : List (Addr × Obj)) (σ : St) (Q : Bool → Hp → Prop) (b : Bool) (s' : Shared) : Prop := ∃ H', Inv X pins σ H' s' ∧ Q b H'
noncomputable def AP (X : Cx) (pins : List (Addr × Obj)) (σ : St) (Q : List V → Hp → Prop) (us : List Value) (s' : Shared) : Prop := ∃ vs H', Inv X pins σ H' s' ∧ Vals vs us ∧ Q vs H'
noncomputable def SP (X : Cx) (pins : List (Addr × Obj)) (D : Ends) (f : Flow) (s' : Shared) : Prop :=
  match f with
  | .next => ∃ σ' H', Inv X pins σ' H' s' ∧ D.nx σ' H'
  | .brk => ∃ σ' H', Inv X pins σ' H' s' ∧ D.bk σ' H'
  | .cont => ∃ σ' H', Inv X pins σ' H' s' ∧ D.ct σ' H'
  | .ret u => ∃ v σ' H', Inv X pins σ' H' s' ∧ RelV v u ∧ D.rt v H'
noncomputable def PE (X : Cx) (e : Expr) (t : TE) : Prop :=
  ∀ (pins : List (Addr × Obj)) (s : Shared) (σ : St) (H : Hp) (Q : VK), Inv X pins σ H s → t σ H Q → wpAny (model X.prog X.w) X.A (eval e X.env) (EP X pins σ Q) X.xe s
noncomputable def PT (X : Cx) (e : Expr) (t : TT) : Prop :=
  ∀ (pins : List (Addr × Obj)) (s : Shared) (σ : St) (H : Hp) (Q : Bool → Hp → Prop), Inv X pins σ H s → t σ H Q → wpAny (model X.prog X.w) X.A (isTrue e X.env (eval e X.env)) (TP X pins σ Q) X.xe s
noncomputable def PW (X : Cx) (e : Expr) (t : TT) : Prop :=
  ∀ (whole : Sem Value) (pins : List (Addr × Obj)) (s : Shared) (σ : St) (H : Hp) (Q : Bool → Hp → Prop), Inv X pins σ H s → t σ H Q → wpAny (model X.prog X.w) X.A (isTrue e X.env whole) (TP X pins σ Q) X.xe s
theorem PW.pt {X : Cx} {e : Expr} {t : TT} (h : PW X e t) : PT X e t := h _
noncomputable def PA (X : Cx) (es : List Expr) (t : TA) : Prop :=
  ∀ (pos : Pos) (pins : List (Addr × Obj)) (s : Shared) (σ : St) (H : Hp) (Q : List V → Hp → Prop), Inv X pins σ H s → t σ H Q → wpAny (model X.prog X.w) X.A (spliced (backTo pos (starEach es X.env))) (AP X pins σ Q) X.xe s
noncomputable def PS (X : Cx) (st : Stmt) (t : TS) : Prop :=
  ∀ (pins : List (Addr × Obj)) (s : Shared) (σ : St) (H : Hp) (D : Ends), Inv X pins σ H s → t D σ H → wpAny (model X.prog X.w) X.A (exec st X.env) (SP X pins D) X.xe s
noncomputable def PSs (X : Cx) (st : List Stmt) (t : TS) : Prop :=
  ∀ (pins : List (Addr × Obj)) (s : Shared) (σ : St) (H : Hp) (D : Ends), Inv X pins σ H s → t D σ H → wpAny (model X.prog X.w) X.A (execs st X.env) (SP X pins D) X.xe s
theorem thn {α : Type} {t : Sem α} {Q Q' : α → Shared → Prop} {M : Model} {A : Around} {E : Value → Shared → Prop} {s : Shared} (h : wpAny M A t Q E s) (hQ : ∀ a s, Q a s → Q' a s) : wpAny M A t Q' E s := wpAny_mono h hQ fun _ _ x => x
end L2
namespace L2
open PySem PySem.Spec PyProof.Rows
section
variable {X : Cx}
noncomputable def qah (i : Nat) : TE := fun σ H Q => ∃ v, σ[i]? = some (some v) ∧ Q v H
noncomputable def tC (v : V) : TE := fun _ H Q => Q v H
theorem qf5 {i : Nat} {x : Str} {pos : Pos} (hN : X.N[i]? = some x) (hv : Vis X.env.scope x) (hd : (x == ("__debug__" : Str)) = false := by decide) (hcd : (x == ("__classdict__" : Str)) = false := by decide) : PE X (.Name x pos) (qah i) := by
  intro pins s σ H Q I h
  obtain ⟨v, e, h⟩ := h
  obtain ⟨m, hn, hl⟩ := I.loc
  obtain ⟨u, r, l⟩ := hl i x v hN e hv
  have fin : EP X pins σ Q u s := ⟨v, H, I, r, h⟩
  rcases l with ⟨hk, hm⟩ | ⟨hk, c, hc, hcell⟩
  · exact wpAny_Name (wpAny_loadName_local I.ok.kind hk hn hm fin) hd
  · rcases hk with hk | hk
    · exact wpAny_Name (wpAny_loadName_cell I.ok.kind hk hc hcell fin) hd
    · exact wpAny_Name (wpAny_loadName_free I.ok.kind hk hc hcell fin hcd) hd
theorem qab {i j pos} : PE X (.Constant (.int i) j pos) (tC (.int i)) := fun _ _ _ H _ I h => wpAny_Constant_int ⟨.int i, H, I.tok _, ⟨_, rfl⟩, h⟩
theorem qf6 {b j pos} : PE X (.Constant (.bool b) j pos) (tC (.bl b)) := fun _ _ _ H _ I h => Constant_bool ⟨.bl b, H, I, rfl, h⟩
theorem qaH {x j pos} : PE X (.Constant (.str x) j pos) (tC (.str x)) := fun _ _ _ H _ I h => Calls.Constant_str ⟨.str x, H, I.tok _, ⟨_, rfl⟩, h⟩
noncomputable def Gl (X : Cx) (x : Str) : Prop := X.env.kindOf x = some .globalImplicit
theorem qdQ {E : Value → Shared → Prop} {pins : List (Addr × Obj)} {s : Shared} {σ : St} {H : Hp} {x : Str} {u : Value} {pos : Pos} {Q : Value → Shared → Prop} (I : Inv X pins σ H s) (hg : Gl X x) (hm : X.mg x = some u) (h : Q u s)
    (hd : (x == ("__debug__" : Str)) = false := by decide) : wpAny (model X.prog X.w) X.A (eval (.Name x pos) X.env) Q E s :=
  Calls.Name_function_global I.ok.kind hg (Calls.loadGlobal_global (by rw [I.ok.glob]; exact I.mod.glob.keeps I.bk) hm h) hd
theorem qck {E : Value → Shared → Prop} {pins : List (Addr × Obj)} {s : Shared} {σ : St} {H : Hp} {x : Str} {u : Value} {pos : Pos} {Q : Value → Shared → Prop} (I : Inv X pins σ H s) (hg : Gl X x) (hm : X.mg x = none) (hv : bootBuiltins x = some u) (h : Q u s)
    (hn : x ≠ "__name__" := by decide) (hd : (x == ("__debug__" : Str)) = false := by decide) : wpAny (model X.prog X.w) X.A (eval (.Name x pos) X.env) Q E s := by
  obtain ⟨mb, h1, h2⟩ := I.mod.blt
  exact Calls.Name_function_global I.ok.kind hg (Calls.loadGlobal_builtin (by rw [I.ok.glob]; exact I.mod.glob.keeps I.bk) hm (by rw [I.ok.blt]; exact h1.keeps I.bk) ((h2 x hn).trans hv) h) hd
theorem qfi {x : Str} {v : V} {u : Value} {pos : Pos} (hg : Gl X x) (hm : X.mg x = some u) (r : RelV v u) (hd : (x == ("__debug__" : Str)) = false := by decide) : PE X (.Name x pos) (tC v) :=
  fun _ _ _ H _ I h => qdQ I hg hm ⟨v, H, I, r, h⟩ hd
theorem qfj {x : Str} {v : V} {u : Value} {pos : Pos} (hg : Gl X x) (hm : X.mg x = none) (hv : bootBuiltins x = some u) (r : RelV v u) (hn : x ≠ "__name__" := by decide) (hd : (x == ("__debug__" : Str)) = false := by decide) : PE X (.Name x pos) (tC v) :=
  fun _ _ _ H _ I h => qck I hg hm hv ⟨v, H, I, r, h⟩ hn hd
variable {a b : Expr} {ta tb : TE} {pos : Pos}
noncomputable def tB (t : TE) : TT := fun σ H Q => t σ H fun x H1 => ∃ c, x = .bl c ∧ Q c H1
theorem qdR {e : Expr} {t : TE} (h : PE X e t) (he : ∀ whole, isTrue e X.env whole = (do let v ← whole; standAt e.pos; holding [v] (truthy v)) := by intro _; rfl) : PT X e (tB t) := by
  intro pins s σ H Q I hw
  refine isTrue_plain (thn (h pins s σ H _ I hw) fun v s1 ⟨x, H1, I1, r1, q1⟩ => ?_) (he _)
  obtain ⟨d, rfl, q⟩ := q1
  cases r1
  exact wpAny_truthy_bool ⟨H1, I1, q⟩
variable {tA tB' : TT} {rest : List Expr}
noncomputable def qf7 (t u : TT) : TT := fun σ H Q => t σ H fun c H1 => if c = true then u σ H1 Q else Q false H1
noncomputable def tOr (t u : TT) : TT := fun σ H Q => t σ H fun c H1 => if c = true then Q true H1 else u σ H1 Q
noncomputable def qgG (t : TT) : TT := fun σ H Q => t σ H fun c H1 => Q (!c) H1
theorem qcG (ha : PT X a tA) : PW X (.BoolOp .And [a] pos) tA := by
  intro wh pins s σ H Q I h
  refine isTrue_and (thn (ha pins s σ H Q I h) fun c s1 e => ?_)
  cases c with
  | true => exact isTrue_and_nil e
  | false => exact e
theorem qf8 (ha : PT X a tA) : PW X (.BoolOp .Or [a] pos) tA := by
  intro wh pins s σ H Q I h
  refine isTrue_or (thn (ha pins s σ H Q I h) fun c s1 e => ?_)
  cases c with
  | false => exact isTrue_or_nil e
  | true => exact e
theorem qdS (ha : PT X a tA) (hb : PW X (.BoolOp .And (b :: rest) pos) tB') : PW X (.BoolOp .And (a :: b :: rest) pos) (qf7 tA tB') := by
  intro wh pins s σ H Q I h
  refine isTrue_and (thn (ha pins s σ H _ I h) fun c s1 ⟨H1, I1, q1⟩ => ?_)
  cases c with
  | true => exact hb wh pins s1 σ H1 Q I1 q1
  | false => exact ⟨H1, I1, q1⟩
theorem qgH (ha : PT X a tA) (hb : PW X (.BoolOp .Or (b :: rest) pos) tB') : PW X (.BoolOp .Or (a :: b :: rest) pos) (tOr tA tB') := by
  intro wh pins s σ H Q I h
  refine isTrue_or (thn (ha pins s σ H _ I h) fun c s1 ⟨H1, I1, q1⟩ => ?_)
  cases c with
  | true => exact ⟨H1, I1, q1⟩
  | false => exact hb wh pins s1 σ H1 Q I1 q1
theorem qf9 (ha : PT X a tA) : PT X (.UnaryOp .Not a pos) (qgG tA) := by
  intro pins s σ H Q I h
  exact isTrue_not (ha pins s σ H (fun c H1 => Q (!c) H1) I h)
noncomputable def qfk (ta tb : TE) : TE := fun σ H Q => ta σ H fun x H1 => ∃ c, x = .bl c ∧ if c = true then tb σ H1 Q else Q (.bl false) H1
noncomputable def qg6 (ta tb : TE) : TE := fun σ H Q => ta σ H fun x H1 => ∃ c, x = .bl c ∧ if c = true then Q (.bl true) H1 else tb σ H1 Q
noncomputable def qgI (ta : TE) : TE := fun σ H Q => ta σ H fun x H1 => ∃ c, x = .bl c ∧ Q (.bl (!c)) H1
theorem qga {op} {t : TE} (h : PE X a t) : PE X (.BoolOp op [a] pos) t := fun pins s σ H Q I hw => BoolOp_one (h pins s σ H Q I hw)
theorem qgb (ha : PE X a ta) (hb : PE X (.BoolOp .And (b :: rest) pos) tb) : PE X (.BoolOp .And (a :: b :: rest) pos) (qfk ta tb) := by
  intro pins s σ H Q I h
  refine BoolOp_and (thn (ha pins s σ H _ I h) fun v s1 ⟨x, H1, I1, r1, q1⟩ => ?_)
  obtain ⟨c, rfl, q1⟩ := q1
  cases r1
  refine wpAny_truthy_bool ?_
  cases c with
  | true => exact hb pins s1 σ H1 Q I1 q1
  | false => exact ⟨.bl false, H1, I1, rfl, q1⟩
noncomputable def tIf (t : TT) (ta tb : TE) : TE := fun σ H Q => t σ H fun c H1 => if c = true then ta σ H1 Q else tb σ H1 Q
theorem qbl {c : Expr} (hc : PT X c tA) (ha : PE X a ta) (hb : PE X b tb) : PE X (.IfExp c a b pos) (tIf tA ta tb) := by
  intro pins s σ H Q I h
  refine wpAny_IfExp (thn (hc pins s σ H _ I h) fun d s1 ⟨H1, I1, q1⟩ => ?_)
  cases d with
  | true => exact ha pins s1 σ H1 Q I1 q1
  | false => exact hb pins s1 σ H1 Q I1 q1
end
end L2
namespace L2
open PySem PySem.Spec PyProof.Rows
noncomputable def SqL (K : PySem.W.Frag) (H : Hp) (a : Addr) (xs : List V) : Prop :=
  Rd H a (.lst xs) ∨
    ∃ (o : Obj) (its : Array Value) (n : Nat), K.lookup a = some o ∧ o.cls = .type "list" ∧ o.dict = none ∧ o.data = .seq its n ∧ its.size ≤ sizeLine ∧ Vals xs its.toList
noncomputable def SqT (K : PySem.W.Frag) (H : Hp) (a : Addr) (xs : List V) : Prop :=
  Rd H a (.tup xs) ∨
    ∃ (o : Obj) (its : Array Value) (n : Nat), K.lookup a = some o ∧ o.cls = .type "tuple" ∧ o.data = .seq its n ∧ its.size ≤ sizeLine ∧ Vals xs its.toList
noncomputable def qg7 : Value → Option V
  | .none => some .non
  | .bool b => some (.bl b)
  | .int i _ => some (.int i)
  | .str x _ => some (.str x)
  | .bytes b _ => some (.byt b)
  | .float b _ => some (.flt b)
  | .ref a => some (.ref a)
  | .type n => some (.ty n)
  | _ => none
theorem RelV.abs {x : V} {u : Value} (r : RelV x u) : qg7 u = some x := by
  cases x with
  | non => cases r; rfl
  | bl _ => cases r; rfl
  | int _ => obtain ⟨t, rfl⟩ := r; rfl
  | str _ => obtain ⟨t, rfl⟩ := r; rfl
  | byt _ => obtain ⟨t, rfl⟩ := r; rfl
  | flt _ => obtain ⟨t, rfl⟩ := r; rfl
  | ref _ => cases r; rfl
  | ty _ => cases r; rfl
theorem RelV.inj {x y : V} {u : Value} (r : RelV x u) (q : RelV y u) : x = y := Option.some.inj (r.abs.symm.trans q.abs)
theorem Vals.inj : ∀ {xs ys : List V} {us : List Value}, Vals xs us → Vals ys us → xs = ys
  | _, _, _, .nil, .nil => rfl
  | _, _, _, .cons r t, .cons r' t' => by rw [r.inj r', Vals.inj t t']
section
variable {X : Cx} {pins : List (Addr × Obj)} {σ : St} {H : Hp} {s : Shared} {a : Addr} {xs ys : List V}
theorem SqL.of {K : PySem.W.Frag} (h : H a = some (.lst xs)) : SqL K H a xs := .inl (.inl h)
theorem SqT.of {K : PySem.W.Frag} (h : H a = some (.tup xs)) : SqT K H a xs := .inl (.inl h)
theorem Inv.list (I : Inv X pins σ H s) (h : SqL X.K H a xs) : ∃ its : List Value, Vals xs its ∧ PlainL s.heap a its.toArray ∧ xs.length ≤ sizeLine := by
  rcases h with h | ⟨o, its, n, hk, hc, hd, hs, hz, r⟩
  · obtain ⟨z, its, n, r, e⟩ := h.ok I.hok
    exact ⟨its, r, ⟨_, n, e, rfl, rfl, rfl⟩, z⟩
  · refine ⟨its.toList, r, ⟨o, n, I.kIn a o hk, hc, hd, by simpa using hs⟩, ?_⟩
    have e := r.length
    simp only [Array.length_toList] at e
    omega
theorem Inv.tuple (I : Inv X pins σ H s) (h : SqT X.K H a xs) : ∃ its : List Value, Vals xs its ∧ IsTup s.heap a its.toArray ∧ xs.length ≤ sizeLine := by
  rcases h with h | ⟨o, its, n, hk, hc, hs, hz, r⟩
  · obtain ⟨z, its, r, p⟩ := h.ok I.hok
    exact ⟨its, r, p, z⟩
  · refine ⟨its.toList, r, ⟨o, I.kIn a o hk, hc, n, by simpa using hs⟩, ?_⟩
    have e := r.length
    simp only [Array.length_toList] at e
    omega
theorem Inv.list_inj (I : Inv X pins σ H s) (h : SqL X.K H a xs) (h' : SqL X.K H a ys) : xs = ys := by
  obtain ⟨its, r, ⟨o, n, e, _, _, d⟩, _⟩ := I.list h
  obtain ⟨its', r', ⟨o', n', e', _, _, d'⟩, _⟩ := I.list h'
  rw [e] at e'; cases e'
  rw [d] at d'
  injection d' with d1 _
  have : its = its' := by simpa using congrArg Array.toList d1
  subst this
  exact r.inj r'
theorem Inv.tuple_inj (I : Inv X pins σ H s) (h : SqT X.K H a xs) (h' : SqT X.K H a ys) : xs = ys := by
  obtain ⟨its, r, ⟨o, e, _, n, d⟩, _⟩ := I.tuple h
  obtain ⟨its', r', ⟨o', e', _, n', d'⟩, _⟩ := I.tuple h'
  rw [e] at e'; cases e'
  rw [d] at d'
  injection d' with d1 _
  have : its = its' := by simpa using congrArg Array.toList d1
  subst this
  exact r.inj r'
end
noncomputable abbrev Cx.wish (X : Cx) (E : Value → Shared → Prop) : Cx := { X with xe := E }
noncomputable abbrev Cx.nox (X : Cx) : Cx := X.wish fun _ _ => False
theorem Cx.Ok.wish {X : Cx} (ok : X.Ok) (E : Value → Shared → Prop) : (X.wish E).Ok :=
  ⟨ok.mod, ok.kind, ok.glob, ok.blt, ok.above, ok.inj, ok.has, ok.cab, ok.hd, ok.frames, ok.stk, ok.exf, ok.bs, ok.bsz, ok.noex, ok.exfs, ok.funs, ok.frf, ok.seer, ok.tree, ok.plr⟩
theorem Cx.Ok.unwish {X : Cx} {E : Value → Shared → Prop} (ok : (X.wish E).Ok) : X.Ok :=
  ⟨ok.mod, ok.kind, ok.glob, ok.blt, ok.above, ok.inj, ok.has, ok.cab, ok.hd, ok.frames, ok.stk, ok.exf, ok.bs, ok.bsz, ok.noex, ok.exfs, ok.funs, ok.frf, ok.seer, ok.tree, ok.plr⟩
section
variable {X : Cx} {pins : List (Addr × Obj)} {σ : St} {H : Hp} {s : Shared} {E : Value → Shared → Prop}
theorem Inv.wish (I : Inv X pins σ H s) (E : Value → Shared → Prop) : Inv (X.wish E) pins σ H s := ⟨I.ok.wish E, I.os, I.bare, I.base, I.loc, I.cell, I.free, I.freeC, I.pin, I.hok, I.len⟩
theorem Inv.unwish (I : Inv (X.wish E) pins σ H s) : Inv X pins σ H s := ⟨I.ok.unwish, I.os, I.bare, I.base, I.loc, I.cell, I.free, I.freeC, I.pin, I.hok, I.len⟩
theorem SP.unwish {D : Ends} {f : Flow} {s' : Shared} (h : SP (X.wish E) pins D f s') : SP X pins D f s' := by
  cases f with
  | next => obtain ⟨σ', H', I, q⟩ := h; exact ⟨σ', H', I.unwish, q⟩
  | brk => obtain ⟨σ', H', I, q⟩ := h; exact ⟨σ', H', I.unwish, q⟩
  | cont => obtain ⟨σ', H', I, q⟩ := h; exact ⟨σ', H', I.unwish, q⟩
  | ret u => obtain ⟨v, σ', H', I, r, q⟩ := h; exact ⟨v, σ', H', I.unwish, r, q⟩
theorem PE.nox {e : Expr} {t : TE} (h : PE X.nox e t) : PE X e t := fun pins s σ H Q I hw =>
  wpAny_mono (h pins s σ H Q (I.wish _) hw) (fun _ _ ⟨v, H', I', r, q⟩ => ⟨v, H', I'.unwish, r, q⟩) fun _ _ z => False.elim z
theorem PT.nox {e : Expr} {t : TT} (h : PT X.nox e t) : PT X e t := fun pins s σ H Q I hw =>
  wpAny_mono (h pins s σ H Q (I.wish _) hw) (fun _ _ ⟨H', I', q⟩ => ⟨H', I'.unwish, q⟩) fun _ _ z => False.elim z
theorem PSs.nox {st : List Stmt} {t : TS} (h : PSs X.nox st t) : PSs X st t := fun pins s σ H D I hw =>
  wpAny_mono (h pins s σ H D (I.wish _) hw) (fun _ _ q => q.unwish) fun _ _ z => False.elim z
end
section
variable {X : Cx} {st : Stmt} {rest : List Stmt} {t u : TS} {e : Expr} {te : TE} {pos : Pos}
noncomputable def qbm : TS := fun D σ H => D.nx σ H
noncomputable def qaN (t u : TS) : TS := fun D σ H => t { D with nx := u D } σ H
theorem qaM : PSs X [] qbm := fun _ _ σ H _ I h => wpAny_execs_nil ⟨σ, H, I, h⟩
theorem qad (h1 : PS X st t) (h2 : PSs X rest u) : PSs X (st :: rest) (qaN t u) := by
  intro pins s σ H D I h
  refine wpAny_execs_cons (thn (h1 pins s σ H { D with nx := u D } I h) fun f s1 q => ?_)
  cases f with
  | next =>
    obtain ⟨σ', H', I', q⟩ := q
    exact h2 pins s1 σ' H' D I' q
  | ret v => exact q
  | brk => exact q
  | cont => exact q
theorem qag (h1 : PS X st t) : PSs X [st] t := by
  intro pins s σ H D I h
  refine wpAny_execs_cons (thn (h1 pins s σ H D I h) fun f s1 q => ?_)
  cases f with
  | next => exact wpAny_execs_nil q
  | ret v => exact q
  | brk => exact q
  | cont => exact q
theorem Inv.quiet {pins : List (Addr × Obj)} {σ : St} {H : Hp} {s : Shared} (I : Inv X pins σ H s) : interactive X.env = false := by simp [interactive, I.ok.kind]
noncomputable def qeC (te : TE) : TS := fun D σ H => te σ H fun _ H1 => D.nx σ H1
theorem qdT (he : PE X e te) (hs : swapsWith e none pos.line X.env = pure false := by rfl) : PS X (.Expr e pos) (qeC te) := by
  intro pins s σ H D I h
  exact wpAny_Expr_any (thn (he pins s σ H _ I h) fun v s1 ⟨x, H1, I1, r1, q1⟩ => ⟨σ, H1, I1, q1⟩) I.quiet hs
noncomputable def qbK (te : TE) : TS := fun D σ H => te σ H D.rt
theorem qaE (he : PE X e te) : PS X (.Return (some e) pos) (qbK te) := by
  intro pins s σ H D I h
  exact wpAny_Return_some (thn (he pins s σ H _ I h) fun v s1 ⟨x, H1, I1, r1, q1⟩ => ⟨x, σ, H1, I1, r1, q1⟩)
noncomputable def qcH (c : TT) (t u : TS) : TS := fun D σ H => c σ H fun b H1 => if b = true then t D σ H1 else u D σ H1
theorem qbx {c : Expr} {a b : List Stmt} {tc : TT} (hc : PT X c tc) (ha : PSs X a t) (hb : PSs X b u) : PS X (.If c a b pos) (qcH tc t u) := by
  intro pins s σ H D I h
  refine wpAny_If (thn (hc pins s σ H _ I h) fun d s1 ⟨H1, I1, q1⟩ => ?_)
  cases d with
  | true => exact ha pins s1 σ H1 D I1 q1
  | false => exact hb pins s1 σ H1 D I1 q1
noncomputable def qe2 : TS := fun _ _ _ => False
theorem qdU {sts : List Stmt} : PSs X sts qe2 := fun _ _ _ _ _ _ h => h.elim
end
noncomputable abbrev TG := V → St → Hp → (St → Hp → Prop) → Prop
noncomputable abbrev TGs := List V → St → Hp → (St → Hp → Prop) → Prop
noncomputable def PG (X : Cx) (target : Expr) (t : TG) : Prop :=
  ∀ (pins : List (Addr × Obj)) (s : Shared) (σ : St) (H : Hp) (v : V) (u : Value) (Q : St → Hp → Prop), Inv X pins σ H s → RelV v u → t v σ H Q →
    wpAny (model X.prog X.w) X.A (assign target X.env u) (fun _ s' => ∃ σ' H', Inv X pins σ' H' s' ∧ Q σ' H') X.xe s
noncomputable def PGs (X : Cx) (ts : List Expr) (t : TGs) : Prop :=
  ∀ (pins : List (Addr × Obj)) (s : Shared) (σ : St) (H : Hp) (vs : List V) (us : List Value) (Q : St → Hp → Prop), Inv X pins σ H s → Vals vs us → t vs σ H Q →
    wpAny (model X.prog X.w) X.A (assignInOrder ((assignEach ts X.env).map (·.2)) us) (fun _ s' => ∃ σ' H', Inv X pins σ' H' s' ∧ Q σ' H') X.xe s
noncomputable abbrev TSet := V → V → V → Hp → (Hp → Prop) → Prop
noncomputable def PSet (X : Cx) (t : TSet) : Prop :=
  ∀ (pins : List (Addr × Obj)) (s : Shared) (σ : St) (H : Hp) (o i v : V) (ov iv u : Value) (Q : Hp → Prop), Inv X pins σ H s → RelV o ov → RelV i iv → RelV v u → t o i v H Q →
    wpAny (model X.prog X.w) X.A (setItem ov iv u) (fun _ s' => ∃ H', Inv X pins σ H' s' ∧ Q H') X.xe s
noncomputable abbrev TIp := V → V → Hp → VK → Prop
noncomputable def PIp (X : Cx) (op : Operator) (t : TIp) : Prop :=
  ∀ (pins : List (Addr × Obj)) (s : Shared) (σ : St) (H : Hp) (x y : V) (v u : Value) (Q : VK), Inv X pins σ H s → RelV x v → RelV y u → t x y H Q →
    wpAny (model X.prog X.w) X.A (inplaceOp op v u) (EP X pins σ Q) X.xe s
section
variable {X : Cx} {pos : Pos}
noncomputable def qas (i : Nat) : TG := fun v σ H Q => Q (σ.set i (some v)) H
theorem qaU {i : Nat} {x : Str} (hN : X.N.Nodup) (hi : X.N[i]? = some x) (hx : Loc X.env.scope x) (hf : X.fn x = true ∨ X.env.scope.names.lookup x = some .local := by first | exact .inl rfl | exact .inr rfl | assumption) : PG X (.Name x pos) (qas i) := by
  intro pins s σ H v u Q I r h
  exact wpAny_assign_Name (qbk I hN hi hx r (fun s' I' => ⟨_, H, I', h⟩) hf)
noncomputable def qfU : TGs := fun vs σ H Q => vs = [] ∧ Q σ H
noncomputable def qbW (t : TG) (u : TGs) : TGs := fun vs σ H Q => ∃ v r, vs = v :: r ∧ t v σ H fun σ' H' => u r σ' H' Q
theorem qb3 : PGs X [] qfU := by
  intro pins s σ H vs us Q I r h
  obtain ⟨e, h⟩ := h
  subst e
  cases r
  exact assignInOrder_nil ⟨σ, H, I, h⟩
theorem qaT {e : Expr} {es : List Expr} {t : TG} {u : TGs} (h1 : PG X e t) (h2 : PGs X es u)
    (hs : (assignEach (e :: es) X.env).map (·.2) = assign e X.env :: (assignEach es X.env).map (·.2) := by rfl) : PGs X (e :: es) (qbW t u) := by
  intro pins s σ H vs us Q I r h
  obtain ⟨v, vr, e1, h⟩ := h
  subst e1
  cases r with
  | cons r rr =>
    rw [hs]
    refine assignInOrder_cons (thn (h1 pins s σ H _ _ _ I r h) fun _ s1 ⟨σ1, H1, I1, q1⟩ => ?_)
    exact h2 pins s1 σ1 H1 _ _ Q I1 rr q1
noncomputable def qg8 (K : PySem.W.Frag) (n : Nat) (t : TGs) : TG := fun v σ H Q => ∃ a xs, v = .ref a ∧ SqT K H a xs ∧ xs.length = n ∧ t xs σ H Q
theorem qgc {es : List Expr} {k : Nat} {t : TGs} {n : Nat} (hc : X.calm = true) (h : PGs X es t)
    (hn : (assignEach es X.env).length = n := by rfl) (hst : (assignEach es X.env).findIdx? (·.1) = none := by rfl) : PG X (.Tuple es k pos) (qg8 X.K n t) := by
  intro pins s σ H v u Q I r hw
  obtain ⟨a, xs, e1, hq, hl, hw⟩ := hw
  subst e1
  cases r
  obtain ⟨its, rv, ht, hz⟩ := I.tuple hq
  refine assign_Tuple_tuple (I.ok.hd hc) ht (by simp [hn, ← hl, rv.length]) hst fun h' hx => ?_
  have I1 : Inv X pins σ H { s with heap := h' } := I.kept (t' := s.toks) fun b o e => hx b o (Nat.ne_of_lt (Heap.lt_size e)) e
  exact h pins _ σ H xs _ Q I1 (by simpa using rv) hw
noncomputable def qgB (to ti : TE) (t : TSet) : TG := fun v σ H Q => to σ H fun o H1 => ti σ H1 fun i H2 => t o i v H2 fun H3 => Q σ H3
theorem qe3 {o i : Expr} {to ti : TE} {t : TSet} (ho : PE X o to) (hi : PE X i ti) (hs : PSet X t)
    (ha : ∀ v, assign (.Subscript o i pos) X.env v = (do
      let ov ← holding [v] (eval o X.env)
      let iv ← holding [v, ov] (eval i X.env)
      standAt pos
      holding [v, ov, iv] (setItem ov iv v)
      release [v, ov, iv] []) := by intro _; rfl) : PG X (.Subscript o i pos) (qgB to ti t) := by
  intro pins s σ H v u Q I r h
  rw [ha]
  refine wpAny_bind (wpAny_holding (thn (ho pins s σ H _ I h) fun ov s1 ⟨x, H1, I1, r1, q1⟩ => ?_))
  refine wpAny_bind (wpAny_holding (thn (hi pins s1 σ H1 _ I1 q1) fun iv s2 ⟨y, H2, I2, r2, q2⟩ => ?_))
  refine wpAny_bind (wpAny_standAt (wpAny_bind (wpAny_holding (thn (hs pins s2 σ H2 x y v ov iv u _ I2 r1 r2 r q2) fun _ s3 ⟨H3, I3, q3⟩ => ?_))))
  exact wpAny_release ⟨σ, H3, I3, q3⟩
noncomputable def qa6 (te : TE) (g : TG) : TS := fun D σ H => te σ H fun x H1 => g x σ H1 D.nx
theorem qe4 {tg e : Expr} {te : TE} {g : TG} (he : PE X e te) (hg : PG X tg g) (hs : swapsWithSole [tg] e pos.line X.env = pure false := by rfl) (hw : swappedStores [tg] e X.env = pure none := by rfl)
    (h1 : (assignEach [tg] X.env).map (·.2) = [assign tg X.env] := by rfl) : PS X (.Assign [tg] e pos) (qa6 te g) := by
  intro pins s σ H D I h
  refine wpAny_Assign_stores (thn (he pins s σ H _ I h) fun v s1 ⟨x, H1, I1, r1, q1⟩ => ?_) hs hw
  rw [h1]
  exact thn (hg pins s1 σ H1 x v _ I1 r1 q1) fun _ s2 q => q
theorem qav {i : Nat} {x : Str} {e : Expr} {te : TE} {pos' : Pos} (hN : X.N.Nodup) (hi : X.N[i]? = some x) (hx : Loc X.env.scope x) (he : PE X e te) (hs : swapsWith e (some (.Name x pos')) pos.line X.env = pure false := by rfl) (hf : X.fn x = true ∨ X.env.scope.names.lookup x = some .local := by first | exact .inl rfl | exact .inr rfl | assumption) :
    PS X (.Assign [.Name x pos'] e pos) (qa6 te (qas i)) := by
  intro pins s σ H D I h
  refine wpAny_Assign_Name (thn (he pins s σ H _ I h) fun v s1 ⟨y, H1, I1, r1, q1⟩ => ?_) hs
  exact qbk I1 hN hi hx r1 (fun s2 I2 => ⟨_, H1, I2, q1⟩) hf
noncomputable def qgC (i j : Nat) (ta : TA) : TS := fun D σ H => ta σ H fun vs H1 => ∃ v w, vs = [v, w] ∧ D.nx ((σ.set i (some v)).set j (some w)) H1
theorem qe5 {i j : Nat} {x y : Str} {a b : Expr} {ta : TA} {px py pt : Pos} {kt k2 pt2} (hc : X.calm = true) (hN : X.N.Nodup) (hi : X.N[i]? = some x) (hj : X.N[j]? = some y) (hij : i ≠ j)
    (hx : X.env.scope.names.lookup x = some .local) (hy : X.env.scope.names.lookup y = some .local) (ha : PA X [a, b] ta)
    (hw : swappedStores [.Tuple [.Name x px, .Name y py] kt pt] (.Tuple [a, b] k2 pt2) X.env = pure (some [x, y]))
    (hs : swapsWithSole [.Tuple [.Name x px, .Name y py] kt pt] (.Tuple [a, b] k2 pt2) pos.line X.env = pure false := by rfl) :
    PS X (.Assign [.Tuple [.Name x px, .Name y py] kt pt] (.Tuple [a, b] k2 pt2) pos) (qgC i j ta) := by
  intro pins s σ H D I h
  rw [exec_Assign_arm]
  refine wpAny_bind (wpAny_standAt ?_)
  rw [hs]
  refine wpAny_bind (wpAny_pure ?_)
  rw [if_neg (by decide)]
  refine wpAny_bind (Tuple_ (thn (ha _ pins s σ H _ I h) fun us s1 ⟨vs, H1, I1, r1, q1⟩ => ?_))
  obtain ⟨v, w, e1, q1⟩ := q1
  subst e1
  obtain ⟨u1, u2, rfl, rv, rw'⟩ : ∃ u1 u2, us = [u1, u2] ∧ RelV v u1 ∧ RelV w u2 := by
    cases r1 with
    | cons p q =>
      cases q with
      | cons p' q' =>
        cases q'
        exact ⟨_, _, rfl, p, p'⟩
  refine wpAny_newObj_type ?_ (by show 2 ≤ sizeLine; decide)
  have I2 : Inv X pins σ H1 { s1 with heap := s1.heap.push { cls := .type "tuple", data := .seq [u1, u2].toArray } } := I1.kept (t' := s1.toks) fun b o e => Heap.get?_push_of_some _ e
  rw [hw]
  refine wpAny_bind (wpAny_pure ?_)
  show wpAny (model X.prog X.w) X.A (do rule "assign.swapped-stores"; let items ← unpackItems (.ref s1.heap.objs.size) 2 none; assignInOrder [fun v => bindName X.env y v, fun v => bindName X.env x v] items.reverse; pure Flow.next) _ _ _
  refine wpAny_bind (wpAny_rule (wpAny_bind (unpackItems_tuple (items := #[u1, u2]) (I.ok.hd hc) (IsTup.new s1.heap _) fun h' hx' => ?_)))
  have I3 := I2.kept (h' := h') (t' := s1.toks) fun b o e => hx' b o (Nat.ne_of_lt (Heap.lt_size e)) e
  show wpAny _ _ (assignInOrder [fun v => bindName X.env y v, fun v => bindName X.env x v] [u2, u1] >>= fun _ => pure Flow.next) _ _ _
  refine wpAny_bind (assignInOrder_cons (wpAny_bindName (qbk I3 hN hj (.inl hy) rw' (fun s2 I4 => ?_) (.inr hy))))
  refine assignInOrder_cons (wpAny_bindName (qbk I4 hN hi (.inl hx) rv (fun s3 I5 => assignInOrder_nil (wpAny_pure ?_)) (.inr hx)))
  rw [List.set_comm _ _ (Ne.symm hij)] at I5
  exact ⟨_, H1, I5, q1⟩
noncomputable def qfV (i : Nat) (te : TE) (ti : TIp) : TS := fun D σ H => ∃ x, σ[i]? = some (some x) ∧ te σ H fun y H1 => ti x y H1 fun z H2 => D.nx (σ.set i (some z)) H2
theorem qc1 {i : Nat} {x : Str} {e : Expr} {te : TE} {op : Operator} {ti : TIp} {pos' : Pos} (hN : X.N.Nodup) (hi : X.N[i]? = some x) (hx : Loc X.env.scope x) (he : PE X e te) (ho : PIp X op ti) (hf : X.fn x = true ∨ X.env.scope.names.lookup x = some .local := by first | exact .inl rfl | exact .inr rfl | assumption) :
    PS X (.AugAssign (.Name x pos') op e pos) (qfV i te ti) := by
  intro pins s σ H D I h
  obtain ⟨v, e1, h⟩ := h
  obtain ⟨m, hn, hl⟩ := I.loc
  have vis : Vis X.env.scope x := by rcases hx with k | k; exact .inl k; exact .inr (.inl k)
  obtain ⟨u, r, l⟩ := hl i x v hi e1 vis
  refine wpAny_AugAssign_Name ?_
  have go : wpAny (model X.prog X.w) X.A (eval e X.env) (fun w s₂ => wpAny (model X.prog X.w) X.A (inplaceOp op u w) (fun r s₃ => wpAny (model X.prog X.w) X.A (storeName X.env x r) (fun _ => SP X pins D .next) X.xe s₃) X.xe s₂) X.xe s := by
    refine thn (he pins s σ H _ I h) fun w s1 ⟨y, H1, I1, r1, q1⟩ => ?_
    refine thn (ho pins s1 σ H1 v y u w _ I1 r r1 q1) fun z s2 ⟨zv, H2, I2, r2, q2⟩ => ?_
    exact qbk I2 hN hi hx r2 (fun s3 I3 => ⟨_, H2, I3, q2⟩) hf
  rcases l with ⟨hk, hm⟩ | ⟨hk, c, hc, hcell⟩
  · exact wpAny_loadName_local I.ok.kind hk hn hm go
  · rcases hk with hk | hk
    · exact wpAny_loadName_cell I.ok.kind hk hc hcell go
    · rcases hx with k | k
      · have : X.env.scope.names.lookup x = some .free := hk
        rw [k] at this; cases this
      · have : X.env.scope.names.lookup x = some .free := hk
        rw [k] at this; cases this
end
section
variable {X : Cx} {pos : Pos}
noncomputable def qb1 (c : TT) (tb : TS) : TS := fun D σ H => ∃ W : Nat → St → Hp → Prop, (∃ m, W m σ H) ∧ ∀ m σ H, W m σ H →
  c σ H fun b H1 => if b = true then ∃ N : St → Hp → Prop, (∀ σ' H', N σ' H' → ∃ m', m' < m ∧ W m' σ' H') ∧ tb { D with nx := N, ct := N, bk := D.nx } σ H1 else D.nx σ H1
theorem qb4 {c : Expr} {body : List Stmt} {tc : TT} {tb : TS} (hp : PassesOwn (model X.prog X.w) X.A X.env X.xe) (hc : PT X c tc) (hb : PSs X body tb) : PS X (.While c body [] pos) (qb1 tc tb) := by
  intro pins s σ H D I h
  obtain ⟨W, ⟨m0, w0⟩, turn⟩ := h
  refine wpAny_While (codeAny_whileLoop (fun n s' => ∃ σ' H', Inv X pins σ' H' s' ∧ W n σ' H') ?_ m0 ⟨σ, H, I, w0⟩)
  rintro n s1 ⟨σ1, H1, I1, w1⟩
  refine wpAny_passesOwn hp (thn (hc pins s1 σ1 H1 _ I1 (turn n σ1 H1 w1)) fun b s2 ⟨H2, I2, q2⟩ => ?_)
  cases b with
  | true =>
    obtain ⟨N, hN, q2⟩ := q2
    rw [if_pos rfl]
    refine wpAny_passesOwn hp (thn (hb pins s2 σ1 H2 _ I2 q2) fun f s3 q3 => ?_)
    cases f with
    | next =>
      obtain ⟨σ3, H3, I3, n3⟩ := q3
      obtain ⟨m', hm, w3⟩ := hN σ3 H3 n3
      exact ⟨m', hm, σ3, H3, I3, w3⟩
    | cont =>
      obtain ⟨σ3, H3, I3, n3⟩ := q3
      obtain ⟨m', hm, w3⟩ := hN σ3 H3 n3
      exact ⟨m', hm, σ3, H3, I3, w3⟩
    | brk => exact q3
    | ret v => exact q3
  | false =>
    rw [if_neg Bool.false_ne_true]
    exact wpAny_execs_nil ⟨σ1, H2, I2, q2⟩
end
structure It where
  go : Nat → Hp → Prop
  yld : Nat → Hp → V → Hp → Prop
  stop : Nat → Hp → Prop
noncomputable def qez (X : Cx) (pins : List (Addr × Obj)) (H : Hp) (b : Addr) : Prop :=
  H b = none ∧ b ≠ X.env.locals ∧ b ∉ X.fs ∧ (b ∈ X.ex ∨ X.s₀.heap.objs.size ≤ b) ∧ (∀ x c, X.env.cells.lookup x = some c → c ≠ b) ∧ ∀ p ∈ X.pn ++ pins, p.1 ≠ b
theorem Inv.fpOk {X : Cx} {pins : List (Addr × Obj)} {σ : St} {H H' : Hp} {s : Shared} {b : Addr} (I : Inv X pins σ H s) (hb : s.heap.objs.size ≤ b) (hn : H' b = none) : qez X pins H' b := by
  refine ⟨hn, Nat.ne_of_gt (Nat.lt_of_lt_of_le I.lt hb), I.nofs hb, .inr (Nat.le_trans I.sz hb), fun x c e z => ?_, fun p hp z => ?_⟩
  · obtain ⟨v, q⟩ := I.cell x c e
    exact absurd (Nat.lt_of_lt_of_le q.lt (by rw [z]; exact hb)) (Nat.lt_irrefl _)
  · exact absurd (Nat.lt_of_lt_of_le (Heap.lt_size (I.pin p hp).1) (by rw [z]; exact hb)) (Nat.lt_irrefl _)
structure Turn (P : Program) (w : World) (K : PySem.W.Frag) (tg : Expr) (J : It) (fp : List Addr) (it : Addr) (tn : Nat → Heap → Prop) : Prop where
  mem : it ∈ fp
  obj : ∀ i h, tn i h → ∀ b ∈ fp, ∃ o, h.get? b = some o ∧ ∀ v, o.data ≠ .cell v
  keep : ∀ i h h', tn i h → (∀ b ∈ fp, ∀ o, h.get? b = some o → h'.get? b = some o) → tn i h'
  item : ∀ (X : Cx), X.prog = P → X.w = w → X.K = K → X.calm = true → ∀ (i : Nat) (pins : List (Addr × Obj)) (s : Shared) (σ : St) (H : Hp) (E : Value → Shared → Prop), Inv X pins σ H s → (∀ b ∈ fp, qez X pins H b) → tn i s.heap → J.go i H →
    wpAny (model P w) X.A (pyNext (.ref it)) (fun r s1 => ∃ u, r = some u ∧
      wpAny (model P w) X.A (letOwnedTupleGo tg (.ref it) u) (fun _ s2 => ∃ x H', Inv X pins σ H' s2 ∧ RelV x u ∧ J.yld i H x H' ∧ tn (i + 1) s2.heap ∧ ∀ b ∈ fp, H' b = none) E s1) E s
  done : ∀ (X : Cx), X.prog = P → X.w = w → X.K = K → X.calm = true → ∀ (i : Nat) (pins : List (Addr × Obj)) (s : Shared) (σ : St) (H : Hp) (E : Value → Shared → Prop), Inv X pins σ H s → (∀ b ∈ fp, qez X pins H b) → tn i s.heap → J.stop i H →
    wpAny (model P w) X.A (pyNext (.ref it)) (fun r s1 => r = none ∧ Inv X pins σ H s1) E s
  self : ∀ (A : Around) (i : Nat) (s : Shared) (Q : Value → Shared → Prop) (E : Value → Shared → Prop), tn i s.heap → Q (.ref it) s → wpAny (model P w) A (pyIter (.ref it)) Q E s
noncomputable abbrev TI := St → Hp → (It → Hp → Prop) → Prop
noncomputable def PIE (X : Cx) (pins : List (Addr × Obj)) (σ : St) (tg : Expr) (R : It → Hp → Prop) (itv : Value) (s2 : Shared) : Prop :=
  ∃ (it : Addr) (fp : List Addr) (tn : Nat → Heap → Prop) (J : It) (H' : Hp), itv = .ref it ∧ Inv X pins σ H' s2 ∧ Turn X.prog X.w X.K tg J fp it tn ∧ tn 0 s2.heap ∧ (∀ b ∈ fp, qez X pins H' b) ∧ R J H'
noncomputable def PI (X : Cx) (tg iter : Expr) (wi : TI) : Prop :=
  ∀ (pins : List (Addr × Obj)) (s : Shared) (σ : St) (H : Hp) (R : It → Hp → Prop), Inv X pins σ H s → wi σ H R →
    wpAny (model X.prog X.w) X.A (eval iter X.env) (fun v s1 => wpAny (model X.prog X.w) X.A (pyIter v) (PIE X pins σ tg R) X.xe s1) X.xe s
theorem qfl {M : Model} {A : Around} {E : Value → Shared → Prop} {s : Shared} {tg : Expr} {it : Addr} {u : Value} {o : Obj} {n : String} {vs : Array Value} {Q : Unit → Shared → Prop} (ho : s.heap.get? it = some o) (hc : o.cls = .type n) (hd : o.data = .fields vs)
    (hn : ["enumerate", "zip", "dict_itemiterator", "dict_reverseitemiterator", "odict_iterator", "itertools.zip_longest", "itertools.pairwise"].contains n = false) (hQ : Q () s) : wpAny M A (letOwnedTupleGo tg (.ref it) u) Q E s := by
  unfold letOwnedTupleGo
  cases tg <;> first
    | exact wpAny_pure hQ
    | (cases u <;> first
        | exact wpAny_pure hQ
        | (refine wpAny_bind (wpAny_load ho ?_)
           rw [hc, hd]
           show wpAny M A (if (["enumerate", "zip", "dict_itemiterator", "dict_reverseitemiterator", "odict_iterator", "itertools.zip_longest", "itertools.pairwise"].contains n && vs[0]? == some (rawInt _)) = true then _ else _) Q E s
           rw [if_neg (by intro h; rw [hn, Bool.false_and] at h; cases h)]
           exact wpAny_pure hQ))
noncomputable def Itl (K : PySem.W.Frag) (a : Addr) : It :=
  ⟨fun i H => ∃ xs x, SqL K H a xs ∧ xs[i]? = some x, fun i H x H' => H' = H ∧ ∀ xs, SqL K H a xs → xs[i]? = some x, fun i H => ∃ xs, SqL K H a xs ∧ xs.length ≤ i⟩
noncomputable def Itt (K : PySem.W.Frag) (a : Addr) : It :=
  ⟨fun i H => ∃ xs x, SqT K H a xs ∧ xs[i]? = some x, fun i H x H' => H' = H ∧ ∀ xs, SqT K H a xs → xs[i]? = some x, fun i H => ∃ xs, SqT K H a xs ∧ xs.length ≤ i⟩
noncomputable def Itr (lo : Int) (n : Nat) : It := ⟨fun i _ => i < n, fun i H x H' => H' = H ∧ x = .int (lo + i), fun i _ => n ≤ i⟩
theorem qdV {P : Program} {w : World} {K : PySem.W.Frag} {tg : Expr} (a it : Addr) : Turn P w K tg (Itl K a) [it] it (fun i h => h.IsListIter it a i) where
  mem := by simp
  obj := fun i h st b hb => by
    have e : b = it := by simpa using hb
    subst e
    obtain ⟨o, e, c, d⟩ := st
    exact ⟨o, e, fun v z => by rw [d] at z; cases z⟩
  keep := fun i h h' st k => st.at fun o e => k it (by simp) o e
  item := by
    intro X hP hw hK hc i pins s σ H E I hf st hg
    subst hP hw hK
    obtain ⟨xs, x, hq, hx⟩ := hg
    obtain ⟨its, rv, p, hz⟩ := I.list hq
    obtain ⟨u, hu, ru⟩ := rv.get hx
    obtain ⟨f0, f1, f2, f3, f4, f5⟩ := hf it (by simp)
    refine wpAny_pyNext_list_item st p.isList (x := u) (by simpa using hu) fun h' st' sb => ?_
    have I1 : Inv X pins σ H { s with heap := h' } := I.turned (t' := s.toks) (fun b o hb e => (sb.2 b hb).trans e) f0 f1 f3 f4 f5
    obtain ⟨o, e, c, d⟩ := id st'
    exact ⟨u, rfl, qfl (s := { s with heap := h' }) e c d (by decide) ⟨x, H, I1, ru, ⟨rfl, fun ys hy => by rw [I.list_inj hy hq]; exact hx⟩, st', fun b hb => (hf b hb).1⟩⟩
  done := by
    intro X hP hw hK hc i pins s σ H E I hf st hg
    subst hP hw hK
    obtain ⟨xs, hq, hx⟩ := hg
    obtain ⟨its, rv, p, hz⟩ := I.list hq
    obtain ⟨f0, f1, f2, f3, f4, f5⟩ := hf it (by simp)
    have hl := rv.length
    exact wpAny_pyNext_list_end (I.ok.hd hc) st p.isList (by simp; omega) fun h' eb => ⟨rfl, I.turned (t' := s.toks) (fun b o hb e => eb b o hb e) f0 f1 f3 f4 f5⟩
  self := fun _ _ _ _ _ st h => wpAny_pyIter_listiter st h
theorem qdf {P : Program} {w : World} {K : PySem.W.Frag} {tg : Expr} (a it : Addr) : Turn P w K tg (Itt K a) [it] it (fun i h => h.IsTupleIter it a i) where
  mem := by simp
  obj := fun i h st b hb => by
    have e : b = it := by simpa using hb
    subst e
    obtain ⟨o, e, c, d⟩ := st
    exact ⟨o, e, fun v z => by rw [d] at z; cases z⟩
  keep := fun i h h' st k => st.at fun o e => k it (by simp) o e
  item := by
    intro X hP hw hK hc i pins s σ H E I hf st hg
    subst hP hw hK
    obtain ⟨xs, x, hq, hx⟩ := hg
    obtain ⟨its, rv, p, hz⟩ := I.tuple hq
    obtain ⟨u, hu, ru⟩ := rv.get hx
    obtain ⟨f0, f1, f2, f3, f4, f5⟩ := hf it (by simp)
    refine wpAny_pyNext_tuple_item st (show s.heap.IsTuple a its.toArray from p) (x := u) (by simpa using hu) fun h' st' sb => ?_
    have I1 : Inv X pins σ H { s with heap := h' } := I.turned (t' := s.toks) (fun b o hb e => (sb.2 b hb).trans e) f0 f1 f3 f4 f5
    obtain ⟨o, e, c, d⟩ := id st'
    exact ⟨u, rfl, qfl (s := { s with heap := h' }) e c d (by decide) ⟨x, H, I1, ru, ⟨rfl, fun ys hy => by rw [I.tuple_inj hy hq]; exact hx⟩, st', fun b hb => (hf b hb).1⟩⟩
  done := by
    intro X hP hw hK hc i pins s σ H E I hf st hg
    subst hP hw hK
    obtain ⟨xs, hq, hx⟩ := hg
    obtain ⟨its, rv, p, hz⟩ := I.tuple hq
    obtain ⟨f0, f1, f2, f3, f4, f5⟩ := hf it (by simp)
    have hl := rv.length
    exact wpAny_pyNext_tuple_end (I.ok.hd hc) st (show s.heap.IsTuple a its.toArray from p) (by simp; omega) fun h' eb => ⟨rfl, I.turned (t' := s.toks) (fun b o hb e => eb b o hb e) f0 f1 f3 f4 f5⟩
  self := fun _ _ _ _ _ st h => wpAny_pyIter_tupleiter st h
theorem qdg {P : Program} {w : World} {K : PySem.W.Frag} {tg : Expr} (it : Addr) (lo : Int) (n : Nat) : Turn P w K tg (Itr lo n) [it] it (fun i h => IsRangeIter h it (lo + (i : Nat) * 1) ((n : Int) - (i : Nat)) 1) where
  mem := by simp
  obj := fun i h st b hb => by
    have e : b = it := by simpa using hb
    subst e
    exact ⟨_, st, fun v z => by
      have z' : Data.fields _ = Data.cell v := z
      cases z'⟩
  keep := fun i h h' st k => k it (by simp) _ st
  item := by
    intro X hP hw hK hc i pins s σ H E I hf st hg
    subst hP hw hK
    obtain ⟨f0, f1, f2, f3, f4, f5⟩ := hf it (by simp)
    have W := Walks.range (prog := X.prog) (w := X.w) (I.ok.hd hc) it lo 1 n
    refine W.item i s _ _ hg st fun v h' tk hv st' kk => ?_
    obtain ⟨t, rfl⟩ := hv
    have I1 : Inv X pins σ H { s with heap := h', toks := tk } := I.turned (fun b o hb e => kk b o (by simpa using hb) e) f0 f1 f3 f4 f5
    refine ⟨_, rfl, qfl (s := { s with heap := h', toks := tk }) (n := "range_iterator") st' rfl rfl (by decide) ⟨.int (lo + i), H, I1, ⟨t, ?_⟩, ⟨rfl, rfl⟩, st', fun b hb => (hf b hb).1⟩⟩
    rw [Int.mul_one]
  done := by
    intro X hP hw hK hc i pins s σ H E I hf st hg
    subst hP hw hK
    obtain ⟨f0, f1, f2, f3, f4, f5⟩ := hf it (by simp)
    exact wpAny_pyNext_range_end (I.ok.hd hc) st (by have : n ≤ i := hg; omega) fun h' eb => ⟨rfl, I.turned (t' := s.toks) (fun b o hb e => eb b o hb e) f0 f1 f3 f4 f5⟩
  self := fun _ _ _ _ _ st h => wpAny_pyIter_rangeiter st h
end L2
namespace L2
open PySem PySem.Spec PyProof.Rows
section
variable {X : Cx} {tg : Expr}
noncomputable def qcI (K : PySem.W.Frag) (tl : TE) : TI := fun σ H R => tl σ H fun x H1 => ∃ a, x = .ref a ∧ (∃ xs, SqL K H1 a xs) ∧ R (Itl K a) H1
noncomputable def qgd (K : PySem.W.Frag) (tl : TE) : TI := fun σ H R => tl σ H fun x H1 => ∃ a, x = .ref a ∧ (∃ xs, SqT K H1 a xs) ∧ R (Itt K a) H1
theorem qcJ {l : Expr} {tl : TE} (hl : PE X l tl) : PI X tg l (qcI X.K tl) := by
  intro pins s σ H R I h
  refine thn (hl pins s σ H _ I h) fun v s1 ⟨x, H1, I1, r1, q1⟩ => ?_
  obtain ⟨a, e, ⟨xs, hq⟩, q⟩ := q1
  subst e
  cases r1
  obtain ⟨its, rv, p, hz⟩ := I1.list hq
  refine wpAny_pyIter_list p.isList ?_
  refine ⟨s1.heap.objs.size, [s1.heap.objs.size], _, _, H1, rfl, I1.kept (t' := s1.toks) fun b o e => Heap.get?_push_of_some _ e, qdV a _, ⟨_, Heap.get?_push_size _ rfl, rfl, rfl⟩, fun b hb => ?_, q⟩
  have e : b = s1.heap.objs.size := by simpa using hb
  subst e
  exact I1.fpOk (Nat.le_refl _) (I1.hok.fresh (Nat.le_refl _))
theorem qge {l : Expr} {tl : TE} (hl : PE X l tl) : PI X tg l (qgd X.K tl) := by
  intro pins s σ H R I h
  refine thn (hl pins s σ H _ I h) fun v s1 ⟨x, H1, I1, r1, q1⟩ => ?_
  obtain ⟨a, e, ⟨xs, hq⟩, q⟩ := q1
  subst e
  cases r1
  obtain ⟨its, rv, p, hz⟩ := I1.tuple hq
  refine wpAny_pyIter_tuple (show s1.heap.IsTuple a its.toArray from p) ?_
  refine ⟨s1.heap.objs.size, [s1.heap.objs.size], _, _, H1, rfl, I1.kept (t' := s1.toks) fun b o e => Heap.get?_push_of_some _ e, qdf a _, ⟨_, Heap.get?_push_size _ rfl, rfl, rfl⟩, fun b hb => ?_, q⟩
  have e : b = s1.heap.objs.size := by simpa using hb
  subst e
  exact I1.fpOk (Nat.le_refl _) (I1.hok.fresh (Nat.le_refl _))
theorem qeD {pins : List (Addr × Obj)} {σ : St} {H : Hp} {s : Shared} {R : It → Hp → Prop} {E : Value → Shared → Prop} {lo hi : Int} {t u v : Tok} {tk : Nat} (I : Inv X pins σ H s) (h1 : -(2 ^ 62) ≤ lo) (h2 : lo < 2 ^ 62) (h3 : -(2 ^ 62) ≤ hi) (h4 : hi < 2 ^ 62)
    (q : R (Itr lo (hi - lo).toNat) H) : wpAny (model X.prog X.w) X.A (pyIter (.ref s.heap.objs.size)) (PIE X pins σ tg R) E { s with heap := s.heap.push { cls := .type "range", data := .fields #[.int lo t, .int hi u, .int 1 v] }, toks := tk } := by
  refine wpAny_pyIter_range (IsRange.new ..) (small_one h1 h2 h3 h4) ?_
  have I1 : Inv X pins σ H { s with heap := s.heap.push { cls := .type "range", data := .fields #[.int lo t, .int hi u, .int 1 v] }, toks := tk } := I.kept fun b o e => Heap.get?_push_of_some _ e
  refine ⟨(s.heap.push { cls := .type "range", data := .fields #[.int lo t, .int hi u, .int 1 v] }).objs.size, [(s.heap.push { cls := .type "range", data := .fields #[.int lo t, .int hi u, .int 1 v] }).objs.size], _, _, H, rfl,
    I1.kept (t' := tk) fun b o e => Heap.get?_push_of_some _ e, qdg _ lo (hi - lo).toNat, ?_, fun b hb => ?_, q⟩
  · have e1 : lo + ((0 : Nat) : Int) * 1 = lo := by simp
    have e2 : (((hi - lo).toNat : Nat) : Int) - ((0 : Nat) : Int) = Builtin.Range.rangeSize lo hi 1 := by rw [rangeSize_one]; split <;> omega
    show IsRangeIter _ _ (lo + ((0 : Nat) : Int) * 1) ((((hi - lo).toNat : Nat) : Int) - ((0 : Nat) : Int)) 1
    rw [e1, e2]
    exact Heap.get?_push_size _ rfl
  · have e : b = (s.heap.push { cls := .type "range", data := .fields #[.int lo t, .int hi u, .int 1 v] }).objs.size := by simpa using hb
    subst e
    exact I1.fpOk (Nat.le_refl _) (I1.hok.fresh (Nat.le_refl _))
noncomputable def qeE (ta : TA) : TI := fun σ H R => ta σ H fun vs H1 => ∃ j : Int, vs = [.int j] ∧ -(2 ^ 62) ≤ j ∧ j < 2 ^ 62 ∧ R (Itr 0 j.toNat) H1
noncomputable def qgJ (ta : TA) : TI := fun σ H R => ta σ H fun vs H1 => ∃ i j : Int, vs = [.int i, .int j] ∧ (-(2 ^ 62) ≤ i ∧ i < 2 ^ 62 ∧ -(2 ^ 62) ≤ j ∧ j < 2 ^ 62) ∧ R (Itr i (j - i).toNat) H1
theorem qcl {a : Expr} {ta : TA} {p pos : Pos} (hg : Gl X "range") (hm : X.mg "range" = none) (ha : PA X [a] ta) (hs : starEach [a] X.env = [(false, eval a X.env)] := by rfl) : PI X tg (.Call (.Name "range" p) [a] [] pos) (qeE ta) := by
  intro pins s σ H R I h
  refine Call_ (qck I hg hm boot_range (PyProof.Rows.callWith_type1 (thn (ha pos pins s σ H _ I h) fun us s1 ⟨vs, H1, I1, r1, q1⟩ => ?_) hs rfl))
  obtain ⟨j, e, q1, q2, q⟩ := q1
  subst e
  cases r1 with
  | cons r rr =>
    cases rr
    obtain ⟨t, rfl⟩ := r
    exact call_range_1 (qeD I1 (by omega) (by omega) q1 q2 (by simpa using q))
noncomputable def qeF (wi : TI) (g : TG) (tb : TS) : TS := fun D σ H => wi σ H fun J H1 => ∃ W : Nat → Nat → St → Hp → Prop, (∃ m, W 0 m σ H1) ∧ ∀ i m σ H, W i m σ H →
  (J.stop i H ∧ D.nx σ H) ∨ (J.go i H ∧ ∃ N : St → Hp → Prop, (∀ σ' H', N σ' H' → ∃ m', m' < m ∧ W (i + 1) m' σ' H') ∧ ∀ x H', J.yld i H x H' → g x σ H' fun σ2 H2 => tb { D with nx := N, ct := N, bk := D.nx } σ2 H2)
noncomputable def qc2 (fp : List Addr) (h : Heap) : List (Addr × Obj) := fp.filterMap fun b => (h.get? b).map fun o => (b, o)
theorem qby {fp : List Addr} {h : Heap} {b : Addr} {o : Obj} (hb : b ∈ fp) (e : h.get? b = some o) : (b, o) ∈ qc2 fp h := List.mem_filterMap.mpr ⟨b, hb, by rw [e]; rfl⟩
theorem qdW {fp : List Addr} {h : Heap} {p : Addr × Obj} (hp : p ∈ qc2 fp h) : p.1 ∈ fp ∧ h.get? p.1 = some p.2 := by
  obtain ⟨b, hb, e⟩ := List.mem_filterMap.mp hp
  cases q : h.get? b with
  | none => rw [q] at e; cases e
  | some o =>
    rw [q] at e
    have e' : (b, o) = p := Option.some.inj e
    subst e'
    exact ⟨hb, q⟩
theorem Inv.pinned {pins : List (Addr × Obj)} {σ : St} {H : Hp} {s : Shared} {fp : List Addr} (I : Inv X pins σ H s) (hf : ∀ b ∈ fp, qez X pins H b) (ho : ∀ b ∈ fp, ∃ o, s.heap.get? b = some o ∧ ∀ v, o.data ≠ .cell v) : Inv X (pins ++ qc2 fp s.heap) σ H s :=
  I.pins_of fun p hp => (List.mem_append.mp hp).elim (fun z => I.pin p (List.mem_append_right _ z)) fun z => by
    obtain ⟨hb, e⟩ := qdW z
    obtain ⟨f0, f1, f2, _⟩ := hf p.1 hb
    obtain ⟨o, e', d⟩ := ho p.1 hb
    rw [e] at e'; cases e'
    exact ⟨e, f0, f1, f2, d⟩
theorem Inv.unpinned {pins pl : List (Addr × Obj)} {σ : St} {H : Hp} {s : Shared} (I : Inv X (pins ++ pl) σ H s) : Inv X pins σ H s := I.pins_of fun p hp => I.pin p (List.mem_append_right _ (List.mem_append_left _ hp))
theorem qc3 {iter : Expr} {body : List Stmt} {wi : TI} {g : TG} {tb : TS} {pos : Pos} (hp : PassesOwn (model X.prog X.w) X.A X.env X.xe) (hc : X.calm = true) (hi : PI X tg iter wi) (hg : PG X tg g) (hb : PSs X body tb)
    (hs : ∀ x, foldedSetIterable iter X.env x = pure x := by intro _; rfl) : PS X (.For tg iter body [] pos) (qeF wi g tb) := by
  intro pins s σ H D I h
  refine wpAny_For (thn (hi pins s σ H _ I h) fun v s1 h1 => thn h1 fun itv s2 h2 => ?_) hs
  obtain ⟨it, fp, tn, J, H2, e, I2, T, st2, f2, W, ⟨m0, w0⟩, turn⟩ := h2
  subst e
  have stat : ∀ {H' : Hp}, (∀ b ∈ fp, H' b = none) → ∀ b ∈ fp, qez X pins H' b := fun hn b hb => ⟨hn b hb, (f2 b hb).2⟩
  refine codeAny_forLoop_any (fun n s' => ∃ i σ' H', Inv X pins σ' H' s' ∧ tn i s'.heap ∧ (∀ b ∈ fp, H' b = none) ∧ W i n σ' H') ?_ m0 ⟨0, σ, H2, I2, st2, fun b hb => (f2 b hb).1, w0⟩
  rintro n s3 ⟨i, σ3, H3, I3, st3, fr3, w3⟩
  rcases turn i n σ3 H3 w3 with ⟨stop, qn⟩ | ⟨go, N, hN, step⟩
  · refine wpAny_passesOwn hp (thn (T.done X rfl rfl rfl hc i pins s3 σ3 H3 X.xe I3 (stat fr3) st3 stop) fun r s4 ⟨hr, I4⟩ => ?_)
    subst hr
    exact wpAny_execs_nil ⟨σ3, H3, I4, qn⟩
  · refine wpAny_passesOwn hp (thn (T.item X rfl rfl rfl hc i pins s3 σ3 H3 X.xe I3 (stat fr3) st3 go) fun r s4 ⟨u, hr, h4⟩ => ?_)
    subst hr
    refine wpAny_passesOwn hp (thn h4 fun _ s5 ⟨x, H5, I5, r5, y5, st5, fr5⟩ => ?_)
    have I5' := I5.pinned (stat fr5) (T.obj _ _ st5)
    refine wpAny_passesOwn hp (thn (hg _ s5 σ3 H5 x u _ I5' r5 (step x H5 y5)) fun _ s6 ⟨σ6, H6, I6, q6⟩ => ?_)
    refine wpAny_passesOwn hp (thn (hb _ s6 σ6 H6 _ I6 q6) fun f s7 q7 => ?_)
    have again : ∀ {σ7 : St} {H7 : Hp}, Inv X (pins ++ qc2 fp s5.heap) σ7 H7 s7 → N σ7 H7 → ∃ m, m < n ∧ ∃ i σ' H', Inv X pins σ' H' s7 ∧ tn i s7.heap ∧ (∀ b ∈ fp, H' b = none) ∧ W i m σ' H' := fun {σ7 H7} I7 n7 => by
      obtain ⟨m', hm, w7⟩ := hN σ7 H7 n7
      refine ⟨m', hm, i + 1, σ7, H7, I7.unpinned, T.keep _ _ _ st5 fun b hb o e => (I7.pin (b, o) (List.mem_append_right _ (List.mem_append_right _ (qby hb e)))).1, fun b hb => ?_, w7⟩
      obtain ⟨o, e, d⟩ := T.obj _ _ st5 b hb
      exact (I7.pin (b, o) (List.mem_append_right _ (List.mem_append_right _ (qby hb e)))).2.1
    cases f with
    | next => obtain ⟨σ7, H7, I7, n7⟩ := q7; exact again I7 n7
    | cont => obtain ⟨σ7, H7, I7, n7⟩ := q7; exact again I7 n7
    | brk => obtain ⟨σ7, H7, I7, q7⟩ := q7; exact ⟨σ7, H7, I7.unpinned, q7⟩
    | ret v => obtain ⟨x7, σ7, H7, I7, r7, q7⟩ := q7; exact ⟨x7, σ7, H7, I7.unpinned, r7, q7⟩
end
theorem qeG {K : PySem.W.Frag} {a : Addr} {xs : List V} {g : TG} {tb : TS} {D : Ends} {σ : St} {H : Hp} (Pv : Nat → St → Hp → Prop) (h0 : Pv 0 σ H) (hl : ∀ i σ H, i ≤ xs.length → Pv i σ H → SqL K H a xs)
    (hs : ∀ i x σ H, xs[i]? = some x → Pv i σ H → g x σ H fun σ2 H2 => tb { D with nx := Pv (i + 1), ct := Pv (i + 1), bk := D.nx } σ2 H2) (hd : ∀ σ H, Pv xs.length σ H → D.nx σ H) :
    ∃ W : Nat → Nat → St → Hp → Prop, (∃ m, W 0 m σ H) ∧ ∀ i m σ H, W i m σ H →
      ((Itl K a).stop i H ∧ D.nx σ H) ∨ ((Itl K a).go i H ∧ ∃ N : St → Hp → Prop, (∀ σ' H', N σ' H' → ∃ m', m' < m ∧ W (i + 1) m' σ' H') ∧ ∀ x H', (Itl K a).yld i H x H' → g x σ H' fun σ2 H2 => tb { D with nx := N, ct := N, bk := D.nx } σ2 H2) := by
  refine ⟨fun i m σ H => m = xs.length - i ∧ i ≤ xs.length ∧ Pv i σ H, ⟨xs.length, by simp, Nat.zero_le _, h0⟩, ?_⟩
  rintro i m σ H ⟨rfl, hi, p⟩
  have q := hl i σ H hi p
  by_cases hlt : i < xs.length
  · refine .inr ⟨⟨xs, xs[i], q, by simp [hlt]⟩, Pv (i + 1), fun σ' H' p' => ⟨xs.length - (i + 1), by omega, rfl, hlt, p'⟩, fun x H' y => ?_⟩
    obtain ⟨e, y⟩ := y
    subst e
    exact hs i x σ _ (y xs q) p
  · have e : i = xs.length := by omega
    subst e
    exact .inl ⟨⟨xs, q, Nat.le_refl _⟩, hd σ H p⟩
theorem qfm {K : PySem.W.Frag} {a : Addr} {xs : List V} {g : TG} {tb : TS} {D : Ends} {σ : St} {H : Hp} (Pv : Nat → St → Hp → Prop) (h0 : Pv 0 σ H) (hl : ∀ i σ H, i ≤ xs.length → Pv i σ H → SqT K H a xs)
    (hs : ∀ i x σ H, xs[i]? = some x → Pv i σ H → g x σ H fun σ2 H2 => tb { D with nx := Pv (i + 1), ct := Pv (i + 1), bk := D.nx } σ2 H2) (hd : ∀ σ H, Pv xs.length σ H → D.nx σ H) :
    ∃ W : Nat → Nat → St → Hp → Prop, (∃ m, W 0 m σ H) ∧ ∀ i m σ H, W i m σ H →
      ((Itt K a).stop i H ∧ D.nx σ H) ∨ ((Itt K a).go i H ∧ ∃ N : St → Hp → Prop, (∀ σ' H', N σ' H' → ∃ m', m' < m ∧ W (i + 1) m' σ' H') ∧ ∀ x H', (Itt K a).yld i H x H' → g x σ H' fun σ2 H2 => tb { D with nx := N, ct := N, bk := D.nx } σ2 H2) := by
  refine ⟨fun i m σ H => m = xs.length - i ∧ i ≤ xs.length ∧ Pv i σ H, ⟨xs.length, by simp, Nat.zero_le _, h0⟩, ?_⟩
  rintro i m σ H ⟨rfl, hi, p⟩
  have q := hl i σ H hi p
  by_cases hlt : i < xs.length
  · refine .inr ⟨⟨xs, xs[i], q, by simp [hlt]⟩, Pv (i + 1), fun σ' H' p' => ⟨xs.length - (i + 1), by omega, rfl, hlt, p'⟩, fun x H' y => ?_⟩
    obtain ⟨e, y⟩ := y
    subst e
    exact hs i x σ _ (y xs q) p
  · have e : i = xs.length := by omega
    subst e
    exact .inl ⟨⟨xs, q, Nat.le_refl _⟩, hd σ H p⟩
theorem qdX {lo : Int} {n : Nat} {g : TG} {tb : TS} {D : Ends} {σ : St} {H : Hp} (Pv : Nat → St → Hp → Prop) (h0 : Pv 0 σ H)
    (hs : ∀ i σ H, i < n → Pv i σ H → g (.int (lo + i)) σ H fun σ2 H2 => tb { D with nx := Pv (i + 1), ct := Pv (i + 1), bk := D.nx } σ2 H2) (hd : ∀ σ H, Pv n σ H → D.nx σ H) :
    ∃ W : Nat → Nat → St → Hp → Prop, (∃ m, W 0 m σ H) ∧ ∀ i m σ H, W i m σ H →
      ((Itr lo n).stop i H ∧ D.nx σ H) ∨ ((Itr lo n).go i H ∧ ∃ N : St → Hp → Prop, (∀ σ' H', N σ' H' → ∃ m', m' < m ∧ W (i + 1) m' σ' H') ∧ ∀ x H', (Itr lo n).yld i H x H' → g x σ H' fun σ2 H2 => tb { D with nx := N, ct := N, bk := D.nx } σ2 H2) := by
  refine ⟨fun i m σ H => m = n - i ∧ i ≤ n ∧ Pv i σ H, ⟨n, by simp, Nat.zero_le _, h0⟩, ?_⟩
  rintro i m σ H ⟨rfl, hi, p⟩
  by_cases hlt : i < n
  · refine .inr ⟨hlt, Pv (i + 1), fun σ' H' p' => ⟨n - (i + 1), by omega, rfl, hlt, p'⟩, fun x H' y => ?_⟩
    obtain ⟨e, y⟩ := y
    subst e y
    exact hs i σ _ hlt p
  · have e : i = n := by omega
    subst e
    exact .inl ⟨Nat.le_refl _, hd σ H p⟩
theorem while_by {c : TT} {tb : TS} {D : Ends} {σ : St} {H : Hp} (Pv : St → Hp → Prop) (μ : St → Hp → Nat) (h0 : Pv σ H)
    (hs : ∀ σ H, Pv σ H → c σ H fun b H1 => if b = true then tb { D with nx := fun σ' H' => Pv σ' H' ∧ μ σ' H' < μ σ H, ct := fun σ' H' => Pv σ' H' ∧ μ σ' H' < μ σ H, bk := D.nx } σ H1 else D.nx σ H1)
    (mono : ∀ σ H Q Q', (∀ b H1, Q b H1 → Q' b H1) → c σ H Q → c σ H Q') : qb1 c tb D σ H := by
  refine ⟨fun m σ H => m = μ σ H ∧ Pv σ H, ⟨_, rfl, h0⟩, ?_⟩
  rintro m σ H ⟨rfl, p⟩
  refine mono σ H _ _ (fun b H1 q => ?_) (hs σ H p)
  cases b with
  | true => exact ⟨_, fun σ' H' ⟨p', l⟩ => ⟨_, l, rfl, p'⟩, q⟩
  | false => exact q
end L2
namespace L2
open PySem PySem.Spec PyProof.Rows
noncomputable abbrev R2 := V → V → Hp → VK → Prop
noncomputable def OpR (X : Cx) (f : Value → Value → Sem Value) (r : R2) : Prop :=
  ∀ (pins : List (Addr × Obj)) (s : Shared) (σ : St) (H : Hp) (x y : V) (v u : Value) (Q : VK), Inv X pins σ H s → RelV x v → RelV y u → r x y H Q →
    wpAny (model X.prog X.w) X.A (f v u) (EP X pins σ Q) X.xe s
noncomputable def qa4 (X : Cx) (f : Value) (r : List V → Hp → VK → Prop) : Prop :=
  ∀ (pins : List (Addr × Obj)) (s : Shared) (σ : St) (H : Hp) (xs : List V) (us : List Value) (Q : VK), Inv X pins σ H s → Vals xs us → r xs H Q →
    wpAny (model X.prog X.w) X.A (call f us) (EP X pins σ Q) X.xe s
noncomputable def qg9 (X : Cx) (r : V → Hp → (Bool → Hp → Prop) → Prop) : Prop :=
  ∀ (pins : List (Addr × Obj)) (s : Shared) (σ : St) (H : Hp) (x : V) (v : Value) (Q : Bool → Hp → Prop), Inv X pins σ H s → RelV x v → r x H Q →
    wpAny (model X.prog X.w) X.A (truthy v) (TP X pins σ Q) X.xe s
noncomputable def tOp (r : R2) (ta tb : TE) : TE := fun σ H Q => ta σ H fun x H1 => tb σ H1 fun y H2 => r x y H2 Q
noncomputable def tUn (r : V → Hp → VK → Prop) (ta : TE) : TE := fun σ H Q => ta σ H fun x H1 => r x H1 Q
noncomputable def rI (C : Int → Int → Prop) (g : Int → Int → V) : R2 := fun x y H Q => ∃ i j, x = .int i ∧ y = .int j ∧ C i j ∧ Q (g i j) H
noncomputable def rI0 (g : Int → Int → V) : R2 := fun x y H Q => ∃ i j, x = .int i ∧ y = .int j ∧ Q (g i j) H
noncomputable def rU (g : Int → V) : V → Hp → VK → Prop := fun x H Q => ∃ i, x = .int i ∧ Q (g i) H
section
variable {X : Cx} {a b c : Expr} {ta tb tc : TE} {pos : Pos}
theorem qgK (ha : PE X a ta) (hb : PE X b tb) {pins : List (Addr × Obj)} {s : Shared} {σ : St} {H : Hp} {R : V → V → Hp → Prop} (I : Inv X pins σ H s)
    (h : ta σ H fun x H1 => tb σ H1 fun y H2 => R x y H2) {Q : Value → Shared → Prop} {f : Value → Value → Sem Value}
    (hf : ∀ v u s2 x y H2, Inv X pins σ H2 s2 → RelV x v → RelV y u → R x y H2 → wpAny (model X.prog X.w) X.A (f v u) Q X.xe s2) :
    wpAny (model X.prog X.w) X.A (eval a X.env) (fun v s₁ => wpAny (model X.prog X.w) X.A (eval b X.env) (fun u s₂ => wpAny (model X.prog X.w) X.A (f v u) Q X.xe s₂) X.xe s₁) X.xe s := by
  refine thn (ha pins s σ H _ I h) fun v s1 ⟨x, H1, I1, r1, q1⟩ => ?_
  refine thn (hb pins s1 σ H1 _ I1 q1) fun u s2 ⟨y, H2, I2, r2, q2⟩ => ?_
  exact hf v u s2 x y H2 I2 r1 r2 q2
theorem qao {op : Operator} {r : R2} (ho : OpR X (binaryOp op) r) (ha : PE X a ta) (hb : PE X b tb) : PE X (.BinOp a op b pos) (tOp r ta tb) := by
  intro pins s σ H Q I h
  exact wpAny_BinOp (qgK ha hb I h fun v u s2 x y H2 I2 rx ry q => ho pins s2 σ H2 x y v u Q I2 rx ry q)
theorem opI {f : Value → Value → Sem Value} {C : Int → Int → Prop} {g : Int → Int → Int}
    (rule : ∀ (i j : Int) (t u : Tok) (s : Shared) (Q : Value → Shared → Prop) (E : Value → Shared → Prop), C i j → Q (.int (g i j) s.toks) { s with toks := s.toks + 1 } → wpAny (model X.prog X.w) X.A (f (.int i t) (.int j u)) Q E s) :
    OpR X f (rI C fun i j => .int (g i j)) := by
  intro pins s σ H x y v u Q I rx ry h
  obtain ⟨i, j, rfl, rfl, hc, q⟩ := h
  obtain ⟨t, rfl⟩ := rx
  obtain ⟨t', rfl⟩ := ry
  exact rule i j t t' s _ _ hc ⟨.int (g i j), H, I.tok _, ⟨_, rfl⟩, q⟩
theorem qg2 {f : Value → Value → Sem Value} {g : Int → Int → Int}
    (rule : ∀ (i j : Int) (t u : Tok) (s : Shared) (Q : Value → Shared → Prop) (E : Value → Shared → Prop), Q (.int (g i j) s.toks) { s with toks := s.toks + 1 } → wpAny (model X.prog X.w) X.A (f (.int i t) (.int j u)) Q E s) :
    OpR X f (rI0 fun i j => .int (g i j)) := by
  intro pins s σ H x y v u Q I rx ry h
  obtain ⟨i, j, rfl, rfl, q⟩ := h
  obtain ⟨t, rfl⟩ := rx
  obtain ⟨t', rfl⟩ := ry
  exact rule i j t t' s _ _ ⟨.int (g i j), H, I.tok _, ⟨_, rfl⟩, q⟩
theorem qgL {f : Value → Value → Sem Value} {g : Int → Int → Bool}
    (rule : ∀ (i j : Int) (t u : Tok) (s : Shared) (Q : Value → Shared → Prop) (E : Value → Shared → Prop), Q (.bool (g i j)) s → wpAny (model X.prog X.w) X.A (f (.int i t) (.int j u)) Q E s) :
    OpR X f (rI0 fun i j => .bl (g i j)) := by
  intro pins s σ H x y v u Q I rx ry h
  obtain ⟨i, j, rfl, rfl, q⟩ := h
  obtain ⟨t, rfl⟩ := rx
  obtain ⟨t', rfl⟩ := ry
  exact rule i j t t' s _ _ ⟨.bl (g i j), H, I, rfl, q⟩
noncomputable def CMul (i j : Int) : Prop := (-(2 ^ 64) < i ∧ i < 2 ^ 64) ∨ (-(2 ^ 64) < j ∧ j < 2 ^ 64)
theorem CMul.ok {i j : Int} (h : CMul i j) : IntMulOk i j := by
  rcases h with ⟨h1, h2⟩ | ⟨h1, h2⟩
  · exact .of_left (intBits_le_64 h1 h2)
  · exact .of_right (intBits_le_64 h1 h2)
theorem qbG : OpR X (binaryOp .Add) (rI0 fun i j => .int (i + j)) := qg2 fun _ _ _ _ _ _ _ q => add_int q
theorem qc4 : OpR X (binaryOp .Sub) (rI0 fun i j => .int (i - j)) := qg2 fun _ _ _ _ _ _ _ q => sub_int q
theorem qbn : OpR X (binaryOp .Mod) (rI (fun _ j => 0 < j) fun i j => .int (i % j)) := opI fun i j _ _ _ _ _ hc q => by
  have h1 : (0 : Int) < j := hc
  exact mod_int' (by omega) (by rw [Int.fmod_eq_emod_of_nonneg i (by omega)]; exact q)
end
noncomputable def scal : V → V → Bool
  | .non, .non => true | .non, .int _ => true | .int _, .non => true | .non, .bl _ => true | .bl _, .non => true | .non, .str _ => true | .str _, .non => true
  | .int _, .int _ => true | .bl _, .bl _ => true | .str _, .str _ => true | .byt _, .byt _ => true
  | .int _, .str _ => true | .str _, .int _ => true | .bl _, .str _ => true | .str _, .bl _ => true
  | _, _ => false
noncomputable def rEq : R2 := fun x y H Q => scal x y = true ∧ Q (.bl (decide (x = y))) H
noncomputable def rNe : R2 := fun x y H Q => scal x y = true ∧ Q (.bl (!decide (x = y))) H
theorem qdY {i j : Int} : decide (V.int i = V.int j) = (i == j) := by
  rw [Bool.eq_iff_iff]
  simp
theorem qe6 {i j : Bool} : decide (V.bl i = V.bl j) = (i == j) := by
  rw [Bool.eq_iff_iff]
  simp
theorem qdZ {i j : Str} : decide (V.str i = V.str j) = (i == j) := by
  rw [Bool.eq_iff_iff]
  simp
theorem qd0 {i j : Array UInt8} : decide (V.byt i = V.byt j) = (i.toList == j.toList) := by
  rw [Bool.eq_iff_iff]
  cases i
  cases j
  simp
section
variable {X : Cx} {a b c : Expr} {ta tb tc : TE} {pos : Pos}
theorem qaq {pins : List (Addr × Obj)} {σ : St} {H : Hp} {s : Shared} {Q : VK} {k k' : Bool} (I : Inv X pins σ H s) (q : Q (.bl k) H) (e : k = k') : EP X pins σ Q (.bool k') s := by
  subst e
  exact ⟨.bl k, H, I, rfl, q⟩
theorem qbL : OpR X (compareOp .Eq) rEq := by
  intro pins s σ H x y v u Q I rx ry h
  obtain ⟨hs, q⟩ := h
  cases x with
  | non =>
    cases rx
    cases y with
    | non => cases ry; exact PySem.EqNone.eq_none_none (qaq I q (by simp))
    | bl j => cases ry; exact PySem.EqNone.eq_none_bool (qaq I q (by simp))
    | int j => obtain ⟨t', rfl⟩ := ry; exact PySem.EqNone.eq_none_int (qaq I q (by simp))
    | str j => obtain ⟨t', rfl⟩ := ry; exact PySem.EqNone.eq_none_str (qaq I q (by simp))
    | _ => exact absurd (show false = true from hs) Bool.false_ne_true
  | bl i =>
    cases rx
    cases y with
    | non => cases ry; exact PySem.EqNone.eq_bool_none (qaq I q (by simp))
    | bl j => cases ry; exact eq_bool (qaq I q qe6)
    | str j => obtain ⟨t', rfl⟩ := ry; exact PySem.EqMixed.eq_bool_str (qaq I q (by simp))
    | _ => exact absurd (show false = true from hs) Bool.false_ne_true
  | int i =>
    obtain ⟨t, rfl⟩ := rx
    cases y with
    | non => cases ry; exact PySem.EqNone.eq_int_none (qaq I q (by simp))
    | int j => obtain ⟨t', rfl⟩ := ry; exact eq_int (qaq I q qdY)
    | str j => obtain ⟨t', rfl⟩ := ry; exact PySem.EqMixed.eq_int_str (qaq I q (by simp))
    | _ => exact absurd (show false = true from hs) Bool.false_ne_true
  | str i =>
    obtain ⟨t, rfl⟩ := rx
    cases y with
    | non => cases ry; exact PySem.EqNone.eq_str_none (qaq I q (by simp))
    | bl j => cases ry; exact PySem.EqMixed.eq_str_bool (qaq I q (by simp))
    | int j => obtain ⟨t', rfl⟩ := ry; exact PySem.EqMixed.eq_str_int (qaq I q (by simp))
    | str j => obtain ⟨t', rfl⟩ := ry; exact eq_str (qaq I q qdZ)
    | _ => exact absurd (show false = true from hs) Bool.false_ne_true
  | byt i =>
    obtain ⟨t, rfl⟩ := rx
    cases y with
    | byt j => obtain ⟨t', rfl⟩ := ry; exact PySem.W.eq_bytes (qaq I q qd0)
    | _ => exact absurd (show false = true from hs) Bool.false_ne_true
  | _ => cases y <;> exact absurd (show false = true from hs) Bool.false_ne_true
theorem qfn : OpR X (compareOp .NotEq) rNe := by
  intro pins s σ H x y v u Q I rx ry h
  obtain ⟨hs, q⟩ := h
  cases x with
  | non =>
    cases rx
    cases y with
    | non => cases ry; exact PySem.EqNone.ne_none_none (qaq I q (by simp))
    | bl j => cases ry; exact PySem.EqNone.ne_none_bool (qaq I q (by simp))
    | int j => obtain ⟨t', rfl⟩ := ry; exact PySem.EqNone.ne_none_int (qaq I q (by simp))
    | str j => obtain ⟨t', rfl⟩ := ry; exact PySem.EqNone.ne_none_str (qaq I q (by simp))
    | _ => exact absurd (show false = true from hs) Bool.false_ne_true
  | bl i =>
    cases rx
    cases y with
    | non => cases ry; exact PySem.EqNone.ne_bool_none (qaq I q (by simp))
    | bl j => cases ry; exact ne_bool (qaq I q (congrArg not qe6))
    | str j => obtain ⟨t', rfl⟩ := ry; exact PySem.EqMixed.ne_bool_str (qaq I q (by simp))
    | _ => exact absurd (show false = true from hs) Bool.false_ne_true
  | int i =>
    obtain ⟨t, rfl⟩ := rx
    cases y with
    | non => cases ry; exact PySem.EqNone.ne_int_none (qaq I q (by simp))
    | int j => obtain ⟨t', rfl⟩ := ry; exact ne_int (qaq I q (congrArg not qdY))
    | str j => obtain ⟨t', rfl⟩ := ry; exact PySem.EqMixed.ne_int_str (qaq I q (by simp))
    | _ => exact absurd (show false = true from hs) Bool.false_ne_true
  | str i =>
    obtain ⟨t, rfl⟩ := rx
    cases y with
    | non => cases ry; exact PySem.EqNone.ne_str_none (qaq I q (by simp))
    | bl j => cases ry; exact PySem.EqMixed.ne_str_bool (qaq I q (by simp))
    | int j => obtain ⟨t', rfl⟩ := ry; exact PySem.EqMixed.ne_str_int (qaq I q (by simp))
    | str j => obtain ⟨t', rfl⟩ := ry; exact ne_str (qaq I q (congrArg not qdZ))
    | _ => exact absurd (show false = true from hs) Bool.false_ne_true
  | byt i =>
    obtain ⟨t, rfl⟩ := rx
    cases y with
    | byt j => obtain ⟨t', rfl⟩ := ry; exact PySem.W.ne_bytes (qaq I q (congrArg not qd0))
    | _ => exact absurd (show false = true from hs) Bool.false_ne_true
  | _ => cases y <;> exact absurd (show false = true from hs) Bool.false_ne_true
theorem qdh : OpR X (compareOp .Lt) (rI0 fun i j => .bl (decide (i < j))) := qgL fun _ _ _ _ _ _ _ q => lt_int q
theorem qdi : OpR X (compareOp .Gt) (rI0 fun i j => .bl (decide (j < i))) := qgL fun _ _ _ _ _ _ _ q => gt_int q
theorem qgM : OpR X (compareOp .GtE) (rI0 fun i j => .bl (decide (j ≤ i))) := qgL fun _ _ _ _ _ _ _ q => ge_int q
theorem nomark (b : Expr) {op : CmpOp} (h : op ≠ .In := by decide) (h2 : op ≠ .NotIn := by decide) : behindInMarks op b = false := by
  have e1 : (op == CmpOp.In) = false := by cases op <;> first | rfl | exact absurd rfl h
  have e2 : (op == CmpOp.NotIn) = false := by cases op <;> first | rfl | exact absurd rfl h2
  cases b <;> simp [behindInMarks, e1, e2]
theorem qbz {op : CmpOp} {r : R2} (ho : OpR X (compareOp op) r) (ha : PE X a ta) (hb : PE X b tb) (hm : behindInMarks op b = false) : PE X (.Compare a [op] [b] pos) (tOp r ta tb) := by
  intro pins s σ H Q I h
  exact wpAny_Compare1 (qgK ha hb I h fun v u s2 x y H2 I2 rx ry q => ho pins s2 σ H2 x y v u Q I2 rx ry q) hm
noncomputable def qaP (t : TE) : TT := fun σ H Q => t σ H fun x H' => ∃ k, x = .bl k ∧ Q k H'
theorem qau {op : CmpOp} {r : R2} (ho : OpR X (compareOp op) r) (ha : PE X a ta) (hb : PE X b tb) (hm : behindInMarks op b = false) : PT X (.Compare a [op] [b] pos) (qaP (tOp r ta tb)) := by
  intro pins s σ H Q I h
  refine wpAny_isTrue_Compare1 (thn (ha pins s σ H _ I h) fun v s1 ⟨x, H1, I1, r1, q1⟩ => thn (hb pins s1 σ H1 _ I1 q1) fun u s2 ⟨y, H2, I2, r2, q2⟩ =>
    thn (ho pins s2 σ H2 x y v u _ I2 r1 r2 q2) fun c s3 ⟨z, H3, I3, r3, k, e, q3⟩ => ?_) hm
  subst e
  cases r3
  exact wpAny_truthy_bool ⟨H3, I3, q3⟩
noncomputable def qgf (r r' : R2) (ta tb tc : TE) : TE := fun σ H Q => ta σ H fun x H1 => tb σ H1 fun y H2 => r x y H2 fun z H3 => ∃ k, z = .bl k ∧
  (if k = true then tc σ H3 fun w' H4 => r' y w' H4 Q else Q (.bl false) H3)
noncomputable def qha (K : PySem.W.Frag) (x : V) (H : Hp) (k : Bool) : Prop :=
  match x with
  | .non => k = false
  | .bl b => k = b
  | .int i => k = (i != 0)
  | .str y => y.length ≤ sizeLine ∧ k = ((y.length : Int) != 0)
  | .byt y => y.size ≤ sizeLine ∧ k = ((y.size : Int) != 0)
  | .ref p => (∃ xs, SqL K H p xs ∧ k = !xs.isEmpty) ∨ (∃ xs, SqT K H p xs ∧ k = !xs.isEmpty) ∨ ∃ kvs, H p = some (.dK kvs) ∧ k = !kvs.isEmpty
  | _ => False
theorem qdj {κ : Type} {kvs : List (κ × V)} {vs : List (κ × Value)} (r : KV kvs vs) : (!vs.isEmpty) = !kvs.isEmpty := by
  cases r <;> rfl
theorem qb2 {xs : List V} {its : List Value} (r : Vals xs its) : (!its.toArray.isEmpty) = !xs.isEmpty := by
  cases r <;> simp
theorem qcm : (sizeLine : Nat) < 2 ^ 63 := by rw [sizeLine_eq]; decide
theorem qgg : qg9 X (fun x H Q => ∃ k, qha X.K x H k ∧ Q k H) := by
  intro pins s σ H x v Q I rx h
  obtain ⟨k, e, q⟩ := h
  have hl := qcm
  have hs : sizeLine = 16777216 := sizeLine_eq
  cases x with
  | non =>
    cases rx
    have e' : k = false := e
    subst e'
    exact truthy_none ⟨H, I, q⟩
  | bl b =>
    cases rx
    have e' : k = b := e
    subst e'
    exact wpAny_truthy_bool ⟨H, I, q⟩
  | int i =>
    obtain ⟨t, rfl⟩ := rx
    have e' : k = (i != 0) := e
    subst e'
    exact PySem.P.truthy_int ⟨H, I, q⟩
  | str y =>
    obtain ⟨t, rfl⟩ := rx
    obtain ⟨hy, e'⟩ : y.length ≤ sizeLine ∧ k = ((y.length : Int) != 0) := e
    subst e'
    exact PySem.P.truthy_str (by omega) ⟨H, I.tok _, q⟩
  | byt y =>
    obtain ⟨t, rfl⟩ := rx
    obtain ⟨hy, e'⟩ : y.size ≤ sizeLine ∧ k = ((y.size : Int) != 0) := e
    subst e'
    exact PySem.W.truthy_bytes (by omega) ⟨H, I.tok _, q⟩
  | ref p =>
    cases rx
    have e' : (∃ xs, SqL X.K H p xs ∧ k = !xs.isEmpty) ∨ (∃ xs, SqT X.K H p xs ∧ k = !xs.isEmpty) ∨ ∃ kvs, H p = some (.dK kvs) ∧ k = !kvs.isEmpty := e
    rcases e' with ⟨xs, hx, e'⟩ | ⟨xs, hx, e'⟩ | ⟨kvs, hx, e'⟩
    · subst e'
      obtain ⟨its, r, pl, hz⟩ := I.list hx
      have hlen := r.length
      exact wpAny_truthy_list pl.isList (by simp only [List.size_toArray]; omega) ⟨H, I.tok _, by rw [qb2 r]; exact q⟩
    · subst e'
      obtain ⟨its, r, pl, hz⟩ := I.tuple hx
      have hlen := r.length
      exact truthy_tuple pl (by simp only [List.size_toArray]; omega) ⟨H, I.tok _, by rw [qb2 r]; exact q⟩
    · subst e'
      obtain ⟨hz, hS, vs, r, m⟩ : kvs.length ≤ sizeLine ∧ (p == sysModules) = false ∧ ∃ vs, KV kvs vs ∧ s.heap.DictOf (qcF X.prog X.w) p vs := I.hok p _ hx
      have hlen : kvs.length = vs.length := Paired.length r
      exact wpAny_truthy_dict hS m (by omega) ⟨H, I.tok _, by rw [qdj r]; exact q⟩
  | _ => exact (show False from e).elim
theorem qdk : OpR X (binaryOp .Add) (fun x y H Q => ∃ i j, x = .str i ∧ y = .str j ∧ i.length + j.length ≤ sizeLine ∧ Q (.str (i ++ j)) H) := by
  intro pins s σ H x y v u Q I rx ry h
  obtain ⟨i, j, rfl, rfl, hz, q⟩ := h
  obtain ⟨t, rfl⟩ := rx
  obtain ⟨t', rfl⟩ := ry
  exact add_str (fun t' tk => ⟨.str (i ++ j), H, I.tok _, ⟨_, rfl⟩, q⟩) hz
theorem qcK : OpR X (inplaceOp .Add) (fun x y H Q => ∃ i j, x = .str i ∧ y = .str j ∧ i.length + j.length ≤ sizeLine ∧ Q (.str (i ++ j)) H) := by
  intro pins s σ H x y v u Q I rx ry h
  obtain ⟨i, j, rfl, rfl, hz, q⟩ := h
  obtain ⟨t, rfl⟩ := rx
  obtain ⟨t', rfl⟩ := ry
  exact iadd_str (fun t' tk => ⟨.str (i ++ j), H, I.tok _, ⟨_, rfl⟩, q⟩) hz
theorem qcn {x : V} {us : List Value} (r : Vals [x] us) : ∃ u, us = [u] ∧ RelV x u := by
  cases r with
  | cons r1 r2 => cases r2; exact ⟨_, rfl, r1⟩
theorem vals2 {x y : V} {us : List Value} (r : Vals [x, y] us) : ∃ u w', us = [u, w'] ∧ RelV x u ∧ RelV y w' := by
  cases r with
  | cons r1 r2 =>
    cases r2 with
    | cons r3 r4 => cases r4; exact ⟨_, _, rfl, r1, r3⟩
theorem qeH : qa4 X (.builtin "abs") (fun xs H Q => ∃ i, xs = [.int i] ∧ Q (.int (if i < 0 then -i else i)) H) := by
  intro pins s σ H xs us Q I r h
  obtain ⟨i, rfl, q⟩ := h
  obtain ⟨u, rfl, t, rfl⟩ := qcn r
  exact call_abs_int fun u tk => ⟨.int (if i < 0 then -i else i), H, I.tok _, ⟨_, rfl⟩, q⟩
theorem qd1 (hc : X.calm = true) : qa4 X (.builtin "max") (fun xs H Q => ∃ i j, xs = [.int i, .int j] ∧ Q (.int (if j > i then j else i)) H) := by
  intro pins s σ H xs us Q I r h
  obtain ⟨i, j, rfl, q⟩ := h
  obtain ⟨u, w', rfl, ⟨t, rfl⟩, ⟨t', rfl⟩⟩ := vals2 r
  refine max_two_ints (I.ok.hd hc) fun h' tk k => ⟨_, H, I.kept k, ?_, q⟩
  by_cases hj : j > i
  · rw [if_pos hj, if_pos hj]; exact ⟨_, rfl⟩
  · rw [if_neg hj, if_neg hj]; exact ⟨_, rfl⟩
theorem qd2 (hc : X.calm = true) : qa4 X (.builtin "min") (fun xs H Q => ∃ i j, xs = [.int i, .int j] ∧ Q (.int (if j < i then j else i)) H) := by
  intro pins s σ H xs us Q I r h
  obtain ⟨i, j, rfl, q⟩ := h
  obtain ⟨u, w', rfl, ⟨t, rfl⟩, ⟨t', rfl⟩⟩ := vals2 r
  refine min_two_ints (I.ok.hd hc) fun h' tk k => ⟨_, H, I.kept k, ?_, q⟩
  by_cases hj : j < i
  · rw [if_pos hj, if_pos hj]; exact ⟨_, rfl⟩
  · rw [if_neg hj, if_neg hj]; exact ⟨_, rfl⟩
theorem qd3 : qa4 X (.type "int") (fun xs H Q => (∃ i, xs = [.int i] ∧ Q (.int i) H) ∨ ∃ k, xs = [.bl k] ∧ Q (.int (if k then 1 else 0)) H) := by
  intro pins s σ H xs us Q I r h
  rcases h with ⟨i, rfl, q⟩ | ⟨k, rfl, q⟩
  · obtain ⟨u, rfl, t, rfl⟩ := qcn r
    exact call_int_int ⟨.int i, H, I, ⟨_, rfl⟩, q⟩
  · obtain ⟨u, rfl, r1⟩ := qcn r
    cases r1
    exact call_int_bool ⟨.int (if k then 1 else 0), H, I.tok _, ⟨_, rfl⟩, q⟩
theorem qco : qa4 X (.type "str") (fun xs H Q => ∃ i, xs = [.int i] ∧ i.natAbs.log2 < 1920 ∧ Q (.str (toString i)) H) := by
  intro pins s σ H xs us Q I r h
  obtain ⟨i, rfl, hz, q⟩ := h
  obtain ⟨u, rfl, t, rfl⟩ := qcn r
  exact PySem.P.str_of_int hz ⟨.str _, H, I.tok _, ⟨_, rfl⟩, q⟩
end
end L2
namespace L2
open PySem PySem.Spec PyProof.Rows
structure ObjM (h : Heap) (x dx C : Addr) (mA : Str → Option Value) : Prop where
  obj : h.get? x = some (PySem.W.instObj C dx)
  ns : h.Ns1 dx mA
  ne : dx ≠ x
theorem qd4 {h : Heap} {dx : Addr} {mA : Str → Option Value} (n : h.Ns1 dx mA) : ∃ od, h.get? dx = some od ∧ ∀ name, PySem.W.lookIn name od = some (mA name) := by
  obtain ⟨o, es, ep, ho, hd, hk, _, hm⟩ := n
  refine ⟨o, ho, fun name => ?_⟩
  have e := hm name
  unfold nsFind findBy at e
  rw [← Array.find?_toList] at e
  unfold PySem.W.lookIn
  rw [hd]
  dsimp only
  split
  · rename_i y q
    rw [q] at e
    exact congrArg some e
  · rename_i q
    rw [q] at e
    have a : es.toList.any (·.refKey) = false := by
      rw [List.any_eq_false]
      intro y hy
      obtain ⟨z, t, hkey⟩ := hk y (Array.mem_toList_iff.mp hy)
      simp [DictEntry.refKey, hkey]
    have a' : ¬ es.toList.any (·.refKey) = true := by rw [a]; exact Bool.false_ne_true
    rw [if_neg a']
    exact congrArg some e
theorem ObjM.look {h : Heap} {x dx C : Addr} {mA : Str → Option Value} (I : ObjM h x dx C mA) : ∃ od, PySem.W.InstAt h x (PySem.W.instObj C dx) C (some od) ∧ ∀ name, PySem.W.lookIn name od = some (mA name) :=
  let ⟨od, ho, hl⟩ := qd4 I.ns
  ⟨od, ⟨I.obj, rfl, rfl, ho⟩, hl⟩
section
variable {prog : Program} {w : World} {A : Around} {E : Value → Shared → Prop} {s : Shared} {K : PySem.W.Frag} {x dx C f : Addr} {mA : Str → Option Value} {name : Str} {v : Value}
end
section
variable {P : Program} {w : World} {H H' : Hp} {h h' : Heap} {a C dx : Addr} {fs fs' : List (Str × V)}
theorem qfo (hok : HOk P w H h) (e : H a = some (.ins C dx fs)) : ∃ mA, ObjM h a dx C mA ∧ (∀ f, qgF (fs.lookup f) (mA f)) ∧ PySem.Within mA (fs.map (·.1)) ∧ fs.length ≤ 1000 ∧ H dx = some (.own a) := by
  obtain ⟨d, z, ne, ob, mA, n, r, q⟩ := (show ObjOk P w H h a (.ins C dx fs) from hok a _ e)
  exact ⟨mA, ⟨ob, n, ne⟩, r, q, z, d⟩
end
structure Cls (K : PySem.W.Frag) (C : Addr) : Prop where
  pg : PySem.W.plainGet K C Str.empty = true
  hd : PySem.W.hasDictIn K C = true
  po : PySem.W.plainOver K C = true
  sa : PySem.W.findIn K (.ref C) "__setattr__" = some (some (.builtin "object.__setattr__"))
theorem Cls.get {K : PySem.W.Frag} {C : Addr} (c : Cls K C) (f : Str) : PySem.W.plainGet K C f = true := c.pg
structure Con (K : PySem.W.Frag) (C : Addr) (f : Str) (v : V) (u : Value) : Prop where
  at_ : PySem.W.findIn K (.ref C) f = some (some u)
  rel : RelV v u
  get : PySem.W.specialIn K u "__get__" = some none
  cp : PySem.W.copiedNames.contains f = false
structure Meth (K : PySem.W.Frag) (C : Addr) (m : Str) (f : Addr) : Prop where
  at_ : PySem.W.findIn K (.ref C) m = some (some (.ref f))
  fn : PySem.W.isFn K (.ref f) = true
  kp : PySem.W.keepIn K (.ref f) = true
section
variable {X : Cx} {pins : List (Addr × Obj)} {σ : St} {H : Hp} {s : Shared} {a C dx : Addr} {fs : List (Str × V)} {f : Str} {v : V} {A : Around} {E : Value → Shared → Prop}
end
section
variable {X : Cx} {o e value : Expr} {f : Str} {pos pos' tpos : Pos} {ta tv : TE}
end
section
variable {X : Cx} {pins : List (Addr × Obj)} {σ : St} {H : Hp} {s : Shared} {A : Around} {E : Value → Shared → Prop} {Q : Value → Shared → Prop} {c : Value} {b : Bool}
inductive TyOf (K : PySem.W.Frag) (H : Hp) : V → Value → Prop where
  | non : TyOf K H .non (.type "NoneType")
  | bl (x : Bool) : TyOf K H (.bl x) (.type "bool")
  | int (i : Int) : TyOf K H (.int i) (.type "int")
  | str (x : Str) : TyOf K H (.str x) (.type "str")
  | flt (x : UInt64) : TyOf K H (.flt x) (.type "float")
  | lst {a : Addr} {xs : List V} (e : H a = some (.lst xs)) : TyOf K H (.ref a) (.type "list")
  | frz {a : Addr} {o : Obj} {xs : List V} (e : H a = some (.frz o (.lst xs))) : TyOf K H (.ref a) (.type "list")
  | tup {a : Addr} {xs : List V} (e : H a = some (.tup xs)) : TyOf K H (.ref a) (.type "tuple")
  | dK {a : Addr} {kvs : List (Key × V)} (e : H a = some (.dK kvs)) : TyOf K H (.ref a) (.type "dict")
  | dT {a : Addr} {kvs : List (List Key × V)} (e : H a = some (.dT kvs)) : TyOf K H (.ref a) (.type "dict")
  | ins {a C dx : Addr} {fs : List (Str × V)} (e : H a = some (.ins C dx fs)) (cl : Cls K C) (ha : PySem.W.findIn K (.ref C) "__class__" = some (some (.builtin "object.__class__")))
      (hn : PySem.W.specialIn K (.builtin "object.__class__") "__get__" = some (some (.builtin "getset_descriptor.__get__"))) (htk : PySem.W.takesIn K (.builtin "object.__class__") = some true)
      (hm : PySem.W.mroIn K C (.type "object") = some true) : TyOf K H (.ref a) (.ref C)
theorem qd5 {x : V} {u t : Value} (I : Inv X pins σ H s) (rx : RelV x u) (ty : TyOf X.K H x t) (e : PySem.W.kitOne X.K t c = some b) (h : ∀ tk, Q (.bool b) { s with toks := tk }) :
    wpAny (model X.prog X.w) A (call (.builtin "isinstance") [u, c]) Q E s := by
  cases ty with
  | non => cases (show u = Value.none from rx); exact PySem.W.kia_one PySem.W.kitx_none I.kIn True.intro e (fun z => nomatch z) h
  | bl y => cases (show u = Value.bool y from rx); exact PySem.W.kia_one PySem.W.kitx_bool I.kIn True.intro e (fun z => nomatch z) h
  | int i => obtain ⟨t, q⟩ := (show ∃ t, u = Value.int i t from rx); cases q; exact PySem.W.kia_one PySem.W.kitx_int I.kIn True.intro e (fun z => nomatch z) h
  | str y => obtain ⟨t, q⟩ := (show ∃ t, u = Value.str y t from rx); cases q; exact PySem.W.kia_one PySem.W.kitx_str I.kIn True.intro e (fun z => nomatch z) h
  | flt y => obtain ⟨t, q⟩ := (show ∃ t, u = Value.float y t from rx); cases q; exact PySem.W.kia_one PySem.W.kitx_float I.kIn True.intro e (fun z => nomatch z) h
  | @lst a xs ea =>
    cases (show u = Value.ref a from rx)
    obtain ⟨_, _, n, _, h1⟩ := (show ObjOk X.prog X.w H s.heap a (.lst xs) from I.hok a _ ea)
    exact PySem.W.kia_one PySem.W.kitx_list I.kIn ⟨_, h1, rfl⟩ e (fun z => nomatch z) h
  | @frz a ob xs ea =>
    cases (show u = Value.ref a from rx)
    obtain ⟨_, _, _, n, _, h1⟩ := (show ObjOk X.prog X.w H s.heap a (.frz ob (.lst xs)) from I.hok a _ ea)
    exact PySem.W.kia_one PySem.W.kitx_list I.kIn ⟨_, h1, rfl⟩ e (fun z => nomatch z) h
  | @tup a xs ea =>
    cases (show u = Value.ref a from rx)
    obtain ⟨_, _, _, p⟩ := (show ObjOk X.prog X.w H s.heap a (.tup xs) from I.hok a _ ea)
    obtain ⟨o, h1, h2, _⟩ := p
    exact PySem.W.kia_one PySem.W.kitx_tuple I.kIn ⟨o, h1, h2⟩ e (fun z => nomatch z) h
  | @dK a kvs ea =>
    cases (show u = Value.ref a from rx)
    obtain ⟨_, _, vs, _, p⟩ := (show ObjOk X.prog X.w H s.heap a (.dK kvs) from I.hok a _ ea)
    obtain ⟨o, es, ep, h1, h2, _⟩ := p
    exact PySem.W.kia_one PySem.W.kitx_dict I.kIn ⟨o, h1, h2.1⟩ e (fun z => nomatch z) h
  | @dT a kvs ea =>
    cases (show u = Value.ref a from rx)
    obtain ⟨_, _, xs, _, o, es, ep, h1, h2, _⟩ := (show ObjOk X.prog X.w H s.heap a (.dT kvs) from I.hok a _ ea)
    exact PySem.W.kia_one PySem.W.kitx_dict I.kIn ⟨o, h1, h2.1⟩ e (fun z => nomatch z) h
  | @ins a C dx fs ea cl ha hn htk hm =>
    cases (show u = Value.ref a from rx)
    obtain ⟨mA, O, _⟩ := qfo I.hok ea
    obtain ⟨od, J, _⟩ := O.look
    exact PySem.W.kia_one (PySem.W.kitx_own (cl.get _) cl.hd ha hn htk hm) I.kIn J e (fun z => nomatch z) h
end
end L2
namespace L2
open PySem PySem.Spec PyProof.Rows
structure Room (k : Nat) (A : Around) : Prop where
  hd : A.handled = none
  dp : A.depth + 3 * k + 105 < recursionLimit
  un : A.units + 16 * k + 200 < cLine
theorem Room.mono {j k : Nat} {A : Around} (r : Room k A) (h : j ≤ k) : Room j A := ⟨r.hd, by have := r.dp; omega, by have := r.un; omega⟩
theorem Room.deeper {k : Nat} {A : Around} (r : Room (k + 1) A) (env : Env) : Room k (A.deeper env) :=
  ⟨r.hd, by have := r.dp; show A.depth + 1 + 3 * k + 105 < _; omega, by have := r.un; show A.units + 3 + 16 * k + 200 < _; omega⟩
theorem Room.in1 {k : Nat} {A : Around} (r : Room (k + 1) A) : Room k A.in1 :=
  ⟨r.hd, by have := r.dp; show A.depth + 3 * k + 105 < _; omega, by have := r.un; show A.units + 1 + 16 * k + 200 < _; omega⟩
theorem Room.depth {k : Nat} {A : Around} (r : Room k A) : A.depth < recursionLimit := by have := r.dp; omega
theorem Room.units {k : Nat} {A : Around} (r : Room k A) : A.units + 64 < cLine := by have := r.un; omega
theorem Room.units0 {k : Nat} {A : Around} (r : Room k A) : A.units < cLine := by have := r.un; omega
noncomputable def qaw : TA := fun _ H Q => Q [] H
noncomputable def qac (ta : TE) (tr : TA) : TA := fun σ H Q => ta σ H fun x H1 => tr σ H1 fun xs H2 => Q (x :: xs) H2
section
variable {X : Cx} {e : Expr} {es : List Expr} {te : TE} {t : TA} {pos : Pos}
theorem qae : PA X [] qaw := fun _ _ _ _ H Q I h => Calls.spliced_nil ⟨[], H, I, .nil, h⟩
theorem qaa (ha : PE X e te) (hr : PA X es t) (hs : starEach (e :: es) X.env = (false, eval e X.env) :: starEach es X.env := by rfl) : PA X (e :: es) (qac te t) := by
  intro pos pins s σ H Q I h
  rw [hs]
  show wpAny _ _ (spliced ((false, eval e X.env) :: backTo pos (starEach es X.env))) _ _ s
  refine Calls.spliced_cons (thn (ha pins s σ H _ I h) fun u s1 ⟨x, H1, I1, r1, q1⟩ => ?_)
  exact thn (hr pos pins s1 σ H1 _ I1 q1) fun us s2 ⟨xs, H2, I2, r2, q2⟩ => ⟨x :: xs, H2, I2, .cons r1 r2, q2⟩
noncomputable def qdl (t : TA) : TE := fun σ H Q => t σ H fun xs H1 => xs.length ≤ sizeLine ∧ ∀ p, H1 p = none → Q (.ref p) (upd H1 p (.tup xs))
noncomputable def qfW (t : TA) : TE := fun σ H Q => t σ H fun xs H1 => xs.length ≤ sizeLine ∧ ∀ p, H1 p = none → Q (.ref p) (upd H1 p (.lst xs))
theorem qbf {x1} (h : PA X es t) : PE X (.Tuple es x1 pos) (qdl t) := by
  intro pins s σ H Q I hq
  refine wpAny_Tuple_spliced (thn (h pos pins s σ H _ I hq) fun us s1 ⟨xs, H1, I1, r, z, q⟩ => ⟨by rw [← r.length]; exact z, ?_⟩)
  have hf : H1 s1.heap.objs.size = none := I1.hok.fresh (Nat.le_refl _)
  refine ⟨.ref s1.heap.objs.size, upd H1 s1.heap.objs.size (.tup xs), I1.laid (t' := s1.toks) (fun b u e => Heap.get?_push_of_some _ e) (Nat.le_refl _) ?_, rfl, q _ hf⟩
  exact ⟨z, us, r, ⟨_, Heap.get?_push_size _ rfl, rfl, _, rfl⟩⟩
theorem qc5 (h : PA X es t) : PE X (.List es pos) (qfW t) := by
  intro pins s σ H Q I hq
  refine wpAny_List_spliced (thn (h pos pins s σ H _ I hq) fun us s1 ⟨xs, H1, I1, r, z, q⟩ => ⟨by rw [← r.length]; exact z, ?_⟩)
  have hf : H1 s1.heap.objs.size = none := I1.hok.fresh (Nat.le_refl _)
  refine ⟨.ref s1.heap.objs.size, upd H1 s1.heap.objs.size (.lst xs), I1.laid (t' := s1.toks) (fun b u e => Heap.get?_push_of_some _ e) (Nat.le_refl _) ?_, rfl, q _ hf⟩
  exact ⟨z, us, 0, r, Heap.get?_push_size _ rfl⟩
end
noncomputable abbrev Sp := List V → Hp → VK → XK → Prop
noncomputable abbrev CXT := List Env → Hp → Shared → XK → Value → Shared → Prop
structure Env0 (P : Program) (w : World) (K : PySem.W.Frag) (mg : Str → Option Value) (base : Heap) (A : Around) (outer : List Env) (s : Shared) (H : Hp) : Prop where
  frames : A.frames = some outer
  mod : Mod K mg base
  bs : ∀ b o, base.get? b = some o → s.heap.get? b = some o ∧ H b = none
  bsz : base.objs.size ≤ s.heap.objs.size
  funs : s.heap.FunFrames base outer
  frf : ∀ b ∈ frs outer, H b = none
  hok : HOk P w H s.heap
  bare : AllBare s.gens
  seer : base.NoSeer
  tree : (model P w).prog.given.tree = none
noncomputable def CE (outer : List Env) (P : Program) (w : World) (H : Hp) (s : Shared) (Q : VK) (u : Value) (s' : Shared) : Prop :=
  ∃ v H', s'.os = s.os ∧ AllBare s'.gens ∧ Un (frs outer) [] H H' s.heap s'.heap ∧ HOk P w H' s'.heap ∧ RelV v u ∧ Q v H'
noncomputable def CR (CX : CXT) (outer : List Env) (P : Program) (w : World) (H : Hp) (s : Shared) (Q : VK) (E : XK) (r : Result) (s' : Shared) : Prop :=
  match r with
  | .ok (.ret u) => CE outer P w H s Q u s'
  | .ok _ => False
  | .error e => CX outer H s E e s'
structure FnOk (P : Program) (w : World) (K : PySem.W.Frag) (mg : Str → Option Value) (base : Heap) (CX : CXT) (k : Nat) (f : Addr) (fd : FuncData) (ps : List Str) (sp : Sp) : Prop where
  len : ∀ vs H Q E, sp vs H Q E → vs.length = ps.length
  run : ∀ (A : Around) (outer : List Env) (s : Shared) (H : Hp) (args : Args) (us : List Value) (vs : List V) (Q : VK) (E : XK), Room k A → Env0 P w K mg base A outer s H → BindsTo s fd args (ps.zip us) → Vals vs us → sp vs H Q E →
    codeAny (model P w) A (.call (.ref f) args) (CR CX outer P w H s Q E) s
theorem FnOk.mono {P : Program} {w : World} {K : PySem.W.Frag} {mg : Str → Option Value} {base : Heap} {CX : CXT} {j k : Nat} {f : Addr} {fd : FuncData} {ps : List Str} {sp : Sp} (F : FnOk P w K mg base CX j f fd ps sp) (h : j ≤ k) :
    FnOk P w K mg base CX k f fd ps sp := ⟨F.len, fun A outer s H args us vs Q E hr => F.run A outer s H args us vs Q E (hr.mono h)⟩
theorem FnOk.imp {P : Program} {w : World} {K : PySem.W.Frag} {mg : Str → Option Value} {base : Heap} {CX : CXT} {k : Nat} {f : Addr} {fd : FuncData} {ps : List Str} {sp sp' : Sp} (F : FnOk P w K mg base CX k f fd ps sp)
    (h : ∀ vs H Q E, sp' vs H Q E → sp vs H Q E) : FnOk P w K mg base CX k f fd ps sp' :=
  ⟨fun vs H Q E q => F.len vs H Q E (h _ _ _ _ q), fun A outer s H args us vs Q E hr he hb hv hs => F.run A outer s H args us vs Q E hr he hb hv (h _ _ _ _ hs)⟩
theorem Env0.in1 {P : Program} {w : World} {K : PySem.W.Frag} {mg : Str → Option Value} {base : Heap} {A : Around} {outer : List Env} {s : Shared} {H : Hp} (e : Env0 P w K mg base A outer s H) :
    Env0 P w K mg base A.in1 outer s H := ⟨e.frames, e.mod, e.bs, e.bsz, e.funs, e.frf, e.hok, e.bare, e.seer, e.tree⟩
section
variable {X : Cx} {pins : List (Addr × Obj)} {σ : St} {H : Hp} {s s' : Shared}
theorem Inv.env0 (I : Inv X pins σ H s) : Env0 X.prog X.w X.K X.mg X.base X.A X.stack s H :=
  ⟨I.ok.frames, I.ok.mod, I.bs, Nat.le_trans I.ok.bsz I.sz, I.stack, I.stkFree, I.hok, I.bare, I.ok.seer, I.ok.tree⟩
theorem Inv.after {Q : VK} {u : Value} (I : Inv X pins σ H s) (h : CE X.stack X.prog X.w H s Q u s') : EP X pins σ Q u s' := by
  obtain ⟨v, H', os, bare, un, hok, r, q⟩ := h
  obtain ⟨hh, g, d, t, os'⟩ := s'
  obtain rfl : os' = s.os := os
  exact ⟨v, H', I.call (h' := hh) (g' := g) (d' := d) (t' := t) (ch := []) un hok bare (fun b z => absurd z (by simp)), r, q⟩
end
noncomputable def qaB (sp : Sp) (dvs : List V) (E : XK) (t : TA) : TE := fun σ H Q => t σ H fun vs H1 => sp (vs ++ dvs) H1 Q E
noncomputable def Binds (K : PySem.W.Frag) (fd : FuncData) (ps : List Str) (ds : List Value) : Prop :=
  ∀ (s : Shared) (us : List Value), K.In s.heap → (us ++ ds).length = ps.length → BindsTo s fd ⟨us, []⟩ (ps.zip (us ++ ds))
theorem Binds.all {K : PySem.W.Frag} {fd : FuncData} {ps : List Str} (h : ∀ us : List Value, us.length = ps.length → bindArgs fd ⟨us, []⟩ = pure (ps.zip us)) : Binds K fd ps [] := fun s us _ hl => by
  rw [List.append_nil] at hl ⊢
  exact .of_eq (h us hl)
noncomputable def Passes (CX : CXT) (X : Cx) (E : XK) : Prop := ∀ (pins : List (Addr × Obj)) (σ : St) (H : Hp) (s : Shared) (e : Value) (s' : Shared), Inv X pins σ H s → CX X.stack H s E e s' → X.xe e s'
section
variable {X : Cx} {CX : CXT} {k : Nat} {f C : Addr} {fd : FuncData} {ps : List Str} {sp : Sp} {dvs : List V} {ds : List Value} {E : XK} {x m : Str} {p pos apos : Pos} {e o : Expr} {es : List Expr} {ta : TE} {t : TA}
theorem qgh {pins : List (Addr × Obj)} {σ : St} {H : Hp} {s : Shared} {Q : VK} {us : List Value} {vs : List V} (F : FnOk X.prog X.w X.K X.mg X.base CX k f fd ps sp) (hr : Room k X.A) (hb : Binds X.K fd ps ds) (hd : Vals dvs ds) (hx : Passes CX X E)
    (I : Inv X pins σ H s) (r : Vals vs us) (h : sp (vs ++ dvs) H Q E) : wpAny (model X.prog X.w) X.A (call (.ref f) us) (EP X pins σ Q) X.xe s := by
  have r2 : Vals (vs ++ dvs) (us ++ ds) := r.append hd
  have hl : (us ++ ds).length = ps.length := by rw [← r2.length]; exact F.len _ _ _ _ h
  refine wpAny_call (codeAny_mono (F.run X.A X.stack s H ⟨us, []⟩ (us ++ ds) (vs ++ dvs) Q E hr I.env0 (hb s us I.kIn hl) r2 h) fun r s' hq => ?_)
  cases r with
  | error e => exact hx pins σ H s e s' I hq
  | ok fl =>
    cases fl with
    | ret u => exact I.after hq
    | next => exact False.elim hq
    | brk => exact False.elim hq
    | cont => exact False.elim hq
theorem qfp (F : FnOk X.prog X.w X.K X.mg X.base CX k f fd ps sp) (hr : Room k X.A) (hg : Gl X x) (hm : X.mg x = some (.ref f)) (hk : PySem.W.keepIn X.K (.ref f) = true) (hb : Binds X.K fd ps ds) (hd : Vals dvs ds) (hx : Passes CX X E)
    (ha : PA X (e :: es) t) (hdb : (x == ("__debug__" : Str)) = false := by decide) (he : starEach (e :: es) X.env = (false, eval e X.env) :: starEach es X.env := by rfl) (hpl : (backTo pos (starEach es X.env)).any (·.1) = false := by rfl) :
    PE X (.Call (.Name x p) (e :: es) [] pos) (qaB sp dvs E t) := by
  intro pins s σ H Q I h
  refine wpAny_Call_Name_kw (qdQ I hg hm ?_ hdb)
  refine PySem.W.callWith_K (h₀ := X.base) I.ok.mod.kin hk (thn (ha pos pins s σ H _ I h) fun us s1 ⟨vs, H1, I1, r, q⟩ => ⟨I1.kIn, ?_⟩) he hpl
  exact qgh F hr hb hd hx I1 r q
structure Mk (K : PySem.W.Frag) (C f : Addr) : Prop where
  makes : PySem.W.makesIn K C = true
  init : PySem.W.findIn K (.ref C) "__init__" = some (some (.ref f))
  fn : PySem.W.isFn K (.ref f) = true
  kp : PySem.W.keepIn K (.ref C) = true
end
section
variable {X : Cx} {CX : CXT} {k : Nat} {f C : Addr} {fd : FuncData} {ps ks : List Str} {sp : Sp} {E : XK} {x m : Str} {p pos apos kpos : Pos} {e o : Expr} {es : List Expr} {kws : List Keyword} {te ta : TE} {t tk : TA} {nm : Option Str}
structure KBinds (K : PySem.W.Frag) (fd : FuncData) (ps ks : List Str) (g : List Value → List Value → List Value) (gV : List V → List V → List V) : Prop where
  to : ∀ (s : Shared) (us ws : List Value), K.In s.heap → (g us ws).length = ps.length → BindsTo s fd ⟨us, ks.zip ws⟩ (ps.zip (g us ws))
  rel : ∀ {vs : List V} {us : List Value} {zs : List V} {ws : List Value}, Vals vs us → Vals zs ws → Vals (gV vs zs) (g us ws)
variable {g : List Value → List Value → List Value} {gV : List V → List V → List V}
end
structure FnScope (N P : List Str) (sc : Scope) : Prop where
  kind : sc.kind = .function
  co : sc.isCoroutine = false
  gen : sc.isGenerator = false
  nd : N.Nodup
  pre : N.take P.length = P
  par : ∀ x ∈ P, sc.names.lookup x = some .local ∨ sc.names.lookup x = some .cell
  nofree : ∀ y ∈ sc.names, y.2 ≠ .free
theorem qcp {kindOf : Str → Option NameKind} {x : Str} : ∀ {binds : List (Str × Value)} {m : Str → Option Value}, (∀ v, (x, v) ∉ binds) → bindL kindOf binds m x = m x
  | [], _, _ => rfl
  | (n, v) :: r, m, h => by
    unfold bindL
    rw [qcp fun w hw => h w (List.mem_cons_of_mem _ hw)]
    split
    · have : x ≠ n := by rintro rfl; exact h v List.mem_cons_self
      simp [this]
    · rfl
theorem qcq {kindOf : Str → Option NameKind} {x : Str} : ∀ {binds : List (Str × Value)} {m : Str → Option Value}, (∀ v, (x, v) ∉ binds) → bindC kindOf binds m x = m x
  | [], _, _ => rfl
  | (n, v) :: r, m, h => by
    unfold bindC
    rw [qcq fun w hw => h w (List.mem_cons_of_mem _ hw)]
    split
    · rfl
    · have : x ≠ n := by rintro rfl; exact h v List.mem_cons_self
      simp [this]
theorem qcr {kindOf : Str → Option NameKind} {x : Str} {v : Value} : ∀ {P : List Str} {vs : List Value} {i : Nat} {m : Str → Option Value}, P.Nodup → P[i]? = some x → vs[i]? = some v → kindOf x = some .local →
    bindL kindOf (P.zip vs) m x = some v
  | [], _, _, _, _, h, _, _ => by simp at h
  | _ :: _, [], _, _, _, _, h, _ => by simp at h
  | p :: P, w :: vs, 0, m, nd, h1, h2, hk => by
    simp at h1 h2; subst h1; subst h2
    show bindL kindOf ((p, w) :: P.zip vs) m p = _
    unfold bindL
    rw [qcp fun v hv => (List.nodup_cons.mp nd).1 (List.of_mem_zip hv).1, if_pos hk]
    simp
  | p :: P, w :: vs, i + 1, m, nd, h1, h2, hk => by
    show bindL kindOf ((p, w) :: P.zip vs) m x = _
    unfold bindL
    exact qcr (i := i) (List.nodup_cons.mp nd).2 (by simpa using h1) (by simpa using h2) hk
theorem qcs {kindOf : Str → Option NameKind} {x : Str} {v : Value} : ∀ {P : List Str} {vs : List Value} {i : Nat} {m : Str → Option Value}, P.Nodup → P[i]? = some x → vs[i]? = some v → kindOf x ≠ some .local →
    bindC kindOf (P.zip vs) m x = some v
  | [], _, _, _, _, h, _, _ => by simp at h
  | _ :: _, [], _, _, _, _, h, _ => by simp at h
  | p :: P, w :: vs, 0, m, nd, h1, h2, hk => by
    simp at h1 h2; subst h1; subst h2
    show bindC kindOf ((p, w) :: P.zip vs) m p = _
    unfold bindC
    rw [qcq fun v hv => (List.nodup_cons.mp nd).1 (List.of_mem_zip hv).1, if_neg hk]
    simp
  | p :: P, w :: vs, i + 1, m, nd, h1, h2, hk => by
    show bindC kindOf ((p, w) :: P.zip vs) m x = _
    unfold bindC
    exact qcs (i := i) (List.nodup_cons.mp nd).2 (by simpa using h1) (by simpa using h2) hk
noncomputable def start (N : List Str) (vs : List V) : St := vs.map some ++ List.replicate (N.length - vs.length) none
noncomputable def qfX (CX : CXT) (P : Program) (w : World) (K : PySem.W.Frag) (mg : Str → Option Value) (base : Heap) (N : List Str) (qual : Str) (scope : Scope) (f : Addr) (cd : Value) (A : Around) (outer : List Env) (s : Shared) (H : Hp) (E : XK) : Cx where
  prog := P
  w := w
  K := K
  mg := mg
  base := base
  A := A.deeper (envOfC qual scope s.heap.objs.size f cd)
  N := N
  s₀ := s
  H₀ := H
  env := envOfC qual scope s.heap.objs.size f cd
  outer := outer
  stack := envOfC qual scope s.heap.objs.size f cd :: outer
  ex := []
  calm := true
  fn := fun _ => true
  pn := []
  xe := fun e s' => wpAny (model P w) (A.deeper (envOfC qual scope s.heap.objs.size f cd)) (leaving (envOfC qual scope s.heap.objs.size f cd) e) (fun _ s'' => CX outer H s E e s'') (fun e' s'' => CX outer H s E e' s'') s'
theorem qc6 {sc : Scope} {n : Nat} {x : Str} (h : sc.names.lookup x = some .cell) : ∃ c, (cellsFrom n sc.names []).lookup x = some c := by
  have q := PySem.W.cellsFrom_some sc.names n [] (.inl h)
  exact Option.isSome_iff_exists.mp q
theorem qd6 {CX : CXT} {P : Program} {w : World} {K : PySem.W.Frag} {mg : Str → Option Value} {base : Heap} {N ps : List Str} {qual : Str} {scope : Scope} {f : Addr} {cd : Value} {A : Around} {outer : List Env} {s s1 : Shared} {H : Hp} {E : XK} {us : List Value} {vs : List V}
    (S : FnScope N ps scope) (hd : A.handled = none) (hdp : (A.deeper (envOfC qual scope s.heap.objs.size f cd)).depth + Builtin.pylongFrames < recursionLimit) (e0 : Env0 P w K mg base A outer s H) (hl : vs.length = ps.length) (r : Vals vs us)
    (x : InCallC s s.heap.objs.size (bindL (envOfC qual scope s.heap.objs.size f cd).kindOf (ps.zip us) fun _ => none) (cellsFrom (s.heap.objs.size + 1) scope.names []) (bindC (envOfC qual scope s.heap.objs.size f cd).kindOf (ps.zip us) fun _ => none) s1) :
    Inv (qfX CX P w K mg base N qual scope f cd A outer s H E) [] (start N vs) H s1 := by
  have hpl : ps.length ≤ N.length := by have := congrArg List.length S.pre; rw [List.length_take] at this; omega
  obtain ⟨h1, tk, rfl, hk⟩ := x.done
  have noA : ∀ b : Addr, b ∉ (qfX CX P w K mg base N qual scope f cd A outer s H E).ex := fun b z => absurd (show b ∈ ([] : List Addr) from z) (by simp)
  refine ⟨⟨e0.mod, S.kind, rfl, rfl, Nat.le_refl _, fun y z c h1 h2 => ?_, fun y hy => ?_, fun y c _ h => ?_, fun _ => hd, Around.frames_deeper e0.frames, .inr ⟨rfl, rfl⟩, fun b z => absurd z (noA b), e0.bs, e0.bsz, fun b _ _ => noA b, fun b z => absurd z (noA b), e0.funs, e0.frf, e0.seer, e0.tree, fun s' hk' => PySem.PylongRoom.of (e0.mod.nolimit.keeps hk') hdp (PySem.SeerAt.of (e0.seer.keeps hk') e0.tree (Around.frames_deeper e0.frames) S.gen S.co rfl rfl)⟩,
    rfl, e0.bare, Un.kept hk, ⟨_, x.toInCall.ns, fun i y v h1 h2 h3 => ?_⟩, fun y c h => ⟨_, x.cell y c h⟩, e0.hok.fresh (Nat.le_refl _), fun y c h => ?_, fun p hp => absurd (show p ∈ ([] : List (Addr × Obj)) from hp) (by simp), e0.hok.kept hk, ?_⟩
  · exact name_of_addr x.apart (PySem.mem_of_lookup h1) (PySem.mem_of_lookup h2)
  · have hy : scope.names.lookup y = some .cell ∨ scope.names.lookup y = some .free := hy
    rcases hy with hy | hy
    · exact qc6 hy
    · exact absurd rfl (S.nofree _ (PySem.mem_of_lookup hy))
  · exact Nat.le_of_lt (x.above y c (PySem.mem_of_lookup h))
  · have hi : i < vs.length := by
      unfold start at h2
      by_cases hi : i < vs.length
      · exact hi
      · rw [List.getElem?_append_right (by simpa using hi)] at h2
        rw [List.getElem?_replicate] at h2
        split at h2 <;> cases h2
    have ha : vs[i]? = some v := by
      unfold start at h2
      rw [List.getElem?_append_left (by simpa using hi), List.getElem?_map] at h2
      cases e : vs[i]? with
      | none => rw [e] at h2; cases h2
      | some a => rw [e] at h2; cases h2; rfl
    obtain ⟨u, hu, rv⟩ := r.get ha
    have hp : ps[i]? = some y := by
      rw [← S.pre, List.getElem?_take_of_lt (by omega)]; exact h1
    have ndP : ps.Nodup := by rw [← S.pre]; exact S.nd.sublist (List.take_sublist _ _)
    refine ⟨u, rv, ?_⟩
    rcases S.par y (List.mem_of_getElem? hp) with k | k
    · exact .inl ⟨k, qcr ndP hp hu k⟩
    · obtain ⟨c, e⟩ := qc6 (n := s.heap.objs.size + 1) k
      refine .inr ⟨.inl k, c, e, ?_⟩
      have q := x.cell y c e
      rw [qcs ndP hp hu (by show scope.names.lookup y ≠ _; rw [k]; decide)] at q
      exact q
  · exact e0.hok.fresh (Nat.le_of_lt (x.above y c (PySem.mem_of_lookup h)))
  · unfold start
    show _ = N.length
    rw [List.length_append, List.length_map, List.length_replicate]
    omega
theorem qgN {CX : CXT} {P : Program} {w : World} {K : PySem.W.Frag} {mg : Str → Option Value} {base : Heap} {k : Nat} {f : Addr} {name qual : Str} {params : Arguments} {body : List Stmt} {scope : Scope} {dV kV doc pm cdv ct oc : Value} {an od : Option Addr}
    {osl : Array (Option Value)} {N ps : List Str} {sp : Sp} (lk : K.lookup f = some ⟨oc, od, .func (PySem.W.fnOf name qual params body scope dV kV doc pm an cdv ct), osl⟩) (hcd : PySem.W.codeIn K cdv qual = true) (S : FnScope N ps scope)
    (len : ∀ vs H Q E, sp vs H Q E → vs.length = ps.length)
    (hbody : ∀ (A : Around) (outer : List Env) (s : Shared) (H : Hp) (vs : List V) (Q : VK) (E : XK), Room k (A.deeper (envOfC qual scope s.heap.objs.size f cdv)) → sp vs H Q E →
      ∃ t, PSs (qfX CX P w K mg base N qual scope f cdv A outer s H E) body t ∧ t { nx := fun _ H' => Q .non H', rt := Q } (start N vs) H) :
    FnOk P w K mg base CX (k + 1) f (PySem.W.fnOf name qual params body scope dV kV doc pm an cdv ct) ps sp := by
  refine ⟨len, fun A outer s H args us vs Q E hr e0 hb r hsp => ?_⟩
  have hl := len _ _ _ _ hsp
  have KX : K.In s.heap := e0.mod.kin.keeps fun b o e => (e0.bs b o e).1
  have lim : s.heap.NoLimit := e0.mod.nolimit.keeps fun b o e => (e0.bs b o e).1
  have hkind : ∀ y ∈ ps.zip us, scope.names.lookup y.1 = some .local ∨ (scope.names.lookup y.1 = some .cell ∧ ((cellsFrom (s.heap.objs.size + 1) scope.names []).lookup y.1).isSome = true) := fun ⟨n, v⟩ hy => by
    rcases S.par n (List.of_mem_zip hy).1 with q | q
    · exact .inl q
    · exact .inr ⟨q, PySem.W.cellsFrom_some _ _ _ (.inl q)⟩
  refine codeAny_call_function hr.depth (KX _ _ lk) rfl S.co S.gen rfl (PySem.W.codeRec_of KX hcd) (hb _ _ _ _ ?_)
  refine wpAny_newFunctionEnv_cells S.kind hkind fun env he s1 x => ?_
  subst he
  refine ⟨lim.keeps x.toInCall.keep, codeAny_func ?_⟩
  obtain ⟨t, ht, hq⟩ := hbody A outer s H vs Q E (hr.deeper _) hsp
  have I : Inv (qfX CX P w K mg base N qual scope f cdv A outer s H E) [] (start N vs) H s1 := qd6 S hr.hd (by have := (hr.deeper (envOfC qual scope s.heap.objs.size f cdv)).dp; show _ + 100 < _; omega) e0 hl r x
  refine wpAny_mono (ht [] s1 (start N vs) H _ I hq) (fun fl s' hs => ?_) fun e s' hs => hs
  have fin : ∀ {σ' : St} {H' : Hp} {v : V} {u : Value}, Inv (qfX CX P w K mg base N qual scope f cdv A outer s H E) [] σ' H' s' → RelV v u → Q v H' → CE outer P w H s Q u s' :=
    fun {σ' H' v u} J rv q => ⟨v, H', J.os, J.bare, J.base, J.hok, rv, q⟩
  cases fl with
  | ret u =>
    obtain ⟨v, σ', H', J, rv, q⟩ := hs
    exact fin J rv q
  | next =>
    obtain ⟨σ', H', J, q⟩ := hs
    exact fin (v := V.non) (u := Value.none) J rfl q
  | brk =>
    obtain ⟨_, _, _, q⟩ := hs
    exact False.elim q
  | cont =>
    obtain ⟨_, _, _, q⟩ := hs
    exact False.elim q
end L2
namespace L2
open PySem PySem.Spec PyProof.Rows
section
variable {X : Cx} {x : Str} {p pos : Pos} {e : Expr} {es : List Expr} {t : TA} {id T : String} {r : List V → Hp → VK → Prop}
noncomputable def tCB (r : List V → Hp → VK → Prop) (t : TA) : TE := fun σ H Q => t σ H fun vs H1 => r vs H1 Q
theorem qaA (hc : qa4 X (.builtin id) r) (hg : Gl X x) (hm : X.mg x = none) (hv : bootBuiltins x = some (.builtin id)) (ha : PA X (e :: es) t) (hn : x ≠ "__name__" := by decide) (hdb : (x == ("__debug__" : Str)) = false := by decide)
    (he : starEach (e :: es) X.env = (false, eval e X.env) :: starEach es X.env := by rfl) (hpl : (backTo pos (starEach es X.env)).any (·.1) = false := by rfl) : PE X (.Call (.Name x p) (e :: es) [] pos) (tCB r t) := by
  intro pins s σ H Q I h
  refine wpAny_Call_Name_kw (qck I hg hm hv ?_ hn hdb)
  exact PyProof.Rows.callWith_builtin1 (thn (ha pos pins s σ H _ I h) fun us s1 ⟨vs, H1, I1, r1, q1⟩ => hc pins s1 σ H1 vs us Q I1 r1 q1) he hpl
theorem qaL (hc : qa4 X (.type T) r) (hg : Gl X x) (hm : X.mg x = none) (hv : bootBuiltins x = some (.type T)) (ha : PA X (e :: es) t) (hn : x ≠ "__name__" := by decide) (hdb : (x == ("__debug__" : Str)) = false := by decide)
    (he : starEach (e :: es) X.env = (false, eval e X.env) :: starEach es X.env := by rfl) (hpl : (backTo pos (starEach es X.env)).any (·.1) = false := by rfl) : PE X (.Call (.Name x p) (e :: es) [] pos) (tCB r t) := by
  intro pins s σ H Q I h
  refine wpAny_Call_Name_kw (qck I hg hm hv ?_ hn hdb)
  exact PyProof.Rows.callWith_type1 (thn (ha pos pins s σ H _ I h) fun us s1 ⟨vs, H1, I1, r1, q1⟩ => hc pins s1 σ H1 vs us Q I1 r1 q1) he hpl
end
end L2
namespace HT
open PySem PyProof.Rows
section
open PySem.SeqAt
open PySem.AutoSeq1 (wpAny_loadPart')
open PySem.MeetsSeq PySem.MeetsSeq2 PySem.MeetsSeq3
end
section
variable {prog : Program} {w : World} {A : Around} {E : Value → Shared → Prop} {s : Shared}
end
end HT
namespace L2
open PySem PySem.Spec PyProof.Rows
noncomputable abbrev TO := St → Hp → (Option Int → Hp → Prop) → Prop
section
variable {X : Cx} {e : Expr} {te : TE} {lo hi : Option Expr} {tl th : TO} {pos p2 : Pos}
end
end L2
namespace L2
open PySem PySem.Spec PyProof.Rows
noncomputable def ixN (n : Nat) (i : Int) : Option Nat := if 0 ≤ i then (if i < n then some i.toNat else none) else if -(n : Int) ≤ i then some (i + n).toNat else none
noncomputable def atI {α : Type} (xs : List α) (i : Int) : Option α := (ixN xs.length i).bind fun j => xs[j]?
theorem qd7 {n : Nat} {i : Int} {j : Nat} (h : ixN n i = some j) : seqIndex? i n = some j ∧ j < n ∧ -(n : Int) ≤ i ∧ i < n := by
  unfold ixN at h
  by_cases h0 : 0 ≤ i
  · rw [if_pos h0] at h
    by_cases h1 : i < n
    · rw [if_pos h1] at h
      have e : i.toNat = j := Option.some.inj h
      exact ⟨by rw [seqIndex_of h0 h1, e], by omega, by omega, h1⟩
    · rw [if_neg h1] at h; cases h
  · rw [if_neg h0] at h
    by_cases h1 : -(n : Int) ≤ i
    · rw [if_pos h1] at h
      have e : (i + n).toNat = j := Option.some.inj h
      exact ⟨by rw [seqIndex_neg (by omega) h1, e], by omega, h1, by omega⟩
    · rw [if_neg h1] at h; cases h
theorem qd8 {α : Type} {xs : List α} {i : Int} {v : α} (h : atI xs i = some v) : ∃ j, seqIndex? i xs.length = some j ∧ xs[j]? = some v ∧ j < xs.length ∧ -(xs.length : Int) ≤ i ∧ i < xs.length := by
  unfold atI at h
  cases e : ixN xs.length i with
  | none => rw [e] at h; cases h
  | some j =>
    rw [e] at h
    obtain ⟨h1, h2, h3, h4⟩ := qd7 e
    exact ⟨j, h1, h, h2, h3, h4⟩
theorem qfq {α : Type} {xs : List α} {j : Nat} {v : α} (h : xs[j]? = some v) : atI xs (j : Int) = some v := by
  have hj : j < xs.length := (List.getElem?_eq_some_iff.mp h).1
  have e : ixN xs.length (j : Int) = some j := by
    unfold ixN
    rw [if_pos (by omega), if_pos (by omega)]; simp
  unfold atI; rw [e]; exact h
noncomputable def qfr (b : Expr) : Prop := ∀ o i, subscripted b false o i = operate [o, i] (getItem o i)
noncomputable def IxR (X : Cx) (r : R2) : Prop :=
  ∀ (value slice : Expr) (pins : List (Addr × Obj)) (s : Shared) (σ : St) (H : Hp) (x y : V) (v u : Value) (Q : VK), Inv X pins σ H s → RelV x v → RelV y u → r x y H Q →
    subscripted slice false v u = operate [v, u] (getItem v u) → wpAny (model X.prog X.w) X.A (subscriptTail value slice v u) (EP X pins σ Q) X.xe s
noncomputable def MtR (X : Cx) (id : String) (r : V → List V → Hp → VK → Prop) : Prop :=
  ∀ (pins : List (Addr × Obj)) (s : Shared) (σ : St) (H : Hp) (x : V) (xs : List V) (v : Value) (us : List Value) (Q : VK), Inv X pins σ H s → RelV x v → Vals xs us → r x xs H Q →
    wpAny (model X.prog X.w) X.A (call (.builtin id) (v :: us)) (EP X pins σ Q) X.xe s
section
variable {X : Cx} {a b : Expr} {ta tb : TE} {pos : Pos}
theorem qaD {r : R2} (hr : IxR X r) (ha : PE X a ta) (hb : PE X b tb) (hs : qfr b) : PE X (.Subscript a b pos) (tOp r ta tb) := by
  intro pins s σ H Q I h
  exact Subscript_ (qgK ha hb I h fun v u s2 x y H2 I2 rx ry q => hr a b pins s2 σ H2 x y v u Q I2 rx ry q (hs _ _))
noncomputable def qhb (K : PySem.W.Frag) : R2 := fun x y H Q => ∃ p xs i v, x = .ref p ∧ y = .int i ∧ SqL K H p xs ∧ atI xs i = some v ∧ Q v H
noncomputable def qhc (K : PySem.W.Frag) : R2 := fun x y H Q => ∃ p xs i v, x = .ref p ∧ y = .int i ∧ SqT K H p xs ∧ atI xs i = some v ∧ Q v H
theorem qd9 : IxR X (qhb X.K) := by
  intro value slice pins s σ H x y v u Q I rx ry h hs
  obtain ⟨p, xs, i, z, rfl, rfl, hq, he, q⟩ := h
  cases rx
  obtain ⟨t, rfl⟩ := ry
  obtain ⟨its, r, pl, hz⟩ := I.list hq
  obtain ⟨j, h1, h2, h3, h4, h5⟩ := qd8 he
  obtain ⟨w, ew, rw'⟩ := r.get h2
  have hl := r.length
  have hn := qcm
  have fin : EP X pins σ Q w s := ⟨z, H, I, rw', q⟩
  by_cases h0 : 0 ≤ i
  · have hj : i.toNat = j := by
      rw [seqIndex_of h0 h5] at h1
      exact Option.some.inj h1
    exact item_listR pl.isList h0 (by omega) (by rw [hj]; simpa using ew) fin hs
  · have hj : (i + (its.toArray.size : Int)).toNat = j := by
      rw [seqIndex_neg (by omega) h4] at h1
      rw [List.size_toArray, ← hl]
      exact Option.some.inj h1
    exact subscriptTail_builtinR (x := w) pl.isList.typeIs slot_list_getitem.lookup
      (wpAny_getItem_list_neg (Q := fun r s' => r = w ∧ EP X pins σ Q r s') pl.isList (by omega) (by rw [List.size_toArray] <;> omega) (by omega) (by rw [hj]; simpa using ew) ⟨rfl, fin⟩) hs
theorem qgi : IxR X (qhc X.K) := by
  intro value slice pins s σ H x y v u Q I rx ry h hs
  obtain ⟨p, xs, i, z, rfl, rfl, hq, he, q⟩ := h
  cases rx
  obtain ⟨t, rfl⟩ := ry
  obtain ⟨its, r, pl, hz⟩ := I.tuple hq
  obtain ⟨j, h1, h2, h3, h4, h5⟩ := qd8 he
  obtain ⟨w, ew, rw'⟩ := r.get h2
  have hl := r.length
  have hn := qcm
  have fin : EP X pins σ Q w s := ⟨z, H, I, rw', q⟩
  exact subscriptTail_builtinR (x := w) pl.typeIs slot_tuple_getitem.lookup
    (getItem_tuple (j := j) (Q := fun r s' => r = w ∧ EP X pins σ Q r s') pl (by omega) (by omega) (by rw [List.size_toArray, ← hl]; exact h1) (by simpa using ew) ⟨rfl, fin⟩) hs
theorem qdm (its : List Value) (n j : Nat) (u : Value) : Obj.mapSeq (·.setIfInBounds j u) { cls := .type "list", data := .seq its.toArray n } = { cls := .type "list", data := .seq (its.set j u).toArray n } := by
  simp [Obj.mapSeq]
theorem Inv.lst {pins : List (Addr × Obj)} {σ : St} {H : Hp} {s : Shared} {p : Addr} {xs : List V} (I : Inv X pins σ H s) (h : H p = some (.lst xs)) :
    ∃ (its : List Value) (n : Nat), Vals xs its ∧ s.heap.get? p = some { cls := .type "list", data := .seq its.toArray n } ∧ xs.length ≤ sizeLine := by
  obtain ⟨z, its, n, r, e⟩ := I.hok p _ h
  exact ⟨its, n, r, e, z⟩
theorem Inv.lstUpd {pins : List (Addr × Obj)} {σ : St} {H : Hp} {s : Shared} {p : Addr} {xs ys : List V} {its its' : List Value} {n n' : Nat} {f : Obj → Obj} (I : Inv X pins σ H s) (h : H p = some (.lst xs))
    (ho : s.heap.get? p = some { cls := .type "list", data := .seq its.toArray n }) (hf : f { cls := .type "list", data := .seq its.toArray n } = { cls := .type "list", data := .seq its'.toArray n' }) (r : Vals ys its') (hz : ys.length ≤ sizeLine) (t : Nat) :
    Inv X pins σ (upd H p (.lst ys)) { s with heap := s.heap.update p f, toks := t } := by
  have e : (s.heap.update p f).get? p = some { cls := .type "list", data := .seq its'.toArray n' } := by
    rw [Heap.get?_update_self f ho (by rw [hf] <;> rfl), hf]
  refine I.write (x := p) (e := p) (by rw [h]; trivial) (.inl rfl) (fun b u hb q => (Heap.get?_update_other _ _ (Ne.symm hb)).trans q) ⟨_, e⟩ ?_
  exact ⟨hz, its', n', r, e⟩
noncomputable def qeI : V → V → V → Hp → (Hp → Prop) → Prop := fun o i v H Q => ∃ p xs k j, o = .ref p ∧ i = .int k ∧ H p = some (.lst xs) ∧ ixN xs.length k = some j ∧ Q (upd H p (.lst (xs.set j v)))
theorem qc7 : PSet X qeI := by
  intro pins s σ H o i v ov iv u Q I ro ri rv h
  obtain ⟨p, xs, k, j, rfl, rfl, hp, hj, q⟩ := h
  cases ro
  obtain ⟨t, rfl⟩ := ri
  obtain ⟨its, n, r, ho, hz⟩ := I.lst hp
  obtain ⟨h1, h2, h3, h4⟩ := qd7 hj
  have hl := r.length
  have hn := qcm
  have I' : Inv X pins σ (upd H p (.lst (xs.set j v))) { s with heap := s.heap.update p (Obj.mapSeq (·.setIfInBounds j u)) } :=
    I.lstUpd hp ho (qdm its n j u) (r.set rv j) (by rw [List.length_set]; exact hz) s.toks
  by_cases h0 : 0 ≤ k
  · have hk : k.toNat = j := by
      rw [seqIndex_of h0 h4] at h1
      exact Option.some.inj h1
    exact PySem.W.ki_setAt ho h0 (by omega) (by rw [List.size_toArray, ← hl]; exact h4) (by rw [hk]; exact ⟨_, I', q⟩)
  · have hk : (k + (its.toArray.size : Int)).toNat = j := by
      rw [seqIndex_neg (by omega) h3] at h1
      rw [List.size_toArray, ← hl]
      exact Option.some.inj h1
    exact PySem.W.ki_setBack ho (by omega) (by rw [List.size_toArray, ← hl]; exact h3) (by omega) (by rw [hk]; exact ⟨_, I', q⟩)
theorem qbH : qa4 X (.builtin "len") (fun xs H Q => ∃ p ys, xs = [.ref p] ∧ (SqL X.K H p ys ∨ SqT X.K H p ys) ∧ Q (.int ys.length) H) := by
  intro pins s σ H xs us Q I r h
  obtain ⟨p, ys, rfl, hq, q⟩ := h
  obtain ⟨u, rfl, rx⟩ := qcn r
  cases rx
  have hn := qcm
  rcases hq with hq | hq
  · obtain ⟨its, r', pl, hz⟩ := I.list hq
    have hlen := r'.length
    exact Calls.call_len_list pl.isList (by simp only [List.size_toArray] <;> omega) ⟨.int ys.length, H, I.tok _, ⟨s.toks + 1, by rw [List.size_toArray, hlen]⟩, q⟩
  · obtain ⟨its, r', pl, hz⟩ := I.tuple hq
    have hlen := r'.length
    exact len_tuple pl (by simp only [List.size_toArray] <;> omega) ⟨.int ys.length, H, I.tok _, ⟨s.toks + 1, by rw [List.size_toArray, hlen]⟩, q⟩
theorem qb5 : qa4 X (.type "tuple") (fun xs H Q => ∃ p ys, xs = [.ref p] ∧ ((SqL X.K H p ys ∧ ∀ l, H l = none → Q (.ref l) (upd H l (.tup ys))) ∨ (SqT X.K H p ys ∧ Q (.ref p) H))) := by
  intro pins s σ H xs us Q I r h
  obtain ⟨p, ys, rfl, h⟩ := h
  obtain ⟨u, rfl, rx⟩ := qcn r
  cases rx
  rcases h with ⟨hq, q⟩ | ⟨hq, q⟩
  · obtain ⟨its, r', pl, hz⟩ := I.list hq
    have hlen := r'.length
    refine call_tuple_list pl.isList (fun h' kp => ?_) (by simp only [List.size_toArray] <;> omega)
    have I1 : Inv X pins σ H { s with heap := h' } := I.kept (t' := s.toks) kp
    have I2 : Inv X pins σ (upd H h'.objs.size (.tup ys)) { s with heap := h'.push { cls := .type "tuple", data := .seq its.toArray } } :=
      I1.laid (t' := s.toks) (fun b o e => Heap.get?_push_of_some _ e) (Nat.le_refl _) (show ObjOk X.prog X.w _ _ _ (.tup ys) from ⟨hz, its, r', IsTup.new _ _⟩)
    exact ⟨.ref h'.objs.size, _, I2, rfl, q _ (I1.hok.fresh (Nat.le_refl _))⟩
  · obtain ⟨its, r', pl, hz⟩ := I.tuple hq
    exact call_tuple_same pl ⟨.ref p, H, I, rfl, q⟩
noncomputable def tyV (K : PySem.W.Frag) (T : String) (x : V) (H : Hp) : Prop := match x with
  | .str _ => T = "str"
  | .int _ => T = "int"
  | .ref p => (T = "list" ∧ ∃ xs, SqL K H p xs) ∨ (T = "tuple" ∧ ∃ o, K.lookup p = some o ∧ o.cls = .type "tuple" ∧ o.dict = none) ∨
      (T = "dict" ∧ ((∃ kvs, H p = some (.dK kvs)) ∨ ∃ kvs, H p = some (.dT kvs))) ∨ (T = "set" ∧ ∃ S n, H p = some (.set S n))
  | _ => False
theorem qgj {pins : List (Addr × Obj)} {σ : St} {H : Hp} {s : Shared} {T : String} {x : V} {v : Value} (I : Inv X pins σ H s) (r : RelV x v) (ty : tyV X.K T x H) :
    s.TypeIs v T ∧ ∀ a, v = .ref a → ∃ ob, s.heap.get? a = some ob ∧ ob.dict = none := by
  cases x with
  | str z =>
    obtain ⟨t, rfl⟩ := r
    cases (show T = "str" from ty)
    exact ⟨typeIs_str s z t, fun _ e => nomatch e⟩
  | int i =>
    obtain ⟨t, rfl⟩ := r
    cases (show T = "int" from ty)
    exact ⟨typeIs_int s i t, fun _ e => nomatch e⟩
  | ref p =>
    cases r
    rcases ty with ⟨rfl, xs, hq⟩ | ⟨rfl, o, hk, hc, hd⟩ | ⟨rfl, hk⟩ | ⟨rfl, S, n, hk⟩
    · obtain ⟨its, _, pl, _⟩ := I.list hq
      refine ⟨pl.isList.typeIs, fun a e => ?_⟩
      cases e
      obtain ⟨o, n, e, c, hd, _⟩ := pl
      exact ⟨o, e, hd⟩
    · refine ⟨⟨o, I.kIn p o hk, hc⟩, fun a e => ?_⟩
      cases e
      exact ⟨o, I.kIn _ o hk, hd⟩
    · have z : ∃ o, s.heap.get? p = some o ∧ o.ExactDict := by
        rcases hk with ⟨kvs, hk⟩ | ⟨kvs, hk⟩
        · obtain ⟨_, _, _, _, o, _, _, e, ex, _⟩ := I.hok p _ hk
          exact ⟨o, e, ex⟩
        · obtain ⟨_, _, _, _, o, _, _, e, ex, _⟩ := I.hok p _ hk
          exact ⟨o, e, ex⟩
      obtain ⟨o, e, ex⟩ := z
      refine ⟨⟨o, e, ex.1⟩, fun a e2 => ?_⟩
      cases e2
      exact ⟨o, e, ex.2.1⟩
    · obtain ⟨o, _, _, _, e, ex, _⟩ := I.hok p _ hk
      refine ⟨⟨o, e, ex.1⟩, fun a e2 => ?_⟩
      cases e2
      exact ⟨o, e, ex.2.1⟩
  | _ => exact False.elim ty
noncomputable def tBM (K : PySem.W.Frag) (T : String) (r : V → List V → Hp → VK → Prop) (to : TE) (t : TA) : TE := fun σ H Q => to σ H fun x H1 => tyV K T x H1 ∧ t σ H1 fun xs H2 => r x xs H2 Q
variable {o e : Expr} {es : List Expr} {to : TE} {t : TA} {name : Str} {apos cpos : Pos} {T id : String} {r : V → List V → Hp → VK → Prop}
theorem qgk (pa : PlainAttrs T) (slot : Slot T name id) (hty : typeOf (.builtin id) = pure (.type "method_descriptor")) (hm : MtR X id r) (ho : PE X o to) (ha : PA X (e :: es) t)
    (hbase : attributeBase o name X.env (eval o X.env) = eval o X.env := by rfl)
    (hfew : ((backTo cpos (starEach (e :: es) X.env)).all (fun x => !x.1) && (backToKw cpos (keywordEach [] X.env)).all (fun x => x.1.isSome)
      && decide ((e :: es).length + ([] : List Keyword).length + (if ([] : List Keyword).isEmpty then 0 else 1) < 30)) = true := by rfl)
    (hline : (apos.endLine == cpos.line) = true := by rfl) (hs : starEach (e :: es) X.env = (false, eval e X.env) :: starEach es X.env := by rfl) (hplain : (backTo cpos (starEach es X.env)).any (·.1) = false := by rfl) :
    PE X (.Call (.Attribute o name apos) (e :: es) [] cpos) (tBM X.K T r to t) := by
  intro pins s σ H Q I h
  refine wpAny_Call_method_late hbase hfew hline rfl (thn (ho pins s σ H _ I h) fun v s1 ⟨x, H1, I1, r1, ty, q1⟩ => ?_)
  obtain ⟨h1, h2⟩ := qgj I1 r1 ty
  refine ⟨T, id, pa, slot, hty, h1, h2, ?_⟩
  have hA := ha cpos pins s1 σ H1 _ I1 q1
  rw [hs] at hA ⊢
  refine Calls.callWith_builtin (by show (false || (backTo cpos (starEach es X.env)).any (·.1)) = false; rw [hplain] <;> rfl) (Calls.evalArgs_plain ?_)
  exact thn hA fun us s2 ⟨vs, H2, I2, r2, q2⟩ => hm pins s2 σ H2 x vs v us Q I2 r1 r2 q2
end
end L2
namespace L2
open PySem PySem.Spec PyProof.Rows
noncomputable def MtM (X : Cx) (id : String) (r : V → List V → Hp → VK → Prop) : Prop :=
  ∀ (pins : List (Addr × Obj)) (s : Shared) (σ : St) (H : Hp) (x : V) (xs : List V) (v : Value) (us : List Value) (Q : VK), Inv X pins σ H s → RelV x v → Vals xs us → r x xs H Q →
    wpAny (model X.prog X.w) X.A (call (.builtin id) (v :: us)) (EP X pins σ Q) X.xe s
theorem Vals.one : ∀ {x : V} {us : List Value}, Vals [x] us → ∃ u, us = [u] ∧ RelV x u
  | _, _, .cons r .nil => ⟨_, rfl, r⟩
theorem Vals.two : ∀ {x y : V} {us : List Value}, Vals [x, y] us → ∃ u v, us = [u, v] ∧ RelV x u ∧ RelV y v
  | _, _, _, .cons r (.cons q .nil) => ⟨_, _, rfl, r, q⟩
theorem Vals.zero : ∀ {us : List Value}, Vals [] us → us = []
  | _, .nil => rfl
theorem Vals.reverse {xs : List V} {us : List Value} (h : Vals xs us) : Vals xs.reverse us.reverse := by
  induction h with
  | nil => exact .nil
  | cons r t ih => rw [List.reverse_cons, List.reverse_cons]; exact Vals.append ih (.cons r .nil)
section
variable {X : Cx} {pins : List (Addr × Obj)} {σ : St} {H : Hp} {s : Shared} {l b : Addr} {xs ys zs : List V}
theorem Inv.lset {its its' : List Value} {n : Nat} {f : Array Value → Array Value} {t' : Nat} (I : Inv X pins σ H s) (hH : H l = some (.lst xs))
    (e : s.heap.get? l = some { cls := .type "list", data := .seq its.toArray n }) (hf : f its.toArray = its'.toArray) (hv : Vals ys its') (hz : ys.length ≤ sizeLine) :
    Inv X pins σ (upd H l (.lst ys)) { s with heap := s.heap.update l (Obj.mapSeq f), toks := t' } := by
  have q := PySem.IsL.update e f
  rw [hf] at q
  refine I.write (x := l) (e := l) (by rw [hH]; exact trivial) (.inl rfl) (fun b' u hb hu => (Heap.get?_update_other s.heap (Obj.mapSeq f) (Ne.symm hb)).trans hu) ⟨_, q⟩ ?_
  exact ⟨hz, its', _, hv, q⟩
theorem Inv.fresh (I : Inv X pins σ H s) : H s.heap.objs.size = none := I.hok.fresh (Nat.le_refl _)
theorem Inv.lstM (I : Inv X pins σ H s) (hH : H l = some (.lst xs)) : xs.length ≤ sizeLine ∧ ∃ (its : List Value) (n : Nat), Vals xs its ∧ xs.length = its.length ∧ s.heap.get? l = some { cls := .type "list", data := .seq its.toArray n } := by
  obtain ⟨z, its, n, r, e⟩ := I.hok l _ hH
  exact ⟨z, its, n, r, r.length, e⟩
end
section
variable {X : Cx}
noncomputable def qcL : V → List V → Hp → VK → Prop := fun x vs H Q => ∃ l xs y, x = .ref l ∧ vs = [y] ∧ H l = some (.lst xs) ∧ xs.length < sizeLine ∧ Q .non (upd H l (.lst (xs ++ [y])))
theorem qct : MtM X "list.append" qcL := by
  intro pins s σ H x vs v us Q I rx rv h
  obtain ⟨l, xs, y, rfl, rfl, hH, hz, q⟩ := h
  cases rx
  obtain ⟨u, rfl, ru⟩ := rv.one
  obtain ⟨z, its, n, r, hl, e⟩ := I.lstM hH
  refine call_meets F.slot_list_append ⟨_, e, rfl⟩ F.entry_list_append (F.args_list_append_2 _ _) (PySem.list_append l its.toArray n u (by rw [List.size_toArray]; omega)) ⟨e, ?_⟩
  refine ⟨.non, _, I.lset (its' := its ++ [u]) hH e (by simp) (r.append (.cons ru .nil)) ?_, rfl, q⟩
  rw [List.length_append, List.length_singleton]
  omega
end
section
variable {prog : Program} {w : World} {A : Around} {E : Value → Shared → Prop} {s : Shared}
end
section
variable {X : Cx}
end
end L2
namespace Att
open PySem PySem.W PySem.Calls PyProof.Rows
theorem qbM {P : Params} {h : Heap} : ∀ (ns : List Int) (vs : List Value), WellAll P h vs (ns.map WData.int) → IntsAre vs ns := by
  intro ns
  induction ns with
  | nil =>
    intro vs w
    rw [List.map_nil] at w
    cases w
    exact .nil
  | cons n ns ih =>
    intro vs w
    rw [List.map_cons] at w
    cases w with
    | cons a b =>
      cases a
      exact .cons _ _ (ih _ b)
theorem qea {l : OpenLaw} {n : Nat} (hn : l.most = some n) {P : Params} {h : Heap} {args : List WData} {vals : List Value}
    (hpre : l.row.toRowW.claim.pre args = true) (hwl : WellAll P h vals args) :
    ∃ a vs ns, vals = [Value.ref a] ∧ args = [WData.list (ns.map WData.int)] ∧ h.get? a = some { cls := .type "list", data := .seq vs.toArray } ∧ IntsAre vs ns ∧ ns.length ≤ n := by
  have hsh : WShape.hasAll [] args [.list .int] = true := (pre_splitW hpre).1
  have hc : l.pre.holds [] { args := args } = true := (pre_splitW hpre).2
  obtain ⟨d, r, rfl, h1, h2⟩ := hasAllW_cons hsh
  obtain rfl := hasAllW_nil h2
  obtain ⟨xs, rfl, h3⟩ := hasW_list h1
  obtain ⟨ns, rfl⟩ := items_int h3
  have hlen : ns.length ≤ n := by
    unfold OpenLaw.pre at hc
    have h4 : (WTm.not (.lt (.lit (.int (n : Int))) (.len (.arg 0)))).holds [] { args := [.list (ns.map .int)] } = true := by
      have h4 := (holds_andW hc).1
      rw [hn] at h4
      exact h4
    have h5 := condW_of h4 (w_not (w_lt w_lit (w_len_list (w_arg rfl))))
    rw [List.length_map] at h5
    refine Nat.le_of_not_lt fun q => ?_
    have q' : (n : Int) < ((ns.length : Nat) : Int) := by omega
    first
      | (rw [decide_eq_true q'] at h5; exact absurd h5 (by decide))
      | (simp at h5; omega)
  cases hwl with
  | cons w1 w2 =>
    cases w2
    cases w1 with
    | list ho hall => exact ⟨_, _, ns, rfl, rfl, ho, qbM ns _ hall, hlen⟩
theorem qeb (l : OpenLaw) (args : List WData) : l.row.toRowW.claim.post args (.bool true) args = true :=
  postW_of (r := l.row.toRowW) (X := (true == true))
    (show WShape.has [] (.bool true) .bool = true by first | rfl | decide | simp [WShape.has, WShape.arms, WShape.armsAll])
    (show (WTm.eq .res (.lit (.bool true))).value [] { args := args, res := some (.bool true), after := args } = some (.bool (true == true)) from w_eq_bool (w_res rfl) w_lit) rfl
theorem attach_call {l : OpenLaw} {n : Nat} {q : Program} {loose : List Str} {XP : (Str → Option Value) → Heap → Prop} {YP : World → Heap → Prop} {d : DefRec}
    (hn : l.most = some n) (hdf : d.params.defaults = [])
    (call : ∀ (w : World) (s₀ s₁ : Shared) (mg mb : Str → Option Value) (fa : Addr) (o : Obj) (pm cd doc : Value) (a : Addr) (vs : List Value) (ns : List Int),
      Ground q loose [] XP w s₀ mg mb s₁.heap → YP w s₁.heap →
      s₁.heap.get? fa = some o → o.data = .func (docDef d.name d.params d.body d.scope pm cd doc) → s₁.heap.CodeRec cd d.name → mg d.name = some (.ref fa) →
      s₁.heap.get? a = some { cls := .type "list", data := .seq vs.toArray } → IntsAre vs ns → ns.length ≤ n → s₁.gens = #[] →
      codeAny (model l.prog w) callerA (.call (.ref fa) ⟨[.ref a], []⟩) (fun r s' => r = .ok (.ret (.bool true)) ∧ OldK s₁.heap s'.heap ∧ s'.os = s₁.os ∧ AllBare s'.gens) s₁) :
    WalkO q loose XP YP l.row.toRowW d [] (fun f vs => PySem.call f vs) := by
  intro w s₀ s₁ mg mb G Y fa o pm cd doc dV kV ho hd hcd hD hmg hg args vals as hpre hlay hrd hwl hlo
  obtain rfl : dV = .none := Dflts.none hD hdf
  obtain rfl : kV = .none := Dflts.noKw hD
  obtain ⟨a, vs, ns, rfl, rfl, hobj, hints, hlen⟩ := qea hn hpre hwl
  refine enter_call (codeAny_mono (call w s₀ s₁ mg mb fa o pm cd doc a vs ns G Y ho (fd_plain hd) hcd hmg hobj hints hlen hg) fun r s' hq => ?_)
  obtain ⟨rfl, h2, h3, h4⟩ := hq
  exact ⟨.inl ⟨.bool true, .bool true, [], rfl, fun _ => rfl, .bool true, qeb l _, fun _ => ⟨List.Pairwise.nil, fun _ hm => (nomatch hm)⟩⟩, h2, h3, h4⟩
section
variable {prog : Program} {w : World} {A : Around} {E : Value → Shared → Prop} {s : Shared} {K : Frag}
end
end Att
namespace L2
open PySem PySem.Spec PyProof.Rows
theorem qcu : ∀ {vs : List Value} {ns : List Int}, IntsAre vs ns → Vals (ns.map V.int) vs
  | _, _, .nil => .nil
  | _, _, .cons n t h => .cons ⟨t, rfl⟩ (qcu h)
noncomputable def Only (H : Hp) : Prop := ∀ b, H b = none ∨ ∃ o xs, H b = some (.frz o (.lst xs))
theorem qeJ {P : Program} {w : World} {K : PySem.W.Frag} {mg mb : Str → Option Value} {CX : CXT} {k : Nat} {fa a : Addr} {fd : FuncData} {x : Str} {sp : Sp} {s₁ : Shared} {vs : List Value} {ns : List Int}
    (KX : K.In s₁.heap) (hns : s₁.heap.Ns mainGlobals mg) (hb : s₁.heap.Ns builtinsNs mb) (hbb : ∀ x : Str, x ≠ "__name__" → mb x = bootBuiltins x) (hlim : s₁.heap.NoLimit) (hseer : s₁.heap.NoSeer) (htree : (model P w).prog.given.tree = none) (hg : s₁.gens = #[])
    (ha : s₁.heap.get? a = some { cls := .type "list", data := .seq vs.toArray }) (hi : IntsAre vs ns) (hl : ns.length ≤ sizeLine) (hr : Room k callerA)
    (F : ∀ base : Heap, K.In base → base.Ns mainGlobals mg → FnOk P w K mg base CX k fa fd [x] sp) (hbind : ∀ (s : Shared) (u : Value), BindsTo s fd ⟨[u], []⟩ [(x, u)])
    (hsp : ∀ H : Hp, Only H → SqL K H a (ns.map V.int) → sp [.ref a] H (fun v _ => v = .bl true) fun _ _ _ => False)
    (hCX : ∀ H e s', CX [] H s₁ (fun _ _ _ => False) e s' → False) :
    codeAny (model P w) callerA (.call (.ref fa) ⟨[.ref a], []⟩) (fun r s' => r = .ok (.ret (.bool true)) ∧ OldK s₁.heap s'.heap ∧ s'.os = s₁.os ∧ AllBare s'.gens) s₁ := by
  have rv := qcu hi
  have lenV := hi.length
  have core : ∀ H : Hp, Only H → SqL K H a (ns.map V.int) → HOk P w H s₁.heap → (∀ b, H b ≠ none → b = a) → (H a ≠ none → K.lookup a = none) →
      codeAny (model P w) callerA (.call (.ref fa) ⟨[.ref a], []⟩) (fun r s' => r = .ok (.ret (.bool true)) ∧ OldK s₁.heap s'.heap ∧ s'.os = s₁.os ∧ AllBare s'.gens) s₁ := by
    intro H hO hS hok hA hK
    have base_of : ∀ {b : Addr} {o : Obj}, s₁.heap.get? b = some o → H b = none → (qey s₁.heap H).get? b = some o := fun e n => qeB e n
    have noA : ∀ {b : Addr} {o : Obj} {es : Array DictEntry} {ep : Nat}, s₁.heap.get? b = some o → o.data = .dict es ep → H b = none := fun {b o es ep} e d => by
      cases q : H b with
      | none => rfl
      | some u =>
        have e' : b = a := hA b (by rw [q]; simp)
        subst e'
        rw [ha] at e; cases e
        have d' : Data.seq vs.toArray _ = Data.dict es ep := d
        cases d'
    have nsK : ∀ {b : Addr} {m : Str → Option Value}, s₁.heap.Ns b m → (qey s₁.heap H).Ns b m := fun {b m} ⟨o, es, ep, e, d, r⟩ => ⟨o, es, ep, base_of e (noA e d), d, r⟩
    have hKb : K.In (qey s₁.heap H) := fun b o e => base_of (KX b o e) (by
      cases q : H b with
      | none => rfl
      | some u =>
        have e' : b = a := hA b (by rw [q]; simp)
        subst e'
        rw [hK (by rw [q]; simp)] at e; cases e)
    have hM : Mod K mg (qey s₁.heap H) := ⟨hKb, nsK hns, ⟨mb, nsK hb, hbb⟩, let ⟨mc, h1, h2⟩ := hlim; ⟨mc, nsK h1, h2⟩⟩
    have hSe : (qey s₁.heap H).NoSeer := ⟨let ⟨mc, a, b⟩ := hseer.statics; ⟨mc, nsK a, b⟩, let ⟨mc, a, b⟩ := hseer.mods; ⟨mc, nsK a, b⟩, let ⟨mc, a, b⟩ := hseer.imp; ⟨mc, nsK a, b⟩,
      let ⟨mg', bm, ob, a', b', c', d', e'⟩ := hseer.main; ⟨mg', bm, ob, nsK a', b', base_of c' (by
        cases q : H bm with
        | none => rfl
        | some u =>
          have z : bm = a := hA bm (by rw [q]; simp)
          subst z
          rw [ha] at c'; cases c'
          simp at d'), d', e'⟩⟩
    have e0 : Env0 P w K mg (qey s₁.heap H) callerA [] s₁ H := ⟨rfl, hM, fun b o e => qfg e, Nat.le_of_eq (qdO _ _), trivial, fun b hb => absurd (show b ∈ ([] : List Addr) from hb) (by simp), hok, .of_eq hg, hSe, htree⟩
    refine codeAny_mono ((F _ hKb (nsK hns)).run callerA [] s₁ H ⟨[.ref a], []⟩ [.ref a] [.ref a] _ _ hr e0 (hbind s₁ (.ref a)) (.cons rfl .nil) (hsp H hO hS)) fun r s' h => ?_
    cases r with
    | error e => exact (hCX H e s' h).elim
    | ok fl =>
      cases fl with
      | next => exact False.elim h
      | brk => exact False.elim h
      | cont => exact False.elim h
      | ret u =>
        obtain ⟨v, H', os, bare, un, hok', r', q⟩ := h
        have q' : v = .bl true := q
        subst q'
        obtain rfl : u = Value.bool true := r'
        refine ⟨rfl, OldK.of_keep fun b o e => ?_, os, bare⟩
        cases q : H b with
        | none => exact un.keep b o e q (by intro z; exact absurd (show b ∈ ([] : List Addr) from z) (by simp)) (by simp)
        | some u =>
          rcases hO b with z | ⟨ob, xs, z⟩
          · rw [q] at z; cases z
          · have z2 := un.frzs b ob _ z
            obtain ⟨e1, _⟩ := hok b _ z
            obtain ⟨e2, _⟩ := hok' b _ z2
            rw [e] at e1; cases e1
            exact e2
  cases hk : K.lookup a with
  | some o =>
    have e := KX a o hk
    rw [ha] at e
    cases e
    refine core (fun _ => none) (fun _ => .inl rfl) (.inr ⟨_, vs.toArray, _, hk, rfl, rfl, rfl, by rw [List.size_toArray, lenV]; exact hl, by simpa using rv⟩) (fun b u z => by have z' : (none : Option HO) = some u := z; cases z') (fun b z => absurd rfl z) fun z => absurd rfl z
  | none =>
    refine core (fun b => if b = a then some (.frz { cls := .type "list", data := .seq vs.toArray } (.lst (ns.map V.int))) else none) (fun b => ?_) (.inl (.inr ⟨{ cls := .type "list", data := .seq vs.toArray }, if_pos rfl⟩)) (fun b u z => ?_) (fun b z => ?_) fun _ => hk
    · by_cases hb : b = a
      · exact .inr ⟨_, _, if_pos hb⟩
      · exact .inl (if_neg hb)
    · by_cases hb : b = a
      · have z' := (if_pos hb).symm.trans z
        cases z'
        subst hb
        exact ⟨ha, by rw [List.length_map]; exact hl, vs, _, rv, ha⟩
      · have z' := (if_neg hb).symm.trans z
        cases z'
    · by_cases hb : b = a
      · exact hb
      · exact absurd (if_neg hb) z
end L2
namespace L2
open PySem PySem.Spec PyProof.Rows
theorem walk_of {l : PySem.W.OpenLaw} {n k : Nat} {q : Program} {loose : List Str} {XP : (Str → Option Value) → Heap → Prop} {YP : World → Heap → Prop} {d : DefRec} {K : Params → PySem.W.Frag} {CX : World → CXT} {sp : World → Sp} {x : Str}
    (hn : l.most = some n) (hn2 : n ≤ sizeLine) (hdf : d.params.defaults = []) (hq : importsNone q = true) (htree : ∀ w, (model l.prog w).prog.given.tree = none) (hr : Room k callerA)
    (hY : ∀ (w : World) (h : Heap), YP w h → (K w.params).In h)
    (F : ∀ (w : World) (mg : Str → Option Value) (fa : Addr) (h : Heap), (K w.params).In h → h.Ns mainGlobals mg → mg d.name = some (.ref fa) →
      ∃ fd : FuncData, (∀ (s : Shared) (u : Value), BindsTo s fd ⟨[u], []⟩ [(x, u)]) ∧
        ∀ base : Heap, (K w.params).In base → base.Ns mainGlobals mg → FnOk l.prog w (K w.params) mg base (CX w) k fa fd [x] (sp w))
    (hsp : ∀ (w : World) (H : Hp) (a : Addr) (ns : List Int), ns.length ≤ n → Only H → SqL (K w.params) H a (ns.map V.int) → sp w [.ref a] H (fun v _ => v = .bl true) fun _ _ _ => False)
    (hCX : ∀ (w : World) (H : Hp) (s : Shared) (e : Value) (s' : Shared), CX w [] H s (fun _ _ _ => False) e s' → False) :
    PySem.W.WalkO q loose XP YP l.row.toRowW d [] (fun f vs => PySem.call f vs) := by
  refine Att.attach_call hn hdf fun w s₀ s₁ mg mb fa o pm cd doc a vs ns G Y ho hd hcd hmg hobj hints hlen hg => ?_
  have KX := hY w _ Y
  obtain ⟨fd, hb, hF⟩ := F w mg fa _ KX G.T.g hmg
  exact qeJ KX G.T.g G.T.b G.T.builtins G.T.nolimit (G.T.seer hq) (htree w) hg hobj hints (Nat.le_trans hlen hn2) hr hF hb (fun H hO hS => hsp w H a ns hlen hO hS) fun H e s' => hCX w H s₁ e s'
end L2
namespace L2
open PySem PySem.Spec PyProof.Rows
noncomputable def qbg (s : Stmt) : Arguments := match s with
  | .FunctionDef _ a _ _ _ _ _ _ _ _ => a
  | _ => { posonlyargs := [], args := [], vararg := none, kwonlyargs := [], kw_defaults := [], kwarg := none, defaults := [] }
noncomputable def qa7 (s : Stmt) : List Stmt := match s with
  | .FunctionDef _ _ b _ _ _ _ _ _ _ => b
  | _ => []
noncomputable def qai (s : Stmt) : Scope := match s with
  | .FunctionDef _ _ _ _ _ _ sc _ _ _ => sc
  | _ => { kind := .function, names := [], isGenerator := false, isCoroutine := false }
noncomputable abbrev CX0 : CXT := fun _ _ _ _ _ _ => False
noncomputable abbrev E0 : XK := fun _ _ _ => False
theorem qgO {X : Cx} : Passes CX0 X E0 := fun _ _ _ _ _ _ _ h => h.elim
structure Fun (K : PySem.W.Frag) (x qual : Str) (st : Stmt) (f : Addr) (fd : FuncData) : Prop where
  ex : ∃ (oc : Value) (od : Option Addr) (kV doc pm : Value) (an : Option Addr) (cdv ct : Value) (osl : Array (Option Value)),
    fd = PySem.W.fnOf x qual (qbg st) (qa7 st) (qai st) .none kV doc pm an cdv ct ∧ K.lookup f = some ⟨oc, od, .func fd, osl⟩ ∧ PySem.W.codeIn K cdv qual = true
  kp : PySem.W.keepIn K (.ref f) = true
section
variable {P : Program} {w : World} {K : PySem.W.Frag} {mg : Str → Option Value} {base : Heap}
theorem Fun.ok {x qual : Str} {st : Stmt} {f : Addr} {fd : FuncData} {N ps : List Str} {k : Nat} {sp : Sp} (F : Fun K x qual st f fd) (S : FnScope N ps (qai st)) (len : ∀ vs H Q E, sp vs H Q E → vs.length = ps.length)
    (hbody : ∀ (cdv : Value) (A : Around) (outer : List Env) (s : Shared) (H : Hp) (vs : List V) (Q : VK) (E : XK), Room k (A.deeper (envOfC qual (qai st) s.heap.objs.size f cdv)) → sp vs H Q E →
      ∃ t, PSs (qfX CX0 P w K mg base N qual (qai st) f cdv A outer s H E).nox (qa7 st) t ∧ t { nx := fun _ H' => Q .non H', rt := Q } (start N vs) H) : FnOk P w K mg base CX0 (k + 1) f fd ps sp := by
  obtain ⟨oc, od, kV, doc, pm, an, cdv, ct, osl, rfl, lk, hcd⟩ := F.ex
  refine qgN lk hcd S len fun A outer s H vs Q E hr hsp => ?_
  obtain ⟨t, h, q⟩ := hbody cdv A outer s H vs Q E hr hsp
  exact ⟨t, h.nox, q⟩
theorem Fun.binds {x qual : Str} {st : Stmt} {f : Addr} {fd : FuncData} {ps : List Str} (F : Fun K x qual st f fd)
    (h : ∀ (kV doc pm : Value) (an : Option Addr) (cdv ct : Value) (us : List Value), us.length = ps.length → bindArgs (PySem.W.fnOf x qual (qbg st) (qa7 st) (qai st) .none kV doc pm an cdv ct) ⟨us, []⟩ = pure (ps.zip us)) : Binds K fd ps [] := by
  obtain ⟨oc, od, kV, doc, pm, an, cdv, ct, osl, rfl, lk, hcd⟩ := F.ex
  exact .all (h kV doc pm an cdv ct)
theorem qgl {x qual : Str} {st : Stmt} {f : Addr} {oc : Value} {od an : Option Addr} {osl : Array (Option Value)} {kV doc pm cdv ct : Value} (l : K.lookup f = some ⟨oc, od, .func (PySem.W.fnOf x qual (qbg st) (qa7 st) (qai st) .none kV doc pm an cdv ct), osl⟩)
    (c : PySem.W.codeIn K cdv qual = true) (k : PySem.W.keepIn K (.ref f) = true) : Fun K x qual st f (PySem.W.fnOf x qual (qbg st) (qa7 st) (qai st) .none kV doc pm an cdv ct) := ⟨⟨oc, od, kV, doc, pm, an, cdv, ct, osl, rfl, l, c⟩, k⟩
end
section
variable {X : Cx}
theorem pv (i : Nat) {x : Str} {pos : Pos} (hN : X.N[i]? = some x := by rfl) (hv : Vis X.env.scope x := by first | exact Or.inl rfl | exact Or.inr (Or.inl rfl) | exact Or.inr (Or.inr rfl)) (hd : (x == ("__debug__" : Str)) = false := by decide)
    (hcd : (x == ("__classdict__" : Str)) = false := by decide) : PE X (.Name x pos) (qah i) := qf5 hN hv hd hcd
end
theorem qcv {c A B : Prop} [Decidable c] (h1 : c → A) (h2 : ¬ c → B) : if c then A else B := by
  by_cases h : c
  · rw [if_pos h]
    exact h1 h
  · rw [if_neg h]
    exact h2 h
noncomputable def Same (H H' : Hp) : Prop := ∀ b o, H b = some o → H' b = some o
theorem Same.refl (H : Hp) : Same H H := fun _ _ h => h
theorem Same.trans {H H1 H2 : Hp} (a : Same H H1) (b : Same H1 H2) : Same H H2 := fun c o h => b c o (a c o h)
theorem Same.free {H H' : Hp} (e : Same H H') {l : Addr} (h : H' l = Option.none) : H l = Option.none := by
  cases q : H l with
  | none => rfl
  | some o =>
    rw [e l o q] at h
    cases h
theorem Same.seq {K : PySem.W.Frag} {H H' : Hp} {a : Addr} {xs : List V} (e : Same H H') (h : SqL K H a xs) : SqL K H' a xs := by
  rcases h with (h | ⟨o, h⟩) | h
  · exact .inl (.inl (e _ _ h))
  · exact .inl (.inr ⟨o, e _ _ h⟩)
  · exact .inr h
end L2
local macro_rules | `(tactic| omega) => `(tactic| lia)
namespace Bs.Hd
open PySem PySem.Spec PyProof.Rows L2
set_option maxRecDepth 100000
set_option maxHeartbeats 4000000
noncomputable def top (i:Nat):Stmt:=PySem.Challenge.pw_backslope_k82_log_numbers_written.main.body.getD i (.Pass ⟨0,0,0,0⟩)
noncomputable abbrev qb6:Stmt:=top 1
noncomputable abbrev qbN:Stmt:=top 3
noncomputable abbrev qaZ:Stmt:=top 6
noncomputable abbrev qa8:Stmt:=top 7
noncomputable abbrev qcM:Stmt:=top 8
noncomputable abbrev qaK:Stmt:=top 10
noncomputable abbrev qbh:Stmt:=top 11
noncomputable abbrev qcN:Stmt:=top 13
noncomputable abbrev qb7:Stmt:=top 14
noncomputable abbrev qbA:Stmt:=top 15
noncomputable abbrev qbB:Stmt:=top 16
noncomputable abbrev qaQ:Stmt:=top 17
noncomputable abbrev qa0:Stmt:=top 18
noncomputable abbrev qdn:Stmt:=top 19
noncomputable abbrev N:Value:=.none
noncomputable abbrev S (x:Str) (t:Tok):Value:=.str x t
noncomputable abbrev I (i:Int):Value:=.int i 0
noncomputable abbrev R (a:Addr):Value:=.ref a
noncomputable def en (P:Params) (k:Str) (t:Tok) (v:Value):DictEntry:=⟨PyData.keyHash P k,.str k t,v⟩
noncomputable def cdO (n:Str) (t:Tok) (l c u:Int) (a:Addr) (b g d e f:Value) (x:Int) (y:Tok):Obj:=⟨.type "code", none,.fields #[S n t,S n (t+1),S "/claim/cut.py" (t+2),I l,I c,I 0,I 0,I u,R a,.bool true,I 181,b,g,d,e,f,I x,I l,S "/claim/cut.py" y],#[]⟩
noncomputable def fnO (n:Str) (s:Stmt) (pm:Value) (c:Addr):Obj:=⟨.type "function", none,.func (PySem.W.fnOf n n (qbg s) (qa7 s) (qai s) .none .none .none pm none (.ref c) .none),#[]⟩
noncomputable abbrev mo0:Value:=S "backslope.wholes" 187
noncomputable abbrev mo1:Value:=S "backslope.numbers" 199
noncomputable abbrev mo2:Value:=S "backslope.texts" 208
noncomputable abbrev mo3:Value:=S "backslope.sheet" 238
noncomputable abbrev mo4:Value:=S "law_backslope_k82_log_numbers_written" 257
noncomputable def hp (P:Params):W.Frag:=[
  (3,⟨.type "dict", none,.dict #[en P "__name__" 165 (S "law_backslope_k82_log_numbers_written" 257),en P "__doc__" 166 N,en P "__package__" 167 N,en P "__loader__" 168 (.builtin "__main__.__loader__#opaque"),en P "__spec__" 169 N,en P "__annotations__" 170 (R 6),en P "__builtins__" 171 (R 4),en P "__file__" 173 (S "/claim/cut.py" 172),en P "__cached__" 174 N,en P "raised" 198 (R 21),en P "size_of" 207 (R 28),en P "FIGURES_AT_ONCE" 211 (.int 600 210),en P "show_number" 219 (R 35),en P "show_whole" 229 (R 42),en P "joint" 237 (R 49),en P "show_log_number" 245 (R 54),en P "with_logs" 256 (R 61),en P "_law_box" 268 (R 68),en P "_law_take" 278 (R 75),en P "_law_lowest" 288 (R 82),en P "_law_number" 296 (R 89),en P "_law_number_text" 303 (R 96),en P "_law_logs_text" 316 (R 103),en P "law" 322 (R 108)] 24,#[]⟩),
  (20,cdO "raised" 189 2 2 3 15 (R 16) N (R 17) (R 18) (R 19) 196 197),
  (21,fnO "raised" (top 1) mo0 20),
  (27,cdO "size_of" 201 13 1 3 22 (R 23) N (R 24) (R 25) (R 26) 205 206),
  (28,fnO "size_of" (top 3) mo1 27),
  (34,cdO "show_number" 212 17 1 3 29 (R 30) N (R 31) (R 32) (R 33) 217 218),
  (35,fnO "show_number" (top 6) mo2 34),
  (41,cdO "show_whole" 220 20 1 3 36 (R 37) N (R 38) (R 39) (R 40) 227 228),
  (42,fnO "show_whole" (top 7) mo2 41),
  (48,cdO "joint" 230 29 2 3 43 (R 44) N (R 45) (R 46) (R 47) 235 236),
  (49,fnO "joint" (top 8) mo2 48),
  (53,cdO "show_log_number" 240 34 1 3 50 (R 51) N N N (R 52) 243 244),
  (54,fnO "show_log_number" (top 10) mo3 53),
  (60,cdO "with_logs" 246 36 2 3 55 (R 56) N (R 57) (R 58) (R 59) 254 255),
  (61,fnO "with_logs" (top 11) mo3 60),
  (67,cdO "_law_box" 259 42 2 3 62 (R 63) N (R 64) (R 65) (R 66) 266 267),
  (68,fnO "_law_box" (top 13) mo4 67),
  (74,cdO "_law_take" 269 48 2 3 69 (R 70) N (R 71) (R 72) (R 73) 276 277),
  (75,fnO "_law_take" (top 14) mo4 74),
  (81,cdO "_law_lowest" 279 58 2 3 76 (R 77) N (R 78) (R 79) (R 80) 286 287),
  (82,fnO "_law_lowest" (top 15) mo4 81),
  (88,cdO "_law_number" 289 63 1 3 83 (R 84) N (R 85) (R 86) (R 87) 294 295),
  (89,fnO "_law_number" (top 16) mo4 88),
  (95,cdO "_law_number_text" 297 72 1 3 90 (R 91) N (R 92) (R 93) (R 94) 301 302),
  (96,fnO "_law_number_text" (top 17) mo4 95),
  (102,cdO "_law_logs_text" 304 76 3 3 97 (R 98) N (R 99) (R 100) (R 101) 314 315),
  (103,fnO "_law_logs_text" (top 18) mo4 102),
  (107,cdO "law" 317 87 1 3 104 (R 105) N N N (R 106) 320 321),
  (108,fnO "law" (top 19) mo4 107)]
noncomputable def as:List Addr:=[3,20,21,27,28,34,35,41,42,48,49,53,54,60,61,67,68,74,75,81,82,88,89,95,96,102,103,107,108]
noncomputable def vw:Program:=PySem.W.view PySem.Challenge.pw_backslope_k82_log_numbers_written [1,3,5,6,7,8,10,11,13,14,15,16,17,18,19]
noncomputable def hk:PySem.W.Hook:=PySem.W.kHook hp as (fun _=>by kernel_rfl)
theorem left:PySem.W.LeftO PySem.Challenge.pw_backslope_k82_log_numbers_written vw [] (fun s=>PySem.W.xlAt vw [] s && PySem.W.recOk (PySem.W.RowW.records (PySem.W.OpenRow.toRowW (PySem.W.OpenLaw.row PySem.Challenge.rw_backslope_k82_log_numbers_written))) s) hk.obs hk.val 1090:=fun w=>by kernel_rfl
end Bs.Hd
namespace Bs
noncomputable def Bd (n:Nat) (x:Int):Prop:=x.natAbs<2 ^ n
theorem Bd.mono {m n:Nat} {x:Int} (h:Bd m x) (hn:m≤n):Bd n x:=Nat.lt_of_lt_of_le h (Nat.pow_le_pow_right (by decide) hn)
theorem Bd.le {n:Nat} {x y:Int} (h:Bd n x) (hy:y.natAbs≤x.natAbs):Bd n y:=Nat.lt_of_le_of_lt hy h
theorem Bd.mul {m n:Nat} {x y:Int} (h:Bd m x) (h':Bd n y):Bd (m+n) (x*y):=by
  unfold Bd at *
  rw [Int.natAbs_mul,Nat.pow_add]
  exact Nat.mul_lt_mul'' h h'
theorem qeK {x:Int} (h1:-18446744073709551616<x) (h2:x<18446744073709551616):Bd 64 x:=by
  unfold Bd
  have:(2:Nat) ^ 64=18446744073709551616:=by decide
  rw [this];omega
theorem Bd.log2 {n:Nat} {x:Int} (h:Bd n x) (hn:0<n):x.natAbs.log2<n:=by
  unfold Bd at h
  rcases Nat.eq_zero_or_pos x.natAbs with h0 | hp
  · rw [h0];simpa using hn
  · exact (Nat.log2_lt (Nat.ne_of_gt hp)).mpr h
structure Low (t d:Int):Prop where
  pos:0<d
  one:Int.gcd t d=1
theorem qeL (a b:Int):Int.gcd b (a.fmod b)=Int.gcd a b:=by
  have e:a.fmod b=a - b*a.fdiv b:=Int.fmod_def a b
  rw [e]
  apply Nat.dvd_antisymm
  · apply Int.dvd_gcd
    · have h1:=Int.gcd_dvd_left b (a - b*a.fdiv b)
      have h2:=Int.gcd_dvd_right b (a - b*a.fdiv b)
      have h3:=Int.dvd_add h2 (Int.dvd_mul_of_dvd_left (c:=a.fdiv b) h1)
      rw [Int.sub_add_cancel] at h3
      exact h3
    · exact Int.gcd_dvd_left b _
  · apply Int.dvd_gcd
    · exact Int.gcd_dvd_right a b
    · exact Int.dvd_sub (Int.gcd_dvd_left a b) (Int.dvd_mul_of_dvd_left (Int.gcd_dvd_right a b))
theorem qeM (a:Int) {b:Int} (h:0≤b):Int.gcd b (a % b)=Int.gcd a b:=by
  rw [← Int.fmod_eq_emod_of_nonneg a h,qeL]
theorem qdo {a b s:Int} (hb:b≠0) (hs:s=if b<0 then -((Int.gcd a b:Nat):Int) else ((Int.gcd a b:Nat):Int)) :
    s≠0∧s.natAbs≤b.natAbs∧Low (a.fdiv s) (b.fdiv s)∧a.fdiv s*b=a*b.fdiv s∧(a.fdiv s).natAbs≤a.natAbs∧(b.fdiv s).natAbs≤b.natAbs:=by
  have g0:0<Int.gcd a b:=Int.gcd_pos_of_ne_zero_right a hb
  have sn:s.natAbs=Int.gcd a b:=by rw [hs];split <;> simp
  have s0:s≠0:=by intro z;rw [z] at sn;simp at sn;omega
  have da:s∣a:=by
    rw [← Int.natAbs_dvd,sn];exact Int.gcd_dvd_left a b
  have db:s∣b:=by
    rw [← Int.natAbs_dvd,sn];exact Int.gcd_dvd_right a b
  obtain ⟨t,rfl⟩:=da
  obtain ⟨d,rfl⟩:=db
  rw [Int.mul_fdiv_cancel_left _ s0,Int.mul_fdiv_cancel_left _ s0]
  have d0:d≠0:=by rintro rfl;simp at hb
  have sp:1≤s.natAbs:=by omega
  have gd:Int.gcd t d=1:=by
    rw [Int.gcd_mul_left] at sn
    have h2:s.natAbs*Int.gcd t d=s.natAbs*1:=by omega
    exact Nat.eq_of_mul_eq_mul_left sp h2
  have dp:0<d:=by
    by_cases h:s*d<0
    · rw [if_pos h] at hs
      have sneg:s<0:=by omega
      rcases Int.lt_or_gt_of_ne d0 with h' | h'
      · have:=Int.mul_pos_of_neg_of_neg sneg h';omega
      · exact h'
    · rw [if_neg h] at hs
      have spos:0<s:=by omega
      rcases Int.lt_or_gt_of_ne d0 with h' | h'
      · have:=Int.mul_neg_of_pos_of_neg spos h';omega
      · exact h'
  have le1:∀ y:Int,y.natAbs≤(s*y).natAbs:=fun y=>by
    rw [Int.natAbs_mul];exact Nat.le_mul_of_pos_left _ sp
  refine ⟨s0,?_,⟨dp,gd⟩,?_,le1 t,le1 d⟩
  · rw [Int.natAbs_mul];exact Nat.le_mul_of_pos_right _ (by omega)
  · grind
theorem qbO {a b:Int} (hb:0<b):Low (a / ((Int.gcd a b:Nat):Int)) (b / ((Int.gcd a b:Nat):Int))∧(a / ((Int.gcd a b:Nat):Int)).natAbs≤a.natAbs∧(b / ((Int.gcd a b:Nat):Int)).natAbs≤b.natAbs∧0<((Int.gcd a b:Nat):Int)∧((Int.gcd a b:Nat):Int)≤b:=by
  have g0:0<Int.gcd a b:=Int.gcd_pos_of_ne_zero_right a (by omega)
  obtain ⟨_,h1,h2,h3,h4,h5⟩:=qdo (a:=a) (b:=b) (s:=((Int.gcd a b:Nat):Int)) (by omega) (by rw [if_neg (by omega)])
  rw [Int.fdiv_eq_ediv_of_nonneg _ (by omega),Int.fdiv_eq_ediv_of_nonneg _ (by omega)] at h2
  rw [Int.fdiv_eq_ediv_of_nonneg _ (by omega)] at h4 h5
  exact ⟨h2,h4,h5,by omega,by omega⟩
end Bs
namespace Bs
open PySem L2
noncomputable def qgD (_ j:Int):Prop:=0<j∧Bd 9000 j
noncomputable def qhd (_ j:Int):Prop:=j≠0∧Bd 9000 j
noncomputable def qgP (i j:Int):Prop:=0≤j∧j≤1000000∧i.natAbs<2 ^ 64
noncomputable abbrev qeN:R2:=rI0 fun i j=>.int (i+j)
noncomputable abbrev qgm:R2:=rI0 fun i j=>.int (i - j)
noncomputable abbrev qdL:R2:=rI IntMulOk fun i j=>.int (i*j)
noncomputable abbrev qb8:R2:=rI qgD fun i j=>.int (i / j)
noncomputable abbrev qgQ:R2:=rI qhd fun i j=>.int (i.fdiv j)
noncomputable abbrev qeA:R2:=rI (fun _ j=>0<j) fun i j=>.int (i % j)
noncomputable abbrev qgR:R2:=rI (fun _ j=>j≠0) fun i j=>.int (i.fmod j)
noncomputable abbrev qhe:R2:=rI qgP fun i j=>.int (i ^ j.toNat)
noncomputable abbrev iLt:R2:=rI0 fun i j=>.bl (decide (i<j))
noncomputable abbrev iLe:R2:=rI0 fun i j=>.bl (decide (i≤j))
noncomputable abbrev iGt:R2:=rI0 fun i j=>.bl (decide (j<i))
noncomputable abbrev iGe:R2:=rI0 fun i j=>.bl (decide (j≤i))
noncomputable abbrev qhf:V→Hp→VK→Prop:=rU fun i=>.int (-i)
noncomputable def gT:R2:=fun x y H Q=>∃ p i xs v,x=.ref p∧y=.int i∧H p=some (.tup xs)∧atI xs i=some v∧Q v H
noncomputable def gL:R2:=fun x y H Q=>∃ p i xs v,x=.ref p∧y=.int i∧H p=some (.lst xs)∧atI xs i=some v∧Q v H
noncomputable def gS (K:W.Frag):R2:=fun x y H Q=>∃ p i xs v,x=.ref p∧y=.int i∧SqL K H p xs∧atI xs i=some v∧Q v H
noncomputable def qeO:List V→Hp→VK→Prop:=fun xs H Q=>∃ i,xs=[.int i]∧Q (.int (if i<0 then -i else i)) H
noncomputable def qgS:List V→Hp→VK→Prop:=fun xs H Q=>∃ i j,xs=[.int i,.int j]∧Q (.int (if j > i then j else i)) H
noncomputable def qgT:List V→Hp→VK→Prop:=fun xs H Q=>∃ i j,xs=[.int i,.int j]∧Q (.int (if j<i then j else i)) H
noncomputable def qec:List V→Hp→VK→Prop:=fun xs H Q=>∃ k,xs=[.bl k]∧Q (.int (if k=true then 1 else 0)) H
noncomputable def qgU:List V→Hp→VK→Prop:=fun xs H Q=>∃ p ys,xs=[.ref p]∧H p=some (.tup ys)∧Q (.int ys.length) H
noncomputable def qfs:List V→Hp→VK→Prop:=fun xs H Q=>∃ p ys,xs=[.ref p]∧H p=some (.lst ys)∧Q (.int ys.length) H
noncomputable def qed (K:W.Frag):List V→Hp→VK→Prop:=fun xs H Q=>∃ p ys,xs=[.ref p]∧SqL K H p ys∧Q (.int ys.length) H
noncomputable def qhg:Option HO→String→Option Bool
  | some (.tup _),n=>if n = "tuple" then some true else if n = "bool" ∨ n = "int" ∨ n = "list" then some false else none
  | some (.lst _),n=>if n = "list" then some true else if n = "bool" ∨ n = "int" ∨ n = "tuple" then some false else none
  | _,_=>none
noncomputable def qgE (H:Hp):V→String→Option Bool
  | .int _,n=>if n = "int" then some true else if n = "bool" ∨ n = "tuple" ∨ n = "list" then some false else none
  | .bl _,n=>if n = "int" ∨ n = "bool" then some true else if n = "tuple" ∨ n = "list" then some false else none
  | .ref p,n=>qhg (H p) n
  | _,_=>none
noncomputable def qhh:List V→Hp→VK→Prop:=fun xs H Q=>∃ x n b,xs=[x,.ty n]∧qgE H x n=some b∧Q (.bl b) H
theorem qft (H:Hp) (i:Int):qgE H (.int i) "int" = some true:=rfl
theorem qcw (H:Hp) (i:Int):qgE H (.int i) "bool" = some false:=rfl
theorem qgn (H:Hp) (b:Bool):qgE H (.bl b) "bool" = some true:=rfl
noncomputable def qg3:V→Bool
  | .int _=>true
  | _=>false
noncomputable def eqT:R2:=fun x y H Q=>∃ a b xs ys,x=.ref a∧y=.ref b∧H a=some (.tup xs)∧H b=some (.tup ys)∧xs.all qg3=true∧ys.all qg3=true∧Q (.bl (decide (xs=ys))) H
noncomputable def ForR (lo:Int) (n:Nat) (g:TG) (tb:TS) (D:Ends) (σ:St) (H:Hp):Prop:=∃ W:Nat→Nat→St→Hp→Prop,(∃ m,W 0 m σ H)∧∀ i m σ H,W i m σ H→
  ((Itr lo n).stop i H∧D.nx σ H)∨((Itr lo n).go i H∧∃ N:St→Hp→Prop,(∀ σ' H',N σ' H'→∃ m',m'<m∧W (i+1) m' σ' H')∧∀ x H',(Itr lo n).yld i H x H'→g x σ H' fun σ2 H2=>tb { D with nx:=N,ct:=N,bk:=D.nx } σ2 H2)
theorem qee {ta:TA} {g:TG} {tb:TS} {D:Ends} {σ:St} {H:Hp}:qeF (qeE ta) g tb D σ H=ta σ H (fun vs H1=>∃ j:Int,vs=[.int j]∧-(2 ^ 62)≤j∧j<2 ^ 62∧ForR 0 j.toNat g tb D σ H1):=rfl
theorem qfu {ta:TA} {g:TG} {tb:TS} {D:Ends} {σ:St} {H:Hp}:qeF (qgJ ta) g tb D σ H=ta σ H (fun vs H1=>∃ i j:Int,vs=[.int i,.int j]∧(-(2 ^ 62)≤i∧i<2 ^ 62∧-(2 ^ 62)≤j∧j<2 ^ 62)∧ForR i (j - i).toNat g tb D σ H1):=rfl
theorem ForR.by {lo:Int} {n:Nat} {g:TG} {tb:TS} {D:Ends} {σ:St} {H:Hp} (Pv:Nat→St→Hp→Prop) (h0:Pv 0 σ H)
    (hs:∀ i σ H,i<n→Pv i σ H→g (.int (lo+i)) σ H fun σ2 H2=>tb { D with nx:=Pv (i+1),ct:=Pv (i+1),bk:=D.nx } σ2 H2) (hd:∀ σ H,Pv n σ H→D.nx σ H):ForR lo n g tb D σ H:=qdX Pv h0 hs hd
noncomputable def ForT (K:W.Frag) (a:Addr) (g:TG) (tb:TS) (D:Ends) (σ:St) (H:Hp):Prop:=∃ W:Nat→Nat→St→Hp→Prop,(∃ m,W 0 m σ H)∧∀ i m σ H,W i m σ H→
  ((Itt K a).stop i H∧D.nx σ H)∨((Itt K a).go i H∧∃ N:St→Hp→Prop,(∀ σ' H',N σ' H'→∃ m',m'<m∧W (i+1) m' σ' H')∧∀ x H',(Itt K a).yld i H x H'→g x σ H' fun σ2 H2=>tb { D with nx:=N,ct:=N,bk:=D.nx } σ2 H2)
noncomputable def ForL (K:W.Frag) (a:Addr) (g:TG) (tb:TS) (D:Ends) (σ:St) (H:Hp):Prop:=∃ W:Nat→Nat→St→Hp→Prop,(∃ m,W 0 m σ H)∧∀ i m σ H,W i m σ H→
  ((Itl K a).stop i H∧D.nx σ H)∨((Itl K a).go i H∧∃ N:St→Hp→Prop,(∀ σ' H',N σ' H'→∃ m',m'<m∧W (i+1) m' σ' H')∧∀ x H',(Itl K a).yld i H x H'→g x σ H' fun σ2 H2=>tb { D with nx:=N,ct:=N,bk:=D.nx } σ2 H2)
theorem qgo {K:W.Frag} {tl:TE} {g:TG} {tb:TS} {D:Ends} {σ:St} {H:Hp}:qeF (qgd K tl) g tb D σ H=tl σ H (fun x H1=>∃ a,x=.ref a∧(∃ xs,SqT K H1 a xs)∧ForT K a g tb D σ H1):=rfl
theorem qgp {K:W.Frag} {tl:TE} {g:TG} {tb:TS} {D:Ends} {σ:St} {H:Hp}:qeF (qcI K tl) g tb D σ H=tl σ H (fun x H1=>∃ a,x=.ref a∧(∃ xs,SqL K H1 a xs)∧ForL K a g tb D σ H1):=rfl
theorem ForT.by {K:W.Frag} {a:Addr} {xs:List V} {g:TG} {tb:TS} {D:Ends} {σ:St} {H:Hp} (Pv:Nat→St→Hp→Prop) (h0:Pv 0 σ H) (hl:∀ i σ H,i≤xs.length→Pv i σ H→H a=some (.tup xs))
    (hs:∀ i x σ H,xs[i]?=some x→Pv i σ H→g x σ H fun σ2 H2=>tb { D with nx:=Pv (i+1),ct:=Pv (i+1),bk:=D.nx } σ2 H2) (hd:∀ σ H,Pv xs.length σ H→D.nx σ H):ForT K a g tb D σ H:=
  qfm Pv h0 (fun i σ H h p=>SqT.of (hl i σ H h p)) hs hd
theorem ForL.by {K:W.Frag} {a:Addr} {xs:List V} {g:TG} {tb:TS} {D:Ends} {σ:St} {H:Hp} (Pv:Nat→St→Hp→Prop) (h0:Pv 0 σ H) (hl:∀ i σ H,i≤xs.length→Pv i σ H→SqL K H a xs)
    (hs:∀ i x σ H,xs[i]?=some x→Pv i σ H→g x σ H fun σ2 H2=>tb { D with nx:=Pv (i+1),ct:=Pv (i+1),bk:=D.nx } σ2 H2) (hd:∀ σ H,Pv xs.length σ H→D.nx σ H):ForL K a g tb D σ H:=
  qeG Pv h0 hl hs hd
theorem while_by {c:TT} {tb:TS} {D:Ends} {σ:St} {H:Hp} (W:Nat→St→Hp→Prop) (m:Nat) (h0:W m σ H)
    (hs:∀ m σ H,W m σ H→c σ H fun b H1=>if b=true then ∃ N:St→Hp→Prop,(∀ σ' H',N σ' H'→∃ m',m'<m∧W m' σ' H')∧tb { D with nx:=N,ct:=N,bk:=D.nx } σ H1 else D.nx σ H1):qb1 c tb D σ H:=⟨W,⟨m,h0⟩,hs⟩
noncomputable def Kp (p:Addr) (H H':Hp):Prop:=∀ b o,b≠p→H b=some o→H' b=some o
theorem Kp.trans {p:Addr} {H H1 H2:Hp} (a:Kp p H H1) (b:Kp p H1 H2):Kp p H H2:=fun c o n h=>b c o n (a c o n h)
theorem Kp.same {p:Addr} {H H1 H2:Hp} (a:Kp p H H1) (b:Same H1 H2):Kp p H H2:=fun c o n h=>b c o (a c o n h)
theorem Kp.upd {p:Addr} {H:Hp} {o:HO}:Kp p H (upd H p o):=fun b u n h=>by rw [qap n];exact h
theorem qak {H:Hp} {p:Addr} (h:H p=none) (o:HO):Same H (upd H p o):=fun b u q=>by rw [qap (qam q h)];exact q
theorem Kp.new {p:Addr} {H H1:Hp} (a:Kp p H H1) (h:H p=none):Same H H1:=fun b o q=>a b o (qam q h) q
theorem Kp.seq {K:W.Frag} {p:Addr} {H H':Hp} {a:Addr} {xs:List V} (e:Kp p H H') (n:a≠p) (h:SqL K H a xs):SqL K H' a xs:=by
  rcases h with (h | ⟨o,h⟩) | h
  · exact .inl (.inl (e _ _ n h))
  · exact .inl (.inr ⟨o,e _ _ n h⟩)
  · exact .inr h
theorem sz {n:Nat} (h:n≤1000000):n≤sizeLine:=by rw [sizeLine_eq];omega
end Bs
namespace Bs
open PySem L2
theorem qeP {α:Type} (a b:α):atI [a,b] 0=some a:=rfl
theorem qeQ {α:Type} (a b:α):atI [a,b] 1=some b:=rfl
theorem qdp {α:Type} (a b c:α):atI [a,b,c] 0=some a:=rfl
theorem qdq {α:Type} (a b c:α):atI [a,b,c] 1=some b:=rfl
theorem qdr {α:Type} (a b c:α):atI [a,b,c] 2=some c:=rfl
theorem qfv (a b:Int):scal (.int a) (.int b)=true:=rfl
theorem qfw (a b:Bool):scal (.bl a) (.bl b)=true:=rfl
theorem qds:ixN 3 0=some 0:=rfl
theorem qdt:ixN 3 2=some 2:=rfl
end Bs
namespace Bs
open PySem PySem.Spec PyProof.Rows L2
theorem qbP:bootBuiltins "abs" = some (.builtin "abs"):=by decide +kernel
theorem qc8:bootBuiltins "len" = some (.builtin "len"):=by decide +kernel
theorem qgq:bootBuiltins "max" = some (.builtin "max"):=by decide +kernel
theorem qgr:bootBuiltins "min" = some (.builtin "min"):=by decide +kernel
theorem qb9:bootBuiltins "isinstance" = some (.builtin "isinstance"):=by decide +kernel
theorem qef:bootBuiltins "int" = some (.type "int"):=by decide +kernel
theorem qeR:bootBuiltins "tuple" = some (.type "tuple"):=by decide +kernel
theorem qcO:bootBuiltins "reversed" = some (.type "reversed"):=by decide +kernel
section
variable {X:Cx}
theorem qeg {n:Nat} {x:Int} (h:Bd n x):Builtin.Int.intBits x≤n:=by
  unfold Builtin.Int.intBits
  split
  · exact Nat.zero_le _
  · rename_i h0
    have hn:x.natAbs≠0:=fun z=>h0 (by have e:x=0:=by omega
                                      subst e;rfl)
    have:=(Nat.log2_lt hn).mpr h
    omega
theorem qbi:OpR X (binaryOp .Mult) qdL:=opI fun _ _ _ _ _ _ _ hc q=>mul_int q hc
theorem qc9:OpR X (inplaceOp .Mult) qdL:=opI fun _ _ _ _ _ _ _ hc q=>imul_int q hc
theorem qbo:OpR X (binaryOp .FloorDiv) qb8:=opI fun i j _ _ _ _ _ hc q=>by
  refine floordiv_int (Int.ne_of_gt hc.1) ?_ (.inl (PyProof.noPylong_of_log2 (hc.2.log2 (by decide))))
  rw [Int.fdiv_eq_ediv_of_nonneg i (Int.le_of_lt hc.1)]
  exact q
theorem qar:IxR X gT:=by
  intro value slice pins s σ H x y v u Q I rx ry h hs
  obtain ⟨p,i,xs,w,e1,e2,hp,ha,q⟩:=h
  exact qgi value slice pins s σ H x y v u Q I rx ry ⟨p,xs,i,w,e1,e2,SqT.of hp,ha,q⟩ hs
theorem qa1:IxR X gL:=by
  intro value slice pins s σ H x y v u Q I rx ry h hs
  obtain ⟨p,i,xs,w,e1,e2,hp,ha,q⟩:=h
  exact qd9 value slice pins s σ H x y v u Q I rx ry ⟨p,xs,i,w,e1,e2,SqL.of hp,ha,q⟩ hs
theorem qcx:IxR X (gS X.K):=by
  intro value slice pins s σ H x y v u Q I rx ry h hs
  obtain ⟨p,i,xs,w,e1,e2,hp,ha,q⟩:=h
  exact qd9 value slice pins s σ H x y v u Q I rx ry ⟨p,xs,i,w,e1,e2,hp,ha,q⟩ hs
theorem qaR:qa4 X (.builtin "abs") qeO:=qeH
theorem qeh (hc:X.calm=true):qa4 X (.builtin "max") qgS:=qd1 hc
theorem qei (hc:X.calm=true):qa4 X (.builtin "min") qgT:=qd2 hc
theorem qbQ:qa4 X (.type "int") qec:=fun pins s σ H xs us Q I r h=>qd3 pins s σ H xs us Q I r (.inr h)
theorem qej:qa4 X (.builtin "len") qfs:=fun pins s σ H xs us Q I r h=>by
  obtain ⟨p,ys,e,hp,q⟩:=h
  exact qbH pins s σ H xs us Q I r ⟨p,ys,e,.inl (SqL.of hp),q⟩
theorem qbR:qa4 X (.builtin "len") (qed X.K):=fun pins s σ H xs us Q I r h=>by
  obtain ⟨p,ys,e,hp,q⟩:=h
  exact qbH pins s σ H xs us Q I r ⟨p,ys,e,.inl hp,q⟩
theorem qeS (K:W.Frag) (n:String):PySem.W.kitOne K (.type n) (.type n)=some true:=by
  unfold PySem.W.kitOne
  rw [if_pos (beq_self_eq_true _)]
end
structure Cal (P:Program) (w:World) (K:W.Frag) (mg:Str→Option Value) (base:Heap) (n:Nat) (x:Str) (ps:List Str) (sp:Sp):Prop where
  ex:∃ (f:Addr) (fd:FuncData),FnOk P w K mg base CX0 n f fd ps sp∧Binds K fd ps []∧PySem.W.keepIn K (.ref f)=true∧mg x=some (.ref f)
theorem Cal.pe {X:Cx} {n m:Nat} {x:Str} {ps:List Str} {sp:Sp} {e:Expr} {es:List Expr} {t:TA} {p pos:Pos} (C:Cal X.prog X.w X.K X.mg X.base n x ps sp) (hr:Room m X.A) (hn:n≤m) (hg:Gl X x) (ha:PA X (e::es) t)
    (hdb:(x == ("__debug__" : Str))=false:=by decide) (he:starEach (e::es) X.env=(false,eval e X.env)::starEach es X.env:=by rfl) (hpl:(backTo pos (starEach es X.env)).any (·.1)=false:=by rfl) :
    PE X (.Call (.Name x p) (e::es) [] pos) (qaB sp [] E0 t):=by
  obtain ⟨f,fd,F,b,k,m⟩:=C.ex
  exact qfp F (hr.mono hn) hg m k b .nil qgO ha hdb he hpl
end Bs
namespace Bs
open PySem L2
noncomputable def qbC (capt:List (Option Nat)) (σ:L2.St):L2.St:=capt.map fun o=>o.bind fun j=>(σ[j]?).join
noncomputable def qcy (wi:TI) (capt:List (Option Nat)) (g:TG) (te:TE):TE:=fun σ H Q=>wi σ H fun J H1=>∃ (n:Nat) (W:Nat→List V→Hp→Prop),W 0 [] H1∧∀ i ys H,W i ys H→i≤n∧ys.length≤sizeLine∧
  ((J.stop i H∧∀ p,H p=none→Q (.ref p) (upd H p (.lst ys)))∨(i<n∧J.go i H∧∀ x H',J.yld i H x H'→g x (qbC capt σ) H' fun σ2 H2=>te σ2 H2 fun y H3=>W (i+1) (ys++[y]) H3))
noncomputable def CompJ (J:It) (capt:List (Option Nat)) (g:TG) (te:TE) (σ:L2.St) (Q:VK) (H1:Hp):Prop:=∃ (n:Nat) (W:Nat→List V→Hp→Prop),W 0 [] H1∧∀ i ys H,W i ys H→i≤n∧ys.length≤sizeLine∧
  ((J.stop i H∧∀ p,H p=none→Q (.ref p) (upd H p (.lst ys)))∨(i<n∧J.go i H∧∀ x H',J.yld i H x H'→g x (qbC capt σ) H' fun σ2 H2=>te σ2 H2 fun y H3=>W (i+1) (ys++[y]) H3))
section
variable {K:W.Frag} {ta:TA} {tl:TE} {capt:List (Option Nat)} {g:TG} {te:TE} {σ:L2.St} {H:Hp} {Q:VK}
theorem qfx:qcy (qgd K tl) capt g te σ H Q=tl σ H (fun x H1=>∃ a,x=.ref a∧(∃ xs,SqT K H1 a xs)∧CompJ (Itt K a) capt g te σ Q H1):=rfl
theorem qfy:qcy (qcI K tl) capt g te σ H Q=tl σ H (fun x H1=>∃ a,x=.ref a∧(∃ xs,SqL K H1 a xs)∧CompJ (Itl K a) capt g te σ Q H1):=rfl
theorem CompJ.range {lo:Int} {n:Nat} (W:Nat→List V→Hp→Prop) (h0:W 0 [] H) (hb:∀ i ys H,W i ys H→i≤n∧ys.length≤sizeLine)
    (hs:∀ i ys H,i<n→W i ys H→g (.int (lo+i)) (qbC capt σ) H fun σ2 H2=>te σ2 H2 fun y H3=>W (i+1) (ys++[y]) H3) (hd:∀ ys H,W n ys H→∀ p,H p=none→Q (.ref p) (upd H p (.lst ys))):CompJ (Itr lo n) capt g te σ Q H:=by
  refine ⟨n,W,h0,fun i ys H w=>⟨(hb i ys H w).1,(hb i ys H w).2,?_⟩⟩
  by_cases h:i<n
  · refine .inr ⟨h,h,fun x H' y=>?_⟩
    obtain ⟨e,y⟩:=y
    subst e y
    exact hs i ys _ h w
  · have e:i=n:=Nat.le_antisymm (hb i ys H w).1 (Nat.not_lt.mp h)
    subst e
    exact .inl ⟨Nat.le_refl _,hd ys H w⟩
theorem CompJ.tup {a:Addr} {xs:List V} (W:Nat→List V→Hp→Prop) (h0:W 0 [] H) (hb:∀ i ys H,W i ys H→i≤xs.length∧ys.length≤sizeLine∧H a=some (.tup xs))
    (hs:∀ i x ys H,xs[i]?=some x→W i ys H→g x (qbC capt σ) H fun σ2 H2=>te σ2 H2 fun y H3=>W (i+1) (ys++[y]) H3) (hd:∀ ys H,W xs.length ys H→∀ p,H p=none→Q (.ref p) (upd H p (.lst ys))):CompJ (Itt K a) capt g te σ Q H:=by
  refine ⟨xs.length,W,h0,fun i ys H w=>⟨(hb i ys H w).1,(hb i ys H w).2.1,?_⟩⟩
  have q:SqT K H a xs:=SqT.of (hb i ys H w).2.2
  by_cases h:i<xs.length
  · refine .inr ⟨h,⟨xs,xs[i],q,by simp [h]⟩,fun x H' y=>?_⟩
    obtain ⟨e,y⟩:=y
    subst e
    exact hs i x ys _ (y xs q) w
  · have e:i=xs.length:=Nat.le_antisymm (hb i ys H w).1 (Nat.not_lt.mp h)
    subst e
    exact .inl ⟨⟨xs,q,Nat.le_refl _⟩,hd ys H w⟩
theorem CompJ.lst {a:Addr} {xs:List V} (W:Nat→List V→Hp→Prop) (h0:W 0 [] H) (hb:∀ i ys H,W i ys H→i≤xs.length∧ys.length≤sizeLine∧SqL K H a xs)
    (hs:∀ i x ys H,xs[i]?=some x→W i ys H→g x (qbC capt σ) H fun σ2 H2=>te σ2 H2 fun y H3=>W (i+1) (ys++[y]) H3) (hd:∀ ys H,W xs.length ys H→∀ p,H p=none→Q (.ref p) (upd H p (.lst ys))):CompJ (Itl K a) capt g te σ Q H:=by
  refine ⟨xs.length,W,h0,fun i ys H w=>⟨(hb i ys H w).1,(hb i ys H w).2.1,?_⟩⟩
  have q:SqL K H a xs:=(hb i ys H w).2.2
  by_cases h:i<xs.length
  · refine .inr ⟨h,⟨xs,xs[i],q,by simp [h]⟩,fun x H' y=>?_⟩
    obtain ⟨e,y⟩:=y
    subst e
    exact hs i x ys _ (y xs q) w
  · have e:i=xs.length:=Nat.le_antisymm (hb i ys H w).1 (Nat.not_lt.mp h)
    subst e
    exact .inl ⟨⟨xs,q,Nat.le_refl _⟩,hd ys H w⟩
end
section
variable {K:W.Frag} {ta:TA} {g:TG} {tb:TS} {D:Ends} {σ:L2.St} {H:Hp} {a:Addr} {xs:List V}
end
end Bs
namespace Bs
open PySem PySem.Spec PyProof.Rows L2
noncomputable def blk (X:Cx) (N:List Str) (scope:Scope) (cl:List (Str×Addr)) (C:Addr) (s:Shared) (H:Hp) (fp:List Addr):Cx:=
  { X with N:=N,s₀:=s,H₀:=H,env:=compEnvC scope cl C X.env,outer:=X.stack,stack:=X.stack,ex:=fp,fn:=fun _=>false,pn:=[],xe:=fun _ _=>False }
structure BlkOk (X:Cx) (N:List Str) (capt:List (Option Nat)) (scope:Scope) (cl:List (Str×Addr)):Prop where
  kind:scope.kind=.function
  clos:closureFor scope X.env=pure cl
  nocell:∀ y∈scope.names,y.2≠.cell
  names:∀ y∈scope.names,y.2=.local→scope.names.lookup y.1=some .local
  cells:∀ y c,cl.lookup y=some c→X.env.cells.lookup y=some c
  has:∀ y,((relabel scope X.env).names.lookup y=some .cell∨(relabel scope X.env).names.lookup y=some .free)→∃ c,cl.lookup y=some c
  cap:∀ (i:Nat) (x:Str) (j:Nat),N[i]?=some x→capt[i]?=some (some j)→X.N[j]?=some x∧Vis X.env.scope x∧X.env.kindOf x≠some .local∧((relabel scope X.env).names.lookup x=some .cell∨(relabel scope X.env).names.lookup x=some .free)
  len:capt.length=N.length
section
variable {X:Cx} {pins:List (Addr×Obj)} {σ:L2.St} {H:Hp} {s:Shared} {N:List Str} {capt:List (Option Nat)} {scope:Scope} {cl:List (Str×Addr)} {C:Addr} {fp:List Addr}
theorem qe7 (B:BlkOk X N capt scope cl) (I:Inv X pins σ H s) (fo:∀ b∈fp,qez X pins H b) (fl:∀ b∈fp,b<s.heap.objs.size) (hC:s.heap.objs.size≤C):(blk X N scope cl C s H fp).Ok where
  mod:=I.ok.mod
  kind:=B.kind
  glob:=I.ok.glob
  blt:=I.ok.blt
  above:=hC
  inj:=fun x y c h1 h2=>I.ok.inj x y c (B.cells x c h1) (B.cells y c h2)
  has:=fun x h=>B.has x h
  cab:=fun _ _ h=>nomatch h
  hd:=I.ok.hd
  frames:=I.ok.frames
  stk:=.inl rfl
  exf:=fun b hb=>⟨fun e=>absurd (Nat.lt_of_lt_of_le (fl b hb) hC) (by rw [show b=C from e];exact Nat.lt_irrefl _),fun x c e=>(fo b hb).2.2.2.2.1 x c (B.cells x c e)⟩
  bs:=I.bs
  bsz:=Nat.le_trans I.ok.bsz I.sz
  noex:=fun b o e hb=>by
    rcases (fo b hb).2.2.2.1 with z | z
    · exact I.ok.noex b o e z
    · exact absurd (Nat.lt_of_lt_of_le (Heap.lt_size e) (Nat.le_trans I.ok.bsz z)) (Nat.lt_irrefl _)
  exfs:=fun b hb hf=>by
    rcases List.mem_cons.mp (I.stkSub b hf) with z | z
    · exact (fo b hb).2.1 z
    · exact (fo b hb).2.2.1 z
  funs:=I.stack
  frf:=I.stkFree
  seer:=I.ok.seer
  tree:=I.ok.tree
  plr:=I.ok.plr
theorem qfz (B:BlkOk X N capt scope cl) (I:Inv X pins σ H s) (fo:∀ b∈fp,qez X pins H b) (fl:∀ b∈fp,b<s.heap.objs.size) (hC:s.heap.objs.size≤C) {h1:Heap} {m:Str→Option Value} {tk:Nat}
    (hn:h1.Ns C m) (hk:∀ b o,s.heap.get? b=some o→h1.get? b=some o):Inv (blk X N scope cl C s H fp) [] (qbC capt σ) H { s with heap:=h1,toks:=tk } where
  ok:=qe7 B I fo fl hC
  os:=rfl
  bare:=I.bare
  base:=Un.kept hk
  loc:=by
    refine ⟨m,hn,fun i x v e1 e2 e3=>?_⟩
    have e2':(capt.map fun o=>o.bind fun j=>(σ[j]?).join)[i]?=some (some v):=e2
    rw [List.getElem?_map] at e2'
    cases ec:capt[i]? with
    | none=>rw [ec] at e2';cases e2'
    | some o=>
      rw [ec] at e2'
      cases o with
      | none=>cases e2'
      | some j=>
        have e4:(σ[j]?).join=some v:=Option.some.inj e2'
        obtain ⟨c1,c2,c3,c4⟩:=B.cap i x j e1 ec
        have e5:σ[j]?=some (some v):=by
          cases q:σ[j]? with
          | none=>rw [q] at e4;cases e4
          | some w=>rw [q] at e4;exact congrArg some e4
        obtain ⟨m',_,hl⟩:=I.loc
        obtain ⟨u,r,l⟩:=hl j x v c1 e5 c2
        refine ⟨u,r,.inr ⟨c4,?_⟩⟩
        rcases l with ⟨l,_⟩ | ⟨_,c,lc,ic⟩
        · exact absurd l c3
        · obtain ⟨c',hc'⟩:=B.has x c4
          have:=B.cells x c' hc'
          rw [lc] at this
          cases this
          obtain ⟨o,ho,hd⟩:=ic
          exact ⟨c,hc',o,hk c o ho,hd⟩
  cell:=fun x c e=>by
    obtain ⟨v,o,ho,hd⟩:=I.cell x c (B.cells x c e)
    exact ⟨v,o,hk c o ho,hd⟩
  free:=I.hok.fresh hC
  freeC:=fun x c e=>I.freeC x c (B.cells x c e)
  pin:=fun p hp=>nomatch hp
  hok:=I.hok.kept hk
  len:=by show (capt.map _).length=N.length;rw [List.length_map];exact B.len
theorem qek {σ6:L2.St} {H7:Hp} {s7:Shared} {pins':List (Addr×Obj)} (B:BlkOk X N capt scope cl) (I:Inv X pins σ H s) (fo:∀ b∈fp,qez X pins H b) (I7:Inv (blk X N scope cl C s H fp) pins' σ6 H7 s7):Inv (blk X N scope cl C s H fp) pins' (qbC capt σ) H7 s7:=
  ⟨I7.ok,I7.os,I7.bare,I7.base,by
    obtain ⟨m,hn,_⟩:=I7.loc
    refine ⟨m,hn,fun i x v e1 e2 e3=>?_⟩
    have e2':(capt.map fun o=>o.bind fun j=>(σ[j]?).join)[i]?=some (some v):=e2
    rw [List.getElem?_map] at e2'
    cases ec:capt[i]? with
    | none=>rw [ec] at e2';cases e2'
    | some o=>
      rw [ec] at e2'
      cases o with
      | none=>cases e2'
      | some j=>
        have e4:(σ[j]?).join=some v:=Option.some.inj e2'
        obtain ⟨c1,c2,c3,c4⟩:=B.cap i x j e1 ec
        have e5:σ[j]?=some (some v):=by
          cases q:σ[j]? with
          | none=>rw [q] at e4;cases e4
          | some w=>rw [q] at e4;exact congrArg some e4
        obtain ⟨m',_,hl⟩:=I.loc
        obtain ⟨u,r,l⟩:=hl j x v c1 e5 c2
        refine ⟨u,r,.inr ⟨c4,?_⟩⟩
        rcases l with ⟨l,_⟩ | ⟨_,c,lc,ic⟩
        · exact absurd l c3
        · obtain ⟨c',hc'⟩:=B.has x c4
          have:=B.cells x c' hc'
          rw [lc] at this
          cases this
          obtain ⟨o,ho,hd⟩:=ic
          obtain ⟨sl,hk⟩:=I7.base.any ho (I.freeC x c lc) fun hb=>(fo c hb).2.2.2.2.1 x c lc rfl
          exact ⟨c,hc',_,hk,hd⟩,I7.cell,I7.free,I7.freeC,I7.pin,I7.hok,by show (capt.map _).length=N.length;rw [List.length_map];exact B.len⟩
theorem qbc {κ β:Type} [BEq κ] [LawfulBEq κ]:∀ {l:List (κ×β)} {y:κ} {c:β},l.lookup y=some c→(y,c)∈l
  | (k,v)::l,y,c,h=>by
    rw [List.lookup_cons] at h
    cases e:y == k with
    | true=>
      rw [e] at h
      cases h
      rw [eq_of_beq e]
      exact List.mem_cons_self ..
    | false=>
      rw [e] at h
      exact List.mem_cons_of_mem _ (qbc h)
theorem BlkOk.of (k:scope.kind=.function) (c:closureFor scope X.env=pure cl) (n1:(scope.names.all fun y=>y.2 != .cell)=true) (n2:(scope.names.all fun y=>y.2 != .local || scope.names.lookup y.1 == some .local)=true)
    (cs:∀ pr∈cl,X.env.cells.lookup pr.1=some pr.2) (hs:((relabel scope X.env).names.all fun pr=>(pr.2 != .cell && pr.2 != .free) || (cl.lookup pr.1).isSome)=true)
    (cp:((List.range N.length).all fun i=>match N[i]?,capt[i]? with
      | some x,some (some j)=>X.N[j]? == some x && (X.env.scope.names.lookup x == some .cell || X.env.scope.names.lookup x == some .free) && ((relabel scope X.env).names.lookup x == some .cell || (relabel scope X.env).names.lookup x == some .free)
      | _,_=>true)=true) (ln:capt.length=N.length):BlkOk X N capt scope cl where
  kind:=k
  clos:=c
  nocell:=fun y hy e=>by
    have z:=List.all_eq_true.mp n1 y hy
    rw [e] at z
    exact absurd z (by decide)
  names:=fun y hy e=>by
    have z:=List.all_eq_true.mp n2 y hy
    rw [e] at z
    simpa using z
  cells:=fun y c h=>cs (y,c) (qbc h)
  has:=fun y h=>by
    have m:∃ kd,(y,kd)∈(relabel scope X.env).names∧(kd=.cell∨kd=.free):=by
      rcases h with h | h
      · exact ⟨_,qbc h,.inl rfl⟩
      · exact ⟨_,qbc h,.inr rfl⟩
    obtain ⟨kd,m,e⟩:=m
    have z:=List.all_eq_true.mp hs _ m
    have z2:(cl.lookup y).isSome=true:=by
      rcases e with rfl | rfl
      · simpa using z
      · simpa using z
    exact Option.isSome_iff_exists.mp z2
  cap:=fun i x j e1 e2=>by
    have li:i<N.length:=(List.getElem?_eq_some_iff.mp e1).1
    have z:=List.all_eq_true.mp cp i (List.mem_range.mpr li)
    rw [e1,e2] at z
    simp only [Bool.and_eq_true,Bool.or_eq_true,beq_iff_eq] at z
    obtain ⟨⟨z1,z2⟩,z3⟩:=z
    refine ⟨z1,.inr z2,fun q=>?_,z3⟩
    have q':X.env.scope.names.lookup x=some .local:=q
    rcases z2 with z2 | z2 <;> (rw [z2] at q';cases q')
  len:=ln
theorem qcP {prog:Program} {w:World} {A:Around} {R:Result→Shared→Prop} {s:Shared} {elt target iter:Expr} {scope:Scope} {pos:Pos} {it acc:Value} {env:Env} (I:Nat→Shared→Prop)
    (turn:∀ n s,I n s→wpAny (model prog w) A (pyNext it) (fun r s₁=>match r with
      | none=>R (.ok .next) s₁
      | some v=>wpAny (model prog w) A (letOwnedTupleGo target it v) (fun _ s₂=>wpAny (model prog w) A (assign target env v) (fun _ s₃=>wpAny (model prog w) A (eval elt env) (fun x s₄=>
          wpAny (model prog w) A (call (.builtin "list.append") [acc,x]) (fun _ s₅=>∃ m,m<n∧I m s₅) (fun _ _=>False) s₄) (fun _ _=>False) s₃) (fun _ _=>False) s₂) (fun _ _=>False) s₁) (fun _ _=>False) s)
    (n:Nat) (h:I n s):codeAny (model prog w) A (.compLoop (.ListComp elt [⟨target,iter,[],0⟩] scope pos) 0 it acc env) R s:=by
  refine codeAny_loop rfl I (fun n s hI=>?_) n h
  show wpAny _ A ((compTurn (.ListComp elt [⟨target,iter,[],0⟩] scope pos) 0 it acc env).onRaise (fun x=>do noteFrame x env;theTreesLotGoes x)) _ _ s
  refine wpAny_noted ?_
  rw [compTurn_list]
  have no:∀ {E':Value→Shared→Prop} (e:Value) (s':Shared),(fun (_:Value) (_:Shared)=>False) e s'→E' e s':=fun _ _ f=>f.elim
  refine wpAny_bind (wpAny_standAt (wpAny_bind (wpAny_mono (turn n s hI) (fun r s₁ h₁=>?_) no)))
  cases r with
  | none=>exact wpAny_pure h₁
  | some v=>
    refine wpAny_bind (wpAny_mono h₁ (fun _ s₂ h₂=>?_) no)
    refine wpAny_bind (wpAny_mono h₂ (fun _ s₃ h₃=>wpAny_bind (wpAny_tests_nil ?_)) no)
    exact wpAny_bind (wpAny_bind (wpAny_mono h₃ (fun x s₄ h₄=>wpAny_bind (wpAny_mono h₄ (fun _ s₅ h₅=>wpAny_pure (wpAny_pure ⟨rfl,h₅⟩)) no)) no))
theorem qel {elt iter tg:Expr} {pos:Pos} {wi:TI} {g:TG} {te:TE} {pins:List (Addr×Obj)} {s:Shared} {σ:L2.St} {H:Hp} {Q:VK} (RR:Value→Addr→Result→Shared→Prop) (hc:X.calm=true) (B:BlkOk X N capt scope cl) (hi:PI X tg iter wi)
    (hg:∀ C s H fp,PG (blk X N scope cl C s H fp) tg g) (he:∀ C s H fp,PE (blk X N scope cl C s H fp) elt te) (I:Inv X pins σ H s) (h:qcy wi capt g te σ H Q)
    (fin:∀ (D C:Addr) (s4:Shared) (Hq:Hp) (m:Str→Option Value),Inv X pins σ Hq s4→Q (.ref D) Hq→s4.heap.Ns C m→Hq C=none→C≠X.env.locals→X.s₀.heap.objs.size≤C→(∀ x c,X.env.cells.lookup x=some c→c≠C)→(∀ p∈X.pn++pins,p.1≠C)→RR (.ref D) C (.ok .next) s4) :
    wpAny (model X.prog X.w) X.A (eval iter X.env) (fun x s₁=>wpAny (model X.prog X.w) X.A (pyIter x) (fun it s₂=>wpAny (model X.prog X.w) X.A (newList []) (fun acc s₃=>
      wpAny (model X.prog X.w) X.A (newFunctionEnv scope X.env.globals cl [] X.env.qual none .none (some X.env)) (fun cenv s₄=>
        codeAny (model X.prog X.w) X.A (.compStart (.ListComp elt [⟨tg,iter,[],0⟩] scope pos) 0 it acc { cenv with scope:=relabel scope X.env }) (RR acc cenv.locals) s₄) X.xe s₃) X.xe s₂) X.xe s₁) X.xe s:=by
  refine thn (hi pins s σ H _ I h) fun v s1 h1=>thn h1 fun itv s2 h2=>?_
  obtain ⟨it,fp,tn,J,H2,e,I2,T,st2,f2,n0,W,w0,turn⟩:=h2
  subst e
  have fl:∀ b∈fp,b<s2.heap.objs.size:=fun b hb=>by obtain ⟨o,e,_⟩:=T.obj _ _ st2 b hb;exact Heap.lt_size e
  refine wpAny_newObj_type (wpAny_newFunctionEnv B.nocell (by intro y hy;simp at hy) (fun h₁ hns₁ hsb₁=>?_) B.kind)
  dsimp only at hns₁ hsb₁ ⊢
  generalize hG:s2.heap.push { cls:=.type "list", dict:=none,data:=.seq ([]:List Value).toArray }=G at hns₁ hsb₁ ⊢
  have hC:G.objs.size=s2.heap.objs.size+1:=by rw [← hG,Heap.size_push]
  have hCle:s2.heap.objs.size≤G.objs.size:=by rw [hC];exact Nat.le_succ _
  have hDC:s2.heap.objs.size≠G.objs.size:=by rw [hC];exact Nat.ne_of_lt (Nat.lt_succ_self _)
  have old:∀ b o,s2.heap.get? b=some o→h₁.get? b=some o:=fun b o e=>hsb₁.extBut b o (by rw [hC];exact Nat.ne_of_lt (Nat.lt_succ_of_lt (Heap.lt_size e))) (Heap.get?_push_of_some _ (hG ▸ Heap.get?_push_of_some _ e))
  have hacc:h₁.get? s2.heap.objs.size=some { cls:=.type "list", data:=.seq ([]:List Value).toArray }:=hsb₁.extBut _ _ hDC (Heap.get?_push_of_some _ (hG ▸ Heap.get?_push_size _ rfl))
  have ok':=qe7 B I2 f2 fl hCle
  have nsD:s2.heap.objs.size∉frs X.stack:=fun hb=>by
    rcases List.mem_cons.mp (I2.stkSub _ hb) with z | z
    · exact absurd I2.lt (by rw [← z];exact Nat.lt_irrefl _)
    · exact I2.nofs (Nat.le_refl _) z
  have ncD:∀ x c,cl.lookup x=some c→c≠s2.heap.objs.size:=fun x c e z=>by
    obtain ⟨v,q⟩:=I2.cell x c (B.cells x c e)
    exact absurd q.lt (by rw [z];exact Nat.lt_irrefl _)
  have nfD:∀ b∈fp,s2.heap.objs.size≠b:=fun b hb z=>absurd (fl b hb) (by rw [← z];exact Nat.lt_irrefl _)
  have I₁:Inv (blk X N scope cl G.objs.size s2 H2 fp) [] (qbC capt σ) H2 { s2 with heap:=h₁,toks:=s2.toks+([]:List (Str×Value)).length }:=qfz B I2 f2 fl hCle hns₁ old
  have loop:codeAny (model X.prog X.w) X.A (.compLoop (.ListComp elt [⟨tg,iter,[],0⟩] scope pos) 0 (.ref it) (.ref s2.heap.objs.size) (compEnvC scope cl G.objs.size X.env))
      (RR (.ref s2.heap.objs.size) G.objs.size) { s2 with heap:=h₁,toks:=s2.toks+([]:List (Str×Value)).length }:=by
    refine qcP (fun n s'=>∃ (i:Nat) (ys:List V) (its:List Value) (k:Nat) (Hc:Hp),Inv (blk X N scope cl G.objs.size s2 H2 fp) [] (qbC capt σ) Hc s'∧s'.heap.get? s2.heap.objs.size=some { cls:=.type "list", data:=.seq its.toArray k }∧Vals ys its∧
      Hc s2.heap.objs.size=none∧tn i s'.heap∧(∀ b∈fp,Hc b=none)∧W i ys Hc∧n=n0 - i) ?_ n0 ⟨0,[],[],0,H2,I₁,hacc,.nil,I2.hok.fresh (Nat.le_refl _),T.keep _ _ _ st2 (fun b _ o e=>old b o e),fun b hb=>(f2 b hb).1,w0,rfl⟩
    rintro n s3 ⟨i,ys,its,k,Hc,I3,hD,hv,nD,st3,fr3,w3,en⟩
    obtain ⟨_,hl,step⟩:=turn i ys Hc w3
    have hz:its.toArray.size≤sizeLine:=by rw [List.size_toArray,← hv.length];exact hl
    have I3p:Inv (blk X N scope cl G.objs.size s2 H2 fp) [(s2.heap.objs.size,{ cls:=.type "list", data:=.seq its.toArray k })] (qbC capt σ) Hc s3:=I3.pins_of fun p hp=>by
      rw [List.mem_singleton] at hp
      subst hp
      exact ⟨hD,nD,hDC,nsD,fun v z=>nomatch z⟩
    have fo3:∀ {Hx:Hp} (_:∀ b∈fp,Hx b=none),∀ b∈fp,qez (blk X N scope cl G.objs.size s2 H2 fp) [(s2.heap.objs.size,{ cls:=.type "list", data:=.seq its.toArray k })] Hx b:=fun hx b hb=>
      ⟨hx b hb,(ok'.exf b hb).1,ok'.exfs b hb,.inl hb,(ok'.exf b hb).2,fun p hp=>by
        have hp':p∈[((s2.heap.objs.size,{ cls:=.type "list", data:=.seq its.toArray k }):Addr×Obj)]:=hp
        rw [List.mem_singleton] at hp'
        subst hp'
        exact nfD b hb⟩
    rcases step with ⟨stop,q⟩ | ⟨ltn,go,nxt⟩
    · refine thn (T.done (blk X N scope cl G.objs.size s2 H2 fp) rfl rfl rfl hc i _ s3 _ Hc _ I3p (fo3 fr3) st3 stop) fun r s4 ⟨hr,I4⟩=>?_
      subst hr
      have hD4:=(I4.pin (s2.heap.objs.size,{ cls:=.type "list", data:=.seq its.toArray k }) (List.mem_append_right _ (List.mem_singleton.mpr rfl))).1
      obtain ⟨m,hn,_⟩:=I4.loc
      have nDt:∀ b u,Hc b=some u→b≠s2.heap.objs.size:=fun b u e z=>by rw [z,nD] at e;cases e
      have oldC:∀ b o,s2.heap.get? b=some o→b≠s2.heap.objs.size:=fun b o e=>Nat.ne_of_lt (Heap.lt_size e)
      have ub:Un (frs X.stack) fp H2 Hc s2.heap s4.heap:=I4.base
      have cC:∀ b,b<s2.heap.objs.size→b≠G.objs.size:=fun b hb z=>absurd (Nat.lt_of_lt_of_le hb hCle) (by rw [z];exact Nat.lt_irrefl _)
      refine fin _ G.objs.size s4 (upd Hc s2.heap.objs.size (.lst ys)) m ?_ (q _ nD) hn (by rw [qap (fun z=>hDC z.symm)];exact I4.free) (fun z=>cC _ I2.lt z.symm) (Nat.le_trans I2.sz hCle)
        (fun x c e=>by obtain ⟨v,q⟩:=I2.cell x c e;exact cC _ q.lt) fun p hp=>cC _ (Heap.lt_size (I2.pin p hp).1)
      refine I2.call' (ch:=fp) (s':=s4) I4.os ?_ ?_ I4.bare fun b hb=>⟨(f2 b hb).2.2.2.1,(f2 b hb).2.1,(f2 b hb).2.2.2.2.1,(f2 b hb).2.2.2.2.2⟩
      · refine ⟨ub.keep,ub.slot,fun b o e n hx=>?_,ub.there,fun b xs e=>?_,fun b o u e=>?_,fun b ps e=>?_⟩
        · rw [qap (oldC b o e)];exact ub.free b o e n hx
        · have z:=ub.tups b xs e
          rw [qap (nDt b _ z)];exact z
        · have z:=ub.frzs b o u e
          rw [qap (nDt b _ z)];exact z
        · obtain ⟨more,z⟩:=ub.tbls b ps e
          exact ⟨more,by rw [qap (nDt b _ z)];exact z⟩
      · intro b u e
        by_cases hb:b=s2.heap.objs.size
        · subst hb
          rw [qaf] at e
          cases e
          exact ⟨hl,its,k,hv,hD4⟩
        · rw [qap hb] at e
          exact (I4.hok b u e).stay (fun c v _ q=>q) (fun c q=>by rw [qap (nDt c _ q)];exact q) fun c xs q=>by rw [qap (nDt c _ q)];exact q
    · refine thn (T.item (blk X N scope cl G.objs.size s2 H2 fp) rfl rfl rfl hc i _ s3 _ Hc _ I3p (fo3 fr3) st3 go) fun r s4 ⟨u,hr,h4⟩=>?_
      subst hr
      refine thn h4 fun _ s5 ⟨x,H5,I5,r5,y5,st5,fr5⟩=>?_
      have I5':=I5.pinned (fo3 fr5) (T.obj _ _ st5)
      refine thn (hg _ _ _ _ _ s5 _ H5 x u _ I5' r5 (nxt x H5 y5)) fun _ s6 ⟨σ6,H6,I6,q6⟩=>?_
      refine thn (he _ _ _ _ _ s6 σ6 H6 _ I6 q6) fun uy s7 ⟨y,H7,I7,r7,w7⟩=>?_
      have pD:=I7.pin (s2.heap.objs.size,{ cls:=.type "list", data:=.seq its.toArray k }) (List.mem_append_right _ (List.mem_append_left _ (List.mem_singleton.mpr rfl)))
      have pF:∀ b∈fp,∀ o,s5.heap.get? b=some o→s7.heap.get? b=some o∧H7 b=none:=fun b hb o e=>by
        have z:=I7.pin (b,o) (List.mem_append_right _ (List.mem_append_right _ (qby hb e)))
        exact ⟨z.1,z.2.1⟩
      refine append_at (hsz:=hz) pD.1 fun h8 sb8 hD8=>?_
      have I7n:Inv (blk X N scope cl G.objs.size s2 H2 fp) [] σ6 H7 s7:=I7.pins_of fun p hp=>nomatch hp
      have I8:Inv (blk X N scope cl G.objs.size s2 H2 fp) [] σ6 H7 { s7 with heap:=h8,toks:=s7.toks }:=I7n.turned (fun b o hb e=>sb8.extBut b o hb e) pD.2.1 hDC (.inr (Nat.le_refl _)) ncD (fun p hp=>nomatch hp)
      refine ⟨n0 - (i+1),by omega,i+1,ys++[y],its++[uy],k+1,H7,qek B I2 f2 I8,?_,Paired.snoc hv r7,pD.2.1,T.keep _ _ _ st5 (fun b hb o e=>sb8.extBut b o (nfD b hb).symm (pF b hb o e).1),fun b hb=>?_,w7,rfl⟩
      · show h8.get? _=_
        rw [hD8,List.push_toArray]
      · obtain ⟨o,e,_⟩:=T.obj _ _ st5 b hb
        exact (pF b hb o e).2
  exact codeAny_compStart_list loop (T.self X.A 0 _ _ _ (T.keep _ _ _ st2 (fun b _ o e=>old b o e)) loop)
theorem qem {elt iter tg:Expr} {pos:Pos} {wi:TI} {g:TG} {te:TE} (hc:X.calm=true) (B:BlkOk X N capt scope cl) (hi:PI X tg iter wi)
    (hg:∀ C s H fp,PG (blk X N scope cl C s H fp) tg g) (he:∀ C s H fp,PE (blk X N scope cl C s H fp) elt te)
    (hs:∀ x,foldedSetIterable iter X.env x=pure x:=by intro _;rfl):PE X (.ListComp elt [⟨tg,iter,[],0⟩] scope pos) (qcy wi capt g te):=by
  intro pins s σ H Q I h
  rw [eval_ListComp]
  refine wpAny_comprehension_free (use:=none) rfl hs B.clos B.kind B.names (qel (fun acc C=>compPost (model X.prog X.w) X.A X.xe none (EP X pins σ Q) acc C) hc B hi hg he I h fun D C s4 Hq m I4 q hn hf h1 h2 h3 h4=>?_)
  exact ⟨m,hn,fun h' sb=>⟨.ref D,Hq,I4.turned (fun b o hb e=>sb.extBut b o hb e) hf h1 (.inr h2) h3 h4,rfl,q⟩⟩
end
end Bs
namespace Bs
open PySem PySem.Spec PyProof.Rows L2
open PySem.AutoSeq1 (wpAny_loadPart')
section
variable {prog:Program} {w:World} {A:Around} {E:Value→Shared→Prop} {s:Shared} {e it t:Addr} {i:Nat} {zs:Array Value}
end
section
variable {X:Cx} {pins:List (Addr×Obj)} {σ:L2.St} {H:Hp} {s:Shared}
end
section
variable {X:Cx} {elts:List Expr} {k:Nat} {tpos:Pos} {a:Expr} {ta:TA} {p pos:Pos}
end
end Bs
namespace Bs
open PySem L2
mutual
inductive RepD (H:Hp):V→PySem.W.Dat→Prop
  | non:RepD H .non .none
  | int (i:Int):RepD H (.int i) (.int i)
  | tup {p:Addr} {xs:List V} {ds:List PySem.W.Dat} (h:H p=some (.tup xs)) (r:RepA H xs ds):RepD H (.ref p) (.tuple ds)
  | lst {p:Addr} {xs:List V} {ds:List PySem.W.Dat} (h:H p=some (.lst xs)) (r:RepA H xs ds):RepD H (.ref p) (.list ds)
inductive RepA (H:Hp):List V→List PySem.W.Dat→Prop
  | nil:RepA H [] []
  | cons {x:V} {xs:List V} {d:PySem.W.Dat} {ds:List PySem.W.Dat} (h:RepD H x d) (r:RepA H xs ds):RepA H (x::xs) (d::ds)
end
noncomputable def qfA (te:TE):TT:=fun σ H Q=>te σ H fun x H'=>∃ p xs,x=.ref p∧H' p=some (.lst xs)∧Q (!xs.isEmpty) H'
noncomputable def qfB:List V→Hp→VK→Prop:=fun xs H Q=>∃ p ys,xs=[.ref p]∧H p=some (.lst ys)∧∀ l,H l=none→Q (.ref l) (upd H l (.tup ys))
end Bs
namespace Bs
open PySem PySem.Spec PyProof.Rows L2
section
variable {X:Cx} {pins:List (Addr×Obj)} {σ:L2.St} {H:Hp} {s:Shared}
theorem qfC {a:Expr} {ta:TE} (ha:PE X a ta) (he:∀ whole,isTrue a X.env whole=(do let v ← whole;standAt a.pos;holding [v] (truthy v))):PT X a (qfA ta):=fun pins s σ H Q I h=>
  isTrue_plain (thn (ha pins s σ H _ I h) fun v s1 ⟨x,H1,I1,r1,q1⟩=>by
    obtain ⟨p,xs,e,hp,q⟩:=q1
    subst e
    exact qgg pins s1 σ H1 _ v Q I1 r1 ⟨_,.inl ⟨xs,SqL.of hp,rfl⟩,q⟩) (he _)
theorem qen:qa4 X (.type "tuple") qfB:=fun pins s σ H xs us Q I r h=>by
  obtain ⟨p,ys,e,hp,q⟩:=h
  exact qb5 pins s σ H xs us Q I r ⟨p,ys,e,.inl ⟨SqL.of hp,q⟩⟩
end
end Bs
namespace Bs
open PySem L2
noncomputable def qdu (n:Nat) (t:TGs):TG:=fun v σ H Q=>∃ a xs,v=.ref a∧H a=some (.tup xs)∧xs.length=n∧t xs σ H Q
end Bs
namespace Bs
open PySem PySem.Spec PyProof.Rows L2
theorem qca {X:Cx} {es:List Expr} {k:Nat} {pos:Pos} {t:TGs} {n:Nat} (hc:X.calm=true) (h:PGs X es t)
    (hn:(assignEach es X.env).length=n:=by rfl) (hst:(assignEach es X.env).findIdx? (·.1)=none:=by rfl):PG X (.Tuple es k pos) (qdu n t):=fun pins s σ H v u Q I r q=>by
  obtain ⟨a,xs,e,ha,hl,q⟩:=q
  exact qgc hc h hn hst pins s σ H v u Q I r ⟨a,xs,e,SqT.of ha,hl,q⟩
theorem qeo {X:Cx}:OpR X (inplaceOp .FloorDiv) qb8:=opI fun i j _ _ _ _ _ hc q=>by
  refine ifloordiv_int (Int.ne_of_gt hc.1) ?_ (.inl (PyProof.noPylong_of_log2 (hc.2.log2 (by decide))))
  rw [Int.fdiv_eq_ediv_of_nonneg i (Int.le_of_lt hc.1)]
  exact q
end Bs
namespace Bs
open PySem L2
end Bs
namespace HT
open PySem PySem.Spec PyProof.Rows
end HT
namespace Bs
open PySem PySem.Spec PyProof.Rows L2
end Bs
namespace Bs
open PySem L2
section
variable {K:W.Frag} {ta:TA} {g:TG} {tb:TS} {D:Ends} {σ:L2.St} {H:Hp} {a:Addr} {xs:List V}
end
end Bs
namespace Bs
open PySem PySem.Spec PyProof.Rows L2
end Bs
namespace Bs
open PySem L2
noncomputable def Itz (K:W.Frag) (a b:Addr):It:=
  ⟨fun i H=>∃ xs ys x y,SqL K H a xs∧SqL K H b ys∧xs[i]?=some x∧ys[i]?=some y,fun i H v H'=>∃ p x y,H p=none∧v=.ref p∧H'=upd H p (.tup [x,y])∧(∀ xs,SqL K H a xs→xs[i]?=some x)∧∀ ys,SqL K H b ys→ys[i]?=some y,fun i H=>∃ xs ys,SqL K H a xs∧SqL K H b ys∧xs.length≤i⟩
noncomputable def CompF (J:It) (capt:List (Option Nat)) (g:TG) (tc:TT) (te:TE) (σ:L2.St) (Q:VK) (H1:Hp):Prop:=∃ (n:Nat) (W:Nat→List V→Hp→Prop),W 0 [] H1∧∀ i ys H,W i ys H→i≤n∧ys.length≤sizeLine∧
  ((J.stop i H∧∀ p,H p=none→Q (.ref p) (upd H p (.lst ys)))∨(i<n∧J.go i H∧∀ x H',J.yld i H x H'→g x (qbC capt σ) H' fun σ2 H2=>tc σ2 H2 fun b H3=>if b=true then te σ2 H3 fun y H4=>W (i+1) (ys++[y]) H4 else W (i+1) ys H3))
section
variable {K:W.Frag} {ta:TA} {tl:TE} {capt:List (Option Nat)} {g:TG} {tc:TT} {te:TE} {tb:TS} {D:Ends} {σ:L2.St} {H:Hp} {Q:VK} {a b:Addr} {xs ys:List V}
theorem CompF.lst (W:Nat→List V→Hp→Prop) (h0:W 0 [] H) (hb:∀ i ys H,W i ys H→i≤xs.length∧ys.length≤sizeLine∧SqL K H a xs)
    (hs:∀ i x ys H,xs[i]?=some x→W i ys H→g x (qbC capt σ) H fun σ2 H2=>tc σ2 H2 fun b H3=>if b=true then te σ2 H3 fun y H4=>W (i+1) (ys++[y]) H4 else W (i+1) ys H3) (hd:∀ ys H,W xs.length ys H→∀ p,H p=none→Q (.ref p) (upd H p (.lst ys))):CompF (Itl K a) capt g tc te σ Q H:=by
  refine ⟨xs.length,W,h0,fun i ys H w=>⟨(hb i ys H w).1,(hb i ys H w).2.1,?_⟩⟩
  have q:SqL K H a xs:=(hb i ys H w).2.2
  by_cases h:i<xs.length
  · refine .inr ⟨h,⟨xs,xs[i],q,by simp [h]⟩,fun x H' y=>?_⟩
    obtain ⟨e,y⟩:=y
    subst e
    exact hs i x ys _ (y xs q) w
  · have e:i=xs.length:=Nat.le_antisymm (hb i ys H w).1 (Nat.not_lt.mp h)
    subst e
    exact .inl ⟨⟨xs,q,Nat.le_refl _⟩,hd ys H w⟩
theorem CompJ.zip (hl:xs.length=ys.length) (W:Nat→List V→Hp→Prop) (h0:W 0 [] H) (hb:∀ i zs H,W i zs H→i≤xs.length∧zs.length≤sizeLine∧SqL K H a xs∧SqL K H b ys)
    (hs:∀ i x y zs H p,xs[i]?=some x→ys[i]?=some y→W i zs H→H p=none→g (.ref p) (qbC capt σ) (upd H p (.tup [x,y])) fun σ2 H2=>te σ2 H2 fun z H3=>W (i+1) (zs++[z]) H3) (hd:∀ zs H,W xs.length zs H→∀ p,H p=none→Q (.ref p) (upd H p (.lst zs))):CompJ (Itz K a b) capt g te σ Q H:=by
  refine ⟨xs.length,W,h0,fun i zs H w=>⟨(hb i zs H w).1,(hb i zs H w).2.1,?_⟩⟩
  obtain ⟨_,_,q,q2⟩:=hb i zs H w
  by_cases h:i<xs.length
  · refine .inr ⟨h,⟨xs,ys,xs[i],ys[i],q,q2,by simp [h],by simp [hl ▸ h]⟩,fun v H' y=>?_⟩
    obtain ⟨p,x,y,hp,e1,e2,h1,h2⟩:=y
    subst e1 e2
    exact hs i x y zs _ p (h1 xs q) (h2 ys q2) w hp
  · have e:i=xs.length:=Nat.le_antisymm (hb i zs H w).1 (Nat.not_lt.mp h)
    subst e
    exact .inl ⟨⟨xs,ys,q,q2,Nat.le_refl _⟩,hd zs H w⟩
end
end Bs
namespace Bs
open PySem PySem.Spec PyProof.Rows L2
section
variable {X:Cx} {pins:List (Addr×Obj)} {σ:L2.St} {H:Hp} {s:Shared}
end
section
variable {X:Cx} {elts:List Expr} {k:Nat} {tpos:Pos} {a b:Expr} {ta:TA} {p pos:Pos}
theorem vals2 {x y:V} {us:List Value} (r:Vals [x,y] us):∃ u v,us=[u,v]∧RelV x u∧RelV y v:=r.two
end
section
variable {X:Cx}
end
section
variable {prog:Program} {w:World} {A:Around} {R:Result→Shared→Prop} {I:Addr} {fp wr:List Addr} {n:Nat} {P:Nat→Value→Prop} {St:Nat→Heap→Prop} {d:Value}
end
section
variable {X:Cx} {e:Expr} {te:TE} {p pos kp1 kp2:Pos} {kk:Nat}
end
end Bs
namespace Bs
open PySem PySem.Spec PyProof.Rows L2
section
variable {X:Cx} {pins:List (Addr×Obj)} {σ:L2.St} {H:Hp} {s:Shared} {N:List Str} {capt:List (Option Nat)} {scope:Scope} {cl:List (Str×Addr)} {C:Addr} {fp:List Addr}
end
end Bs
namespace Bs
open PySem L2
end Bs
namespace Bs
open PySem PySem.Spec PyProof.Rows L2
section
variable {X:Cx}
end
end Bs
namespace Bs
open PySem L2
end Bs
namespace Bs
open PySem PySem.Spec PyProof.Rows L2
theorem qgs {m n:Nat} {a b:Int} (ha:Bd m a) (hb:Bd n b) (h:m+n≤134217728):IntMulOk a b:=IntMulOk.of_le (qeg ha) (qeg hb) h
end Bs
namespace Bs
open PySem L2
noncomputable def qaV:R2:=fun x y H Q=>∃ i j:Str,x=.str i∧y=.str j∧i.length+j.length≤sizeLine∧Q (.str (i++j)) H
noncomputable def qdv:List V→Hp→VK→Prop:=fun xs H Q=>∃ i:Int,xs=[.int i]∧i.natAbs.log2<1920∧Q (.str (toString i)) H
noncomputable def qfD:R2:=fun x y H Q=>∃ (i:Str) (n:Int),x=.str i∧y=.int n∧(n=0∨n=1)∧Q (.str (if n=1 then i else "")) H
noncomputable def qfE:List V→Hp→VK→Prop:=fun xs H Q=>∃ x:Str,xs=[.str x,.ty "str"]∧Q (.bl true) H
noncomputable def qda (K:W.Frag) (ta:TA):TE:=fun σ H Q=>ta σ H fun vs H1=>∃ (a:Addr) (x:Str),vs=[.ref a]∧SqL K H1 a [.str x]∧Q (.str x) H1
end Bs
namespace Bs
open PySem PySem.Spec PyProof.Rows L2
theorem qaF {X:Cx}:OpR X (binaryOp .Add) qaV:=qdk
theorem qeT {X:Cx}:OpR X (inplaceOp .Add) qaV:=qcK
theorem qbp {X:Cx}:qa4 X (.type "str") qdv:=qco
theorem qfF {X:Cx}:OpR X (binaryOp .Mult) qfD:=by
  intro pins s σ H x y v u Q I rx ry h
  obtain ⟨i,n,rfl,rfl,hn,q⟩:=h
  obtain ⟨t,rfl⟩:=rx
  obtain ⟨t',rfl⟩:=ry
  have e:Txt.mul i n=if n=1 then i else "" := by rcases hn with rfl | rfl <;> rfl
  refine SB.mul ⟨by rcases hn with rfl | rfl <;> decide,?_,?_⟩ fun t' tk=>⟨.str (Txt.mul i n),H,I.tok _,⟨_,rfl⟩,by rw [e];exact q⟩
  · rcases hn with rfl | rfl
    · exact fun a _=>absurd (by decide) a
    · exact fun _ a=>by simp at a
  · rcases hn with rfl | rfl
    · exact fun a _=>absurd (by decide) a
    · exact fun _ a=>by simp at a
theorem qep {X:Cx}:qa4 X (.builtin "isinstance") qfE:=fun pins s σ H xs us Q I r h=>by
  obtain ⟨x,rfl,q⟩:=h
  obtain ⟨u,w',rfl,rx,rn⟩:=vals2 r
  have rn':w'=Value.type "str" := rn
  subst rn'
  exact qd5 I rx (.str x) (qeS X.K _) fun tk=>⟨.bl true,H,I.tok tk,rfl,q⟩
theorem qcz:bootBuiltins "str" = some (.type "str"):=by decide +kernel
theorem qeU:typeLookup (.type "list_reverseiterator") "__len__" = pure none:=by rw [typeLookup_type,builtinLookup_eq_fast];kernel_rfl
theorem qfG:typeLookup (.type "list_reverseiterator") "__length_hint__" = pure (some (.builtin "list_reverseiterator.__length_hint__")):=by rw [typeLookup_type,builtinLookup_eq_fast];kernel_rfl
theorem qcQ {P:Program} {w:World} {A:Around} {E:Value→Shared→Prop} {s:Shared} {D l:Addr} {its:Array Value} {Q:List Value→Shared→Prop} (hh:A.handled=none) (hne:l≠D)
    (hit:s.heap.IsRevIter D l ((its.size:Int) - 1)) (hl:s.heap.IsList l its) (hD:D<s.heap.objs.size) (hlt:l<s.heap.objs.size) (hn:its.size≤sizeLine)
    (k:∀ s' acc,Moved [D] (fun a b=>b=a) s s'→ItemsOf (fun i v=>its[its.size - 1 - i]?=some v) acc its.size→Q acc.toList s'):wpAny (model P w) A (collect (.ref D)) Q E s:=by
  have W:=(Walks.listRev (prog:=P) (w:=w) (A:=A.in1) hh D l hne its).toS
  let nw:Obj:={ cls:=.type "list", data:=.seq ([]:List Value).toArray }
  have a1:s.heap.objs.size∉[D,l]:=by
    intro hm
    rcases List.mem_cons.mp hm with e | hm
    · exact Nat.lt_irrefl _ (e ▸ hD)
    · rw [List.mem_singleton] at hm;exact Nat.lt_irrefl _ (hm ▸ hlt)
  have st0:0≤its.size∧s.heap.IsRevIter D l ((its.size:Int) - 1 - ((0:Nat):Int))∧s.heap.IsList l its:=⟨Nat.zero_le _,by simpa using hit,hl⟩
  have st1:=W.frame 0 s (s.heap.push nw) s.toks st0 (Nat.le_refl _) fun b _ o e=>Heap.get?_push_of_some _ e
  have ty:Shared.TypeIs ({ s with heap:=s.heap.push nw,toks:=s.toks }:Shared) (.ref D) "list_reverseiterator" := by
    obtain ⟨o,ho,hc,_⟩:=st1.2.1
    exact ⟨o,ho,hc⟩
  have g1:(s.heap.push nw).get? s.heap.objs.size=some nw:=Heap.get?_push_size _ rfl
  have z1:Builtin.List.listSameRef (.ref s.heap.objs.size) (.ref D)=false:=by
    have q:s.heap.objs.size≠D:=fun e=>Nat.lt_irrefl _ (e ▸ hD)
    simp [Builtin.List.listSameRef,q]
  unfold collect
  refine wpAny_bind (wpAny_runValue (codeAny_builtin F.entry_proto_collect ?_));rw [Around.under_plainId F.plain_proto_collect _]
  show wpAny _ A.in1 (newList [] >>= fun z=>again (.builtin "list.__iadd__" ⟨[z,.ref D],[]⟩)) _ _ s
  refine wpAny_bind (wpAny_newObj_type (wpAny_pure ⟨plainId_quiet F.plain_list_iadd _,codeAny_builtin F.entry_list_iadd ?_⟩));rw [Around.under_plainId F.plain_list_iadd _]
  show wpAny _ A.in1 (Builtin.List.listExtendWith (.ref s.heap.objs.size) (.ref D) (.ref s.heap.objs.size)) _ _ ({ s with heap:=s.heap.push nw,toks:=s.toks }:Shared)
  unfold Builtin.List.listExtendWith
  refine wpAny_bind (wpAny_typeOf ty ?_);rw [if_neg (by rw [z1];decide)]
  refine wpAny_bind (W.self 0 _ _ _ st1 (wpAny_bind (wpAny_holding ?_)))
  unfold Builtin.List.listLengthHint
  refine wpAny_bind (wpAny_specialOf ty qeU ?_);show wpAny _ A.in1 (specialOf (Value.ref D) (Str.ofString "__length_hint__") >>= _) _ _ _
  refine wpAny_bind (wpAny_specialOf ty qfG ?_)
  generalize hid:("list_reverseiterator.__length_hint__" : String)=id0
  wp_delta
  rw [show splitId id0=some ("list_reverseiterator", "__length_hint__") from by subst hid;decide +kernel]
  subst hid
  refine wpAny_bind (wpAny_isInstance (b:=true) ty (by rw [isSubtype_type];kernel_rfl) (wpAny_pure ?_));rw [if_neg (by decide)]
  refine wpAny_pure ⟨plainId_quiet F.plain_extend_loop _,codeAny_extend_loopS W hn _ a1 _ its.size 0 _ _ _ rfl (Nat.zero_le _) st1 g1 (ItemsOf.nil _) fun s' acc c hm hS ha=>?_⟩
  show wpAny _ A (load s.heap.objs.size >>= _) _ _ s'
  exact wpAny_bind (wpAny_load hS (wpAny_pure (k s' acc (Moved.drop_new (o:=nw) (tk:=s.toks) hm (Nat.le_refl _)) ha)))
theorem qeq {P:Program} {w:World} {A:Around} {E:Value→Shared→Prop} {s:Shared} {D l:Addr} {x z:Str} {t u:Tok} {Q:Value→Shared→Prop} (hh:A.handled=none) (hne:l≠D)
    (hit:s.heap.IsRevIter D l 0) (hl:s.heap.IsList l #[.str x u]) (hD:D<s.heap.objs.size) (hlt:l<s.heap.objs.size)
    (k:∀ s',Moved [D] (fun a b=>b=a) s s'→Q (.str x u) s'):wpAny (model P w) A (call (.builtin "str.join") [.str z t,.ref D]) Q E s:=by
  refine wpAny_call (codeAny_call_builtin F.slot_str_join.plain F.entry_str_join (F.slot_str_join.check _ _ _ _ _ _ _ _ (typeIs_str _ _ _) (F.args_str_join_2 _ _) ?_));rw [join_tree_other]
  refine wpAny_bind (wpAny_typeOf hit.typeIs ?_)
  show wpAny _ A.in1 ((pyIter (.ref D)).tryCatch _ >>= fun i=>collect i >>= fun l=>joinTail z l) _ _ s
  refine wpAny_bind (wpAny_tryCatch (wpAny_pyIter_revIter hit (wpAny_bind (qcQ (A:=A.in1) (its:=#[.str x u]) hh hne hit hl hD hlt (by show 1≤sizeLine;rw [sizeLine_eq];decide) fun s' acc hm ha=>?_))))
  obtain ⟨n1,h1⟩:=ha
  have e:acc.toList=strValues [(x,u)]:=by
    obtain ⟨ls⟩:=acc
    match ls,n1,h1 with
    | [v],_,h1=>
      have q:=h1 0 v (by simp)
      have q':some (Value.str x u)=some v:=q
      cases q'
      rfl
  rw [e]
  have g:Gives (joinTail z (strValues [(x,u)])) (.val (.str x u)):=.rule (.of_eq rfl)
  exact g P w A (wants Q E) s' (k s' hm)
theorem qdw {X:Cx} {a:Expr} {ta:TA} {z:Str} {j:Nat} {q apos p pos cpos:Pos} (hg:Gl X "reversed") (hm:X.mg "reversed" = none) (hc:X.calm=true) (ha:PA X [a] ta)
    (hs:starEach [a] X.env=[(false,eval a X.env)]:=by rfl) (hs2:starEach [.Call (.Name "reversed" p) [a] [] pos] X.env=[(false,eval (.Call (.Name "reversed" p) [a] [] pos) X.env)]:=by rfl)
    (hb:attributeBase (.Constant (.str z) j q) "join" X.env (eval (.Constant (.str z) j q) X.env)=eval (.Constant (.str z) j q) X.env:=by rfl)
    (hf:((backTo cpos (starEach [.Call (.Name "reversed" p) [a] [] pos] X.env)).all (fun x=>!x.1) && (backToKw cpos (keywordEach [] X.env)).all (fun x=>x.1.isSome) && decide (([.Call (.Name "reversed" p) [a] [] pos]:List Expr).length+([]:List Keyword).length+(if ([]:List Keyword).isEmpty then 0 else 1)<30))=true:=by rfl)
    (hl:(apos.endLine == cpos.line)=true:=by rfl) :
    PE X (.Call (.Attribute (.Constant (.str z) j q) "join" apos) [.Call (.Name "reversed" p) [a] [] pos] [] cpos) (qda X.K ta):=by
  intro pins s σ H Q I h
  refine wpAny_Call_method_late hb hf hl rfl (Calls.Constant_str ⟨"str", "str.join", F.plainAttrs_str,F.slot_str_join,F.type_str_join,typeIs_str _ _ _,(fun _ e=>nomatch e),?_⟩)
  rw [hs2]
  have I0:Inv X pins σ H { s with toks:=s.toks+1 }:=I.tok _
  refine Calls.callWith_builtin rfl (Calls.evalArgs_plain (Calls.spliced_cons (Call_ (qck I0 hg hm qcO (PyProof.Rows.callWith_type1 (thn (ha pos pins _ σ H _ I0 h) fun us s1 ⟨vs,H1,I1,r1,q1⟩=>?_) hs rfl)))))
  obtain ⟨b,x,rfl,hq,kq⟩:=q1
  obtain ⟨u,rfl,ru⟩:=qcn r1
  cases ru
  obtain ⟨its,rv,pl,hz⟩:=I1.list hq
  obtain ⟨v,rfl,rx⟩:=qcn rv
  obtain ⟨tx,rfl⟩:=rx
  refine call_reversed_list pl.isList (Calls.spliced_nil ?_)
  have I2:Inv X pins σ H1 { s1 with heap:=s1.heap.push (revObj b (((#[.str x tx]:Array Value).size:Int) - 1)) }:=I1.kept (t':=s1.toks) fun b o e=>Heap.get?_push_of_some _ e
  obtain ⟨ol,hol,_⟩:=id pl.isList
  have lb:=Heap.lt_size hol
  have hne:b≠s1.heap.objs.size:=fun e=>Nat.lt_irrefl _ (e ▸ lb)
  have si:(s1.heap.push (revObj b (((#[.str x tx]:Array Value).size:Int) - 1))).IsRevIter s1.heap.objs.size b 0:=⟨_,Heap.get?_push_size _ rfl,rfl,rfl⟩
  obtain ⟨o2,ho2,_⟩:=id si
  have lD:=Heap.lt_size ho2
  have il:=pl.isList.at (h':=s1.heap.push (revObj b (((#[.str x tx]:Array Value).size:Int) - 1))) fun o e=>Heap.get?_push_of_some _ e
  obtain ⟨o3,ho3,_⟩:=id il
  refine qeq (I.ok.hd hc) hne si il lD (Heap.lt_size ho3) fun s' hm'=>?_
  obtain ⟨f0,f1,f2,f3,f4,f5⟩:=I1.fpOk (H':=H1) (Nat.le_refl _) (I1.hok.fresh (Nat.le_refl _))
  obtain ⟨k1,k2,k3,k4,k5⟩:=hm'
  obtain ⟨h',gn,dr,tk,os⟩:=s'
  cases k2
  cases k3
  cases k4
  have I3:=I2.turned (h':=h') (t':=tk) (it:=s1.heap.objs.size) (fun c o hc e=>k1 c o (by simpa using hc) e) f0 f1 f3 f4 f5
  exact ⟨.str x,H1,I3,⟨tx,rfl⟩,kq⟩
end Bs
namespace Bs
theorem Bd.one:Bd 1 1:=by unfold Bd;decide
theorem Bd.pow {b:Nat} {x:Int} (h:Bd b x) (k:Nat):Bd (b*k+1) (x ^ k):=by
  induction k with
  | zero=>rw [Int.pow_zero,Nat.mul_zero];exact Bd.one
  | succ k ih=>
    have e:b*(k+1)+1=(b*k+1)+b:=by rw [Nat.mul_add,Nat.mul_one];omega
    rw [Int.pow_succ,e]
    exact ih.mul h
end Bs
namespace Bs
open PySem
noncomputable abbrev sI (i:Int):Str:=Str.ofString (toString i)
theorem qer (a b c:Str):a++b++c=a++(b++c):=by
  show (⟨(a.cps++b.cps)++c.cps⟩:Str)=⟨a.cps++(b.cps++c.cps)⟩
  rw [Array.append_assoc]
theorem qgt (a:Str):(Str.ofString "")++a=a:=by
  show (⟨(Str.ofString "").cps++a.cps⟩:Str)=a
  rw [show (Str.ofString "").cps=#[] from rfl,Array.empty_append]
theorem qaJ (a b:Str):(a++b).length=a.length+b.length:=by
  show (a.cps++b.cps).size=_
  rw [Array.size_append];rfl
theorem qgV (a b:String):Str.ofString (a++b)=Str.ofString a++Str.ofString b:=by
  rw [Str.ofString_eq_toList,Str.ofString_eq_toList,Str.ofString_eq_toList]
  show _=(⟨(a.toList.map Char.toNat).toArray++(b.toList.map Char.toNat).toArray⟩:Str)
  simp
theorem qe8 (a:String):(Str.ofString a).length=a.toList.length:=by
  rw [Str.ofString_eq_toList]
  show ((a.toList.map Char.toNat).toArray).size=_
  simp
theorem qgu {i:Int} (h:i<0):Str.ofString "-" ++ sI (-i)=sI i:=by
  rw [← qgV]
  match i,h with
  | .negSucc n,_=>rfl
theorem qe9 {n k:Nat} (h:n<10 ^ k) (hk:0<k):(toString n:String).toList.length≤k:=by
  rw [Nat.toString_eq_ofList_toDigits,String.toList_ofList]
  exact (Nat.length_toDigits_le_iff (by decide) hk).mpr h
theorem qfa (n:Nat):0<(toString n:String).toList.length:=by
  rw [Nat.toString_eq_ofList_toDigits,String.toList_ofList]
  exact Nat.length_toDigits_pos
theorem qgv {i:Int} {k:Nat} (h:i.natAbs<10 ^ k) (hk:0<k):(sI i).length≤k+1:=by
  rw [qe8]
  match i with
  | .ofNat n=>exact Nat.le_succ_of_le (qe9 h hk)
  | .negSucc n=>
    show ("-" ++ toString (n+1):String).toList.length≤_
    rw [String.toList_append,List.length_append]
    have:=qe9 (n:=n+1) h hk
    have e:("-" : String).toList.length=1:=rfl
    omega
theorem qfb (i:Int):0<(sI i).length:=by
  rw [qe8]
  match i with
  | .ofNat n=>exact qfa n
  | .negSucc n=>
    show 0<("-" ++ toString (n+1):String).toList.length
    rw [String.toList_append,List.length_append]
    have:=qfa (n+1)
    omega
theorem qgW {a b:String} (h:Str.ofString a=Str.ofString b):a.toList=b.toList:=by
  rw [Str.ofString_eq_toList,Str.ofString_eq_toList] at h
  have h':a.toList.map Char.toNat=b.toList.map Char.toNat:=by
    have:=congrArg (fun s:Str=>s.cps.toList) h
    simpa using this
  exact (List.map_inj_right (fun x y e=>Char.toNat_inj.mp e)).mp h'
theorem qfH {i:Int}:sI i=Str.ofString "0" ↔ i=0:=by
  constructor
  · intro h
    have e:=qgW h
    match i,e with
    | .ofNat n,e=>
      have e':(toString n:String).toList = "0".toList:=e
      rw [Nat.toString_eq_ofList_toDigits,String.toList_ofList] at e'
      have q:=congrArg (Nat.ofDigitChars 10 · 0) e'
      simp only [Nat.ofDigitChars_ten_toDigits] at q
      have z:n=0:=q
      rw [z];rfl
    | .negSucc n,e=>
      have e':("-" ++ toString (n+1):String).toList = "0".toList:=e
      rw [String.toList_append] at e'
      exact absurd (congrArg List.head? e') (by simp)
  · intro h;subst h;rfl
end Bs
namespace Bs
open PySem L2
section
variable {σ:L2.St} {H:Hp} {Q:VK} {D:Ends} {rest:TS} {sp:Sp} {E:XK}
theorem qa5 {i:Nat} {v:V} (h1:σ[i]?=some (some v)) (h:Q v H):qah i σ H Q:=⟨v,h1,h⟩
theorem qcb {ta:TE} {k:Nat} (h:ta σ H fun x H1=>sp [x] H1 (fun v H'=>rest D (σ.set k (some v)) H') E):qaN (qa6 (qaB sp [] E (qac ta qaw)) (qas k)) rest D σ H:=h
theorem qfI {ta tb:TE} {k:Nat} (h:ta σ H fun x H1=>tb σ H1 fun y H2=>sp [x,y] H2 (fun v H'=>rest D (σ.set k (some v)) H') E):qaN (qa6 (qaB sp [] E (qac ta (qac tb qaw))) (qas k)) rest D σ H:=h
theorem qfJ {ta tb tc:TE} {k:Nat} (h:ta σ H fun x H1=>tb σ H1 fun y H2=>tc σ H2 fun z H3=>sp [x,y,z] H3 (fun v H'=>rest D (σ.set k (some v)) H') E):qaN (qa6 (qaB sp [] E (qac ta (qac tb (qac tc qaw)))) (qas k)) rest D σ H:=h
theorem qcR {ta:TE} (h:ta σ H fun x H1=>sp [x] H1 Q E):qaB sp [] E (qac ta qaw) σ H Q:=h
theorem qgw {ta tb:TE} (h:ta σ H fun x H1=>tb σ H1 fun y H2=>sp [x,y] H2 Q E):qaB sp [] E (qac ta (qac tb qaw)) σ H Q:=h
theorem qgX {te:TE} {k:Nat} (h:te σ H fun x H1=>rest D (σ.set k (some x)) H1):qaN (qa6 te (qas k)) rest D σ H:=h
theorem qgY {te:TE} (h:te σ H D.rt):qbK te D σ H:=h
theorem qdb {ta tb:TE} (h:ta σ H fun x H1=>tb σ H1 fun y H2=>[x,y].length≤sizeLine∧∀ p,H2 p=none→Q (.ref p) (upd H2 p (.tup [x,y]))):qdl (qac ta (qac tb qaw)) σ H Q:=h
theorem r_c {v:V} (h:Q v H):tC v σ H Q:=h
theorem qdM {r:R2} {ta tb:TE} (h:ta σ H fun x H1=>tb σ H1 fun y H2=>r x y H2 Q):tOp r ta tb σ H Q:=h
theorem qgZ {k:Int} {a:Addr} {xs:List V} {v:V} (h2:H a=some (.tup xs)) (h3:atI xs k=some v) (h:Q v H):gT (.ref a) (.int k) H Q:=⟨a,k,xs,v,rfl,rfl,h2,h3,h⟩
theorem qfc {x y:V}:[x,y].length≤sizeLine:=by show 2≤_;exact sz (by decide)
end
end Bs
set_option maxHeartbeats 4000000
namespace Bs
open PySem L2
noncomputable abbrev Nm (H:Hp) (p:Addr) (t d:Int):Prop:=H p=some (.tup [.int t,.int d])
noncomputable def Box (H:Hp) (p:Addr) (n:Int):Prop:=∃ a b c:Int,H p=some (.lst [.int a,.int b,.int c])∧0≤a∧0≤b∧0≤c∧c≤n
noncomputable def qbd (K:W.Frag):Sp:=fun vs H Q _=>∃ (s:Addr) (ns:List Int) (k:Int),vs=[.ref s,.int k]∧SqL K H s (ns.map V.int)∧0≤k∧k≤1000∧
  ∀ (p:Addr) (H':Hp),H p=none→Kp p H H'→Box H' p 7000→Q (.ref p) H'
noncomputable def qat (_:W.Frag):Sp:=fun vs H Q _=>∃ (p:Addr) (m n:Int),vs=[.ref p,.int m]∧Box H p n∧n≤1000000∧0<m∧m<4611686018427387904∧
  ∀ (d:Int) (H':Hp),0≤d→d<m→Box H' p (n+1)→Kp p H H'→Q (.int d) H'
noncomputable def qaG (_:W.Frag):Sp:=fun vs H Q _=>∃ a b:Int,vs=[.int a,.int b]∧0<b∧Bd 8000 b∧
  ∀ (p:Addr),H p=none→Q (.ref p) (upd H p (.tup [.int (a / ((Int.gcd a b:Nat):Int)),.int (b / ((Int.gcd a b:Nat):Int))]))
noncomputable def qaC (_:W.Frag):Sp:=fun vs H Q _=>∃ (p:Addr) (n:Int),vs=[.ref p]∧Box H p n∧n≤900000∧
  ∀ (r:Addr) (t d:Int) (H':Hp),Nm H' r t d→Low t d→Bd 64 t→Bd 64 d→Box H' p (n+3)→Kp p H H'→Q (.ref r) H'
noncomputable def qcA (K:W.Frag):Sp:=fun vs H Q _=>∃ (a:Addr) (ns:List Int),vs=[.ref a]∧SqL K H a (ns.map V.int)∧ns.length≤63∧∀ H',Q (.bl true) H'
noncomputable def qaW (_:W.Frag):Sp:=fun vs H Q _=>∃ (x n:Int) (b:Nat),vs=[.int x,.int n]∧0≤n∧Bd b x∧b*n.toNat+1≤8000∧Q (.int (x ^ n.toNat)) H
end Bs
namespace Bs
open PySem L2
noncomputable def nT (a b:Int):Str:=if b=1 then sI a else sI a++Str.ofString "/" ++ sI b
noncomputable def jn (a:Int) (f:Bool):Str:=if f=true then (if a<0 then Str.ofString "-" else Str.ofString "") else (if a<0 then Str.ofString " - " else Str.ofString " + ")
noncomputable def st1 (t:Str) (r:Int×Int×Str):Str:=t++(jn r.1 (decide (t=Str.ofString ""))++nT (if r.1<0 then -r.1 else r.1) r.2.1++Str.ofString "*log(" ++ r.2.2++Str.ofString ")")
noncomputable def lT (t:Str) (L:List (Int×Int×Str)):Str:=L.foldl st1 t
noncomputable def hd (f:Bool) (t:Str) (n:Nat):Str:=if f=true∧0<n then Str.ofString "" else t
noncomputable def RwS (H:Hp) (vs:List V) (L:List (Int×Int×Str)):Prop:=vs.length=L.length∧∀ (i:Nat) (r:Int×Int×Str),L[i]?=some r→∃ p c,vs[i]?=some (V.ref p)∧H p=some (.tup [.ref c,.str r.2.2])∧Nm H c r.1 r.2.1∧Bd 64 r.1∧Bd 64 r.2.1∧r.2.2.length≤100
noncomputable def RwN (H:Hp) (vs:List V) (L:List (Int×Int×Int×Int)):Prop:=vs.length=L.length∧∀ (i:Nat) (r:Int×Int×Int×Int),L[i]?=some r→∃ p c d,vs[i]?=some (V.ref p)∧H p=some (.tup [.ref c,.ref d])∧Nm H c r.1 r.2.1∧Nm H d r.2.2.1 r.2.2.2∧Bd 64 r.1∧Bd 64 r.2.1∧Bd 64 r.2.2.1∧Bd 64 r.2.2.2
noncomputable def txt (r:Int×Int×Int×Int):Int×Int×Str:=(r.1,r.2.1,nT r.2.2.1 r.2.2.2)
noncomputable def qaO (_:W.Frag):Sp:=fun vs H Q _=>∃ (p:Addr) (a b:Int),vs=[.ref p]∧Nm H p a b∧∀ r,H r=none→Q (.ref r) (upd H r (.tup [.int (if a<0 then -a else a),.int b]))
noncomputable def qay (_:W.Frag):Sp:=fun vs H Q _=>∃ i:Int,vs=[.int i]∧Bd 64 i∧∀ H',Same H H'→Q (.str (sI i)) H'
noncomputable def qaj (_:W.Frag):Sp:=fun vs H Q _=>∃ (p:Addr) (a b:Int),vs=[.ref p]∧Nm H p a b∧Bd 64 a∧Bd 64 b∧∀ H',Same H H'→Q (.str (nT a b)) H'
noncomputable def qbe (_:W.Frag):Sp:=fun vs H Q _=>∃ (p:Addr) (f:Bool) (a b:Int),vs=[.ref p,.bl f]∧Nm H p a b∧Q (.str (jn a f)) H
noncomputable def qaI (_:W.Frag):Sp:=fun vs H Q _=>∃ (t:Str) (l:Addr) (ws:List V) (L:List (Int×Int×Str)),vs=[.str t,.ref l]∧H l=some (.lst ws)∧RwS H ws L∧t.length≤100∧L.length≤30∧
  ∀ H',Same H H'→Q (.str (lT (hd (decide (t=Str.ofString "0")) t L.length) L)) H'
noncomputable def qan (_:W.Frag):Sp:=fun vs H Q _=>∃ (n q l:Addr) (a b:Int) (ws:List V) (L:List (Int×Int×Int×Int)),vs=[.ref n]∧H n=some (.tup [.ref q,.ref l])∧Nm H q a b∧Bd 64 a∧Bd 64 b∧H l=some (.tup ws)∧RwN H ws L∧L.length≤30∧
  ∀ H',Same H H'→Q (.str (lT (hd (decide (nT a b=Str.ofString "0")) (nT a b) L.length) (L.map txt))) H'
noncomputable abbrev qal:=qaj
noncomputable def qaz (_:W.Frag):Sp:=fun vs H Q _=>∃ (t:Str) (f:Bool) (l:Addr) (ws:List V) (L:List (Int×Int×Str)),vs=[.str t,.bl f,.ref l]∧H l=some (.lst ws)∧RwS H ws L∧t.length≤100∧L.length≤30∧
  ∀ H',Same H H'→Q (.str (lT (hd f t L.length) L)) H'
end Bs
namespace Bs
open PySem L2
set_option linter.unusedVariables false
noncomputable def qcc (K:W.Frag):TS:=
  (qaN (qa6 (tC (.int 1)) (qas 2))
    (qaN (qa6 (qah 0) (qas 3))
    (qaN (qb1 (qaP (tOp iGt (qah 1) (tC (.int 0)))) (qaN (qcH (qaP (tOp rEq (tOp qeA (qah 1) (tC (.int 2))) (tC (.int 1)))) (qfV 2 (qah 3) qdL) qbm)
    (qaN (qfV 1 (tC (.int 2)) qb8)
    (qcH (qaP (tOp iGt (qah 1) (tC (.int 0)))) (qfV 3 (qah 3) qdL) qbm))))
    (qbK (qah 2)))))
noncomputable def qcB (K:W.Frag):TS:=
  (qbK (qdl (qac (tCB qeO (qac (tOp gT (qah 0) (tC (.int 0))) qaw)) (qac (tOp gT (qah 0) (tC (.int 1))) qaw))))
noncomputable def qa2 (K:W.Frag):TS:=
  (qaN (qa6 (qaB (qay K) [] E0 (qac (tOp gT (qah 0) (tC (.int 0))) qaw)) (qas 1))
    (qbK (tIf (qaP (tOp rEq (tOp gT (qah 0) (tC (.int 1))) (tC (.int 1)))) (qah 1) (tOp qaV (tOp qaV (qah 1) (tC (.str "/"))) (qaB (qay K) [] E0 (qac (tOp gT (qah 0) (tC (.int 1))) qaw))))))
noncomputable def qa9 (K:W.Frag):TS:=
  (qaN (qa6 (qaB (qaW K) [] E0 (qac (tC (.int 10)) (qac (tC (.int 600)) qaw))) (qas 1))
    (qaN (qa6 (tCB qeO (qac (qah 0) qaw)) (qas 2))
    (qaN (qa6 (qfW qaw) (qas 3))
    (qaN (qb1 (qaP (tOp iGe (qah 2) (qah 1))) qe2)
    (qaN (qeC (tBM K "list" qcL (qah 3) (qac (tCB qdv (qac (qah 2) qaw)) qaw)))
    (qbK (tOp qaV (tIf (qaP (tOp iLt (qah 0) (tC (.int 0)))) (tC (.str "-")) (tC (.str ""))) (qda K (qac (qah 3) qaw)))))))))
noncomputable def qcS (K:W.Frag):TS:=
  (qaN (qcH (tB (qah 1)) (qbK (tIf (qaP (tOp iLt (tOp gT (qah 0) (tC (.int 0))) (tC (.int 0)))) (tC (.str "-")) (tC (.str "")))) qbm)
    (qbK (tIf (qaP (tOp iLt (tOp gT (qah 0) (tC (.int 0))) (tC (.int 0)))) (tC (.str " - ")) (tC (.str " + ")))))
noncomputable def qaX (K:W.Frag):TS:=
  (qbK (qaB (qaI K) [] E0 (qac (qaB (qaj K) [] E0 (qac (tOp gT (qah 0) (tC (.int 0))) qaw)) (qac (qcy (qgd K (tOp gT (qah 0) (tC (.int 1)))) [none,none] (qdu 2 (qbW (qas 0) (qbW (qas 1) qfU))) (qdl (qac (qah 0) (qac (qaB (qaj K) [] E0 (qac (qah 1) qaw)) qaw)))) qaw))))
noncomputable def qcd (K:W.Frag):TS:=
  (qbK (qah 2))
noncomputable def qa3 (K:W.Frag):TS:=
  (qaN (qeF (qcI K (qah 1)) (qdu 2 (qbW (qas 3) (qbW (qas 4) qfU))) (qfV 2 (tOp qaV (tOp qaV (tOp qaV (tOp qaV (qaB (qbe K) [] E0 (qac (qah 3) (qac (tOp rEq (qah 2) (tC (.str ""))) qaw))) (qaB (qaj K) [] E0 (qac (qaB (qaO K) [] E0 (qac (qah 3) qaw)) qaw))) (tC (.str "*log("))) (qah 4)) (tC (.str ")"))) qaV))
    (qcd K))
noncomputable def qbj (K:W.Frag):TS:=
  (qaN (qa6 (tIf (qf7 (qaP (tOp rEq (qah 0) (tC (.str "0")))) (qfA (qah 1))) (tC (.str "")) (qah 0)) (qas 2))
    (qa3 K))
noncomputable def qcT (K:W.Frag):TS:=
  (qaN (qa6 (tC (.int 0)) (qas 2))
    (qaN (qcH (qaP (tOp iLt (qah 1) (tCB (qed K) (qac (qah 0) qaw)))) (qa6 (tOp (gS K) (qah 0) (qah 1)) (qas 2)) qbm)
    (qaN (qa6 (qfk (tOp iGt (tCB (qed K) (qac (qah 0) qaw)) (tC (.int 0))) (tOp rEq (tOp qeA (tOp (gS K) (qah 0) (tC (.int 0))) (tC (.int 2))) (tC (.int 0)))) (qas 3))
    (qbK (qfW (qac (tOp qdL (tCB qeO (qac (qah 2) qaw)) (tCB qec (qac (qah 3) qaw))) (qac (tCB qeO (qac (qah 2) qaw)) (qac (tOp qdL (tC (.int 7)) (qah 1)) qaw))))))))
noncomputable def qce (K:W.Frag):TS:=
  (qaN (qcH (qaP (tOp iGt (tOp gL (qah 0) (tC (.int 0))) (tC (.int 0)))) (qaN (qa6 (tOp qeA (tOp gL (qah 0) (tC (.int 0))) (qah 1)) (qas 2))
    (qaN (qa6 (tOp qb8 (tOp gL (qah 0) (tC (.int 0))) (qah 1)) (qgB (qah 0) (tC (.int 0)) qeI))
    (qbK (qah 2)))) qbm)
    (qaN (qa6 (tOp qeN (tOp gL (qah 0) (tC (.int 2))) (tC (.int 1))) (qgB (qah 0) (tC (.int 2)) qeI))
    (qaN (qa6 (tOp qeN (tOp qeA (tOp gL (qah 0) (tC (.int 1))) (tC (.int 2305843009213693951))) (tC (.int 3))) (qas 3))
    (qaN (qa6 (tOp qeA (tOp qdL (qah 3) (tOp qeN (tC (.int 48271)) (tOp qdL (tOp gL (qah 0) (tC (.int 2))) (tOp gL (qah 0) (tC (.int 2)))))) (tC (.int 2305843009213693921))) (qas 3))
    (qaN (qa6 (tOp qeA (tOp qdL (qah 3) (tOp qeN (tOp qeN (tOp qeA (qah 3) (tC (.int 1000003))) (tOp qdL (tOp gL (qah 0) (tC (.int 2))) (tC (.int 69621)))) (tC (.int 11)))) (tC (.int 2305843009213693907))) (qas 3))
    (qbK (tOp qeA (tOp qeN (tOp qb8 (tOp qdL (qah 3) (qah 3)) (tC (.int 97))) (tOp qb8 (qah 3) (tC (.int 31)))) (qah 1))))))))
noncomputable def qbD (K:W.Frag):TS:=
  (qaN (qgC 2 3 (qac (tCB qeO (qac (qah 0) qaw)) (qac (qah 1) qaw)))
    (qaN (qb1 (qaP (tOp iGt (qah 3) (tC (.int 0)))) (qgC 2 3 (qac (qah 3) (qac (tOp qeA (qah 2) (qah 3)) qaw))))
    (qbK (qdl (qac (tOp qb8 (qah 0) (qah 2)) (qac (tOp qb8 (qah 1) (qah 2)) qaw))))))
noncomputable def qbE (K:W.Frag):TS:=
  (qaN (qa6 (qaB (qat K) [] E0 (qac (qah 0) (qac (tC (.int 5)) qaw))) (qas 1))
    (qaN (qcH (qaP (tOp rEq (qah 1) (tC (.int 0)))) (qbK (qdl (qac (tOp qgm (qaB (qat K) [] E0 (qac (qah 0) (qac (tC (.int 19)) qaw))) (tC (.int 9))) (qac (tC (.int 1)) qaw)))) qbm)
    (qaN (qcH (qaP (tOp rEq (qah 1) (tC (.int 1)))) (qbK (qaB (qaG K) [] E0 (qac (tOp qgm (qaB (qat K) [] E0 (qac (qah 0) (qac (tC (.int 19)) qaw))) (tC (.int 9))) (qac (tOp qeN (tC (.int 1)) (qaB (qat K) [] E0 (qac (qah 0) (qac (tC (.int 6)) qaw)))) qaw)))) qbm)
    (qaN (qcH (qaP (tOp rEq (qah 1) (tC (.int 2)))) (qbK (qaB (qaG K) [] E0 (qac (tOp qgm (qaB (qat K) [] E0 (qac (qah 0) (qac (tC (.int 1999999999999)) qaw))) (tC (.int 999999999999))) (qac (tOp qeN (tC (.int 1)) (qaB (qat K) [] E0 (qac (qah 0) (qac (tC (.int 999999999999)) qaw)))) qaw)))) qbm)
    (qbK (qdl (qac (tOp qgm (qaB (qat K) [] E0 (qac (qah 0) (qac (tC (.int 3)) qaw))) (tC (.int 1))) (qac (tC (.int 1)) qaw))))))))
noncomputable def qaS (K:W.Frag):TS:=
  (qaN (qcH (qaP (tOp rEq (tOp gT (qah 0) (tC (.int 1))) (tC (.int 1)))) (qbK (tCB qdv (qac (tOp gT (qah 0) (tC (.int 0))) qaw))) qbm)
    (qbK (tOp qaV (tOp qaV (tCB qdv (qac (tOp gT (qah 0) (tC (.int 0))) qaw)) (tC (.str "/"))) (tCB qdv (qac (tOp gT (qah 0) (tC (.int 1))) qaw)))))
noncomputable def qbq (K:W.Frag):TS:=
  (qcH (qaP (tOp rEq (qah 3) (tC (.str "")))) (qa6 (tOp qaV (tOp qfD (tC (.str "-")) (tCB qec (qac (tOp iLt (tOp gT (qah 4) (tC (.int 0))) (tC (.int 0))) qaw))) (qah 6)) (qas 3)) (qa6 (tOp qaV (tOp qaV (qah 3) (tOp gL (qfW (qac (tC (.str " + ")) (qac (tC (.str " - ")) qaw))) (tCB qec (qac (tOp iLt (tOp gT (qah 4) (tC (.int 0))) (tC (.int 0))) qaw)))) (qah 6)) (qas 3)))
noncomputable def qbr (K:W.Frag):TS:=
  (qaN (qa6 (tOp qaV (tOp qaV (tOp qaV (qaB (qal K) [] E0 (qac (qdl (qac (tCB qeO (qac (tOp gT (qah 4) (tC (.int 0))) qaw)) (qac (tOp gT (qah 4) (tC (.int 1))) qaw))) qaw)) (tC (.str "*log("))) (qah 5)) (tC (.str ")"))) (qas 6))
    (qbq K))
noncomputable def qbS (K:W.Frag):TS:=
  (qbK (qah 3))
noncomputable def qba (K:W.Frag):TS:=
  (qaN (qeF (qcI K (qah 2)) (qdu 2 (qbW (qas 4) (qbW (qas 5) qfU))) (qbr K))
    (qbS K))
noncomputable def qbT (K:W.Frag):TS:=
  (qaN (qcH (qf7 (tB (qah 1)) (qaP (tOp iGt (tCB qfs (qac (qah 2) qaw)) (tC (.int 0))))) (qa6 (tC (.str "")) (qas 3)) qbm)
    (qba K))
noncomputable def qbs (K:W.Frag):TS:=
  (qaN (qa6 (qah 0) (qas 3))
    (qbT K))
noncomputable def qdx (K:W.Frag):TS:=
  (qcH (qf7 (qaP (tOp rNe (tOp gT (qah 6) (tC (.int 0))) (tC (.int 0)))) (qaP (tOp rNe (tOp gT (qah 7) (tC (.int 0))) (tC (.int 0))))) (qeC (tBM K "list" qcL (qah 4) (qac (qdl (qac (qah 6) (qac (qdl (qac (tCB qeO (qac (tOp gT (qah 7) (tC (.int 0))) qaw)) (qac (tOp gT (qah 7) (tC (.int 1))) qaw))) qaw))) qaw))) qbm)
noncomputable def qdy (K:W.Frag):TS:=
  (qaN (qa6 (qaB (qaC K) [] E0 (qac (qah 2) qaw)) (qas 7))
    (qdx K))
noncomputable def qdz (K:W.Frag):TS:=
  (qaN (qa6 (qaB (qaC K) [] E0 (qac (qah 2) qaw)) (qas 6))
    (qdy K))
noncomputable def qdA (K:W.Frag):TS:=
  (qcH (tOr (qgG (tB (tCB qfE (qac (qah 9) (qac (tC (.ty "str")) qaw))))) (qaP (tOp rNe (qah 9) (qah 8)))) (qbK (tC (.bl false))) qbm)
noncomputable def qdB (K:W.Frag):TS:=
  (qaN (qa6 (qaB (qan K) [] E0 (qac (qdl (qac (qah 3) (qac (tCB qfB (qac (qah 4) qaw)) qaw))) qaw)) (qas 9))
    (qdA K))
noncomputable def qdC (K:W.Frag):TS:=
  (qaN (qa6 (qaB (qaz K) [] E0 (qac (qaB (qal K) [] E0 (qac (qah 3) qaw)) (qac (tOp rEq (tOp gT (qah 3) (tC (.int 0))) (tC (.int 0))) (qac (qcy (qcI K (qah 4)) [none,none] (qdu 2 (qbW (qas 0) (qbW (qas 1) qfU))) (qdl (qac (qah 0) (qac (qaB (qal K) [] E0 (qac (qah 1) qaw)) qaw)))) qaw)))) (qas 8))
    (qdB K))
noncomputable def qdD (K:W.Frag):TS:=
  (qaN (qeF (qeE (qac (qaB (qat K) [] E0 (qac (qah 2) (qac (tC (.int 6)) qaw))) qaw)) (qas 5) (qdz K))
    (qdC K))
noncomputable def qdE (K:W.Frag):TS:=
  (qaN (qa6 (qfW qaw) (qas 4))
    (qdD K))
noncomputable def qdF (K:W.Frag):TS:=
  (qaN (qa6 (qaB (qaC K) [] E0 (qac (qah 2) qaw)) (qas 3))
    (qdE K))
noncomputable def qdG (K:W.Frag):TS:=
  (qaN (qa6 (qaB (qbd K) [] E0 (qac (qah 0) (qac (qah 1) qaw))) (qas 2))
    (qdF K))
noncomputable def qfK (K:W.Frag):TS:=
  (qbK (tC (.bl true)))
noncomputable def qfL (K:W.Frag):TS:=
  (qaN (qeF (qeE (qac (tCB qgS (qac (tC (.int 1)) (qac (tCB qgT (qac (tCB (qed K) (qac (qah 0) qaw)) (qac (tC (.int 30)) qaw))) qaw))) qaw)) (qas 1) (qdG K))
    (qfK K))
end Bs
namespace Bs
open PySem L2
variable {K:W.Frag} {vs:List V} {H:Hp} {Q:VK} {E:XK}
local macro_rules | `(tactic| rwa [$[$t:term],*]) => do
  let l : Array Lean.Term := (("qaN qa6 qaB qac qah qaw qas qgB L2.start qcH tIf qaP L2.tB tOp rI0 rI L2.tC tUn rU qbm qbK qdl qfW qgC qfV qeC tCB qgf qf7 tOr qgG qfk qg6 qgI rEq rNe qeI qeN qgm qdL qb8 qgQ qeA qgR qhe iLt iLe iGt iGe qhf gT gL gS qeO qgS qgT qec qgU qfs qed qhh qft qcw qgn eqT qee qfu qgo qgp List.map_cons List.map_nil List.length_cons List.length_nil List.replicate List.cons_append List.nil_append List.append_nil List.getElem?_cons_zero List.getElem?_cons_succ Option.some.injEq exists_eq_left' exists_eq_left V.int.injEq V.bl.injEq V.ref.injEq V.ty.injEq HO.tup.injEq HO.lst.injEq List.cons.injEq and_true true_and and_assoc exists_and_left List.set_cons_zero List.set_cons_succ decide_eq_true_eq decide_eq_false_iff_not Bool.not_eq_true' Bool.true_eq_false Bool.false_eq_true Bool.not_true Bool.not_false if_true if_false ite_true ite_false qfv qfw qeP qeQ qdp qdq qdr qds qdt Nat.zero_add Nat.reduceAdd Nat.reduceSub qaf Int.cast_ofNat_Int decide_true decide_false eq_self not_true_eq_false not_false_eq_true Int.natCast_add Int.natCast_zero reduceCtorEq Nm qdu qbW qfU qee qfy qfx qaV qdv qfD qfE qda qfA qfB V.str.injEq qaW qaO qay qaj qbe qaI qan qbd qat qaG qaC qaz".splitOn " ").map fun s => (⟨(Lean.mkIdent s.toName).raw⟩ : Lean.Term)).toArray
  `(tactic| simp only [$[$(l ++ t):term],*])
theorem qgx {a b:Int} (ha:Bd 9000 a) (hb:Bd 9000 b):IntMulOk a b:=qgs ha hb (by decide)
theorem qhi {a b:Int} (h1:-18446744073709551616<b) (h2:b<18446744073709551616):IntMulOk a b:=IntMulOk.of_right (intBits_le_64 (by omega) (by omega))
theorem qg4 {a b:Int} (h1:-18446744073709551616<a) (h2:a<18446744073709551616):IntMulOk a b:=IntMulOk.of_left (intBits_le_64 (by omega) (by omega))
theorem qcf {ns:List Int} {k:Int} (h0:0≤k) (h:k<(ns.length:Int)):∃ v:Int,atI (ns.map V.int) k=some (.int v):=by
  have hk:k.toNat<ns.length:=by omega
  have ek:k=((k.toNat:Nat):Int):=by omega
  have q:atI (ns.map V.int) ((k.toNat:Nat):Int)=some (.int ns[k.toNat]):=qfq (by rw [List.getElem?_map,List.getElem?_eq_getElem hk] <;> rfl)
  rw [← ek] at q
  exact ⟨_,q⟩
theorem qeV (h:qbd K vs H Q E):qcT K { nx:=fun _ H'=>Q .non H',rt:=Q } (L2.start ["_law_script", "_law_k", "_law_cell", "_law_plain"] vs) H:=by
  obtain ⟨s,ns,k,rfl,hS,k0,k1,q⟩:=h
  unfold qcT
  rwa []
  have fin:∀ (cell:Int) (pl:Bool),IntMulOk (if cell<0 then -cell else cell) (if pl=true then 1 else 0)∧IntMulOk 7 k∧3≤sizeLine∧∀ (p:Addr),H p=none→Q (V.ref p) (upd H p (HO.lst [V.int ((if cell<0 then -cell else cell)*if pl=true then 1 else 0),V.int (if cell<0 then -cell else cell),V.int (7*k)])):=fun cell pl=>by
    have c0:0≤(if cell<0 then -cell else cell):=by split <;> omega
    refine ⟨qhi (by split <;> decide) (by split <;> decide),qg4 (by decide) (by decide),sz (by decide),fun p hp=>q p _ hp Kp.upd ⟨_,_,_,qaf,?_,c0,by omega,by omega⟩⟩
    exact Int.mul_nonneg c0 (by split <;> decide)
  refine ⟨_,hS,qcv (fun c=>?_) (fun c=>?_)⟩
  · rw [List.length_map] at c
    obtain ⟨v,hv⟩:=qcf (ns:=ns) k0 c
    refine ⟨_,hS,_,hv,_,hS,qcv (fun c2=>?_) (fun c2=>?_)⟩
    · rw [List.length_map] at c2
      obtain ⟨w,hw⟩:=qcf (ns:=ns) (Int.le_refl 0) c2
      have f:=fin v (decide (w % 2=0))
      simp only [decide_eq_true_eq] at f
      exact ⟨_,hS,_,hw,w,rfl,by decide,v,rfl,f.1,v,rfl,f.2⟩
    · have f:=fin v false
      simp only [Bool.false_eq_true,if_false] at f
      exact ⟨v,rfl,f.1,v,rfl,f.2⟩
  · refine ⟨_,hS,qcv (fun c2=>?_) (fun c2=>?_)⟩
    · rw [List.length_map] at c2
      obtain ⟨w,hw⟩:=qcf (ns:=ns) (Int.le_refl 0) c2
      have f:=fin 0 (decide (w % 2=0))
      simp only [decide_eq_true_eq] at f
      exact ⟨_,hS,_,hw,w,rfl,by decide,f⟩
    · have f:=fin 0 false
      simp only [Bool.false_eq_true,if_false] at f
      exact f
theorem qes (h:qat K vs H Q E):qce K { nx:=fun _ H'=>Q .non H',rt:=Q } (L2.start ["_law_box_here", "_law_many", "_law_digit", "_law_m"] vs) H:=by
  obtain ⟨p,m,n,rfl,⟨a,b,c,hp,ha,hb,hc,hcn⟩,hn,hm,hm2,k⟩:=h
  unfold qce
  rwa [hp]
  have D:∀ x y:Int,0<y→y<4611686018427387904→qgD x y:=fun x y h1 h2=>⟨h1,(qeK (by omega) (by omega)).mono (by decide)⟩
  refine qcv (fun c0=>?_) (fun c0=>?_)
  · exact ⟨hm,D _ _ hm hm2,k _ _ (Int.emod_nonneg _ (by omega)) (Int.emod_lt_of_pos _ hm) ⟨_,_,_,qaf,Int.ediv_nonneg ha (by omega),hb,hc,by omega⟩ Kp.upd⟩
  · have L:∀ {x y:Int},0≤x→x<4611686018427387904→IntMulOk x y:=fun h1 h2=>qg4 (by omega) (by omega)
    have Z:∀ (x:Int) {y:Int},0<y→y<4611686018427387904→0≤x % y∧x % y<4611686018427387904:=fun x y h1 h2=>⟨Int.emod_nonneg x (by omega),by have:=Int.emod_lt_of_pos x h1;omega⟩
    refine ⟨by decide,L (by omega) (by omega),L (by omega) (by omega),by decide,by decide,L (by omega) (by omega),L (Z _ (by decide) (by decide)).1 (Z _ (by decide) (by decide)).2,by decide,L (Z _ (by decide) (by decide)).1 (Z _ (by decide) (by decide)).2,
      D _ _ (by decide) (by decide),D _ _ (by decide) (by decide),hm,k _ _ (Int.emod_nonneg _ (by omega)) (Int.emod_lt_of_pos _ hm) ⟨_,_,_,qaf,ha,hb,by omega,by omega⟩ Kp.upd⟩
theorem qcU (h:qaG K vs H Q E):qbD K { nx:=fun _ H'=>Q .non H',rt:=Q } (L2.start ["_law_top", "_law_bottom", "_law_one", "_law_other"] vs) H:=by
  obtain ⟨a,b,rfl,hb,hbd,k⟩:=h
  unfold qbD
  rwa []
  refine while_by (fun m σ H'=>∃ x y:Int,σ=[some (.int a),some (.int b),some (.int x),some (.int y)]∧H'=H∧0≤x∧0≤y∧Int.gcd x y=Int.gcd a b∧m=y.natAbs) b.natAbs ⟨_,b,rfl,rfl,by split <;> omega,by omega,?_,rfl⟩ ?_
  · split
    · rw [Int.neg_gcd]
    · rfl
  rintro m σ H' ⟨x,y,rfl,rfl,x0,y0,hg,rfl⟩
  rwa []
  refine qcv (fun c=>?_) (fun c=>?_)
  · refine ⟨fun σ' H''=>∃ m',m'<y.natAbs∧_,fun _ _ h=>h,?_⟩
    have z1:=Int.emod_nonneg x (show y≠0 by omega)
    have z2:=Int.emod_lt_of_pos x c
    refine ⟨c,(x % y).natAbs,by omega,y,x % y,rfl,rfl,y0,z1,?_,rfl⟩
    rw [qeM x y0];exact hg
  · have e:y=0:=by omega
    subst e
    have ex:x=((Int.gcd a b:Nat):Int):=by rw [← hg,Int.gcd_zero_right];omega
    obtain ⟨_,_,_,g0,gb⟩:=qbO (a:=a) hb
    rw [← ex] at g0 gb
    have hd:Bd 9000 x:=(hbd.le (by omega)).mono (by decide)
    refine ⟨⟨g0,hd⟩,⟨g0,hd⟩,sz (by decide),fun p hp=>?_⟩
    rw [ex];exact k p hp
theorem Box.mono {H:Hp} {p:Addr} {m n:Int} (h:Box H p m) (hn:m≤n):Box H p n:=by
  obtain ⟨a,b,c,h1,h2,h3,h4,h5⟩:=h
  exact ⟨a,b,c,h1,h2,h3,h4,by omega⟩
theorem Box.at {H:Hp} {p:Addr} {n:Int} (h:Box H p n):∃ xs,H p=some (.lst xs):=let ⟨_,_,_,h1,_⟩:=h;⟨_,h1⟩
theorem Box.kp {H H':Hp} {p q:Addr} {n:Int} (h:Box H p n) (k:Kp q H H') (e:p≠q):Box H' p n:=by
  obtain ⟨a,b,c,h1,h2⟩:=h
  exact ⟨a,b,c,k _ _ e h1,h2⟩
theorem Box.same {H H':Hp} {p:Addr} {n:Int} (h:Box H p n) (k:Same H H'):Box H' p n:=by
  obtain ⟨a,b,c,h1,h2⟩:=h
  exact ⟨a,b,c,k _ _ h1,h2⟩
theorem Box.ne_none {H:Hp} {p q:Addr} {n:Int} (h:Box H p n) (e:H q=none):p≠q:=let ⟨_,_,_,h1,_⟩:=h;qam h1 e
theorem Nm.ne {H:Hp} {p q:Addr} {t d n:Int} (h:Nm H q t d) (b:Box H p n):q≠p:=let ⟨_,_,_,h1,_⟩:=b;qdN h h1 (by intro z;cases z)
theorem qfM (t:Int):Low t 1:=⟨by decide,Int.gcd_one_right t⟩
theorem qcV (h:qaC K vs H Q E):qbE K { nx:=fun _ H'=>Q .non H',rt:=Q } (L2.start ["_law_box_here", "_law_kind"] vs) H:=by
  obtain ⟨p,n,rfl,hB,hn,k⟩:=h
  unfold qbE
  rwa []
  refine ⟨n,hB,by omega,by decide,by decide,fun d H1 d0 d1 B1 k1=>?_⟩
  have fin:∀ (t:Int) (H2:Hp),Bd 64 t→Box H2 p (n+2)→Kp p H H2→2≤sizeLine∧∀ (r:Addr),H2 r=none→Q (V.ref r) (upd H2 r (HO.tup [V.int t,V.int 1])):=fun t H2 bt B2 k2=>
    ⟨sz (by decide),fun r hr=>k r t 1 _ qaf (qfM t) bt (qeK (by decide) (by decide)) ((B2.same (qak hr _)).mono (by omega)) (k2.same (qak hr _))⟩
  have low:∀ (a b:Int) (H2:Hp),0<b→Bd 64 a→Bd 64 b→Box H2 p (n+3)→Kp p H H2→0<b∧Bd 8000 b∧∀ (r:Addr),H2 r=none→Q (V.ref r) (upd H2 r (HO.tup [V.int (a / ((Int.gcd a b:Nat):Int)),V.int (b / ((Int.gcd a b:Nat):Int))])):=fun a b H2 b0 ba bb B2 k2=>by
    obtain ⟨m1,m2,m3,_,_⟩:=qbO (a:=a) b0
    exact ⟨b0,bb.mono (by decide),fun r hr=>k r _ _ _ qaf m1 (ba.le m2) (bb.le m3) (B2.same (qak hr _)) (k2.same (qak hr _))⟩
  refine qcv (fun c=>?_) (fun c=>?_)
  · refine ⟨n+1,B1,by omega,by decide,by decide,fun e H2 e0 e1 B2 k2=>?_⟩
    exact fin _ _ (qeK (by omega) (by omega)) (B2.mono (by omega)) (k1.trans k2)
  refine qcv (fun c=>?_) (fun c=>?_)
  · refine ⟨n+1,B1,by omega,by decide,by decide,fun e H2 e0 e1 B2 k2=>?_⟩
    refine ⟨n+1+1,B2,by omega,by decide,by decide,fun f H3 f0 f1 B3 k3=>?_⟩
    exact low _ _ _ (by omega) (qeK (by omega) (by omega)) (qeK (by omega) (by omega)) (B3.mono (by omega)) ((k1.trans k2).trans k3)
  refine qcv (fun c=>?_) (fun c=>?_)
  · refine ⟨n+1,B1,by omega,by decide,by decide,fun e H2 e0 e1 B2 k2=>?_⟩
    refine ⟨n+1+1,B2,by omega,by decide,by decide,fun f H3 f0 f1 B3 k3=>?_⟩
    exact low _ _ _ (by omega) (qeK (by omega) (by omega)) (qeK (by omega) (by omega)) (B3.mono (by omega)) ((k1.trans k2).trans k3)
  · refine ⟨n+1,B1,by omega,by decide,by decide,fun e H2 e0 e1 B2 k2=>?_⟩
    exact fin _ _ (qeK (by omega) (by omega)) (B2.mono (by omega)) (k1.trans k2)
theorem Kp.over {H0 H H1:Hp} {p:Addr} (s:Same H0 H) (k:Kp p H H1) (n:H0 p=none):Same H0 H1:=fun b o h=>k b o (qam h n) (s b o h)
theorem qet (h:qaW K vs H Q E):qcc K { nx:=fun _ H'=>Q .non H',rt:=Q } (L2.start ["whole", "n", "result", "square"] vs) H:=by
  obtain ⟨x,n,b,rfl,n0,bx,hb,q⟩:=h
  unfold qcc
  rwa []
  have BP:∀ k:Nat,k≤n.toNat→Bd 9000 (x ^ k):=fun k hk=>(bx.pow k).mono (by
    have:=Nat.mul_le_mul_left b hk
    omega)
  refine while_by (fun m σ H'=>∃ r s:Nat,σ=[some (.int x),some (.int (m:Int)),some (.int (x ^ r)),some (.int (x ^ s))]∧H'=H∧r+s*m=n.toNat) n.toNat ⟨0,1,?_,rfl,by omega⟩ ?_
  · have e:((n.toNat:Nat):Int)=n:=by omega
    rw [e,Int.pow_zero,show x ^ 1=x by rw [Int.pow_succ,Int.pow_zero,Int.one_mul]]
  rintro m σ H' ⟨r,s,rfl,rfl,hm⟩
  rwa []
  refine qcv (fun c=>?_) (fun c=>?_)
  · have m1:1≤m:=by omega
    have sl:s≤s*m:=Nat.le_mul_of_pos_right s m1
    have d2:qgD (m:Int) 2:=⟨by decide,(qeK (by decide) (by decide)).mono (by decide)⟩
    have hm2:s*m=(s+s)*(m / 2)+s*(m % 2):=by
      have e:m=2*(m / 2)+m % 2:=(Nat.div_add_mod m 2).symm
      generalize m / 2=u at e ⊢
      generalize m % 2=v at e ⊢
      subst e
      rw [Nat.mul_add]
      congr 1
      rw [← Nat.mul_assoc,Nat.mul_comm s 2]
      congr 1
      omega
    have ed:((m:Int) / 2)=((m / 2:Nat):Int):=by omega
    rw [ed]
    refine ⟨fun σ' H''=>∃ m',m'<m∧_,fun _ _ h=>h,?_⟩
    have fin:∀ r':Nat,r'+(s+s)*(m / 2)=n.toNat→qgD (m:Int) 2∧if 0<((m / 2:Nat):Int) then IntMulOk (x ^ s) (x ^ s)∧∃ m',m'<m∧∃ r s_1,[some (V.int x),some (V.int ((m / 2:Nat):Int)),some (V.int (x ^ r')),some (V.int (x ^ s*x ^ s))]=[some (V.int x),some (V.int (m':Int)),some (V.int (x ^ r)),some (V.int (x ^ s_1))]∧H'=H'∧r+s_1*m'=n.toNat
        else ∃ m',m'<m∧∃ r s_1,[some (V.int x),some (V.int ((m / 2:Nat):Int)),some (V.int (x ^ r')),some (V.int (x ^ s))]=[some (V.int x),some (V.int (m':Int)),some (V.int (x ^ r)),some (V.int (x ^ s_1))]∧H'=H'∧r+s_1*m'=n.toNat:=fun r' hr'=>by
      refine ⟨d2,qcv (fun c2=>?_) (fun c2=>?_)⟩
      · exact ⟨qgx (BP s (by omega)) (BP s (by omega)),m / 2,by omega,r',s+s,by rw [Int.pow_add],rfl,hr'⟩
      · have z:m / 2=0:=by omega
        rw [z] at hr' ⊢
        exact ⟨0,by omega,r',s,rfl,rfl,by omega⟩
    refine ⟨by decide,qcv (fun c2=>⟨qgx (BP r (by omega)) (BP s (by omega)),?_⟩) (fun c2=>?_)⟩
    · rw [← Int.pow_add]
      have e1:m % 2=1:=by omega
      rw [e1] at hm2
      exact fin (r+s) (by omega)
    · have e1:m % 2=0:=by omega
      rw [e1] at hm2
      exact fin r (by omega)
  · have z:m=0:=by omega
    subst z
    have e:r=n.toNat:=by omega
    subst e
    exact q
theorem qdH (h:qaO K vs H Q E):qcB K { nx:=fun _ H'=>Q .non H',rt:=Q } (L2.start ["one"] vs) H:=by
  obtain ⟨p,a,b,rfl,hp,k⟩:=h
  exact ⟨_,rfl,_,_,_,_,rfl,rfl,hp,rfl,_,rfl,_,rfl,_,_,_,_,rfl,rfl,hp,rfl,qfc,k⟩
theorem qeW (h:qbe K vs H Q E):qcS K { nx:=fun _ H'=>Q .non H',rt:=Q } (L2.start ["number", "is_first"] vs) H:=by
  obtain ⟨p,f,a,b,rfl,hp,k⟩:=h
  unfold qcS
  rwa [hp]
  unfold jn at k
  by_cases hf:f=true
  · rw [if_pos hf] at k ⊢
    split <;> rename_i c
    · rwa [if_pos c] at k
    · rwa [if_neg c] at k
  · rw [if_neg hf] at k ⊢
    split <;> rename_i c
    · rwa [if_pos c] at k
    · rwa [if_neg c] at k
theorem qcg {i:Int} (h:Bd 64 i):i.natAbs.log2<1920:=by
  by_cases z:i.natAbs=0
  · rw [z];decide
  · exact Nat.lt_of_lt_of_le ((Nat.log2_lt z).mpr h) (by decide)
theorem qbU {i:Int} (h:Bd 64 i):Bd 64 (if i<0 then -i else i):=by
  unfold Bd at h ⊢
  split <;> omega
theorem qgy:(18446744073709551616:Int)<10 ^ Int.toNat 600:=by decide +kernel
theorem qeX {i:Int}:(if i<0 then Str.ofString "-" else Str.ofString "")++sI (if i<0 then -i else i)=sI i:=by
  split <;> rename_i c
  · exact qgu c
  · exact qgt _
theorem qcW {i:Int} (h:Bd 64 i):(sI i).length≤21:=qgv (k:=20) (Nat.lt_of_lt_of_le h (by decide)) (by decide)
theorem qch (h:qay K vs H Q E):qa9 K { nx:=fun _ H'=>Q .non H',rt:=Q } (L2.start ["whole", "scale", "left", "groups"] vs) H:=by
  obtain ⟨i,rfl,hi,k⟩:=h
  unfold qa9
  rwa []
  refine ⟨by decide,4,by unfold Bd;decide,by decide,sz (by decide),fun p hp=>?_⟩
  have hb:=qbU hi
  have hlt:(if i<0 then -i else i)<10 ^ Int.toNat 600:=by
    have q:=qgy
    unfold Bd at hb
    have e:(2:Nat) ^ 64=18446744073709551616:=by decide
    rw [e] at hb
    generalize (10:Int) ^ Int.toNat 600=z at q
    omega
  have tx:=qeX (i:=i)
  generalize (if i<0 then -i else i)=j at hb hlt tx
  generalize (10:Int) ^ Int.toNat 600=w at hlt
  refine ⟨fun _ σ H'=>σ=[some (V.int i),some (V.int w),some (V.int j),some (V.ref p)]∧H'=upd H p (HO.lst []),⟨0,rfl,rfl⟩,?_⟩
  rintro m σ H' ⟨rfl,rfl⟩
  refine ⟨_,rfl,_,rfl,_,_,rfl,rfl,_,rfl,?_⟩
  refine (if_neg (c:=decide (w≤j)=true) (by rw [decide_eq_true_eq];exact Int.not_le.mpr hlt)).mpr ?_
  refine ⟨_,rfl,.inl ⟨rfl,_,SqL.of (qaf ..)⟩,_,rfl,_,rfl,qcg hb,_,_,_,rfl,rfl,qaf ..,sz (by decide),?_⟩
  have z:∀ x:Str,x.length≤1→x++sI j=sI i→(qda K (qac (qah 3) qaw)) [some (V.int i),some (V.int w),some (V.int j),some (V.ref p)] (upd (upd H p (HO.lst [])) p (HO.lst ([]++[V.str (sI j)]))) (fun y H2=>qaV (V.str x) y H2 Q):=by
    intro x hx he
    refine ⟨_,rfl,p,_,rfl,SqL.of (qaf ..),_,_,rfl,rfl,?_,?_⟩
    · have:=qcW hb
      exact sz (by omega)
    · rw [he]
      refine k _ fun b o hb=>?_
      have n:b≠p:=qam hb hp
      rw [qap n,qap n];exact hb
  refine ⟨_,rfl,_,_,rfl,rfl,_,rfl,?_⟩
  refine qcv (fun c=>?_) (fun c=>?_)
  · refine z _ (by decide) ?_
    rwa [if_pos (of_decide_eq_true c)] at tx
  · refine z _ (by decide) ?_
    rwa [if_neg (fun d=>c (decide_eq_true d))] at tx
theorem qbV {a b:Int} (ha:Bd 64 a) (hb:Bd 64 b):(nT a b).length≤50:=by
  have h1:=qcW ha
  have h2:=qcW hb
  unfold nT
  split
  · omega
  · rw [qaJ,qaJ,show (Str.ofString "/").length=1 from rfl];omega
theorem qbX (h:qaj K vs H Q E):qa2 K { nx:=fun _ H'=>Q .non H',rt:=Q } (L2.start ["c", "top"] vs) H:=by
  obtain ⟨p,a,b,rfl,hp,ha,hb,k⟩:=h
  unfold qa2
  rwa [hp]
  refine ⟨ha,fun H1 s1=>⟨_,s1 _ _ hp,_,rfl,rfl,?_⟩⟩
  have h1:=qcW ha
  have h2:=qcW hb
  unfold nT at k
  by_cases c:b=1
  · rw [if_pos (by rw [c])]
    rw [if_pos c] at k
    exact k _ s1
  · rw [if_neg (by intro e;cases e;exact c rfl)]
    rw [if_neg c] at k
    have e1:(Str.ofString "/").length=1:=rfl
    refine ⟨sz (by omega),_,s1 _ _ hp,_,rfl,_,rfl,hb,fun H2 s2=>⟨sz (by rw [qaJ];omega),k _ (s1.trans s2)⟩⟩
theorem qbI (h:qal K vs H Q E):qaS K { nx:=fun _ H'=>Q .non H',rt:=Q } (L2.start ["_law_c"] vs) H:=by
  obtain ⟨p,a,b,rfl,hp,ha,hb,k⟩:=h
  unfold qaS
  rwa [hp]
  have h1:(Str.ofString (toString a)).length≤21:=qcW ha
  have h2:(Str.ofString (toString b)).length≤21:=qcW hb
  unfold nT at k
  have e1:(Str.ofString "/").length=1:=rfl
  refine qcv (fun c=>?_) (fun c=>?_)
  · rw [if_pos c] at k
    exact ⟨qcg ha,k _ (Same.refl H)⟩
  · rw [if_neg c] at k
    exact ⟨qcg ha,sz (by omega),qcg hb,sz (by rw [qaJ];omega),k _ (Same.refl H)⟩
theorem qfd (a:Int) (f:Bool):(jn a f).length≤3:=by
  unfold jn
  split <;> split <;> decide
theorem qfN {t:Str} {r:Int×Int×Str} (h1:Bd 64 r.1) (h2:Bd 64 r.2.1) (h3:r.2.2.length≤100):(st1 t r).length≤t.length+200:=by
  unfold st1
  have q1:=qfd r.1 (decide (t=Str.ofString ""))
  have q2:=qbV (qbU h1) h2
  have q3:(Str.ofString "*log(").length=5:=rfl
  have q4:(Str.ofString ")").length=1:=rfl
  rw [qaJ,qaJ,qaJ,qaJ,qaJ]
  omega
theorem qfe:∀ (L:List (Int×Int×Str)) (t:Str),(∀ r∈L,Bd 64 r.1∧Bd 64 r.2.1∧r.2.2.length≤100)→(lT t L).length≤t.length+200*L.length
  | [],t,_=>Nat.le_add_right _ _
  | r::L,t,h=>by
    have h1:=h r (List.mem_cons_self ..)
    have q1:=qfN (t:=t) h1.1 h1.2.1 h1.2.2
    have q2:=qfe L (st1 t r) fun x hx=>h x (List.mem_cons_of_mem _ hx)
    have e:(lT t (r::L))=lT (st1 t r) L:=rfl
    rw [e,List.length_cons]
    omega
theorem qeu {t:Str} {L:List (Int×Int×Str)} {i:Nat} {r:Int×Int×Str} (h:L[i]?=some r):lT t (L.take (i+1))=st1 (lT t (L.take i)) r:=by
  unfold lT
  rw [List.take_succ,h,List.foldl_append]
  rfl
theorem RwS.ok {H:Hp} {vs:List V} {L:List (Int×Int×Str)} (h:RwS H vs L):∀ r∈L,Bd 64 r.1∧Bd 64 r.2.1∧r.2.2.length≤100:=fun r hr=>by
  obtain ⟨i,hi,e⟩:=List.mem_iff_getElem.mp hr
  obtain ⟨p,c,_,_,_,b1,b2,b3⟩:=h.2 i r (by rw [List.getElem?_eq_getElem hi,e])
  exact ⟨b1,b2,b3⟩
theorem RwS.same {H H':Hp} {vs:List V} {L:List (Int×Int×Str)} (h:RwS H vs L) (s:Same H H'):RwS H' vs L:=⟨h.1,fun i r e=>by
  obtain ⟨p,c,h1,h2,h3,h4⟩:=h.2 i r e
  exact ⟨p,c,h1,s _ _ h2,s _ _ h3,h4⟩⟩
theorem RwS.at {H:Hp} {vs:List V} {L:List (Int×Int×Str)} {i:Nat} {x:V} (h:RwS H vs L) (e:vs[i]?=some x):∃ r p c,L[i]?=some r∧x=.ref p∧H p=some (.tup [.ref c,.str r.2.2])∧Nm H c r.1 r.2.1∧Bd 64 r.1∧Bd 64 r.2.1∧r.2.2.length≤100:=by
  have hi:i<L.length:=by rw [← h.1];exact (List.getElem?_eq_some_iff.mp e).1
  obtain ⟨p,c,h1,h2⟩:=h.2 i _ (List.getElem?_eq_getElem hi)
  rw [e] at h1
  cases h1
  exact ⟨_,p,c,List.getElem?_eq_getElem hi,rfl,h2⟩
theorem qdc {H:Hp} {vs:List V} {L:List (Int×Int×Str)} {t:Str} (h:RwS H vs L) (ht:t.length≤100) (hL:L.length≤30) (i:Nat):(lT t (L.take i)).length≤7000:=by
  have q:=qfe (L.take i) t fun r hr=>h.ok r (List.mem_of_mem_take hr)
  have e:=List.length_take (i:=i) (l:=L)
  omega
theorem qff {f:Bool} {t:Str} {n:Nat} (h:t.length≤100):(hd f t n).length≤100:=by
  unfold hd
  split
  · decide
  · exact h
theorem qg0 {K:W.Frag} {H:Hp} {Q:VK} {l:Addr} {ws:List V} {L:List (Int×Int×Str)} {t x:Str} (hl:H l=some (.lst ws)) (hR:RwS H ws L) (hx:x.length≤100) (hL:L.length≤30)
    (k:∀ H',Same H H'→Q (.str (lT x L)) H'):qa3 K { nx:=fun _ H'=>Q .non H',rt:=Q } [some (.str t),some (.ref l),some (.str x),none,none] H:=by
  refine ⟨_,rfl,_,rfl,⟨_,SqL.of hl⟩,ForL.by (xs:=ws) (fun i σ H'=>∃ c d,σ=[some (.str t),some (.ref l),some (.str (lT x (L.take i))),c,d]∧Same H H') ⟨none,none,rfl,Same.refl H⟩ ?_ ?_ ?_⟩
  · rintro i σ H' hi ⟨c,d,rfl,s⟩
    exact SqL.of (s _ _ hl)
  · rintro i v σ H1 hv ⟨c,d,rfl,s⟩
    obtain ⟨r,p,q,hr,rfl,hp,hq,b1,b2,b3⟩:=(hR.same s).at hv
    have z:=qdc hR hx hL i
    have e:=qeu (t:=x) hr
    have q1:=qfd r.1 (decide (lT x (L.take i)=Str.ofString ""))
    have q2:=qbV (qbU b1) b2
    have q3:(Str.ofString "*log(").length=5:=rfl
    have q4:(Str.ofString ")").length=1:=rfl
    refine ⟨_,_,rfl,hp,rfl,_,_,rfl,_,_,rfl,rfl,_,rfl,?_⟩
    refine qdM (qdM (qdM (qdM (qgw (qa5 rfl (qdM (qa5 rfl (r_c ⟨rfl,_,_,_,_,rfl,hq,?_⟩))))))))
    refine qcR (qcR (qa5 rfl ⟨_,_,_,rfl,hq,fun n hn=>⟨_,_,_,rfl,qaf ..,qbU b1,b2,fun H2 s2=>?_⟩⟩))
    have dd:decide (V.str (lT x (L.take i))=V.str (Str.ofString ""))=decide (lT x (L.take i)=Str.ofString ""):=by simp only [V.str.injEq]
    rw [dd]
    refine ⟨_,_,rfl,rfl,sz (by omega),_,_,rfl,rfl,sz (by rw [qaJ];omega),⟨_,rfl,_,_,rfl,rfl,sz (by rw [qaJ,qaJ];omega),_,_,rfl,rfl,sz (by rw [qaJ,qaJ,qaJ];omega),_,_,rfl,rfl,sz (by rw [qaJ,qaJ,qaJ,qaJ];omega),?_⟩⟩
    exact ⟨some (V.ref q),some (V.str r.2.2),by rw [e];rfl,s.trans (qak hn _ |>.trans s2)⟩
  · rintro σ H1 ⟨c,d,rfl,s⟩
    refine ⟨_,rfl,?_⟩
    rw [hR.1,List.take_length]
    exact k _ s
theorem qcC (h:qaI K vs H Q E):qbj K { nx:=fun _ H'=>Q .non H',rt:=Q } (L2.start ["first", "rows", "text", "c", "inner"] vs) H:=by
  obtain ⟨t,l,ws,L,rfl,hl,hR,ht,hL,k⟩:=h
  have go:=fun (x:Str) (e:hd (decide (t=Str.ofString "0")) t L.length=x)=>qg0 (K:=K) (t:=t) (x:=x) (Q:=Q) hl hR (by rw [← e];exact qff ht) hL (by rw [← e];exact k)
  have z:∀ c:Bool,c=(decide (t=Str.ofString "0") && !ws.isEmpty)→(if c=true then tC (V.str (Str.ofString "")) else qah 0) [some (.str t),some (.ref l),none,none,none] H fun x H1=>qa3 K { nx:=fun _ H'=>Q .non H',rt:=Q } [some (.str t),some (.ref l),some x,none,none] H1:=by
    intro c hc
    have el:ws.length=L.length:=hR.1
    cases c with
    | true=>
      refine go _ ?_
      have hc':=hc.symm
      rw [Bool.and_eq_true] at hc'
      unfold hd
      have lp:0<L.length:=by
        have:=hc'.2
        cases ws with
        | nil=>cases this
        | cons _ _=>rw [← el];exact Nat.succ_pos _
      rw [if_pos ⟨hc'.1,lp⟩]
    | false=>
      refine ⟨_,rfl,go _ ?_⟩
      unfold hd
      rw [if_neg]
      rintro ⟨h1,h2⟩
      rw [h1] at hc
      cases ws with
      | nil=>rw [← el] at h2;cases h2
      | cons _ _=>cases hc
  unfold qbj
  have dd:decide (V.str t=V.str (Str.ofString "0"))=decide (t=Str.ofString "0"):=by simp only [V.str.injEq]
  refine ⟨_,rfl,rfl,_,rfl,?_⟩
  rw [dd]
  cases hb:decide (t=Str.ofString "0") with
  | true=>
    refine ⟨_,rfl,_,_,rfl,hl,?_⟩
    have:=z (!ws.isEmpty) (by rw [hb];rfl)
    cases hw:(!ws.isEmpty) with
    | true=>rw [hw] at this;exact this
    | false=>rw [hw] at this;exact this
  | false=>
    exact z false (by rw [hb];rfl)
theorem qfO {t:Str} {r:Int×Int×Str} (h:t=Str.ofString ""):(if r.1<0 then Str.ofString "-" else Str.ofString "")++(nT (if r.1<0 then -r.1 else r.1) r.2.1++Str.ofString "*log(" ++ r.2.2++Str.ofString ")")=st1 t r:=by
  unfold st1 jn
  rw [if_pos (decide_eq_true h),h,qgt]
  simp only [qer]
theorem qeY {t:Str} {r:Int×Int×Str} (h:t≠Str.ofString ""):t++(if r.1<0 then Str.ofString " - " else Str.ofString " + ")++(nT (if r.1<0 then -r.1 else r.1) r.2.1++Str.ofString "*log(" ++ r.2.2++Str.ofString ")")=st1 t r:=by
  unfold st1 jn
  rw [if_neg (c:=decide (t=Str.ofString "")=true) (by rw [decide_eq_true_eq];exact h)]
  simp only [qer]
theorem qg1 {K:W.Frag} {H:Hp} {Q:VK} {l:Addr} {ws:List V} {L:List (Int×Int×Str)} {t x:Str} {f:Bool} (hl:H l=some (.lst ws)) (hR:RwS H ws L) (hx:x.length≤100) (hL:L.length≤30)
    (k:∀ H',Same H H'→Q (.str (lT x L)) H'):qba K { nx:=fun _ H'=>Q .non H',rt:=Q } [some (.str t),some (.bl f),some (.ref l),some (.str x),none,none,none] H:=by
  refine ⟨_,rfl,_,rfl,⟨_,SqL.of hl⟩,ForL.by (xs:=ws) (fun i σ H'=>∃ c d e,σ=[some (.str t),some (.bl f),some (.ref l),some (.str (lT x (L.take i))),c,d,e]∧Same H H') ⟨none,none,none,rfl,Same.refl H⟩ ?_ ?_ ?_⟩
  · rintro i σ H' hi ⟨c,d,e,rfl,s⟩
    exact SqL.of (s _ _ hl)
  · rintro i v σ H1 hv ⟨c,d,e,rfl,s⟩
    obtain ⟨r,p,q,hr,rfl,hp,hq,b1,b2,b3⟩:=(hR.same s).at hv
    have z:=qdc hR hx hL i
    have e:=qeu (t:=x) hr
    have q2:=qbV (qbU b1) b2
    have q3:(Str.ofString "*log(").length=5:=rfl
    have q4:(Str.ofString ")").length=1:=rfl
    refine ⟨_,_,rfl,hp,rfl,_,_,rfl,_,_,rfl,rfl,?_⟩
    refine qgX (qdM (qdM (qdM (qcR (qdb ⟨_,rfl,_,_,_,_,rfl,rfl,hq,rfl,_,rfl,_,rfl,_,_,_,_,rfl,rfl,hq,rfl,qfc,fun n hn=>⟨_,_,_,rfl,qaf ..,qbU b1,b2,fun H2 s2=>?_⟩⟩)))))
    have hs:Same H1 H2:=(qak hn _).trans s2
    refine ⟨_,_,rfl,rfl,sz (by omega),⟨_,rfl,_,_,rfl,rfl,sz (by rw [qaJ];omega),_,_,rfl,rfl,sz (by rw [qaJ,qaJ];omega),?_⟩⟩
    have pl:(nT (if r.1<0 then -r.1 else r.1) r.2.1++Str.ofString "*log(" ++ r.2.2++Str.ofString ")").length≤200:=by rw [qaJ,qaJ,qaJ];omega
    have dd:decide (V.str (lT x (L.take i))=V.str (Str.ofString ""))=decide (lT x (L.take i)=Str.ofString ""):=by simp only [V.str.injEq]
    refine ⟨_,rfl,rfl,_,rfl,?_⟩
    rw [dd]
    refine qcv (fun hc=>?_) (fun hc=>?_)
    · have hc':=of_decide_eq_true hc
      refine ⟨_,rfl,_,_,_,_,rfl,rfl,hs _ _ hq,rfl,_,_,rfl,rfl,_,rfl,_,_,rfl,rfl,?_,_,rfl,_,_,rfl,rfl,?_,?_⟩
      · split
        · exact .inr rfl
        · exact .inl rfl
      · have g:(if (if decide (r.1<0)=true then (1:Int) else 0)=1 then Str.ofString "-" else Str.ofString "").length≤1:=by split <;> decide
        exact sz (by omega)
      · have e1:(if (if decide (r.1<0)=true then (1:Int) else 0)=1 then Str.ofString "-" else Str.ofString "")=if r.1<0 then Str.ofString "-" else Str.ofString "" := by
          by_cases c:r.1<0 <;> simp [c]
        rw [e1,qfO hc']
        exact ⟨some (V.ref q),some (V.str r.2.2),some _,by rw [e];rfl,s.trans hs⟩
    · have hc':lT x (L.take i)≠Str.ofString "" := fun d=>hc (decide_eq_true d)
      refine ⟨_,rfl,qfc,fun w hw=>?_⟩
      have hq3:upd H2 w (HO.lst [V.str (Str.ofString " + "),V.str (Str.ofString " - ")]) q=some (.tup [.int r.1,.int r.2.1]):=(qap (qam (hs _ _ hq) hw)).trans (hs _ _ hq)
      refine ⟨_,rfl,_,_,_,_,rfl,rfl,hq3,rfl,_,_,rfl,rfl,_,rfl,_,_,_,(if r.1<0 then V.str (Str.ofString " - ") else V.str (Str.ofString " + ")),rfl,rfl,qaf ..,?_,?_⟩
      · by_cases c:r.1<0
        · have e0:(if decide (r.1<0)=true then (1:Int) else 0)=1:=by simp [c]
          rw [if_pos c,e0];rfl
        · have e0:(if decide (r.1<0)=true then (1:Int) else 0)=0:=by simp [c]
          rw [if_neg c,e0];rfl
      · have e1:(if r.1<0 then V.str (Str.ofString " - ") else V.str (Str.ofString " + "))=V.str (if r.1<0 then Str.ofString " - " else Str.ofString " + "):=by split <;> rfl
        have g:(if r.1<0 then Str.ofString " - " else Str.ofString " + ").length≤3:=by split <;> decide
        rw [e1]
        refine ⟨_,_,rfl,rfl,sz (by omega),_,rfl,_,_,rfl,rfl,sz (by rw [qaJ];omega),?_⟩
        rw [qeY hc']
        exact ⟨some (V.ref q),some (V.str r.2.2),some _,by rw [e];rfl,s.trans (hs.trans (qak hw _))⟩
  · rintro σ H1 ⟨c,d,e,rfl,s⟩
    refine ⟨_,rfl,?_⟩
    rw [hR.1,List.take_length]
    exact k _ s
theorem qbY (h:qaz K vs H Q E):qbs K { nx:=fun _ H'=>Q .non H',rt:=Q } (L2.start ["_law_first", "_law_nought", "_law_logs", "_law_text", "_law_c", "_law_inner", "_law_piece"] vs) H:=by
  obtain ⟨t,f,l,ws,L,rfl,hl,hR,ht,hL,k⟩:=h
  have go:=fun (x:Str) (e:hd f t L.length=x)=>qg1 (K:=K) (t:=t) (f:=f) (x:=x) (Q:=Q) hl hR (by rw [← e];exact qff ht) hL (by rw [← e];exact k)
  refine ⟨_,rfl,?_⟩
  refine ⟨_,rfl,f,rfl,?_⟩
  cases f with
  | false=>exact go _ (by unfold hd;rw [if_neg (fun h=>nomatch h.1)])
  | true=>
    refine ⟨_,rfl,_,_,rfl,hl,_,_,rfl,rfl,_,rfl,qcv (fun c=>?_) (fun c=>?_)⟩
    · refine go _ ?_
      have c':=of_decide_eq_true c
      rw [hR.1] at c'
      unfold hd
      rw [if_pos ⟨rfl,by omega⟩]
    · refine go _ ?_
      have c':¬ ((ws.length:Int) > 0):=fun d=>c (decide_eq_true d)
      rw [hR.1] at c'
      unfold hd
      rw [if_neg (fun h=>c' (by omega))]
theorem qfP {K:W.Frag} {tl:TE} {capt:List (Option Nat)} {g:TG} {te:TE} {σ:L2.St} {H:Hp} {Q:VK} (h:tl σ H (fun x H1=>∃ a,x=.ref a∧(∃ xs,SqT K H1 a xs)∧CompJ (Itt K a) capt g te σ Q H1)):qcy (qgd K tl) capt g te σ H Q:=h
theorem qfQ {K:W.Frag} {tl:TE} {capt:List (Option Nat)} {g:TG} {te:TE} {σ:L2.St} {H:Hp} {Q:VK} (h:tl σ H (fun x H1=>∃ a,x=.ref a∧(∃ xs,SqL K H1 a xs)∧CompJ (Itl K a) capt g te σ Q H1)):qcy (qcI K tl) capt g te σ H Q:=h
theorem RwS.snoc {H:Hp} {vs:List V} {L:List (Int×Int×Str)} {p c:Addr} {r:Int×Int×Str} (h:RwS H vs L) (hp:H p=some (.tup [.ref c,.str r.2.2])) (hc:Nm H c r.1 r.2.1) (b1:Bd 64 r.1) (b2:Bd 64 r.2.1) (b3:r.2.2.length≤100):RwS H (vs++[.ref p]) (L++[r]):=by
  refine ⟨by rw [List.length_append,List.length_append,h.1];rfl,fun i x e=>?_⟩
  by_cases lt:i<L.length
  · rw [List.getElem?_append_left lt] at e
    obtain ⟨p',c',h1,h2⟩:=h.2 i x e
    exact ⟨p',c',by rw [List.getElem?_append_left (by rw [h.1];exact lt)];exact h1,h2⟩
  · rw [List.getElem?_append_right (by omega)] at e
    have z:i - L.length=0:=by
      cases hz:i - L.length with
      | zero=>rfl
      | succ n=>rw [hz] at e;simp at e
    rw [z] at e
    cases e
    exact ⟨p,c,by rw [List.getElem?_append_right (by rw [h.1];omega),h.1,z];rfl,hp,hc,b1,b2,b3⟩
theorem RwN.same {H H':Hp} {vs:List V} {L:List (Int×Int×Int×Int)} (h:RwN H vs L) (s:Same H H'):RwN H' vs L:=⟨h.1,fun i r e=>by
  obtain ⟨p,c,d,h1,h2,h3,h4,h5⟩:=h.2 i r e
  exact ⟨p,c,d,h1,s _ _ h2,s _ _ h3,s _ _ h4,h5⟩⟩
theorem RwN.at {H:Hp} {vs:List V} {L:List (Int×Int×Int×Int)} {i:Nat} {x:V} (h:RwN H vs L) (e:vs[i]?=some x):∃ r p c d,L[i]?=some r∧x=.ref p∧H p=some (.tup [.ref c,.ref d])∧Nm H c r.1 r.2.1∧Nm H d r.2.2.1 r.2.2.2∧Bd 64 r.1∧Bd 64 r.2.1∧Bd 64 r.2.2.1∧Bd 64 r.2.2.2:=by
  have hi:i<L.length:=by rw [← h.1];exact (List.getElem?_eq_some_iff.mp e).1
  obtain ⟨p,c,d,h1,h2⟩:=h.2 i _ (List.getElem?_eq_getElem hi)
  rw [e] at h1
  cases h1
  exact ⟨_,p,c,d,List.getElem?_eq_getElem hi,rfl,h2⟩
theorem RwN.nil (H:Hp):RwN H [] []:=⟨rfl,fun i r e=>by simp at e⟩
theorem RwS.nil (H:Hp):RwS H [] []:=⟨rfl,fun i r e=>by simp at e⟩
theorem qdd {L:List (Int×Int×Int×Int)} {i:Nat} {r:Int×Int×Int×Int} (h:L[i]?=some r):(L.take (i+1)).map txt=(L.take i).map txt++[txt r]:=by
  rw [List.take_succ,h,List.map_append];rfl
theorem qbt (h:qan K vs H Q E):qaX K { nx:=fun _ H'=>Q .non H',rt:=Q } (L2.start ["n"] vs) H:=by
  obtain ⟨n,q,l,a,b,ws,L,rfl,hn,hq,ba,bb,hl,hR,hL,k⟩:=h
  refine qgY (qgw (qcR (qdM (qa5 rfl (r_c (qgZ hn rfl ⟨_,_,_,rfl,hq,ba,bb,fun H1 s1=>?_⟩))))))
  refine qfP (qdM (qa5 rfl (r_c (qgZ (s1 _ _ hn) rfl ⟨_,rfl,⟨_,SqT.of (s1 _ _ hl)⟩,CompJ.tup (xs:=ws) (fun j ys H'=>j≤ws.length∧Same H1 H'∧RwS H' ys ((L.take j).map txt)) ⟨Nat.zero_le _,Same.refl H1,RwS.nil H1⟩ ?_ ?_ ?_⟩))))
  · rintro i ys H2 ⟨hi,s2,h2⟩
    have e:=h2.1
    rw [List.length_map,List.length_take] at e
    exact ⟨hi,sz (by omega),s2 _ _ (s1 _ _ hl)⟩
  · rintro i x ys H2 hx ⟨hi,s2,h2⟩
    obtain ⟨r,p,c,d,hr,rfl,hp,hc,hd,b1,b2,b3,b4⟩:=(hR.same (s1.trans s2)).at hx
    refine ⟨_,_,rfl,hp,rfl,_,_,rfl,_,_,rfl,rfl,?_⟩
    refine qdb (qa5 rfl (qcR (qa5 rfl ⟨_,_,_,rfl,hd,b3,b4,fun H3 s3=>⟨qfc,fun w hw=>?_⟩⟩)))
    have lt:i<ws.length:=(List.getElem?_eq_some_iff.mp hx).1
    refine ⟨lt,s2.trans (s3.trans (qak hw _)),?_⟩
    rw [qdd hr]
    exact ((h2.same s3).same (qak hw _)).snoc (r:=txt r) (qaf ..) (qak hw _ _ _ (s3 _ _ hc)) b1 b2 (Nat.le_trans (qbV b3 b4) (by decide))
  · rintro ys H2 ⟨hi,s2,h2⟩ w hw
    have el:ws.length=L.length:=hR.1
    rw [el,List.take_length] at h2
    refine ⟨_,_,_,_,rfl,qaf ..,h2.same (qak hw _),Nat.le_trans (qbV ba bb) (by decide),by rw [List.length_map];exact hL,fun H3 s3=>?_⟩
    rw [List.length_map]
    exact k _ (s1.trans (s2.trans ((qak hw _).trans s3)))
theorem RwN.kp {H H':Hp} {p:Addr} {xs vs:List V} {L:List (Int×Int×Int×Int)} (h:RwN H vs L) (hp:H p=some (.lst xs)) (k:Kp p H H'):RwN H' vs L:=⟨h.1,fun i r e=>by
  obtain ⟨u,c,d,h1,h2,h3,h4,h5⟩:=h.2 i r e
  exact ⟨u,c,d,h1,k _ _ (qdN h2 hp (by intro z;cases z)) h2,k _ _ (qdN h3 hp (by intro z;cases z)) h3,k _ _ (qdN h4 hp (by intro z;cases z)) h4,h5⟩⟩
theorem RwN.snoc {H:Hp} {vs:List V} {L:List (Int×Int×Int×Int)} {p c d:Addr} {r:Int×Int×Int×Int} (h:RwN H vs L) (hp:H p=some (.tup [.ref c,.ref d])) (hc:Nm H c r.1 r.2.1) (hd:Nm H d r.2.2.1 r.2.2.2) (b:Bd 64 r.1∧Bd 64 r.2.1∧Bd 64 r.2.2.1∧Bd 64 r.2.2.2):RwN H (vs++[.ref p]) (L++[r]):=by
  refine ⟨by rw [List.length_append,List.length_append,h.1];rfl,fun i x e=>?_⟩
  by_cases lt:i<L.length
  · rw [List.getElem?_append_left lt] at e
    obtain ⟨p',c',d',h1,h2⟩:=h.2 i x e
    exact ⟨p',c',d',by rw [List.getElem?_append_left (by rw [h.1];exact lt)];exact h1,h2⟩
  · rw [List.getElem?_append_right (by omega)] at e
    have z:i - L.length=0:=by
      cases hz:i - L.length with
      | zero=>rfl
      | succ n=>rw [hz] at e;simp at e
    rw [z] at e
    cases e
    exact ⟨p,c,d,by rw [List.getElem?_append_right (by rw [h.1];omega),h.1,z];rfl,hp,hc,hd,b⟩
theorem qfR {t d:Int} (h:Low t d):decide (nT t d=Str.ofString "0")=decide (V.int t=V.int 0):=by
  have e:(nT t d=Str.ofString "0")↔(V.int t=V.int 0):=by
    rw [V.int.injEq]
    unfold nT
    by_cases c:d=1
    · rw [if_pos c];exact qfH
    · rw [if_neg c]
      constructor
      · intro q
        have q':=congrArg Str.length q
        rw [qaJ,qaJ,show (Str.ofString "/").length=1 from rfl,show (Str.ofString "0").length=1 from rfl] at q'
        have h1:=qfb t
        have h2:=qfb d
        omega
      · intro q
        subst q
        have q1:=h.one
        rw [Int.gcd_zero_left] at q1
        have q2:=h.pos
        exact absurd (by omega) c
  by_cases c:V.int t=V.int 0
  · rw [decide_eq_true c,decide_eq_true (e.mpr c)]
  · rw [decide_eq_false c,decide_eq_false (fun d=>c (e.mp d))]
theorem qgz (h:qcA K vs H Q E):qfL K { nx:=fun _ H'=>Q .non H',rt:=Q } (L2.start ["_law_script", "_law_k", "_law_box_here", "_law_q", "_law_logs", "_law_j", "_law_c", "_law_r", "_law_due", "_law_found"] vs) H:=by
  obtain ⟨a,ns,rfl,hS,h63,k⟩:=h
  unfold qfL
  rwa []
  refine ⟨_,hS,?_⟩
  rw [List.length_map]
  have hL:∀ L:Int,L=(if (if (30:Int)<(ns.length:Int) then (30:Int) else (ns.length:Int)) > 1 then (if (30:Int)<(ns.length:Int) then (30:Int) else (ns.length:Int)) else 1)→1≤L∧L≤30:=fun L e=>by
    rw [e];split <;> split <;> omega
  generalize hLe:(if (if (30:Int)<(ns.length:Int) then (30:Int) else (ns.length:Int)) > 1 then (if (30:Int)<(ns.length:Int) then (30:Int) else (ns.length:Int)) else 1)=L
  obtain ⟨hL1,hL2⟩:=hL L hLe.symm
  refine ⟨by omega,by omega,?_⟩
  refine ForR.by (fun i σ H'=>∃ x1 x2 x3 x4 x5 x6 x7 x8 x9:Option V,σ=[some (.ref a),x1,x2,x3,x4,x5,x6,x7,x8,x9]∧Same H H') ⟨none,none,none,none,none,none,none,none,none,rfl,Same.refl H⟩ ?_ ?_
  · rintro i σ H1 hi ⟨x1,x2,x3,x4,x5,x6,x7,x8,x9,rfl,s1⟩
    have ki:(0:Int)+(i:Int)≤62∧0≤(0:Int)+(i:Int):=by omega
    generalize (0:Int)+(i:Int)=kk at ki ⊢
    obtain ⟨k1,k0⟩:=ki
    refine qfI (qa5 rfl (qa5 rfl ⟨_,ns,_,rfl,s1.seq hS,k0,by omega,fun p H2 p0 kp2 B2=>?_⟩))
    have s12:Same H1 H2:=kp2.new p0
    refine qcb (qa5 rfl ⟨_,_,rfl,B2,by decide,fun q t d H3 hq lq bt bd B3 kp3=>?_⟩)
    have s13:Same H1 H3:=Kp.over s12 kp3 p0
    refine ⟨sz (by decide),fun l hl=>?_⟩
    have lp:p≠l:=B3.ne_none hl
    have s14:Same H1 (upd H3 l (.lst [])):=s13.trans (qak hl _)
    have l0:H1 l=none:=s13.free hl
    refine ⟨_,rfl,?_⟩
    refine ⟨_,_,_,rfl,B3.same (qak hl _),by decide,by decide,by decide,fun n H4 n0 n1 B4 kp4=>?_⟩
    have s15:Same H1 H4:=Kp.over s14 kp4 p0
    have hl4:H4 l=some (.lst []):=kp4 _ _ (Ne.symm lp) (qaf ..)
    have hq4:Nm H4 q t d:=kp4 _ _ (Nm.ne hq B3) ((qap (qam hq hl)).trans hq)
    refine ⟨_,rfl,by omega,by omega,?_⟩
    refine ForR.by (fun j σ H'=>∃ x5 x6 x7 x8 x9:Option V,σ=[some (.ref a),some (.int kk),some (.ref p),some (.ref q),some (.ref l),x5,x6,x7,x8,x9]∧Same H1 H'∧Box H' p (7004+6*j)∧Nm H' q t d∧∃ ws L,H' l=some (.lst ws)∧RwN H' ws L∧L.length≤j) ⟨_,_,_,_,_,rfl,s15,B4.mono (by omega),hq4,[],[],hl4,RwN.nil H4,Nat.le_refl _⟩ ?_ ?_
    · rintro j σ H5 hj ⟨y5,y6,y7,y8,y9,rfl,s5,B5,hq5,ws,M,hl5,hM,hMl⟩
      have jb:(j:Int)≤5:=by omega
      obtain ⟨bx5,hb5⟩:=B5.at
      refine qcb (qa5 rfl ⟨_,_,rfl,B5,by omega,fun c ct cd H6 hc lc bct bcd B6 kp6=>?_⟩)
      obtain ⟨bx6,hb6⟩:=B6.at
      have hl6:H6 l=some (.lst ws):=kp6 _ _ (Ne.symm lp) hl5
      have hM6:=hM.kp hb5 kp6
      refine qcb (qa5 rfl ⟨_,_,rfl,B6,by omega,fun r rt rd H7 hr lr brt brd B7 kp7=>?_⟩)
      have hl7:H7 l=some (.lst ws):=kp7 _ _ (Ne.symm lp) hl6
      have hM7:=hM6.kp hb6 kp7
      have hc7:Nm H7 c ct cd:=kp7 _ _ (Nm.ne hc B6) hc
      have hq7:Nm H7 q t d:=kp7 _ _ (Nm.ne (kp6 _ _ (Nm.ne hq5 B5) hq5) B6) (kp6 _ _ (Nm.ne hq5 B5) hq5)
      have s7:Same H1 H7:=Kp.over (Kp.over s5 kp6 p0) kp7 p0
      have B7':Box H7 p (7004+6*((j+1:Nat):Int)):=B7.mono (by omega)
      have skip:∃ x5 x6 x7 x8 x9:Option V,[some (.ref a),some (.int kk),some (.ref p),some (.ref q),some (.ref l),some (.int ((0:Int)+(j:Int))),some (.ref c),some (.ref r),y8,y9]=[some (.ref a),some (.int kk),some (.ref p),some (.ref q),some (.ref l),x5,x6,x7,x8,x9]∧Same H1 H7∧Box H7 p (7004+6*((j+1:Nat):Int))∧Nm H7 q t d∧∃ ws L,H7 l=some (.lst ws)∧RwN H7 ws L∧L.length≤j+1:=
        ⟨_,_,_,_,_,rfl,s7,B7',hq7,ws,M,hl7,hM7,Nat.le_succ_of_le hMl⟩
      refine ⟨_,rfl,_,_,_,_,rfl,rfl,hc7,rfl,rfl,_,rfl,qcv (fun c1=>?_) (fun c1=>skip)⟩
      refine ⟨_,rfl,_,_,_,_,rfl,rfl,hr,rfl,rfl,_,rfl,qcv (fun c2=>?_) (fun c2=>skip)⟩
      refine ⟨_,rfl,.inl ⟨rfl,_,SqL.of hl7⟩,_,rfl,_,rfl,_,_,_,_,rfl,rfl,hr,rfl,_,rfl,_,rfl,_,_,_,_,rfl,rfl,hr,rfl,qfc,fun w1 hw1=>⟨qfc,fun w2 hw2=>?_⟩⟩
      have sw:Same H7 (upd (upd H7 w1 (HO.tup [.int (if rt<0 then -rt else rt),.int rd])) w2 (HO.tup [.ref c,.ref w1])):=(qak hw1 _).trans (qak hw2 _)
      have nw:w1≠w2:=qam (qaf ..) hw2
      have hR:=(hM7.same sw).snoc (p:=w2) (c:=c) (d:=w1) (r:=(ct,cd,(if rt<0 then -rt else rt),rd)) (qaf ..) (sw _ _ hc7) ((qap nw).trans (qaf ..)) ⟨bct,bcd,qbU brt,brd⟩
      refine ⟨_,_,_,rfl,rfl,sw _ _ hl7,?_,?_⟩
      · have:=hM.1
        exact Nat.lt_of_lt_of_le (by omega:ws.length<1000000) (sz (Nat.le_refl _))
      · refine ⟨_,_,_,_,_,rfl,fun b o hb=>?_,?_,?_,_,_,qaf ..,hR.kp (sw _ _ hl7) Kp.upd,?_⟩
        · exact (qap (qam hb l0)).trans (sw _ _ (s7 b o hb))
        · exact (B7'.same sw).kp Kp.upd lp
        · exact (qap (qdN hq7 hl7 (by intro z;cases z))).trans (sw _ _ hq7)
        · rw [List.length_append];exact Nat.succ_le_succ hMl
    · rintro σ H5 ⟨y5,y6,y7,y8,y9,rfl,s5,B5,hq5,ws,M,hl5,hM,hMl⟩
      have ml:M.length≤30:=by omega
      refine qfJ (qcR (qa5 rfl ⟨_,_,_,rfl,hq5,bt,bd,fun H6 s6=>?_⟩))
      refine qdM (qdM (qa5 rfl (r_c (qgZ (s6 _ _ hq5) rfl (r_c ⟨rfl,?_⟩)))))
      refine qfQ (qa5 rfl ⟨_,rfl,⟨_,SqL.of (s6 _ _ hl5)⟩,CompJ.lst (xs:=ws) (fun j ys H'=>j≤ws.length∧Same H6 H'∧RwS H' ys ((M.take j).map txt)) ⟨Nat.zero_le _,Same.refl H6,RwS.nil H6⟩ ?_ ?_ ?_⟩)
      · rintro j ys H7 ⟨hj,s7,h7⟩
        have e:=h7.1
        rw [List.length_map,List.length_take] at e
        exact ⟨hj,sz (by omega),SqL.of (s7 _ _ (s6 _ _ hl5))⟩
      · rintro j x ys H7 hx ⟨hj,s7,h7⟩
        obtain ⟨r,u,c,e,hr,rfl,hu,hc,he,b1,b2,b3,b4⟩:=(hM.same (s6.trans s7)).at hx
        refine ⟨_,_,rfl,hu,rfl,_,_,rfl,_,_,rfl,rfl,?_⟩
        refine qdb (qa5 rfl (qcR (qa5 rfl ⟨_,_,_,rfl,he,b3,b4,fun H8 s8=>⟨qfc,fun w hw=>?_⟩⟩)))
        have lt:j<ws.length:=(List.getElem?_eq_some_iff.mp hx).1
        refine ⟨lt,s7.trans (s8.trans (qak hw _)),?_⟩
        rw [qdd hr]
        exact ((h7.same s8).same (qak hw _)).snoc (r:=txt r) (qaf ..) (qak hw _ _ _ (s8 _ _ hc)) b1 b2 (Nat.le_trans (qbV b3 b4) (by decide))
      · rintro ys H7 ⟨hj,s7,h7⟩ w hw
        have el:ws.length=M.length:=hM.1
        rw [el,List.take_length] at h7
        refine ⟨_,_,_,_,_,rfl,qaf ..,h7.same (qak hw _),Nat.le_trans (qbV bt bd) (by decide),by rw [List.length_map];exact ml,fun H8 s8=>?_⟩
        have s58:Same H5 H8:=s6.trans (s7.trans ((qak hw _).trans s8))
        rw [List.length_map]
        refine qcb (qdb (qa5 rfl ⟨_,rfl,_,_,rfl,s58 _ _ hl5,fun w2 hw2=>⟨qfc,fun w3 hw3=>?_⟩⟩))
        have s9:Same H8 (upd (upd H8 w2 (.tup ws)) w3 (.tup [.ref q,.ref w2])):=(qak hw2 _).trans (qak hw3 _)
        have nw:w2≠w3:=qam (qaf ..) hw3
        refine ⟨_,_,_,_,_,_,_,rfl,qaf ..,s9 _ _ (s58 _ _ hq5),bt,bd,(qap nw).trans (qaf ..),(hM.same s58).same s9,ml,fun H10 s10=>?_⟩
        rw [qfR lq]
        refine ⟨_,rfl,_,rfl,_,rfl,?_⟩
        refine ⟨_,rfl,_,rfl,rfl,_,rfl,?_⟩
        rw [decide_eq_true rfl]
        exact ⟨_,_,_,_,_,_,_,_,_,rfl,s1.trans (s5.trans (s58.trans (s9.trans s10)))⟩
  · rintro σ H1 ⟨x1,x2,x3,x4,x5,x6,x7,x8,x9,rfl,s1⟩
    exact k _
end Bs
namespace Bs
open PySem PySem.Spec PyProof.Rows L2
set_option maxHeartbeats 4000000
open Hd
structure Bl (K:W.Frag) (mg:Str→Option Value):Prop where
  abs:mg "abs" = none
  FIGURES_AT_ONCE:mg "FIGURES_AT_ONCE" = some (.int 600 210)
  str:mg "str" = none
  reversed:mg "reversed" = none
  len:mg "len" = none
  int:mg "int" = none
  min:mg "min" = none
  max:mg "max" = none
  range:mg "range" = none
  tuple:mg "tuple" = none
  isinstance:mg "isinstance" = none
section
variable {P:Program} {w:World} {K:W.Frag} {mg:Str→Option Value} {base:Heap} {f:Addr} {fd:FuncData}
theorem sc_raised:FnScope ["whole", "n", "result", "square"] ["whole", "n"] (qai qb6):=⟨rfl,rfl,rfl,by decide +kernel,rfl,by decide +kernel,by decide +kernel⟩
theorem qev (F:Fun K "raised" "raised" qb6 f fd) (B:Bl K mg)  : FnOk P w K mg base CX0 1 f fd ["whole", "n"] (qaW K):=by
  refine F.ok sc_raised (fun vs H Q E h=>?_) (fun cdv A outer s H vs Q E hr h=>?_)
  · obtain ⟨_,_,_,rfl,_⟩:=h
    rfl
  have nd:=sc_raised.nd
  have hu:=hr.units0
  have hu64:=hr.units
  exact ⟨qcc K,(qad (qav (i:=2) nd rfl (Or.inl rfl) qab)
    (qad (qav (i:=3) nd rfl (Or.inl rfl) (pv 0))
    (qad (qb4 PassesOwn.never (qau qdi (pv 1) qab (nomark _)) (qad (qbx (qau qbL (qao qbn (pv 1) qab) qab (nomark _)) (qag (qc1 (i:=2) nd rfl (Or.inl rfl) (pv 3) qc9)) qaM)
    (qad (qc1 (i:=1) nd rfl (Or.inl rfl) qab qeo)
    (qag (qbx (qau qdi (pv 1) qab (nomark _)) (qag (qc1 (i:=3) nd rfl (Or.inl rfl) (pv 3) qc9)) qaM)))))
    (qag (qaE (pv 2)))))),qet h⟩
theorem sc_size_of:FnScope ["one"] ["one"] (qai qbN):=⟨rfl,rfl,rfl,by decide +kernel,rfl,by decide +kernel,by decide +kernel⟩
theorem qdI (F:Fun K "size_of" "size_of" qbN f fd) (B:Bl K mg)  : FnOk P w K mg base CX0 1 f fd ["one"] (qaO K):=by
  refine F.ok sc_size_of (fun vs H Q E h=>?_) (fun cdv A outer s H vs Q E hr h=>?_)
  · obtain ⟨_,_,_,rfl,_⟩:=h
    rfl
  have nd:=sc_size_of.nd
  have hu:=hr.units0
  have hu64:=hr.units
  exact ⟨qcB K,(qag (qaE (qbf (qaa (qaA qaR rfl B.abs qbP (qaa (qaD qar (pv 0) qab (fun _ _=>rfl)) qae)) (qaa (qaD qar (pv 0) qab (fun _ _=>rfl)) qae))))),qdH h⟩
theorem sc_show_number:FnScope ["c", "top"] ["c"] (qai qaZ):=⟨rfl,rfl,rfl,by decide +kernel,rfl,by decide +kernel,by decide +kernel⟩
theorem qbZ (F:Fun K "show_number" "show_number" qaZ f fd) (B:Bl K mg) (c_show_whole:Cal P w K mg base 2 "show_whole" ["whole"] (qay K)):FnOk P w K mg base CX0 3 f fd ["c"] (qaj K):=by
  refine F.ok sc_show_number (fun vs H Q E h=>?_) (fun cdv A outer s H vs Q E hr h=>?_)
  · obtain ⟨_,_,_,rfl,_⟩:=h
    rfl
  have nd:=sc_show_number.nd
  have hu:=hr.units0
  have hu64:=hr.units
  exact ⟨qa2 K,(qad (qav (i:=1) nd rfl (Or.inl rfl) (c_show_whole.pe hr (by decide) rfl (qaa (qaD qar (pv 0) qab (fun _ _=>rfl)) qae)))
    (qag (qaE (qbl (qau qbL (qaD qar (pv 0) qab (fun _ _=>rfl)) qab (nomark _)) (pv 1) (qao qaF (qao qaF (pv 1) qaH) (c_show_whole.pe hr (by decide) rfl (qaa (qaD qar (pv 0) qab (fun _ _=>rfl)) qae))))))),qbX h⟩
theorem sc_show_whole:FnScope ["whole", "scale", "left", "groups"] ["whole"] (qai qa8):=⟨rfl,rfl,rfl,by decide +kernel,rfl,by decide +kernel,by decide +kernel⟩
theorem qci (F:Fun K "show_whole" "show_whole" qa8 f fd) (B:Bl K mg) (c_raised:Cal P w K mg base 1 "raised" ["whole", "n"] (qaW K)):FnOk P w K mg base CX0 2 f fd ["whole"] (qay K):=by
  refine F.ok sc_show_whole (fun vs H Q E h=>?_) (fun cdv A outer s H vs Q E hr h=>?_)
  · obtain ⟨_,rfl,_⟩:=h
    rfl
  have nd:=sc_show_whole.nd
  have hu:=hr.units0
  have hu64:=hr.units
  exact ⟨qa9 K,(qad (qav (i:=1) nd rfl (Or.inl rfl) (c_raised.pe hr (by decide) rfl (qaa qab (qaa (qfi rfl B.FIGURES_AT_ONCE ⟨_,rfl⟩) qae))))
    (qad (qav (i:=2) nd rfl (Or.inl rfl) (qaA qaR rfl B.abs qbP (qaa (pv 0) qae)))
    (qad (qav (i:=3) nd rfl (Or.inl rfl) (qc5 qae))
    (qad (qb4 PassesOwn.never (qau qgM (pv 2) (pv 1) (nomark _)) qdU)
    (qad (qdT (qgk PySem.F.plainAttrs_list PySem.F.slot_list_append PySem.F.type_list_append qct (pv 3) (qaa (qaL qbp rfl B.str qcz (qaa (pv 2) qae)) qae)))
    (qag (qaE (qao qaF (qbl (qau qdh (pv 0) qab (nomark _)) qaH qaH) (qdw rfl B.reversed rfl (qaa (pv 3) qae)))))))))),qch h⟩
theorem sc_joint:FnScope ["number", "is_first"] ["number", "is_first"] (qai qcM):=⟨rfl,rfl,rfl,by decide +kernel,rfl,by decide +kernel,by decide +kernel⟩
theorem qeZ (F:Fun K "joint" "joint" qcM f fd) (B:Bl K mg)  : FnOk P w K mg base CX0 1 f fd ["number", "is_first"] (qbe K):=by
  refine F.ok sc_joint (fun vs H Q E h=>?_) (fun cdv A outer s H vs Q E hr h=>?_)
  · obtain ⟨_,_,_,_,rfl,_⟩:=h
    rfl
  have nd:=sc_joint.nd
  have hu:=hr.units0
  have hu64:=hr.units
  exact ⟨qcS K,(qad (qbx (qdR (pv 1)) (qag (qaE (qbl (qau qdh (qaD qar (pv 0) qab (fun _ _=>rfl)) qab (nomark _)) qaH qaH))) qaM)
    (qag (qaE (qbl (qau qdh (qaD qar (pv 0) qab (fun _ _=>rfl)) qab (nomark _)) qaH qaH)))),qeW h⟩
theorem sc_show_log_number:FnScope ["n"] ["n"] (qai qaK):=⟨rfl,rfl,rfl,by decide +kernel,rfl,by decide +kernel,by decide +kernel⟩
theorem qbu (F:Fun K "show_log_number" "show_log_number" qaK f fd) (B:Bl K mg) (c_show_number:Cal P w K mg base 3 "show_number" ["c"] (qaj K)) (c_with_logs:Cal P w K mg base 4 "with_logs" ["first", "rows"] (qaI K)):FnOk P w K mg base CX0 5 f fd ["n"] (qan K):=by
  refine F.ok sc_show_log_number (fun vs H Q E h=>?_) (fun cdv A outer s H vs Q E hr h=>?_)
  · obtain ⟨_,_,_,_,_,_,_,rfl,_⟩:=h
    rfl
  have nd:=sc_show_log_number.nd
  have hu:=hr.units0
  have hu64:=hr.units
  exact ⟨qaX K,(qag (qaE (c_with_logs.pe hr (by decide) rfl (qaa (c_show_number.pe hr (by decide) rfl (qaa (qaD qar (pv 0) qab (fun _ _=>rfl)) qae)) (qaa (qem (N:=["c", "r"]) (capt:=[none,none]) rfl (BlkOk.of rfl rfl rfl rfl (fun _ h=>nomatch h) rfl rfl rfl) (qge (qaD qar (pv 0) qab (fun _ _=>rfl))) (fun _ _ _ _=>(qca rfl (qaT (qaU (i:=0) (show (["c", "r"]:List PySem.Str).Nodup by decide +kernel) rfl (Or.inl rfl)) (qaT (qaU (i:=1) (show (["c", "r"]:List PySem.Str).Nodup by decide +kernel) rfl (Or.inl rfl)) qb3)))) (fun _ _ _ _=>(qbf (qaa (pv 0) (qaa (c_show_number.pe hr (by decide) rfl (qaa (pv 1) qae)) qae))))) qae))))),qbt h⟩
theorem sc_with_logs:FnScope ["first", "rows", "text", "c", "inner"] ["first", "rows"] (qai qbh):=⟨rfl,rfl,rfl,by decide +kernel,rfl,by decide +kernel,by decide +kernel⟩
theorem qcD (F:Fun K "with_logs" "with_logs" qbh f fd) (B:Bl K mg) (c_joint:Cal P w K mg base 1 "joint" ["number", "is_first"] (qbe K)) (c_size_of:Cal P w K mg base 1 "size_of" ["one"] (qaO K)) (c_show_number:Cal P w K mg base 3 "show_number" ["c"] (qaj K)):FnOk P w K mg base CX0 4 f fd ["first", "rows"] (qaI K):=by
  refine F.ok sc_with_logs (fun vs H Q E h=>?_) (fun cdv A outer s H vs Q E hr h=>?_)
  · obtain ⟨_,_,_,_,rfl,_⟩:=h
    rfl
  have nd:=sc_with_logs.nd
  have hu:=hr.units0
  have hu64:=hr.units
  exact ⟨qbj K,(qad (qav (i:=2) nd rfl (Or.inl rfl) (qbl (PW.pt (qdS (qau qbL (pv 0) qaH (nomark _)) (qcG (qfC (pv 1) (fun _=>rfl))))) qaH (pv 0)))
    (qad (qc3 PassesOwn.never rfl (qcJ (pv 1)) (qca rfl (qaT (qaU (i:=3) nd rfl (Or.inl rfl)) (qaT (qaU (i:=4) nd rfl (Or.inl rfl)) qb3))) (qag (qc1 (i:=2) nd rfl (Or.inl rfl) (qao qaF (qao qaF (qao qaF (qao qaF (c_joint.pe hr (by decide) rfl (qaa (pv 3) (qaa (qbz qbL (pv 2) qaH (nomark _)) qae))) (c_show_number.pe hr (by decide) rfl (qaa (c_size_of.pe hr (by decide) rfl (qaa (pv 3) qae)) qae))) qaH) (pv 4)) qaH) qeT)))
    (qag (qaE (pv 2))))),qcC h⟩
theorem sc_l_box:FnScope ["_law_script", "_law_k", "_law_cell", "_law_plain"] ["_law_script", "_law_k"] (qai qcN):=⟨rfl,rfl,rfl,by decide +kernel,rfl,by decide +kernel,by decide +kernel⟩
theorem qe0 (F:Fun K "_law_box" "_law_box" qcN f fd) (B:Bl K mg)  : FnOk P w K mg base CX0 1 f fd ["_law_script", "_law_k"] (qbd K):=by
  refine F.ok sc_l_box (fun vs H Q E h=>?_) (fun cdv A outer s H vs Q E hr h=>?_)
  · obtain ⟨_,_,_,rfl,_⟩:=h
    rfl
  have nd:=sc_l_box.nd
  have hu:=hr.units0
  have hu64:=hr.units
  exact ⟨qcT K,(qad (qav (i:=2) nd rfl (Or.inl rfl) qab)
    (qad (qbx (qau qdh (pv 1) (qaA qbR rfl B.len qc8 (qaa (pv 0) qae)) (nomark _)) (qag (qav (i:=2) nd rfl (Or.inl rfl) (qaD qcx (pv 0) (pv 1) (fun _ _=>rfl)))) qaM)
    (qad (qav (i:=3) nd rfl (Or.inl rfl) (qgb (qbz qdi (qaA qbR rfl B.len qc8 (qaa (pv 0) qae)) qab (nomark _)) (qga (qbz qbL (qao qbn (qaD qcx (pv 0) qab (fun _ _=>rfl)) qab) qab (nomark _)))))
    (qag (qaE (qc5 (qaa (qao qbi (qaA qaR rfl B.abs qbP (qaa (pv 2) qae)) (qaL qbQ rfl B.int qef (qaa (pv 3) qae))) (qaa (qaA qaR rfl B.abs qbP (qaa (pv 2) qae)) (qaa (qao qbi qab (pv 1)) qae))))))))),qeV h⟩
theorem sc_l_take:FnScope ["_law_box_here", "_law_many", "_law_digit", "_law_m"] ["_law_box_here", "_law_many"] (qai qb7):=⟨rfl,rfl,rfl,by decide +kernel,rfl,by decide +kernel,by decide +kernel⟩
theorem qew (F:Fun K "_law_take" "_law_take" qb7 f fd) (B:Bl K mg)  : FnOk P w K mg base CX0 1 f fd ["_law_box_here", "_law_many"] (qat K):=by
  refine F.ok sc_l_take (fun vs H Q E h=>?_) (fun cdv A outer s H vs Q E hr h=>?_)
  · obtain ⟨_,_,_,rfl,_⟩:=h
    rfl
  have nd:=sc_l_take.nd
  have hu:=hr.units0
  have hu64:=hr.units
  exact ⟨qce K,(qad (qbx (qau qdi (qaD qa1 (pv 0) qab (fun _ _=>rfl)) qab (nomark _)) (qad (qav (i:=2) nd rfl (Or.inl rfl) (qao qbn (qaD qa1 (pv 0) qab (fun _ _=>rfl)) (pv 1)))
    (qad (qe4 (qao qbo (qaD qa1 (pv 0) qab (fun _ _=>rfl)) (pv 1)) (qe3 (pv 0) qab qc7))
    (qag (qaE (pv 2))))) qaM)
    (qad (qe4 (qao qbG (qaD qa1 (pv 0) qab (fun _ _=>rfl)) qab) (qe3 (pv 0) qab qc7))
    (qad (qav (i:=3) nd rfl (Or.inl rfl) (qao qbG (qao qbn (qaD qa1 (pv 0) qab (fun _ _=>rfl)) qab) qab))
    (qad (qav (i:=3) nd rfl (Or.inl rfl) (qao qbn (qao qbi (pv 3) (qao qbG qab (qao qbi (qaD qa1 (pv 0) qab (fun _ _=>rfl)) (qaD qa1 (pv 0) qab (fun _ _=>rfl))))) qab))
    (qad (qav (i:=3) nd rfl (Or.inl rfl) (qao qbn (qao qbi (pv 3) (qao qbG (qao qbG (qao qbn (pv 3) qab) (qao qbi (qaD qa1 (pv 0) qab (fun _ _=>rfl)) qab)) qab)) qab))
    (qag (qaE (qao qbn (qao qbG (qao qbo (qao qbi (pv 3) (pv 3)) qab) (qao qbo (pv 3) qab)) (pv 1))))))))),qes h⟩
theorem sc_l_lowest:FnScope ["_law_top", "_law_bottom", "_law_one", "_law_other"] ["_law_top", "_law_bottom"] (qai qbA):=⟨rfl,rfl,rfl,by decide +kernel,rfl,by decide +kernel,by decide +kernel⟩
theorem qcX (F:Fun K "_law_lowest" "_law_lowest" qbA f fd) (B:Bl K mg)  : FnOk P w K mg base CX0 1 f fd ["_law_top", "_law_bottom"] (qaG K):=by
  refine F.ok sc_l_lowest (fun vs H Q E h=>?_) (fun cdv A outer s H vs Q E hr h=>?_)
  · obtain ⟨_,_,rfl,_⟩:=h
    rfl
  have nd:=sc_l_lowest.nd
  have hu:=hr.units0
  have hu64:=hr.units
  exact ⟨qbD K,(qad (qe5 (i:=2) (j:=3) rfl nd rfl rfl (by decide) rfl rfl (qaa (qaA qaR rfl B.abs qbP (qaa (pv 0) qae)) (qaa (pv 1) qae)) rfl)
    (qad (qb4 PassesOwn.never (qau qdi (pv 3) qab (nomark _)) (qag (qe5 (i:=2) (j:=3) rfl nd rfl rfl (by decide) rfl rfl (qaa (pv 3) (qaa (qao qbn (pv 2) (pv 3)) qae)) rfl)))
    (qag (qaE (qbf (qaa (qao qbo (pv 0) (pv 2)) (qaa (qao qbo (pv 1) (pv 2)) qae))))))),qcU h⟩
theorem sc_l_number:FnScope ["_law_box_here", "_law_kind"] ["_law_box_here"] (qai qbB):=⟨rfl,rfl,rfl,by decide +kernel,rfl,by decide +kernel,by decide +kernel⟩
theorem qcY (F:Fun K "_law_number" "_law_number" qbB f fd) (B:Bl K mg) (c_l_take:Cal P w K mg base 1 "_law_take" ["_law_box_here", "_law_many"] (qat K)) (c_l_lowest:Cal P w K mg base 1 "_law_lowest" ["_law_top", "_law_bottom"] (qaG K)):FnOk P w K mg base CX0 2 f fd ["_law_box_here"] (qaC K):=by
  refine F.ok sc_l_number (fun vs H Q E h=>?_) (fun cdv A outer s H vs Q E hr h=>?_)
  · obtain ⟨_,_,rfl,_⟩:=h
    rfl
  have nd:=sc_l_number.nd
  have hu:=hr.units0
  have hu64:=hr.units
  exact ⟨qbE K,(qad (qav (i:=1) nd rfl (Or.inl rfl) (c_l_take.pe hr (by decide) rfl (qaa (pv 0) (qaa qab qae))))
    (qad (qbx (qau qbL (pv 1) qab (nomark _)) (qag (qaE (qbf (qaa (qao qc4 (c_l_take.pe hr (by decide) rfl (qaa (pv 0) (qaa qab qae))) qab) (qaa qab qae))))) qaM)
    (qad (qbx (qau qbL (pv 1) qab (nomark _)) (qag (qaE (c_l_lowest.pe hr (by decide) rfl (qaa (qao qc4 (c_l_take.pe hr (by decide) rfl (qaa (pv 0) (qaa qab qae))) qab) (qaa (qao qbG qab (c_l_take.pe hr (by decide) rfl (qaa (pv 0) (qaa qab qae)))) qae))))) qaM)
    (qad (qbx (qau qbL (pv 1) qab (nomark _)) (qag (qaE (c_l_lowest.pe hr (by decide) rfl (qaa (qao qc4 (c_l_take.pe hr (by decide) rfl (qaa (pv 0) (qaa qab qae))) qab) (qaa (qao qbG qab (c_l_take.pe hr (by decide) rfl (qaa (pv 0) (qaa qab qae)))) qae))))) qaM)
    (qag (qaE (qbf (qaa (qao qc4 (c_l_take.pe hr (by decide) rfl (qaa (pv 0) (qaa qab qae))) qab) (qaa qab qae))))))))),qcV h⟩
theorem sc_l_number_text:FnScope ["_law_c"] ["_law_c"] (qai qaQ):=⟨rfl,rfl,rfl,by decide +kernel,rfl,by decide +kernel,by decide +kernel⟩
theorem qbJ (F:Fun K "_law_number_text" "_law_number_text" qaQ f fd) (B:Bl K mg)  : FnOk P w K mg base CX0 1 f fd ["_law_c"] (qal K):=by
  refine F.ok sc_l_number_text (fun vs H Q E h=>?_) (fun cdv A outer s H vs Q E hr h=>?_)
  · obtain ⟨_,_,_,rfl,_⟩:=h
    rfl
  have nd:=sc_l_number_text.nd
  have hu:=hr.units0
  have hu64:=hr.units
  exact ⟨qaS K,(qad (qbx (qau qbL (qaD qar (pv 0) qab (fun _ _=>rfl)) qab (nomark _)) (qag (qaE (qaL qbp rfl B.str qcz (qaa (qaD qar (pv 0) qab (fun _ _=>rfl)) qae)))) qaM)
    (qag (qaE (qao qaF (qao qaF (qaL qbp rfl B.str qcz (qaa (qaD qar (pv 0) qab (fun _ _=>rfl)) qae)) qaH) (qaL qbp rfl B.str qcz (qaa (qaD qar (pv 0) qab (fun _ _=>rfl)) qae)))))),qbI h⟩
theorem sc_l_logs_text:FnScope ["_law_first", "_law_nought", "_law_logs", "_law_text", "_law_c", "_law_inner", "_law_piece"] ["_law_first", "_law_nought", "_law_logs"] (qai qa0):=⟨rfl,rfl,rfl,by decide +kernel,rfl,by decide +kernel,by decide +kernel⟩
theorem qb0 (F:Fun K "_law_logs_text" "_law_logs_text" qa0 f fd) (B:Bl K mg) (c_l_number_text:Cal P w K mg base 1 "_law_number_text" ["_law_c"] (qal K)):FnOk P w K mg base CX0 2 f fd ["_law_first", "_law_nought", "_law_logs"] (qaz K):=by
  refine F.ok sc_l_logs_text (fun vs H Q E h=>?_) (fun cdv A outer s H vs Q E hr h=>?_)
  · obtain ⟨_,_,_,_,_,rfl,_⟩:=h
    rfl
  have nd:=sc_l_logs_text.nd
  have hu:=hr.units0
  have hu64:=hr.units
  exact ⟨qbs K,(qad (qav (i:=3) nd rfl (Or.inl rfl) (pv 0))
    (qad (qbx (PW.pt (qdS (qdR (pv 1)) (qcG (qau qdi (qaA qej rfl B.len qc8 (qaa (pv 2) qae)) qab (nomark _))))) (qag (qav (i:=3) nd rfl (Or.inl rfl) qaH)) qaM)
    (qad (qc3 PassesOwn.never rfl (qcJ (pv 2)) (qca rfl (qaT (qaU (i:=4) nd rfl (Or.inl rfl)) (qaT (qaU (i:=5) nd rfl (Or.inl rfl)) qb3))) (qad (qav (i:=6) nd rfl (Or.inl rfl) (qao qaF (qao qaF (qao qaF (c_l_number_text.pe hr (by decide) rfl (qaa (qbf (qaa (qaA qaR rfl B.abs qbP (qaa (qaD qar (pv 4) qab (fun _ _=>rfl)) qae)) (qaa (qaD qar (pv 4) qab (fun _ _=>rfl)) qae))) qae)) qaH) (pv 5)) qaH))
    (qag (qbx (qau qbL (pv 3) qaH (nomark _)) (qag (qav (i:=3) nd rfl (Or.inl rfl) (qao qaF (qao qfF qaH (qaL qbQ rfl B.int qef (qaa (qbz qdh (qaD qar (pv 4) qab (fun _ _=>rfl)) qab (nomark _)) qae))) (pv 6)))) (qag (qav (i:=3) nd rfl (Or.inl rfl) (qao qaF (qao qaF (pv 3) (qaD qa1 (qc5 (qaa qaH (qaa qaH qae))) (qaL qbQ rfl B.int qef (qaa (qbz qdh (qaD qar (pv 4) qab (fun _ _=>rfl)) qab (nomark _)) qae)) (fun _ _=>rfl))) (pv 6))))))))
    (qag (qaE (pv 3)))))),qbY h⟩
theorem sc_law:FnScope ["_law_script", "_law_k", "_law_box_here", "_law_q", "_law_logs", "_law_j", "_law_c", "_law_r", "_law_due", "_law_found"] ["_law_script"] (qai qdn):=⟨rfl,rfl,rfl,by decide +kernel,rfl,by decide +kernel,by decide +kernel⟩
theorem qgA (F:Fun K "law" "law" qdn f fd) (B:Bl K mg) (c_l_box:Cal P w K mg base 1 "_law_box" ["_law_script", "_law_k"] (qbd K)) (c_l_number:Cal P w K mg base 2 "_law_number" ["_law_box_here"] (qaC K)) (c_l_take:Cal P w K mg base 1 "_law_take" ["_law_box_here", "_law_many"] (qat K)) (c_l_number_text:Cal P w K mg base 1 "_law_number_text" ["_law_c"] (qal K)) (c_l_logs_text:Cal P w K mg base 2 "_law_logs_text" ["_law_first", "_law_nought", "_law_logs"] (qaz K)) (c_show_log_number:Cal P w K mg base 5 "show_log_number" ["n"] (qan K)):FnOk P w K mg base CX0 6 f fd ["_law_script"] (qcA K):=by
  refine F.ok sc_law (fun vs H Q E h=>?_) (fun cdv A outer s H vs Q E hr h=>?_)
  · obtain ⟨_,_,rfl,_⟩:=h
    rfl
  have nd:=sc_law.nd
  have hu:=hr.units0
  have hu64:=hr.units
  exact ⟨qfL K,(qad (qc3 PassesOwn.never rfl (qcl rfl B.range (qaa (qaA (qeh rfl) rfl B.max qgq (qaa qab (qaa (qaA (qei rfl) rfl B.min qgr (qaa (qaA qbR rfl B.len qc8 (qaa (pv 0) qae)) (qaa qab qae))) qae))) qae)) (qaU (i:=1) nd rfl (Or.inl rfl)) (qad (qav (i:=2) nd rfl (Or.inl rfl) (c_l_box.pe hr (by decide) rfl (qaa (pv 0) (qaa (pv 1) qae))))
    (qad (qav (i:=3) nd rfl (Or.inl rfl) (c_l_number.pe hr (by decide) rfl (qaa (pv 2) qae)))
    (qad (qav (i:=4) nd rfl (Or.inl rfl) (qc5 qae))
    (qad (qc3 PassesOwn.never rfl (qcl rfl B.range (qaa (c_l_take.pe hr (by decide) rfl (qaa (pv 2) (qaa qab qae))) qae)) (qaU (i:=5) nd rfl (Or.inl rfl)) (qad (qav (i:=6) nd rfl (Or.inl rfl) (c_l_number.pe hr (by decide) rfl (qaa (pv 2) qae)))
    (qad (qav (i:=7) nd rfl (Or.inl rfl) (c_l_number.pe hr (by decide) rfl (qaa (pv 2) qae)))
    (qag (qbx (PW.pt (qdS (qau qfn (qaD qar (pv 6) qab (fun _ _=>rfl)) qab (nomark _)) (qcG (qau qfn (qaD qar (pv 7) qab (fun _ _=>rfl)) qab (nomark _))))) (qag (qdT (qgk PySem.F.plainAttrs_list PySem.F.slot_list_append PySem.F.type_list_append qct (pv 4) (qaa (qbf (qaa (pv 6) (qaa (qbf (qaa (qaA qaR rfl B.abs qbP (qaa (qaD qar (pv 7) qab (fun _ _=>rfl)) qae)) (qaa (qaD qar (pv 7) qab (fun _ _=>rfl)) qae))) qae))) qae)))) qaM)))))
    (qad (qav (i:=8) nd rfl (Or.inl rfl) (c_l_logs_text.pe hr (by decide) rfl (qaa (c_l_number_text.pe hr (by decide) rfl (qaa (pv 3) qae)) (qaa (qbz qbL (qaD qar (pv 3) qab (fun _ _=>rfl)) qab (nomark _)) (qaa (qem (N:=["_law_c", "_law_r"]) (capt:=[none,none]) rfl (BlkOk.of rfl rfl rfl rfl (fun _ h=>nomatch h) rfl rfl rfl) (qcJ (pv 4)) (fun _ _ _ _=>(qca rfl (qaT (qaU (i:=0) (show (["_law_c", "_law_r"]:List PySem.Str).Nodup by decide +kernel) rfl (Or.inl rfl)) (qaT (qaU (i:=1) (show (["_law_c", "_law_r"]:List PySem.Str).Nodup by decide +kernel) rfl (Or.inl rfl)) qb3)))) (fun _ _ _ _=>(qbf (qaa (pv 0) (qaa (c_l_number_text.pe hr (by decide) rfl (qaa (pv 1) qae)) qae))))) qae)))))
    (qad (qav (i:=9) nd rfl (Or.inl rfl) (c_show_log_number.pe hr (by decide) rfl (qaa (qbf (qaa (pv 3) (qaa (qaL qen rfl B.tuple qeR (qaa (pv 4) qae)) qae))) qae)))
    (qag (qbx (PW.pt (qgH (qf9 (qdR (qaA qep rfl B.isinstance qb9 (qaa (pv 9) (qaa (qfj rfl B.str qcz rfl) qae))))) (qf8 (qau qfn (pv 9) (pv 8) (nomark _))))) (qag (qaE qf6)) qaM)))))))))
    (qag (qaE qf6))),qgz h⟩
end
end Bs
namespace Bs
open PySem PySem.Spec PyProof.Rows L2
set_option maxHeartbeats 4000000
open Hd
theorem qbv {K:W.Frag} {st:Stmt} {f c:Addr} {n:Str} {pm:Value} (l:K.lookup f=some (fnO n st pm c)) (e:PySem.W.codeIn K (.ref c) n=true) (k:PySem.W.keepIn K (.ref f)=true):Fun K n n st f (PySem.W.fnOf n n (qbg st) (qa7 st) (qai st) .none .none .none pm none (.ref c) .none):=qgl (st:=st) l e k
theorem qaY {P:Program} {K:W.Frag} {w:World} {h base:Heap} {mg:Str→Option Value} {k:Nat} {f:Addr} {fd:FuncData} {n:Str} {ps:List Str} {sp:Sp} (X:K.In h) (G:h.Ns mainGlobals mg) (ok:FnOk P w K mg base CX0 k f fd ps sp) (b:Binds K fd ps []) (e:PySem.W.keepIn K (.ref f)=true) (a:PySem.W.nsIn K mainGlobals n=some (some (.ref f))):Cal P w K mg base k n ps sp:=⟨f,fd,ok,b,e,PySem.W.mg_of X G a⟩
theorem qfY:∀ us:List Value,us.length=1→∃ x0,us=[x0]
  | [x0],_=>⟨x0,rfl⟩
theorem qfZ:∀ us:List Value,us.length=2→∃ x0 x1,us=[x0,x1]
  | [x0,x1],_=>⟨x0,x1,rfl⟩
theorem qhj:∀ us:List Value,us.length=3→∃ x0 x1 x2,us=[x0,x1,x2]
  | [x0,x1,x2],_=>⟨x0,x1,x2,rfl⟩
section
variable {P:Program} {w:World} {mg:Str→Option Value} {base h:Heap}
theorem qe1 (X:(hp w.params).In h) (G:h.Ns mainGlobals mg) (B:Bl (hp w.params) mg):Cal P w (hp w.params) mg base 1 "raised" ["whole", "n"] (qaW (hp w.params)):=by
  have F:=qbv (K:=hp w.params) (st:=qb6) (f:=21) (c:=20) (n := "raised") (pm:=mo0) (by kernel_rfl) (by kernel_rfl) (by kernel_rfl)
  exact qaY X G (qev F B ) (F.binds fun _ _ _ _ _ _ us hl=>by obtain ⟨_,_,rfl⟩:=qfZ us hl;rfl) (by kernel_rfl) (by kernel_rfl)
theorem qex (X:(hp w.params).In h) (G:h.Ns mainGlobals mg) (B:Bl (hp w.params) mg):Cal P w (hp w.params) mg base 1 "size_of" ["one"] (qaO (hp w.params)):=by
  have F:=qbv (K:=hp w.params) (st:=qbN) (f:=28) (c:=27) (n := "size_of") (pm:=mo1) (by kernel_rfl) (by kernel_rfl) (by kernel_rfl)
  exact qaY X G (qdI F B ) (F.binds fun _ _ _ _ _ _ us hl=>by obtain ⟨_,rfl⟩:=qfY us hl;rfl) (by kernel_rfl) (by kernel_rfl)
theorem qfS (X:(hp w.params).In h) (G:h.Ns mainGlobals mg) (B:Bl (hp w.params) mg):Cal P w (hp w.params) mg base 1 "joint" ["number", "is_first"] (qbe (hp w.params)):=by
  have F:=qbv (K:=hp w.params) (st:=qcM) (f:=49) (c:=48) (n := "joint") (pm:=mo2) (by kernel_rfl) (by kernel_rfl) (by kernel_rfl)
  exact qaY X G (qeZ F B ) (F.binds fun _ _ _ _ _ _ us hl=>by obtain ⟨_,_,rfl⟩:=qfZ us hl;rfl) (by kernel_rfl) (by kernel_rfl)
theorem qfT (X:(hp w.params).In h) (G:h.Ns mainGlobals mg) (B:Bl (hp w.params) mg):Cal P w (hp w.params) mg base 1 "_law_box" ["_law_script", "_law_k"] (qbd (hp w.params)):=by
  have F:=qbv (K:=hp w.params) (st:=qcN) (f:=68) (c:=67) (n := "_law_box") (pm:=mo4) (by kernel_rfl) (by kernel_rfl) (by kernel_rfl)
  exact qaY X G (qe0 F B ) (F.binds fun _ _ _ _ _ _ us hl=>by obtain ⟨_,_,rfl⟩:=qfZ us hl;rfl) (by kernel_rfl) (by kernel_rfl)
theorem qde (X:(hp w.params).In h) (G:h.Ns mainGlobals mg) (B:Bl (hp w.params) mg):Cal P w (hp w.params) mg base 1 "_law_take" ["_law_box_here", "_law_many"] (qat (hp w.params)):=by
  have F:=qbv (K:=hp w.params) (st:=qb7) (f:=75) (c:=74) (n := "_law_take") (pm:=mo4) (by kernel_rfl) (by kernel_rfl) (by kernel_rfl)
  exact qaY X G (qew F B ) (F.binds fun _ _ _ _ _ _ us hl=>by obtain ⟨_,_,rfl⟩:=qfZ us hl;rfl) (by kernel_rfl) (by kernel_rfl)
theorem qdJ (X:(hp w.params).In h) (G:h.Ns mainGlobals mg) (B:Bl (hp w.params) mg):Cal P w (hp w.params) mg base 1 "_law_lowest" ["_law_top", "_law_bottom"] (qaG (hp w.params)):=by
  have F:=qbv (K:=hp w.params) (st:=qbA) (f:=82) (c:=81) (n := "_law_lowest") (pm:=mo4) (by kernel_rfl) (by kernel_rfl) (by kernel_rfl)
  exact qaY X G (qcX F B ) (F.binds fun _ _ _ _ _ _ us hl=>by obtain ⟨_,_,rfl⟩:=qfZ us hl;rfl) (by kernel_rfl) (by kernel_rfl)
theorem qbb (X:(hp w.params).In h) (G:h.Ns mainGlobals mg) (B:Bl (hp w.params) mg):Cal P w (hp w.params) mg base 1 "_law_number_text" ["_law_c"] (qal (hp w.params)):=by
  have F:=qbv (K:=hp w.params) (st:=qaQ) (f:=96) (c:=95) (n := "_law_number_text") (pm:=mo4) (by kernel_rfl) (by kernel_rfl) (by kernel_rfl)
  exact qaY X G (qbJ F B ) (F.binds fun _ _ _ _ _ _ us hl=>by obtain ⟨_,rfl⟩:=qfY us hl;rfl) (by kernel_rfl) (by kernel_rfl)
theorem qcE (X:(hp w.params).In h) (G:h.Ns mainGlobals mg) (B:Bl (hp w.params) mg):Cal P w (hp w.params) mg base 2 "show_whole" ["whole"] (qay (hp w.params)):=by
  have F:=qbv (K:=hp w.params) (st:=qa8) (f:=42) (c:=41) (n := "show_whole") (pm:=mo2) (by kernel_rfl) (by kernel_rfl) (by kernel_rfl)
  exact qaY X G (qci F B (qe1 X G B)) (F.binds fun _ _ _ _ _ _ us hl=>by obtain ⟨_,rfl⟩:=qfY us hl;rfl) (by kernel_rfl) (by kernel_rfl)
theorem qdK (X:(hp w.params).In h) (G:h.Ns mainGlobals mg) (B:Bl (hp w.params) mg):Cal P w (hp w.params) mg base 2 "_law_number" ["_law_box_here"] (qaC (hp w.params)):=by
  have F:=qbv (K:=hp w.params) (st:=qbB) (f:=89) (c:=88) (n := "_law_number") (pm:=mo4) (by kernel_rfl) (by kernel_rfl) (by kernel_rfl)
  exact qaY X G (qcY F B (qde X G B) (qdJ X G B)) (F.binds fun _ _ _ _ _ _ us hl=>by obtain ⟨_,rfl⟩:=qfY us hl;rfl) (by kernel_rfl) (by kernel_rfl)
theorem qcj (X:(hp w.params).In h) (G:h.Ns mainGlobals mg) (B:Bl (hp w.params) mg):Cal P w (hp w.params) mg base 2 "_law_logs_text" ["_law_first", "_law_nought", "_law_logs"] (qaz (hp w.params)):=by
  have F:=qbv (K:=hp w.params) (st:=qa0) (f:=103) (c:=102) (n := "_law_logs_text") (pm:=mo4) (by kernel_rfl) (by kernel_rfl) (by kernel_rfl)
  exact qaY X G (qb0 F B (qbb X G B)) (F.binds fun _ _ _ _ _ _ us hl=>by obtain ⟨_,_,_,rfl⟩:=qhj us hl;rfl) (by kernel_rfl) (by kernel_rfl)
theorem qbw (X:(hp w.params).In h) (G:h.Ns mainGlobals mg) (B:Bl (hp w.params) mg):Cal P w (hp w.params) mg base 3 "show_number" ["c"] (qaj (hp w.params)):=by
  have F:=qbv (K:=hp w.params) (st:=qaZ) (f:=35) (c:=34) (n := "show_number") (pm:=mo2) (by kernel_rfl) (by kernel_rfl) (by kernel_rfl)
  exact qaY X G (qbZ F B (qcE X G B)) (F.binds fun _ _ _ _ _ _ us hl=>by obtain ⟨_,rfl⟩:=qfY us hl;rfl) (by kernel_rfl) (by kernel_rfl)
theorem qcZ (X:(hp w.params).In h) (G:h.Ns mainGlobals mg) (B:Bl (hp w.params) mg):Cal P w (hp w.params) mg base 4 "with_logs" ["first", "rows"] (qaI (hp w.params)):=by
  have F:=qbv (K:=hp w.params) (st:=qbh) (f:=61) (c:=60) (n := "with_logs") (pm:=mo3) (by kernel_rfl) (by kernel_rfl) (by kernel_rfl)
  exact qaY X G (qcD F B (qfS X G B) (qex X G B) (qbw X G B)) (F.binds fun _ _ _ _ _ _ us hl=>by obtain ⟨_,_,rfl⟩:=qfZ us hl;rfl) (by kernel_rfl) (by kernel_rfl)
theorem qbF (X:(hp w.params).In h) (G:h.Ns mainGlobals mg) (B:Bl (hp w.params) mg):Cal P w (hp w.params) mg base 5 "show_log_number" ["n"] (qan (hp w.params)):=by
  have F:=qbv (K:=hp w.params) (st:=qaK) (f:=54) (c:=53) (n := "show_log_number") (pm:=mo3) (by kernel_rfl) (by kernel_rfl) (by kernel_rfl)
  exact qaY X G (qbu F B (qbw X G B) (qcZ X G B)) (F.binds fun _ _ _ _ _ _ us hl=>by obtain ⟨_,rfl⟩:=qfY us hl;rfl) (by kernel_rfl) (by kernel_rfl)
end
theorem all_mk {l:PySem.W.OpenLaw} {w:World} {h:Heap} {mg:Str→Option Value} {fa:Addr} (X:(hp w.params).In h) (G:h.Ns mainGlobals mg) (hfa:mg "law" = some (.ref fa))
    : ∃ fd:FuncData,(∀ (s:Shared) (v:Value),BindsTo s fd ⟨[v],[]⟩ [("_law_script", v)])∧∀ base:Heap,(hp w.params).In base→base.Ns mainGlobals mg→FnOk l.prog w (hp w.params) mg base CX0 6 fa fd ["_law_script"] (qcA (hp w.params)):=by
  have e:=hfa.symm.trans (PySem.W.mg_of X G (n := "law") (v:=.ref 108) (by kernel_rfl))
  cases e
  have B:Bl (hp w.params) mg:=⟨PySem.W.mg_none_of X G (by kernel_rfl),PySem.W.mg_of X G (by kernel_rfl),PySem.W.mg_none_of X G (by kernel_rfl),PySem.W.mg_none_of X G (by kernel_rfl),PySem.W.mg_none_of X G (by kernel_rfl),PySem.W.mg_none_of X G (by kernel_rfl),PySem.W.mg_none_of X G (by kernel_rfl),PySem.W.mg_none_of X G (by kernel_rfl),PySem.W.mg_none_of X G (by kernel_rfl),PySem.W.mg_none_of X G (by kernel_rfl),PySem.W.mg_none_of X G (by kernel_rfl)⟩
  have FL:=qbv (K:=hp w.params) (st:=qdn) (f:=108) (c:=107) (n := "law") (pm:=mo4) (by kernel_rfl) (by kernel_rfl) (by kernel_rfl)
  refine ⟨PySem.W.fnOf "law" "law" (qbg qdn) (qa7 qdn) (qai qdn) .none .none .none mo4 none (.ref 107) .none,fun s v=>.of_eq rfl,fun base _ _=>?_⟩
  exact qgA FL B (qfT X G B) (qdK X G B) (qde X G B) (qbb X G B) (qcj X G B) (qbF X G B)
theorem walk {l:PySem.W.OpenLaw} {q:Program} {loose:List Str} {XP:(Str→Option Value)→Heap→Prop} {YP:World→Heap→Prop} {d:DefRec} {K:Params→W.Frag} (hn:l.most=some 63) (hdf:d.params.defaults=[]) (hq:importsNone q=true) (ht:∀ w,(model l.prog w).prog.given.tree=none)
    (hY:∀ (w:World) (h:Heap),YP w h→(K w.params).In h)
    (F:∀ (w:World) (mg:Str→Option Value) (fa:Addr) (h:Heap),(K w.params).In h→h.Ns mainGlobals mg→mg d.name=some (.ref fa)→
      ∃ fd:FuncData,(∀ (s:Shared) (u:Value),BindsTo s fd ⟨[u],[]⟩ [("_law_script", u)])∧∀ base:Heap,(K w.params).In base→base.Ns mainGlobals mg→FnOk l.prog w (K w.params) mg base CX0 6 fa fd ["_law_script"] (qcA (K w.params))) :
    PySem.W.WalkO q loose XP YP l.row.toRowW d [] (fun f vs=>PySem.call f vs):=
  L2.walk_of (n:=63) (k:=6) (x := "_law_script") (CX:=fun _=>CX0) (sp:=fun w=>qcA (K w.params)) hn (by decide) hdf hq ht ⟨rfl,by decide,by decide⟩ hY F (fun _ _ a ns hl _ hS=>⟨a,ns,rfl,hS,hl,fun _=>rfl⟩) fun _ _ _ _ _ z=>z
end Bs
open PySem PySem.W PyProof.Rows
set_option maxRecDepth 100000 in
set_option maxHeartbeats 0 in
theorem PySem.Challenge.cw_backslope_k82_log_numbers_written_holds : PySem.Challenge.rw_backslope_k82_log_numbers_written.Holds := by
  w_on; o_law
  refine PySem.W.holds_open (q := Bs.Hd.vw) (loose := []) (Xt := fun s => PySem.W.xlAt Bs.Hd.vw [] s && PySem.W.recOk (PySem.W.RowW.records (PySem.W.OpenRow.toRowW (PySem.W.OpenLaw.row PySem.Challenge.rw_backslope_k82_log_numbers_written))) s) (XP := PySem.W.XL Bs.Hd.vw []) (Yf := Bs.Hd.hk.obs) (Ya := Bs.Hd.hk.val) (YP := Bs.Hd.hk.says) (N := 1090) Bs.Hd.left Bs.Hd.hk.of Bs.Hd.hk.keeps (fun s e => PySem.W.xl_of s (Bool.and_eq_true_iff.mp e).1) PySem.W.XL.keeps (by rfl) (by rfl) (by rfl) (fun s e => PySem.W.recFacts_of (Bool.and_eq_true_iff.mp e).2) (by rfl) (by first | assumption | decide +kernel) (by decide +kernel) ⟨rfl, rfl, rfl, rfl, rfl, by decide +kernel⟩ ?hw ?hc
  case hw => w_witness2
  case hc => exact Bs.walk (l := PySem.Challenge.rw_backslope_k82_log_numbers_written) (K := Bs.Hd.hp) rfl rfl (by decide +kernel) (fun _ => rfl) (fun w h Y => Y) (fun w mg fa h KX G hmg => Bs.all_mk KX G hmg)
#print axioms PySem.Challenge.cw_backslope_k82_log_numbers_written_holds
