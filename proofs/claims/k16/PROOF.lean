import PyProof.Rows.All
import Wide.All
import OpenK.AllK
import Wide.FinOn
import Lean
import PyProof.EqAt
import PyProof.EqKinds
import PyProof.TupleCall
import PySem.Challenge.RW_backslope_k16_parts_of_any
set_option Elab.async false
set_option linter.all false
set_option maxRecDepth 100000
namespace L2
open PySem PySem.Spec PyProof.Rows
noncomputable abbrev Key := Sum Int Str
noncomputable def qp0 : Key → Value → Bool
  | .inl k, v => Value.isInt k v
  | .inr x, v => Value.isStrOf x v
noncomputable def qrT (w : World) : Key → Int
  | .inl k => hashInt k
  | .inr x => hashStr w x
theorem qbo : ∀ {k : Key} {v : Value}, qp0 k v = true → (∃ i t, k = Sum.inl i ∧ v = Value.int i t) ∨ (∃ x t, k = Sum.inr x ∧ v = Value.str x t)
  | .inl i, v, h => by
    obtain ⟨t, e⟩ := Value.isInt_shape (k := i) (v := v) h
    exact .inl ⟨i, t, rfl, e⟩
  | .inr x, v, h => by
    obtain ⟨t, e⟩ := Value.isStrOf_shape (x := x) (v := v) h
    exact .inr ⟨x, t, rfl, e⟩
theorem qp1 (a b : Int) : decide ((Sum.inl a : Key) = Sum.inl b) = (a == b) := by
  by_cases e : a = b
  · subst e; simp
  · have h : ¬ (Sum.inl a : Key) = Sum.inl b := fun q => e (Sum.inl.inj q)
    rw [decide_eq_false h]
    exact (beq_eq_false_iff_ne.mpr e).symm
theorem qp2 (a b : Str) : decide ((Sum.inr a : Key) = Sum.inr b) = decide (a = b) := by
  by_cases e : a = b
  · subst e; simp
  · have h : ¬ (Sum.inr a : Key) = Sum.inr b := fun q => e (Sum.inr.inj q)
    rw [decide_eq_false h, decide_eq_false e]
theorem qp3 (a : Int) (b : Str) : decide ((Sum.inl a : Key) = Sum.inr b) = false := decide_eq_false (fun q => nomatch q)
theorem qp4 (a : Str) (b : Int) : decide ((Sum.inr a : Key) = Sum.inl b) = false := decide_eq_false (fun q => nomatch q)
noncomputable def qjI (prog : Program) (w : World) : PySem.KeyKind prog w Key where
  is := qp0
  hash := qrT w
  inj := fun v a b ha hb => by
    rcases qbo ha with ⟨i, t, rfl, rfl⟩ | ⟨x, t, rfl, rfl⟩
    · rcases qbo hb with ⟨j, u, rfl, e⟩ | ⟨y, u, rfl, e⟩
      · injection e with e1 _; rw [e1]
      · exact nomatch e
    · rcases qbo hb with ⟨j, u, rfl, e⟩ | ⟨y, u, rfl, e⟩
      · exact nomatch e
      · injection e with e1 _; rw [e1]
  byValue := fun k v h => by
    rcases qbo h with ⟨i, t, rfl, rfl⟩ | ⟨x, t, rfl, rfl⟩ <;> rfl
  pyHash := fun hv h => by
    rcases qbo hv with ⟨i, t, rfl, rfl⟩ | ⟨x, t, rfl, rfl⟩
    · exact wpAny_pyHash_int h
    · exact wpAny_pyHash_str h
  eqBool := fun hu hv h => by
    rcases qbo hu with ⟨i, t, rfl, rfl⟩ | ⟨x, t, rfl, rfl⟩
    · rcases qbo hv with ⟨j, u, rfl, rfl⟩ | ⟨y, u, rfl, rfl⟩
      · rw [qp1] at h; exact wpAny_eqBool_int h
      · rw [qp3] at h; exact SeqAt.EqAt.int_str i t y u _ _ _ _ h
    · rcases qbo hv with ⟨j, u, rfl, rfl⟩ | ⟨y, u, rfl, rfl⟩
      · rw [qp4] at h; exact SeqAt.EqAt.str_int x t j u _ _ _ _ h
      · rw [qp2] at h; exact wpAny_eqBool_str h
  «strs» := fun k x t v h => by
    rcases qbo h with ⟨i, u, rfl, e⟩ | ⟨y, u, rfl, e⟩
    · exact nomatch e
    · injection e with e1 _
      subst e1
      cases v <;> rfl
end L2
namespace L2
open PySem PySem.Spec PyProof.Rows
inductive V where
  | non | bl (b : Bool) | int (i : Int) | str (x : Str) | byt (b : Array UInt8) | flt (b : UInt64) | ref (a : Addr) | ty (n : String)
  deriving DecidableEq
noncomputable def RelV : V → Value → Prop
  | .non, u => u = Value.none
  | .bl b, u => u = Value.bool b
  | .int i, u => ∃ t, u = Value.int i t
  | .str x, u => ∃ t, u = Value.str x t
  | .byt b, u => ∃ t, u = Value.bytes b t
  | .flt b, u => ∃ t, u = Value.float b t
  | .ref a, u => u = Value.ref a
  | .ty n, u => u = Value.type n
noncomputable abbrev Vals : List V → List Value → Prop := Paired RelV
theorem Vals.length {xs : List V} {us : List Value} (r : Vals xs us) : xs.length = us.length := Paired.length r
theorem Vals.get : ∀ {xs : List V} {us : List Value} {i : Nat} {x : V}, Vals xs us → xs[i]? = some x → ∃ u, us[i]? = some u ∧ RelV x u
  | _, _, _, _, .nil, e => by simp at e
  | _, _, 0, _, .cons r _, e => by simp at e; subst e; exact ⟨_, rfl, r⟩
  | _, _, i + 1, x, .cons _ t, e => by
    obtain ⟨u, h1, h2⟩ := Vals.get (i := i) (x := x) t (by simpa using e)
    exact ⟨u, by simpa using h1, h2⟩
theorem Vals.set {x : V} {u : Value} (r : RelV x u) : ∀ {xs : List V} {us : List Value} (i : Nat), Vals xs us → Vals (xs.set i x) (us.set i u)
  | _, _, _, .nil => .nil
  | _, _, 0, .cons _ t => .cons r t
  | _, _, i + 1, .cons q t => .cons q (Vals.set r i t)
theorem Vals.append : ∀ {xs ys : List V} {us ws : List Value}, Vals xs us → Vals ys ws → Vals (xs ++ ys) (us ++ ws)
  | _, _, _, _, .nil, s => s
  | _, _, _, _, .cons r t, s => .cons r (Vals.append t s)
theorem Vals.take : ∀ {xs : List V} {us : List Value} (n : Nat), Vals xs us → Vals (xs.take n) (us.take n)
  | _, _, 0, _ => .nil
  | _, _, _ + 1, .nil => .nil
  | _, _, n + 1, .cons r t => .cons r (Vals.take n t)
theorem Vals.drop : ∀ {xs : List V} {us : List Value} (n : Nat), Vals xs us → Vals (xs.drop n) (us.drop n)
  | _, _, 0, r => r
  | _, _, _ + 1, .nil => .nil
  | _, _, n + 1, .cons _ t => Vals.drop n t
noncomputable def qrH : Option V → Option Value → Prop
  | some v, some u => RelV v u
  | none, none => True
  | _, _ => False
noncomputable def KV {κ : Type} : List (κ × V) → List (κ × Value) → Prop := Paired fun (p : κ × V) (q : κ × Value) => p.1 = q.1 ∧ RelV p.2 q.2
noncomputable def kV : Key → V
  | .inl i => .int i
  | .inr x => .str x
inductive HO where

  | lst (xs : List V)

  | tup (xs : List V)

  | dK (kvs : List (Key × V)) | dT (kvs : List (List Key × V))

  | set (S : Int → Bool) (n : Nat)

  | ins (C dx : Addr) (fs : List (Str × V))

  | own (x : Addr)

  | xd (fs : List (Str × V))

  | met (f x : Addr)

  | rng (lo hi : Int)

  | frz (o : Obj) (u : HO)

  | tbl (ps : Array Value)

  | ext (φ : Heap → Prop)
noncomputable abbrev Hp := Addr → Option HO
noncomputable def upd (H : Hp) (a : Addr) (o : HO) : Hp := fun b => if b = a then some o else H b
theorem qai {H : Hp} {a : Addr} {o : HO} : upd H a o a = some o := by unfold upd; rw [if_pos rfl]
theorem qaB {H : Hp} {a b : Addr} {o : HO} (h : b ≠ a) : upd H a o b = H b := by unfold upd; rw [if_neg h]
theorem qrc {H : Hp} {a b : Addr} {o u : HO} (h : H a = some o) (h' : H b = some u) (d : o ≠ u) : a ≠ b := by
  intro e; subst e; rw [h] at h'; exact d (Option.some.inj h')
theorem qaD {H : Hp} {a b : Addr} {o : HO} (h : H a = some o) (h' : H b = none) : a ≠ b := by
  intro e; subst e; rw [h] at h'; cases h'
section
variable (P : Program) (w : World)
noncomputable def ObjOk (H : Hp) (h : Heap) (a : Addr) : HO → Prop
  | .lst xs => xs.length ≤ sizeLine ∧ ∃ (its : List Value) (n : Nat), Vals xs its ∧ h.get? a = some { cls := .type "list", data := .seq its.toArray n }
  | .tup xs => xs.length ≤ sizeLine ∧ ∃ its : List Value, Vals xs its ∧ IsTup h a its.toArray
  | .dK kvs => kvs.length ≤ sizeLine ∧ (a == sysModules) = false ∧ ∃ vs, KV kvs vs ∧ h.DictOf (qjI P w) a vs
  | .dT kvs => kvs.length ≤ sizeLine ∧ (a == sysModules) = false ∧ ∃ xs : List (List Key × Addr × Value),
      Paired (fun (p : List Key × V) (q : List Key × Addr × Value) => p.1 = q.1 ∧ H q.2.1 = some (.tup (p.1.map kV)) ∧ RelV p.2 q.2.2) kvs xs ∧
      ∃ o es ep, h.get? a = some o ∧ o.ExactDict ∧ o.data = .dict es ep ∧ es.toList = xs.map (entryOfKey (tupleKind (qjI P w))) ∧ (xs.map (·.1)).Nodup
  | .set S n => h.SetOf (intKind P w) a S n
  | .ins C dx fs => H dx = some (.own a) ∧ fs.length ≤ 1000 ∧ dx ≠ a ∧ h.get? a = some (PySem.W.instObj C dx) ∧
      ∃ mA, h.Ns1 dx mA ∧ (∀ f, qrH (fs.lookup f) (mA f)) ∧ PySem.Within mA (fs.map (·.1))
  | .own _ => ∃ o, h.get? a = some o
  | .xd fs => ∃ mA, h.Ns1 a mA ∧ ∀ f, qrH (fs.lookup f) (mA f)
  | .rng lo hi => ∃ t u v, h.get? a = some { cls := .type "range", data := .fields #[.int lo t, .int hi u, .int 1 v] }
  | .frz o u => h.get? a = some o ∧ ObjOk H h a u
  | .tbl ps => h.get? a = some { cls := .none, data := .fields ps }
  | .met f x => h.get? a = some (PySem.W.methodObj (.ref f) (.ref x))
  | .ext φ => φ h ∧ (∃ o, h.get? a = some o) ∧ ∀ h1 h2 : Heap, φ h1 → (∀ o, h1.get? a = some o → h2.get? a = some o) → φ h2
noncomputable def HOk (H : Hp) (h : Heap) : Prop := ∀ a o, H a = some o → ObjOk P w H h a o
end
section
variable {P : Program} {w : World} {H H' : Hp} {h h' : Heap} {a : Addr} {o : HO}
theorem ObjOk.lt (x : ObjOk P w H h a o) : a < h.objs.size := by
  cases o with
  | lst xs => obtain ⟨_, _, _, _, e⟩ := x; exact Heap.lt_size e
  | tup xs => obtain ⟨_, _, _, p⟩ := x; exact p.lt
  | dK kvs => obtain ⟨_, _, _, _, o, _, _, e, _⟩ := x; exact Heap.lt_size e
  | dT kvs => obtain ⟨_, _, _, _, o, _, _, e, _⟩ := x; exact Heap.lt_size e
  | set S n => obtain ⟨o, _, _, _, e, _⟩ := x; exact Heap.lt_size e
  | ins C dx fs => obtain ⟨_, _, _, e, _⟩ := x; exact Heap.lt_size e
  | own y => obtain ⟨_, e⟩ := x; exact Heap.lt_size e
  | xd fs => obtain ⟨_, ⟨_, _, _, e, _⟩, _⟩ := x; exact Heap.lt_size e
  | rng lo hi => obtain ⟨_, _, _, e⟩ := x; exact Heap.lt_size e
  | frz ob u => obtain ⟨e, _⟩ := x; exact Heap.lt_size e
  | tbl ps => exact Heap.lt_size (show h.get? a = some _ from x)
  | met f y => exact Heap.lt_size (show h.get? a = some _ from x)
  | ext φ => obtain ⟨_, ⟨_, e⟩, _⟩ := x; exact Heap.lt_size e
theorem Paired.mapP {α β : Type} {F G : α → β → Prop} : ∀ {l₁ : List α} {l₂ : List β}, Paired F l₁ l₂ → (∀ a b, F a b → G a b) → Paired G l₁ l₂
  | _, _, .nil, _ => .nil
  | _, _, .cons r t, f => .cons (f _ _ r) (Paired.mapP t f)
theorem ObjOk.stay (x : ObjOk P w H h a o) (k : ∀ b u, (b = a ∨ H b = some (.own a)) → h.get? b = some u → h'.get? b = some u)
    (ho : ∀ b, H b = some (.own a) → H' b = some (.own a)) (ht : ∀ b xs, H b = some (.tup xs) → H' b = some (.tup xs)) : ObjOk P w H' h' a o := by
  induction o with
  | lst xs => obtain ⟨z, its, n, r, e⟩ := x; exact ⟨z, its, n, r, k _ _ (.inl rfl) e⟩
  | tup xs => obtain ⟨z, its, r, ob, e, c⟩ := x; exact ⟨z, its, r, ob, k _ _ (.inl rfl) e, c⟩
  | dK kvs => obtain ⟨z, y, vs, r, ob, es, ep, e, c⟩ := x; exact ⟨z, y, vs, r, ob, es, ep, k _ _ (.inl rfl) e, c⟩
  | dT kvs =>
    obtain ⟨z, y, xs, r, ob, es, ep, e, c⟩ := x
    exact ⟨z, y, xs, Paired.mapP r fun p q z => ⟨z.1, ht _ _ z.2.1, z.2.2⟩, ob, es, ep, k _ _ (.inl rfl) e, c⟩
  | set S n => obtain ⟨ob, es, ep, t, e, c⟩ := x; exact ⟨ob, es, ep, t, k _ _ (.inl rfl) e, c⟩
  | ins C dx fs =>
    obtain ⟨d, z, ne, e, mA, ⟨od, es, ep, e2, c⟩, r⟩ := x
    exact ⟨ho _ d, z, ne, k _ _ (.inl rfl) e, mA, ⟨od, es, ep, k _ _ (.inr d) e2, c⟩, r⟩
  | own y => obtain ⟨ob, e⟩ := x; exact ⟨ob, k _ _ (.inl rfl) e⟩
  | xd fs => obtain ⟨mA, ⟨od, es, ep, e, c⟩, r⟩ := x; exact ⟨mA, ⟨od, es, ep, k _ _ (.inl rfl) e, c⟩, r⟩
  | rng lo hi => obtain ⟨t, u, v, e⟩ := x; exact ⟨t, u, v, k _ _ (.inl rfl) e⟩
  | frz ob u ih => obtain ⟨e, q⟩ := x; exact ⟨k _ _ (.inl rfl) e, ih q⟩
  | tbl ps =>
    have e : h.get? a = some { cls := .none, data := .fields ps } := x
    show h'.get? a = some { cls := .none, data := .fields ps }
    exact k a _ (.inl rfl) e
  | met f y =>
    have e : h.get? a = some (PySem.W.methodObj (.ref f) (.ref y)) := x
    show h'.get? a = some (PySem.W.methodObj (.ref f) (.ref y))
    exact k a _ (.inl rfl) e
  | ext φ => obtain ⟨p, ⟨o, e⟩, st⟩ := x; exact ⟨st _ _ p fun o q => k _ _ (.inl rfl) q, ⟨o, k _ _ (.inl rfl) e⟩, st⟩
theorem HOk.lt (x : HOk P w H h) (e : H a = some o) : a < h.objs.size := (x a o e).lt
theorem HOk.fresh (x : HOk P w H h) (e : h.objs.size ≤ a) : H a = none := by
  cases q : H a with
  | none => rfl
  | some u => exact absurd (Nat.lt_of_lt_of_le (x.lt q) e) (Nat.lt_irrefl _)
theorem HOk.kept (x : HOk P w H h) (k : ∀ b u, h.get? b = some u → h'.get? b = some u) : HOk P w H h' := fun a o e =>
  (x a o e).stay (fun b u _ q => k b u q) (fun _ q => q) fun _ _ q => q
theorem HOk.laid (x : HOk P w H h) (k : ∀ b u, h.get? b = some u → h'.get? b = some u) (hp : h.objs.size ≤ a) (new : ObjOk P w (upd H a o) h' a o) : HOk P w (upd H a o) h' := fun b u e => by
  have hn := x.fresh hp
  by_cases hb : b = a
  · subst hb; rw [qai] at e; cases e; exact new
  · rw [qaB hb] at e
    exact (x b u e).stay (fun c v _ q => k c v q) (fun c q => by rw [qaB (qaD q hn)]; exact q) fun c xs q => by rw [qaB (qaD q hn)]; exact q
end
noncomputable def Rd (H : Hp) (a : Addr) (u : HO) : Prop := H a = some u ∨ ∃ o, H a = some (.frz o u)
theorem Rd.of {H : Hp} {a : Addr} {u : HO} (h : H a = some u) : Rd H a u := .inl h
theorem Rd.ok {P : Program} {w : World} {H : Hp} {h : Heap} {a : Addr} {u : HO} (r : Rd H a u) (x : HOk P w H h) : ObjOk P w H h a u := by
  rcases r with r | ⟨o, r⟩
  · exact x a u r
  · obtain ⟨_, q⟩ := x a _ r
    exact q
noncomputable def Mut : Option HO → Prop
  | some (.lst _) => True
  | some (.dK _) => True
  | some (.dT _) => True
  | some (.set _ _) => True
  | some (.ins _ _ _) => True
  | some (.ext _) => True
  | _ => False
section
variable {P : Program} {w : World} {H : Hp} {h h' : Heap} {x e : Addr} {o' : HO}
theorem HOk.write (ok : HOk P w H h) (mu : Mut (H x)) (he : e = x ∨ H e = some (.own x)) (k : ∀ b u, b ≠ e → h.get? b = some u → h'.get? b = some u) (heo : ∃ u, h'.get? e = some u)
    (new : ObjOk P w (upd H x o') h' x o') : HOk P w (upd H x o') h' := fun b u q => by
  have nown : ∀ c y, H c = some (.own y) → c ≠ x := fun c y r z => by subst z; rw [r] at mu; exact mu
  have ntup : ∀ c xs, H c = some (.tup xs) → c ≠ x := fun c xs r z => by subst z; rw [r] at mu; exact mu
  by_cases hb : b = x
  · subst hb; rw [qai] at q; cases q; exact new
  · rw [qaB hb] at q
    by_cases hbe : b = e
    · have q' : H b = some (.own x) := by
        rcases he with z | z
        · exact absurd (hbe.trans z) hb
        · rw [hbe]; exact z
      rw [q] at q'; cases q'
      obtain ⟨v, hv⟩ := heo
      exact ⟨v, by rw [hbe]; exact hv⟩
    · refine (ok b u q).stay (fun c v hc r => k c v ?_ r) (fun c r => by rw [qaB (nown c b r)]; exact r) fun c xs r => by rw [qaB (ntup c xs r)]; exact r
      rcases hc with rfl | hc
      · exact hbe
      · rintro rfl
        rcases he with z | z
        · exact nown c b hc z
        · rw [hc] at z; cases z; exact hb rfl
end
structure Un (fs ex : List Addr) (H H' : Hp) (h h' : Heap) : Prop where
  keep : ∀ b o, h.get? b = some o → H b = none → b ∉ fs → b ∉ ex → h'.get? b = some o
  slot : ∀ b o, h.get? b = some o → H b = none → b ∈ fs → b ∉ ex → ∃ sl, h'.get? b = some { o with slots := sl }
  free : ∀ b o, h.get? b = some o → H b = none → b ∉ ex → H' b = none
  there : ∀ b o, h.get? b = some o → b ∉ ex → ∃ o', h'.get? b = some o'
  tups : ∀ b xs, H b = some (.tup xs) → H' b = some (.tup xs)
  frzs : ∀ b o u, H b = some (.frz o u) → H' b = some (.frz o u)
  tbls : ∀ b ps, H b = some (.tbl ps) → ∃ more, H' b = some (.tbl (ps ++ more))
section
variable {fs fs' ex ex' : List Addr} {H H1 H2 : Hp} {h h1 h2 h' : Heap} {a x e : Addr} {o : HO}
theorem Un.any (u : Un fs ex H H1 h h1) {b : Addr} {ob : Obj} (q : h.get? b = some ob) (n : H b = none) (hx : b ∉ ex) : ∃ sl, h1.get? b = some { ob with slots := sl } := by
  by_cases hb : b ∈ fs
  · exact u.slot b ob q n hb hx
  · exact ⟨ob.slots, u.keep b ob q n hb hx⟩
theorem Un.trans (a : Un fs ex H H1 h h1) (b : Un fs ex H1 H2 h1 h2) : Un fs ex H H2 h h2 where
  keep := fun c ob q n hc hx => b.keep c ob (a.keep c ob q n hc hx) (a.free c ob q n hx) hc hx
  slot := fun c ob q n hc hx => by
    obtain ⟨sl, e1⟩ := a.slot c ob q n hc hx
    obtain ⟨sl', e2⟩ := b.slot c _ e1 (a.free c ob q n hx) hc hx
    exact ⟨sl', e2⟩
  free := fun c ob q n hx => by
    obtain ⟨o', e1⟩ := a.there c ob q hx
    exact b.free c o' e1 (a.free c ob q n hx) hx
  there := fun c ob q hx => by
    obtain ⟨o', e1⟩ := a.there c ob q hx
    exact b.there c o' e1 hx
  tups := fun c xs q => b.tups c xs (a.tups c xs q)
  frzs := fun c ob xs q => b.frzs c ob xs (a.frzs c ob xs q)
  tbls := fun c ps q => by
    obtain ⟨m1, e1⟩ := a.tbls c ps q
    obtain ⟨m2, e2⟩ := b.tbls c _ e1
    exact ⟨m1 ++ m2, by rw [e2, Array.append_assoc]⟩
theorem Un.kept (k : ∀ b u, h.get? b = some u → h'.get? b = some u) : Un fs ex H H h h' :=
  ⟨fun b ob q _ _ _ => k b ob q, fun b ob q _ _ _ => ⟨ob.slots, k b ob q⟩, fun _ _ _ n _ => n, fun b ob q _ => ⟨ob, k b ob q⟩, fun _ _ q => q, fun _ _ _ q => q, fun _ ps q => ⟨#[], by rw [q]; simp⟩⟩
theorem Un.refl : Un fs ex H H h h := Un.kept fun _ _ q => q
theorem Un.laid (k : ∀ b u, h.get? b = some u → h'.get? b = some u) (hp : h.objs.size ≤ a) (hn : H a = none) : Un fs ex H (upd H a o) h h' where
  keep := fun b u q _ _ _ => k b u q
  slot := fun b u q _ _ _ => ⟨u.slots, k b u q⟩
  free := fun b u q n _ => by rw [qaB (Nat.ne_of_lt (Nat.lt_of_lt_of_le (Heap.lt_size q) hp))]; exact n
  there := fun b u q _ => ⟨u, k b u q⟩
  tups := fun b xs q => by rw [qaB (qaD q hn)]; exact q
  frzs := fun b u xs q => by rw [qaB (qaD q hn)]; exact q
  tbls := fun b ps q => ⟨#[], by rw [qaB (qaD q hn), q]; simp⟩
theorem Un.write (mu : Mut (H x)) (he : e = x ∨ H e = some (.own x)) (k : ∀ b u, b ≠ e → h.get? b = some u → h'.get? b = some u) (heo : ∃ u, h'.get? e = some u) : Un fs ex H (upd H x o) h h' := by
  have hx : ∀ b, H b = none → b ≠ x := fun b n z => by subst z; rw [n] at mu; exact mu
  have hb : ∀ b, H b = none → b ≠ e := fun b n z => by
    subst z
    rcases he with r | r
    · exact hx b n r
    · rw [n] at r; cases r
  have hm : ∀ b u, H b = some u → ¬ Mut (some u) → b ≠ x := fun b u q nm z => by subst z; rw [q] at mu; exact nm mu
  refine ⟨fun b u q n _ _ => k b u (hb b n) q, fun b u q n _ _ => ⟨u.slots, k b u (hb b n) q⟩, fun b u q n _ => by rw [qaB (hx b n)]; exact n, fun b u q _ => ?_,
    fun b xs q => by rw [qaB (hm b _ q fun z => z)]; exact q, fun b u xs q => by rw [qaB (hm b _ q fun z => z)]; exact q, fun b ps q => ⟨#[], by rw [qaB (hm b _ q fun z => z), q]; simp⟩⟩
  by_cases hbe : b = e
  · subst hbe; exact heo
  · exact ⟨u, k b u hbe q⟩
theorem Un.mono (u : Un fs ex H H1 h h1) (hs : ∀ b ∈ fs, b ∈ fs') (hx : ∀ b ∈ ex, b ∈ ex') : Un fs' ex' H H1 h h1 :=
  ⟨fun b ob q n hb he => u.keep b ob q n (fun z => hb (hs b z)) fun z => he (hx b z), fun _ _ q n _ he => u.any q n fun z => he (hx _ z), fun b ob q n he => u.free b ob q n fun z => he (hx b z), fun b ob q he => u.there b ob q fun z => he (hx b z), u.tups, u.frzs, u.tbls⟩
end
noncomputable def trk (h : Heap) (H : Hp) : List Addr := (List.range h.objs.size).filter fun a => (H a).isSome
noncomputable def qnH (h : Heap) (H : Hp) : Heap := PySem.W.hideAll h (trk h H)
theorem qlK (h : Heap) (H : Hp) : (qnH h H).objs.size = h.objs.size := PySem.W.hideAll_size _ _
theorem qnJ {h : Heap} {H : Hp} {b : Addr} {o : Obj} (e : h.get? b = some o) (n : H b = none) : (qnH h H).get? b = some o :=
  PySem.W.hideAll_get _ e fun hm => by
    have q : (H b).isSome = true := (List.mem_filter.mp hm).2
    rw [n] at q; simp at q
theorem qo0 {h : Heap} {H : Hp} {b : Addr} {o : Obj} (e : (qnH h H).get? b = some o) : h.get? b = some o ∧ H b = none := by
  have e' : h.get? b = some o := PySem.W.of_hideAll (trk h H) e
  refine ⟨e', ?_⟩
  cases q : H b with
  | none => rfl
  | some x =>
    have hm : b ∈ trk h H := List.mem_filter.mpr ⟨List.mem_range.mpr (Heap.lt_size e'), by simp [q]⟩
    have z : (qnH h H).get? b = none := PySem.W.hideAll_none (trk h H) hm
    rw [z] at e; cases e
noncomputable def qo1 (g h : Heap) (L : Addr) : List (Addr × Obj) := (List.range h.objs.size).filterMap fun a => if a = L ∨ (g.get? a).isSome = true then none else (h.get? a).map fun o => (a, o)
noncomputable def rest (g h : Heap) (L d : Addr) : List (Addr × Obj) := (qo1 g h L).filter fun p => decide (p.1 ≠ d)
end L2
namespace L2
open PySem PySem.Spec PyProof.Rows
structure Mod (K : PySem.W.Frag) (mg : Str → Option Value) (base : Heap) : Prop where
  kin : K.In base
  glob : base.Ns mainGlobals mg
  blt : ∃ mb, base.Ns builtinsNs mb ∧ ∀ x : Str, x ≠ "__name__" → mb x = bootBuiltins x
  nolimit : base.NoLimit
structure Cx where
  prog : Program
  w : World
  K : PySem.W.Frag
  mg : Str → Option Value
  base : Heap
  A : Around
  N : List Str
  s₀ : Shared
  H₀ : Hp
  env : Env
  outer : List Env
  stack : List Env
  ex : List Addr
  fn : Str → Bool
  calm : Bool
  pn : List (Addr × Obj)
  xe : Value → Shared → Prop
noncomputable def frs (l : List Env) : List Addr := l.filterMap (·.frame)
noncomputable abbrev Cx.fs (X : Cx) : List Addr := frs X.outer
noncomputable def Vis (sc : Scope) (x : Str) : Prop := sc.names.lookup x = some .local ∨ sc.names.lookup x = some .cell ∨ sc.names.lookup x = some .free
noncomputable def Loc (sc : Scope) (x : Str) : Prop := sc.names.lookup x = some .local ∨ sc.names.lookup x = some .cell
noncomputable def Look (env : Env) (h : Heap) (m : Str → Option Value) (x : Str) (u : Value) : Prop :=
  (env.kindOf x = some .local ∧ m x = some u) ∨ ((env.kindOf x = some .cell ∨ env.kindOf x = some .free) ∧ ∃ c, env.cells.lookup x = some c ∧ h.IsCell c (some u))
structure Cx.Ok (X : Cx) : Prop where
  mod : Mod X.K X.mg X.base
  kind : X.env.scope.kind = .function
  glob : X.env.globals = mainGlobals
  blt : X.env.builtins = builtinsNs
  above : X.s₀.heap.objs.size ≤ X.env.locals
  inj : ∀ x y c, X.env.cells.lookup x = some c → X.env.cells.lookup y = some c → x = y
  has : ∀ x, (X.env.kindOf x = some .cell ∨ X.env.kindOf x = some .free) → ∃ c, X.env.cells.lookup x = some c
  cab : ∀ x c, X.fn x = true → X.env.cells.lookup x = some c → X.s₀.heap.objs.size ≤ c
  hd : X.calm = true → X.A.handled = none
  frames : X.A.frames = some X.stack
  stk : X.stack = X.outer ∨ (X.stack = X.env :: X.outer ∧ X.env.frame = some X.env.locals)
  exf : ∀ b ∈ X.ex, b ≠ X.env.locals ∧ ∀ x c, X.env.cells.lookup x = some c → c ≠ b
  bs : ∀ b o, X.base.get? b = some o → X.s₀.heap.get? b = some o ∧ X.H₀ b = none
  bsz : X.base.objs.size ≤ X.s₀.heap.objs.size
  noex : ∀ b o, X.base.get? b = some o → b ∉ X.ex
  exfs : ∀ b ∈ X.ex, b ∉ X.fs
  funs : X.s₀.heap.FunFrames X.base X.outer
  frf : ∀ b ∈ X.fs, X.H₀ b = none
  seer : X.base.NoSeer
  tree : (model X.prog X.w).prog.given.tree = none
  plr : ∀ s : Shared, (∀ b o, X.base.get? b = some o → s.heap.get? b = some o) → PySem.PylongRoom (model X.prog X.w) X.A s
structure Inv (X : Cx) (pins : List (Addr × Obj)) (σ : List (Option V)) (H : Hp) (s : Shared) : Prop where
  ok : X.Ok
  os : s.os = X.s₀.os
  bare : AllBare s.gens
  base : Un X.fs X.ex X.H₀ H X.s₀.heap s.heap
  loc : ∃ m, s.heap.Ns X.env.locals m ∧ ∀ (i : Nat) (x : Str) (v : V), X.N[i]? = some x → σ[i]? = some (some v) → Vis X.env.scope x → ∃ u, RelV v u ∧ Look X.env s.heap m x u
  cell : ∀ x c, X.env.cells.lookup x = some c → ∃ v, s.heap.IsCell c v
  free : H X.env.locals = none
  freeC : ∀ x c, X.env.cells.lookup x = some c → H c = none
  pin : ∀ p ∈ X.pn ++ pins, s.heap.get? p.1 = some p.2 ∧ H p.1 = none ∧ p.1 ≠ X.env.locals ∧ p.1 ∉ X.fs ∧ ∀ v, p.2.data ≠ .cell v
  hok : HOk X.prog X.w H s.heap
  len : σ.length = X.N.length
section
variable {X : Cx} {pins : List (Addr × Obj)} {σ : List (Option V)} {H H' : Hp} {s : Shared} {h' : Heap}
theorem Cx.Ok.nofr (ok : X.Ok) {b : Addr} {o : Obj} (e : X.base.get? b = some o) : b ∉ X.fs := fun hb => by
  have := (ok.funs.mem hb).1
  rw [e] at this; cases this
theorem Inv.bs (I : Inv X pins σ H s) : ∀ b o, X.base.get? b = some o → s.heap.get? b = some o ∧ H b = none := fun b o e =>
  ⟨I.base.keep b o (I.ok.bs b o e).1 (I.ok.bs b o e).2 (I.ok.nofr e) (I.ok.noex b o e), I.base.free b o (I.ok.bs b o e).1 (I.ok.bs b o e).2 (I.ok.noex b o e)⟩
theorem Inv.bk (I : Inv X pins σ H s) : ∀ b o, X.base.get? b = some o → s.heap.get? b = some o := fun b o e => (I.bs b o e).1
theorem Inv.mod (I : Inv X pins σ H s) : Mod X.K X.mg X.base := I.ok.mod
theorem Inv.kIn (I : Inv X pins σ H s) : X.K.In s.heap := I.ok.mod.kin.keeps I.bk
theorem Inv.nolimit (I : Inv X pins σ H s) : s.heap.NoLimit := I.ok.mod.nolimit.keeps I.bk
theorem Inv.lt (I : Inv X pins σ H s) : X.env.locals < s.heap.objs.size := let ⟨_, hn, _⟩ := I.loc; hn.lt
theorem Inv.sz (I : Inv X pins σ H s) : X.s₀.heap.objs.size ≤ s.heap.objs.size := Nat.le_trans I.ok.above (Nat.le_of_lt I.lt)
theorem Inv.nofs (I : Inv X pins σ H s) {a : Addr} (h : s.heap.objs.size ≤ a) : a ∉ X.fs := fun hb => by
  obtain ⟨_, o, ho, _⟩ := I.ok.funs.mem hb
  exact absurd (Nat.lt_of_lt_of_le (Heap.lt_size ho) (Nat.le_trans I.sz h)) (Nat.lt_irrefl _)
theorem Inv.cne (I : Inv X pins σ H s) : ∀ x c, X.env.cells.lookup x = some c → c ≠ X.env.locals := fun x c e z => by
  obtain ⟨v, o, ho, hd⟩ := I.cell x c e
  obtain ⟨m, ⟨o', es, ep, ho', hd', _⟩, _⟩ := I.loc
  rw [z, ho'] at ho; cases ho; rw [hd'] at hd; cases hd
theorem Inv.funs (I : Inv X pins σ H s) : s.heap.FunFrames X.base X.outer := by
  have all : ∀ (l : List Env), (∀ b ∈ frs l, b ∈ X.fs) → X.s₀.heap.FunFrames X.base l → s.heap.FunFrames X.base l := by
    intro l
    induction l with
    | nil => intro _ _; trivial
    | cons env r ih =>
      intro hs hl
      obtain ⟨hk, ⟨L, o, hf, hn, ho, hd⟩, hr⟩ := hl
      have hL : L ∈ X.fs := hs L (by unfold frs; rw [List.filterMap_cons, hf]; exact List.mem_cons_self)
      obtain ⟨sl, e⟩ := I.base.slot L o ho (I.ok.frf L hL) hL fun z => I.ok.exfs L z hL
      exact ⟨hk, ⟨L, _, hf, hn, e, hd⟩, ih (fun b hb => hs b (by unfold frs; rw [List.filterMap_cons, hf]; exact List.mem_cons_of_mem _ hb)) hr⟩
  exact all X.outer (fun _ hb => hb) I.ok.funs
theorem Inv.stack (I : Inv X pins σ H s) : s.heap.FunFrames X.base X.stack := by
  rcases I.ok.stk with e | ⟨e, hf⟩
  · rw [e]; exact I.funs
  · rw [e]
    obtain ⟨m, hn, _⟩ := I.loc
    refine .cons (by rw [I.ok.kind]; decide) hf hn ?_ I.funs
    exact Heap.get?_none_of_le (Nat.le_trans I.ok.bsz I.ok.above)
theorem Inv.stkSub (I : Inv X pins σ H s) : ∀ b ∈ frs X.stack, b ∈ X.env.locals :: X.fs := fun b hb => by
  rcases I.ok.stk with e | ⟨e, hf⟩
  · rw [e] at hb; exact List.mem_cons_of_mem _ hb
  · rw [e] at hb
    unfold frs at hb
    rw [List.filterMap_cons, hf] at hb
    exact hb
theorem Inv.stkFree (I : Inv X pins σ H s) : ∀ b ∈ frs X.stack, H b = none := fun b hb => by
  rcases List.mem_cons.mp (I.stkSub b hb) with e | hb
  · rw [e]; exact I.free
  · obtain ⟨_, o, ho, _⟩ := I.ok.funs.mem hb
    exact I.base.free b o ho (I.ok.frf b hb) fun z => I.ok.exfs b z hb
theorem Inv.step {g' : Array GenState} {t' : Nat} {d' : Drawn} {ch : List Addr} (I : Inv X pins σ H s)
    (hch : ∀ b ∈ ch, (b ∈ X.ex ∨ X.s₀.heap.objs.size ≤ b) ∧ b ≠ X.env.locals ∧ (∀ x c, X.env.cells.lookup x = some c → c ≠ b) ∧ ∀ p ∈ X.pn ++ pins, p.1 ≠ b)
    (keep : ∀ b o, b ≠ X.env.locals → b ∉ X.fs → b ∉ ch → s.heap.get? b = some o → H b = none → h'.get? b = some o)
    (slot : ∀ b o, b ≠ X.env.locals → b ∈ X.fs → b ∉ ch → s.heap.get? b = some o → H b = none → ∃ sl, h'.get? b = some { o with slots := sl }) (free : ∀ b o, b ∉ ch → s.heap.get? b = some o → H b = none → H' b = none)
    (there : ∀ b o, b ∉ ch → s.heap.get? b = some o → ∃ o', h'.get? b = some o')
    (tups : ∀ b xs, H b = some (.tup xs) → H' b = some (.tup xs)) (frzs : ∀ b o u, H b = some (.frz o u) → H' b = some (.frz o u)) (tbls : ∀ b ps, H b = some (.tbl ps) → ∃ more, H' b = some (.tbl (ps ++ more)))
    (ns : ∀ m, s.heap.Ns X.env.locals m → h'.Ns X.env.locals m) (hok : HOk X.prog X.w H' h') (hg : AllBare g') :
    Inv X pins σ H' { s with heap := h', gens := g', drawn := d', toks := t' } := by
  have neL : ∀ b o, X.s₀.heap.get? b = some o → b ≠ X.env.locals := fun b o e => Nat.ne_of_lt (Nat.lt_of_lt_of_le (Heap.lt_size e) I.ok.above)
  have neC : ∀ b o, X.s₀.heap.get? b = some o → b ∉ X.ex → b ∉ ch := fun b o e hx hb => by
    rcases (hch b hb).1 with z | z
    · exact hx z
    · exact absurd (Nat.lt_of_lt_of_le (Heap.lt_size e) z) (Nat.lt_irrefl _)
  have cellK : ∀ x c, X.env.cells.lookup x = some c → ∀ v, s.heap.IsCell c v → h'.IsCell c v := fun x c e v ⟨o, ho, hd⟩ => by
    have nch : c ∉ ch := fun z => (hch c z).2.2.1 x c e rfl
    by_cases hc : c ∈ X.fs
    · obtain ⟨sl, q⟩ := slot c o (I.cne x c e) hc nch ho (I.freeC x c e)
      exact ⟨_, q, hd⟩
    · exact ⟨o, keep c o (I.cne x c e) hc nch ho (I.freeC x c e), hd⟩
  refine ⟨I.ok, I.os, hg, ⟨fun b o e n hb hx => ?_, fun b o e n hb hx => ?_, fun b o e n hx => ?_, fun b o e hx => ?_, fun b xs e => tups b xs (I.base.tups b xs e), fun b o xs e => frzs b o xs (I.base.frzs b o xs e), fun b ps e => ?_⟩, ?_, fun x c e => ?_, ?_, fun x c e => ?_, fun p hp => ?_, hok, I.len⟩
  · exact keep b o (neL b o e) hb (neC b o e hx) (I.base.keep b o e n hb hx) (I.base.free b o e n hx)
  · obtain ⟨sl, e1⟩ := I.base.slot b o e n hb hx
    obtain ⟨sl', e2⟩ := slot b _ (neL b o e) hb (neC b o e hx) e1 (I.base.free b o e n hx)
    exact ⟨sl', e2⟩
  · obtain ⟨o', e1⟩ := I.base.there b o e hx
    exact free b o' (neC b o e hx) e1 (I.base.free b o e n hx)
  · obtain ⟨o', e1⟩ := I.base.there b o e hx
    exact there b o' (neC b o e hx) e1
  · obtain ⟨m1, e1⟩ := I.base.tbls b ps e
    obtain ⟨m2, e2⟩ := tbls b _ e1
    exact ⟨m1 ++ m2, by rw [e2, Array.append_assoc]⟩
  · obtain ⟨m, hn, hl⟩ := I.loc
    refine ⟨m, ns m hn, fun i x v e1 e2 e3 => ?_⟩
    obtain ⟨u, r, l⟩ := hl i x v e1 e2 e3
    refine ⟨u, r, ?_⟩
    rcases l with l | ⟨k, c, e, z⟩
    · exact .inl l
    · exact .inr ⟨k, c, e, cellK x c e _ z⟩
  · obtain ⟨v, z⟩ := I.cell x c e
    exact ⟨v, cellK x c e v z⟩
  · obtain ⟨m, ⟨o, _, _, ho, _⟩, _⟩ := I.loc
    exact free _ o (fun z => (hch _ z).2.1 rfl) ho I.free
  · obtain ⟨v, o, ho, hd⟩ := I.cell x c e
    exact free c o (fun z => (hch c z).2.2.1 x c e rfl) ho (I.freeC x c e)
  · obtain ⟨e, n, ne, nf, d⟩ := I.pin p hp
    have nch : p.1 ∉ ch := fun z => (hch p.1 z).2.2.2 p hp rfl
    exact ⟨keep p.1 p.2 ne nf nch e n, free p.1 p.2 nch e n, ne, nf, d⟩
theorem Inv.un {t' : Nat} (I : Inv X pins σ H s) (u : Un X.fs [] H H' s.heap h') (hok : HOk X.prog X.w H' h') : Inv X pins σ H' { s with heap := h', toks := t' } := by
  obtain ⟨m, ⟨o, es, ep, ho, r⟩, _⟩ := id I.loc
  obtain ⟨sl, hL⟩ := u.any ho I.free (by simp)
  exact I.step (g' := s.gens) (d' := s.drawn) (ch := []) (fun _ z => nomatch z) (fun b o _ hb _ e n => u.keep b o e n hb (by simp)) (fun b o _ hb _ e n => u.slot b o e n hb (by simp)) (fun b o _ e n => u.free b o e n (by simp)) (fun b o _ e => u.there b o e (by simp)) u.tups u.frzs u.tbls (fun m' hm => by
    obtain ⟨o', es', ep', ho', r'⟩ := hm
    rw [ho] at ho'; cases ho'
    exact ⟨_, es', ep', hL, r'⟩) hok I.bare
theorem Inv.call {g' : Array GenState} {t' : Nat} {d' : Drawn} {ch : List Addr} (I : Inv X pins σ H s) (u : Un (frs X.stack) ch H H' s.heap h') (hok : HOk X.prog X.w H' h') (hg : AllBare g')
    (hch : ∀ b ∈ ch, (b ∈ X.ex ∨ X.s₀.heap.objs.size ≤ b) ∧ b ≠ X.env.locals ∧ (∀ x c, X.env.cells.lookup x = some c → c ≠ b) ∧ ∀ p ∈ X.pn ++ pins, p.1 ≠ b) :
    Inv X pins σ H' { s with heap := h', gens := g', drawn := d', toks := t' } := by
  obtain ⟨m, ⟨o, es, ep, ho, r⟩, _⟩ := id I.loc
  obtain ⟨sl, hL⟩ := u.any ho I.free fun z => (hch _ z).2.1 rfl
  exact I.step (ch := ch) hch (fun b o hL hb hc e n => u.keep b o e n (fun z => (List.mem_cons.mp (I.stkSub b z)).elim hL hb) hc) (fun b o _ _ hc e n => u.any e n hc) (fun b o hc e n => u.free b o e n hc) (fun b o hc e => u.there b o e hc) u.tups u.frzs u.tbls (fun m' hm => by
    obtain ⟨o', es', ep', ho', r'⟩ := hm
    rw [ho] at ho'; cases ho'
    exact ⟨_, es', ep', hL, r'⟩) hok hg
theorem Inv.turned {t' : Nat} {it : Addr} (I : Inv X pins σ H s) (k : ∀ b o, b ≠ it → s.heap.get? b = some o → h'.get? b = some o) (hn : H it = none) (hL : it ≠ X.env.locals)
    (h1 : it ∈ X.ex ∨ X.s₀.heap.objs.size ≤ it) (h2 : ∀ x c, X.env.cells.lookup x = some c → c ≠ it) (h3 : ∀ p ∈ X.pn ++ pins, p.1 ≠ it) : Inv X pins σ H { s with heap := h', toks := t' } := by
  have nit : ∀ b u, H b = some u → b ≠ it := fun b u e z => by rw [z, hn] at e; cases e
  refine I.step (g' := s.gens) (d' := s.drawn) (ch := [it]) (fun b hb => ?_) (fun b o _ _ hc e _ => k b o (fun z => hc (by simp [z])) e) (fun b o _ _ hc e _ => ⟨o.slots, k b o (fun z => hc (by simp [z])) e⟩) (fun _ _ _ _ n => n)
    (fun b o hc e => ⟨o, k b o (fun z => hc (by simp [z])) e⟩) (fun _ _ e => e) (fun _ _ _ e => e) (fun b ps e => ⟨#[], by rw [e]; simp⟩) (fun m hm => ?_) (fun b u e => ?_) I.bare
  · have e : b = it := by simpa using hb
    subst e
    exact ⟨h1, hL, h2, h3⟩
  · obtain ⟨o, es, ep, ho, r⟩ := hm
    exact ⟨o, es, ep, k _ o (Ne.symm hL) ho, r⟩
  · refine (I.hok b u e).stay (fun c v hc q => k c v ?_ q) (fun _ q => q) fun _ _ q => q
    rcases hc with z | z
    · rw [z]; exact nit b u e
    · exact nit c _ z
theorem Inv.tok (I : Inv X pins σ H s) (t : Nat) : Inv X pins σ H { s with toks := t } := I.un (h' := s.heap) (t' := t) Un.refl I.hok
theorem Inv.kept {t' : Nat} (I : Inv X pins σ H s) (k : ∀ b u, s.heap.get? b = some u → h'.get? b = some u) : Inv X pins σ H { s with heap := h', toks := t' } := I.un (Un.kept k) (I.hok.kept k)
theorem Inv.laid {a : Addr} {o : HO} {t' : Nat} (I : Inv X pins σ H s) (k : ∀ b u, s.heap.get? b = some u → h'.get? b = some u) (hp : s.heap.objs.size ≤ a) (new : ObjOk X.prog X.w (upd H a o) h' a o) :
    Inv X pins σ (upd H a o) { s with heap := h', toks := t' } := I.un (Un.laid k hp (I.hok.fresh hp)) (I.hok.laid k hp new)
theorem Inv.write {x e : Addr} {o : HO} {t' : Nat} (I : Inv X pins σ H s) (mu : Mut (H x)) (he : e = x ∨ H e = some (.own x)) (k : ∀ b u, b ≠ e → s.heap.get? b = some u → h'.get? b = some u) (heo : ∃ u, h'.get? e = some u)
    (new : ObjOk X.prog X.w (upd H x o) h' x o) : Inv X pins σ (upd H x o) { s with heap := h', toks := t' } := I.un (Un.write mu he k heo) (I.hok.write mu he k heo new)
theorem Inv.pins_of {pins' : List (Addr × Obj)} (I : Inv X pins σ H s) (h : ∀ p ∈ pins', s.heap.get? p.1 = some p.2 ∧ H p.1 = none ∧ p.1 ≠ X.env.locals ∧ p.1 ∉ X.fs ∧ ∀ v, p.2.data ≠ .cell v) : Inv X pins' σ H s :=
  ⟨I.ok, I.os, I.bare, I.base, I.loc, I.cell, I.free, I.freeC, fun p hp => (List.mem_append.mp hp).elim (fun z => I.pin p (List.mem_append_left _ z)) (h p), I.hok, I.len⟩
theorem qkr {N : List Str} (hN : N.Nodup) {i j : Nat} {x : Str} (a : N[i]? = some x) (b : N[j]? = some x) : i = j := by
  obtain ⟨h1, e1⟩ := List.getElem?_eq_some_iff.mp a
  obtain ⟨h2, e2⟩ := List.getElem?_eq_some_iff.mp b
  exact (List.getElem_inj hN).mp (e1.trans e2.symm)
theorem qiX {M : Model} {A : Around} {E : Value → Shared → Prop} {i : Nat} {x : Str} {v : V} {u : Value} {Q : Unit → Shared → Prop} (I : Inv X pins σ H s) (hN : X.N.Nodup) (hi : X.N[i]? = some x) (hx : Loc X.env.scope x) (r : RelV v u)
    (h : ∀ s', Inv X pins (σ.set i (some v)) H s' → (∃ a, Heap.SameBut a s.heap s'.heap ∧ (a = X.env.locals ∨ X.env.cells.lookup x = some a)) → Q () s') (hf : X.fn x = true ∨ X.env.scope.names.lookup x = some .local := by first | exact .inl rfl | exact .inr rfl | assumption) : wpAny M A (storeName X.env x u) Q E s := by
  obtain ⟨m, hn, hl⟩ := id I.loc
  have hcls : (X.env.scope.kind == .class || (X.env.scope.kind == .module && X.env.locals != X.env.globals)) = false := by rw [I.ok.kind]; rfl
  have hiσ : i < σ.length := by rw [I.len]; exact (List.getElem?_eq_some_iff.mp hi).1
  have cne := I.cne
  have tracked : ∀ {a : Addr} {h' : Heap}, (∃ o, s.heap.get? a = some o ∧ H a = none) → Heap.SameBut a s.heap h' → HOk X.prog X.w H h' := fun {a h'} ha hs b ob e => by
    obtain ⟨_, _, hfree⟩ := ha
    refine (I.hok b ob e).stay (fun c w' hc q => (hs.2 c ?_).trans q) (fun _ q => q) fun _ _ q => q
    rintro rfl
    rcases hc with rfl | hc
    · rw [hfree] at e; cases e
    · rw [hfree] at hc; cases hc
  rcases hx with hk | hk
  · refine wpAny_storeName_local hk hn (fun h' hn' hs => ?_) hcls
    obtain ⟨oL, _, _, hoL, _⟩ := id hn
    refine h _ ⟨I.ok, I.os, I.bare, ⟨fun b o e n hb hx => ?_, fun b o e n hb hx => ?_, I.base.free, fun b o e hx => ?_, I.base.tups, I.base.frzs, I.base.tbls⟩, ⟨_, hn', fun j y v' e1 e2 e3 => ?_⟩, fun y c e => ?_, I.free, I.freeC, fun p hp => ?_, tracked ⟨oL, hoL, I.free⟩ hs, by simpa using I.len⟩ ⟨_, hs, .inl rfl⟩
    · exact (hs.2 b (Nat.ne_of_lt (Nat.lt_of_lt_of_le (Heap.lt_size e) I.ok.above))).trans (I.base.keep b o e n hb hx)
    · obtain ⟨sl, e1⟩ := I.base.slot b o e n hb hx
      exact ⟨sl, (hs.2 b (Nat.ne_of_lt (Nat.lt_of_lt_of_le (Heap.lt_size e) I.ok.above))).trans e1⟩
    · obtain ⟨o', e1⟩ := I.base.there b o e hx
      exact ⟨o', (hs.2 b (Nat.ne_of_lt (Nat.lt_of_lt_of_le (Heap.lt_size e) I.ok.above))).trans e1⟩
    · by_cases hj : j = i
      · subst hj
        rw [hi] at e1; cases e1
        rw [List.getElem?_set_self hiσ] at e2
        cases e2
        exact ⟨u, r, .inl ⟨hk, by simp⟩⟩
      · rw [List.getElem?_set_ne (Ne.symm hj)] at e2
        obtain ⟨u', r', q⟩ := hl j y v' e1 e2 e3
        refine ⟨u', r', ?_⟩
        rcases q with ⟨k, e⟩ | ⟨k, c, e, z⟩
        · refine .inl ⟨k, ?_⟩
          have : y ≠ x := fun e => hj (qkr hN e1 (e ▸ hi))
          simp [this, e]
        · exact .inr ⟨k, c, e, z.sameBut hs (cne y c e)⟩
    · obtain ⟨w', z⟩ := I.cell y c e
      exact ⟨w', z.sameBut hs (cne y c e)⟩
    · obtain ⟨e, n, ne, nf, d⟩ := I.pin p hp
      exact ⟨(hs.2 p.1 ne).trans e, n, ne, nf, d⟩
  · have hfn : X.fn x = true := by
      rcases hf with z | z
      · exact z
      · rw [z] at hk; cases hk
    obtain ⟨c, hc⟩ := I.ok.has x (.inl hk)
    obtain ⟨w', z⟩ := I.cell x c hc
    refine wpAny_storeName_cell I.ok.kind hk hc z (fun h' hc' hs => ?_)
    obtain ⟨oc, hoc, hocd⟩ := id z
    refine h { s with heap := h' } ⟨I.ok, I.os, I.bare, ⟨fun b o e n hb hx => ?_, fun b o e n hb hx => ?_, I.base.free, fun b o e hx => ?_, I.base.tups, I.base.frzs, I.base.tbls⟩, ⟨m, hn.sameBut hs (Ne.symm (cne x c hc)), fun j y v' e1 e2 e3 => ?_⟩, fun y c' e => ?_, I.free, I.freeC, fun p hp => ?_, tracked ⟨oc, hoc, I.freeC x c hc⟩ hs, by simpa using I.len⟩ ⟨c, hs, .inr hc⟩
    · exact (hs.2 b (Nat.ne_of_lt (Nat.lt_of_lt_of_le (Heap.lt_size e) (I.ok.cab x c hfn hc)))).trans (I.base.keep b o e n hb hx)
    · obtain ⟨sl, e1⟩ := I.base.slot b o e n hb hx
      exact ⟨sl, (hs.2 b (Nat.ne_of_lt (Nat.lt_of_lt_of_le (Heap.lt_size e) (I.ok.cab x c hfn hc)))).trans e1⟩
    · obtain ⟨o', e1⟩ := I.base.there b o e hx
      exact ⟨o', (hs.2 b (Nat.ne_of_lt (Nat.lt_of_lt_of_le (Heap.lt_size e) (I.ok.cab x c hfn hc)))).trans e1⟩
    · by_cases hj : j = i
      · subst hj
        rw [hi] at e1; cases e1
        rw [List.getElem?_set_self hiσ] at e2
        cases e2
        exact ⟨u, r, .inr ⟨.inl hk, c, hc, hc'⟩⟩
      · rw [List.getElem?_set_ne (Ne.symm hj)] at e2
        obtain ⟨u', r', q⟩ := hl j y v' e1 e2 e3
        refine ⟨u', r', ?_⟩
        rcases q with q | ⟨k, c', e, z'⟩
        · exact .inl q
        · refine .inr ⟨k, c', e, z'.sameBut hs ?_⟩
          rintro rfl
          exact hj (qkr hN e1 (I.ok.inj _ _ _ e hc ▸ hi))
    · by_cases hcc : c' = c
      · subst hcc; exact ⟨_, hc'⟩
      · obtain ⟨w2, z2⟩ := I.cell y c' e
        exact ⟨w2, z2.sameBut hs hcc⟩
    · obtain ⟨e, n, ne, nf, d⟩ := I.pin p hp
      refine ⟨(hs.2 p.1 ?_).trans e, n, ne, nf, d⟩
      intro q
      rw [q, hoc] at e
      have q' : oc = p.2 := Option.some.inj e
      exact d w' (by rw [← q']; exact hocd)
theorem qeV {M : Model} {A : Around} {E : Value → Shared → Prop} {i : Nat} {x : Str} {v : V} {u : Value} {Q : Unit → Shared → Prop} (I : Inv X pins σ H s) (hN : X.N.Nodup) (hi : X.N[i]? = some x) (hx : Loc X.env.scope x) (r : RelV v u)
    (h : ∀ s', Inv X pins (σ.set i (some v)) H s' → Q () s') (hf : X.fn x = true ∨ X.env.scope.names.lookup x = some .local := by first | exact .inl rfl | exact .inr rfl | assumption) : wpAny M A (storeName X.env x u) Q E s :=
  qiX I hN hi hx r (fun s' I' _ => h s' I') hf
theorem Inv.call' {s' : Shared} {ch : List Addr} (I : Inv X pins σ H s) (ho : s'.os = s.os) (u : Un (frs X.stack) ch H H' s.heap s'.heap) (hok : HOk X.prog X.w H' s'.heap) (hg : AllBare s'.gens)
    (hch : ∀ b ∈ ch, (b ∈ X.ex ∨ X.s₀.heap.objs.size ≤ b) ∧ b ≠ X.env.locals ∧ (∀ x c, X.env.cells.lookup x = some c → c ≠ b) ∧ ∀ p ∈ X.pn ++ pins, p.1 ≠ b) : Inv X pins σ H' s' := by
  obtain ⟨h', g', d', t', o'⟩ := s'
  have e : o' = s.os := ho
  subst e
  exact I.call (g' := g') (t' := t') (d' := d') u hok hg hch
end
noncomputable abbrev XK := Value → Option Addr → Hp → Prop
noncomputable abbrev St := List (Option V)
noncomputable abbrev VK := V → Hp → Prop
noncomputable abbrev TE := St → Hp → VK → Prop
noncomputable abbrev TT := St → Hp → (Bool → Hp → Prop) → Prop
noncomputable abbrev TA := St → Hp → (List V → Hp → Prop) → Prop
structure Ends where
  nx : St → Hp → Prop
  rt : VK
  bk : St → Hp → Prop := fun _ _ => False
  ct : St → Hp → Prop := fun _ _ => False
noncomputable abbrev TS := Ends → St → Hp → Prop
noncomputable def EP (X : Cx) (pins : List (Addr × Obj)) (σ : St) (Q : VK) (u : Value) (s' : Shared) : Prop := ∃ v H', Inv X pins σ H' s' ∧ RelV v u ∧ Q v H'
noncomputable def TP (X : Cx) (pins : List (Addr × Obj)) (σ : St) (Q : Bool → Hp → Prop) (b : Bool) (s' : Shared) : Prop := ∃ H', Inv X pins σ H' s' ∧ Q b H'
noncomputable def AP (X : Cx) (pins : List (Addr × Obj)) (σ : St) (Q : List V → Hp → Prop) (us : List Value) (s' : Shared) : Prop := ∃ vs H', Inv X pins σ H' s' ∧ Vals vs us ∧ Q vs H'
noncomputable def SP (X : Cx) (pins : List (Addr × Obj)) (D : Ends) (f : Flow) (s' : Shared) : Prop :=
  match f with
  | .next => ∃ σ' H', Inv X pins σ' H' s' ∧ D.nx σ' H'
  | .brk => ∃ σ' H', Inv X pins σ' H' s' ∧ D.bk σ' H'
  | .cont => ∃ σ' H', Inv X pins σ' H' s' ∧ D.ct σ' H'
  | .ret u => ∃ v σ' H', Inv X pins σ' H' s' ∧ RelV v u ∧ D.rt v H'
noncomputable def PE (X : Cx) (e : Expr) (t : TE) : Prop :=
  ∀ (pins : List (Addr × Obj)) (s : Shared) (σ : St) (H : Hp) (Q : VK), Inv X pins σ H s → t σ H Q → wpAny (model X.prog X.w) X.A (eval e X.env) (EP X pins σ Q) X.xe s
noncomputable def PT (X : Cx) (e : Expr) (t : TT) : Prop :=
  ∀ (pins : List (Addr × Obj)) (s : Shared) (σ : St) (H : Hp) (Q : Bool → Hp → Prop), Inv X pins σ H s → t σ H Q → wpAny (model X.prog X.w) X.A (isTrue e X.env (eval e X.env)) (TP X pins σ Q) X.xe s
noncomputable def PW (X : Cx) (e : Expr) (t : TT) : Prop :=
  ∀ (whole : Sem Value) (pins : List (Addr × Obj)) (s : Shared) (σ : St) (H : Hp) (Q : Bool → Hp → Prop), Inv X pins σ H s → t σ H Q → wpAny (model X.prog X.w) X.A (isTrue e X.env whole) (TP X pins σ Q) X.xe s
theorem PW.pt {X : Cx} {e : Expr} {t : TT} (h : PW X e t) : PT X e t := h _
noncomputable def PA (X : Cx) (es : List Expr) (t : TA) : Prop :=
  ∀ (pos : Pos) (pins : List (Addr × Obj)) (s : Shared) (σ : St) (H : Hp) (Q : List V → Hp → Prop), Inv X pins σ H s → t σ H Q → wpAny (model X.prog X.w) X.A (spliced (backTo pos (starEach es X.env))) (AP X pins σ Q) X.xe s
noncomputable def PS (X : Cx) (st : Stmt) (t : TS) : Prop :=
  ∀ (pins : List (Addr × Obj)) (s : Shared) (σ : St) (H : Hp) (D : Ends), Inv X pins σ H s → t D σ H → wpAny (model X.prog X.w) X.A (exec st X.env) (SP X pins D) X.xe s
noncomputable def PSs (X : Cx) (st : List Stmt) (t : TS) : Prop :=
  ∀ (pins : List (Addr × Obj)) (s : Shared) (σ : St) (H : Hp) (D : Ends), Inv X pins σ H s → t D σ H → wpAny (model X.prog X.w) X.A (execs st X.env) (SP X pins D) X.xe s
theorem thn {α : Type} {t : Sem α} {Q Q' : α → Shared → Prop} {M : Model} {A : Around} {E : Value → Shared → Prop} {s : Shared} (h : wpAny M A t Q E s) (hQ : ∀ a s, Q a s → Q' a s) : wpAny M A t Q' E s := wpAny_mono h hQ fun _ _ x => x
end L2
namespace L2
open PySem PySem.Spec PyProof.Rows
section
variable {X : Cx}
noncomputable def qag (i : Nat) : TE := fun σ H Q => ∃ v, σ[i]? = some (some v) ∧ Q v H
noncomputable def tC (v : V) : TE := fun _ H Q => Q v H
theorem qp5 {i : Nat} {x : Str} {pos : Pos} (hN : X.N[i]? = some x) (hv : Vis X.env.scope x) (hd : (x == ("__debug__" : Str)) = false := by decide) (hcd : (x == ("__classdict__" : Str)) = false := by decide) : PE X (.Name x pos) (qag i) := by
  intro pins s σ H Q I h
  obtain ⟨v, e, h⟩ := h
  obtain ⟨m, hn, hl⟩ := I.loc
  obtain ⟨u, r, l⟩ := hl i x v hN e hv
  have fin : EP X pins σ Q u s := ⟨v, H, I, r, h⟩
  rcases l with ⟨hk, hm⟩ | ⟨hk, c, hc, hcell⟩
  · exact wpAny_Name (wpAny_loadName_local I.ok.kind hk hn hm fin) hd
  · rcases hk with hk | hk
    · exact wpAny_Name (wpAny_loadName_cell I.ok.kind hk hc hcell fin) hd
    · exact wpAny_Name (wpAny_loadName_free I.ok.kind hk hc hcell fin hcd) hd
theorem qae {i j pos} : PE X (.Constant (.int i) j pos) (tC (.int i)) := fun _ _ _ H _ I h => wpAny_Constant_int ⟨.int i, H, I.tok _, ⟨_, rfl⟩, h⟩
theorem qnK {b j pos} : PE X (.Constant (.bool b) j pos) (tC (.bl b)) := fun _ _ _ H _ I h => Constant_bool ⟨.bl b, H, I, rfl, h⟩
theorem qgo {j pos} : PE X (.Constant .none j pos) (tC .non) := fun _ _ _ H _ I h => Constant_none ⟨.non, H, I, rfl, h⟩
noncomputable def Gl (X : Cx) (x : Str) : Prop := X.env.kindOf x = some .globalImplicit
theorem qlL {E : Value → Shared → Prop} {pins : List (Addr × Obj)} {s : Shared} {σ : St} {H : Hp} {x : Str} {u : Value} {pos : Pos} {Q : Value → Shared → Prop} (I : Inv X pins σ H s) (hg : Gl X x) (hm : X.mg x = some u) (h : Q u s)
    (hd : (x == ("__debug__" : Str)) = false := by decide) : wpAny (model X.prog X.w) X.A (eval (.Name x pos) X.env) Q E s :=
  Calls.Name_function_global I.ok.kind hg (Calls.loadGlobal_global (by rw [I.ok.glob]; exact I.mod.glob.keeps I.bk) hm h) hd
theorem qeW {E : Value → Shared → Prop} {pins : List (Addr × Obj)} {s : Shared} {σ : St} {H : Hp} {x : Str} {u : Value} {pos : Pos} {Q : Value → Shared → Prop} (I : Inv X pins σ H s) (hg : Gl X x) (hm : X.mg x = none) (hv : bootBuiltins x = some u) (h : Q u s)
    (hn : x ≠ "__name__" := by decide) (hd : (x == ("__debug__" : Str)) = false := by decide) : wpAny (model X.prog X.w) X.A (eval (.Name x pos) X.env) Q E s := by
  obtain ⟨mb, h1, h2⟩ := I.mod.blt
  exact Calls.Name_function_global I.ok.kind hg (Calls.loadGlobal_builtin (by rw [I.ok.glob]; exact I.mod.glob.keeps I.bk) hm (by rw [I.ok.blt]; exact h1.keeps I.bk) ((h2 x hn).trans hv) h) hd
theorem qo2 {x : Str} {v : V} {u : Value} {pos : Pos} (hg : Gl X x) (hm : X.mg x = some u) (r : RelV v u) (hd : (x == ("__debug__" : Str)) = false := by decide) : PE X (.Name x pos) (tC v) :=
  fun _ _ _ H _ I h => qlL I hg hm ⟨v, H, I, r, h⟩ hd
variable {a b : Expr} {ta tb : TE} {pos : Pos}
noncomputable def tB (t : TE) : TT := fun σ H Q => t σ H fun x H1 => ∃ c, x = .bl c ∧ Q c H1
theorem qp6 {e : Expr} {t : TE} (h : PE X e t) (he : ∀ whole, isTrue e X.env whole = (do let v ← whole; standAt e.pos; holding [v] (truthy v)) := by intro _; rfl) : PT X e (tB t) := by
  intro pins s σ H Q I hw
  refine isTrue_plain (thn (h pins s σ H _ I hw) fun v s1 ⟨x, H1, I1, r1, q1⟩ => ?_) (he _)
  obtain ⟨d, rfl, q⟩ := q1
  cases r1
  exact wpAny_truthy_bool ⟨H1, I1, q⟩
variable {tA tB' : TT} {rest : List Expr}
noncomputable def qlJ (t u : TT) : TT := fun σ H Q => t σ H fun c H1 => if c = true then u σ H1 Q else Q false H1
noncomputable def tOr (t u : TT) : TT := fun σ H Q => t σ H fun c H1 => if c = true then Q true H1 else u σ H1 Q
noncomputable def qq6 (t : TT) : TT := fun σ H Q => t σ H fun c H1 => Q (!c) H1
theorem qdT (ha : PT X a tA) : PW X (.BoolOp .And [a] pos) tA := by
  intro wh pins s σ H Q I h
  refine isTrue_and (thn (ha pins s σ H Q I h) fun c s1 e => ?_)
  cases c with
  | true => exact isTrue_and_nil e
  | false => exact e
theorem qlM (ha : PT X a tA) : PW X (.BoolOp .Or [a] pos) tA := by
  intro wh pins s σ H Q I h
  refine isTrue_or (thn (ha pins s σ H Q I h) fun c s1 e => ?_)
  cases c with
  | false => exact isTrue_or_nil e
  | true => exact e
theorem qeX (ha : PT X a tA) (hb : PW X (.BoolOp .And (b :: rest) pos) tB') : PW X (.BoolOp .And (a :: b :: rest) pos) (qlJ tA tB') := by
  intro wh pins s σ H Q I h
  refine isTrue_and (thn (ha pins s σ H _ I h) fun c s1 ⟨H1, I1, q1⟩ => ?_)
  cases c with
  | true => exact hb wh pins s1 σ H1 Q I1 q1
  | false => exact ⟨H1, I1, q1⟩
theorem qo3 (ha : PT X a tA) (hb : PW X (.BoolOp .Or (b :: rest) pos) tB') : PW X (.BoolOp .Or (a :: b :: rest) pos) (tOr tA tB') := by
  intro wh pins s σ H Q I h
  refine isTrue_or (thn (ha pins s σ H _ I h) fun c s1 ⟨H1, I1, q1⟩ => ?_)
  cases c with
  | true => exact ⟨H1, I1, q1⟩
  | false => exact hb wh pins s1 σ H1 Q I1 q1
theorem qp7 (ha : PT X a tA) : PT X (.UnaryOp .Not a pos) (qq6 tA) := by
  intro pins s σ H Q I h
  exact isTrue_not (ha pins s σ H (fun c H1 => Q (!c) H1) I h)
noncomputable def qlN (ta tb : TE) : TE := fun σ H Q => ta σ H fun x H1 => ∃ c, x = .bl c ∧ if c = true then tb σ H1 Q else Q (.bl false) H1
noncomputable def qrI (ta tb : TE) : TE := fun σ H Q => ta σ H fun x H1 => ∃ c, x = .bl c ∧ if c = true then Q (.bl true) H1 else tb σ H1 Q
noncomputable def qp8 (ta : TE) : TE := fun σ H Q => ta σ H fun x H1 => ∃ c, x = .bl c ∧ Q (.bl (!c)) H1
theorem qp9 {op} {t : TE} (h : PE X a t) : PE X (.BoolOp op [a] pos) t := fun pins s σ H Q I hw => BoolOp_one (h pins s σ H Q I hw)
theorem qow (ha : PE X a ta) (hb : PE X (.BoolOp .And (b :: rest) pos) tb) : PE X (.BoolOp .And (a :: b :: rest) pos) (qlN ta tb) := by
  intro pins s σ H Q I h
  refine BoolOp_and (thn (ha pins s σ H _ I h) fun v s1 ⟨x, H1, I1, r1, q1⟩ => ?_)
  obtain ⟨c, rfl, q1⟩ := q1
  cases r1
  refine wpAny_truthy_bool ?_
  cases c with
  | true => exact hb pins s1 σ H1 Q I1 q1
  | false => exact ⟨.bl false, H1, I1, rfl, q1⟩
noncomputable def tIf (t : TT) (ta tb : TE) : TE := fun σ H Q => t σ H fun c H1 => if c = true then ta σ H1 Q else tb σ H1 Q
theorem qf9 {c : Expr} (hc : PT X c tA) (ha : PE X a ta) (hb : PE X b tb) : PE X (.IfExp c a b pos) (tIf tA ta tb) := by
  intro pins s σ H Q I h
  refine wpAny_IfExp (thn (hc pins s σ H _ I h) fun d s1 ⟨H1, I1, q1⟩ => ?_)
  cases d with
  | true => exact ha pins s1 σ H1 Q I1 q1
  | false => exact hb pins s1 σ H1 Q I1 q1
end
end L2
namespace L2
open PySem PySem.Spec PyProof.Rows
noncomputable def SqL (K : PySem.W.Frag) (H : Hp) (a : Addr) (xs : List V) : Prop :=
  Rd H a (.lst xs) ∨
    ∃ (o : Obj) (its : Array Value) (n : Nat), K.lookup a = some o ∧ o.cls = .type "list" ∧ o.dict = none ∧ o.data = .seq its n ∧ its.size ≤ sizeLine ∧ Vals xs its.toList
noncomputable def SqT (K : PySem.W.Frag) (H : Hp) (a : Addr) (xs : List V) : Prop :=
  Rd H a (.tup xs) ∨
    ∃ (o : Obj) (its : Array Value) (n : Nat), K.lookup a = some o ∧ o.cls = .type "tuple" ∧ o.data = .seq its n ∧ its.size ≤ sizeLine ∧ Vals xs its.toList
noncomputable def qrU : Value → Option V
  | .none => some .non
  | .bool b => some (.bl b)
  | .int i _ => some (.int i)
  | .str x _ => some (.str x)
  | .bytes b _ => some (.byt b)
  | .float b _ => some (.flt b)
  | .ref a => some (.ref a)
  | .type n => some (.ty n)
  | _ => none
theorem RelV.abs {x : V} {u : Value} (r : RelV x u) : qrU u = some x := by
  cases x with
  | non => cases r; rfl
  | bl _ => cases r; rfl
  | int _ => obtain ⟨t, rfl⟩ := r; rfl
  | str _ => obtain ⟨t, rfl⟩ := r; rfl
  | byt _ => obtain ⟨t, rfl⟩ := r; rfl
  | flt _ => obtain ⟨t, rfl⟩ := r; rfl
  | ref _ => cases r; rfl
  | ty _ => cases r; rfl
theorem RelV.inj {x y : V} {u : Value} (r : RelV x u) (q : RelV y u) : x = y := Option.some.inj (r.abs.symm.trans q.abs)
theorem Vals.inj : ∀ {xs ys : List V} {us : List Value}, Vals xs us → Vals ys us → xs = ys
  | _, _, _, .nil, .nil => rfl
  | _, _, _, .cons r t, .cons r' t' => by rw [r.inj r', Vals.inj t t']
section
variable {X : Cx} {pins : List (Addr × Obj)} {σ : St} {H : Hp} {s : Shared} {a : Addr} {xs ys : List V}
theorem SqL.of {K : PySem.W.Frag} (h : H a = some (.lst xs)) : SqL K H a xs := .inl (.inl h)
theorem SqT.of {K : PySem.W.Frag} (h : H a = some (.tup xs)) : SqT K H a xs := .inl (.inl h)
theorem Inv.list (I : Inv X pins σ H s) (h : SqL X.K H a xs) : ∃ its : List Value, Vals xs its ∧ PlainL s.heap a its.toArray ∧ xs.length ≤ sizeLine := by
  rcases h with h | ⟨o, its, n, hk, hc, hd, hs, hz, r⟩
  · obtain ⟨z, its, n, r, e⟩ := h.ok I.hok
    exact ⟨its, r, ⟨_, n, e, rfl, rfl, rfl⟩, z⟩
  · refine ⟨its.toList, r, ⟨o, n, I.kIn a o hk, hc, hd, by simpa using hs⟩, ?_⟩
    have e := r.length
    simp only [Array.length_toList] at e
    omega
theorem Inv.tuple (I : Inv X pins σ H s) (h : SqT X.K H a xs) : ∃ its : List Value, Vals xs its ∧ IsTup s.heap a its.toArray ∧ xs.length ≤ sizeLine := by
  rcases h with h | ⟨o, its, n, hk, hc, hs, hz, r⟩
  · obtain ⟨z, its, r, p⟩ := h.ok I.hok
    exact ⟨its, r, p, z⟩
  · refine ⟨its.toList, r, ⟨o, I.kIn a o hk, hc, n, by simpa using hs⟩, ?_⟩
    have e := r.length
    simp only [Array.length_toList] at e
    omega
theorem Inv.list_inj (I : Inv X pins σ H s) (h : SqL X.K H a xs) (h' : SqL X.K H a ys) : xs = ys := by
  obtain ⟨its, r, ⟨o, n, e, _, _, d⟩, _⟩ := I.list h
  obtain ⟨its', r', ⟨o', n', e', _, _, d'⟩, _⟩ := I.list h'
  rw [e] at e'; cases e'
  rw [d] at d'
  injection d' with d1 _
  have : its = its' := by simpa using congrArg Array.toList d1
  subst this
  exact r.inj r'
theorem Inv.tuple_inj (I : Inv X pins σ H s) (h : SqT X.K H a xs) (h' : SqT X.K H a ys) : xs = ys := by
  obtain ⟨its, r, ⟨o, e, _, n, d⟩, _⟩ := I.tuple h
  obtain ⟨its', r', ⟨o', e', _, n', d'⟩, _⟩ := I.tuple h'
  rw [e] at e'; cases e'
  rw [d] at d'
  injection d' with d1 _
  have : its = its' := by simpa using congrArg Array.toList d1
  subst this
  exact r.inj r'
end
noncomputable abbrev Cx.wish (X : Cx) (E : Value → Shared → Prop) : Cx := { X with xe := E }
noncomputable abbrev Cx.nox (X : Cx) : Cx := X.wish fun _ _ => False
theorem Cx.Ok.wish {X : Cx} (ok : X.Ok) (E : Value → Shared → Prop) : (X.wish E).Ok :=
  ⟨ok.mod, ok.kind, ok.glob, ok.blt, ok.above, ok.inj, ok.has, ok.cab, ok.hd, ok.frames, ok.stk, ok.exf, ok.bs, ok.bsz, ok.noex, ok.exfs, ok.funs, ok.frf, ok.seer, ok.tree, ok.plr⟩
theorem Cx.Ok.unwish {X : Cx} {E : Value → Shared → Prop} (ok : (X.wish E).Ok) : X.Ok :=
  ⟨ok.mod, ok.kind, ok.glob, ok.blt, ok.above, ok.inj, ok.has, ok.cab, ok.hd, ok.frames, ok.stk, ok.exf, ok.bs, ok.bsz, ok.noex, ok.exfs, ok.funs, ok.frf, ok.seer, ok.tree, ok.plr⟩
section
variable {X : Cx} {pins : List (Addr × Obj)} {σ : St} {H : Hp} {s : Shared} {E : Value → Shared → Prop}
theorem Inv.wish (I : Inv X pins σ H s) (E : Value → Shared → Prop) : Inv (X.wish E) pins σ H s := ⟨I.ok.wish E, I.os, I.bare, I.base, I.loc, I.cell, I.free, I.freeC, I.pin, I.hok, I.len⟩
theorem Inv.unwish (I : Inv (X.wish E) pins σ H s) : Inv X pins σ H s := ⟨I.ok.unwish, I.os, I.bare, I.base, I.loc, I.cell, I.free, I.freeC, I.pin, I.hok, I.len⟩
theorem SP.unwish {D : Ends} {f : Flow} {s' : Shared} (h : SP (X.wish E) pins D f s') : SP X pins D f s' := by
  cases f with
  | next => obtain ⟨σ', H', I, q⟩ := h; exact ⟨σ', H', I.unwish, q⟩
  | brk => obtain ⟨σ', H', I, q⟩ := h; exact ⟨σ', H', I.unwish, q⟩
  | cont => obtain ⟨σ', H', I, q⟩ := h; exact ⟨σ', H', I.unwish, q⟩
  | ret u => obtain ⟨v, σ', H', I, r, q⟩ := h; exact ⟨v, σ', H', I.unwish, r, q⟩
theorem PE.nox {e : Expr} {t : TE} (h : PE X.nox e t) : PE X e t := fun pins s σ H Q I hw =>
  wpAny_mono (h pins s σ H Q (I.wish _) hw) (fun _ _ ⟨v, H', I', r, q⟩ => ⟨v, H', I'.unwish, r, q⟩) fun _ _ z => False.elim z
theorem PT.nox {e : Expr} {t : TT} (h : PT X.nox e t) : PT X e t := fun pins s σ H Q I hw =>
  wpAny_mono (h pins s σ H Q (I.wish _) hw) (fun _ _ ⟨H', I', q⟩ => ⟨H', I'.unwish, q⟩) fun _ _ z => False.elim z
theorem PSs.nox {st : List Stmt} {t : TS} (h : PSs X.nox st t) : PSs X st t := fun pins s σ H D I hw =>
  wpAny_mono (h pins s σ H D (I.wish _) hw) (fun _ _ q => q.unwish) fun _ _ z => False.elim z
end
section
variable {X : Cx} {st : Stmt} {rest : List Stmt} {t u : TS} {e : Expr} {te : TE} {pos : Pos}
noncomputable def qcC : TS := fun D σ H => D.nx σ H
noncomputable def qaO (t u : TS) : TS := fun D σ H => t { D with nx := u D } σ H
theorem qbm : PSs X [] qcC := fun _ _ σ H _ I h => wpAny_execs_nil ⟨σ, H, I, h⟩
theorem qac (h1 : PS X st t) (h2 : PSs X rest u) : PSs X (st :: rest) (qaO t u) := by
  intro pins s σ H D I h
  refine wpAny_execs_cons (thn (h1 pins s σ H { D with nx := u D } I h) fun f s1 q => ?_)
  cases f with
  | next =>
    obtain ⟨σ', H', I', q⟩ := q
    exact h2 pins s1 σ' H' D I' q
  | ret v => exact q
  | brk => exact q
  | cont => exact q
theorem qah (h1 : PS X st t) : PSs X [st] t := by
  intro pins s σ H D I h
  refine wpAny_execs_cons (thn (h1 pins s σ H D I h) fun f s1 q => ?_)
  cases f with
  | next => exact wpAny_execs_nil q
  | ret v => exact q
  | brk => exact q
  | cont => exact q
theorem Inv.quiet {pins : List (Addr × Obj)} {σ : St} {H : Hp} {s : Shared} (I : Inv X pins σ H s) : interactive X.env = false := by simp [interactive, I.ok.kind]
noncomputable def qk8 (te : TE) : TS := fun D σ H => te σ H fun _ H1 => D.nx σ H1
theorem qjJ (he : PE X e te) (hs : swapsWith e none pos.line X.env = pure false := by rfl) : PS X (.Expr e pos) (qk8 te) := by
  intro pins s σ H D I h
  exact wpAny_Expr_any (thn (he pins s σ H _ I h) fun v s1 ⟨x, H1, I1, r1, q1⟩ => ⟨σ, H1, I1, q1⟩) I.quiet hs
noncomputable def qbE (te : TE) : TS := fun D σ H => te σ H D.rt
theorem qaC (he : PE X e te) : PS X (.Return (some e) pos) (qbE te) := by
  intro pins s σ H D I h
  exact wpAny_Return_some (thn (he pins s σ H _ I h) fun v s1 ⟨x, H1, I1, r1, q1⟩ => ⟨x, σ, H1, I1, r1, q1⟩)
noncomputable def qgp (c : TT) (t u : TS) : TS := fun D σ H => c σ H fun b H1 => if b = true then t D σ H1 else u D σ H1
theorem qdm {c : Expr} {a b : List Stmt} {tc : TT} (hc : PT X c tc) (ha : PSs X a t) (hb : PSs X b u) : PS X (.If c a b pos) (qgp tc t u) := by
  intro pins s σ H D I h
  refine wpAny_If (thn (hc pins s σ H _ I h) fun d s1 ⟨H1, I1, q1⟩ => ?_)
  cases d with
  | true => exact ha pins s1 σ H1 D I1 q1
  | false => exact hb pins s1 σ H1 D I1 q1
end
noncomputable abbrev TG := V → St → Hp → (St → Hp → Prop) → Prop
noncomputable abbrev TGs := List V → St → Hp → (St → Hp → Prop) → Prop
noncomputable def PG (X : Cx) (target : Expr) (t : TG) : Prop :=
  ∀ (pins : List (Addr × Obj)) (s : Shared) (σ : St) (H : Hp) (v : V) (u : Value) (Q : St → Hp → Prop), Inv X pins σ H s → RelV v u → t v σ H Q →
    wpAny (model X.prog X.w) X.A (assign target X.env u) (fun _ s' => ∃ σ' H', Inv X pins σ' H' s' ∧ Q σ' H') X.xe s
noncomputable def PGs (X : Cx) (ts : List Expr) (t : TGs) : Prop :=
  ∀ (pins : List (Addr × Obj)) (s : Shared) (σ : St) (H : Hp) (vs : List V) (us : List Value) (Q : St → Hp → Prop), Inv X pins σ H s → Vals vs us → t vs σ H Q →
    wpAny (model X.prog X.w) X.A (assignInOrder ((assignEach ts X.env).map (·.2)) us) (fun _ s' => ∃ σ' H', Inv X pins σ' H' s' ∧ Q σ' H') X.xe s
noncomputable abbrev TSet := V → V → V → Hp → (Hp → Prop) → Prop
noncomputable def PSet (X : Cx) (t : TSet) : Prop :=
  ∀ (pins : List (Addr × Obj)) (s : Shared) (σ : St) (H : Hp) (o i v : V) (ov iv u : Value) (Q : Hp → Prop), Inv X pins σ H s → RelV o ov → RelV i iv → RelV v u → t o i v H Q →
    wpAny (model X.prog X.w) X.A (setItem ov iv u) (fun _ s' => ∃ H', Inv X pins σ H' s' ∧ Q H') X.xe s
noncomputable abbrev TIp := V → V → Hp → VK → Prop
noncomputable def PIp (X : Cx) (op : Operator) (t : TIp) : Prop :=
  ∀ (pins : List (Addr × Obj)) (s : Shared) (σ : St) (H : Hp) (x y : V) (v u : Value) (Q : VK), Inv X pins σ H s → RelV x v → RelV y u → t x y H Q →
    wpAny (model X.prog X.w) X.A (inplaceOp op v u) (EP X pins σ Q) X.xe s
section
variable {X : Cx} {pos : Pos}
noncomputable def qam (i : Nat) : TG := fun v σ H Q => Q (σ.set i (some v)) H
theorem qaF {i : Nat} {x : Str} (hN : X.N.Nodup) (hi : X.N[i]? = some x) (hx : Loc X.env.scope x) (hf : X.fn x = true ∨ X.env.scope.names.lookup x = some .local := by first | exact .inl rfl | exact .inr rfl | assumption) : PG X (.Name x pos) (qam i) := by
  intro pins s σ H v u Q I r h
  exact wpAny_assign_Name (qeV I hN hi hx r (fun s' I' => ⟨_, H, I', h⟩) hf)
noncomputable def qnI : TGs := fun vs σ H Q => vs = [] ∧ Q σ H
noncomputable def qdU (t : TG) (u : TGs) : TGs := fun vs σ H Q => ∃ v r, vs = v :: r ∧ t v σ H fun σ' H' => u r σ' H' Q
theorem qey : PGs X [] qnI := by
  intro pins s σ H vs us Q I r h
  obtain ⟨e, h⟩ := h
  subst e
  cases r
  exact assignInOrder_nil ⟨σ, H, I, h⟩
theorem qbx {e : Expr} {es : List Expr} {t : TG} {u : TGs} (h1 : PG X e t) (h2 : PGs X es u)
    (hs : (assignEach (e :: es) X.env).map (·.2) = assign e X.env :: (assignEach es X.env).map (·.2) := by rfl) : PGs X (e :: es) (qdU t u) := by
  intro pins s σ H vs us Q I r h
  obtain ⟨v, vr, e1, h⟩ := h
  subst e1
  cases r with
  | cons r rr =>
    rw [hs]
    refine assignInOrder_cons (thn (h1 pins s σ H _ _ _ I r h) fun _ s1 ⟨σ1, H1, I1, q1⟩ => ?_)
    exact h2 pins s1 σ1 H1 _ _ Q I1 rr q1
noncomputable def qrV (K : PySem.W.Frag) (n : Nat) (t : TGs) : TG := fun v σ H Q => ∃ a xs, v = .ref a ∧ SqT K H a xs ∧ xs.length = n ∧ t xs σ H Q
theorem qqa {es : List Expr} {k : Nat} {t : TGs} {n : Nat} (hc : X.calm = true) (h : PGs X es t)
    (hn : (assignEach es X.env).length = n := by rfl) (hst : (assignEach es X.env).findIdx? (·.1) = none := by rfl) : PG X (.Tuple es k pos) (qrV X.K n t) := by
  intro pins s σ H v u Q I r hw
  obtain ⟨a, xs, e1, hq, hl, hw⟩ := hw
  subst e1
  cases r
  obtain ⟨its, rv, ht, hz⟩ := I.tuple hq
  refine assign_Tuple_tuple (I.ok.hd hc) ht (by simp [hn, ← hl, rv.length]) hst fun h' hx => ?_
  have I1 : Inv X pins σ H { s with heap := h' } := I.kept (t' := s.toks) fun b o e => hx b o (Nat.ne_of_lt (Heap.lt_size e)) e
  exact h pins _ σ H xs _ Q I1 (by simpa using rv) hw
noncomputable def qlO (to ti : TE) (t : TSet) : TG := fun v σ H Q => to σ H fun o H1 => ti σ H1 fun i H2 => t o i v H2 fun H3 => Q σ H3
theorem qfM {o i : Expr} {to ti : TE} {t : TSet} (ho : PE X o to) (hi : PE X i ti) (hs : PSet X t)
    (ha : ∀ v, assign (.Subscript o i pos) X.env v = (do
      let ov ← holding [v] (eval o X.env)
      let iv ← holding [v, ov] (eval i X.env)
      standAt pos
      holding [v, ov, iv] (setItem ov iv v)
      release [v, ov, iv] []) := by intro _; rfl) : PG X (.Subscript o i pos) (qlO to ti t) := by
  intro pins s σ H v u Q I r h
  rw [ha]
  refine wpAny_bind (wpAny_holding (thn (ho pins s σ H _ I h) fun ov s1 ⟨x, H1, I1, r1, q1⟩ => ?_))
  refine wpAny_bind (wpAny_holding (thn (hi pins s1 σ H1 _ I1 q1) fun iv s2 ⟨y, H2, I2, r2, q2⟩ => ?_))
  refine wpAny_bind (wpAny_standAt (wpAny_bind (wpAny_holding (thn (hs pins s2 σ H2 x y v ov iv u _ I2 r1 r2 r q2) fun _ s3 ⟨H3, I3, q3⟩ => ?_))))
  exact wpAny_release ⟨σ, H3, I3, q3⟩
noncomputable def qa1 (te : TE) (g : TG) : TS := fun D σ H => te σ H fun x H1 => g x σ H1 D.nx
theorem qfN {tg e : Expr} {te : TE} {g : TG} (he : PE X e te) (hg : PG X tg g) (hs : swapsWithSole [tg] e pos.line X.env = pure false := by rfl) (hw : swappedStores [tg] e X.env = pure none := by rfl)
    (h1 : (assignEach [tg] X.env).map (·.2) = [assign tg X.env] := by rfl) : PS X (.Assign [tg] e pos) (qa1 te g) := by
  intro pins s σ H D I h
  refine wpAny_Assign_stores (thn (he pins s σ H _ I h) fun v s1 ⟨x, H1, I1, r1, q1⟩ => ?_) hs hw
  rw [h1]
  exact thn (hg pins s1 σ H1 x v _ I1 r1 q1) fun _ s2 q => q
theorem qan {i : Nat} {x : Str} {e : Expr} {te : TE} {pos' : Pos} (hN : X.N.Nodup) (hi : X.N[i]? = some x) (hx : Loc X.env.scope x) (he : PE X e te) (hs : swapsWith e (some (.Name x pos')) pos.line X.env = pure false := by rfl) (hf : X.fn x = true ∨ X.env.scope.names.lookup x = some .local := by first | exact .inl rfl | exact .inr rfl | assumption) :
    PS X (.Assign [.Name x pos'] e pos) (qa1 te (qam i)) := by
  intro pins s σ H D I h
  refine wpAny_Assign_Name (thn (he pins s σ H _ I h) fun v s1 ⟨y, H1, I1, r1, q1⟩ => ?_) hs
  exact qeV I1 hN hi hx r1 (fun s2 I2 => ⟨_, H1, I2, q1⟩) hf
noncomputable def qqb (i j : Nat) (ta : TA) : TS := fun D σ H => ta σ H fun vs H1 => ∃ v w, vs = [v, w] ∧ D.nx ((σ.set i (some v)).set j (some w)) H1
theorem qox {i j : Nat} {x y : Str} {a b : Expr} {ta : TA} {px py pt : Pos} {kt k2 pt2} (hc : X.calm = true) (hN : X.N.Nodup) (hi : X.N[i]? = some x) (hj : X.N[j]? = some y) (hij : i ≠ j)
    (hx : X.env.scope.names.lookup x = some .local) (hy : X.env.scope.names.lookup y = some .local) (ha : PA X [a, b] ta)
    (hw : swappedStores [.Tuple [.Name x px, .Name y py] kt pt] (.Tuple [a, b] k2 pt2) X.env = pure (some [x, y]))
    (hs : swapsWithSole [.Tuple [.Name x px, .Name y py] kt pt] (.Tuple [a, b] k2 pt2) pos.line X.env = pure false := by rfl) :
    PS X (.Assign [.Tuple [.Name x px, .Name y py] kt pt] (.Tuple [a, b] k2 pt2) pos) (qqb i j ta) := by
  intro pins s σ H D I h
  rw [exec_Assign_arm]
  refine wpAny_bind (wpAny_standAt ?_)
  rw [hs]
  refine wpAny_bind (wpAny_pure ?_)
  rw [if_neg (by decide)]
  refine wpAny_bind (Tuple_ (thn (ha _ pins s σ H _ I h) fun us s1 ⟨vs, H1, I1, r1, q1⟩ => ?_))
  obtain ⟨v, w, e1, q1⟩ := q1
  subst e1
  obtain ⟨u1, u2, rfl, rv, rw'⟩ : ∃ u1 u2, us = [u1, u2] ∧ RelV v u1 ∧ RelV w u2 := by
    cases r1 with
    | cons p q =>
      cases q with
      | cons p' q' =>
        cases q'
        exact ⟨_, _, rfl, p, p'⟩
  refine wpAny_newObj_type ?_ (by show 2 ≤ sizeLine; decide)
  have I2 : Inv X pins σ H1 { s1 with heap := s1.heap.push { cls := .type "tuple", data := .seq [u1, u2].toArray } } := I1.kept (t' := s1.toks) fun b o e => Heap.get?_push_of_some _ e
  rw [hw]
  refine wpAny_bind (wpAny_pure ?_)
  show wpAny (model X.prog X.w) X.A (do rule "assign.swapped-stores"; let items ← unpackItems (.ref s1.heap.objs.size) 2 none; assignInOrder [fun v => bindName X.env y v, fun v => bindName X.env x v] items.reverse; pure Flow.next) _ _ _
  refine wpAny_bind (wpAny_rule (wpAny_bind (unpackItems_tuple (items := #[u1, u2]) (I.ok.hd hc) (IsTup.new s1.heap _) fun h' hx' => ?_)))
  have I3 := I2.kept (h' := h') (t' := s1.toks) fun b o e => hx' b o (Nat.ne_of_lt (Heap.lt_size e)) e
  show wpAny _ _ (assignInOrder [fun v => bindName X.env y v, fun v => bindName X.env x v] [u2, u1] >>= fun _ => pure Flow.next) _ _ _
  refine wpAny_bind (assignInOrder_cons (wpAny_bindName (qeV I3 hN hj (.inl hy) rw' (fun s2 I4 => ?_) (.inr hy))))
  refine assignInOrder_cons (wpAny_bindName (qeV I4 hN hi (.inl hx) rv (fun s3 I5 => assignInOrder_nil (wpAny_pure ?_)) (.inr hx)))
  rw [List.set_comm _ _ (Ne.symm hij)] at I5
  exact ⟨_, H1, I5, q1⟩
noncomputable def qnL (i : Nat) (te : TE) (ti : TIp) : TS := fun D σ H => ∃ x, σ[i]? = some (some x) ∧ te σ H fun y H1 => ti x y H1 fun z H2 => D.nx (σ.set i (some z)) H2
theorem qhF {i : Nat} {x : Str} {e : Expr} {te : TE} {op : Operator} {ti : TIp} {pos' : Pos} (hN : X.N.Nodup) (hi : X.N[i]? = some x) (hx : Loc X.env.scope x) (he : PE X e te) (ho : PIp X op ti) (hf : X.fn x = true ∨ X.env.scope.names.lookup x = some .local := by first | exact .inl rfl | exact .inr rfl | assumption) :
    PS X (.AugAssign (.Name x pos') op e pos) (qnL i te ti) := by
  intro pins s σ H D I h
  obtain ⟨v, e1, h⟩ := h
  obtain ⟨m, hn, hl⟩ := I.loc
  have vis : Vis X.env.scope x := by rcases hx with k | k; exact .inl k; exact .inr (.inl k)
  obtain ⟨u, r, l⟩ := hl i x v hi e1 vis
  refine wpAny_AugAssign_Name ?_
  have go : wpAny (model X.prog X.w) X.A (eval e X.env) (fun w s₂ => wpAny (model X.prog X.w) X.A (inplaceOp op u w) (fun r s₃ => wpAny (model X.prog X.w) X.A (storeName X.env x r) (fun _ => SP X pins D .next) X.xe s₃) X.xe s₂) X.xe s := by
    refine thn (he pins s σ H _ I h) fun w s1 ⟨y, H1, I1, r1, q1⟩ => ?_
    refine thn (ho pins s1 σ H1 v y u w _ I1 r r1 q1) fun z s2 ⟨zv, H2, I2, r2, q2⟩ => ?_
    exact qeV I2 hN hi hx r2 (fun s3 I3 => ⟨_, H2, I3, q2⟩) hf
  rcases l with ⟨hk, hm⟩ | ⟨hk, c, hc, hcell⟩
  · exact wpAny_loadName_local I.ok.kind hk hn hm go
  · rcases hk with hk | hk
    · exact wpAny_loadName_cell I.ok.kind hk hc hcell go
    · rcases hx with k | k
      · have : X.env.scope.names.lookup x = some .free := hk
        rw [k] at this; cases this
      · have : X.env.scope.names.lookup x = some .free := hk
        rw [k] at this; cases this
noncomputable def qk9 (to ti te : TE) (tget : V → V → Hp → VK → Prop) (tip : TIp) (tset : TSet) : TS := fun D σ H => to σ H fun o H1 => ti σ H1 fun i H2 => tget o i H2 fun x H3 => te σ H3 fun y H4 => tip x y H4 fun z H5 => tset o i z H5 fun H6 => D.nx σ H6
noncomputable def PGet (X : Cx) (t : V → V → Hp → VK → Prop) : Prop :=
  ∀ (pins : List (Addr × Obj)) (s : Shared) (σ : St) (H : Hp) (o i : V) (ov iv : Value) (Q : VK), Inv X pins σ H s → RelV o ov → RelV i iv → t o i H Q →
    wpAny (model X.prog X.w) X.A (getItem ov iv) (EP X pins σ Q) X.xe s
theorem qjK {o i e : Expr} {to ti te : TE} {tget : V → V → Hp → VK → Prop} {tip : TIp} {tset : TSet} {op : Operator} {tpos : Pos} (ho : PE X o to) (hi : PE X i ti) (hg : PGet X tget) (he : PE X e te) (hp : PIp X op tip) (hs : PSet X tset)
    (ha : ∀ ov iv new, augStore i ov iv new = (do holding [new, ov, iv] (setItem ov iv new); release [new, ov, iv] []; pure .next) := by intros; rfl) : PS X (.AugAssign (.Subscript o i tpos) op e pos) (qk9 to ti te tget tip tset) := by
  intro pins s σ H D I h
  refine wpAny_AugAssign_SubscriptAny (thn (ho pins s σ H _ I h) fun ov s1 ⟨x1, H1, I1, r1, q1⟩ => ?_) ha
  refine thn (hi pins s1 σ H1 _ I1 q1) fun iv s2 ⟨x2, H2, I2, r2, q2⟩ => ?_
  refine thn (hg pins s2 σ H2 x1 x2 ov iv _ I2 r1 r2 q2) fun old s3 ⟨x3, H3, I3, r3, q3⟩ => ?_
  refine thn (he pins s3 σ H3 _ I3 q3) fun v s4 ⟨x4, H4, I4, r4, q4⟩ => ?_
  refine thn (hp pins s4 σ H4 x3 x4 old v _ I4 r3 r4 q4) fun new s5 ⟨x5, H5, I5, r5, q5⟩ => ?_
  exact thn (hs pins s5 σ H5 x1 x2 x5 ov iv new _ I5 r1 r2 r5 q5) fun _ s6 ⟨H6, I6, q6⟩ => ⟨σ, H6, I6, q6⟩
end
section
variable {X : Cx} {pos : Pos}
noncomputable def qc0 (c : TT) (tb : TS) : TS := fun D σ H => ∃ W : Nat → St → Hp → Prop, (∃ m, W m σ H) ∧ ∀ m σ H, W m σ H →
  c σ H fun b H1 => if b = true then ∃ N : St → Hp → Prop, (∀ σ' H', N σ' H' → ∃ m', m' < m ∧ W m' σ' H') ∧ tb { D with nx := N, ct := N, bk := D.nx } σ H1 else D.nx σ H1
theorem qbJ {c : Expr} {body : List Stmt} {tc : TT} {tb : TS} (hp : PassesOwn (model X.prog X.w) X.A X.env X.xe) (hc : PT X c tc) (hb : PSs X body tb) : PS X (.While c body [] pos) (qc0 tc tb) := by
  intro pins s σ H D I h
  obtain ⟨W, ⟨m0, w0⟩, turn⟩ := h
  refine wpAny_While (codeAny_whileLoop (fun n s' => ∃ σ' H', Inv X pins σ' H' s' ∧ W n σ' H') ?_ m0 ⟨σ, H, I, w0⟩)
  rintro n s1 ⟨σ1, H1, I1, w1⟩
  refine wpAny_passesOwn hp (thn (hc pins s1 σ1 H1 _ I1 (turn n σ1 H1 w1)) fun b s2 ⟨H2, I2, q2⟩ => ?_)
  cases b with
  | true =>
    obtain ⟨N, hN, q2⟩ := q2
    rw [if_pos rfl]
    refine wpAny_passesOwn hp (thn (hb pins s2 σ1 H2 _ I2 q2) fun f s3 q3 => ?_)
    cases f with
    | next =>
      obtain ⟨σ3, H3, I3, n3⟩ := q3
      obtain ⟨m', hm, w3⟩ := hN σ3 H3 n3
      exact ⟨m', hm, σ3, H3, I3, w3⟩
    | cont =>
      obtain ⟨σ3, H3, I3, n3⟩ := q3
      obtain ⟨m', hm, w3⟩ := hN σ3 H3 n3
      exact ⟨m', hm, σ3, H3, I3, w3⟩
    | brk => exact q3
    | ret v => exact q3
  | false =>
    rw [if_neg Bool.false_ne_true]
    exact wpAny_execs_nil ⟨σ1, H2, I2, q2⟩
end
structure It where
  go : Nat → Hp → Prop
  yld : Nat → Hp → V → Hp → Prop
  stop : Nat → Hp → Prop
noncomputable def qjL (X : Cx) (pins : List (Addr × Obj)) (H : Hp) (b : Addr) : Prop :=
  H b = none ∧ b ≠ X.env.locals ∧ b ∉ X.fs ∧ (b ∈ X.ex ∨ X.s₀.heap.objs.size ≤ b) ∧ (∀ x c, X.env.cells.lookup x = some c → c ≠ b) ∧ ∀ p ∈ X.pn ++ pins, p.1 ≠ b
theorem Inv.fpOk {X : Cx} {pins : List (Addr × Obj)} {σ : St} {H H' : Hp} {s : Shared} {b : Addr} (I : Inv X pins σ H s) (hb : s.heap.objs.size ≤ b) (hn : H' b = none) : qjL X pins H' b := by
  refine ⟨hn, Nat.ne_of_gt (Nat.lt_of_lt_of_le I.lt hb), I.nofs hb, .inr (Nat.le_trans I.sz hb), fun x c e z => ?_, fun p hp z => ?_⟩
  · obtain ⟨v, q⟩ := I.cell x c e
    exact absurd (Nat.lt_of_lt_of_le q.lt (by rw [z]; exact hb)) (Nat.lt_irrefl _)
  · exact absurd (Nat.lt_of_lt_of_le (Heap.lt_size (I.pin p hp).1) (by rw [z]; exact hb)) (Nat.lt_irrefl _)
structure Turn (P : Program) (w : World) (K : PySem.W.Frag) (tg : Expr) (J : It) (fp : List Addr) (it : Addr) (tn : Nat → Heap → Prop) : Prop where
  mem : it ∈ fp
  obj : ∀ i h, tn i h → ∀ b ∈ fp, ∃ o, h.get? b = some o ∧ ∀ v, o.data ≠ .cell v
  keep : ∀ i h h', tn i h → (∀ b ∈ fp, ∀ o, h.get? b = some o → h'.get? b = some o) → tn i h'
  item : ∀ (X : Cx), X.prog = P → X.w = w → X.K = K → X.calm = true → ∀ (i : Nat) (pins : List (Addr × Obj)) (s : Shared) (σ : St) (H : Hp) (E : Value → Shared → Prop), Inv X pins σ H s → (∀ b ∈ fp, qjL X pins H b) → tn i s.heap → J.go i H →
    wpAny (model P w) X.A (pyNext (.ref it)) (fun r s1 => ∃ u, r = some u ∧
      wpAny (model P w) X.A (letOwnedTupleGo tg (.ref it) u) (fun _ s2 => ∃ x H', Inv X pins σ H' s2 ∧ RelV x u ∧ J.yld i H x H' ∧ tn (i + 1) s2.heap ∧ ∀ b ∈ fp, H' b = none) E s1) E s
  done : ∀ (X : Cx), X.prog = P → X.w = w → X.K = K → X.calm = true → ∀ (i : Nat) (pins : List (Addr × Obj)) (s : Shared) (σ : St) (H : Hp) (E : Value → Shared → Prop), Inv X pins σ H s → (∀ b ∈ fp, qjL X pins H b) → tn i s.heap → J.stop i H →
    wpAny (model P w) X.A (pyNext (.ref it)) (fun r s1 => r = none ∧ Inv X pins σ H s1) E s
  self : ∀ (A : Around) (i : Nat) (s : Shared) (Q : Value → Shared → Prop) (E : Value → Shared → Prop), tn i s.heap → Q (.ref it) s → wpAny (model P w) A (pyIter (.ref it)) Q E s
noncomputable abbrev TI := St → Hp → (It → Hp → Prop) → Prop
noncomputable def PIE (X : Cx) (pins : List (Addr × Obj)) (σ : St) (tg : Expr) (R : It → Hp → Prop) (itv : Value) (s2 : Shared) : Prop :=
  ∃ (it : Addr) (fp : List Addr) (tn : Nat → Heap → Prop) (J : It) (H' : Hp), itv = .ref it ∧ Inv X pins σ H' s2 ∧ Turn X.prog X.w X.K tg J fp it tn ∧ tn 0 s2.heap ∧ (∀ b ∈ fp, qjL X pins H' b) ∧ R J H'
noncomputable def PI (X : Cx) (tg iter : Expr) (wi : TI) : Prop :=
  ∀ (pins : List (Addr × Obj)) (s : Shared) (σ : St) (H : Hp) (R : It → Hp → Prop), Inv X pins σ H s → wi σ H R →
    wpAny (model X.prog X.w) X.A (eval iter X.env) (fun v s1 => wpAny (model X.prog X.w) X.A (pyIter v) (PIE X pins σ tg R) X.xe s1) X.xe s
theorem qnM {M : Model} {A : Around} {E : Value → Shared → Prop} {s : Shared} {tg : Expr} {it : Addr} {u : Value} {o : Obj} {n : String} {vs : Array Value} {Q : Unit → Shared → Prop} (ho : s.heap.get? it = some o) (hc : o.cls = .type n) (hd : o.data = .fields vs)
    (hn : ["enumerate", "zip", "dict_itemiterator", "dict_reverseitemiterator", "odict_iterator", "itertools.zip_longest", "itertools.pairwise"].contains n = false) (hQ : Q () s) : wpAny M A (letOwnedTupleGo tg (.ref it) u) Q E s := by
  unfold letOwnedTupleGo
  cases tg <;> first
    | exact wpAny_pure hQ
    | (cases u <;> first
        | exact wpAny_pure hQ
        | (refine wpAny_bind (wpAny_load ho ?_)
           rw [hc, hd]
           show wpAny M A (if (["enumerate", "zip", "dict_itemiterator", "dict_reverseitemiterator", "odict_iterator", "itertools.zip_longest", "itertools.pairwise"].contains n && vs[0]? == some (rawInt _)) = true then _ else _) Q E s
           rw [if_neg (by intro h; rw [hn, Bool.false_and] at h; cases h)]
           exact wpAny_pure hQ))
noncomputable def Itl (K : PySem.W.Frag) (a : Addr) : It :=
  ⟨fun i H => ∃ xs x, SqL K H a xs ∧ xs[i]? = some x, fun i H x H' => H' = H ∧ ∀ xs, SqL K H a xs → xs[i]? = some x, fun i H => ∃ xs, SqL K H a xs ∧ xs.length ≤ i⟩
noncomputable def Itt (K : PySem.W.Frag) (a : Addr) : It :=
  ⟨fun i H => ∃ xs x, SqT K H a xs ∧ xs[i]? = some x, fun i H x H' => H' = H ∧ ∀ xs, SqT K H a xs → xs[i]? = some x, fun i H => ∃ xs, SqT K H a xs ∧ xs.length ≤ i⟩
noncomputable def Itr (lo : Int) (n : Nat) : It := ⟨fun i _ => i < n, fun i H x H' => H' = H ∧ x = .int (lo + i), fun i _ => n ≤ i⟩
theorem qlP {P : Program} {w : World} {K : PySem.W.Frag} {tg : Expr} (a it : Addr) : Turn P w K tg (Itl K a) [it] it (fun i h => h.IsListIter it a i) where
  mem := by simp
  obj := fun i h st b hb => by
    have e : b = it := by simpa using hb
    subst e
    obtain ⟨o, e, c, d⟩ := st
    exact ⟨o, e, fun v z => by rw [d] at z; cases z⟩
  keep := fun i h h' st k => st.at fun o e => k it (by simp) o e
  item := by
    intro X hP hw hK hc i pins s σ H E I hf st hg
    subst hP hw hK
    obtain ⟨xs, x, hq, hx⟩ := hg
    obtain ⟨its, rv, p, hz⟩ := I.list hq
    obtain ⟨u, hu, ru⟩ := rv.get hx
    obtain ⟨f0, f1, f2, f3, f4, f5⟩ := hf it (by simp)
    refine wpAny_pyNext_list_item st p.isList (x := u) (by simpa using hu) fun h' st' sb => ?_
    have I1 : Inv X pins σ H { s with heap := h' } := I.turned (t' := s.toks) (fun b o hb e => (sb.2 b hb).trans e) f0 f1 f3 f4 f5
    obtain ⟨o, e, c, d⟩ := id st'
    exact ⟨u, rfl, qnM (s := { s with heap := h' }) e c d (by decide) ⟨x, H, I1, ru, ⟨rfl, fun ys hy => by rw [I.list_inj hy hq]; exact hx⟩, st', fun b hb => (hf b hb).1⟩⟩
  done := by
    intro X hP hw hK hc i pins s σ H E I hf st hg
    subst hP hw hK
    obtain ⟨xs, hq, hx⟩ := hg
    obtain ⟨its, rv, p, hz⟩ := I.list hq
    obtain ⟨f0, f1, f2, f3, f4, f5⟩ := hf it (by simp)
    have hl := rv.length
    exact wpAny_pyNext_list_end (I.ok.hd hc) st p.isList (by simp; omega) fun h' eb => ⟨rfl, I.turned (t' := s.toks) (fun b o hb e => eb b o hb e) f0 f1 f3 f4 f5⟩
  self := fun _ _ _ _ _ st h => wpAny_pyIter_listiter st h
theorem qla {P : Program} {w : World} {K : PySem.W.Frag} {tg : Expr} (a it : Addr) : Turn P w K tg (Itt K a) [it] it (fun i h => h.IsTupleIter it a i) where
  mem := by simp
  obj := fun i h st b hb => by
    have e : b = it := by simpa using hb
    subst e
    obtain ⟨o, e, c, d⟩ := st
    exact ⟨o, e, fun v z => by rw [d] at z; cases z⟩
  keep := fun i h h' st k => st.at fun o e => k it (by simp) o e
  item := by
    intro X hP hw hK hc i pins s σ H E I hf st hg
    subst hP hw hK
    obtain ⟨xs, x, hq, hx⟩ := hg
    obtain ⟨its, rv, p, hz⟩ := I.tuple hq
    obtain ⟨u, hu, ru⟩ := rv.get hx
    obtain ⟨f0, f1, f2, f3, f4, f5⟩ := hf it (by simp)
    refine wpAny_pyNext_tuple_item st (show s.heap.IsTuple a its.toArray from p) (x := u) (by simpa using hu) fun h' st' sb => ?_
    have I1 : Inv X pins σ H { s with heap := h' } := I.turned (t' := s.toks) (fun b o hb e => (sb.2 b hb).trans e) f0 f1 f3 f4 f5
    obtain ⟨o, e, c, d⟩ := id st'
    exact ⟨u, rfl, qnM (s := { s with heap := h' }) e c d (by decide) ⟨x, H, I1, ru, ⟨rfl, fun ys hy => by rw [I.tuple_inj hy hq]; exact hx⟩, st', fun b hb => (hf b hb).1⟩⟩
  done := by
    intro X hP hw hK hc i pins s σ H E I hf st hg
    subst hP hw hK
    obtain ⟨xs, hq, hx⟩ := hg
    obtain ⟨its, rv, p, hz⟩ := I.tuple hq
    obtain ⟨f0, f1, f2, f3, f4, f5⟩ := hf it (by simp)
    have hl := rv.length
    exact wpAny_pyNext_tuple_end (I.ok.hd hc) st (show s.heap.IsTuple a its.toArray from p) (by simp; omega) fun h' eb => ⟨rfl, I.turned (t' := s.toks) (fun b o hb e => eb b o hb e) f0 f1 f3 f4 f5⟩
  self := fun _ _ _ _ _ st h => wpAny_pyIter_tupleiter st h
theorem qlb {P : Program} {w : World} {K : PySem.W.Frag} {tg : Expr} (it : Addr) (lo : Int) (n : Nat) : Turn P w K tg (Itr lo n) [it] it (fun i h => IsRangeIter h it (lo + (i : Nat) * 1) ((n : Int) - (i : Nat)) 1) where
  mem := by simp
  obj := fun i h st b hb => by
    have e : b = it := by simpa using hb
    subst e
    exact ⟨_, st, fun v z => by
      have z' : Data.fields _ = Data.cell v := z
      cases z'⟩
  keep := fun i h h' st k => k it (by simp) _ st
  item := by
    intro X hP hw hK hc i pins s σ H E I hf st hg
    subst hP hw hK
    obtain ⟨f0, f1, f2, f3, f4, f5⟩ := hf it (by simp)
    have W := Walks.range (prog := X.prog) (w := X.w) (I.ok.hd hc) it lo 1 n
    refine W.item i s _ _ hg st fun v h' tk hv st' kk => ?_
    obtain ⟨t, rfl⟩ := hv
    have I1 : Inv X pins σ H { s with heap := h', toks := tk } := I.turned (fun b o hb e => kk b o (by simpa using hb) e) f0 f1 f3 f4 f5
    refine ⟨_, rfl, qnM (s := { s with heap := h', toks := tk }) (n := "range_iterator") st' rfl rfl (by decide) ⟨.int (lo + i), H, I1, ⟨t, ?_⟩, ⟨rfl, rfl⟩, st', fun b hb => (hf b hb).1⟩⟩
    rw [Int.mul_one]
  done := by
    intro X hP hw hK hc i pins s σ H E I hf st hg
    subst hP hw hK
    obtain ⟨f0, f1, f2, f3, f4, f5⟩ := hf it (by simp)
    exact wpAny_pyNext_range_end (I.ok.hd hc) st (by have : n ≤ i := hg; omega) fun h' eb => ⟨rfl, I.turned (t' := s.toks) (fun b o hb e => eb b o hb e) f0 f1 f3 f4 f5⟩
  self := fun _ _ _ _ _ st h => wpAny_pyIter_rangeiter st h
end L2
namespace L2
open PySem PySem.Spec PyProof.Rows
section
variable {X : Cx} {tg : Expr}
noncomputable def qdV (K : PySem.W.Frag) (tl : TE) : TI := fun σ H R => tl σ H fun x H1 => ∃ a, x = .ref a ∧ (∃ xs, SqL K H1 a xs) ∧ R (Itl K a) H1
noncomputable def qpW (K : PySem.W.Frag) (tl : TE) : TI := fun σ H R => tl σ H fun x H1 => ∃ a, x = .ref a ∧ (∃ xs, SqT K H1 a xs) ∧ R (Itt K a) H1
theorem qbV {l : Expr} {tl : TE} (hl : PE X l tl) : PI X tg l (qdV X.K tl) := by
  intro pins s σ H R I h
  refine thn (hl pins s σ H _ I h) fun v s1 ⟨x, H1, I1, r1, q1⟩ => ?_
  obtain ⟨a, e, ⟨xs, hq⟩, q⟩ := q1
  subst e
  cases r1
  obtain ⟨its, rv, p, hz⟩ := I1.list hq
  refine wpAny_pyIter_list p.isList ?_
  refine ⟨s1.heap.objs.size, [s1.heap.objs.size], _, _, H1, rfl, I1.kept (t' := s1.toks) fun b o e => Heap.get?_push_of_some _ e, qlP a _, ⟨_, Heap.get?_push_size _ rfl, rfl, rfl⟩, fun b hb => ?_, q⟩
  have e : b = s1.heap.objs.size := by simpa using hb
  subst e
  exact I1.fpOk (Nat.le_refl _) (I1.hok.fresh (Nat.le_refl _))
theorem qlQ {l : Expr} {tl : TE} (hl : PE X l tl) : PI X tg l (qpW X.K tl) := by
  intro pins s σ H R I h
  refine thn (hl pins s σ H _ I h) fun v s1 ⟨x, H1, I1, r1, q1⟩ => ?_
  obtain ⟨a, e, ⟨xs, hq⟩, q⟩ := q1
  subst e
  cases r1
  obtain ⟨its, rv, p, hz⟩ := I1.tuple hq
  refine wpAny_pyIter_tuple (show s1.heap.IsTuple a its.toArray from p) ?_
  refine ⟨s1.heap.objs.size, [s1.heap.objs.size], _, _, H1, rfl, I1.kept (t' := s1.toks) fun b o e => Heap.get?_push_of_some _ e, qla a _, ⟨_, Heap.get?_push_size _ rfl, rfl, rfl⟩, fun b hb => ?_, q⟩
  have e : b = s1.heap.objs.size := by simpa using hb
  subst e
  exact I1.fpOk (Nat.le_refl _) (I1.hok.fresh (Nat.le_refl _))
theorem qks {pins : List (Addr × Obj)} {σ : St} {H : Hp} {s : Shared} {R : It → Hp → Prop} {E : Value → Shared → Prop} {lo hi : Int} {t u v : Tok} {tk : Nat} (I : Inv X pins σ H s) (h1 : -(2 ^ 62) ≤ lo) (h2 : lo < 2 ^ 62) (h3 : -(2 ^ 62) ≤ hi) (h4 : hi < 2 ^ 62)
    (q : R (Itr lo (hi - lo).toNat) H) : wpAny (model X.prog X.w) X.A (pyIter (.ref s.heap.objs.size)) (PIE X pins σ tg R) E { s with heap := s.heap.push { cls := .type "range", data := .fields #[.int lo t, .int hi u, .int 1 v] }, toks := tk } := by
  refine wpAny_pyIter_range (IsRange.new ..) (small_one h1 h2 h3 h4) ?_
  have I1 : Inv X pins σ H { s with heap := s.heap.push { cls := .type "range", data := .fields #[.int lo t, .int hi u, .int 1 v] }, toks := tk } := I.kept fun b o e => Heap.get?_push_of_some _ e
  refine ⟨(s.heap.push { cls := .type "range", data := .fields #[.int lo t, .int hi u, .int 1 v] }).objs.size, [(s.heap.push { cls := .type "range", data := .fields #[.int lo t, .int hi u, .int 1 v] }).objs.size], _, _, H, rfl,
    I1.kept (t' := tk) fun b o e => Heap.get?_push_of_some _ e, qlb _ lo (hi - lo).toNat, ?_, fun b hb => ?_, q⟩
  · have e1 : lo + ((0 : Nat) : Int) * 1 = lo := by simp
    have e2 : (((hi - lo).toNat : Nat) : Int) - ((0 : Nat) : Int) = Builtin.Range.rangeSize lo hi 1 := by rw [rangeSize_one]; split <;> omega
    show IsRangeIter _ _ (lo + ((0 : Nat) : Int) * 1) ((((hi - lo).toNat : Nat) : Int) - ((0 : Nat) : Int)) 1
    rw [e1, e2]
    exact Heap.get?_push_size _ rfl
  · have e : b = (s.heap.push { cls := .type "range", data := .fields #[.int lo t, .int hi u, .int 1 v] }).objs.size := by simpa using hb
    subst e
    exact I1.fpOk (Nat.le_refl _) (I1.hok.fresh (Nat.le_refl _))
noncomputable def qhn (ta : TA) : TI := fun σ H R => ta σ H fun vs H1 => ∃ j : Int, vs = [.int j] ∧ -(2 ^ 62) ≤ j ∧ j < 2 ^ 62 ∧ R (Itr 0 j.toNat) H1
noncomputable def qlR (ta : TA) : TI := fun σ H R => ta σ H fun vs H1 => ∃ i j : Int, vs = [.int i, .int j] ∧ (-(2 ^ 62) ≤ i ∧ i < 2 ^ 62 ∧ -(2 ^ 62) ≤ j ∧ j < 2 ^ 62) ∧ R (Itr i (j - i).toNat) H1
theorem qcD {a : Expr} {ta : TA} {p pos : Pos} (hg : Gl X "range") (hm : X.mg "range" = none) (ha : PA X [a] ta) (hs : starEach [a] X.env = [(false, eval a X.env)] := by rfl) : PI X tg (.Call (.Name "range" p) [a] [] pos) (qhn ta) := by
  intro pins s σ H R I h
  refine Call_ (qeW I hg hm boot_range (PyProof.Rows.callWith_type1 (thn (ha pos pins s σ H _ I h) fun us s1 ⟨vs, H1, I1, r1, q1⟩ => ?_) hs rfl))
  obtain ⟨j, e, q1, q2, q⟩ := q1
  subst e
  cases r1 with
  | cons r rr =>
    cases rr
    obtain ⟨t, rfl⟩ := r
    exact call_range_1 (qks I1 (by omega) (by omega) q1 q2 (by simpa using q))
theorem qiY {a b : Expr} {ta : TA} {p pos : Pos} (hg : Gl X "range") (hm : X.mg "range" = none) (ha : PA X [a, b] ta) (hs : starEach [a, b] X.env = [(false, eval a X.env), (false, eval b X.env)] := by rfl) (hs2 : starEach [b] X.env = [(false, eval b X.env)] := by rfl) :
    PI X tg (.Call (.Name "range" p) [a, b] [] pos) (qlR ta) := by
  intro pins s σ H R I h
  refine Call_ (qeW I hg hm boot_range (PyProof.Rows.callWith_type1 (thn (ha pos pins s σ H _ I h) fun us s1 ⟨vs, H1, I1, r1, q1⟩ => ?_) (by rw [hs, hs2]) (by rw [hs2]; rfl)))
  obtain ⟨i, j, e, ⟨q1, q2, q3, q4⟩, q⟩ := q1
  subst e
  cases r1 with
  | cons r rr =>
    cases rr with
    | cons r' rr =>
      cases rr
      obtain ⟨t, rfl⟩ := r
      obtain ⟨t', rfl⟩ := r'
      exact call_range_2 (qks I1 q1 q2 q3 q4 q)
noncomputable def qfo (wi : TI) (g : TG) (tb : TS) : TS := fun D σ H => wi σ H fun J H1 => ∃ W : Nat → Nat → St → Hp → Prop, (∃ m, W 0 m σ H1) ∧ ∀ i m σ H, W i m σ H →
  (J.stop i H ∧ D.nx σ H) ∨ (J.go i H ∧ ∃ N : St → Hp → Prop, (∀ σ' H', N σ' H' → ∃ m', m' < m ∧ W (i + 1) m' σ' H') ∧ ∀ x H', J.yld i H x H' → g x σ H' fun σ2 H2 => tb { D with nx := N, ct := N, bk := D.nx } σ2 H2)
noncomputable def qkt (fp : List Addr) (h : Heap) : List (Addr × Obj) := fp.filterMap fun b => (h.get? b).map fun o => (b, o)
theorem qdn {fp : List Addr} {h : Heap} {b : Addr} {o : Obj} (hb : b ∈ fp) (e : h.get? b = some o) : (b, o) ∈ qkt fp h := List.mem_filterMap.mpr ⟨b, hb, by rw [e]; rfl⟩
theorem qlS {fp : List Addr} {h : Heap} {p : Addr × Obj} (hp : p ∈ qkt fp h) : p.1 ∈ fp ∧ h.get? p.1 = some p.2 := by
  obtain ⟨b, hb, e⟩ := List.mem_filterMap.mp hp
  cases q : h.get? b with
  | none => rw [q] at e; cases e
  | some o =>
    rw [q] at e
    have e' : (b, o) = p := Option.some.inj e
    subst e'
    exact ⟨hb, q⟩
theorem Inv.pinned {pins : List (Addr × Obj)} {σ : St} {H : Hp} {s : Shared} {fp : List Addr} (I : Inv X pins σ H s) (hf : ∀ b ∈ fp, qjL X pins H b) (ho : ∀ b ∈ fp, ∃ o, s.heap.get? b = some o ∧ ∀ v, o.data ≠ .cell v) : Inv X (pins ++ qkt fp s.heap) σ H s :=
  I.pins_of fun p hp => (List.mem_append.mp hp).elim (fun z => I.pin p (List.mem_append_right _ z)) fun z => by
    obtain ⟨hb, e⟩ := qlS z
    obtain ⟨f0, f1, f2, _⟩ := hf p.1 hb
    obtain ⟨o, e', d⟩ := ho p.1 hb
    rw [e] at e'; cases e'
    exact ⟨e, f0, f1, f2, d⟩
theorem Inv.unpinned {pins pl : List (Addr × Obj)} {σ : St} {H : Hp} {s : Shared} (I : Inv X (pins ++ pl) σ H s) : Inv X pins σ H s := I.pins_of fun p hp => I.pin p (List.mem_append_right _ (List.mem_append_left _ hp))
theorem qbK {iter : Expr} {body : List Stmt} {wi : TI} {g : TG} {tb : TS} {pos : Pos} (hp : PassesOwn (model X.prog X.w) X.A X.env X.xe) (hc : X.calm = true) (hi : PI X tg iter wi) (hg : PG X tg g) (hb : PSs X body tb)
    (hs : ∀ x, foldedSetIterable iter X.env x = pure x := by intro _; rfl) : PS X (.For tg iter body [] pos) (qfo wi g tb) := by
  intro pins s σ H D I h
  refine wpAny_For (thn (hi pins s σ H _ I h) fun v s1 h1 => thn h1 fun itv s2 h2 => ?_) hs
  obtain ⟨it, fp, tn, J, H2, e, I2, T, st2, f2, W, ⟨m0, w0⟩, turn⟩ := h2
  subst e
  have stat : ∀ {H' : Hp}, (∀ b ∈ fp, H' b = none) → ∀ b ∈ fp, qjL X pins H' b := fun hn b hb => ⟨hn b hb, (f2 b hb).2⟩
  refine codeAny_forLoop_any (fun n s' => ∃ i σ' H', Inv X pins σ' H' s' ∧ tn i s'.heap ∧ (∀ b ∈ fp, H' b = none) ∧ W i n σ' H') ?_ m0 ⟨0, σ, H2, I2, st2, fun b hb => (f2 b hb).1, w0⟩
  rintro n s3 ⟨i, σ3, H3, I3, st3, fr3, w3⟩
  rcases turn i n σ3 H3 w3 with ⟨stop, qn⟩ | ⟨go, N, hN, step⟩
  · refine wpAny_passesOwn hp (thn (T.done X rfl rfl rfl hc i pins s3 σ3 H3 X.xe I3 (stat fr3) st3 stop) fun r s4 ⟨hr, I4⟩ => ?_)
    subst hr
    exact wpAny_execs_nil ⟨σ3, H3, I4, qn⟩
  · refine wpAny_passesOwn hp (thn (T.item X rfl rfl rfl hc i pins s3 σ3 H3 X.xe I3 (stat fr3) st3 go) fun r s4 ⟨u, hr, h4⟩ => ?_)
    subst hr
    refine wpAny_passesOwn hp (thn h4 fun _ s5 ⟨x, H5, I5, r5, y5, st5, fr5⟩ => ?_)
    have I5' := I5.pinned (stat fr5) (T.obj _ _ st5)
    refine wpAny_passesOwn hp (thn (hg _ s5 σ3 H5 x u _ I5' r5 (step x H5 y5)) fun _ s6 ⟨σ6, H6, I6, q6⟩ => ?_)
    refine wpAny_passesOwn hp (thn (hb _ s6 σ6 H6 _ I6 q6) fun f s7 q7 => ?_)
    have again : ∀ {σ7 : St} {H7 : Hp}, Inv X (pins ++ qkt fp s5.heap) σ7 H7 s7 → N σ7 H7 → ∃ m, m < n ∧ ∃ i σ' H', Inv X pins σ' H' s7 ∧ tn i s7.heap ∧ (∀ b ∈ fp, H' b = none) ∧ W i m σ' H' := fun {σ7 H7} I7 n7 => by
      obtain ⟨m', hm, w7⟩ := hN σ7 H7 n7
      refine ⟨m', hm, i + 1, σ7, H7, I7.unpinned, T.keep _ _ _ st5 fun b hb o e => (I7.pin (b, o) (List.mem_append_right _ (List.mem_append_right _ (qdn hb e)))).1, fun b hb => ?_, w7⟩
      obtain ⟨o, e, d⟩ := T.obj _ _ st5 b hb
      exact (I7.pin (b, o) (List.mem_append_right _ (List.mem_append_right _ (qdn hb e)))).2.1
    cases f with
    | next => obtain ⟨σ7, H7, I7, n7⟩ := q7; exact again I7 n7
    | cont => obtain ⟨σ7, H7, I7, n7⟩ := q7; exact again I7 n7
    | brk => obtain ⟨σ7, H7, I7, q7⟩ := q7; exact ⟨σ7, H7, I7.unpinned, q7⟩
    | ret v => obtain ⟨x7, σ7, H7, I7, r7, q7⟩ := q7; exact ⟨x7, σ7, H7, I7.unpinned, r7, q7⟩
end
theorem qnN {K : PySem.W.Frag} {a : Addr} {xs : List V} {g : TG} {tb : TS} {D : Ends} {σ : St} {H : Hp} (Pv : Nat → St → Hp → Prop) (h0 : Pv 0 σ H) (hl : ∀ i σ H, i ≤ xs.length → Pv i σ H → SqL K H a xs)
    (hs : ∀ i x σ H, xs[i]? = some x → Pv i σ H → g x σ H fun σ2 H2 => tb { D with nx := Pv (i + 1), ct := Pv (i + 1), bk := D.nx } σ2 H2) (hd : ∀ σ H, Pv xs.length σ H → D.nx σ H) :
    ∃ W : Nat → Nat → St → Hp → Prop, (∃ m, W 0 m σ H) ∧ ∀ i m σ H, W i m σ H →
      ((Itl K a).stop i H ∧ D.nx σ H) ∨ ((Itl K a).go i H ∧ ∃ N : St → Hp → Prop, (∀ σ' H', N σ' H' → ∃ m', m' < m ∧ W (i + 1) m' σ' H') ∧ ∀ x H', (Itl K a).yld i H x H' → g x σ H' fun σ2 H2 => tb { D with nx := N, ct := N, bk := D.nx } σ2 H2) := by
  refine ⟨fun i m σ H => m = xs.length - i ∧ i ≤ xs.length ∧ Pv i σ H, ⟨xs.length, by simp, Nat.zero_le _, h0⟩, ?_⟩
  rintro i m σ H ⟨rfl, hi, p⟩
  have q := hl i σ H hi p
  by_cases hlt : i < xs.length
  · refine .inr ⟨⟨xs, xs[i], q, by simp [hlt]⟩, Pv (i + 1), fun σ' H' p' => ⟨xs.length - (i + 1), by omega, rfl, hlt, p'⟩, fun x H' y => ?_⟩
    obtain ⟨e, y⟩ := y
    subst e
    exact hs i x σ _ (y xs q) p
  · have e : i = xs.length := by omega
    subst e
    exact .inl ⟨⟨xs, q, Nat.le_refl _⟩, hd σ H p⟩
theorem qlT {K : PySem.W.Frag} {a : Addr} {xs : List V} {g : TG} {tb : TS} {D : Ends} {σ : St} {H : Hp} (Pv : Nat → St → Hp → Prop) (h0 : Pv 0 σ H) (hl : ∀ i σ H, i ≤ xs.length → Pv i σ H → SqT K H a xs)
    (hs : ∀ i x σ H, xs[i]? = some x → Pv i σ H → g x σ H fun σ2 H2 => tb { D with nx := Pv (i + 1), ct := Pv (i + 1), bk := D.nx } σ2 H2) (hd : ∀ σ H, Pv xs.length σ H → D.nx σ H) :
    ∃ W : Nat → Nat → St → Hp → Prop, (∃ m, W 0 m σ H) ∧ ∀ i m σ H, W i m σ H →
      ((Itt K a).stop i H ∧ D.nx σ H) ∨ ((Itt K a).go i H ∧ ∃ N : St → Hp → Prop, (∀ σ' H', N σ' H' → ∃ m', m' < m ∧ W (i + 1) m' σ' H') ∧ ∀ x H', (Itt K a).yld i H x H' → g x σ H' fun σ2 H2 => tb { D with nx := N, ct := N, bk := D.nx } σ2 H2) := by
  refine ⟨fun i m σ H => m = xs.length - i ∧ i ≤ xs.length ∧ Pv i σ H, ⟨xs.length, by simp, Nat.zero_le _, h0⟩, ?_⟩
  rintro i m σ H ⟨rfl, hi, p⟩
  have q := hl i σ H hi p
  by_cases hlt : i < xs.length
  · refine .inr ⟨⟨xs, xs[i], q, by simp [hlt]⟩, Pv (i + 1), fun σ' H' p' => ⟨xs.length - (i + 1), by omega, rfl, hlt, p'⟩, fun x H' y => ?_⟩
    obtain ⟨e, y⟩ := y
    subst e
    exact hs i x σ _ (y xs q) p
  · have e : i = xs.length := by omega
    subst e
    exact .inl ⟨⟨xs, q, Nat.le_refl _⟩, hd σ H p⟩
theorem qlU {lo : Int} {n : Nat} {g : TG} {tb : TS} {D : Ends} {σ : St} {H : Hp} (Pv : Nat → St → Hp → Prop) (h0 : Pv 0 σ H)
    (hs : ∀ i σ H, i < n → Pv i σ H → g (.int (lo + i)) σ H fun σ2 H2 => tb { D with nx := Pv (i + 1), ct := Pv (i + 1), bk := D.nx } σ2 H2) (hd : ∀ σ H, Pv n σ H → D.nx σ H) :
    ∃ W : Nat → Nat → St → Hp → Prop, (∃ m, W 0 m σ H) ∧ ∀ i m σ H, W i m σ H →
      ((Itr lo n).stop i H ∧ D.nx σ H) ∨ ((Itr lo n).go i H ∧ ∃ N : St → Hp → Prop, (∀ σ' H', N σ' H' → ∃ m', m' < m ∧ W (i + 1) m' σ' H') ∧ ∀ x H', (Itr lo n).yld i H x H' → g x σ H' fun σ2 H2 => tb { D with nx := N, ct := N, bk := D.nx } σ2 H2) := by
  refine ⟨fun i m σ H => m = n - i ∧ i ≤ n ∧ Pv i σ H, ⟨n, by simp, Nat.zero_le _, h0⟩, ?_⟩
  rintro i m σ H ⟨rfl, hi, p⟩
  by_cases hlt : i < n
  · refine .inr ⟨hlt, Pv (i + 1), fun σ' H' p' => ⟨n - (i + 1), by omega, rfl, hlt, p'⟩, fun x H' y => ?_⟩
    obtain ⟨e, y⟩ := y
    subst e y
    exact hs i σ _ hlt p
  · have e : i = n := by omega
    subst e
    exact .inl ⟨Nat.le_refl _, hd σ H p⟩
theorem while_by {c : TT} {tb : TS} {D : Ends} {σ : St} {H : Hp} (Pv : St → Hp → Prop) (μ : St → Hp → Nat) (h0 : Pv σ H)
    (hs : ∀ σ H, Pv σ H → c σ H fun b H1 => if b = true then tb { D with nx := fun σ' H' => Pv σ' H' ∧ μ σ' H' < μ σ H, ct := fun σ' H' => Pv σ' H' ∧ μ σ' H' < μ σ H, bk := D.nx } σ H1 else D.nx σ H1)
    (mono : ∀ σ H Q Q', (∀ b H1, Q b H1 → Q' b H1) → c σ H Q → c σ H Q') : qc0 c tb D σ H := by
  refine ⟨fun m σ H => m = μ σ H ∧ Pv σ H, ⟨_, rfl, h0⟩, ?_⟩
  rintro m σ H ⟨rfl, p⟩
  refine mono σ H _ _ (fun b H1 q => ?_) (hs σ H p)
  cases b with
  | true => exact ⟨_, fun σ' H' ⟨p', l⟩ => ⟨_, l, rfl, p'⟩, q⟩
  | false => exact q
end L2
namespace L2
open PySem PySem.Spec PyProof.Rows
noncomputable abbrev R2 := V → V → Hp → VK → Prop
noncomputable def OpR (X : Cx) (f : Value → Value → Sem Value) (r : R2) : Prop :=
  ∀ (pins : List (Addr × Obj)) (s : Shared) (σ : St) (H : Hp) (x y : V) (v u : Value) (Q : VK), Inv X pins σ H s → RelV x v → RelV y u → r x y H Q →
    wpAny (model X.prog X.w) X.A (f v u) (EP X pins σ Q) X.xe s
noncomputable def UnR (X : Cx) (f : Value → Sem Value) (r : V → Hp → VK → Prop) : Prop :=
  ∀ (pins : List (Addr × Obj)) (s : Shared) (σ : St) (H : Hp) (x : V) (v : Value) (Q : VK), Inv X pins σ H s → RelV x v → r x H Q →
    wpAny (model X.prog X.w) X.A (f v) (EP X pins σ Q) X.xe s
noncomputable def qdW (X : Cx) (f : Value) (r : List V → Hp → VK → Prop) : Prop :=
  ∀ (pins : List (Addr × Obj)) (s : Shared) (σ : St) (H : Hp) (xs : List V) (us : List Value) (Q : VK), Inv X pins σ H s → Vals xs us → r xs H Q →
    wpAny (model X.prog X.w) X.A (call f us) (EP X pins σ Q) X.xe s
noncomputable def qrW (X : Cx) (r : V → Hp → (Bool → Hp → Prop) → Prop) : Prop :=
  ∀ (pins : List (Addr × Obj)) (s : Shared) (σ : St) (H : Hp) (x : V) (v : Value) (Q : Bool → Hp → Prop), Inv X pins σ H s → RelV x v → r x H Q →
    wpAny (model X.prog X.w) X.A (truthy v) (TP X pins σ Q) X.xe s
noncomputable def tOp (r : R2) (ta tb : TE) : TE := fun σ H Q => ta σ H fun x H1 => tb σ H1 fun y H2 => r x y H2 Q
noncomputable def tUn (r : V → Hp → VK → Prop) (ta : TE) : TE := fun σ H Q => ta σ H fun x H1 => r x H1 Q
noncomputable def rI (C : Int → Int → Prop) (g : Int → Int → V) : R2 := fun x y H Q => ∃ i j, x = .int i ∧ y = .int j ∧ C i j ∧ Q (g i j) H
noncomputable def rI0 (g : Int → Int → V) : R2 := fun x y H Q => ∃ i j, x = .int i ∧ y = .int j ∧ Q (g i j) H
noncomputable def rU (g : Int → V) : V → Hp → VK → Prop := fun x H Q => ∃ i, x = .int i ∧ Q (g i) H
section
variable {X : Cx} {a b c : Expr} {ta tb tc : TE} {pos : Pos}
theorem qrd (ha : PE X a ta) (hb : PE X b tb) {pins : List (Addr × Obj)} {s : Shared} {σ : St} {H : Hp} {R : V → V → Hp → Prop} (I : Inv X pins σ H s)
    (h : ta σ H fun x H1 => tb σ H1 fun y H2 => R x y H2) {Q : Value → Shared → Prop} {f : Value → Value → Sem Value}
    (hf : ∀ v u s2 x y H2, Inv X pins σ H2 s2 → RelV x v → RelV y u → R x y H2 → wpAny (model X.prog X.w) X.A (f v u) Q X.xe s2) :
    wpAny (model X.prog X.w) X.A (eval a X.env) (fun v s₁ => wpAny (model X.prog X.w) X.A (eval b X.env) (fun u s₂ => wpAny (model X.prog X.w) X.A (f v u) Q X.xe s₂) X.xe s₁) X.xe s := by
  refine thn (ha pins s σ H _ I h) fun v s1 ⟨x, H1, I1, r1, q1⟩ => ?_
  refine thn (hb pins s1 σ H1 _ I1 q1) fun u s2 ⟨y, H2, I2, r2, q2⟩ => ?_
  exact hf v u s2 x y H2 I2 r1 r2 q2
theorem qas {op : Operator} {r : R2} (ho : OpR X (binaryOp op) r) (ha : PE X a ta) (hb : PE X b tb) : PE X (.BinOp a op b pos) (tOp r ta tb) := by
  intro pins s σ H Q I h
  exact wpAny_BinOp (qrd ha hb I h fun v u s2 x y H2 I2 rx ry q => ho pins s2 σ H2 x y v u Q I2 rx ry q)
theorem qcE {op : UnaryOp} {r : V → Hp → VK → Prop} (ho : UnR X (unaryOp op) r) (ha : PE X a ta) : PE X (.UnaryOp op a pos) (tUn r ta) := by
  intro pins s σ H Q I h
  exact UnaryOp_ (thn (ha pins s σ H _ I h) fun v s1 ⟨x, H1, I1, r1, q1⟩ => ho pins s1 σ H1 x v Q I1 r1 q1)
theorem opI {f : Value → Value → Sem Value} {C : Int → Int → Prop} {g : Int → Int → Int}
    (rule : ∀ (i j : Int) (t u : Tok) (s : Shared) (Q : Value → Shared → Prop) (E : Value → Shared → Prop), C i j → Q (.int (g i j) s.toks) { s with toks := s.toks + 1 } → wpAny (model X.prog X.w) X.A (f (.int i t) (.int j u)) Q E s) :
    OpR X f (rI C fun i j => .int (g i j)) := by
  intro pins s σ H x y v u Q I rx ry h
  obtain ⟨i, j, rfl, rfl, hc, q⟩ := h
  obtain ⟨t, rfl⟩ := rx
  obtain ⟨t', rfl⟩ := ry
  exact rule i j t t' s _ _ hc ⟨.int (g i j), H, I.tok _, ⟨_, rfl⟩, q⟩
theorem qre {f : Value → Value → Sem Value} {g : Int → Int → Int}
    (rule : ∀ (i j : Int) (t u : Tok) (s : Shared) (Q : Value → Shared → Prop) (E : Value → Shared → Prop), Q (.int (g i j) s.toks) { s with toks := s.toks + 1 } → wpAny (model X.prog X.w) X.A (f (.int i t) (.int j u)) Q E s) :
    OpR X f (rI0 fun i j => .int (g i j)) := by
  intro pins s σ H x y v u Q I rx ry h
  obtain ⟨i, j, rfl, rfl, q⟩ := h
  obtain ⟨t, rfl⟩ := rx
  obtain ⟨t', rfl⟩ := ry
  exact rule i j t t' s _ _ ⟨.int (g i j), H, I.tok _, ⟨_, rfl⟩, q⟩
theorem qrf {f : Value → Value → Sem Value} {g : Int → Int → Bool}
    (rule : ∀ (i j : Int) (t u : Tok) (s : Shared) (Q : Value → Shared → Prop) (E : Value → Shared → Prop), Q (.bool (g i j)) s → wpAny (model X.prog X.w) X.A (f (.int i t) (.int j u)) Q E s) :
    OpR X f (rI0 fun i j => .bl (g i j)) := by
  intro pins s σ H x y v u Q I rx ry h
  obtain ⟨i, j, rfl, rfl, q⟩ := h
  obtain ⟨t, rfl⟩ := rx
  obtain ⟨t', rfl⟩ := ry
  exact rule i j t t' s _ _ ⟨.bl (g i j), H, I, rfl, q⟩
noncomputable def CMul (i j : Int) : Prop := (-(2 ^ 64) < i ∧ i < 2 ^ 64) ∨ (-(2 ^ 64) < j ∧ j < 2 ^ 64)
theorem CMul.ok {i j : Int} (h : CMul i j) : IntMulOk i j := by
  rcases h with ⟨h1, h2⟩ | ⟨h1, h2⟩
  · exact .of_left (intBits_le_64 h1 h2)
  · exact .of_right (intBits_le_64 h1 h2)
theorem qbb : OpR X (binaryOp .Add) (rI0 fun i j => .int (i + j)) := qre fun _ _ _ _ _ _ _ q => add_int q
theorem qbF : OpR X (binaryOp .Sub) (rI0 fun i j => .int (i - j)) := qre fun _ _ _ _ _ _ _ q => sub_int q
theorem qca : OpR X (binaryOp .Mod) (rI (fun _ j => 0 < j) fun i j => .int (i % j)) := opI fun i j _ _ _ _ _ hc q => by
  have h1 : (0 : Int) < j := hc
  exact mod_int' (by omega) (by rw [Int.fmod_eq_emod_of_nonneg i (by omega)]; exact q)
theorem qo4 : OpR X (binaryOp .Mod) (rI (fun _ j => j ≠ 0) fun i j => .int (i.fmod j)) := opI fun _ _ _ _ _ _ _ hc q => mod_int' hc q
theorem qgq : OpR X (inplaceOp .Sub) (rI0 fun i j => .int (i - j)) := qre fun _ _ _ _ _ _ _ q => isub_int q
theorem unI {f : Value → Sem Value} {g : Int → Int}
    (rule : ∀ (i : Int) (t : Tok) (s : Shared) (Q : Value → Shared → Prop) (E : Value → Shared → Prop), Q (.int (g i) s.toks) { s with toks := s.toks + 1 } → wpAny (model X.prog X.w) X.A (f (.int i t)) Q E s) :
    UnR X f (rU fun i => .int (g i)) := by
  intro pins s σ H x v Q I rx h
  obtain ⟨i, rfl, q⟩ := h
  obtain ⟨t, rfl⟩ := rx
  exact rule i t s _ _ ⟨.int (g i), H, I.tok _, ⟨_, rfl⟩, q⟩
theorem qbA : UnR X (unaryOp .USub) (rU fun i => .int (-i)) := unI fun _ _ _ _ _ q => neg_int q
end
noncomputable def scal : V → V → Bool
  | .non, .non => true | .non, .int _ => true | .int _, .non => true | .non, .bl _ => true | .bl _, .non => true | .non, .str _ => true | .str _, .non => true
  | .int _, .int _ => true | .bl _, .bl _ => true | .str _, .str _ => true | .byt _, .byt _ => true
  | .int _, .str _ => true | .str _, .int _ => true | .bl _, .str _ => true | .str _, .bl _ => true
  | _, _ => false
noncomputable def rEq : R2 := fun x y H Q => scal x y = true ∧ Q (.bl (decide (x = y))) H
noncomputable def rNe : R2 := fun x y H Q => scal x y = true ∧ Q (.bl (!decide (x = y))) H
theorem qlV {i j : Int} : decide (V.int i = V.int j) = (i == j) := by
  rw [Bool.eq_iff_iff]
  simp
theorem qoy {i j : Bool} : decide (V.bl i = V.bl j) = (i == j) := by
  rw [Bool.eq_iff_iff]
  simp
theorem qlW {i j : Str} : decide (V.str i = V.str j) = (i == j) := by
  rw [Bool.eq_iff_iff]
  simp
theorem qlX {i j : Array UInt8} : decide (V.byt i = V.byt j) = (i.toList == j.toList) := by
  rw [Bool.eq_iff_iff]
  cases i
  cases j
  simp
section
variable {X : Cx} {a b c : Expr} {ta tb tc : TE} {pos : Pos}
theorem qa4 {pins : List (Addr × Obj)} {σ : St} {H : Hp} {s : Shared} {Q : VK} {k k' : Bool} (I : Inv X pins σ H s) (q : Q (.bl k) H) (e : k = k') : EP X pins σ Q (.bool k') s := by
  subst e
  exact ⟨.bl k, H, I, rfl, q⟩
theorem qfZ : OpR X (compareOp .Eq) rEq := by
  intro pins s σ H x y v u Q I rx ry h
  obtain ⟨hs, q⟩ := h
  cases x with
  | non =>
    cases rx
    cases y with
    | non => cases ry; exact PySem.EqNone.eq_none_none (qa4 I q (by simp))
    | bl j => cases ry; exact PySem.EqNone.eq_none_bool (qa4 I q (by simp))
    | int j => obtain ⟨t', rfl⟩ := ry; exact PySem.EqNone.eq_none_int (qa4 I q (by simp))
    | str j => obtain ⟨t', rfl⟩ := ry; exact PySem.EqNone.eq_none_str (qa4 I q (by simp))
    | _ => exact absurd (show false = true from hs) Bool.false_ne_true
  | bl i =>
    cases rx
    cases y with
    | non => cases ry; exact PySem.EqNone.eq_bool_none (qa4 I q (by simp))
    | bl j => cases ry; exact eq_bool (qa4 I q qoy)
    | str j => obtain ⟨t', rfl⟩ := ry; exact PySem.EqMixed.eq_bool_str (qa4 I q (by simp))
    | _ => exact absurd (show false = true from hs) Bool.false_ne_true
  | int i =>
    obtain ⟨t, rfl⟩ := rx
    cases y with
    | non => cases ry; exact PySem.EqNone.eq_int_none (qa4 I q (by simp))
    | int j => obtain ⟨t', rfl⟩ := ry; exact eq_int (qa4 I q qlV)
    | str j => obtain ⟨t', rfl⟩ := ry; exact PySem.EqMixed.eq_int_str (qa4 I q (by simp))
    | _ => exact absurd (show false = true from hs) Bool.false_ne_true
  | str i =>
    obtain ⟨t, rfl⟩ := rx
    cases y with
    | non => cases ry; exact PySem.EqNone.eq_str_none (qa4 I q (by simp))
    | bl j => cases ry; exact PySem.EqMixed.eq_str_bool (qa4 I q (by simp))
    | int j => obtain ⟨t', rfl⟩ := ry; exact PySem.EqMixed.eq_str_int (qa4 I q (by simp))
    | str j => obtain ⟨t', rfl⟩ := ry; exact eq_str (qa4 I q qlW)
    | _ => exact absurd (show false = true from hs) Bool.false_ne_true
  | byt i =>
    obtain ⟨t, rfl⟩ := rx
    cases y with
    | byt j => obtain ⟨t', rfl⟩ := ry; exact PySem.W.eq_bytes (qa4 I q qlX)
    | _ => exact absurd (show false = true from hs) Bool.false_ne_true
  | _ => cases y <;> exact absurd (show false = true from hs) Bool.false_ne_true
theorem qlc : OpR X (compareOp .NotEq) rNe := by
  intro pins s σ H x y v u Q I rx ry h
  obtain ⟨hs, q⟩ := h
  cases x with
  | non =>
    cases rx
    cases y with
    | non => cases ry; exact PySem.EqNone.ne_none_none (qa4 I q (by simp))
    | bl j => cases ry; exact PySem.EqNone.ne_none_bool (qa4 I q (by simp))
    | int j => obtain ⟨t', rfl⟩ := ry; exact PySem.EqNone.ne_none_int (qa4 I q (by simp))
    | str j => obtain ⟨t', rfl⟩ := ry; exact PySem.EqNone.ne_none_str (qa4 I q (by simp))
    | _ => exact absurd (show false = true from hs) Bool.false_ne_true
  | bl i =>
    cases rx
    cases y with
    | non => cases ry; exact PySem.EqNone.ne_bool_none (qa4 I q (by simp))
    | bl j => cases ry; exact ne_bool (qa4 I q (congrArg not qoy))
    | str j => obtain ⟨t', rfl⟩ := ry; exact PySem.EqMixed.ne_bool_str (qa4 I q (by simp))
    | _ => exact absurd (show false = true from hs) Bool.false_ne_true
  | int i =>
    obtain ⟨t, rfl⟩ := rx
    cases y with
    | non => cases ry; exact PySem.EqNone.ne_int_none (qa4 I q (by simp))
    | int j => obtain ⟨t', rfl⟩ := ry; exact ne_int (qa4 I q (congrArg not qlV))
    | str j => obtain ⟨t', rfl⟩ := ry; exact PySem.EqMixed.ne_int_str (qa4 I q (by simp))
    | _ => exact absurd (show false = true from hs) Bool.false_ne_true
  | str i =>
    obtain ⟨t, rfl⟩ := rx
    cases y with
    | non => cases ry; exact PySem.EqNone.ne_str_none (qa4 I q (by simp))
    | bl j => cases ry; exact PySem.EqMixed.ne_str_bool (qa4 I q (by simp))
    | int j => obtain ⟨t', rfl⟩ := ry; exact PySem.EqMixed.ne_str_int (qa4 I q (by simp))
    | str j => obtain ⟨t', rfl⟩ := ry; exact ne_str (qa4 I q (congrArg not qlW))
    | _ => exact absurd (show false = true from hs) Bool.false_ne_true
  | byt i =>
    obtain ⟨t, rfl⟩ := rx
    cases y with
    | byt j => obtain ⟨t', rfl⟩ := ry; exact PySem.W.ne_bytes (qa4 I q (congrArg not qlX))
    | _ => exact absurd (show false = true from hs) Bool.false_ne_true
  | _ => cases y <;> exact absurd (show false = true from hs) Bool.false_ne_true
theorem qnO : OpR X (compareOp .Lt) (rI0 fun i j => .bl (decide (i < j))) := qrf fun _ _ _ _ _ _ _ q => lt_int q
theorem qgr : OpR X (compareOp .Gt) (rI0 fun i j => .bl (decide (j < i))) := qrf fun _ _ _ _ _ _ _ q => gt_int q
theorem qrg : OpR X (compareOp .GtE) (rI0 fun i j => .bl (decide (j ≤ i))) := qrf fun _ _ _ _ _ _ _ q => ge_int q
theorem qoz : OpR X (compareOp .Is) (fun x y H Q => y = .non ∧ Q (.bl (decide (x = .non))) H) := by
  intro pins s σ H x y v u Q I rx ry h
  obtain ⟨rfl, q⟩ := h
  cases ry
  refine is_none_gen (qa4 I q ?_)
  cases x <;> first
    | (cases rx; rfl)
    | (obtain ⟨t, rfl⟩ := rx; rfl)
theorem qo5 : OpR X (compareOp .IsNot) (fun x y H Q => y = .non ∧ Q (.bl (!decide (x = .non))) H) := by
  intro pins s σ H x y v u Q I rx ry h
  obtain ⟨rfl, q⟩ := h
  cases ry
  refine isnot_none_gen (qa4 I q ?_)
  cases x <;> first
    | (cases rx; rfl)
    | (obtain ⟨t, rfl⟩ := rx; rfl)
theorem nomark (b : Expr) {op : CmpOp} (h : op ≠ .In := by decide) (h2 : op ≠ .NotIn := by decide) : behindInMarks op b = false := by
  have e1 : (op == CmpOp.In) = false := by cases op <;> first | rfl | exact absurd rfl h
  have e2 : (op == CmpOp.NotIn) = false := by cases op <;> first | rfl | exact absurd rfl h2
  cases b <;> simp [behindInMarks, e1, e2]
theorem qjM {op : CmpOp} {r : R2} (ho : OpR X (compareOp op) r) (ha : PE X a ta) (hb : PE X b tb) (hm : behindInMarks op b = false) : PE X (.Compare a [op] [b] pos) (tOp r ta tb) := by
  intro pins s σ H Q I h
  exact wpAny_Compare1 (qrd ha hb I h fun v u s2 x y H2 I2 rx ry q => ho pins s2 σ H2 x y v u Q I2 rx ry q) hm
noncomputable def qbd (t : TE) : TT := fun σ H Q => t σ H fun x H' => ∃ k, x = .bl k ∧ Q k H'
theorem qaG {op : CmpOp} {r : R2} (ho : OpR X (compareOp op) r) (ha : PE X a ta) (hb : PE X b tb) (hm : behindInMarks op b = false) : PT X (.Compare a [op] [b] pos) (qbd (tOp r ta tb)) := by
  intro pins s σ H Q I h
  refine wpAny_isTrue_Compare1 (thn (ha pins s σ H _ I h) fun v s1 ⟨x, H1, I1, r1, q1⟩ => thn (hb pins s1 σ H1 _ I1 q1) fun u s2 ⟨y, H2, I2, r2, q2⟩ =>
    thn (ho pins s2 σ H2 x y v u _ I2 r1 r2 q2) fun c s3 ⟨z, H3, I3, r3, k, e, q3⟩ => ?_) hm
  subst e
  cases r3
  exact wpAny_truthy_bool ⟨H3, I3, q3⟩
noncomputable def qoA (r r' : R2) (ta tb tc : TE) : TE := fun σ H Q => ta σ H fun x H1 => tb σ H1 fun y H2 => r x y H2 fun z H3 => ∃ k, z = .bl k ∧
  (if k = true then tc σ H3 fun w' H4 => r' y w' H4 Q else Q (.bl false) H3)
noncomputable def qrX (K : PySem.W.Frag) (x : V) (H : Hp) (k : Bool) : Prop :=
  match x with
  | .non => k = false
  | .bl b => k = b
  | .int i => k = (i != 0)
  | .str y => y.length ≤ sizeLine ∧ k = ((y.length : Int) != 0)
  | .byt y => y.size ≤ sizeLine ∧ k = ((y.size : Int) != 0)
  | .ref p => (∃ xs, SqL K H p xs ∧ k = !xs.isEmpty) ∨ (∃ xs, SqT K H p xs ∧ k = !xs.isEmpty) ∨ ∃ kvs, H p = some (.dK kvs) ∧ k = !kvs.isEmpty
  | _ => False
theorem qld {κ : Type} {kvs : List (κ × V)} {vs : List (κ × Value)} (r : KV kvs vs) : (!vs.isEmpty) = !kvs.isEmpty := by
  cases r <;> rfl
theorem qhG {xs : List V} {its : List Value} (r : Vals xs its) : (!its.toArray.isEmpty) = !xs.isEmpty := by
  cases r <;> simp
theorem qhH : (sizeLine : Nat) < 2 ^ 63 := by rw [sizeLine_eq]; decide
theorem qqc : qrW X (fun x H Q => ∃ k, qrX X.K x H k ∧ Q k H) := by
  intro pins s σ H x v Q I rx h
  obtain ⟨k, e, q⟩ := h
  have hl := qhH
  have hs : sizeLine = 16777216 := sizeLine_eq
  cases x with
  | non =>
    cases rx
    have e' : k = false := e
    subst e'
    exact truthy_none ⟨H, I, q⟩
  | bl b =>
    cases rx
    have e' : k = b := e
    subst e'
    exact wpAny_truthy_bool ⟨H, I, q⟩
  | int i =>
    obtain ⟨t, rfl⟩ := rx
    have e' : k = (i != 0) := e
    subst e'
    exact PySem.P.truthy_int ⟨H, I, q⟩
  | str y =>
    obtain ⟨t, rfl⟩ := rx
    obtain ⟨hy, e'⟩ : y.length ≤ sizeLine ∧ k = ((y.length : Int) != 0) := e
    subst e'
    exact PySem.P.truthy_str (by omega) ⟨H, I.tok _, q⟩
  | byt y =>
    obtain ⟨t, rfl⟩ := rx
    obtain ⟨hy, e'⟩ : y.size ≤ sizeLine ∧ k = ((y.size : Int) != 0) := e
    subst e'
    exact PySem.W.truthy_bytes (by omega) ⟨H, I.tok _, q⟩
  | ref p =>
    cases rx
    have e' : (∃ xs, SqL X.K H p xs ∧ k = !xs.isEmpty) ∨ (∃ xs, SqT X.K H p xs ∧ k = !xs.isEmpty) ∨ ∃ kvs, H p = some (.dK kvs) ∧ k = !kvs.isEmpty := e
    rcases e' with ⟨xs, hx, e'⟩ | ⟨xs, hx, e'⟩ | ⟨kvs, hx, e'⟩
    · subst e'
      obtain ⟨its, r, pl, hz⟩ := I.list hx
      have hlen := r.length
      exact wpAny_truthy_list pl.isList (by simp only [List.size_toArray]; omega) ⟨H, I.tok _, by rw [qhG r]; exact q⟩
    · subst e'
      obtain ⟨its, r, pl, hz⟩ := I.tuple hx
      have hlen := r.length
      exact truthy_tuple pl (by simp only [List.size_toArray]; omega) ⟨H, I.tok _, by rw [qhG r]; exact q⟩
    · subst e'
      obtain ⟨hz, hS, vs, r, m⟩ : kvs.length ≤ sizeLine ∧ (p == sysModules) = false ∧ ∃ vs, KV kvs vs ∧ s.heap.DictOf (qjI X.prog X.w) p vs := I.hok p _ hx
      have hlen : kvs.length = vs.length := Paired.length r
      exact wpAny_truthy_dict hS m (by omega) ⟨H, I.tok _, by rw [qld r]; exact q⟩
  | _ => exact (show False from e).elim
theorem qgs {x : V} {us : List Value} (r : Vals [x] us) : ∃ u, us = [u] ∧ RelV x u := by
  cases r with
  | cons r1 r2 => cases r2; exact ⟨_, rfl, r1⟩
theorem vals2 {x y : V} {us : List Value} (r : Vals [x, y] us) : ∃ u w', us = [u, w'] ∧ RelV x u ∧ RelV y w' := by
  cases r with
  | cons r1 r2 =>
    cases r2 with
    | cons r3 r4 => cases r4; exact ⟨_, _, rfl, r1, r3⟩
theorem qnP : qdW X (.builtin "abs") (fun xs H Q => ∃ i, xs = [.int i] ∧ Q (.int (if i < 0 then -i else i)) H) := by
  intro pins s σ H xs us Q I r h
  obtain ⟨i, rfl, q⟩ := h
  obtain ⟨u, rfl, t, rfl⟩ := qgs r
  exact call_abs_int fun u tk => ⟨.int (if i < 0 then -i else i), H, I.tok _, ⟨_, rfl⟩, q⟩
theorem qlY (hc : X.calm = true) : qdW X (.builtin "max") (fun xs H Q => ∃ i j, xs = [.int i, .int j] ∧ Q (.int (if j > i then j else i)) H) := by
  intro pins s σ H xs us Q I r h
  obtain ⟨i, j, rfl, q⟩ := h
  obtain ⟨u, w', rfl, ⟨t, rfl⟩, ⟨t', rfl⟩⟩ := vals2 r
  refine max_two_ints (I.ok.hd hc) fun h' tk k => ⟨_, H, I.kept k, ?_, q⟩
  by_cases hj : j > i
  · rw [if_pos hj, if_pos hj]; exact ⟨_, rfl⟩
  · rw [if_neg hj, if_neg hj]; exact ⟨_, rfl⟩
theorem qlZ : qdW X (.type "int") (fun xs H Q => (∃ i, xs = [.int i] ∧ Q (.int i) H) ∨ ∃ k, xs = [.bl k] ∧ Q (.int (if k then 1 else 0)) H) := by
  intro pins s σ H xs us Q I r h
  rcases h with ⟨i, rfl, q⟩ | ⟨k, rfl, q⟩
  · obtain ⟨u, rfl, t, rfl⟩ := qgs r
    exact call_int_int ⟨.int i, H, I, ⟨_, rfl⟩, q⟩
  · obtain ⟨u, rfl, r1⟩ := qgs r
    cases r1
    exact call_int_bool ⟨.int (if k then 1 else 0), H, I.tok _, ⟨_, rfl⟩, q⟩
end
end L2
namespace L2
open PySem PySem.Spec PyProof.Rows
structure ObjM (h : Heap) (x dx C : Addr) (mA : Str → Option Value) : Prop where
  obj : h.get? x = some (PySem.W.instObj C dx)
  ns : h.Ns1 dx mA
  ne : dx ≠ x
section
variable {prog : Program} {w : World} {A : Around} {E : Value → Shared → Prop} {s : Shared} {K : PySem.W.Frag} {x dx C f : Addr} {mA : Str → Option Value} {name : Str} {v : Value}
end
section
variable {P : Program} {w : World} {H H' : Hp} {h h' : Heap} {a C dx : Addr} {fs fs' : List (Str × V)}
end
structure Cls (K : PySem.W.Frag) (C : Addr) : Prop where
  pg : PySem.W.plainGet K C Str.empty = true
  hd : PySem.W.hasDictIn K C = true
  po : PySem.W.plainOver K C = true
  sa : PySem.W.findIn K (.ref C) "__setattr__" = some (some (.builtin "object.__setattr__"))
theorem Cls.get {K : PySem.W.Frag} {C : Addr} (c : Cls K C) (f : Str) : PySem.W.plainGet K C f = true := c.pg
structure Con (K : PySem.W.Frag) (C : Addr) (f : Str) (v : V) (u : Value) : Prop where
  at_ : PySem.W.findIn K (.ref C) f = some (some u)
  rel : RelV v u
  get : PySem.W.specialIn K u "__get__" = some none
  cp : PySem.W.copiedNames.contains f = false
structure Meth (K : PySem.W.Frag) (C : Addr) (m : Str) (f : Addr) : Prop where
  at_ : PySem.W.findIn K (.ref C) m = some (some (.ref f))
  fn : PySem.W.isFn K (.ref f) = true
  kp : PySem.W.keepIn K (.ref f) = true
section
variable {X : Cx} {pins : List (Addr × Obj)} {σ : St} {H : Hp} {s : Shared} {a C dx : Addr} {fs : List (Str × V)} {f : Str} {v : V} {A : Around} {E : Value → Shared → Prop}
end
section
variable {X : Cx} {o e value : Expr} {f : Str} {pos pos' tpos : Pos} {ta tv : TE}
end
section
variable {X : Cx} {pins : List (Addr × Obj)} {σ : St} {H : Hp} {s : Shared} {A : Around} {E : Value → Shared → Prop} {Q : Value → Shared → Prop} {c : Value} {b : Bool}
inductive TyOf (K : PySem.W.Frag) (H : Hp) : V → Value → Prop where
  | non : TyOf K H .non (.type "NoneType")
  | bl (x : Bool) : TyOf K H (.bl x) (.type "bool")
  | int (i : Int) : TyOf K H (.int i) (.type "int")
  | str (x : Str) : TyOf K H (.str x) (.type "str")
  | flt (x : UInt64) : TyOf K H (.flt x) (.type "float")
  | lst {a : Addr} {xs : List V} (e : H a = some (.lst xs)) : TyOf K H (.ref a) (.type "list")
  | frz {a : Addr} {o : Obj} {xs : List V} (e : H a = some (.frz o (.lst xs))) : TyOf K H (.ref a) (.type "list")
  | tup {a : Addr} {xs : List V} (e : H a = some (.tup xs)) : TyOf K H (.ref a) (.type "tuple")
  | dK {a : Addr} {kvs : List (Key × V)} (e : H a = some (.dK kvs)) : TyOf K H (.ref a) (.type "dict")
  | dT {a : Addr} {kvs : List (List Key × V)} (e : H a = some (.dT kvs)) : TyOf K H (.ref a) (.type "dict")
  | ins {a C dx : Addr} {fs : List (Str × V)} (e : H a = some (.ins C dx fs)) (cl : Cls K C) (ha : PySem.W.findIn K (.ref C) "__class__" = some (some (.builtin "object.__class__")))
      (hn : PySem.W.specialIn K (.builtin "object.__class__") "__get__" = some (some (.builtin "getset_descriptor.__get__"))) (htk : PySem.W.takesIn K (.builtin "object.__class__") = some true)
      (hm : PySem.W.mroIn K C (.type "object") = some true) : TyOf K H (.ref a) (.ref C)
end
end L2
namespace L2
open PySem PySem.Spec PyProof.Rows
structure Room (k : Nat) (A : Around) : Prop where
  hd : A.handled = none
  dp : A.depth + 3 * k + 105 < recursionLimit
  un : A.units + 16 * k + 200 < cLine
theorem Room.mono {j k : Nat} {A : Around} (r : Room k A) (h : j ≤ k) : Room j A := ⟨r.hd, by have := r.dp; omega, by have := r.un; omega⟩
theorem Room.deeper {k : Nat} {A : Around} (r : Room (k + 1) A) (env : Env) : Room k (A.deeper env) :=
  ⟨r.hd, by have := r.dp; show A.depth + 1 + 3 * k + 105 < _; omega, by have := r.un; show A.units + 3 + 16 * k + 200 < _; omega⟩
theorem Room.in1 {k : Nat} {A : Around} (r : Room (k + 1) A) : Room k A.in1 :=
  ⟨r.hd, by have := r.dp; show A.depth + 3 * k + 105 < _; omega, by have := r.un; show A.units + 1 + 16 * k + 200 < _; omega⟩
theorem Room.depth {k : Nat} {A : Around} (r : Room k A) : A.depth < recursionLimit := by have := r.dp; omega
theorem Room.units {k : Nat} {A : Around} (r : Room k A) : A.units + 64 < cLine := by have := r.un; omega
theorem Room.units0 {k : Nat} {A : Around} (r : Room k A) : A.units < cLine := by have := r.un; omega
noncomputable def qau : TA := fun _ H Q => Q [] H
noncomputable def qab (ta : TE) (tr : TA) : TA := fun σ H Q => ta σ H fun x H1 => tr σ H1 fun xs H2 => Q (x :: xs) H2
section
variable {X : Cx} {e : Expr} {es : List Expr} {te : TE} {t : TA} {pos : Pos}
theorem qad : PA X [] qau := fun _ _ _ _ H Q I h => Calls.spliced_nil ⟨[], H, I, .nil, h⟩
theorem qaa (ha : PE X e te) (hr : PA X es t) (hs : starEach (e :: es) X.env = (false, eval e X.env) :: starEach es X.env := by rfl) : PA X (e :: es) (qab te t) := by
  intro pos pins s σ H Q I h
  rw [hs]
  show wpAny _ _ (spliced ((false, eval e X.env) :: backTo pos (starEach es X.env))) _ _ s
  refine Calls.spliced_cons (thn (ha pins s σ H _ I h) fun u s1 ⟨x, H1, I1, r1, q1⟩ => ?_)
  exact thn (hr pos pins s1 σ H1 _ I1 q1) fun us s2 ⟨xs, H2, I2, r2, q2⟩ => ⟨x :: xs, H2, I2, .cons r1 r2, q2⟩
noncomputable def qh3 (t : TA) : TE := fun σ H Q => t σ H fun xs H1 => xs.length ≤ sizeLine ∧ ∀ p, H1 p = none → Q (.ref p) (upd H1 p (.tup xs))
noncomputable def qga (t : TA) : TE := fun σ H Q => t σ H fun xs H1 => xs.length ≤ sizeLine ∧ ∀ p, H1 p = none → Q (.ref p) (upd H1 p (.lst xs))
theorem qcx {x1} (h : PA X es t) : PE X (.Tuple es x1 pos) (qh3 t) := by
  intro pins s σ H Q I hq
  refine wpAny_Tuple_spliced (thn (h pos pins s σ H _ I hq) fun us s1 ⟨xs, H1, I1, r, z, q⟩ => ⟨by rw [← r.length]; exact z, ?_⟩)
  have hf : H1 s1.heap.objs.size = none := I1.hok.fresh (Nat.le_refl _)
  refine ⟨.ref s1.heap.objs.size, upd H1 s1.heap.objs.size (.tup xs), I1.laid (t' := s1.toks) (fun b u e => Heap.get?_push_of_some _ e) (Nat.le_refl _) ?_, rfl, q _ hf⟩
  exact ⟨z, us, r, ⟨_, Heap.get?_push_size _ rfl, rfl, _, rfl⟩⟩
theorem qbL (h : PA X es t) : PE X (.List es pos) (qga t) := by
  intro pins s σ H Q I hq
  refine wpAny_List_spliced (thn (h pos pins s σ H _ I hq) fun us s1 ⟨xs, H1, I1, r, z, q⟩ => ⟨by rw [← r.length]; exact z, ?_⟩)
  have hf : H1 s1.heap.objs.size = none := I1.hok.fresh (Nat.le_refl _)
  refine ⟨.ref s1.heap.objs.size, upd H1 s1.heap.objs.size (.lst xs), I1.laid (t' := s1.toks) (fun b u e => Heap.get?_push_of_some _ e) (Nat.le_refl _) ?_, rfl, q _ hf⟩
  exact ⟨z, us, 0, r, Heap.get?_push_size _ rfl⟩
end
noncomputable abbrev Sp := List V → Hp → VK → XK → Prop
noncomputable abbrev CXT := List Env → Hp → Shared → XK → Value → Shared → Prop
structure Env0 (P : Program) (w : World) (K : PySem.W.Frag) (mg : Str → Option Value) (base : Heap) (A : Around) (outer : List Env) (s : Shared) (H : Hp) : Prop where
  frames : A.frames = some outer
  mod : Mod K mg base
  bs : ∀ b o, base.get? b = some o → s.heap.get? b = some o ∧ H b = none
  bsz : base.objs.size ≤ s.heap.objs.size
  funs : s.heap.FunFrames base outer
  frf : ∀ b ∈ frs outer, H b = none
  hok : HOk P w H s.heap
  bare : AllBare s.gens
  seer : base.NoSeer
  tree : (model P w).prog.given.tree = none
noncomputable def CE (outer : List Env) (P : Program) (w : World) (H : Hp) (s : Shared) (Q : VK) (u : Value) (s' : Shared) : Prop :=
  ∃ v H', s'.os = s.os ∧ AllBare s'.gens ∧ Un (frs outer) [] H H' s.heap s'.heap ∧ HOk P w H' s'.heap ∧ RelV v u ∧ Q v H'
noncomputable def CR (CX : CXT) (outer : List Env) (P : Program) (w : World) (H : Hp) (s : Shared) (Q : VK) (E : XK) (r : Result) (s' : Shared) : Prop :=
  match r with
  | .ok (.ret u) => CE outer P w H s Q u s'
  | .ok _ => False
  | .error e => CX outer H s E e s'
structure FnOk (P : Program) (w : World) (K : PySem.W.Frag) (mg : Str → Option Value) (base : Heap) (CX : CXT) (k : Nat) (f : Addr) (fd : FuncData) (ps : List Str) (sp : Sp) : Prop where
  len : ∀ vs H Q E, sp vs H Q E → vs.length = ps.length
  run : ∀ (A : Around) (outer : List Env) (s : Shared) (H : Hp) (args : Args) (us : List Value) (vs : List V) (Q : VK) (E : XK), Room k A → Env0 P w K mg base A outer s H → BindsTo s fd args (ps.zip us) → Vals vs us → sp vs H Q E →
    codeAny (model P w) A (.call (.ref f) args) (CR CX outer P w H s Q E) s
theorem FnOk.mono {P : Program} {w : World} {K : PySem.W.Frag} {mg : Str → Option Value} {base : Heap} {CX : CXT} {j k : Nat} {f : Addr} {fd : FuncData} {ps : List Str} {sp : Sp} (F : FnOk P w K mg base CX j f fd ps sp) (h : j ≤ k) :
    FnOk P w K mg base CX k f fd ps sp := ⟨F.len, fun A outer s H args us vs Q E hr => F.run A outer s H args us vs Q E (hr.mono h)⟩
theorem FnOk.imp {P : Program} {w : World} {K : PySem.W.Frag} {mg : Str → Option Value} {base : Heap} {CX : CXT} {k : Nat} {f : Addr} {fd : FuncData} {ps : List Str} {sp sp' : Sp} (F : FnOk P w K mg base CX k f fd ps sp)
    (h : ∀ vs H Q E, sp' vs H Q E → sp vs H Q E) : FnOk P w K mg base CX k f fd ps sp' :=
  ⟨fun vs H Q E q => F.len vs H Q E (h _ _ _ _ q), fun A outer s H args us vs Q E hr he hb hv hs => F.run A outer s H args us vs Q E hr he hb hv (h _ _ _ _ hs)⟩
theorem Env0.in1 {P : Program} {w : World} {K : PySem.W.Frag} {mg : Str → Option Value} {base : Heap} {A : Around} {outer : List Env} {s : Shared} {H : Hp} (e : Env0 P w K mg base A outer s H) :
    Env0 P w K mg base A.in1 outer s H := ⟨e.frames, e.mod, e.bs, e.bsz, e.funs, e.frf, e.hok, e.bare, e.seer, e.tree⟩
section
variable {X : Cx} {pins : List (Addr × Obj)} {σ : St} {H : Hp} {s s' : Shared}
theorem Inv.env0 (I : Inv X pins σ H s) : Env0 X.prog X.w X.K X.mg X.base X.A X.stack s H :=
  ⟨I.ok.frames, I.ok.mod, I.bs, Nat.le_trans I.ok.bsz I.sz, I.stack, I.stkFree, I.hok, I.bare, I.ok.seer, I.ok.tree⟩
theorem Inv.after {Q : VK} {u : Value} (I : Inv X pins σ H s) (h : CE X.stack X.prog X.w H s Q u s') : EP X pins σ Q u s' := by
  obtain ⟨v, H', os, bare, un, hok, r, q⟩ := h
  obtain ⟨hh, g, d, t, os'⟩ := s'
  obtain rfl : os' = s.os := os
  exact ⟨v, H', I.call (h' := hh) (g' := g) (d' := d) (t' := t) (ch := []) un hok bare (fun b z => absurd z (by simp)), r, q⟩
end
noncomputable def qaw (sp : Sp) (dvs : List V) (E : XK) (t : TA) : TE := fun σ H Q => t σ H fun vs H1 => sp (vs ++ dvs) H1 Q E
noncomputable def Binds (K : PySem.W.Frag) (fd : FuncData) (ps : List Str) (ds : List Value) : Prop :=
  ∀ (s : Shared) (us : List Value), K.In s.heap → (us ++ ds).length = ps.length → BindsTo s fd ⟨us, []⟩ (ps.zip (us ++ ds))
theorem Binds.all {K : PySem.W.Frag} {fd : FuncData} {ps : List Str} (h : ∀ us : List Value, us.length = ps.length → bindArgs fd ⟨us, []⟩ = pure (ps.zip us)) : Binds K fd ps [] := fun s us _ hl => by
  rw [List.append_nil] at hl ⊢
  exact .of_eq (h us hl)
noncomputable def Passes (CX : CXT) (X : Cx) (E : XK) : Prop := ∀ (pins : List (Addr × Obj)) (σ : St) (H : Hp) (s : Shared) (e : Value) (s' : Shared), Inv X pins σ H s → CX X.stack H s E e s' → X.xe e s'
section
variable {X : Cx} {CX : CXT} {k : Nat} {f C : Addr} {fd : FuncData} {ps : List Str} {sp : Sp} {dvs : List V} {ds : List Value} {E : XK} {x m : Str} {p pos apos : Pos} {e o : Expr} {es : List Expr} {ta : TE} {t : TA}
theorem qqd {pins : List (Addr × Obj)} {σ : St} {H : Hp} {s : Shared} {Q : VK} {us : List Value} {vs : List V} (F : FnOk X.prog X.w X.K X.mg X.base CX k f fd ps sp) (hr : Room k X.A) (hb : Binds X.K fd ps ds) (hd : Vals dvs ds) (hx : Passes CX X E)
    (I : Inv X pins σ H s) (r : Vals vs us) (h : sp (vs ++ dvs) H Q E) : wpAny (model X.prog X.w) X.A (call (.ref f) us) (EP X pins σ Q) X.xe s := by
  have r2 : Vals (vs ++ dvs) (us ++ ds) := r.append hd
  have hl : (us ++ ds).length = ps.length := by rw [← r2.length]; exact F.len _ _ _ _ h
  refine wpAny_call (codeAny_mono (F.run X.A X.stack s H ⟨us, []⟩ (us ++ ds) (vs ++ dvs) Q E hr I.env0 (hb s us I.kIn hl) r2 h) fun r s' hq => ?_)
  cases r with
  | error e => exact hx pins σ H s e s' I hq
  | ok fl =>
    cases fl with
    | ret u => exact I.after hq
    | next => exact False.elim hq
    | brk => exact False.elim hq
    | cont => exact False.elim hq
theorem qo6 (F : FnOk X.prog X.w X.K X.mg X.base CX k f fd ps sp) (hr : Room k X.A) (hg : Gl X x) (hm : X.mg x = some (.ref f)) (hk : PySem.W.keepIn X.K (.ref f) = true) (hb : Binds X.K fd ps ds) (hd : Vals dvs ds) (hx : Passes CX X E)
    (ha : PA X (e :: es) t) (hdb : (x == ("__debug__" : Str)) = false := by decide) (he : starEach (e :: es) X.env = (false, eval e X.env) :: starEach es X.env := by rfl) (hpl : (backTo pos (starEach es X.env)).any (·.1) = false := by rfl) :
    PE X (.Call (.Name x p) (e :: es) [] pos) (qaw sp dvs E t) := by
  intro pins s σ H Q I h
  refine wpAny_Call_Name_kw (qlL I hg hm ?_ hdb)
  refine PySem.W.callWith_K (h₀ := X.base) I.ok.mod.kin hk (thn (ha pos pins s σ H _ I h) fun us s1 ⟨vs, H1, I1, r, q⟩ => ⟨I1.kIn, ?_⟩) he hpl
  exact qqd F hr hb hd hx I1 r q
structure Mk (K : PySem.W.Frag) (C f : Addr) : Prop where
  makes : PySem.W.makesIn K C = true
  init : PySem.W.findIn K (.ref C) "__init__" = some (some (.ref f))
  fn : PySem.W.isFn K (.ref f) = true
  kp : PySem.W.keepIn K (.ref C) = true
end
noncomputable def PK (X : Cx) (kws : List Keyword) (t : TA) : Prop :=
  ∀ (pos : Pos) (pins : List (Addr × Obj)) (s : Shared) (σ : St) (H : Hp) (Q : List V → Hp → Prop), Inv X pins σ H s → t σ H Q → wpAny (model X.prog X.w) X.A (evalAll ((backToKw pos (keywordEach kws X.env)).map (·.2))) (AP X pins σ Q) X.xe s
section
variable {X : Cx} {CX : CXT} {k : Nat} {f C : Addr} {fd : FuncData} {ps ks : List Str} {sp : Sp} {E : XK} {x m : Str} {p pos apos kpos : Pos} {e o : Expr} {es : List Expr} {kws : List Keyword} {te ta : TE} {t tk : TA} {nm : Option Str}
theorem qqe : PK X [] qau := fun _ _ _ _ H Q I h => wpAny_evalAll_nil ⟨[], H, I, .nil, h⟩
theorem qo7 (ha : PE X e te) (hr : PK X kws t) : PK X (⟨nm, e, kpos⟩ :: kws) (qab te t) := by
  intro pos pins s σ H Q I h
  show wpAny _ _ (evalAll ((do let v ← eval e X.env; standAt pos; pure v) :: (backToKw pos (keywordEach kws X.env)).map (·.2))) _ _ s
  refine wpAny_evalAll_cons (wpAny_bind (thn (ha pins s σ H _ I h) fun u s1 ⟨x, H1, I1, r1, q1⟩ => wpAny_bind (wpAny_standAt (wpAny_pure ?_))))
  exact thn (hr pos pins s1 σ H1 _ I1 q1) fun us s2 ⟨xs, H2, I2, r2, q2⟩ => ⟨x :: xs, H2, I2, .cons r1 r2, q2⟩
structure KBinds (K : PySem.W.Frag) (fd : FuncData) (ps ks : List Str) (g : List Value → List Value → List Value) (gV : List V → List V → List V) : Prop where
  to : ∀ (s : Shared) (us ws : List Value), K.In s.heap → (g us ws).length = ps.length → BindsTo s fd ⟨us, ks.zip ws⟩ (ps.zip (g us ws))
  rel : ∀ {vs : List V} {us : List Value} {zs : List V} {ws : List Value}, Vals vs us → Vals zs ws → Vals (gV vs zs) (g us ws)
variable {g : List Value → List Value → List Value} {gV : List V → List V → List V}
end
structure FnScope (N P : List Str) (sc : Scope) : Prop where
  kind : sc.kind = .function
  co : sc.isCoroutine = false
  gen : sc.isGenerator = false
  nd : N.Nodup
  pre : N.take P.length = P
  par : ∀ x ∈ P, sc.names.lookup x = some .local ∨ sc.names.lookup x = some .cell
  nofree : ∀ y ∈ sc.names, y.2 ≠ .free
theorem qiZ {kindOf : Str → Option NameKind} {x : Str} : ∀ {binds : List (Str × Value)} {m : Str → Option Value}, (∀ v, (x, v) ∉ binds) → bindL kindOf binds m x = m x
  | [], _, _ => rfl
  | (n, v) :: r, m, h => by
    unfold bindL
    rw [qiZ fun w hw => h w (List.mem_cons_of_mem _ hw)]
    split
    · have : x ≠ n := by rintro rfl; exact h v List.mem_cons_self
      simp [this]
    · rfl
theorem qi0 {kindOf : Str → Option NameKind} {x : Str} : ∀ {binds : List (Str × Value)} {m : Str → Option Value}, (∀ v, (x, v) ∉ binds) → bindC kindOf binds m x = m x
  | [], _, _ => rfl
  | (n, v) :: r, m, h => by
    unfold bindC
    rw [qi0 fun w hw => h w (List.mem_cons_of_mem _ hw)]
    split
    · rfl
    · have : x ≠ n := by rintro rfl; exact h v List.mem_cons_self
      simp [this]
theorem qi1 {kindOf : Str → Option NameKind} {x : Str} {v : Value} : ∀ {P : List Str} {vs : List Value} {i : Nat} {m : Str → Option Value}, P.Nodup → P[i]? = some x → vs[i]? = some v → kindOf x = some .local →
    bindL kindOf (P.zip vs) m x = some v
  | [], _, _, _, _, h, _, _ => by simp at h
  | _ :: _, [], _, _, _, _, h, _ => by simp at h
  | p :: P, w :: vs, 0, m, nd, h1, h2, hk => by
    simp at h1 h2; subst h1; subst h2
    show bindL kindOf ((p, w) :: P.zip vs) m p = _
    unfold bindL
    rw [qiZ fun v hv => (List.nodup_cons.mp nd).1 (List.of_mem_zip hv).1, if_pos hk]
    simp
  | p :: P, w :: vs, i + 1, m, nd, h1, h2, hk => by
    show bindL kindOf ((p, w) :: P.zip vs) m x = _
    unfold bindL
    exact qi1 (i := i) (List.nodup_cons.mp nd).2 (by simpa using h1) (by simpa using h2) hk
theorem qi2 {kindOf : Str → Option NameKind} {x : Str} {v : Value} : ∀ {P : List Str} {vs : List Value} {i : Nat} {m : Str → Option Value}, P.Nodup → P[i]? = some x → vs[i]? = some v → kindOf x ≠ some .local →
    bindC kindOf (P.zip vs) m x = some v
  | [], _, _, _, _, h, _, _ => by simp at h
  | _ :: _, [], _, _, _, _, h, _ => by simp at h
  | p :: P, w :: vs, 0, m, nd, h1, h2, hk => by
    simp at h1 h2; subst h1; subst h2
    show bindC kindOf ((p, w) :: P.zip vs) m p = _
    unfold bindC
    rw [qi0 fun v hv => (List.nodup_cons.mp nd).1 (List.of_mem_zip hv).1, if_neg hk]
    simp
  | p :: P, w :: vs, i + 1, m, nd, h1, h2, hk => by
    show bindC kindOf ((p, w) :: P.zip vs) m x = _
    unfold bindC
    exact qi2 (i := i) (List.nodup_cons.mp nd).2 (by simpa using h1) (by simpa using h2) hk
noncomputable def start (N : List Str) (vs : List V) : St := vs.map some ++ List.replicate (N.length - vs.length) none
noncomputable def qpX (CX : CXT) (P : Program) (w : World) (K : PySem.W.Frag) (mg : Str → Option Value) (base : Heap) (N : List Str) (qual : Str) (scope : Scope) (f : Addr) (cd : Value) (A : Around) (outer : List Env) (s : Shared) (H : Hp) (E : XK) : Cx where
  prog := P
  w := w
  K := K
  mg := mg
  base := base
  A := A.deeper (envOfC qual scope s.heap.objs.size f cd)
  N := N
  s₀ := s
  H₀ := H
  env := envOfC qual scope s.heap.objs.size f cd
  outer := outer
  stack := envOfC qual scope s.heap.objs.size f cd :: outer
  ex := []
  calm := true
  fn := fun _ => true
  pn := []
  xe := fun e s' => wpAny (model P w) (A.deeper (envOfC qual scope s.heap.objs.size f cd)) (leaving (envOfC qual scope s.heap.objs.size f cd) e) (fun _ s'' => CX outer H s E e s'') (fun e' s'' => CX outer H s E e' s'') s'
theorem qku {sc : Scope} {n : Nat} {x : Str} (h : sc.names.lookup x = some .cell) : ∃ c, (cellsFrom n sc.names []).lookup x = some c := by
  have q := PySem.W.cellsFrom_some sc.names n [] (.inl h)
  exact Option.isSome_iff_exists.mp q
theorem ql0 {CX : CXT} {P : Program} {w : World} {K : PySem.W.Frag} {mg : Str → Option Value} {base : Heap} {N ps : List Str} {qual : Str} {scope : Scope} {f : Addr} {cd : Value} {A : Around} {outer : List Env} {s s1 : Shared} {H : Hp} {E : XK} {us : List Value} {vs : List V}
    (S : FnScope N ps scope) (hd : A.handled = none) (hdp : (A.deeper (envOfC qual scope s.heap.objs.size f cd)).depth + Builtin.pylongFrames < recursionLimit) (e0 : Env0 P w K mg base A outer s H) (hl : vs.length = ps.length) (r : Vals vs us)
    (x : InCallC s s.heap.objs.size (bindL (envOfC qual scope s.heap.objs.size f cd).kindOf (ps.zip us) fun _ => none) (cellsFrom (s.heap.objs.size + 1) scope.names []) (bindC (envOfC qual scope s.heap.objs.size f cd).kindOf (ps.zip us) fun _ => none) s1) :
    Inv (qpX CX P w K mg base N qual scope f cd A outer s H E) [] (start N vs) H s1 := by
  have hpl : ps.length ≤ N.length := by have := congrArg List.length S.pre; rw [List.length_take] at this; omega
  obtain ⟨h1, tk, rfl, hk⟩ := x.done
  have noA : ∀ b : Addr, b ∉ (qpX CX P w K mg base N qual scope f cd A outer s H E).ex := fun b z => absurd (show b ∈ ([] : List Addr) from z) (by simp)
  refine ⟨⟨e0.mod, S.kind, rfl, rfl, Nat.le_refl _, fun y z c h1 h2 => ?_, fun y hy => ?_, fun y c _ h => ?_, fun _ => hd, Around.frames_deeper e0.frames, .inr ⟨rfl, rfl⟩, fun b z => absurd z (noA b), e0.bs, e0.bsz, fun b _ _ => noA b, fun b z => absurd z (noA b), e0.funs, e0.frf, e0.seer, e0.tree, fun s' hk' => PySem.PylongRoom.of (e0.mod.nolimit.keeps hk') hdp (PySem.SeerAt.of (e0.seer.keeps hk') e0.tree (Around.frames_deeper e0.frames) S.gen S.co rfl rfl)⟩,
    rfl, e0.bare, Un.kept hk, ⟨_, x.toInCall.ns, fun i y v h1 h2 h3 => ?_⟩, fun y c h => ⟨_, x.cell y c h⟩, e0.hok.fresh (Nat.le_refl _), fun y c h => ?_, fun p hp => absurd (show p ∈ ([] : List (Addr × Obj)) from hp) (by simp), e0.hok.kept hk, ?_⟩
  · exact name_of_addr x.apart (PySem.mem_of_lookup h1) (PySem.mem_of_lookup h2)
  · have hy : scope.names.lookup y = some .cell ∨ scope.names.lookup y = some .free := hy
    rcases hy with hy | hy
    · exact qku hy
    · exact absurd rfl (S.nofree _ (PySem.mem_of_lookup hy))
  · exact Nat.le_of_lt (x.above y c (PySem.mem_of_lookup h))
  · have hi : i < vs.length := by
      unfold start at h2
      by_cases hi : i < vs.length
      · exact hi
      · rw [List.getElem?_append_right (by simpa using hi)] at h2
        rw [List.getElem?_replicate] at h2
        split at h2 <;> cases h2
    have ha : vs[i]? = some v := by
      unfold start at h2
      rw [List.getElem?_append_left (by simpa using hi), List.getElem?_map] at h2
      cases e : vs[i]? with
      | none => rw [e] at h2; cases h2
      | some a => rw [e] at h2; cases h2; rfl
    obtain ⟨u, hu, rv⟩ := r.get ha
    have hp : ps[i]? = some y := by
      rw [← S.pre, List.getElem?_take_of_lt (by omega)]; exact h1
    have ndP : ps.Nodup := by rw [← S.pre]; exact S.nd.sublist (List.take_sublist _ _)
    refine ⟨u, rv, ?_⟩
    rcases S.par y (List.mem_of_getElem? hp) with k | k
    · exact .inl ⟨k, qi1 ndP hp hu k⟩
    · obtain ⟨c, e⟩ := qku (n := s.heap.objs.size + 1) k
      refine .inr ⟨.inl k, c, e, ?_⟩
      have q := x.cell y c e
      rw [qi2 ndP hp hu (by show scope.names.lookup y ≠ _; rw [k]; decide)] at q
      exact q
  · exact e0.hok.fresh (Nat.le_of_lt (x.above y c (PySem.mem_of_lookup h)))
  · unfold start
    show _ = N.length
    rw [List.length_append, List.length_map, List.length_replicate]
    omega
theorem qrh {CX : CXT} {P : Program} {w : World} {K : PySem.W.Frag} {mg : Str → Option Value} {base : Heap} {k : Nat} {f : Addr} {name qual : Str} {params : Arguments} {body : List Stmt} {scope : Scope} {dV kV doc pm cdv ct oc : Value} {an od : Option Addr}
    {osl : Array (Option Value)} {N ps : List Str} {sp : Sp} (lk : K.lookup f = some ⟨oc, od, .func (PySem.W.fnOf name qual params body scope dV kV doc pm an cdv ct), osl⟩) (hcd : PySem.W.codeIn K cdv qual = true) (S : FnScope N ps scope)
    (len : ∀ vs H Q E, sp vs H Q E → vs.length = ps.length)
    (hbody : ∀ (A : Around) (outer : List Env) (s : Shared) (H : Hp) (vs : List V) (Q : VK) (E : XK), Room k (A.deeper (envOfC qual scope s.heap.objs.size f cdv)) → sp vs H Q E →
      ∃ t, PSs (qpX CX P w K mg base N qual scope f cdv A outer s H E) body t ∧ t { nx := fun _ H' => Q .non H', rt := Q } (start N vs) H) :
    FnOk P w K mg base CX (k + 1) f (PySem.W.fnOf name qual params body scope dV kV doc pm an cdv ct) ps sp := by
  refine ⟨len, fun A outer s H args us vs Q E hr e0 hb r hsp => ?_⟩
  have hl := len _ _ _ _ hsp
  have KX : K.In s.heap := e0.mod.kin.keeps fun b o e => (e0.bs b o e).1
  have lim : s.heap.NoLimit := e0.mod.nolimit.keeps fun b o e => (e0.bs b o e).1
  have hkind : ∀ y ∈ ps.zip us, scope.names.lookup y.1 = some .local ∨ (scope.names.lookup y.1 = some .cell ∧ ((cellsFrom (s.heap.objs.size + 1) scope.names []).lookup y.1).isSome = true) := fun ⟨n, v⟩ hy => by
    rcases S.par n (List.of_mem_zip hy).1 with q | q
    · exact .inl q
    · exact .inr ⟨q, PySem.W.cellsFrom_some _ _ _ (.inl q)⟩
  refine codeAny_call_function hr.depth (KX _ _ lk) rfl S.co S.gen rfl (PySem.W.codeRec_of KX hcd) (hb _ _ _ _ ?_)
  refine wpAny_newFunctionEnv_cells S.kind hkind fun env he s1 x => ?_
  subst he
  refine ⟨lim.keeps x.toInCall.keep, codeAny_func ?_⟩
  obtain ⟨t, ht, hq⟩ := hbody A outer s H vs Q E (hr.deeper _) hsp
  have I : Inv (qpX CX P w K mg base N qual scope f cdv A outer s H E) [] (start N vs) H s1 := ql0 S hr.hd (by have := (hr.deeper (envOfC qual scope s.heap.objs.size f cdv)).dp; show _ + 100 < _; omega) e0 hl r x
  refine wpAny_mono (ht [] s1 (start N vs) H _ I hq) (fun fl s' hs => ?_) fun e s' hs => hs
  have fin : ∀ {σ' : St} {H' : Hp} {v : V} {u : Value}, Inv (qpX CX P w K mg base N qual scope f cdv A outer s H E) [] σ' H' s' → RelV v u → Q v H' → CE outer P w H s Q u s' :=
    fun {σ' H' v u} J rv q => ⟨v, H', J.os, J.bare, J.base, J.hok, rv, q⟩
  cases fl with
  | ret u =>
    obtain ⟨v, σ', H', J, rv, q⟩ := hs
    exact fin J rv q
  | next =>
    obtain ⟨σ', H', J, q⟩ := hs
    exact fin (v := V.non) (u := Value.none) J rfl q
  | brk =>
    obtain ⟨_, _, _, q⟩ := hs
    exact False.elim q
  | cont =>
    obtain ⟨_, _, _, q⟩ := hs
    exact False.elim q
end L2
namespace L2
open PySem PySem.Spec PyProof.Rows
section
variable {X : Cx} {x : Str} {p pos : Pos} {e : Expr} {es : List Expr} {t : TA} {id T : String} {r : List V → Hp → VK → Prop}
noncomputable def tCB (r : List V → Hp → VK → Prop) (t : TA) : TE := fun σ H Q => t σ H fun vs H1 => r vs H1 Q
theorem qav (hc : qdW X (.builtin id) r) (hg : Gl X x) (hm : X.mg x = none) (hv : bootBuiltins x = some (.builtin id)) (ha : PA X (e :: es) t) (hn : x ≠ "__name__" := by decide) (hdb : (x == ("__debug__" : Str)) = false := by decide)
    (he : starEach (e :: es) X.env = (false, eval e X.env) :: starEach es X.env := by rfl) (hpl : (backTo pos (starEach es X.env)).any (·.1) = false := by rfl) : PE X (.Call (.Name x p) (e :: es) [] pos) (tCB r t) := by
  intro pins s σ H Q I h
  refine wpAny_Call_Name_kw (qeW I hg hm hv ?_ hn hdb)
  exact PyProof.Rows.callWith_builtin1 (thn (ha pos pins s σ H _ I h) fun us s1 ⟨vs, H1, I1, r1, q1⟩ => hc pins s1 σ H1 vs us Q I1 r1 q1) he hpl
theorem qbM (hc : qdW X (.type T) r) (hg : Gl X x) (hm : X.mg x = none) (hv : bootBuiltins x = some (.type T)) (ha : PA X (e :: es) t) (hn : x ≠ "__name__" := by decide) (hdb : (x == ("__debug__" : Str)) = false := by decide)
    (he : starEach (e :: es) X.env = (false, eval e X.env) :: starEach es X.env := by rfl) (hpl : (backTo pos (starEach es X.env)).any (·.1) = false := by rfl) : PE X (.Call (.Name x p) (e :: es) [] pos) (tCB r t) := by
  intro pins s σ H Q I h
  refine wpAny_Call_Name_kw (qeW I hg hm hv ?_ hn hdb)
  exact PyProof.Rows.callWith_type1 (thn (ha pos pins s σ H _ I h) fun us s1 ⟨vs, H1, I1, r1, q1⟩ => hc pins s1 σ H1 vs us Q I1 r1 q1) he hpl
end
end L2
namespace HT
open PySem PyProof.Rows
section
open PySem.SeqAt
open PySem.AutoSeq1 (wpAny_loadPart')
open PySem.MeetsSeq PySem.MeetsSeq2 PySem.MeetsSeq3
end
section
variable {prog : Program} {w : World} {A : Around} {E : Value → Shared → Prop} {s : Shared}
noncomputable def sIx (n d : Nat) : Option Int → Nat
  | none => d
  | some v => if v < 0 then (v + (n : Int)).toNat else min v.toNat n
end
end HT
namespace L2
open PySem PySem.Spec PyProof.Rows
noncomputable abbrev TO := St → Hp → (Option Int → Hp → Prop) → Prop
noncomputable def PO (X : Cx) (e : Option Expr) (t : TO) : Prop :=
  ∀ (pins : List (Addr × Obj)) (s : Shared) (σ : St) (H : Hp) (Q : Option Int → Hp → Prop), Inv X pins σ H s → t σ H Q →
    wpAny (model X.prog X.w) X.A (evalPart e X.env) (fun u s' => ∃ o H', Inv X pins σ H' s' ∧ IsPart u o ∧ Q o H') X.xe s
noncomputable def qcr : TO := fun _ H Q => Q none H
noncomputable def qf0 (t : TE) : TO := fun σ H Q => t σ H fun x H1 => ∃ i, x = .int i ∧ Q (some i) H1
section
variable {X : Cx} {e : Expr} {te : TE} {lo hi : Option Expr} {tl th : TO} {pos p2 : Pos}
theorem qdt : PO X none qcr := by
  intro pins s σ H Q I h
  rw [evalPart_none]
  exact wpAny_pure ⟨none, H, I, .none, h⟩
theorem qdu (h : PE X e te) : PO X (some e) (qf0 te) := by
  intro pins s σ H Q I hw
  rw [evalPart_some]
  refine thn (h pins s σ H _ I hw) fun u s1 ⟨x, H1, I1, r1, q1⟩ => ?_
  obtain ⟨i, rfl, q⟩ := q1
  obtain ⟨t, rfl⟩ := r1
  exact ⟨some i, H1, I1, .int i t, q⟩
noncomputable def SlR (X : Cx) (r : V → Option Int → Option Int → Hp → VK → Prop) : Prop :=
  ∀ (pins : List (Addr × Obj)) (s : Shared) (σ : St) (H : Hp) (x : V) (v vl vu : Value) (lo hi : Option Int) (sl : Addr) (Q : VK), Inv X pins σ H s → RelV x v → s.heap.IsSliceOf sl vl vu .none → IsPart vl lo → IsPart vu hi → r x lo hi H Q →
    ∃ T id, typeLookup (.type T) "__getitem__" = pure (some (.builtin id)) ∧ s.TypeIs v T ∧ wpAny (model X.prog X.w) X.A (getItem v (.ref sl)) (EP X pins σ Q) X.xe s
noncomputable def tSl (r : V → Option Int → Option Int → Hp → VK → Prop) (te : TE) (tl th : TO) : TE := fun σ H Q => te σ H fun x H1 => tl σ H1 fun l H2 => th σ H2 fun u H3 => r x l u H3 Q
theorem qcA {r : V → Option Int → Option Int → Hp → VK → Prop} (hr : SlR X r) (he : PE X e te) (hl : PO X lo tl) (hu : PO X hi th) : PE X (.Subscript e (.Slice lo hi none p2) pos) (tSl r te tl th) := by
  intro pins s σ H Q I h
  refine Subscript_ (thn (he pins s σ H _ I h) fun v s1 ⟨x, H1, I1, r1, q1⟩ => ?_)
  refine wpAny_Slice (thn (hl pins s1 σ H1 _ I1 q1) fun vl s2 ⟨l, H2, I2, pl, q2⟩ => thn (hu pins s2 σ H2 _ I2 q2) fun vu s3 ⟨u, H3, I3, pu, q3⟩ => ?_)
  rw [evalPart_none]
  refine wpAny_pure ?_
  have I4 : Inv X pins σ H3 { s3 with heap := s3.heap.push { cls := .type "slice", data := .fields #[vl, vu, .none] } } := I3.kept (t' := s3.toks) fun b ob q => Heap.get?_push_of_some _ q
  obtain ⟨T, id, hT, ht, hg⟩ := hr pins { s3 with heap := s3.heap.push { cls := .type "slice", data := .fields #[vl, vu, .none] } } σ H3 x v vl vu l u s3.heap.objs.size Q I4 r1 (Heap.IsSliceOf.new ..) pl pu q3
  show wpAny (model X.prog X.w) X.A (subscriptTail e (.Slice lo hi none p2) v (.ref s3.heap.objs.size)) (EP X pins σ Q) X.xe { s3 with heap := s3.heap.push { cls := .type "slice", data := .fields #[vl, vu, .none] } }
  exact tail_any (ops := [.ref s3.heap.objs.size, v]) ht hT hg (by with_unfolding_all rfl)
noncomputable def qgt (xs : List V) (lo hi : Option Int) : List V := (xs.drop (HT.sIx xs.length 0 lo)).take (HT.sIx xs.length xs.length hi - HT.sIx xs.length 0 lo)
theorem qjN (xs : List V) (lo hi : Option Int) : (qgt xs lo hi).length ≤ xs.length := by
  unfold qgt
  rw [List.length_take, List.length_drop]
  omega
end
end L2
namespace L2
open PySem PySem.Spec PyProof.Rows
noncomputable def ixN (n : Nat) (i : Int) : Option Nat := if 0 ≤ i then (if i < n then some i.toNat else none) else if -(n : Int) ≤ i then some (i + n).toNat else none
noncomputable def atI {α : Type} (xs : List α) (i : Int) : Option α := (ixN xs.length i).bind fun j => xs[j]?
theorem ql1 {n : Nat} {i : Int} {j : Nat} (h : ixN n i = some j) : seqIndex? i n = some j ∧ j < n ∧ -(n : Int) ≤ i ∧ i < n := by
  unfold ixN at h
  by_cases h0 : 0 ≤ i
  · rw [if_pos h0] at h
    by_cases h1 : i < n
    · rw [if_pos h1] at h
      have e : i.toNat = j := Option.some.inj h
      exact ⟨by rw [seqIndex_of h0 h1, e], by omega, by omega, h1⟩
    · rw [if_neg h1] at h; cases h
  · rw [if_neg h0] at h
    by_cases h1 : -(n : Int) ≤ i
    · rw [if_pos h1] at h
      have e : (i + n).toNat = j := Option.some.inj h
      exact ⟨by rw [seqIndex_neg (by omega) h1, e], by omega, h1, by omega⟩
    · rw [if_neg h1] at h; cases h
theorem qjO {α : Type} {xs : List α} {i : Int} {v : α} (h : atI xs i = some v) : ∃ j, seqIndex? i xs.length = some j ∧ xs[j]? = some v ∧ j < xs.length ∧ -(xs.length : Int) ≤ i ∧ i < xs.length := by
  unfold atI at h
  cases e : ixN xs.length i with
  | none => rw [e] at h; cases h
  | some j =>
    rw [e] at h
    obtain ⟨h1, h2, h3, h4⟩ := ql1 e
    exact ⟨j, h1, h, h2, h3, h4⟩
theorem ql2 {α : Type} {xs : List α} {j : Nat} {v : α} (h : xs[j]? = some v) : atI xs (j : Int) = some v := by
  have hj : j < xs.length := (List.getElem?_eq_some_iff.mp h).1
  have e : ixN xs.length (j : Int) = some j := by
    unfold ixN
    rw [if_pos (by omega), if_pos (by omega)]; simp
  unfold atI; rw [e]; exact h
theorem atI_last {α : Type} (xs : List α) (v : α) : atI (xs ++ [v]) (-1) = some v := by
  have hl : (xs ++ [v]).length = xs.length + 1 := by simp
  have e : ixN (xs ++ [v]).length (-1) = some xs.length := by
    unfold ixN
    rw [hl, if_neg (by decide), if_pos (by omega)]
    congr 1
    omega
  unfold atI
  rw [e]
  show (xs ++ [v])[xs.length]? = some v
  simp
noncomputable def qo8 (b : Expr) : Prop := ∀ o i, subscripted b false o i = operate [o, i] (getItem o i)
noncomputable def IxR (X : Cx) (r : R2) : Prop :=
  ∀ (value slice : Expr) (pins : List (Addr × Obj)) (s : Shared) (σ : St) (H : Hp) (x y : V) (v u : Value) (Q : VK), Inv X pins σ H s → RelV x v → RelV y u → r x y H Q →
    subscripted slice false v u = operate [v, u] (getItem v u) → wpAny (model X.prog X.w) X.A (subscriptTail value slice v u) (EP X pins σ Q) X.xe s
noncomputable def MtR (X : Cx) (id : String) (r : V → List V → Hp → VK → Prop) : Prop :=
  ∀ (pins : List (Addr × Obj)) (s : Shared) (σ : St) (H : Hp) (x : V) (xs : List V) (v : Value) (us : List Value) (Q : VK), Inv X pins σ H s → RelV x v → Vals xs us → r x xs H Q →
    wpAny (model X.prog X.w) X.A (call (.builtin id) (v :: us)) (EP X pins σ Q) X.xe s
section
variable {X : Cx} {a b : Expr} {ta tb : TE} {pos : Pos}
theorem qaA {r : R2} (hr : IxR X r) (ha : PE X a ta) (hb : PE X b tb) (hs : qo8 b) : PE X (.Subscript a b pos) (tOp r ta tb) := by
  intro pins s σ H Q I h
  exact Subscript_ (qrd ha hb I h fun v u s2 x y H2 I2 rx ry q => hr a b pins s2 σ H2 x y v u Q I2 rx ry q (hs _ _))
noncomputable def qrY (K : PySem.W.Frag) : R2 := fun x y H Q => ∃ p xs i v, x = .ref p ∧ y = .int i ∧ SqL K H p xs ∧ atI xs i = some v ∧ Q v H
noncomputable def qrZ (K : PySem.W.Frag) : R2 := fun x y H Q => ∃ p xs i v, x = .ref p ∧ y = .int i ∧ SqT K H p xs ∧ atI xs i = some v ∧ Q v H
theorem qo9 : IxR X (qrY X.K) := by
  intro value slice pins s σ H x y v u Q I rx ry h hs
  obtain ⟨p, xs, i, z, rfl, rfl, hq, he, q⟩ := h
  cases rx
  obtain ⟨t, rfl⟩ := ry
  obtain ⟨its, r, pl, hz⟩ := I.list hq
  obtain ⟨j, h1, h2, h3, h4, h5⟩ := qjO he
  obtain ⟨w, ew, rw'⟩ := r.get h2
  have hl := r.length
  have hn := qhH
  have fin : EP X pins σ Q w s := ⟨z, H, I, rw', q⟩
  by_cases h0 : 0 ≤ i
  · have hj : i.toNat = j := by
      rw [seqIndex_of h0 h5] at h1
      exact Option.some.inj h1
    exact item_listR pl.isList h0 (by omega) (by rw [hj]; simpa using ew) fin hs
  · have hj : (i + (its.toArray.size : Int)).toNat = j := by
      rw [seqIndex_neg (by omega) h4] at h1
      rw [List.size_toArray, ← hl]
      exact Option.some.inj h1
    exact subscriptTail_builtinR (x := w) pl.isList.typeIs slot_list_getitem.lookup
      (wpAny_getItem_list_neg (Q := fun r s' => r = w ∧ EP X pins σ Q r s') pl.isList (by omega) (by rw [List.size_toArray] <;> omega) (by omega) (by rw [hj]; simpa using ew) ⟨rfl, fin⟩) hs
theorem qqf : IxR X (qrZ X.K) := by
  intro value slice pins s σ H x y v u Q I rx ry h hs
  obtain ⟨p, xs, i, z, rfl, rfl, hq, he, q⟩ := h
  cases rx
  obtain ⟨t, rfl⟩ := ry
  obtain ⟨its, r, pl, hz⟩ := I.tuple hq
  obtain ⟨j, h1, h2, h3, h4, h5⟩ := qjO he
  obtain ⟨w, ew, rw'⟩ := r.get h2
  have hl := r.length
  have hn := qhH
  have fin : EP X pins σ Q w s := ⟨z, H, I, rw', q⟩
  exact subscriptTail_builtinR (x := w) pl.typeIs slot_tuple_getitem.lookup
    (getItem_tuple (j := j) (Q := fun r s' => r = w ∧ EP X pins σ Q r s') pl (by omega) (by omega) (by rw [List.size_toArray, ← hl]; exact h1) (by simpa using ew) ⟨rfl, fin⟩) hs
theorem qle (its : List Value) (n j : Nat) (u : Value) : Obj.mapSeq (·.setIfInBounds j u) { cls := .type "list", data := .seq its.toArray n } = { cls := .type "list", data := .seq (its.set j u).toArray n } := by
  simp [Obj.mapSeq]
theorem Inv.lst {pins : List (Addr × Obj)} {σ : St} {H : Hp} {s : Shared} {p : Addr} {xs : List V} (I : Inv X pins σ H s) (h : H p = some (.lst xs)) :
    ∃ (its : List Value) (n : Nat), Vals xs its ∧ s.heap.get? p = some { cls := .type "list", data := .seq its.toArray n } ∧ xs.length ≤ sizeLine := by
  obtain ⟨z, its, n, r, e⟩ := I.hok p _ h
  exact ⟨its, n, r, e, z⟩
theorem Inv.lstUpd {pins : List (Addr × Obj)} {σ : St} {H : Hp} {s : Shared} {p : Addr} {xs ys : List V} {its its' : List Value} {n n' : Nat} {f : Obj → Obj} (I : Inv X pins σ H s) (h : H p = some (.lst xs))
    (ho : s.heap.get? p = some { cls := .type "list", data := .seq its.toArray n }) (hf : f { cls := .type "list", data := .seq its.toArray n } = { cls := .type "list", data := .seq its'.toArray n' }) (r : Vals ys its') (hz : ys.length ≤ sizeLine) (t : Nat) :
    Inv X pins σ (upd H p (.lst ys)) { s with heap := s.heap.update p f, toks := t } := by
  have e : (s.heap.update p f).get? p = some { cls := .type "list", data := .seq its'.toArray n' } := by
    rw [Heap.get?_update_self f ho (by rw [hf] <;> rfl), hf]
  refine I.write (x := p) (e := p) (by rw [h]; trivial) (.inl rfl) (fun b u hb q => (Heap.get?_update_other _ _ (Ne.symm hb)).trans q) ⟨_, e⟩ ?_
  exact ⟨hz, its', n', r, e⟩
noncomputable def qeY : V → V → V → Hp → (Hp → Prop) → Prop := fun o i v H Q => ∃ p xs k j, o = .ref p ∧ i = .int k ∧ H p = some (.lst xs) ∧ ixN xs.length k = some j ∧ Q (upd H p (.lst (xs.set j v)))
theorem qbN : PSet X qeY := by
  intro pins s σ H o i v ov iv u Q I ro ri rv h
  obtain ⟨p, xs, k, j, rfl, rfl, hp, hj, q⟩ := h
  cases ro
  obtain ⟨t, rfl⟩ := ri
  obtain ⟨its, n, r, ho, hz⟩ := I.lst hp
  obtain ⟨h1, h2, h3, h4⟩ := ql1 hj
  have hl := r.length
  have hn := qhH
  have I' : Inv X pins σ (upd H p (.lst (xs.set j v))) { s with heap := s.heap.update p (Obj.mapSeq (·.setIfInBounds j u)) } :=
    I.lstUpd hp ho (qle its n j u) (r.set rv j) (by rw [List.length_set]; exact hz) s.toks
  by_cases h0 : 0 ≤ k
  · have hk : k.toNat = j := by
      rw [seqIndex_of h0 h4] at h1
      exact Option.some.inj h1
    exact PySem.W.ki_setAt ho h0 (by omega) (by rw [List.size_toArray, ← hl]; exact h4) (by rw [hk]; exact ⟨_, I', q⟩)
  · have hk : (k + (its.toArray.size : Int)).toNat = j := by
      rw [seqIndex_neg (by omega) h3] at h1
      rw [List.size_toArray, ← hl]
      exact Option.some.inj h1
    exact PySem.W.ki_setBack ho (by omega) (by rw [List.size_toArray, ← hl]; exact h3) (by omega) (by rw [hk]; exact ⟨_, I', q⟩)
theorem qi3 (lo hi : Option Int) (n : Nat) : (sliceBounds lo hi none n).1 = ((HT.sIx n 0 lo : Nat) : Int) ∧ (sliceBounds lo hi none n).2.1 = ((HT.sIx n n hi : Nat) : Int) ∧ (sliceBounds lo hi none n).2.2 = 1 := by
  refine ⟨?_, ?_, rfl⟩
  · cases lo with
    | none => simp [sliceBounds, HT.sIx]
    | some i =>
      simp only [sliceBounds, HT.sIx, Option.getD_none, show (1 : Int) > 0 by decide, if_true]
      by_cases h : i < 0
      · simp only [h, if_true] <;> omega
      · simp only [h, if_false] <;> omega
  · cases hi with
    | none => simp [sliceBounds, HT.sIx]
    | some i =>
      simp only [sliceBounds, HT.sIx, Option.getD_none, show (1 : Int) > 0 by decide, if_true]
      by_cases h : i < 0
      · simp only [h, if_true] <;> omega
      · simp only [h, if_false] <;> omega
theorem qh4 (its : List Value) (lo hi : Option Int) : slicePick its.toArray lo hi none = ((its.drop (HT.sIx its.length 0 lo)).take (HT.sIx its.length its.length hi - HT.sIx its.length 0 lo)).toArray := by
  obtain ⟨h1, h2, h3⟩ := qi3 lo hi its.toArray.size
  unfold slicePick
  rw [h1, h2, h3]
  simp only [sliceRange_one, pick_run, List.size_toArray] <;> rfl
noncomputable def qr0 (K : PySem.W.Frag) : V → Option Int → Option Int → Hp → VK → Prop := fun x lo hi H Q => ∃ a xs, x = .ref a ∧ SqL K H a xs ∧ ∀ p, H p = none → Q (.ref p) (upd H p (.lst (qgt xs lo hi)))
theorem ql3 : SlR X (qr0 X.K) := by
  intro pins s σ H x v vl vu lo hi sl Q I rx hs pl pu h
  obtain ⟨a, xs, rfl, hx, q⟩ := h
  cases rx
  obtain ⟨its, r, ht, hz⟩ := I.list hx
  have hlen := r.length
  refine ⟨"list", _, slot_list_getitem.lookup, ht.isList.typeIs, ?_⟩
  refine wpAny_getItem_list_slice ht.isList hs pl pu .none (by simp) ?_ (by rw [List.size_toArray] <;> omega)
  rw [qh4, ← hlen]
  refine ⟨.ref s.heap.objs.size, _, I.laid (t' := s.toks) (o := .lst (qgt xs lo hi)) (fun b ob q => Heap.get?_push_of_some _ q) (Nat.le_refl _) ?_, rfl, q _ (I.hok.fresh (Nat.le_refl _))⟩
  exact ⟨Nat.le_trans (qjN xs lo hi) hz, _, 0, (r.drop (HT.sIx xs.length 0 lo)).take (HT.sIx xs.length xs.length hi - HT.sIx xs.length 0 lo), Heap.get?_push_size _ rfl⟩
theorem qfO : qdW X (.builtin "len") (fun xs H Q => ∃ p ys, xs = [.ref p] ∧ (SqL X.K H p ys ∨ SqT X.K H p ys) ∧ Q (.int ys.length) H) := by
  intro pins s σ H xs us Q I r h
  obtain ⟨p, ys, rfl, hq, q⟩ := h
  obtain ⟨u, rfl, rx⟩ := qgs r
  cases rx
  have hn := qhH
  rcases hq with hq | hq
  · obtain ⟨its, r', pl, hz⟩ := I.list hq
    have hlen := r'.length
    exact Calls.call_len_list pl.isList (by simp only [List.size_toArray] <;> omega) ⟨.int ys.length, H, I.tok _, ⟨s.toks + 1, by rw [List.size_toArray, hlen]⟩, q⟩
  · obtain ⟨its, r', pl, hz⟩ := I.tuple hq
    have hlen := r'.length
    exact len_tuple pl (by simp only [List.size_toArray] <;> omega) ⟨.int ys.length, H, I.tok _, ⟨s.toks + 1, by rw [List.size_toArray, hlen]⟩, q⟩
theorem qi4 : qdW X (.type "list") (fun xs H Q => ∃ p ys, xs = [.ref p] ∧ (SqL X.K H p ys ∨ SqT X.K H p ys) ∧ ∀ l, H l = none → Q (.ref l) (upd H l (.lst ys))) := by
  intro pins s σ H xs us Q I r h
  obtain ⟨p, ys, rfl, hq, q⟩ := h
  obtain ⟨u, rfl, rx⟩ := qgs r
  cases rx
  have fin : ∀ (its : List Value), Vals ys its → ys.length ≤ sizeLine → ∀ (h' : Heap) (c' : Nat), (∀ b o', s.heap.get? b = some o' → h'.get? b = some o') →
      h'.get? s.heap.objs.size = some { cls := .type "list", dict := none, data := .seq its.toArray c', slots := #[] } → EP X pins σ Q (.ref s.heap.objs.size) { s with heap := h' } := fun its r' hz h' c' kp e =>
    ⟨.ref s.heap.objs.size, _, I.laid (t' := s.toks) kp (Nat.le_refl _) (show ObjOk X.prog X.w _ h' _ (.lst ys) from ⟨hz, its, c', r', e⟩), rfl, q _ (I.hok.fresh (Nat.le_refl _))⟩
  rcases hq with hq | hq
  · obtain ⟨its, r', pl, hz⟩ := I.list hq
    have hlen := r'.length
    obtain ⟨o, ho, hc, n, hd⟩ := pl.isList
    exact call_list_seq p (.inl rfl) ho hc hd (fun h' c' kp e => fin its r' hz h' c' kp e) (by simp only [List.size_toArray] <;> omega)
  · obtain ⟨its, r', pl, hz⟩ := I.tuple hq
    have hlen := r'.length
    obtain ⟨o, ho, hc, n, hd⟩ := pl
    exact call_list_seq p (.inr rfl) ho hc hd (fun h' c' kp e => fin its r' hz h' c' kp e) (by simp only [List.size_toArray] <;> omega)
theorem qh5 : qdW X (.type "tuple") (fun xs H Q => ∃ p ys, xs = [.ref p] ∧ ((SqL X.K H p ys ∧ ∀ l, H l = none → Q (.ref l) (upd H l (.tup ys))) ∨ (SqT X.K H p ys ∧ Q (.ref p) H))) := by
  intro pins s σ H xs us Q I r h
  obtain ⟨p, ys, rfl, h⟩ := h
  obtain ⟨u, rfl, rx⟩ := qgs r
  cases rx
  rcases h with ⟨hq, q⟩ | ⟨hq, q⟩
  · obtain ⟨its, r', pl, hz⟩ := I.list hq
    have hlen := r'.length
    refine call_tuple_list pl.isList (fun h' kp => ?_) (by simp only [List.size_toArray] <;> omega)
    have I1 : Inv X pins σ H { s with heap := h' } := I.kept (t' := s.toks) kp
    have I2 : Inv X pins σ (upd H h'.objs.size (.tup ys)) { s with heap := h'.push { cls := .type "tuple", data := .seq its.toArray } } :=
      I1.laid (t' := s.toks) (fun b o e => Heap.get?_push_of_some _ e) (Nat.le_refl _) (show ObjOk X.prog X.w _ _ _ (.tup ys) from ⟨hz, its, r', IsTup.new _ _⟩)
    exact ⟨.ref h'.objs.size, _, I2, rfl, q _ (I1.hok.fresh (Nat.le_refl _))⟩
  · obtain ⟨its, r', pl, hz⟩ := I.tuple hq
    exact call_tuple_same pl ⟨.ref p, H, I, rfl, q⟩
noncomputable def tyV (K : PySem.W.Frag) (T : String) (x : V) (H : Hp) : Prop := match x with
  | .str _ => T = "str"
  | .int _ => T = "int"
  | .ref p => (T = "list" ∧ ∃ xs, SqL K H p xs) ∨ (T = "tuple" ∧ ∃ o, K.lookup p = some o ∧ o.cls = .type "tuple" ∧ o.dict = none) ∨
      (T = "dict" ∧ ((∃ kvs, H p = some (.dK kvs)) ∨ ∃ kvs, H p = some (.dT kvs))) ∨ (T = "set" ∧ ∃ S n, H p = some (.set S n))
  | _ => False
theorem qqg {pins : List (Addr × Obj)} {σ : St} {H : Hp} {s : Shared} {T : String} {x : V} {v : Value} (I : Inv X pins σ H s) (r : RelV x v) (ty : tyV X.K T x H) :
    s.TypeIs v T ∧ ∀ a, v = .ref a → ∃ ob, s.heap.get? a = some ob ∧ ob.dict = none := by
  cases x with
  | str z =>
    obtain ⟨t, rfl⟩ := r
    cases (show T = "str" from ty)
    exact ⟨typeIs_str s z t, fun _ e => nomatch e⟩
  | int i =>
    obtain ⟨t, rfl⟩ := r
    cases (show T = "int" from ty)
    exact ⟨typeIs_int s i t, fun _ e => nomatch e⟩
  | ref p =>
    cases r
    rcases ty with ⟨rfl, xs, hq⟩ | ⟨rfl, o, hk, hc, hd⟩ | ⟨rfl, hk⟩ | ⟨rfl, S, n, hk⟩
    · obtain ⟨its, _, pl, _⟩ := I.list hq
      refine ⟨pl.isList.typeIs, fun a e => ?_⟩
      cases e
      obtain ⟨o, n, e, c, hd, _⟩ := pl
      exact ⟨o, e, hd⟩
    · refine ⟨⟨o, I.kIn p o hk, hc⟩, fun a e => ?_⟩
      cases e
      exact ⟨o, I.kIn _ o hk, hd⟩
    · have z : ∃ o, s.heap.get? p = some o ∧ o.ExactDict := by
        rcases hk with ⟨kvs, hk⟩ | ⟨kvs, hk⟩
        · obtain ⟨_, _, _, _, o, _, _, e, ex, _⟩ := I.hok p _ hk
          exact ⟨o, e, ex⟩
        · obtain ⟨_, _, _, _, o, _, _, e, ex, _⟩ := I.hok p _ hk
          exact ⟨o, e, ex⟩
      obtain ⟨o, e, ex⟩ := z
      refine ⟨⟨o, e, ex.1⟩, fun a e2 => ?_⟩
      cases e2
      exact ⟨o, e, ex.2.1⟩
    · obtain ⟨o, _, _, _, e, ex, _⟩ := I.hok p _ hk
      refine ⟨⟨o, e, ex.1⟩, fun a e2 => ?_⟩
      cases e2
      exact ⟨o, e, ex.2.1⟩
  | _ => exact False.elim ty
noncomputable def qrJ (K : PySem.W.Frag) (T : String) (r : V → List V → Hp → VK → Prop) (to : TE) : TE := fun σ H Q => to σ H fun x H1 => tyV K T x H1 ∧ r x [] H1 Q
noncomputable def tBM (K : PySem.W.Frag) (T : String) (r : V → List V → Hp → VK → Prop) (to : TE) (t : TA) : TE := fun σ H Q => to σ H fun x H1 => tyV K T x H1 ∧ t σ H1 fun xs H2 => r x xs H2 Q
variable {o e : Expr} {es : List Expr} {to : TE} {t : TA} {name : Str} {apos cpos : Pos} {T id : String} {r : V → List V → Hp → VK → Prop}
theorem qpa (pa : PlainAttrs T) (slot : Slot T name id) (hty : typeOf (.builtin id) = pure (.type "method_descriptor")) (hm : MtR X id r) (ho : PE X o to) (ha : PA X (e :: es) t)
    (hbase : attributeBase o name X.env (eval o X.env) = eval o X.env := by rfl)
    (hfew : ((backTo cpos (starEach (e :: es) X.env)).all (fun x => !x.1) && (backToKw cpos (keywordEach [] X.env)).all (fun x => x.1.isSome)
      && decide ((e :: es).length + ([] : List Keyword).length + (if ([] : List Keyword).isEmpty then 0 else 1) < 30)) = true := by rfl)
    (hline : (apos.endLine == cpos.line) = true := by rfl) (hs : starEach (e :: es) X.env = (false, eval e X.env) :: starEach es X.env := by rfl) (hplain : (backTo cpos (starEach es X.env)).any (·.1) = false := by rfl) :
    PE X (.Call (.Attribute o name apos) (e :: es) [] cpos) (tBM X.K T r to t) := by
  intro pins s σ H Q I h
  refine wpAny_Call_method_late hbase hfew hline rfl (thn (ho pins s σ H _ I h) fun v s1 ⟨x, H1, I1, r1, ty, q1⟩ => ?_)
  obtain ⟨h1, h2⟩ := qqg I1 r1 ty
  refine ⟨T, id, pa, slot, hty, h1, h2, ?_⟩
  have hA := ha cpos pins s1 σ H1 _ I1 q1
  rw [hs] at hA ⊢
  refine Calls.callWith_builtin (by show (false || (backTo cpos (starEach es X.env)).any (·.1)) = false; rw [hplain] <;> rfl) (Calls.evalArgs_plain ?_)
  exact thn hA fun us s2 ⟨vs, H2, I2, r2, q2⟩ => hm pins s2 σ H2 x vs v us Q I2 r1 r2 q2
end
end L2
namespace L2
open PySem PySem.Spec PyProof.Rows
noncomputable def MtM (X : Cx) (id : String) (r : V → List V → Hp → VK → Prop) : Prop :=
  ∀ (pins : List (Addr × Obj)) (s : Shared) (σ : St) (H : Hp) (x : V) (xs : List V) (v : Value) (us : List Value) (Q : VK), Inv X pins σ H s → RelV x v → Vals xs us → r x xs H Q →
    wpAny (model X.prog X.w) X.A (call (.builtin id) (v :: us)) (EP X pins σ Q) X.xe s
theorem Vals.one : ∀ {x : V} {us : List Value}, Vals [x] us → ∃ u, us = [u] ∧ RelV x u
  | _, _, .cons r .nil => ⟨_, rfl, r⟩
theorem Vals.two : ∀ {x y : V} {us : List Value}, Vals [x, y] us → ∃ u v, us = [u, v] ∧ RelV x u ∧ RelV y v
  | _, _, _, .cons r (.cons q .nil) => ⟨_, _, rfl, r, q⟩
theorem Vals.zero : ∀ {us : List Value}, Vals [] us → us = []
  | _, .nil => rfl
theorem Vals.dropLast {xs : List V} {us : List Value} (h : Vals xs us) : Vals xs.dropLast us.dropLast := by
  induction h with
  | nil => exact .nil
  | cons r t ih =>
    cases t with
    | nil => exact .nil
    | cons q t' => exact .cons r ih
theorem Vals.reverse {xs : List V} {us : List Value} (h : Vals xs us) : Vals xs.reverse us.reverse := by
  induction h with
  | nil => exact .nil
  | cons r t ih => rw [List.reverse_cons, List.reverse_cons]; exact Vals.append ih (.cons r .nil)
theorem Vals.rep {xs : List V} {us : List Value} (h : Vals xs us) : ∀ k : Nat, Vals (List.replicate k xs).flatten (List.replicate k us).flatten
  | 0 => .nil
  | k + 1 => by
    rw [List.replicate_succ, List.replicate_succ, List.flatten_cons, List.flatten_cons]
    exact Vals.append h (Vals.rep h k)
theorem qi5 (its : List Value) : ∀ (k : Nat) (acc : List Value),
    List.foldl (fun x1 x2 => x1 ++ x2) acc.toArray (List.replicate k its.toArray) = (acc ++ (List.replicate k its).flatten).toArray
  | 0, acc => by simp
  | k + 1, acc => by
    have e : acc.toArray ++ its.toArray = (acc ++ its).toArray := by simp
    have e2 : (acc ++ its) ++ (List.replicate k its).flatten = acc ++ (List.replicate (k + 1) its).flatten := by
      rw [List.replicate_succ, List.flatten_cons, List.append_assoc]
    rw [← e2, ← qi5 its k (acc ++ its), ← e, List.replicate_succ, List.foldl_cons]
section
variable {X : Cx} {pins : List (Addr × Obj)} {σ : St} {H : Hp} {s : Shared} {l b : Addr} {xs ys zs : List V}
theorem Inv.lset {its its' : List Value} {n : Nat} {f : Array Value → Array Value} {t' : Nat} (I : Inv X pins σ H s) (hH : H l = some (.lst xs))
    (e : s.heap.get? l = some { cls := .type "list", data := .seq its.toArray n }) (hf : f its.toArray = its'.toArray) (hv : Vals ys its') (hz : ys.length ≤ sizeLine) :
    Inv X pins σ (upd H l (.lst ys)) { s with heap := s.heap.update l (Obj.mapSeq f), toks := t' } := by
  have q := PySem.IsL.update e f
  rw [hf] at q
  refine I.write (x := l) (e := l) (by rw [hH]; exact trivial) (.inl rfl) (fun b' u hb hu => (Heap.get?_update_other s.heap (Obj.mapSeq f) (Ne.symm hb)).trans hu) ⟨_, q⟩ ?_
  exact ⟨hz, its', _, hv, q⟩
theorem Inv.lnew {its : List Value} {t' : Nat} (I : Inv X pins σ H s) (hv : Vals ys its) (hz : ys.length ≤ sizeLine) :
    Inv X pins σ (upd H s.heap.objs.size (.lst ys)) { s with heap := s.heap.push { cls := .type "list", data := .seq its.toArray }, toks := t' } :=
  I.laid (fun _ _ q => Heap.get?_push_of_some _ q) (Nat.le_refl _) ⟨hz, its, 0, hv, Heap.get?_push_size _ rfl⟩
theorem Inv.fresh (I : Inv X pins σ H s) : H s.heap.objs.size = none := I.hok.fresh (Nat.le_refl _)
theorem Inv.lstM (I : Inv X pins σ H s) (hH : H l = some (.lst xs)) : xs.length ≤ sizeLine ∧ ∃ (its : List Value) (n : Nat), Vals xs its ∧ xs.length = its.length ∧ s.heap.get? l = some { cls := .type "list", data := .seq its.toArray n } := by
  obtain ⟨z, its, n, r, e⟩ := I.hok l _ hH
  exact ⟨z, its, n, r, r.length, e⟩
theorem qkv {n : Nat} (h : n ≤ sizeLine) : Builtin.List.listTooLong n = false := by
  unfold Builtin.List.listTooLong
  exact decide_eq_false (by omega)
end
section
variable {X : Cx}
noncomputable def qgu : V → List V → Hp → VK → Prop := fun x vs H Q => ∃ l xs y, x = .ref l ∧ vs = [y] ∧ H l = some (.lst xs) ∧ xs.length < sizeLine ∧ Q .non (upd H l (.lst (xs ++ [y])))
theorem qi6 : MtM X "list.append" qgu := by
  intro pins s σ H x vs v us Q I rx rv h
  obtain ⟨l, xs, y, rfl, rfl, hH, hz, q⟩ := h
  cases rx
  obtain ⟨u, rfl, ru⟩ := rv.one
  obtain ⟨z, its, n, r, hl, e⟩ := I.lstM hH
  refine call_meets F.slot_list_append ⟨_, e, rfl⟩ F.entry_list_append (F.args_list_append_2 _ _) (PySem.list_append l its.toArray n u (by rw [List.size_toArray]; omega)) ⟨e, ?_⟩
  refine ⟨.non, _, I.lset (its' := its ++ [u]) hH e (by simp) (r.append (.cons ru .nil)) ?_, rfl, q⟩
  rw [List.length_append, List.length_singleton]
  omega
noncomputable def qh6 : V → List V → Hp → VK → Prop := fun x vs H Q => ∃ l b xs zs, x = .ref l ∧ vs = [.ref b] ∧ H l = some (.lst xs) ∧ H b = some (.lst zs) ∧ xs.length + zs.length ≤ sizeLine ∧ Q .non (upd H l (.lst (xs ++ zs)))
theorem ql4 : MtM X "list.extend" qh6 := by
  intro pins s σ H x vs v us Q I rx rv h
  obtain ⟨l, b, xs, zs, rfl, rfl, hH, hB, hz, q⟩ := h
  cases rx
  obtain ⟨u, rfl, ru⟩ := rv.one
  cases ru
  obtain ⟨z, its, n, r, hl, e⟩ := I.lstM hH
  obtain ⟨z2, its2, n2, r2, hl2, e2⟩ := I.lstM hB
  have hsz : its.toArray.size + its2.toArray.size ≤ sizeLine := by rw [List.size_toArray, List.size_toArray]; omega
  have hlong : ¬ (!its.toArray.isEmpty && Builtin.List.listTooLong (its.toArray.size + its2.toArray.size)) = true := by
    rw [qkv hsz, Bool.and_false]
    exact Bool.false_ne_true
  refine call_meets F.slot_list_extend ⟨_, e, rfl⟩ F.entry_list_extend (F.args_list_extend_2 _ _)
    (AutoSeq1.list_extend_list_list_0 l its.toArray n b its2.toArray n2 hlong (by rw [List.size_toArray]; omega) (by omega)) ⟨e, e2, ?_⟩
  refine ⟨.non, _, I.lset (its' := its ++ its2) hH e (by simp) (r.append r2) ?_, rfl, q⟩
  rw [List.length_append]
  omega
noncomputable def qrK : V → List V → Hp → VK → Prop := fun x vs H Q => ∃ l xs y, x = .ref l ∧ vs = [] ∧ H l = some (.lst xs) ∧ xs[xs.length - 1]? = some y ∧ Q y (upd H l (.lst xs.dropLast))
noncomputable def qq7 : R2 := fun x y H Q => ∃ l b xs zs, x = .ref l ∧ y = .ref b ∧ H l = some (.lst xs) ∧ H b = some (.lst zs) ∧ xs.length + zs.length ≤ sizeLine ∧ ∀ p, H p = none → Q (.ref p) (upd H p (.lst (xs ++ zs)))
theorem qqh : OpR X (binaryOp .Add) qq7 := by
  intro pins s σ H x y v u Q I rx ry h
  obtain ⟨l, b, xs, zs, rfl, rfl, hH, hB, hz, q⟩ := h
  cases rx
  cases ry
  obtain ⟨z, its, n, r, hl, e⟩ := I.lstM hH
  obtain ⟨z2, its2, n2, r2, hl2, e2⟩ := I.lstM hB
  refine PySem.P.add_list e e2 ?_ (by rw [List.size_toArray, List.size_toArray]; omega)
  have ea : its.toArray ++ its2.toArray = (its ++ its2).toArray := by simp
  rw [ea]
  exact ⟨.ref _, _, I.lnew (t' := s.toks) (r.append r2) (by rw [List.length_append]; omega), rfl, q _ I.fresh⟩
noncomputable def qoB : R2 := fun x y H Q => ∃ l k xs, x = .ref l ∧ y = .int k ∧ H l = some (.lst xs) ∧ -(2 ^ 63) ≤ k ∧ k < 2 ^ 63 ∧ xs.length * k.toNat ≤ sizeLine ∧
  ∀ p, H p = none → Q (.ref p) (upd H p (.lst (List.replicate k.toNat xs).flatten))
theorem qpb {α : Type} (xs : List α) (k : Nat) : (List.replicate k xs).flatten.length = k * xs.length := by
  induction k with
  | zero => simp
  | succ k ih => rw [List.replicate_succ, List.flatten_cons, List.length_append, ih, Nat.succ_mul, Nat.add_comm]
theorem qi7 : OpR X (binaryOp .Mult) qoB := by
  intro pins s σ H x y v u Q I rx ry h
  obtain ⟨l, k, xs, rfl, rfl, hH, h1, h2, hz, q⟩ := h
  cases rx
  obtain ⟨t, rfl⟩ := ry
  obtain ⟨z, its, n, r, hl, e⟩ := I.lstM hH
  have hlen : its.toArray.size * k.toNat ≤ sizeLine := by rw [List.size_toArray, ← hl]; exact hz
  have hcap : ¬ its.toArray.size * k.toNat > (2 ^ 63 - 1) / 8 := by
    have : (sizeLine : Nat) ≤ (2 ^ 63 - 1) / 8 := by decide
    omega
  have hfit : ¬ (!Builtin.List.listFitsIndex k) = true := by
    rw [fitsIndex_both h1 h2]
    exact Bool.false_ne_true
  have hlong : ¬ Builtin.List.listTooLong (its.toArray.size * k.toNat) = true := by
    rw [qkv hlen]
    exact Bool.false_ne_true
  have hnew : List.foldl (fun x1 x2 => x1 ++ x2) #[] (List.replicate (if its.toArray.isEmpty = true then 0 else k.toNat) its.toArray) = (List.replicate k.toNat its).flatten.toArray := by
    have f0 : ∀ m : Nat, List.foldl (fun x1 x2 => x1 ++ x2) #[] (List.replicate m its.toArray) = (List.replicate m its).flatten.toArray := fun m => by
      have := qi5 its m []
      rw [List.nil_append] at this
      exact this
    rw [f0]
    cases its with
    | nil => simp
    | cons a r' => rw [if_neg (by simp)]
  refine wpAny_binaryOp_repeat_ref (T := "list") (U := "int") (by decide) ⟨_, e, rfl⟩ (fun s' => typeIs_int s' k t) noFill_list_mul F.fills_int_mul F.slot_int_rmul repeat_list F.slot_int_index.lookup
    (call_meets F.slot_int_rmul (typeIs_int s k t) F.entry_int_rmul (F.args_int_rmul_2 _ _) (int___rmul___int_list k t l its.toArray n)
      ⟨e, rfl, ⟨_, e, rfl⟩, call_meets F.slot_list_mul ⟨_, e, rfl⟩ F.entry_list_mul (F.args_list_mul_2 _ _) (AutoListH.list___mul___list_int_3 l its.toArray n k t hfit hcap hlong) ⟨e, ?_⟩⟩)
  rw [hnew]
  exact ⟨.ref _, _, I.lnew (t' := s.toks) (r.rep k.toNat) (by rw [qpb, Nat.mul_comm]; exact hz), rfl, q _ I.fresh⟩
end
section
variable {prog : Program} {w : World} {A : Around} {E : Value → Shared → Prop} {s : Shared}
end
section
variable {X : Cx}
end
end L2
namespace Att
open PySem PySem.W PySem.Calls PyProof.Rows
theorem qgv {P : Params} {h : Heap} : ∀ (ns : List Int) (vs : List Value), WellAll P h vs (ns.map WData.int) → IntsAre vs ns := by
  intro ns
  induction ns with
  | nil =>
    intro vs w
    rw [List.map_nil] at w
    cases w
    exact .nil
  | cons n ns ih =>
    intro vs w
    rw [List.map_cons] at w
    cases w with
    | cons a b =>
      cases a
      exact .cons _ _ (ih _ b)
theorem ql5 {l : OpenLaw} {n : Nat} (hn : l.most = some n) {P : Params} {h : Heap} {args : List WData} {vals : List Value}
    (hpre : l.row.toRowW.claim.pre args = true) (hwl : WellAll P h vals args) :
    ∃ a vs ns, vals = [Value.ref a] ∧ args = [WData.list (ns.map WData.int)] ∧ h.get? a = some { cls := .type "list", data := .seq vs.toArray } ∧ IntsAre vs ns ∧ ns.length ≤ n := by
  have hsh : WShape.hasAll [] args [.list .int] = true := (pre_splitW hpre).1
  have hc : l.pre.holds [] { args := args } = true := (pre_splitW hpre).2
  obtain ⟨d, r, rfl, h1, h2⟩ := hasAllW_cons hsh
  obtain rfl := hasAllW_nil h2
  obtain ⟨xs, rfl, h3⟩ := hasW_list h1
  obtain ⟨ns, rfl⟩ := items_int h3
  have hlen : ns.length ≤ n := by
    unfold OpenLaw.pre at hc
    have h4 : (WTm.not (.lt (.lit (.int (n : Int))) (.len (.arg 0)))).holds [] { args := [.list (ns.map .int)] } = true := by
      have h4 := (holds_andW hc).1
      rw [hn] at h4
      exact h4
    have h5 := condW_of h4 (w_not (w_lt w_lit (w_len_list (w_arg rfl))))
    rw [List.length_map] at h5
    refine Nat.le_of_not_lt fun q => ?_
    have q' : (n : Int) < ((ns.length : Nat) : Int) := by omega
    first
      | (rw [decide_eq_true q'] at h5; exact absurd h5 (by decide))
      | (simp at h5; omega)
  cases hwl with
  | cons w1 w2 =>
    cases w2
    cases w1 with
    | list ho hall => exact ⟨_, _, ns, rfl, rfl, ho, qgv ns _ hall, hlen⟩
theorem ql6 (l : OpenLaw) (args : List WData) : l.row.toRowW.claim.post args (.bool true) args = true :=
  postW_of (r := l.row.toRowW) (X := (true == true))
    (show WShape.has [] (.bool true) .bool = true by first | rfl | decide | simp [WShape.has, WShape.arms, WShape.armsAll])
    (show (WTm.eq .res (.lit (.bool true))).value [] { args := args, res := some (.bool true), after := args } = some (.bool (true == true)) from w_eq_bool (w_res rfl) w_lit) rfl
theorem attach_call {l : OpenLaw} {n : Nat} {q : Program} {loose : List Str} {XP : (Str → Option Value) → Heap → Prop} {YP : World → Heap → Prop} {d : DefRec}
    (hn : l.most = some n) (hdf : d.params.defaults = [])
    (call : ∀ (w : World) (s₀ s₁ : Shared) (mg mb : Str → Option Value) (fa : Addr) (o : Obj) (pm cd doc : Value) (a : Addr) (vs : List Value) (ns : List Int),
      Ground q loose [] XP w s₀ mg mb s₁.heap → YP w s₁.heap →
      s₁.heap.get? fa = some o → o.data = .func (docDef d.name d.params d.body d.scope pm cd doc) → s₁.heap.CodeRec cd d.name → mg d.name = some (.ref fa) →
      s₁.heap.get? a = some { cls := .type "list", data := .seq vs.toArray } → IntsAre vs ns → ns.length ≤ n → s₁.gens = #[] →
      codeAny (model l.prog w) callerA (.call (.ref fa) ⟨[.ref a], []⟩) (fun r s' => r = .ok (.ret (.bool true)) ∧ OldK s₁.heap s'.heap ∧ s'.os = s₁.os ∧ AllBare s'.gens) s₁) :
    WalkO q loose XP YP l.row.toRowW d [] (fun f vs => PySem.call f vs) := by
  intro w s₀ s₁ mg mb G Y fa o pm cd doc dV kV ho hd hcd hD hmg hg args vals as hpre hlay hrd hwl hlo
  obtain rfl : dV = .none := Dflts.none hD hdf
  obtain rfl : kV = .none := Dflts.noKw hD
  obtain ⟨a, vs, ns, rfl, rfl, hobj, hints, hlen⟩ := ql5 hn hpre hwl
  refine enter_call (codeAny_mono (call w s₀ s₁ mg mb fa o pm cd doc a vs ns G Y ho (fd_plain hd) hcd hmg hobj hints hlen hg) fun r s' hq => ?_)
  obtain ⟨rfl, h2, h3, h4⟩ := hq
  exact ⟨.inl ⟨.bool true, .bool true, [], rfl, fun _ => rfl, .bool true, ql6 l _, fun _ => ⟨List.Pairwise.nil, fun _ hm => (nomatch hm)⟩⟩, h2, h3, h4⟩
section
variable {prog : Program} {w : World} {A : Around} {E : Value → Shared → Prop} {s : Shared} {K : Frag}
end
end Att
namespace L2
open PySem PySem.Spec PyProof.Rows
theorem qi8 : ∀ {vs : List Value} {ns : List Int}, IntsAre vs ns → Vals (ns.map V.int) vs
  | _, _, .nil => .nil
  | _, _, .cons n t h => .cons ⟨t, rfl⟩ (qi8 h)
noncomputable def Only (H : Hp) : Prop := ∀ b, H b = none ∨ ∃ o xs, H b = some (.frz o (.lst xs))
theorem qnQ {P : Program} {w : World} {K : PySem.W.Frag} {mg mb : Str → Option Value} {CX : CXT} {k : Nat} {fa a : Addr} {fd : FuncData} {x : Str} {sp : Sp} {s₁ : Shared} {vs : List Value} {ns : List Int}
    (KX : K.In s₁.heap) (hns : s₁.heap.Ns mainGlobals mg) (hb : s₁.heap.Ns builtinsNs mb) (hbb : ∀ x : Str, x ≠ "__name__" → mb x = bootBuiltins x) (hlim : s₁.heap.NoLimit) (hseer : s₁.heap.NoSeer) (htree : (model P w).prog.given.tree = none) (hg : s₁.gens = #[])
    (ha : s₁.heap.get? a = some { cls := .type "list", data := .seq vs.toArray }) (hi : IntsAre vs ns) (hl : ns.length ≤ sizeLine) (hr : Room k callerA)
    (F : ∀ base : Heap, K.In base → base.Ns mainGlobals mg → FnOk P w K mg base CX k fa fd [x] sp) (hbind : ∀ (s : Shared) (u : Value), BindsTo s fd ⟨[u], []⟩ [(x, u)])
    (hsp : ∀ H : Hp, Only H → SqL K H a (ns.map V.int) → sp [.ref a] H (fun v _ => v = .bl true) fun _ _ _ => False)
    (hCX : ∀ H e s', CX [] H s₁ (fun _ _ _ => False) e s' → False) :
    codeAny (model P w) callerA (.call (.ref fa) ⟨[.ref a], []⟩) (fun r s' => r = .ok (.ret (.bool true)) ∧ OldK s₁.heap s'.heap ∧ s'.os = s₁.os ∧ AllBare s'.gens) s₁ := by
  have rv := qi8 hi
  have lenV := hi.length
  have core : ∀ H : Hp, Only H → SqL K H a (ns.map V.int) → HOk P w H s₁.heap → (∀ b, H b ≠ none → b = a) → (H a ≠ none → K.lookup a = none) →
      codeAny (model P w) callerA (.call (.ref fa) ⟨[.ref a], []⟩) (fun r s' => r = .ok (.ret (.bool true)) ∧ OldK s₁.heap s'.heap ∧ s'.os = s₁.os ∧ AllBare s'.gens) s₁ := by
    intro H hO hS hok hA hK
    have base_of : ∀ {b : Addr} {o : Obj}, s₁.heap.get? b = some o → H b = none → (qnH s₁.heap H).get? b = some o := fun e n => qnJ e n
    have noA : ∀ {b : Addr} {o : Obj} {es : Array DictEntry} {ep : Nat}, s₁.heap.get? b = some o → o.data = .dict es ep → H b = none := fun {b o es ep} e d => by
      cases q : H b with
      | none => rfl
      | some u =>
        have e' : b = a := hA b (by rw [q]; simp)
        subst e'
        rw [ha] at e; cases e
        have d' : Data.seq vs.toArray _ = Data.dict es ep := d
        cases d'
    have nsK : ∀ {b : Addr} {m : Str → Option Value}, s₁.heap.Ns b m → (qnH s₁.heap H).Ns b m := fun {b m} ⟨o, es, ep, e, d, r⟩ => ⟨o, es, ep, base_of e (noA e d), d, r⟩
    have hKb : K.In (qnH s₁.heap H) := fun b o e => base_of (KX b o e) (by
      cases q : H b with
      | none => rfl
      | some u =>
        have e' : b = a := hA b (by rw [q]; simp)
        subst e'
        rw [hK (by rw [q]; simp)] at e; cases e)
    have hM : Mod K mg (qnH s₁.heap H) := ⟨hKb, nsK hns, ⟨mb, nsK hb, hbb⟩, let ⟨mc, h1, h2⟩ := hlim; ⟨mc, nsK h1, h2⟩⟩
    have hSe : (qnH s₁.heap H).NoSeer := ⟨let ⟨mc, a, b⟩ := hseer.statics; ⟨mc, nsK a, b⟩, let ⟨mc, a, b⟩ := hseer.mods; ⟨mc, nsK a, b⟩, let ⟨mc, a, b⟩ := hseer.imp; ⟨mc, nsK a, b⟩,
      let ⟨mg', bm, ob, a', b', c', d', e'⟩ := hseer.main; ⟨mg', bm, ob, nsK a', b', base_of c' (by
        cases q : H bm with
        | none => rfl
        | some u =>
          have z : bm = a := hA bm (by rw [q]; simp)
          subst z
          rw [ha] at c'; cases c'
          simp at d'), d', e'⟩⟩
    have e0 : Env0 P w K mg (qnH s₁.heap H) callerA [] s₁ H := ⟨rfl, hM, fun b o e => qo0 e, Nat.le_of_eq (qlK _ _), trivial, fun b hb => absurd (show b ∈ ([] : List Addr) from hb) (by simp), hok, .of_eq hg, hSe, htree⟩
    refine codeAny_mono ((F _ hKb (nsK hns)).run callerA [] s₁ H ⟨[.ref a], []⟩ [.ref a] [.ref a] _ _ hr e0 (hbind s₁ (.ref a)) (.cons rfl .nil) (hsp H hO hS)) fun r s' h => ?_
    cases r with
    | error e => exact (hCX H e s' h).elim
    | ok fl =>
      cases fl with
      | next => exact False.elim h
      | brk => exact False.elim h
      | cont => exact False.elim h
      | ret u =>
        obtain ⟨v, H', os, bare, un, hok', r', q⟩ := h
        have q' : v = .bl true := q
        subst q'
        obtain rfl : u = Value.bool true := r'
        refine ⟨rfl, OldK.of_keep fun b o e => ?_, os, bare⟩
        cases q : H b with
        | none => exact un.keep b o e q (by intro z; exact absurd (show b ∈ ([] : List Addr) from z) (by simp)) (by simp)
        | some u =>
          rcases hO b with z | ⟨ob, xs, z⟩
          · rw [q] at z; cases z
          · have z2 := un.frzs b ob _ z
            obtain ⟨e1, _⟩ := hok b _ z
            obtain ⟨e2, _⟩ := hok' b _ z2
            rw [e] at e1; cases e1
            exact e2
  cases hk : K.lookup a with
  | some o =>
    have e := KX a o hk
    rw [ha] at e
    cases e
    refine core (fun _ => none) (fun _ => .inl rfl) (.inr ⟨_, vs.toArray, _, hk, rfl, rfl, rfl, by rw [List.size_toArray, lenV]; exact hl, by simpa using rv⟩) (fun b u z => by have z' : (none : Option HO) = some u := z; cases z') (fun b z => absurd rfl z) fun z => absurd rfl z
  | none =>
    refine core (fun b => if b = a then some (.frz { cls := .type "list", data := .seq vs.toArray } (.lst (ns.map V.int))) else none) (fun b => ?_) (.inl (.inr ⟨{ cls := .type "list", data := .seq vs.toArray }, if_pos rfl⟩)) (fun b u z => ?_) (fun b z => ?_) fun _ => hk
    · by_cases hb : b = a
      · exact .inr ⟨_, _, if_pos hb⟩
      · exact .inl (if_neg hb)
    · by_cases hb : b = a
      · have z' := (if_pos hb).symm.trans z
        cases z'
        subst hb
        exact ⟨ha, by rw [List.length_map]; exact hl, vs, _, rv, ha⟩
      · have z' := (if_neg hb).symm.trans z
        cases z'
    · by_cases hb : b = a
      · exact hb
      · exact absurd (if_neg hb) z
end L2
namespace L2
open PySem PySem.Spec PyProof.Rows
theorem walk_of {l : PySem.W.OpenLaw} {n k : Nat} {q : Program} {loose : List Str} {XP : (Str → Option Value) → Heap → Prop} {YP : World → Heap → Prop} {d : DefRec} {K : Params → PySem.W.Frag} {CX : World → CXT} {sp : World → Sp} {x : Str}
    (hn : l.most = some n) (hn2 : n ≤ sizeLine) (hdf : d.params.defaults = []) (hq : importsNone q = true) (htree : ∀ w, (model l.prog w).prog.given.tree = none) (hr : Room k callerA)
    (hY : ∀ (w : World) (h : Heap), YP w h → (K w.params).In h)
    (F : ∀ (w : World) (mg : Str → Option Value) (fa : Addr) (h : Heap), (K w.params).In h → h.Ns mainGlobals mg → mg d.name = some (.ref fa) →
      ∃ fd : FuncData, (∀ (s : Shared) (u : Value), BindsTo s fd ⟨[u], []⟩ [(x, u)]) ∧
        ∀ base : Heap, (K w.params).In base → base.Ns mainGlobals mg → FnOk l.prog w (K w.params) mg base (CX w) k fa fd [x] (sp w))
    (hsp : ∀ (w : World) (H : Hp) (a : Addr) (ns : List Int), ns.length ≤ n → Only H → SqL (K w.params) H a (ns.map V.int) → sp w [.ref a] H (fun v _ => v = .bl true) fun _ _ _ => False)
    (hCX : ∀ (w : World) (H : Hp) (s : Shared) (e : Value) (s' : Shared), CX w [] H s (fun _ _ _ => False) e s' → False) :
    PySem.W.WalkO q loose XP YP l.row.toRowW d [] (fun f vs => PySem.call f vs) := by
  refine Att.attach_call hn hdf fun w s₀ s₁ mg mb fa o pm cd doc a vs ns G Y ho hd hcd hmg hobj hints hlen hg => ?_
  have KX := hY w _ Y
  obtain ⟨fd, hb, hF⟩ := F w mg fa _ KX G.T.g hmg
  exact qnQ KX G.T.g G.T.b G.T.builtins G.T.nolimit (G.T.seer hq) (htree w) hg hobj hints (Nat.le_trans hlen hn2) hr hF hb (fun H hO hS => hsp w H a ns hlen hO hS) fun H e s' => hCX w H s₁ e s'
end L2
namespace L2
open PySem PySem.Spec PyProof.Rows
noncomputable def qez (s : Stmt) : Arguments := match s with
  | .FunctionDef _ a _ _ _ _ _ _ _ _ => a
  | _ => { posonlyargs := [], args := [], vararg := none, kwonlyargs := [], kw_defaults := [], kwarg := none, defaults := [] }
noncomputable def qdX (s : Stmt) : List Stmt := match s with
  | .FunctionDef _ _ b _ _ _ _ _ _ _ => b
  | _ => []
noncomputable def qaj (s : Stmt) : Scope := match s with
  | .FunctionDef _ _ _ _ _ _ sc _ _ _ => sc
  | _ => { kind := .function, names := [], isGenerator := false, isCoroutine := false }
noncomputable abbrev CX0 : CXT := fun _ _ _ _ _ _ => False
noncomputable abbrev E0 : XK := fun _ _ _ => False
theorem qri {X : Cx} : Passes CX0 X E0 := fun _ _ _ _ _ _ _ h => h.elim
structure Fun (K : PySem.W.Frag) (x qual : Str) (st : Stmt) (f : Addr) (fd : FuncData) : Prop where
  ex : ∃ (oc : Value) (od : Option Addr) (kV doc pm : Value) (an : Option Addr) (cdv ct : Value) (osl : Array (Option Value)),
    fd = PySem.W.fnOf x qual (qez st) (qdX st) (qaj st) .none kV doc pm an cdv ct ∧ K.lookup f = some ⟨oc, od, .func fd, osl⟩ ∧ PySem.W.codeIn K cdv qual = true
  kp : PySem.W.keepIn K (.ref f) = true
section
variable {P : Program} {w : World} {K : PySem.W.Frag} {mg : Str → Option Value} {base : Heap}
theorem Fun.ok {x qual : Str} {st : Stmt} {f : Addr} {fd : FuncData} {N ps : List Str} {k : Nat} {sp : Sp} (F : Fun K x qual st f fd) (S : FnScope N ps (qaj st)) (len : ∀ vs H Q E, sp vs H Q E → vs.length = ps.length)
    (hbody : ∀ (cdv : Value) (A : Around) (outer : List Env) (s : Shared) (H : Hp) (vs : List V) (Q : VK) (E : XK), Room k (A.deeper (envOfC qual (qaj st) s.heap.objs.size f cdv)) → sp vs H Q E →
      ∃ t, PSs (qpX CX0 P w K mg base N qual (qaj st) f cdv A outer s H E).nox (qdX st) t ∧ t { nx := fun _ H' => Q .non H', rt := Q } (start N vs) H) : FnOk P w K mg base CX0 (k + 1) f fd ps sp := by
  obtain ⟨oc, od, kV, doc, pm, an, cdv, ct, osl, rfl, lk, hcd⟩ := F.ex
  refine qrh lk hcd S len fun A outer s H vs Q E hr hsp => ?_
  obtain ⟨t, h, q⟩ := hbody cdv A outer s H vs Q E hr hsp
  exact ⟨t, h.nox, q⟩
theorem Fun.binds {x qual : Str} {st : Stmt} {f : Addr} {fd : FuncData} {ps : List Str} (F : Fun K x qual st f fd)
    (h : ∀ (kV doc pm : Value) (an : Option Addr) (cdv ct : Value) (us : List Value), us.length = ps.length → bindArgs (PySem.W.fnOf x qual (qez st) (qdX st) (qaj st) .none kV doc pm an cdv ct) ⟨us, []⟩ = pure (ps.zip us)) : Binds K fd ps [] := by
  obtain ⟨oc, od, kV, doc, pm, an, cdv, ct, osl, rfl, lk, hcd⟩ := F.ex
  exact .all (h kV doc pm an cdv ct)
theorem qqi {x qual : Str} {st : Stmt} {f : Addr} {oc : Value} {od an : Option Addr} {osl : Array (Option Value)} {kV doc pm cdv ct : Value} (l : K.lookup f = some ⟨oc, od, .func (PySem.W.fnOf x qual (qez st) (qdX st) (qaj st) .none kV doc pm an cdv ct), osl⟩)
    (c : PySem.W.codeIn K cdv qual = true) (k : PySem.W.keepIn K (.ref f) = true) : Fun K x qual st f (PySem.W.fnOf x qual (qez st) (qdX st) (qaj st) .none kV doc pm an cdv ct) := ⟨⟨oc, od, kV, doc, pm, an, cdv, ct, osl, rfl, l, c⟩, k⟩
end
section
variable {X : Cx}
theorem pv (i : Nat) {x : Str} {pos : Pos} (hN : X.N[i]? = some x := by rfl) (hv : Vis X.env.scope x := by first | exact Or.inl rfl | exact Or.inr (Or.inl rfl) | exact Or.inr (Or.inr rfl)) (hd : (x == ("__debug__" : Str)) = false := by decide)
    (hcd : (x == ("__classdict__" : Str)) = false := by decide) : PE X (.Name x pos) (qag i) := qp5 hN hv hd hcd
end
theorem qcy {c A B : Prop} [Decidable c] (h1 : c → A) (h2 : ¬ c → B) : if c then A else B := by
  by_cases h : c
  · rw [if_pos h]
    exact h1 h
  · rw [if_neg h]
    exact h2 h
noncomputable def Same (H H' : Hp) : Prop := ∀ b o, H b = some o → H' b = some o
theorem Same.refl (H : Hp) : Same H H := fun _ _ h => h
theorem Same.trans {H H1 H2 : Hp} (a : Same H H1) (b : Same H1 H2) : Same H H2 := fun c o h => b c o (a c o h)
theorem Same.free {H H' : Hp} (e : Same H H') {l : Addr} (h : H' l = Option.none) : H l = Option.none := by
  cases q : H l with
  | none => rfl
  | some o =>
    rw [e l o q] at h
    cases h
theorem Same.seq {K : PySem.W.Frag} {H H' : Hp} {a : Addr} {xs : List V} (e : Same H H') (h : SqL K H a xs) : SqL K H' a xs := by
  rcases h with (h | ⟨o, h⟩) | h
  · exact .inl (.inl (e _ _ h))
  · exact .inl (.inr ⟨o, e _ _ h⟩)
  · exact .inr h
end L2
local macro_rules | `(tactic| omega) => `(tactic| lia)
namespace Bs.Hd
open PySem PySem.Spec PyProof.Rows L2
set_option maxRecDepth 100000
set_option maxHeartbeats 4000000
noncomputable def top (i:Nat):Stmt:=PySem.Challenge.pw_backslope_k16_parts_of_any.main.body.getD i (.Pass ⟨0,0,0,0⟩)
noncomputable abbrev qcs:Stmt:=top 2
noncomputable abbrev qh7:Stmt:=top 3
noncomputable abbrev qgw:Stmt:=top 4
noncomputable abbrev qdv:Stmt:=top 5
noncomputable abbrev qdY:Stmt:=top 6
noncomputable abbrev qeA:Stmt:=top 7
noncomputable abbrev qfq:Stmt:=top 8
noncomputable abbrev qfr:Stmt:=top 9
noncomputable abbrev qdw:Stmt:=top 10
noncomputable abbrev qbO:Stmt:=top 11
noncomputable abbrev qcF:Stmt:=top 12
noncomputable abbrev qcG:Stmt:=top 13
noncomputable abbrev qct:Stmt:=top 14
noncomputable abbrev qdc:Stmt:=top 15
noncomputable abbrev qdZ:Stmt:=top 16
noncomputable abbrev qdd:Stmt:=top 17
noncomputable abbrev qde:Stmt:=top 18
noncomputable abbrev qdx:Stmt:=top 19
noncomputable abbrev qcH:Stmt:=top 20
noncomputable abbrev qgx:Stmt:=top 21
noncomputable abbrev qbW:Stmt:=top 22
noncomputable abbrev qd0:Stmt:=top 23
noncomputable abbrev qd1:Stmt:=top 24
noncomputable abbrev qjP:Stmt:=top 26
noncomputable abbrev qjQ:Stmt:=top 27
noncomputable abbrev ql7:Stmt:=top 29
noncomputable abbrev qgy:Stmt:=top 30
noncomputable abbrev qeB:Stmt:=top 31
noncomputable abbrev qh8:Stmt:=top 32
noncomputable abbrev qgz:Stmt:=top 33
noncomputable abbrev qdf:Stmt:=top 35
noncomputable abbrev qd2:Stmt:=top 36
noncomputable abbrev qgA:Stmt:=top 37
noncomputable abbrev qh9:Stmt:=top 39
noncomputable abbrev qia:Stmt:=top 40
noncomputable abbrev qfs:Stmt:=top 41
noncomputable abbrev qdy:Stmt:=top 42
noncomputable abbrev qeC:Stmt:=top 43
noncomputable abbrev qgB:Stmt:=top 44
noncomputable abbrev qeD:Stmt:=top 45
noncomputable abbrev qd3:Stmt:=top 46
noncomputable abbrev qjR:Stmt:=top 47
noncomputable abbrev qeE:Stmt:=top 48
noncomputable abbrev qeF:Stmt:=top 49
noncomputable abbrev qgC:Stmt:=top 50
noncomputable abbrev qgD:Stmt:=top 51
noncomputable abbrev qlf:Stmt:=top 52
noncomputable abbrev N:Value:=.none
noncomputable abbrev S (x:Str) (t:Tok):Value:=.str x t
noncomputable abbrev I (i:Int):Value:=.int i 0
noncomputable abbrev R (a:Addr):Value:=.ref a
noncomputable def en (P:Params) (k:Str) (t:Tok) (v:Value):DictEntry:=⟨PyData.keyHash P k,.str k t,v⟩
noncomputable def cdO (n:Str) (t:Tok) (l c u:Int) (a:Addr) (b g d e f:Value) (x:Int) (y:Tok):Obj:=⟨.type "code", none,.fields #[S n t,S n (t+1),S "/claim/cut.py" (t+2),I l,I c,I 0,I 0,I u,R a,.bool true,I 181,b,g,d,e,f,I x,I l,S "/claim/cut.py" y],#[]⟩
noncomputable def fnO (n:Str) (s:Stmt) (pm:Value) (c:Addr):Obj:=⟨.type "function", none,.func (PySem.W.fnOf n n (qez s) (qdX s) (qaj s) .none .none .none pm none (.ref c) .none),#[]⟩
noncomputable abbrev mo0:Value:=S "backslope.wholes" 187
noncomputable abbrev mo1:Value:=S "backslope.numbers" 392
noncomputable abbrev mo2:Value:=S "backslope.polys" 411
noncomputable abbrev mo3:Value:=S "backslope.parts" 448
noncomputable abbrev mo4:Value:=S "law_backslope_k16_parts_of_any" 476
noncomputable def hp (P:Params):W.Frag:=[
  (3,⟨.type "dict", none,.dict #[en P "__name__" 165 (S "law_backslope_k16_parts_of_any" 476),en P "__doc__" 166 N,en P "__package__" 167 N,en P "__loader__" 168 (.builtin "__main__.__loader__#opaque"),en P "__spec__" 169 N,en P "__annotations__" 170 (R 6),en P "__builtins__" 171 (R 4),en P "__file__" 173 (S "/claim/cut.py" 172),en P "__cached__" 174 N,en P "EXPONENTS" 197 (R 15),en P "common_divisor" 206 (R 22),en P "raised" 216 (R 29),en P "content" 222 (R 34),en P "row_trimmed" 230 (R 41),en P "row_parted" 236 (R 46),en P "row_slope" 242 (R 51),en P "row_over" 256 (R 58),en P "row_less" 262 (R 63),en P "strand_rest" 268 (R 68),en P "strand_shortened" 274 (R 73),en P "row_shortened" 281 (R 80),en P "strand_euclid" 290 (R 87),en P "inverse_modulo" 304 (R 94),en P "rests_modulo" 310 (R 99),en P "row_modulo" 318 (R 106),en P "monic_modulo" 324 (R 111),en P "split_modulo" 339 (R 118),en P "rest_modulo" 348 (R 125),en P "euclid_modulo" 358 (R 132),en P "nearest" 367 (R 139),en P "common_by_prime" 373 (R 144),en P "row_common" 385 (R 151),en P "simple_row" 391 (R 156),en P "ratio" 402 (R 163),en P "times" 410 (R 170),en P "poly" 420 (R 177),en P "cleared" 426 (R 182),en P "uncleared" 432 (R 187),en P "common" 441 (R 194),en P "p_slope" 447 (R 199),en P "simple_parts" 461 (R 206),en P "made_monic" 468 (R 213),en P "radical" 475 (R 220),en P "_law_hand" 485 (R 227),en P "_law_draw" 497 (R 234),en P "_law_lowest" 507 (R 241),en P "_law_row_times" 520 (R 248),en P "_law_poly_of" 526 (R 253),en P "_law_scale" 533 (R 260),en P "_law_any_row" 544 (R 267),en P "_law_monic_of" 550 (R 272),en P "_law_sum" 558 (R 279),en P "_law_product" 566 (R 286),en P "_law_trimmed" 574 (R 293),en P "_law_times" 587 (R 300),en P "_law_apart" 596 (R 307),en P "law" 613 (R 314)] 57,#[]⟩),
  (15,⟨.type "tuple", none,.seq #[(.int 61 189),(.int 127 190),(.int 521 191),(.int 1279 192),(.int 4423 193),(.int 9941 194),(.int 21701 195),(.int 44497 196)] 0,#[]⟩),
  (21,cdO "common_divisor" 198 3 2 3 16 (R 17) N (R 18) (R 19) (R 20) 204 205),
  (22,fnO "common_divisor" (top 2) mo0 21),
  (28,cdO "raised" 207 9 2 3 23 (R 24) N (R 25) (R 26) (R 27) 214 215),
  (29,fnO "raised" (top 3) mo0 28),
  (33,cdO "content" 217 19 2 3 30 (R 31) N N N (R 32) 220 221),
  (34,fnO "content" (top 4) mo0 33),
  (40,cdO "row_trimmed" 223 26 1 3 35 (R 36) N (R 37) (R 38) (R 39) 228 229),
  (41,fnO "row_trimmed" (top 5) mo0 40),
  (45,cdO "row_parted" 231 31 2 3 42 (R 43) N N N (R 44) 234 235),
  (46,fnO "row_parted" (top 6) mo0 45),
  (50,cdO "row_slope" 237 33 1 3 47 (R 48) N N N (R 49) 240 241),
  (51,fnO "row_slope" (top 7) mo0 50),
  (57,cdO "row_over" 243 35 2 3 52 (R 53) N (R 54) (R 55) (R 56) 254 255),
  (58,fnO "row_over" (top 8) mo0 57),
  (62,cdO "row_less" 257 48 5 3 59 (R 60) N N N (R 61) 260 261),
  (63,fnO "row_less" (top 9) mo0 62),
  (67,cdO "strand_rest" 263 54 2 3 64 (R 65) N N N (R 66) 266 267),
  (68,fnO "strand_rest" (top 10) mo0 67),
  (72,cdO "strand_shortened" 269 64 1 3 69 (R 70) N N N (R 71) 272 273),
  (73,fnO "strand_shortened" (top 11) mo0 72),
  (79,cdO "row_shortened" 275 69 1 3 74 (R 75) N (R 76) (R 77) (R 78) 279 280),
  (80,fnO "row_shortened" (top 12) mo0 79),
  (86,cdO "strand_euclid" 282 71 2 3 81 (R 82) N (R 83) (R 84) (R 85) 288 289),
  (87,fnO "strand_euclid" (top 13) mo0 86),
  (93,cdO "inverse_modulo" 291 79 2 3 88 (R 89) N (R 90) (R 91) (R 92) 302 303),
  (94,fnO "inverse_modulo" (top 14) mo0 93),
  (98,cdO "rests_modulo" 305 93 2 3 95 (R 96) N N N (R 97) 308 309),
  (99,fnO "rests_modulo" (top 15) mo0 98),
  (105,cdO "row_modulo" 311 95 2 3 100 (R 101) N (R 102) (R 103) (R 104) 316 317),
  (106,fnO "row_modulo" (top 16) mo0 105),
  (110,cdO "monic_modulo" 319 97 2 3 107 (R 108) N N N (R 109) 322 323),
  (111,fnO "monic_modulo" (top 17) mo0 110),
  (117,cdO "split_modulo" 325 102 3 3 112 (R 113) N (R 114) (R 115) (R 116) 337 338),
  (118,fnO "split_modulo" (top 18) mo0 117),
  (124,cdO "rest_modulo" 340 113 3 3 119 (R 120) N (R 121) (R 122) (R 123) 346 347),
  (125,fnO "rest_modulo" (top 19) mo0 124),
  (131,cdO "euclid_modulo" 349 115 3 3 126 (R 127) N (R 128) (R 129) (R 130) 356 357),
  (132,fnO "euclid_modulo" (top 20) mo0 131),
  (138,cdO "nearest" 359 123 2 3 133 (R 134) N (R 135) (R 136) (R 137) 365 366),
  (139,fnO "nearest" (top 21) mo0 138),
  (143,cdO "common_by_prime" 368 126 3 3 140 (R 141) N N N (R 142) 371 372),
  (144,fnO "common_by_prime" (top 22) mo0 143),
  (150,cdO "row_common" 374 135 2 3 145 (R 146) N (R 147) (R 148) (R 149) 383 384),
  (151,fnO "row_common" (top 23) mo0 150),
  (155,cdO "simple_row" 386 144 1 3 152 (R 153) N N N (R 154) 389 390),
  (156,fnO "simple_row" (top 24) mo0 155),
  (162,cdO "ratio" 394 149 2 3 157 (R 158) N (R 159) (R 160) (R 161) 400 401),
  (163,fnO "ratio" (top 26) mo1 162),
  (169,cdO "times" 403 154 2 3 164 (R 165) N (R 166) (R 167) (R 168) 408 409),
  (170,fnO "times" (top 27) mo1 169),
  (176,cdO "poly" 413 157 1 3 171 (R 172) N (R 173) (R 174) (R 175) 418 419),
  (177,fnO "poly" (top 29) mo2 176),
  (181,cdO "cleared" 421 162 1 3 178 (R 179) N N N (R 180) 424 425),
  (182,fnO "cleared" (top 30) mo2 181),
  (186,cdO "uncleared" 427 167 2 3 183 (R 184) N N N (R 185) 430 431),
  (187,fnO "uncleared" (top 31) mo2 186),
  (193,cdO "common" 433 169 2 3 188 (R 189) N (R 190) (R 191) (R 192) 439 440),
  (194,fnO "common" (top 32) mo2 193),
  (198,cdO "p_slope" 442 172 1 3 195 (R 196) N N N (R 197) 445 446),
  (199,fnO "p_slope" (top 33) mo2 198),
  (205,cdO "simple_parts" 450 175 1 3 200 (R 201) N (R 202) (R 203) (R 204) 459 460),
  (206,fnO "simple_parts" (top 35) mo3 205),
  (212,cdO "made_monic" 462 186 1 3 207 (R 208) N (R 209) (R 210) (R 211) 466 467),
  (213,fnO "made_monic" (top 36) mo3 212),
  (219,cdO "radical" 469 188 1 3 214 (R 215) N (R 216) (R 217) (R 218) 473 474),
  (220,fnO "radical" (top 37) mo3 219),
  (226,cdO "_law_hand" 478 191 1 3 221 (R 222) N (R 223) (R 224) (R 225) 483 484),
  (227,fnO "_law_hand" (top 39) mo4 226),
  (233,cdO "_law_draw" 486 194 2 3 228 (R 229) N (R 230) (R 231) (R 232) 495 496),
  (234,fnO "_law_draw" (top 40) mo4 233),
  (240,cdO "_law_lowest" 498 207 2 3 235 (R 236) N (R 237) (R 238) (R 239) 505 506),
  (241,fnO "_law_lowest" (top 41) mo4 240),
  (247,cdO "_law_row_times" 508 214 2 3 242 (R 243) N (R 244) (R 245) (R 246) 518 519),
  (248,fnO "_law_row_times" (top 42) mo4 247),
  (252,cdO "_law_poly_of" 521 220 2 3 249 (R 250) N N N (R 251) 524 525),
  (253,fnO "_law_poly_of" (top 43) mo4 252),
  (259,cdO "_law_scale" 527 222 1 3 254 (R 255) N (R 256) (R 257) (R 258) 531 532),
  (260,fnO "_law_scale" (top 44) mo4 259),
  (266,cdO "_law_any_row" 534 224 3 3 261 (R 262) N (R 263) (R 264) (R 265) 542 543),
  (267,fnO "_law_any_row" (top 45) mo4 266),
  (271,cdO "_law_monic_of" 545 229 1 3 268 (R 269) N N N (R 270) 548 549),
  (272,fnO "_law_monic_of" (top 46) mo4 271),
  (278,cdO "_law_sum" 551 231 2 3 273 (R 274) N (R 275) (R 276) (R 277) 556 557),
  (279,fnO "_law_sum" (top 47) mo4 278),
  (285,cdO "_law_product" 559 233 2 3 280 (R 281) N (R 282) (R 283) (R 284) 564 565),
  (286,fnO "_law_product" (top 48) mo4 285),
  (292,cdO "_law_trimmed" 567 235 1 3 287 (R 288) N (R 289) (R 290) (R 291) 572 573),
  (293,fnO "_law_trimmed" (top 49) mo4 292),
  (299,cdO "_law_times" 575 240 2 3 294 (R 295) N (R 296) (R 297) (R 298) 585 586),
  (300,fnO "_law_times" (top 50) mo4 299),
  (306,cdO "_law_apart" 588 246 1 3 301 (R 302) N (R 303) (R 304) (R 305) 594 595),
  (307,fnO "_law_apart" (top 51) mo4 306),
  (313,cdO "law" 597 254 1 3 308 (R 309) N (R 310) (R 311) (R 312) 611 612),
  (314,fnO "law" (top 52) mo4 313)]
noncomputable def as:List Addr:=[3,15,21,22,28,29,33,34,40,41,45,46,50,51,57,58,62,63,67,68,72,73,79,80,86,87,93,94,98,99,105,106,110,111,117,118,124,125,131,132,138,139,143,144,150,151,155,156,162,163,169,170,176,177,181,182,186,187,193,194,198,199,205,206,212,213,219,220,226,227,233,234,240,241,247,248,252,253,259,260,266,267,271,272,278,279,285,286,292,293,299,300,306,307,313,314]
noncomputable def vw:Program:=PySem.W.view PySem.Challenge.pw_backslope_k16_parts_of_any [1,2,3,4,5,6,7,8,9,10,11,12,13,14,15,16,17,18,19,20,21,22,23,24,26,27,29,30,31,32,33,35,36,37,39,40,41,42,43,44,45,46,47,48,49,50,51,52]
noncomputable def hk:PySem.W.Hook:=PySem.W.kHook hp as (fun _=>by kernel_rfl)
theorem left:PySem.W.LeftO PySem.Challenge.pw_backslope_k16_parts_of_any vw [] (fun s=>PySem.W.xlAt vw [] s && PySem.W.recOk (PySem.W.RowW.records (PySem.W.OpenRow.toRowW (PySem.W.OpenLaw.row PySem.Challenge.rw_backslope_k16_parts_of_any))) s) hk.obs hk.val 3076:=fun w=>by kernel_rfl
end Bs.Hd
namespace Bs
noncomputable def Bd (n:Nat) (x:Int):Prop:=x.natAbs<2 ^ n
theorem Bd.mono {m n:Nat} {x:Int} (h:Bd m x) (hn:m≤n):Bd n x:=Nat.lt_of_lt_of_le h (Nat.pow_le_pow_right (by decide) hn)
theorem Bd.le {n:Nat} {x y:Int} (h:Bd n x) (hy:y.natAbs≤x.natAbs):Bd n y:=Nat.lt_of_le_of_lt hy h
theorem Bd.neg {n:Nat} {x:Int} (h:Bd n x):Bd n (-x):=by unfold Bd at *;rw [Int.natAbs_neg];exact h
theorem Bd.add {n:Nat} {x y:Int} (h:Bd n x) (h':Bd n y):Bd (n+1) (x+y):=by
  unfold Bd at *
  have:=Int.natAbs_add_le x y
  rw [Nat.pow_succ]
  omega
theorem Bd.sub {n:Nat} {x y:Int} (h:Bd n x) (h':Bd n y):Bd (n+1) (x - y):=by
  rw [Int.sub_eq_add_neg];exact h.add h'.neg
theorem Bd.mul {m n:Nat} {x y:Int} (h:Bd m x) (h':Bd n y):Bd (m+n) (x*y):=by
  unfold Bd at *
  rw [Int.natAbs_mul,Nat.pow_add]
  exact Nat.mul_lt_mul'' h h'
theorem qr1 {x:Int} (h1:-18446744073709551616<x) (h2:x<18446744073709551616):Bd 64 x:=by
  unfold Bd
  have:(2:Nat) ^ 64=18446744073709551616:=by decide
  rw [this];omega
theorem Bd.log2 {n:Nat} {x:Int} (h:Bd n x) (hn:0<n):x.natAbs.log2<n:=by
  unfold Bd at h
  rcases Nat.eq_zero_or_pos x.natAbs with h0 | hp
  · rw [h0];simpa using hn
  · exact (Nat.log2_lt (Nat.ne_of_gt hp)).mpr h
structure Low (t d:Int):Prop where
  pos:0<d
  one:Int.gcd t d=1
theorem qkw (a b:Int):Int.gcd b (a.fmod b)=Int.gcd a b:=by
  have e:a.fmod b=a - b*a.fdiv b:=Int.fmod_def a b
  rw [e]
  apply Nat.dvd_antisymm
  · apply Int.dvd_gcd
    · have h1:=Int.gcd_dvd_left b (a - b*a.fdiv b)
      have h2:=Int.gcd_dvd_right b (a - b*a.fdiv b)
      have h3:=Int.dvd_add h2 (Int.dvd_mul_of_dvd_left (c:=a.fdiv b) h1)
      rw [Int.sub_add_cancel] at h3
      exact h3
    · exact Int.gcd_dvd_left b _
  · apply Int.dvd_gcd
    · exact Int.gcd_dvd_right a b
    · exact Int.dvd_sub (Int.gcd_dvd_left a b) (Int.dvd_mul_of_dvd_left (Int.gcd_dvd_right a b))
theorem qib (a:Int) {b:Int} (h:0≤b):Int.gcd b (a % b)=Int.gcd a b:=by
  rw [← Int.fmod_eq_emod_of_nonneg a h,qkw]
theorem ql8 (a:Int) {b:Int} (h:b≠0):(a.fmod b).natAbs<b.natAbs:=by
  rcases Int.lt_or_gt_of_ne h with hb | hb
  · rw [Int.fmod_eq_emod]
    have h1:=Int.emod_nonneg a h
    have h2:=Int.emod_lt a h
    split
    · rename_i h'
      rcases h' with h' | h'
      · omega
      · have:a % b=0:=Int.emod_eq_zero_of_dvd h'
        omega
    · rename_i h'
      have:a % b≠0:=fun z=>h' (.inr (Int.dvd_of_emod_eq_zero z))
      omega
  · rw [Int.fmod_eq_emod_of_nonneg a (Int.le_of_lt hb)]
    have h1:=Int.emod_nonneg a h
    have h2:=Int.emod_lt_of_pos a hb
    omega
theorem qen {a b s:Int} (hb:b≠0) (hs:s=if b<0 then -((Int.gcd a b:Nat):Int) else ((Int.gcd a b:Nat):Int)) :
    s≠0∧s.natAbs≤b.natAbs∧Low (a.fdiv s) (b.fdiv s)∧a.fdiv s*b=a*b.fdiv s∧(a.fdiv s).natAbs≤a.natAbs∧(b.fdiv s).natAbs≤b.natAbs:=by
  have g0:0<Int.gcd a b:=Int.gcd_pos_of_ne_zero_right a hb
  have sn:s.natAbs=Int.gcd a b:=by rw [hs];split <;> simp
  have s0:s≠0:=by intro z;rw [z] at sn;simp at sn;omega
  have da:s∣a:=by
    rw [← Int.natAbs_dvd,sn];exact Int.gcd_dvd_left a b
  have db:s∣b:=by
    rw [← Int.natAbs_dvd,sn];exact Int.gcd_dvd_right a b
  obtain ⟨t,rfl⟩:=da
  obtain ⟨d,rfl⟩:=db
  rw [Int.mul_fdiv_cancel_left _ s0,Int.mul_fdiv_cancel_left _ s0]
  have d0:d≠0:=by rintro rfl;simp at hb
  have sp:1≤s.natAbs:=by omega
  have gd:Int.gcd t d=1:=by
    rw [Int.gcd_mul_left] at sn
    have h2:s.natAbs*Int.gcd t d=s.natAbs*1:=by omega
    exact Nat.eq_of_mul_eq_mul_left sp h2
  have dp:0<d:=by
    by_cases h:s*d<0
    · rw [if_pos h] at hs
      have sneg:s<0:=by omega
      rcases Int.lt_or_gt_of_ne d0 with h' | h'
      · have:=Int.mul_pos_of_neg_of_neg sneg h';omega
      · exact h'
    · rw [if_neg h] at hs
      have spos:0<s:=by omega
      rcases Int.lt_or_gt_of_ne d0 with h' | h'
      · have:=Int.mul_neg_of_pos_of_neg spos h';omega
      · exact h'
  have le1:∀ y:Int,y.natAbs≤(s*y).natAbs:=fun y=>by
    rw [Int.natAbs_mul];exact Nat.le_mul_of_pos_left _ sp
  refine ⟨s0,?_,⟨dp,gd⟩,?_,le1 t,le1 d⟩
  · rw [Int.natAbs_mul];exact Nat.le_mul_of_pos_right _ (by omega)
  · grind
theorem qeG {a b:Int} (hb:0<b):Low (a / ((Int.gcd a b:Nat):Int)) (b / ((Int.gcd a b:Nat):Int))∧(a / ((Int.gcd a b:Nat):Int)).natAbs≤a.natAbs∧(b / ((Int.gcd a b:Nat):Int)).natAbs≤b.natAbs∧0<((Int.gcd a b:Nat):Int)∧((Int.gcd a b:Nat):Int)≤b:=by
  have g0:0<Int.gcd a b:=Int.gcd_pos_of_ne_zero_right a (by omega)
  obtain ⟨_,h1,h2,h3,h4,h5⟩:=qen (a:=a) (b:=b) (s:=((Int.gcd a b:Nat):Int)) (by omega) (by rw [if_neg (by omega)])
  rw [Int.fdiv_eq_ediv_of_nonneg _ (by omega),Int.fdiv_eq_ediv_of_nonneg _ (by omega)] at h2
  rw [Int.fdiv_eq_ediv_of_nonneg _ (by omega)] at h4 h5
  exact ⟨h2,h4,h5,by omega,by omega⟩
end Bs
namespace Bs
open PySem L2
noncomputable def qrj (_ j:Int):Prop:=0<j∧Bd 9000 j
noncomputable def qr2 (_ j:Int):Prop:=j≠0∧Bd 9000 j
noncomputable def qrk (i j:Int):Prop:=0≤j∧j≤1000000∧i.natAbs<2 ^ 64
noncomputable abbrev qes:R2:=rI0 fun i j=>.int (i+j)
noncomputable abbrev qft:R2:=rI0 fun i j=>.int (i - j)
noncomputable abbrev qdS:R2:=rI IntMulOk fun i j=>.int (i*j)
noncomputable abbrev qi9:R2:=rI qrj fun i j=>.int (i / j)
noncomputable abbrev qqj:R2:=rI qr2 fun i j=>.int (i.fdiv j)
noncomputable abbrev qic:R2:=rI (fun _ j=>0<j) fun i j=>.int (i % j)
noncomputable abbrev qpc:R2:=rI (fun _ j=>j≠0) fun i j=>.int (i.fmod j)
noncomputable abbrev qrL:R2:=rI qrk fun i j=>.int (i ^ j.toNat)
noncomputable abbrev iLt:R2:=rI0 fun i j=>.bl (decide (i<j))
noncomputable abbrev iLe:R2:=rI0 fun i j=>.bl (decide (i≤j))
noncomputable abbrev iGt:R2:=rI0 fun i j=>.bl (decide (j<i))
noncomputable abbrev iGe:R2:=rI0 fun i j=>.bl (decide (j≤i))
noncomputable abbrev qf1:V→Hp→VK→Prop:=rU fun i=>.int (-i)
noncomputable def gT:R2:=fun x y H Q=>∃ p i xs v,x=.ref p∧y=.int i∧H p=some (.tup xs)∧atI xs i=some v∧Q v H
noncomputable def gL:R2:=fun x y H Q=>∃ p i xs v,x=.ref p∧y=.int i∧H p=some (.lst xs)∧atI xs i=some v∧Q v H
noncomputable def gS (K:W.Frag):R2:=fun x y H Q=>∃ p i xs v,x=.ref p∧y=.int i∧SqL K H p xs∧atI xs i=some v∧Q v H
noncomputable def qnR:List V→Hp→VK→Prop:=fun xs H Q=>∃ i,xs=[.int i]∧Q (.int (if i<0 then -i else i)) H
noncomputable def qpY:List V→Hp→VK→Prop:=fun xs H Q=>∃ i j,xs=[.int i,.int j]∧Q (.int (if j > i then j else i)) H
noncomputable def qrM:List V→Hp→VK→Prop:=fun xs H Q=>∃ i j,xs=[.int i,.int j]∧Q (.int (if j<i then j else i)) H
noncomputable def qnS:List V→Hp→VK→Prop:=fun xs H Q=>∃ k,xs=[.bl k]∧Q (.int (if k=true then 1 else 0)) H
noncomputable def qjS:List V→Hp→VK→Prop:=fun xs H Q=>∃ p ys,xs=[.ref p]∧H p=some (.tup ys)∧Q (.int ys.length) H
noncomputable def qbX:List V→Hp→VK→Prop:=fun xs H Q=>∃ p ys,xs=[.ref p]∧H p=some (.lst ys)∧Q (.int ys.length) H
noncomputable def qqk (K:W.Frag):List V→Hp→VK→Prop:=fun xs H Q=>∃ p ys,xs=[.ref p]∧SqL K H p ys∧Q (.int ys.length) H
noncomputable def qr3:Option HO→String→Option Bool
  | some (.tup _),n=>if n = "tuple" then some true else if n = "bool" ∨ n = "int" ∨ n = "list" then some false else none
  | some (.lst _),n=>if n = "list" then some true else if n = "bool" ∨ n = "int" ∨ n = "tuple" then some false else none
  | _,_=>none
noncomputable def qq8 (H:Hp):V→String→Option Bool
  | .int _,n=>if n = "int" then some true else if n = "bool" ∨ n = "tuple" ∨ n = "list" then some false else none
  | .bl _,n=>if n = "int" ∨ n = "bool" then some true else if n = "tuple" ∨ n = "list" then some false else none
  | .ref p,n=>qr3 (H p) n
  | _,_=>none
noncomputable def qrN:List V→Hp→VK→Prop:=fun xs H Q=>∃ x n b,xs=[x,.ty n]∧qq8 H x n=some b∧Q (.bl b) H
theorem ql9 (H:Hp) (i:Int):qq8 H (.int i) "int" = some true:=rfl
theorem qfP (H:Hp) (i:Int):qq8 H (.int i) "bool" = some false:=rfl
theorem qoC (H:Hp) (b:Bool):qq8 H (.bl b) "bool" = some true:=rfl
noncomputable def qrO:V→Bool
  | .int _=>true
  | _=>false
noncomputable def eqT:R2:=fun x y H Q=>∃ a b xs ys,x=.ref a∧y=.ref b∧H a=some (.tup xs)∧H b=some (.tup ys)∧xs.all qrO=true∧ys.all qrO=true∧Q (.bl (decide (xs=ys))) H
noncomputable def ForR (lo:Int) (n:Nat) (g:TG) (tb:TS) (D:Ends) (σ:St) (H:Hp):Prop:=∃ W:Nat→Nat→St→Hp→Prop,(∃ m,W 0 m σ H)∧∀ i m σ H,W i m σ H→
  ((Itr lo n).stop i H∧D.nx σ H)∨((Itr lo n).go i H∧∃ N:St→Hp→Prop,(∀ σ' H',N σ' H'→∃ m',m'<m∧W (i+1) m' σ' H')∧∀ x H',(Itr lo n).yld i H x H'→g x σ H' fun σ2 H2=>tb { D with nx:=N,ct:=N,bk:=D.nx } σ2 H2)
theorem qma {ta:TA} {g:TG} {tb:TS} {D:Ends} {σ:St} {H:Hp}:qfo (qhn ta) g tb D σ H=ta σ H (fun vs H1=>∃ j:Int,vs=[.int j]∧-(2 ^ 62)≤j∧j<2 ^ 62∧ForR 0 j.toNat g tb D σ H1):=rfl
theorem qmb {ta:TA} {g:TG} {tb:TS} {D:Ends} {σ:St} {H:Hp}:qfo (qlR ta) g tb D σ H=ta σ H (fun vs H1=>∃ i j:Int,vs=[.int i,.int j]∧(-(2 ^ 62)≤i∧i<2 ^ 62∧-(2 ^ 62)≤j∧j<2 ^ 62)∧ForR i (j - i).toNat g tb D σ H1):=rfl
theorem ForR.by {lo:Int} {n:Nat} {g:TG} {tb:TS} {D:Ends} {σ:St} {H:Hp} (Pv:Nat→St→Hp→Prop) (h0:Pv 0 σ H)
    (hs:∀ i σ H,i<n→Pv i σ H→g (.int (lo+i)) σ H fun σ2 H2=>tb { D with nx:=Pv (i+1),ct:=Pv (i+1),bk:=D.nx } σ2 H2) (hd:∀ σ H,Pv n σ H→D.nx σ H):ForR lo n g tb D σ H:=qlU Pv h0 hs hd
noncomputable def ForT (K:W.Frag) (a:Addr) (g:TG) (tb:TS) (D:Ends) (σ:St) (H:Hp):Prop:=∃ W:Nat→Nat→St→Hp→Prop,(∃ m,W 0 m σ H)∧∀ i m σ H,W i m σ H→
  ((Itt K a).stop i H∧D.nx σ H)∨((Itt K a).go i H∧∃ N:St→Hp→Prop,(∀ σ' H',N σ' H'→∃ m',m'<m∧W (i+1) m' σ' H')∧∀ x H',(Itt K a).yld i H x H'→g x σ H' fun σ2 H2=>tb { D with nx:=N,ct:=N,bk:=D.nx } σ2 H2)
noncomputable def ForL (K:W.Frag) (a:Addr) (g:TG) (tb:TS) (D:Ends) (σ:St) (H:Hp):Prop:=∃ W:Nat→Nat→St→Hp→Prop,(∃ m,W 0 m σ H)∧∀ i m σ H,W i m σ H→
  ((Itl K a).stop i H∧D.nx σ H)∨((Itl K a).go i H∧∃ N:St→Hp→Prop,(∀ σ' H',N σ' H'→∃ m',m'<m∧W (i+1) m' σ' H')∧∀ x H',(Itl K a).yld i H x H'→g x σ H' fun σ2 H2=>tb { D with nx:=N,ct:=N,bk:=D.nx } σ2 H2)
theorem qoD {K:W.Frag} {tl:TE} {g:TG} {tb:TS} {D:Ends} {σ:St} {H:Hp}:qfo (qpW K tl) g tb D σ H=tl σ H (fun x H1=>∃ a,x=.ref a∧(∃ xs,SqT K H1 a xs)∧ForT K a g tb D σ H1):=rfl
theorem qoE {K:W.Frag} {tl:TE} {g:TG} {tb:TS} {D:Ends} {σ:St} {H:Hp}:qfo (qdV K tl) g tb D σ H=tl σ H (fun x H1=>∃ a,x=.ref a∧(∃ xs,SqL K H1 a xs)∧ForL K a g tb D σ H1):=rfl
theorem ForT.by {K:W.Frag} {a:Addr} {xs:List V} {g:TG} {tb:TS} {D:Ends} {σ:St} {H:Hp} (Pv:Nat→St→Hp→Prop) (h0:Pv 0 σ H) (hl:∀ i σ H,i≤xs.length→Pv i σ H→H a=some (.tup xs))
    (hs:∀ i x σ H,xs[i]?=some x→Pv i σ H→g x σ H fun σ2 H2=>tb { D with nx:=Pv (i+1),ct:=Pv (i+1),bk:=D.nx } σ2 H2) (hd:∀ σ H,Pv xs.length σ H→D.nx σ H):ForT K a g tb D σ H:=
  qlT Pv h0 (fun i σ H h p=>SqT.of (hl i σ H h p)) hs hd
theorem ForL.by {K:W.Frag} {a:Addr} {xs:List V} {g:TG} {tb:TS} {D:Ends} {σ:St} {H:Hp} (Pv:Nat→St→Hp→Prop) (h0:Pv 0 σ H) (hl:∀ i σ H,i≤xs.length→Pv i σ H→SqL K H a xs)
    (hs:∀ i x σ H,xs[i]?=some x→Pv i σ H→g x σ H fun σ2 H2=>tb { D with nx:=Pv (i+1),ct:=Pv (i+1),bk:=D.nx } σ2 H2) (hd:∀ σ H,Pv xs.length σ H→D.nx σ H):ForL K a g tb D σ H:=
  qnN Pv h0 hl hs hd
theorem while_by {c:TT} {tb:TS} {D:Ends} {σ:St} {H:Hp} (W:Nat→St→Hp→Prop) (m:Nat) (h0:W m σ H)
    (hs:∀ m σ H,W m σ H→c σ H fun b H1=>if b=true then ∃ N:St→Hp→Prop,(∀ σ' H',N σ' H'→∃ m',m'<m∧W m' σ' H')∧tb { D with nx:=N,ct:=N,bk:=D.nx } σ H1 else D.nx σ H1):qc0 c tb D σ H:=⟨W,⟨m,h0⟩,hs⟩
noncomputable def Kp (p:Addr) (H H':Hp):Prop:=∀ b o,b≠p→H b=some o→H' b=some o
theorem Kp.trans {p:Addr} {H H1 H2:Hp} (a:Kp p H H1) (b:Kp p H1 H2):Kp p H H2:=fun c o n h=>b c o n (a c o n h)
theorem Kp.same {p:Addr} {H H1 H2:Hp} (a:Kp p H H1) (b:Same H1 H2):Kp p H H2:=fun c o n h=>b c o (a c o n h)
theorem Kp.of_same {p:Addr} {H H1:Hp} (b:Same H H1):Kp p H H1:=fun c o _ h=>b c o h
theorem Kp.upd {p:Addr} {H:Hp} {o:HO}:Kp p H (upd H p o):=fun b u n h=>by rw [qaB n];exact h
theorem qaf {H:Hp} {p:Addr} (h:H p=none) (o:HO):Same H (upd H p o):=fun b u q=>by rw [qaB (qaD q h)];exact q
theorem Kp.new {p:Addr} {H H1:Hp} (a:Kp p H H1) (h:H p=none):Same H H1:=fun b o q=>a b o (qaD q h) q
theorem Kp.seq {K:W.Frag} {p:Addr} {H H':Hp} {a:Addr} {xs:List V} (e:Kp p H H') (n:a≠p) (h:SqL K H a xs):SqL K H' a xs:=by
  rcases h with (h | ⟨o,h⟩) | h
  · exact .inl (.inl (e _ _ n h))
  · exact .inl (.inr ⟨o,e _ _ n h⟩)
  · exact .inr h
theorem sz {n:Nat} (h:n≤1000000):n≤sizeLine:=by rw [sizeLine_eq];omega
end Bs
namespace Bs
open PySem L2
theorem qkx {α:Type} (a b:α):atI [a,b] 0=some a:=rfl
theorem qky {α:Type} (a b:α):atI [a,b] 1=some b:=rfl
theorem qhI {α:Type} (a b c:α):atI [a,b,c] 0=some a:=rfl
theorem qhJ {α:Type} (a b c:α):atI [a,b,c] 1=some b:=rfl
theorem qhK {α:Type} (a b c:α):atI [a,b,c] 2=some c:=rfl
theorem qmc (a b:Int):scal (.int a) (.int b)=true:=rfl
theorem qmd (a b:Bool):scal (.bl a) (.bl b)=true:=rfl
theorem qhL:ixN 3 0=some 0:=rfl
theorem qhM:ixN 3 2=some 2:=rfl
end Bs
namespace Bs
open PySem PySem.Spec PyProof.Rows L2
theorem qhN:bootBuiltins "abs" = some (.builtin "abs"):=by decide +kernel
theorem qbl:bootBuiltins "len" = some (.builtin "len"):=by decide +kernel
theorem qme:bootBuiltins "max" = some (.builtin "max"):=by decide +kernel
theorem qql:bootBuiltins "min" = some (.builtin "min"):=by decide +kernel
theorem qoF:bootBuiltins "sum" = some (.builtin "sum"):=by decide +kernel
theorem qqm:bootBuiltins "int" = some (.type "int"):=by decide +kernel
theorem qeZ:bootBuiltins "tuple" = some (.type "tuple"):=by decide +kernel
theorem qjT:bootBuiltins "list" = some (.type "list"):=by decide +kernel
theorem qfQ:bootBuiltins "enumerate" = some (.type "enumerate"):=by decide +kernel
theorem qqn:bootBuiltins "zip" = some (.type "zip"):=by decide +kernel
section
variable {X:Cx}
theorem qmf {n:Nat} {x:Int} (h:Bd n x):Builtin.Int.intBits x≤n:=by
  unfold Builtin.Int.intBits
  split
  · exact Nat.zero_le _
  · rename_i h0
    have hn:x.natAbs≠0:=fun z=>h0 (by have e:x=0:=by omega
                                      subst e;rfl)
    have:=(Nat.log2_lt hn).mpr h
    omega
theorem qaP:OpR X (binaryOp .Mult) qdS:=opI fun _ _ _ _ _ _ _ hc q=>mul_int q hc
theorem qid:OpR X (inplaceOp .Mult) qdS:=opI fun _ _ _ _ _ _ _ hc q=>imul_int q hc
theorem qie:OpR X (binaryOp .FloorDiv) qi9:=opI fun i j _ _ _ _ _ hc q=>by
  refine floordiv_int (Int.ne_of_gt hc.1) ?_ (.inl (PyProof.noPylong_of_log2 (hc.2.log2 (by decide))))
  rw [Int.fdiv_eq_ediv_of_nonneg i (Int.le_of_lt hc.1)]
  exact q
theorem qaQ:IxR X gT:=by
  intro value slice pins s σ H x y v u Q I rx ry h hs
  obtain ⟨p,i,xs,w,e1,e2,hp,ha,q⟩:=h
  exact qqf value slice pins s σ H x y v u Q I rx ry ⟨p,xs,i,w,e1,e2,SqT.of hp,ha,q⟩ hs
theorem qap:IxR X gL:=by
  intro value slice pins s σ H x y v u Q I rx ry h hs
  obtain ⟨p,i,xs,w,e1,e2,hp,ha,q⟩:=h
  exact qo9 value slice pins s σ H x y v u Q I rx ry ⟨p,xs,i,w,e1,e2,SqL.of hp,ha,q⟩ hs
theorem qdo:qdW X (.builtin "abs") qnR:=qnP
theorem qgE (hc:X.calm=true):qdW X (.builtin "max") qpY:=qlY hc
theorem qmg:qdW X (.type "int") qnS:=fun pins s σ H xs us Q I r h=>qlZ pins s σ H xs us Q I r (.inr h)
theorem qe0:qdW X (.builtin "len") qjS:=fun pins s σ H xs us Q I r h=>by
  obtain ⟨p,ys,e,hp,q⟩:=h
  exact qfO pins s σ H xs us Q I r ⟨p,ys,e,.inr (SqT.of hp),q⟩
theorem qaI:qdW X (.builtin "len") qbX:=fun pins s σ H xs us Q I r h=>by
  obtain ⟨p,ys,e,hp,q⟩:=h
  exact qfO pins s σ H xs us Q I r ⟨p,ys,e,.inl (SqL.of hp),q⟩
end
structure Cal (P:Program) (w:World) (K:W.Frag) (mg:Str→Option Value) (base:Heap) (n:Nat) (x:Str) (ps:List Str) (sp:Sp):Prop where
  ex:∃ (f:Addr) (fd:FuncData),FnOk P w K mg base CX0 n f fd ps sp∧Binds K fd ps []∧PySem.W.keepIn K (.ref f)=true∧mg x=some (.ref f)
theorem Cal.pe {X:Cx} {n m:Nat} {x:Str} {ps:List Str} {sp:Sp} {e:Expr} {es:List Expr} {t:TA} {p pos:Pos} (C:Cal X.prog X.w X.K X.mg X.base n x ps sp) (hr:Room m X.A) (hn:n≤m) (hg:Gl X x) (ha:PA X (e::es) t)
    (hdb:(x == ("__debug__" : Str))=false:=by decide) (he:starEach (e::es) X.env=(false,eval e X.env)::starEach es X.env:=by rfl) (hpl:(backTo pos (starEach es X.env)).any (·.1)=false:=by rfl) :
    PE X (.Call (.Name x p) (e::es) [] pos) (qaw sp [] E0 t):=by
  obtain ⟨f,fd,F,b,k,m⟩:=C.ex
  exact qo6 F (hr.mono hn) hg m k b .nil qri ha hdb he hpl
end Bs
namespace Bs
open PySem L2
noncomputable def qdg (capt:List (Option Nat)) (σ:L2.St):L2.St:=capt.map fun o=>o.bind fun j=>(σ[j]?).join
noncomputable def qcI (wi:TI) (capt:List (Option Nat)) (g:TG) (te:TE):TE:=fun σ H Q=>wi σ H fun J H1=>∃ (n:Nat) (W:Nat→List V→Hp→Prop),W 0 [] H1∧∀ i ys H,W i ys H→i≤n∧ys.length≤sizeLine∧
  ((J.stop i H∧∀ p,H p=none→Q (.ref p) (upd H p (.lst ys)))∨(i<n∧J.go i H∧∀ x H',J.yld i H x H'→g x (qdg capt σ) H' fun σ2 H2=>te σ2 H2 fun y H3=>W (i+1) (ys++[y]) H3))
noncomputable def CompJ (J:It) (capt:List (Option Nat)) (g:TG) (te:TE) (σ:L2.St) (Q:VK) (H1:Hp):Prop:=∃ (n:Nat) (W:Nat→List V→Hp→Prop),W 0 [] H1∧∀ i ys H,W i ys H→i≤n∧ys.length≤sizeLine∧
  ((J.stop i H∧∀ p,H p=none→Q (.ref p) (upd H p (.lst ys)))∨(i<n∧J.go i H∧∀ x H',J.yld i H x H'→g x (qdg capt σ) H' fun σ2 H2=>te σ2 H2 fun y H3=>W (i+1) (ys++[y]) H3))
section
variable {K:W.Frag} {ta:TA} {tl:TE} {capt:List (Option Nat)} {g:TG} {te:TE} {σ:L2.St} {H:Hp} {Q:VK}
theorem qkz:qcI (qhn ta) capt g te σ H Q=ta σ H (fun vs H1=>∃ j:Int,vs=[.int j]∧-(2 ^ 62)≤j∧j<2 ^ 62∧CompJ (Itr 0 j.toNat) capt g te σ Q H1):=rfl
theorem qkA:qcI (qlR ta) capt g te σ H Q=ta σ H (fun vs H1=>∃ i j:Int,vs=[.int i,.int j]∧(-(2 ^ 62)≤i∧i<2 ^ 62∧-(2 ^ 62)≤j∧j<2 ^ 62)∧CompJ (Itr i (j - i).toNat) capt g te σ Q H1):=rfl
theorem qmh:qcI (qpW K tl) capt g te σ H Q=tl σ H (fun x H1=>∃ a,x=.ref a∧(∃ xs,SqT K H1 a xs)∧CompJ (Itt K a) capt g te σ Q H1):=rfl
theorem qmi:qcI (qdV K tl) capt g te σ H Q=tl σ H (fun x H1=>∃ a,x=.ref a∧(∃ xs,SqL K H1 a xs)∧CompJ (Itl K a) capt g te σ Q H1):=rfl
theorem CompJ.range {lo:Int} {n:Nat} (W:Nat→List V→Hp→Prop) (h0:W 0 [] H) (hb:∀ i ys H,W i ys H→i≤n∧ys.length≤sizeLine)
    (hs:∀ i ys H,i<n→W i ys H→g (.int (lo+i)) (qdg capt σ) H fun σ2 H2=>te σ2 H2 fun y H3=>W (i+1) (ys++[y]) H3) (hd:∀ ys H,W n ys H→∀ p,H p=none→Q (.ref p) (upd H p (.lst ys))):CompJ (Itr lo n) capt g te σ Q H:=by
  refine ⟨n,W,h0,fun i ys H w=>⟨(hb i ys H w).1,(hb i ys H w).2,?_⟩⟩
  by_cases h:i<n
  · refine .inr ⟨h,h,fun x H' y=>?_⟩
    obtain ⟨e,y⟩:=y
    subst e y
    exact hs i ys _ h w
  · have e:i=n:=Nat.le_antisymm (hb i ys H w).1 (Nat.not_lt.mp h)
    subst e
    exact .inl ⟨Nat.le_refl _,hd ys H w⟩
theorem CompJ.tup {a:Addr} {xs:List V} (W:Nat→List V→Hp→Prop) (h0:W 0 [] H) (hb:∀ i ys H,W i ys H→i≤xs.length∧ys.length≤sizeLine∧H a=some (.tup xs))
    (hs:∀ i x ys H,xs[i]?=some x→W i ys H→g x (qdg capt σ) H fun σ2 H2=>te σ2 H2 fun y H3=>W (i+1) (ys++[y]) H3) (hd:∀ ys H,W xs.length ys H→∀ p,H p=none→Q (.ref p) (upd H p (.lst ys))):CompJ (Itt K a) capt g te σ Q H:=by
  refine ⟨xs.length,W,h0,fun i ys H w=>⟨(hb i ys H w).1,(hb i ys H w).2.1,?_⟩⟩
  have q:SqT K H a xs:=SqT.of (hb i ys H w).2.2
  by_cases h:i<xs.length
  · refine .inr ⟨h,⟨xs,xs[i],q,by simp [h]⟩,fun x H' y=>?_⟩
    obtain ⟨e,y⟩:=y
    subst e
    exact hs i x ys _ (y xs q) w
  · have e:i=xs.length:=Nat.le_antisymm (hb i ys H w).1 (Nat.not_lt.mp h)
    subst e
    exact .inl ⟨⟨xs,q,Nat.le_refl _⟩,hd ys H w⟩
theorem CompJ.lst {a:Addr} {xs:List V} (W:Nat→List V→Hp→Prop) (h0:W 0 [] H) (hb:∀ i ys H,W i ys H→i≤xs.length∧ys.length≤sizeLine∧SqL K H a xs)
    (hs:∀ i x ys H,xs[i]?=some x→W i ys H→g x (qdg capt σ) H fun σ2 H2=>te σ2 H2 fun y H3=>W (i+1) (ys++[y]) H3) (hd:∀ ys H,W xs.length ys H→∀ p,H p=none→Q (.ref p) (upd H p (.lst ys))):CompJ (Itl K a) capt g te σ Q H:=by
  refine ⟨xs.length,W,h0,fun i ys H w=>⟨(hb i ys H w).1,(hb i ys H w).2.1,?_⟩⟩
  have q:SqL K H a xs:=(hb i ys H w).2.2
  by_cases h:i<xs.length
  · refine .inr ⟨h,⟨xs,xs[i],q,by simp [h]⟩,fun x H' y=>?_⟩
    obtain ⟨e,y⟩:=y
    subst e
    exact hs i x ys _ (y xs q) w
  · have e:i=xs.length:=Nat.le_antisymm (hb i ys H w).1 (Nat.not_lt.mp h)
    subst e
    exact .inl ⟨⟨xs,q,Nat.le_refl _⟩,hd ys H w⟩
end
noncomputable def qqo (K:W.Frag) (a:Addr):It:=
  ⟨fun i H=>∃ xs x,SqL K H a xs∧xs[i]?=some x,fun i H v H'=>∃ p x,H p=none∧v=.ref p∧H'=upd H p (.tup [.int i,x])∧∀ xs,SqL K H a xs→xs[i]?=some x,fun i H=>∃ xs,SqL K H a xs∧xs.length≤i⟩
noncomputable def qq9 (K:W.Frag) (a:Addr):It:=
  ⟨fun i H=>∃ xs x,SqT K H a xs∧xs[i]?=some x,fun i H v H'=>∃ p x,H p=none∧v=.ref p∧H'=upd H p (.tup [.int i,x])∧∀ xs,SqT K H a xs→xs[i]?=some x,fun i H=>∃ xs,SqT K H a xs∧xs.length≤i⟩
noncomputable def qgF (K:W.Frag) (ta:TA):TI:=fun σ H R=>ta σ H fun vs H1=>∃ a,vs=[.ref a]∧(∃ xs,SqL K H1 a xs)∧R (qqo K a) H1
noncomputable def qkB (K:W.Frag) (ta:TA):TI:=fun σ H R=>ta σ H fun vs H1=>∃ a,vs=[.ref a]∧(∃ xs,SqT K H1 a xs)∧R (qq9 K a) H1
noncomputable def ForJ (J:It) (g:TG) (tb:TS) (D:Ends) (σ:L2.St) (H:Hp):Prop:=∃ W:Nat→Nat→L2.St→Hp→Prop,(∃ m,W 0 m σ H)∧∀ i m σ H,W i m σ H→
  (J.stop i H∧D.nx σ H)∨(J.go i H∧∃ N:L2.St→Hp→Prop,(∀ σ' H',N σ' H'→∃ m',m'<m∧W (i+1) m' σ' H')∧∀ x H',J.yld i H x H'→g x σ H' fun σ2 H2=>tb { D with nx:=N,ct:=N,bk:=D.nx } σ2 H2)
section
variable {K:W.Frag} {ta:TA} {g:TG} {tb:TS} {D:Ends} {σ:L2.St} {H:Hp} {a:Addr} {xs:List V}
theorem qmj:qfo (qgF K ta) g tb D σ H=ta σ H (fun vs H1=>∃ a,vs=[.ref a]∧(∃ xs,SqL K H1 a xs)∧ForJ (qqo K a) g tb D σ H1):=rfl
theorem qmk:qfo (qkB K ta) g tb D σ H=ta σ H (fun vs H1=>∃ a,vs=[.ref a]∧(∃ xs,SqT K H1 a xs)∧ForJ (qq9 K a) g tb D σ H1):=rfl
theorem qkC {capt:List (Option Nat)} {te:TE} {Q:VK}:qcI (qgF K ta) capt g te σ H Q=ta σ H (fun vs H1=>∃ a,vs=[.ref a]∧(∃ xs,SqL K H1 a xs)∧CompJ (qqo K a) capt g te σ Q H1):=rfl
theorem ForJ.enumL (Pv:Nat→L2.St→Hp→Prop) (h0:Pv 0 σ H) (hl:∀ i σ H,i≤xs.length→Pv i σ H→SqL K H a xs)
    (hs:∀ i x p σ H,xs[i]?=some x→Pv i σ H→H p=none→g (.ref p) σ (upd H p (.tup [.int i,x])) fun σ2 H2=>tb { D with nx:=Pv (i+1),ct:=Pv (i+1),bk:=D.nx } σ2 H2) (hd:∀ σ H,Pv xs.length σ H→D.nx σ H):ForJ (qqo K a) g tb D σ H:=by
  refine ⟨fun i m σ H=>m=xs.length - i∧i≤xs.length∧Pv i σ H,⟨xs.length,by simp,Nat.zero_le _,h0⟩,?_⟩
  rintro i m σ H ⟨rfl,hi,pv⟩
  have q:=hl i σ H hi pv
  by_cases lt:i<xs.length
  · refine .inr ⟨⟨xs,xs[i],q,by simp [lt]⟩,Pv (i+1),fun σ' H' p'=>⟨xs.length - (i+1),by omega,rfl,lt,p'⟩,fun x H' y=>?_⟩
    obtain ⟨p,x',hp,rfl,rfl,y⟩:=y
    exact hs i x' p σ _ (y xs q) pv hp
  · have e:i=xs.length:=by omega
    subst e
    exact .inl ⟨⟨xs,q,Nat.le_refl _⟩,hd σ H pv⟩
theorem ForJ.enumT (Pv:Nat→L2.St→Hp→Prop) (h0:Pv 0 σ H) (hl:∀ i σ H,i≤xs.length→Pv i σ H→H a=some (.tup xs))
    (hs:∀ i x p σ H,xs[i]?=some x→Pv i σ H→H p=none→g (.ref p) σ (upd H p (.tup [.int i,x])) fun σ2 H2=>tb { D with nx:=Pv (i+1),ct:=Pv (i+1),bk:=D.nx } σ2 H2) (hd:∀ σ H,Pv xs.length σ H→D.nx σ H):ForJ (qq9 K a) g tb D σ H:=by
  refine ⟨fun i m σ H=>m=xs.length - i∧i≤xs.length∧Pv i σ H,⟨xs.length,by simp,Nat.zero_le _,h0⟩,?_⟩
  rintro i m σ H ⟨rfl,hi,pv⟩
  have q:SqT K H a xs:=SqT.of (hl i σ H hi pv)
  by_cases lt:i<xs.length
  · refine .inr ⟨⟨xs,xs[i],q,by simp [lt]⟩,Pv (i+1),fun σ' H' p'=>⟨xs.length - (i+1),by omega,rfl,lt,p'⟩,fun x H' y=>?_⟩
    obtain ⟨p,x',hp,rfl,rfl,y⟩:=y
    exact hs i x' p σ _ (y xs q) pv hp
  · have e:i=xs.length:=by omega
    subst e
    exact .inl ⟨⟨xs,q,Nat.le_refl _⟩,hd σ H pv⟩
end
end Bs
namespace Bs
open PySem PySem.Spec PyProof.Rows L2
noncomputable def blk (X:Cx) (N:List Str) (scope:Scope) (cl:List (Str×Addr)) (C:Addr) (s:Shared) (H:Hp) (fp:List Addr):Cx:=
  { X with N:=N,s₀:=s,H₀:=H,env:=compEnvC scope cl C X.env,outer:=X.stack,stack:=X.stack,ex:=fp,fn:=fun _=>false,pn:=[],xe:=fun _ _=>False }
structure BlkOk (X:Cx) (N:List Str) (capt:List (Option Nat)) (scope:Scope) (cl:List (Str×Addr)):Prop where
  kind:scope.kind=.function
  clos:closureFor scope X.env=pure cl
  nocell:∀ y∈scope.names,y.2≠.cell
  names:∀ y∈scope.names,y.2=.local→scope.names.lookup y.1=some .local
  cells:∀ y c,cl.lookup y=some c→X.env.cells.lookup y=some c
  has:∀ y,((relabel scope X.env).names.lookup y=some .cell∨(relabel scope X.env).names.lookup y=some .free)→∃ c,cl.lookup y=some c
  cap:∀ (i:Nat) (x:Str) (j:Nat),N[i]?=some x→capt[i]?=some (some j)→X.N[j]?=some x∧Vis X.env.scope x∧X.env.kindOf x≠some .local∧((relabel scope X.env).names.lookup x=some .cell∨(relabel scope X.env).names.lookup x=some .free)
  len:capt.length=N.length
section
variable {X:Cx} {pins:List (Addr×Obj)} {σ:L2.St} {H:Hp} {s:Shared} {N:List Str} {capt:List (Option Nat)} {scope:Scope} {cl:List (Str×Addr)} {C:Addr} {fp:List Addr}
theorem qml (B:BlkOk X N capt scope cl) (I:Inv X pins σ H s) (fo:∀ b∈fp,qjL X pins H b) (fl:∀ b∈fp,b<s.heap.objs.size) (hC:s.heap.objs.size≤C):(blk X N scope cl C s H fp).Ok where
  mod:=I.ok.mod
  kind:=B.kind
  glob:=I.ok.glob
  blt:=I.ok.blt
  above:=hC
  inj:=fun x y c h1 h2=>I.ok.inj x y c (B.cells x c h1) (B.cells y c h2)
  has:=fun x h=>B.has x h
  cab:=fun _ _ h=>nomatch h
  hd:=I.ok.hd
  frames:=I.ok.frames
  stk:=.inl rfl
  exf:=fun b hb=>⟨fun e=>absurd (Nat.lt_of_lt_of_le (fl b hb) hC) (by rw [show b=C from e];exact Nat.lt_irrefl _),fun x c e=>(fo b hb).2.2.2.2.1 x c (B.cells x c e)⟩
  bs:=I.bs
  bsz:=Nat.le_trans I.ok.bsz I.sz
  noex:=fun b o e hb=>by
    rcases (fo b hb).2.2.2.1 with z | z
    · exact I.ok.noex b o e z
    · exact absurd (Nat.lt_of_lt_of_le (Heap.lt_size e) (Nat.le_trans I.ok.bsz z)) (Nat.lt_irrefl _)
  exfs:=fun b hb hf=>by
    rcases List.mem_cons.mp (I.stkSub b hf) with z | z
    · exact (fo b hb).2.1 z
    · exact (fo b hb).2.2.1 z
  funs:=I.stack
  frf:=I.stkFree
  seer:=I.ok.seer
  tree:=I.ok.tree
  plr:=I.ok.plr
theorem qmm (B:BlkOk X N capt scope cl) (I:Inv X pins σ H s) (fo:∀ b∈fp,qjL X pins H b) (fl:∀ b∈fp,b<s.heap.objs.size) (hC:s.heap.objs.size≤C) {h1:Heap} {m:Str→Option Value} {tk:Nat}
    (hn:h1.Ns C m) (hk:∀ b o,s.heap.get? b=some o→h1.get? b=some o):Inv (blk X N scope cl C s H fp) [] (qdg capt σ) H { s with heap:=h1,toks:=tk } where
  ok:=qml B I fo fl hC
  os:=rfl
  bare:=I.bare
  base:=Un.kept hk
  loc:=by
    refine ⟨m,hn,fun i x v e1 e2 e3=>?_⟩
    have e2':(capt.map fun o=>o.bind fun j=>(σ[j]?).join)[i]?=some (some v):=e2
    rw [List.getElem?_map] at e2'
    cases ec:capt[i]? with
    | none=>rw [ec] at e2';cases e2'
    | some o=>
      rw [ec] at e2'
      cases o with
      | none=>cases e2'
      | some j=>
        have e4:(σ[j]?).join=some v:=Option.some.inj e2'
        obtain ⟨c1,c2,c3,c4⟩:=B.cap i x j e1 ec
        have e5:σ[j]?=some (some v):=by
          cases q:σ[j]? with
          | none=>rw [q] at e4;cases e4
          | some w=>rw [q] at e4;exact congrArg some e4
        obtain ⟨m',_,hl⟩:=I.loc
        obtain ⟨u,r,l⟩:=hl j x v c1 e5 c2
        refine ⟨u,r,.inr ⟨c4,?_⟩⟩
        rcases l with ⟨l,_⟩ | ⟨_,c,lc,ic⟩
        · exact absurd l c3
        · obtain ⟨c',hc'⟩:=B.has x c4
          have:=B.cells x c' hc'
          rw [lc] at this
          cases this
          obtain ⟨o,ho,hd⟩:=ic
          exact ⟨c,hc',o,hk c o ho,hd⟩
  cell:=fun x c e=>by
    obtain ⟨v,o,ho,hd⟩:=I.cell x c (B.cells x c e)
    exact ⟨v,o,hk c o ho,hd⟩
  free:=I.hok.fresh hC
  freeC:=fun x c e=>I.freeC x c (B.cells x c e)
  pin:=fun p hp=>nomatch hp
  hok:=I.hok.kept hk
  len:=by show (capt.map _).length=N.length;rw [List.length_map];exact B.len
theorem qgG {σ6:L2.St} {H7:Hp} {s7:Shared} {pins':List (Addr×Obj)} (B:BlkOk X N capt scope cl) (I:Inv X pins σ H s) (fo:∀ b∈fp,qjL X pins H b) (I7:Inv (blk X N scope cl C s H fp) pins' σ6 H7 s7):Inv (blk X N scope cl C s H fp) pins' (qdg capt σ) H7 s7:=
  ⟨I7.ok,I7.os,I7.bare,I7.base,by
    obtain ⟨m,hn,_⟩:=I7.loc
    refine ⟨m,hn,fun i x v e1 e2 e3=>?_⟩
    have e2':(capt.map fun o=>o.bind fun j=>(σ[j]?).join)[i]?=some (some v):=e2
    rw [List.getElem?_map] at e2'
    cases ec:capt[i]? with
    | none=>rw [ec] at e2';cases e2'
    | some o=>
      rw [ec] at e2'
      cases o with
      | none=>cases e2'
      | some j=>
        have e4:(σ[j]?).join=some v:=Option.some.inj e2'
        obtain ⟨c1,c2,c3,c4⟩:=B.cap i x j e1 ec
        have e5:σ[j]?=some (some v):=by
          cases q:σ[j]? with
          | none=>rw [q] at e4;cases e4
          | some w=>rw [q] at e4;exact congrArg some e4
        obtain ⟨m',_,hl⟩:=I.loc
        obtain ⟨u,r,l⟩:=hl j x v c1 e5 c2
        refine ⟨u,r,.inr ⟨c4,?_⟩⟩
        rcases l with ⟨l,_⟩ | ⟨_,c,lc,ic⟩
        · exact absurd l c3
        · obtain ⟨c',hc'⟩:=B.has x c4
          have:=B.cells x c' hc'
          rw [lc] at this
          cases this
          obtain ⟨o,ho,hd⟩:=ic
          obtain ⟨sl,hk⟩:=I7.base.any ho (I.freeC x c lc) fun hb=>(fo c hb).2.2.2.2.1 x c lc rfl
          exact ⟨c,hc',_,hk,hd⟩,I7.cell,I7.free,I7.freeC,I7.pin,I7.hok,by show (capt.map _).length=N.length;rw [List.length_map];exact B.len⟩
theorem qeo {κ β:Type} [BEq κ] [LawfulBEq κ]:∀ {l:List (κ×β)} {y:κ} {c:β},l.lookup y=some c→(y,c)∈l
  | (k,v)::l,y,c,h=>by
    rw [List.lookup_cons] at h
    cases e:y == k with
    | true=>
      rw [e] at h
      cases h
      rw [eq_of_beq e]
      exact List.mem_cons_self ..
    | false=>
      rw [e] at h
      exact List.mem_cons_of_mem _ (qeo h)
theorem BlkOk.of (k:scope.kind=.function) (c:closureFor scope X.env=pure cl) (n1:(scope.names.all fun y=>y.2 != .cell)=true) (n2:(scope.names.all fun y=>y.2 != .local || scope.names.lookup y.1 == some .local)=true)
    (cs:∀ pr∈cl,X.env.cells.lookup pr.1=some pr.2) (hs:((relabel scope X.env).names.all fun pr=>(pr.2 != .cell && pr.2 != .free) || (cl.lookup pr.1).isSome)=true)
    (cp:((List.range N.length).all fun i=>match N[i]?,capt[i]? with
      | some x,some (some j)=>X.N[j]? == some x && (X.env.scope.names.lookup x == some .cell || X.env.scope.names.lookup x == some .free) && ((relabel scope X.env).names.lookup x == some .cell || (relabel scope X.env).names.lookup x == some .free)
      | _,_=>true)=true) (ln:capt.length=N.length):BlkOk X N capt scope cl where
  kind:=k
  clos:=c
  nocell:=fun y hy e=>by
    have z:=List.all_eq_true.mp n1 y hy
    rw [e] at z
    exact absurd z (by decide)
  names:=fun y hy e=>by
    have z:=List.all_eq_true.mp n2 y hy
    rw [e] at z
    simpa using z
  cells:=fun y c h=>cs (y,c) (qeo h)
  has:=fun y h=>by
    have m:∃ kd,(y,kd)∈(relabel scope X.env).names∧(kd=.cell∨kd=.free):=by
      rcases h with h | h
      · exact ⟨_,qeo h,.inl rfl⟩
      · exact ⟨_,qeo h,.inr rfl⟩
    obtain ⟨kd,m,e⟩:=m
    have z:=List.all_eq_true.mp hs _ m
    have z2:(cl.lookup y).isSome=true:=by
      rcases e with rfl | rfl
      · simpa using z
      · simpa using z
    exact Option.isSome_iff_exists.mp z2
  cap:=fun i x j e1 e2=>by
    have li:i<N.length:=(List.getElem?_eq_some_iff.mp e1).1
    have z:=List.all_eq_true.mp cp i (List.mem_range.mpr li)
    rw [e1,e2] at z
    simp only [Bool.and_eq_true,Bool.or_eq_true,beq_iff_eq] at z
    obtain ⟨⟨z1,z2⟩,z3⟩:=z
    refine ⟨z1,.inr z2,fun q=>?_,z3⟩
    have q':X.env.scope.names.lookup x=some .local:=q
    rcases z2 with z2 | z2 <;> (rw [z2] at q';cases q')
  len:=ln
theorem qjU {prog:Program} {w:World} {A:Around} {R:Result→Shared→Prop} {s:Shared} {elt target iter:Expr} {scope:Scope} {pos:Pos} {it acc:Value} {env:Env} (I:Nat→Shared→Prop)
    (turn:∀ n s,I n s→wpAny (model prog w) A (pyNext it) (fun r s₁=>match r with
      | none=>R (.ok .next) s₁
      | some v=>wpAny (model prog w) A (letOwnedTupleGo target it v) (fun _ s₂=>wpAny (model prog w) A (assign target env v) (fun _ s₃=>wpAny (model prog w) A (eval elt env) (fun x s₄=>
          wpAny (model prog w) A (call (.builtin "list.append") [acc,x]) (fun _ s₅=>∃ m,m<n∧I m s₅) (fun _ _=>False) s₄) (fun _ _=>False) s₃) (fun _ _=>False) s₂) (fun _ _=>False) s₁) (fun _ _=>False) s)
    (n:Nat) (h:I n s):codeAny (model prog w) A (.compLoop (.ListComp elt [⟨target,iter,[],0⟩] scope pos) 0 it acc env) R s:=by
  refine codeAny_loop rfl I (fun n s hI=>?_) n h
  show wpAny _ A ((compTurn (.ListComp elt [⟨target,iter,[],0⟩] scope pos) 0 it acc env).onRaise (fun x=>do noteFrame x env;theTreesLotGoes x)) _ _ s
  refine wpAny_noted ?_
  rw [compTurn_list]
  have no:∀ {E':Value→Shared→Prop} (e:Value) (s':Shared),(fun (_:Value) (_:Shared)=>False) e s'→E' e s':=fun _ _ f=>f.elim
  refine wpAny_bind (wpAny_standAt (wpAny_bind (wpAny_mono (turn n s hI) (fun r s₁ h₁=>?_) no)))
  cases r with
  | none=>exact wpAny_pure h₁
  | some v=>
    refine wpAny_bind (wpAny_mono h₁ (fun _ s₂ h₂=>?_) no)
    refine wpAny_bind (wpAny_mono h₂ (fun _ s₃ h₃=>wpAny_bind (wpAny_tests_nil ?_)) no)
    exact wpAny_bind (wpAny_bind (wpAny_mono h₃ (fun x s₄ h₄=>wpAny_bind (wpAny_mono h₄ (fun _ s₅ h₅=>wpAny_pure (wpAny_pure ⟨rfl,h₅⟩)) no)) no))
theorem qja {elt iter tg:Expr} {pos:Pos} {wi:TI} {g:TG} {te:TE} {pins:List (Addr×Obj)} {s:Shared} {σ:L2.St} {H:Hp} {Q:VK} (RR:Value→Addr→Result→Shared→Prop) (hc:X.calm=true) (B:BlkOk X N capt scope cl) (hi:PI X tg iter wi)
    (hg:∀ C s H fp,PG (blk X N scope cl C s H fp) tg g) (he:∀ C s H fp,PE (blk X N scope cl C s H fp) elt te) (I:Inv X pins σ H s) (h:qcI wi capt g te σ H Q)
    (fin:∀ (D C:Addr) (s4:Shared) (Hq:Hp) (m:Str→Option Value),Inv X pins σ Hq s4→Q (.ref D) Hq→s4.heap.Ns C m→Hq C=none→C≠X.env.locals→X.s₀.heap.objs.size≤C→(∀ x c,X.env.cells.lookup x=some c→c≠C)→(∀ p∈X.pn++pins,p.1≠C)→RR (.ref D) C (.ok .next) s4) :
    wpAny (model X.prog X.w) X.A (eval iter X.env) (fun x s₁=>wpAny (model X.prog X.w) X.A (pyIter x) (fun it s₂=>wpAny (model X.prog X.w) X.A (newList []) (fun acc s₃=>
      wpAny (model X.prog X.w) X.A (newFunctionEnv scope X.env.globals cl [] X.env.qual none .none (some X.env)) (fun cenv s₄=>
        codeAny (model X.prog X.w) X.A (.compStart (.ListComp elt [⟨tg,iter,[],0⟩] scope pos) 0 it acc { cenv with scope:=relabel scope X.env }) (RR acc cenv.locals) s₄) X.xe s₃) X.xe s₂) X.xe s₁) X.xe s:=by
  refine thn (hi pins s σ H _ I h) fun v s1 h1=>thn h1 fun itv s2 h2=>?_
  obtain ⟨it,fp,tn,J,H2,e,I2,T,st2,f2,n0,W,w0,turn⟩:=h2
  subst e
  have fl:∀ b∈fp,b<s2.heap.objs.size:=fun b hb=>by obtain ⟨o,e,_⟩:=T.obj _ _ st2 b hb;exact Heap.lt_size e
  refine wpAny_newObj_type (wpAny_newFunctionEnv B.nocell (by intro y hy;simp at hy) (fun h₁ hns₁ hsb₁=>?_) B.kind)
  dsimp only at hns₁ hsb₁ ⊢
  generalize hG:s2.heap.push { cls:=.type "list", dict:=none,data:=.seq ([]:List Value).toArray }=G at hns₁ hsb₁ ⊢
  have hC:G.objs.size=s2.heap.objs.size+1:=by rw [← hG,Heap.size_push]
  have hCle:s2.heap.objs.size≤G.objs.size:=by rw [hC];exact Nat.le_succ _
  have hDC:s2.heap.objs.size≠G.objs.size:=by rw [hC];exact Nat.ne_of_lt (Nat.lt_succ_self _)
  have old:∀ b o,s2.heap.get? b=some o→h₁.get? b=some o:=fun b o e=>hsb₁.extBut b o (by rw [hC];exact Nat.ne_of_lt (Nat.lt_succ_of_lt (Heap.lt_size e))) (Heap.get?_push_of_some _ (hG ▸ Heap.get?_push_of_some _ e))
  have hacc:h₁.get? s2.heap.objs.size=some { cls:=.type "list", data:=.seq ([]:List Value).toArray }:=hsb₁.extBut _ _ hDC (Heap.get?_push_of_some _ (hG ▸ Heap.get?_push_size _ rfl))
  have ok':=qml B I2 f2 fl hCle
  have nsD:s2.heap.objs.size∉frs X.stack:=fun hb=>by
    rcases List.mem_cons.mp (I2.stkSub _ hb) with z | z
    · exact absurd I2.lt (by rw [← z];exact Nat.lt_irrefl _)
    · exact I2.nofs (Nat.le_refl _) z
  have ncD:∀ x c,cl.lookup x=some c→c≠s2.heap.objs.size:=fun x c e z=>by
    obtain ⟨v,q⟩:=I2.cell x c (B.cells x c e)
    exact absurd q.lt (by rw [z];exact Nat.lt_irrefl _)
  have nfD:∀ b∈fp,s2.heap.objs.size≠b:=fun b hb z=>absurd (fl b hb) (by rw [← z];exact Nat.lt_irrefl _)
  have I₁:Inv (blk X N scope cl G.objs.size s2 H2 fp) [] (qdg capt σ) H2 { s2 with heap:=h₁,toks:=s2.toks+([]:List (Str×Value)).length }:=qmm B I2 f2 fl hCle hns₁ old
  have loop:codeAny (model X.prog X.w) X.A (.compLoop (.ListComp elt [⟨tg,iter,[],0⟩] scope pos) 0 (.ref it) (.ref s2.heap.objs.size) (compEnvC scope cl G.objs.size X.env))
      (RR (.ref s2.heap.objs.size) G.objs.size) { s2 with heap:=h₁,toks:=s2.toks+([]:List (Str×Value)).length }:=by
    refine qjU (fun n s'=>∃ (i:Nat) (ys:List V) (its:List Value) (k:Nat) (Hc:Hp),Inv (blk X N scope cl G.objs.size s2 H2 fp) [] (qdg capt σ) Hc s'∧s'.heap.get? s2.heap.objs.size=some { cls:=.type "list", data:=.seq its.toArray k }∧Vals ys its∧
      Hc s2.heap.objs.size=none∧tn i s'.heap∧(∀ b∈fp,Hc b=none)∧W i ys Hc∧n=n0 - i) ?_ n0 ⟨0,[],[],0,H2,I₁,hacc,.nil,I2.hok.fresh (Nat.le_refl _),T.keep _ _ _ st2 (fun b _ o e=>old b o e),fun b hb=>(f2 b hb).1,w0,rfl⟩
    rintro n s3 ⟨i,ys,its,k,Hc,I3,hD,hv,nD,st3,fr3,w3,en⟩
    obtain ⟨_,hl,step⟩:=turn i ys Hc w3
    have hz:its.toArray.size≤sizeLine:=by rw [List.size_toArray,← hv.length];exact hl
    have I3p:Inv (blk X N scope cl G.objs.size s2 H2 fp) [(s2.heap.objs.size,{ cls:=.type "list", data:=.seq its.toArray k })] (qdg capt σ) Hc s3:=I3.pins_of fun p hp=>by
      rw [List.mem_singleton] at hp
      subst hp
      exact ⟨hD,nD,hDC,nsD,fun v z=>nomatch z⟩
    have fo3:∀ {Hx:Hp} (_:∀ b∈fp,Hx b=none),∀ b∈fp,qjL (blk X N scope cl G.objs.size s2 H2 fp) [(s2.heap.objs.size,{ cls:=.type "list", data:=.seq its.toArray k })] Hx b:=fun hx b hb=>
      ⟨hx b hb,(ok'.exf b hb).1,ok'.exfs b hb,.inl hb,(ok'.exf b hb).2,fun p hp=>by
        have hp':p∈[((s2.heap.objs.size,{ cls:=.type "list", data:=.seq its.toArray k }):Addr×Obj)]:=hp
        rw [List.mem_singleton] at hp'
        subst hp'
        exact nfD b hb⟩
    rcases step with ⟨stop,q⟩ | ⟨ltn,go,nxt⟩
    · refine thn (T.done (blk X N scope cl G.objs.size s2 H2 fp) rfl rfl rfl hc i _ s3 _ Hc _ I3p (fo3 fr3) st3 stop) fun r s4 ⟨hr,I4⟩=>?_
      subst hr
      have hD4:=(I4.pin (s2.heap.objs.size,{ cls:=.type "list", data:=.seq its.toArray k }) (List.mem_append_right _ (List.mem_singleton.mpr rfl))).1
      obtain ⟨m,hn,_⟩:=I4.loc
      have nDt:∀ b u,Hc b=some u→b≠s2.heap.objs.size:=fun b u e z=>by rw [z,nD] at e;cases e
      have oldC:∀ b o,s2.heap.get? b=some o→b≠s2.heap.objs.size:=fun b o e=>Nat.ne_of_lt (Heap.lt_size e)
      have ub:Un (frs X.stack) fp H2 Hc s2.heap s4.heap:=I4.base
      have cC:∀ b,b<s2.heap.objs.size→b≠G.objs.size:=fun b hb z=>absurd (Nat.lt_of_lt_of_le hb hCle) (by rw [z];exact Nat.lt_irrefl _)
      refine fin _ G.objs.size s4 (upd Hc s2.heap.objs.size (.lst ys)) m ?_ (q _ nD) hn (by rw [qaB (fun z=>hDC z.symm)];exact I4.free) (fun z=>cC _ I2.lt z.symm) (Nat.le_trans I2.sz hCle)
        (fun x c e=>by obtain ⟨v,q⟩:=I2.cell x c e;exact cC _ q.lt) fun p hp=>cC _ (Heap.lt_size (I2.pin p hp).1)
      refine I2.call' (ch:=fp) (s':=s4) I4.os ?_ ?_ I4.bare fun b hb=>⟨(f2 b hb).2.2.2.1,(f2 b hb).2.1,(f2 b hb).2.2.2.2.1,(f2 b hb).2.2.2.2.2⟩
      · refine ⟨ub.keep,ub.slot,fun b o e n hx=>?_,ub.there,fun b xs e=>?_,fun b o u e=>?_,fun b ps e=>?_⟩
        · rw [qaB (oldC b o e)];exact ub.free b o e n hx
        · have z:=ub.tups b xs e
          rw [qaB (nDt b _ z)];exact z
        · have z:=ub.frzs b o u e
          rw [qaB (nDt b _ z)];exact z
        · obtain ⟨more,z⟩:=ub.tbls b ps e
          exact ⟨more,by rw [qaB (nDt b _ z)];exact z⟩
      · intro b u e
        by_cases hb:b=s2.heap.objs.size
        · subst hb
          rw [qai] at e
          cases e
          exact ⟨hl,its,k,hv,hD4⟩
        · rw [qaB hb] at e
          exact (I4.hok b u e).stay (fun c v _ q=>q) (fun c q=>by rw [qaB (nDt c _ q)];exact q) fun c xs q=>by rw [qaB (nDt c _ q)];exact q
    · refine thn (T.item (blk X N scope cl G.objs.size s2 H2 fp) rfl rfl rfl hc i _ s3 _ Hc _ I3p (fo3 fr3) st3 go) fun r s4 ⟨u,hr,h4⟩=>?_
      subst hr
      refine thn h4 fun _ s5 ⟨x,H5,I5,r5,y5,st5,fr5⟩=>?_
      have I5':=I5.pinned (fo3 fr5) (T.obj _ _ st5)
      refine thn (hg _ _ _ _ _ s5 _ H5 x u _ I5' r5 (nxt x H5 y5)) fun _ s6 ⟨σ6,H6,I6,q6⟩=>?_
      refine thn (he _ _ _ _ _ s6 σ6 H6 _ I6 q6) fun uy s7 ⟨y,H7,I7,r7,w7⟩=>?_
      have pD:=I7.pin (s2.heap.objs.size,{ cls:=.type "list", data:=.seq its.toArray k }) (List.mem_append_right _ (List.mem_append_left _ (List.mem_singleton.mpr rfl)))
      have pF:∀ b∈fp,∀ o,s5.heap.get? b=some o→s7.heap.get? b=some o∧H7 b=none:=fun b hb o e=>by
        have z:=I7.pin (b,o) (List.mem_append_right _ (List.mem_append_right _ (qdn hb e)))
        exact ⟨z.1,z.2.1⟩
      refine append_at (hsz:=hz) pD.1 fun h8 sb8 hD8=>?_
      have I7n:Inv (blk X N scope cl G.objs.size s2 H2 fp) [] σ6 H7 s7:=I7.pins_of fun p hp=>nomatch hp
      have I8:Inv (blk X N scope cl G.objs.size s2 H2 fp) [] σ6 H7 { s7 with heap:=h8,toks:=s7.toks }:=I7n.turned (fun b o hb e=>sb8.extBut b o hb e) pD.2.1 hDC (.inr (Nat.le_refl _)) ncD (fun p hp=>nomatch hp)
      refine ⟨n0 - (i+1),by omega,i+1,ys++[y],its++[uy],k+1,H7,qgG B I2 f2 I8,?_,Paired.snoc hv r7,pD.2.1,T.keep _ _ _ st5 (fun b hb o e=>sb8.extBut b o (nfD b hb).symm (pF b hb o e).1),fun b hb=>?_,w7,rfl⟩
      · show h8.get? _=_
        rw [hD8,List.push_toArray]
      · obtain ⟨o,e,_⟩:=T.obj _ _ st5 b hb
        exact (pF b hb o e).2
  exact codeAny_compStart_list loop (T.self X.A 0 _ _ _ (T.keep _ _ _ st2 (fun b _ o e=>old b o e)) loop)
theorem qcu {elt iter tg:Expr} {pos:Pos} {wi:TI} {g:TG} {te:TE} (hc:X.calm=true) (B:BlkOk X N capt scope cl) (hi:PI X tg iter wi)
    (hg:∀ C s H fp,PG (blk X N scope cl C s H fp) tg g) (he:∀ C s H fp,PE (blk X N scope cl C s H fp) elt te)
    (hs:∀ x,foldedSetIterable iter X.env x=pure x:=by intro _;rfl):PE X (.ListComp elt [⟨tg,iter,[],0⟩] scope pos) (qcI wi capt g te):=by
  intro pins s σ H Q I h
  rw [eval_ListComp]
  refine wpAny_comprehension_free (use:=none) rfl hs B.clos B.kind B.names (qja (fun acc C=>compPost (model X.prog X.w) X.A X.xe none (EP X pins σ Q) acc C) hc B hi hg he I h fun D C s4 Hq m I4 q hn hf h1 h2 h3 h4=>?_)
  exact ⟨m,hn,fun h' sb=>⟨.ref D,Hq,I4.turned (fun b o hb e=>sb.extBut b o hb e) hf h1 (.inr h2) h3 h4,rfl,q⟩⟩
theorem qmn {i:Nat} {x:Str} {pos' spos:Pos} {elt iter tg:Expr} {pos:Pos} {wi:TI} {g:TG} {te:TE} (hN:X.N.Nodup) (hi':X.N[i]?=some x) (hx:Loc X.env.scope x) (hc:X.calm=true) (B:BlkOk X N capt scope cl) (hi:PI X tg iter wi)
    (hg:∀ C s H fp,PG (blk X N scope cl C s H fp) tg g) (he:∀ C s H fp,PE (blk X N scope cl C s H fp) elt te)
    (hsw:swapsWith (.ListComp elt [⟨tg,iter,[],0⟩] scope pos) (some (.Name x pos')) spos.line X.env=pure true:=by rfl)
    (hs:∀ x,foldedSetIterable iter X.env x=pure x:=by intro _;rfl) (hf:X.fn x=true∨X.env.scope.names.lookup x=some .local:=by first | exact .inl rfl | exact .inr rfl | assumption) :
    PS X (.Assign [.Name x pos'] (.ListComp elt [⟨tg,iter,[],0⟩] scope pos) spos) (qa1 (qcI wi capt g te) (qam i)):=by
  intro pins s σ H D I h
  rw [exec_Assign_Name_used _ _ _ _ hsw]
  refine wpAny_bind (wpAny_standAt (wpAny_bind ?_))
  show wpAny _ X.A (do let _ ← comprehension (.ListComp elt [⟨tg,iter,[],0⟩] scope pos) scope X.env _ (newList []) false (eval iter X.env) (some (assign (.Name x pos') X.env))) _ _ s
  refine wpAny_bind (wpAny_mono (wpAny_comprehension_free (use:=some (assign (.Name x pos') X.env)) (Q:=fun _ s'=>SP X pins D .next s') rfl hs B.clos B.kind B.names
    (qja (fun acc C=>compPost (model X.prog X.w) X.A X.xe (some (assign (.Name x pos') X.env)) (fun _ s'=>SP X pins D .next s') acc C) hc B hi hg he I h fun Da C s4 Hq m I4 q hn hfr h1 h2 h3 h4=>?_)) (fun _ s' hq=>wpAny_pure (wpAny_pure hq)) fun _ _ e=>e)
  show wpAny _ X.A (assign (.Name x pos') X.env (.ref Da)) _ _ _
  refine wpAny_assign_Name (qiX I4 hN hi' hx (v:=.ref Da) rfl (fun s5 I5 ⟨a,sb5,ha⟩=>⟨m,hn.sameBut sb5 ?_,fun h' sb=>⟨_,_,I5.turned (fun b o hb e=>sb.extBut b o hb e) hfr h1 (.inr h2) h3 h4,q⟩⟩) hf)
  rcases ha with z | z
  · rw [z];exact h1
  · exact fun e=>h3 x a z e.symm
end
end Bs
namespace Bs
open PySem PySem.Spec PyProof.Rows L2
open PySem.AutoSeq1 (wpAny_loadPart')
section
variable {prog:Program} {w:World} {A:Around} {E:Value→Shared→Prop} {s:Shared} {e it t:Addr} {i:Nat} {zs:Array Value}
theorem qlg {x:Value} {Q:Value→Shared→Prop} (si:s.heap.IsTupleIter it t i) (st:s.heap.IsTuple t zs) (hx:zs[i]?=some x)
    (hQ:∀ g,g.IsTupleIter it t (i+1)→Heap.SameBut it s.heap g→Q x { s with heap:=g }):wpAny (model prog w) A (Builtin.SmallTypes.nextOf (.ref it)) Q E s:=by
  obtain ⟨oi,gi,ci,di⟩:=id si
  obtain ⟨ot,gt,_,kt,dt⟩:=st
  unfold Builtin.SmallTypes.nextOf
  refine wpAny_bind (wpAny_callSpecial?_slot (name:=Str.ofString "__next__") si.typeIs F.slot_tuple_iterator_next (wpAny_call_entry F.slot_tuple_iterator_next si.typeIs F.entry_tuple_iterator_next ?_ (F.args_tuple_iterator_next_1 _)))
  show wpAny _ _ (field (.ref it) 0 >>= _) _ _ s
  refine wpAny_bind (wpAny_field gi di (x:=.ref t) rfl ?_)
  show wpAny _ _ (if (Value.ref t == Value.none)=true then _ else _) _ _ s
  rw [if_neg (fun q:(Value.ref t == Value.none)=true=>Bool.false_ne_true q)]
  show wpAny _ _ (field (.ref it) 1 >>= _) _ _ s
  refine wpAny_bind (wpAny_field gi di (x:=.int i 0) rfl ?_)
  show wpAny _ _ (seqItems? (.ref t) >>= _) _ _ s
  refine wpAny_bind (wpAny_seqItems gt dt ?_)
  simp only [Int.toNat_natCast,hx]
  refine wpAny_bind (wpAny_setField gi di (by simp) (wpAny_pure ⟨x,rfl,wpAny_pure (hQ _ ⟨_,Heap.get?_update_self _ gi (Obj.isFreed_of_fields (Obj.data_mapFields di _)),(Obj.cls_mapFields ..).trans ci,?_⟩ (Heap.SameBut.update ..))⟩))
  rw [Obj.data_mapFields di]
  simp [rawInt]
theorem qmo {Q:Value→Shared→Prop} (hh:A.handled=none) (si:s.heap.IsTupleIter it t i) (st:s.heap.IsTuple t zs) (hx:zs[i]?=none)
    (hE:∀ g x,Heap.ExtBut it s.heap g→(∃ o,g.get? x=some o∧o.cls=.type "StopIteration")→E (.ref x) { s with heap:=g }):wpAny (model prog w) A (Builtin.SmallTypes.nextOf (.ref it)) Q E s:=by
  obtain ⟨oi,gi,ci,di⟩:=id si
  obtain ⟨ot,gt,_,kt,dt⟩:=st
  unfold Builtin.SmallTypes.nextOf
  refine wpAny_bind (wpAny_callSpecial?_slot (name:=Str.ofString "__next__") si.typeIs F.slot_tuple_iterator_next (wpAny_call_entry F.slot_tuple_iterator_next si.typeIs F.entry_tuple_iterator_next ?_ (F.args_tuple_iterator_next_1 _)))
  show wpAny _ _ (field (.ref it) 0 >>= _) _ _ s
  refine wpAny_bind (wpAny_field gi di (x:=.ref t) rfl ?_)
  show wpAny _ _ (if (Value.ref t == Value.none)=true then _ else _) _ _ s
  rw [if_neg (fun q:(Value.ref t == Value.none)=true=>Bool.false_ne_true q)]
  show wpAny _ _ (field (.ref it) 1 >>= _) _ _ s
  refine wpAny_bind (wpAny_field gi di (x:=.int i 0) rfl ?_)
  show wpAny _ _ (seqItems? (.ref t) >>= _) _ _ s
  refine wpAny_bind (wpAny_seqItems gt dt ?_)
  simp only [Int.toNat_natCast,hx]
  refine wpAny_bind (wpAny_rule (wpAny_bind (wpAny_setField gi di (by simp) (wpAny_bind ?_))))
  simp only [newExc,newTuple]
  refine wpAny_bind (wpAny_newObj_type (wpAny_bind (m:=firstArgMember _ _) (wpAny_of_eq (a:=Value.none) (by first | rfl | (simp only [firstArgMember];rfl)) (wpAny_newObj_type ?_ (by size_fits)))) (by size_fits))
  simp only [raiseNew]
  refine wpAny_bind (wpAny_handled ?_)
  first
    | rw [show A.in1.handled=none from hh]
    | rw [hh]
  exact wpAny_bind (wpAny_pure (wpAny_throw (hE _ _ (((Heap.SameBut.update ..).extBut.push _).push _) ⟨_,Heap.get?_push_size _ rfl,rfl⟩)))
theorem qlh {x old:Value} {Q:Value→Shared→Prop} (se:IsEnum s.heap e it i old) (si:s.heap.IsTupleIter it t i) (st:s.heap.IsTuple t zs) (hx:zs[i]?=some x) (ne:e≠it)
    (hQ:∀ g,IsEnumOut g e it ((i:Int)+1) x s.heap.objs.size→g.IsTupleIter it t (i+1)→g.get? s.heap.objs.size=some { cls:=.type "tuple", data:=.seq #[.int i s.toks,x] }→
      (∀ b o,b≠e→b≠it→s.heap.get? b=some o→g.get? b=some o)→Q (.ref s.heap.objs.size) { s with heap:=g,toks:=s.toks+1 }) :
    wpAny (model prog w) A (Builtin.«enumerate.__next__» ⟨[.ref e],[]⟩) (fun fin s'=>∃ v,fin=.done (.ret v)∧Q v s') E s:=by
  obtain ⟨g0,gn,dr,tk,os⟩:=s
  show wpAny _ _ (field (.ref e) 2 >>= _) _ _ _
  refine wpAny_bind (wpAny_field se rfl (x:=.ref it) rfl ?_)
  refine wpAny_bind (qlg si st hx fun g1 i1 b1=>?_)
  replace b1:Heap.SameBut it g0 g1:=b1
  have e1:IsEnum g1 e it i old:=(b1.2 e ne).trans se
  show wpAny _ _ (field (.ref e) 3 >>= _) _ _ ⟨g1,gn,dr,tk,os⟩
  refine wpAny_bind (wpAny_field e1 rfl (x:=rawInt i) rfl ?_)
  show wpAny _ _ (field (.ref e) 4 >>= _) _ _ ⟨g1,gn,dr,tk,os⟩
  refine wpAny_bind (wpAny_field e1 rfl (x:=.none) rfl ?_)
  show wpAny _ _ (mkInt i >>= _) _ _ ⟨g1,gn,dr,tk,os⟩
  refine wpAny_bind (wpAny_mkInt ?_)
  show wpAny _ _ (setField (.ref e) 3 (rawInt ((i:Int)+1)) >>= _) _ _ ⟨g1,gn,dr,tk+1,os⟩
  refine wpAny_bind (wpAny_setField_rec e1 (by simp) fun g2 e2 b2=>?_)
  replace b2:Heap.SameBut e g1 g2:=b2
  replace e2:IsEnum g2 e it ((i:Int)+1) old:=e2
  show wpAny _ _ (setField (.ref e) 4 .none >>= _) _ _ ⟨g2,gn,dr,tk+1,os⟩
  refine wpAny_bind (wpAny_setField_rec e2 (by simp) fun g3 e3 b3=>?_)
  replace b3:Heap.SameBut e g2 g3:=b3
  replace e3:IsEnum g3 e it ((i:Int)+1) old:=e3
  show wpAny _ _ (newTuple [.int i tk,x] >>= _) _ _ ⟨g3,gn,dr,tk+1,os⟩
  refine wpAny_bind (wpAny_newTuple ?_)
  have e4:IsEnum (g3.push { cls:=.type "tuple", data:=.seq #[.int i tk,x] }) e it ((i:Int)+1) old:=Heap.get?_push_of_some _ e3
  generalize q4:g3.push { cls:=.type "tuple", data:=.seq #[.int i tk,x] }=g4 at e4
  have z3:g3.objs.size=g0.objs.size:=by rw [b3.1,b2.1,b1.1]
  have le:e<g0.objs.size:=Heap.lt_size se
  have t4:g4.get? g0.objs.size=some { cls:=.type "tuple", data:=.seq #[.int i tk,x] }:=by rw [← q4,← z3];exact Heap.get?_push_size _ rfl
  have k4:∀ b o,b≠e→b≠it→g0.get? b=some o→g4.get? b=some o:=fun b o h1 h2 h3=>by
    rw [← q4];exact Heap.get?_push_of_some _ (b3.extBut b o h1 (b2.extBut b o h1 (b1.extBut b o h2 h3)))
  have i4:g4.IsTupleIter it t (i+1):=by
    obtain ⟨o,ho,hr⟩:=i1
    exact ⟨o,by rw [← q4];exact Heap.get?_push_of_some _ (b3.extBut it o ne.symm (b2.extBut it o ne.symm ho)),hr⟩
  show wpAny _ _ (Builtin.SmallTypes.ownedTupleIsFree (.ref e) >>= _) _ _ ⟨g4,gn,dr,tk+1,os⟩
  rw [z3]
  clear q4 e3 b3 e2 b2 e1 b1 i1 z3 g3 g2 g1
  refine wpAny_bind ?_
  unfold Builtin.SmallTypes.ownedTupleIsFree
  refine wpAny_bind (wpAny_field e4 rfl (x:=.none) rfl (wpAny_pure ?_))
  simp only [if_true]
  refine wpAny_bind (wpAny_rule (wpAny_bind (wpAny_field e4 rfl (x:=old) rfl (wpAny_bind (wpAny_setField_rec e4 (by simp) fun g5 e5 b5=>?_)))))
  replace b5:Heap.SameBut e g4 g5:=b5
  replace e5:IsEnum g5 e it ((i:Int)+1) x:=e5
  show wpAny _ _ (Builtin.SmallTypes.ownedTupleHandOut (.ref e) (.ref g0.objs.size) >>= _) _ _ ⟨g5,gn,dr,tk+1,os⟩
  refine wpAny_bind ?_
  unfold Builtin.SmallTypes.ownedTupleHandOut
  refine wpAny_bind (wpAny_setField_rec e5 (by simp) fun g6 e6 b6=>?_)
  replace b6:Heap.SameBut e g5 g6:=b6
  replace e6:IsEnumOut g6 e it ((i:Int)+1) x g0.objs.size:=e6
  refine wpAny_setField_rec e6 (by simp) fun g7 e7 b7=>?_
  replace b7:Heap.SameBut e g6 g7:=b7
  replace e7:IsEnumOut g7 e it ((i:Int)+1) x g0.objs.size:=e7
  have up:∀ b o,b≠e→g4.get? b=some o→g7.get? b=some o:=fun b o h1 h2=>b7.extBut b o h1 (b6.extBut b o h1 (b5.extBut b o h1 h2))
  refine wpAny_bind (wpAny_letGo (wpAny_pure ⟨_,rfl,hQ g7 e7 ?_ (up _ _ (Nat.ne_of_gt le) t4) fun b o h1 h2 h3=>up b o h1 (k4 b o h1 h2 h3)⟩))
  obtain ⟨o,ho,hr⟩:=i4
  exact ⟨o,up it o ne.symm ho,hr⟩
theorem qli {x old:Value} {Q:Option Value→Shared→Prop} (se:IsEnum s.heap e it i old) (si:s.heap.IsTupleIter it t i) (st:s.heap.IsTuple t zs) (hx:zs[i]?=some x) (ne:e≠it)
    (hQ:∀ g,IsEnumOut g e it ((i:Int)+1) x s.heap.objs.size→g.IsTupleIter it t (i+1)→g.get? s.heap.objs.size=some { cls:=.type "tuple", data:=.seq #[.int i s.toks,x] }→
      (∀ b o,b≠e→b≠it→s.heap.get? b=some o→g.get? b=some o)→Q (some (.ref s.heap.objs.size)) { s with heap:=g,toks:=s.toks+1 }):wpAny (model prog w) A (pyNext (.ref e)) Q E s:=by
  have ty:s.TypeIs (.ref e) "enumerate" := ⟨_,se,rfl⟩
  unfold pyNext
  exact wpAny_bind (wpAny_attempt (wpAny_callSpecial?_slot (name:=Str.ofString "__next__") ty F.slot_enumerate_next (wpAny_call_entry F.slot_enumerate_next ty F.entry_enumerate_next (qlh se si st hx ne fun g a b c k=>wpAny_pure (hQ g a b c k)) (F.args_enumerate_next_1 _))))
theorem qmp {old:Value} {Q:Option Value→Shared→Prop} (hh:A.handled=none) (se:IsEnum s.heap e it i old) (si:s.heap.IsTupleIter it t i) (st:s.heap.IsTuple t zs) (hx:zs[i]?=none)
    (hQ:∀ g,Heap.ExtBut it s.heap g→Q none { s with heap:=g }):wpAny (model prog w) A (pyNext (.ref e)) Q E s:=by
  have ty:s.TypeIs (.ref e) "enumerate" := ⟨_,se,rfl⟩
  unfold pyNext
  refine wpAny_bind (wpAny_attempt (wpAny_callSpecial?_slot (name:=Str.ofString "__next__") ty F.slot_enumerate_next (wpAny_call_entry F.slot_enumerate_next ty F.entry_enumerate_next ?_ (F.args_enumerate_next_1 _))))
  show wpAny _ _ (field (.ref e) 2 >>= _) _ _ _
  refine wpAny_bind (wpAny_field se rfl (x:=.ref it) rfl (wpAny_bind (qmo hh si st hx fun g x eb ⟨o,ho,hc⟩=>?_)))
  exact wpAny_bind (wpAny_isInstance (T := "StopIteration") (b:=true) ⟨o,ho,hc⟩ isSubtype_stop (wpAny_pure (hQ _ eb)))
theorem qjV (n:Nat) (dct:Option Addr) (sl:Array (Option Value)) :
    Meets (Builtin.«enumerate.__new__» ⟨[.type "enumerate", .ref t],[]⟩) (fun _ R s=>s.heap.get? t=some { cls:=.type "tuple", dict:=dct,data:=.seq zs n,slots:=sl }∧
      R (.ok (.ret (.ref (s.heap.push { cls:=.type "tuple_iterator", data:=.fields #[.ref t,.int 0 0] }).objs.size)))
        { s with heap:=(s.heap.push { cls:=.type "tuple_iterator", data:=.fields #[.ref t,.int 0 0] }).push { cls:=.type "enumerate", data:=.fields #[.none,.bool false,.ref s.heap.objs.size,rawInt 0,.none,.none] } }):=
  .of_wp fun prog w A R s h=>by
    obtain ⟨g0,gn,dr,tk,os⟩:=s
    obtain ⟨ht,h⟩:=h
    have hsub:=sub_enumerate
    have hT:Heap.IsTuple (Shared.heap ⟨g0,gn,dr,tk,os⟩) t zs:=⟨_,ht,rfl,n,rfl⟩
    wp_walk using wpAny_loadPart' ht
    refine wpAny_stack_any fun st=>wpAny_pure ?_
    split
    · rename_i c _ _ _ _ _
      cases (c == Value.type "enumerate") <;> (wp_walk using wpAny_loadPart' ht,wpAny_pyIter_tuple hT;exact ⟨_,rfl,h⟩)
    · wp_walk using wpAny_loadPart' ht,wpAny_pyIter_tuple hT
      exact ⟨_,rfl,h⟩
theorem qlj {Q:Value→Shared→Prop} (hT:s.heap.IsTuple t zs)
    (h:∀ g,IsEnum g (s.heap.objs.size+1) s.heap.objs.size 0 .none→g.IsTupleIter s.heap.objs.size t 0→(∀ b o,s.heap.get? b=some o→g.get? b=some o)→Q (.ref (s.heap.objs.size+1)) { s with heap:=g }) :
    wpAny (model prog w) A (call (.type "enumerate") [.ref t]) Q E s:=by
  obtain ⟨⟨c,dct,da,sl⟩,ht,hc,n,hd⟩:=hT
  replace hc:c=.type "tuple" := hc
  replace hd:da=.seq zs n:=hd
  subst hc hd
  refine callType_new F.called_enumerate (by decide) (F.typeCall_enumerate_1 _) (F.newCall_enumerate_1 _) (fun obj=>F.args_object_init_2 obj _) F.entry_enumerate_new (qjV n dct sl) ⟨ht,?_⟩
  have z1:(s.heap.push { cls:=.type "tuple_iterator", data:=.fields #[.ref t,.int 0 0] }).objs.size=s.heap.objs.size+1:=Heap.size_push ..
  show _∧_
  rw [z1]
  have se:IsEnum ((s.heap.push { cls:=.type "tuple_iterator", data:=.fields #[.ref t,.int 0 0] }).push { cls:=.type "enumerate", data:=.fields #[.none,.bool false,.ref s.heap.objs.size,rawInt 0,.none,.none] }) (s.heap.objs.size+1) s.heap.objs.size 0 .none:=by
    have z:=Heap.get?_push_size (s.heap.push { cls:=.type "tuple_iterator", data:=.fields #[.ref t,.int 0 0] }) (o:={ cls:=.type "enumerate", data:=.fields #[.none,.bool false,.ref s.heap.objs.size,rawInt 0,.none,.none] }) rfl
    rw [z1] at z
    exact z
  exact ⟨⟨_,se,rfl⟩,h _ se ⟨_,Heap.get?_push_of_some _ (Heap.get?_push_size _ rfl),rfl,rfl⟩ fun b o x=>Heap.get?_push_of_some _ (Heap.get?_push_of_some _ x)⟩
end
section
variable {X:Cx} {pins:List (Addr×Obj)} {σ:L2.St} {H:Hp} {s:Shared}
theorem qkD {e it:Addr} {g:Heap} {tk:Nat} {xs:List V} {its:List Value} (I:Inv X pins σ H s) (fe:qjL X pins H e) (fi:qjL X pins H it) (k:∀ b o,b≠e→b≠it→s.heap.get? b=some o→g.get? b=some o)
    (hz:xs.length≤sizeLine) (rv:Vals xs its) (ht:g.get? s.heap.objs.size=some { cls:=.type "tuple", data:=.seq its.toArray }):Inv X pins σ (upd H s.heap.objs.size (.tup xs)) { s with heap:=g,toks:=tk }:=by
  have nT:H s.heap.objs.size=none:=I.hok.fresh (Nat.le_refl _)
  have old:∀ b o,s.heap.get? b=some o→b≠s.heap.objs.size:=fun b o q=>Nat.ne_of_lt (Heap.lt_size q)
  have tr:∀ b u,H b=some u→b≠s.heap.objs.size∧b≠e∧b≠it:=fun b u q=>⟨qaD q nT,qaD q fe.1,qaD q fi.1⟩
  have off:∀ b,b∉[e,it]→b≠e∧b≠it:=fun b hb=>⟨fun z=>hb (by simp [z]),fun z=>hb (by simp [z])⟩
  refine I.step (g':=s.gens) (d':=s.drawn) (ch:=[e,it]) (fun b hb=>?_) (fun b o _ _ hc q _=>k b o (off b hc).1 (off b hc).2 q) (fun b o _ _ hc q _=>⟨o.slots,k b o (off b hc).1 (off b hc).2 q⟩) (fun b o _ q n=>?_) (fun b o hc q=>⟨o,k b o (off b hc).1 (off b hc).2 q⟩)
    (fun b ys q=>?_) (fun b o u q=>?_) (fun b ps q=>⟨#[],?_⟩) (fun m hm=>?_) (fun b u q=>?_) I.bare
  · have z:b=e∨b=it:=by simpa using hb
    rcases z with rfl | rfl
    · exact ⟨fe.2.2.2.1,fe.2.1,fe.2.2.2.2.1,fe.2.2.2.2.2⟩
    · exact ⟨fi.2.2.2.1,fi.2.1,fi.2.2.2.2.1,fi.2.2.2.2.2⟩
  · rw [qaB (old b o q)];exact n
  · rw [qaB (tr b _ q).1];exact q
  · rw [qaB (tr b _ q).1];exact q
  · rw [qaB (tr b _ q).1,q];simp
  · obtain ⟨o,es,ep,ho,hr⟩:=hm
    exact ⟨o,es,ep,k _ o fe.2.1.symm fi.2.1.symm ho,hr⟩
  · by_cases hb:b=s.heap.objs.size
    · subst hb
      rw [qai] at q
      cases q
      exact ⟨hz,its,rv,⟨_,ht,rfl,_,rfl⟩⟩
    · rw [qaB hb] at q
      refine (I.hok b u q).stay (fun c v hc z=>?_) (fun c z=>by rw [qaB (tr c _ z).1];exact z) fun c ys z=>by rw [qaB (tr c _ z).1];exact z
      rcases hc with y | y
      · subst y;exact k _ v (tr _ u q).2.1 (tr _ u q).2.2 z
      · exact k c v (tr c _ y).2.1 (tr c _ y).2.2 z
end
theorem qlk {P:Program} {w:World} {K:W.Frag} {elts:List Expr} {k:Nat} {pos:Pos} (a e it:Addr) (ne:e≠it):Turn P w K (.Tuple elts k pos) (qqo K a) [e,it] e (fun i h=>(∃ old,IsEnum h e it i old)∧h.IsListIter it a i) where
  mem:=by simp
  obj:=fun i h st b hb=>by
    obtain ⟨⟨old,se⟩,o,ho,c,d⟩:=st
    have z:b=e∨b=it:=by simpa using hb
    rcases z with rfl | rfl
    · exact ⟨_,se,fun v z=>nomatch z⟩
    · exact ⟨o,ho,fun v z=>by rw [d] at z;cases z⟩
  keep:=fun i h h' st kk=>⟨let ⟨old,se⟩:=st.1;⟨old,kk e (by simp) _ se⟩,st.2.at fun o q=>kk it (by simp) o q⟩
  item:=by
    intro X hP hw hK hc i pins s σ H E I hf st hg
    subst hP hw hK
    obtain ⟨xs,x,hq,hx⟩:=hg
    obtain ⟨⟨old,se⟩,si⟩:=st
    obtain ⟨its,rv,p,hz⟩:=I.list hq
    obtain ⟨u,hu,ru⟩:=rv.get hx
    refine wpAny_pyNext_enum_item se si p.isList (x:=u) (by simpa using hu) ne fun g eo gi gt _ gk=>?_
    refine ⟨_,rfl,wpAny_letOwnedTupleGo_enum eo fun g' se' sb=>?_⟩
    have I1:=qkD (g:=g') (tk:=s.toks+1) (xs:=[.int i,x]) (its:=[.int i s.toks,u]) I (hf e (by simp)) (hf it (by simp)) (fun b o h1 h2 q=>sb.extBut b o h1 (gk b o h1 h2 q)) (sz (by simp)) (.cons ⟨_,rfl⟩ (.cons ru .nil)) (sb.extBut _ _ (Nat.ne_of_gt (Heap.lt_size se)) gt)
    refine ⟨.ref s.heap.objs.size,_,I1,rfl,⟨_,x,I.hok.fresh (Nat.le_refl _),rfl,rfl,fun ys hy=>by rw [I.list_inj hy hq];exact hx⟩,⟨⟨_,by simpa using se'⟩,gi.at fun o q=>sb.extBut it o ne.symm q⟩,fun b hb=>?_⟩
    rw [qaB]
    · exact (hf b hb).1
    · have z:b=e∨b=it:=by simpa using hb
      rcases z with rfl | rfl
      · exact Nat.ne_of_lt (Heap.lt_size se)
      · obtain ⟨o,ho,_⟩:=si;exact Nat.ne_of_lt (Heap.lt_size ho)
  done:=by
    intro X hP hw hK hc i pins s σ H E I hf st hg
    subst hP hw hK
    obtain ⟨xs,hq,hx⟩:=hg
    obtain ⟨⟨old,se⟩,si⟩:=st
    obtain ⟨its,rv,p,hz⟩:=I.list hq
    obtain ⟨f0,f1,f2,f3,f4,f5⟩:=hf it (by simp)
    have hl:=rv.length
    exact wpAny_pyNext_enum_end (I.ok.hd hc) se si p.isList (by simp;omega) fun g eb=>⟨rfl,I.turned (t':=s.toks) (fun b o hb q=>eb b o hb q) f0 f1 f3 f4 f5⟩
  self:=fun _ _ _ _ _ st h=>let ⟨_,se⟩:=st.1;wpAny_pyIter_enum se h
theorem qll {P:Program} {w:World} {K:W.Frag} {elts:List Expr} {k:Nat} {pos:Pos} (a e it:Addr) (ne:e≠it):Turn P w K (.Tuple elts k pos) (qq9 K a) [e,it] e (fun i h=>(∃ old,IsEnum h e it i old)∧h.IsTupleIter it a i) where
  mem:=by simp
  obj:=fun i h st b hb=>by
    obtain ⟨⟨old,se⟩,o,ho,c,d⟩:=st
    have z:b=e∨b=it:=by simpa using hb
    rcases z with rfl | rfl
    · exact ⟨_,se,fun v z=>nomatch z⟩
    · exact ⟨o,ho,fun v z=>by rw [d] at z;cases z⟩
  keep:=fun i h h' st kk=>⟨let ⟨old,se⟩:=st.1;⟨old,kk e (by simp) _ se⟩,st.2.at fun o q=>kk it (by simp) o q⟩
  item:=by
    intro X hP hw hK hc i pins s σ H E I hf st hg
    subst hP hw hK
    obtain ⟨xs,x,hq,hx⟩:=hg
    obtain ⟨⟨old,se⟩,si⟩:=st
    obtain ⟨its,rv,p,hz⟩:=I.tuple hq
    obtain ⟨u,hu,ru⟩:=rv.get hx
    refine qli se si (show s.heap.IsTuple a its.toArray from p) (x:=u) (by simpa using hu) ne fun g eo gi gt gk=>?_
    refine ⟨_,rfl,wpAny_letOwnedTupleGo_enum eo fun g' se' sb=>?_⟩
    have I1:=qkD (g:=g') (tk:=s.toks+1) (xs:=[.int i,x]) (its:=[.int i s.toks,u]) I (hf e (by simp)) (hf it (by simp)) (fun b o h1 h2 q=>sb.extBut b o h1 (gk b o h1 h2 q)) (sz (by simp)) (.cons ⟨_,rfl⟩ (.cons ru .nil)) (sb.extBut _ _ (Nat.ne_of_gt (Heap.lt_size se)) gt)
    refine ⟨.ref s.heap.objs.size,_,I1,rfl,⟨_,x,I.hok.fresh (Nat.le_refl _),rfl,rfl,fun ys hy=>by rw [I.tuple_inj hy hq];exact hx⟩,⟨⟨_,by simpa using se'⟩,gi.at fun o q=>sb.extBut it o ne.symm q⟩,fun b hb=>?_⟩
    rw [qaB]
    · exact (hf b hb).1
    · have z:b=e∨b=it:=by simpa using hb
      rcases z with rfl | rfl
      · exact Nat.ne_of_lt (Heap.lt_size se)
      · obtain ⟨o,ho,_⟩:=si;exact Nat.ne_of_lt (Heap.lt_size ho)
  done:=by
    intro X hP hw hK hc i pins s σ H E I hf st hg
    subst hP hw hK
    obtain ⟨xs,hq,hx⟩:=hg
    obtain ⟨⟨old,se⟩,si⟩:=st
    obtain ⟨its,rv,p,hz⟩:=I.tuple hq
    obtain ⟨f0,f1,f2,f3,f4,f5⟩:=hf it (by simp)
    have hl:=rv.length
    exact qmp (I.ok.hd hc) se si (show s.heap.IsTuple a its.toArray from p) (by simp;omega) fun g eb=>⟨rfl,I.turned (t':=s.toks) (fun b o hb q=>eb b o hb q) f0 f1 f3 f4 f5⟩
  self:=fun _ _ _ _ _ st h=>let ⟨_,se⟩:=st.1;wpAny_pyIter_enum se h
section
variable {X:Cx} {elts:List Expr} {k:Nat} {tpos:Pos} {a:Expr} {ta:TA} {p pos:Pos}
theorem qgb (hg:Gl X "enumerate") (hm:X.mg "enumerate" = none) (ha:PA X [a] ta) (hs:starEach [a] X.env=[(false,eval a X.env)]:=by rfl):PI X (.Tuple elts k tpos) (.Call (.Name "enumerate" p) [a] [] pos) (qgF X.K ta):=by
  intro pins s σ H R I h
  refine Call_ (qeW I hg hm qfQ (PyProof.Rows.callWith_type1 (thn (ha pos pins s σ H _ I h) fun us s1 ⟨vs,H1,I1,r1,q1⟩=>?_) hs rfl))
  obtain ⟨b,rfl,⟨xs,hq⟩,q⟩:=q1
  obtain ⟨u,rfl,ru⟩:=qgs r1
  cases ru
  obtain ⟨its,rv,pl,hz⟩:=I1.list hq
  refine call_enumerate_list pl.isList fun g se si _ gk=>?_
  have I2:Inv X pins σ H1 { s1 with heap:=g }:=I1.kept (t':=s1.toks) gk
  refine wpAny_pyIter_enum se ⟨_,[s1.heap.objs.size+1,s1.heap.objs.size],_,_,H1,rfl,I2,qlk b _ _ (Nat.succ_ne_self _),⟨⟨_,se⟩,si⟩,fun c hc=>?_,q⟩
  have z:c=s1.heap.objs.size+1∨c=s1.heap.objs.size:=by simpa using hc
  rcases z with rfl | rfl
  · exact I1.fpOk (Nat.le_succ _) (I1.hok.fresh (Nat.le_succ _))
  · exact I1.fpOk (Nat.le_refl _) (I1.hok.fresh (Nat.le_refl _))
theorem qkE (hg:Gl X "enumerate") (hm:X.mg "enumerate" = none) (ha:PA X [a] ta) (hs:starEach [a] X.env=[(false,eval a X.env)]:=by rfl):PI X (.Tuple elts k tpos) (.Call (.Name "enumerate" p) [a] [] pos) (qkB X.K ta):=by
  intro pins s σ H R I h
  refine Call_ (qeW I hg hm qfQ (PyProof.Rows.callWith_type1 (thn (ha pos pins s σ H _ I h) fun us s1 ⟨vs,H1,I1,r1,q1⟩=>?_) hs rfl))
  obtain ⟨b,rfl,⟨xs,hq⟩,q⟩:=q1
  obtain ⟨u,rfl,ru⟩:=qgs r1
  cases ru
  obtain ⟨its,rv,pl,hz⟩:=I1.tuple hq
  refine qlj (show s1.heap.IsTuple b its.toArray from pl) fun g se si gk=>?_
  have I2:Inv X pins σ H1 { s1 with heap:=g }:=I1.kept (t':=s1.toks) gk
  refine wpAny_pyIter_enum se ⟨_,[s1.heap.objs.size+1,s1.heap.objs.size],_,_,H1,rfl,I2,qll b _ _ (Nat.succ_ne_self _),⟨⟨_,se⟩,si⟩,fun c hc=>?_,q⟩
  have z:c=s1.heap.objs.size+1∨c=s1.heap.objs.size:=by simpa using hc
  rcases z with rfl | rfl
  · exact I1.fpOk (Nat.le_succ _) (I1.hok.fresh (Nat.le_succ _))
  · exact I1.fpOk (Nat.le_refl _) (I1.hok.fresh (Nat.le_refl _))
end
end Bs
namespace Bs
open PySem L2
mutual
inductive RepD (H:Hp):V→PySem.W.Dat→Prop
  | non:RepD H .non .none
  | int (i:Int):RepD H (.int i) (.int i)
  | tup {p:Addr} {xs:List V} {ds:List PySem.W.Dat} (h:H p=some (.tup xs)) (r:RepA H xs ds):RepD H (.ref p) (.tuple ds)
  | lst {p:Addr} {xs:List V} {ds:List PySem.W.Dat} (h:H p=some (.lst xs)) (r:RepA H xs ds):RepD H (.ref p) (.list ds)
inductive RepA (H:Hp):List V→List PySem.W.Dat→Prop
  | nil:RepA H [] []
  | cons {x:V} {xs:List V} {d:PySem.W.Dat} {ds:List PySem.W.Dat} (h:RepD H x d) (r:RepA H xs ds):RepA H (x::xs) (d::ds)
end
noncomputable def eqD:R2:=fun x y H Q=>∃ (d e:PySem.W.Dat) (b:Bool),RepD H x d∧RepD H y e∧PySem.W.kqdOk 8 d=true∧PySem.W.kqdOk 8 e=true∧(b=true↔d=e)∧Q (.bl b) H
noncomputable def neD:R2:=fun x y H Q=>∃ (d e:PySem.W.Dat) (b:Bool),RepD H x d∧RepD H y e∧PySem.W.kqdOk 8 d=true∧PySem.W.kqdOk 8 e=true∧(b=true↔d=e)∧Q (.bl (!b)) H
noncomputable def qif (te:TE):TT:=fun σ H Q=>te σ H fun x H'=>∃ p xs,x=.ref p∧H' p=some (.lst xs)∧Q (!xs.isEmpty) H'
noncomputable def qqp (te:TE):TT:=fun σ H Q=>te σ H fun x H'=>∃ p xs,x=.ref p∧H' p=some (.tup xs)∧Q (!xs.isEmpty) H'
noncomputable def sL:V→Option Int→Option Int→Hp→VK→Prop:=fun x lo hi H Q=>∃ a xs,x=.ref a∧H a=some (.lst xs)∧∀ p,H p=none→Q (.ref p) (upd H p (.lst (qgt xs lo hi)))
noncomputable def qjb:List V→Hp→VK→Prop:=fun xs H Q=>∃ p ys,xs=[.ref p]∧H p=some (.lst ys)∧∀ l,H l=none→Q (.ref l) (upd H l (.tup ys))
noncomputable def qoG:List V→Hp→VK→Prop:=fun xs H Q=>∃ p ys,xs=[.ref p]∧H p=some (.tup ys)∧∀ l,H l=none→Q (.ref l) (upd H l (.lst ys))
noncomputable def qhO:List V→Hp→VK→Prop:=fun xs H Q=>∃ p ys,xs=[.ref p]∧H p=some (.lst ys)∧∀ l,H l=none→Q (.ref l) (upd H l (.lst ys))
end Bs
namespace Bs
open PySem PySem.Spec PyProof.Rows L2
section
variable {X:Cx} {pins:List (Addr×Obj)} {σ:L2.St} {H:Hp} {s:Shared}
mutual
theorem qd4 (I:Inv X pins σ H s):∀ {x:V} {d:PySem.W.Dat} {u:Value},RepD H x d→RelV x u→∃ as,Reads s.heap u (PySem.W.kqdP d) as
  | _,_,_,.non,e=>by cases e;rw [PySem.W.kqdP];exact ⟨_,Reads.none⟩
  | _,_,_,.int i,⟨t,e⟩=>by subst e;rw [PySem.W.kqdP];exact ⟨_,Reads.int i t⟩
  | _,_,_,.tup h r,e=>by
    cases e
    obtain ⟨its,rv,p,_⟩:=I.tuple (SqT.of h)
    obtain ⟨as,q⟩:=qjW I r rv
    obtain ⟨o,ho,hc,n,hd⟩:=p
    rw [PySem.W.kqdP]
    exact ⟨as,reads_tuple_at ho hc hd (by simpa using q)⟩
  | _,_,_,.lst h r,e=>by
    cases e
    obtain ⟨its,rv,p,_⟩:=I.list (SqL.of h)
    obtain ⟨as,q⟩:=qjW I r rv
    obtain ⟨o,n,ho,hc,_,hd⟩:=p
    rw [PySem.W.kqdP]
    exact ⟨_,reads_list_at ho hc hd (by simpa using q)⟩
theorem qjW (I:Inv X pins σ H s):∀ {xs:List V} {ds:List PySem.W.Dat} {us:List Value},RepA H xs ds→Vals xs us→∃ as,ReadsAll s.heap us (PySem.W.kqdPs ds) as
  | _,_,_,.nil,.nil=>by rw [PySem.W.kqdPs];exact ⟨_,ReadsAll.nil⟩
  | _,_,_,.cons h r,.cons e es=>by
    obtain ⟨as,q⟩:=qd4 I h e
    obtain ⟨bs,q2⟩:=qjW I r es
    rw [PySem.W.kqdPs]
    exact ⟨_,ReadsAll.cons q q2⟩
end
theorem qe1 {d:PySem.W.Dat} (h:PySem.W.kqdOk 8 d=true):SeqAt.shaped (PySem.W.kqdP d)=true:=by
  have z:=PySem.W.kqd_lay 8 d h
  unfold SeqAt.shaped
  rw [z.1,Bool.true_and]
  exact decide_eq_true (Nat.le_trans z.2 (by decide))
theorem qoH {d e:PySem.W.Dat} {b:Bool} (h1:PySem.W.kqdOk 8 d=true) (h2:PySem.W.kqdOk 8 e=true) (hb:b=true↔d=e):PyData.eqv (PySem.W.kqdP d) (PySem.W.kqdP e)=b:=by
  rw [Bool.eq_iff_iff,hb]
  exact PySem.W.kqd_eqv 8 d e 8 h1 h2
theorem qmq (hu:X.A.units+64<cLine):OpR X (compareOp .Eq) eqD:=by
  intro pins s σ H x y v u Q I rx ry h
  obtain ⟨d,e,b,r1,r2,k1,k2,hb,q⟩:=h
  obtain ⟨as,q1⟩:=qd4 I r1 rx
  obtain ⟨bs,q2⟩:=qd4 I r2 ry
  exact eq_dataH q1 q2 (qe1 k1) (qe1 k2) hu (by rw [qoH k1 k2 hb];exact ⟨.bl b,H,I,rfl,q⟩)
theorem qkF (hu:X.A.units+64<cLine):OpR X (compareOp .NotEq) neD:=by
  intro pins s σ H x y v u Q I rx ry h
  obtain ⟨d,e,b,r1,r2,k1,k2,hb,q⟩:=h
  obtain ⟨as,q1⟩:=qd4 I r1 rx
  obtain ⟨bs,q2⟩:=qd4 I r2 ry
  exact ne_dataH q1 q2 (qe1 k1) (qe1 k2) hu (by rw [qoH k1 k2 hb];exact ⟨.bl (!b),H,I,rfl,q⟩)
theorem qfu {a:Expr} {ta:TE} (ha:PE X a ta) (he:∀ whole,isTrue a X.env whole=(do let v ← whole;standAt a.pos;holding [v] (truthy v))):PT X a (qif ta):=fun pins s σ H Q I h=>
  isTrue_plain (thn (ha pins s σ H _ I h) fun v s1 ⟨x,H1,I1,r1,q1⟩=>by
    obtain ⟨p,xs,e,hp,q⟩:=q1
    subst e
    exact qqc pins s1 σ H1 _ v Q I1 r1 ⟨_,.inl ⟨xs,SqL.of hp,rfl⟩,q⟩) (he _)
theorem qeH:SlR X sL:=by
  intro pins s σ H x v vl vu lo hi sl Q I rx hs pl pu h
  obtain ⟨a,xs,e,ha,q⟩:=h
  exact ql3 pins s σ H x v vl vu lo hi sl Q I rx hs pl pu ⟨a,xs,e,SqL.of ha,q⟩
theorem qd5:qdW X (.type "tuple") qjb:=fun pins s σ H xs us Q I r h=>by
  obtain ⟨p,ys,e,hp,q⟩:=h
  exact qh5 pins s σ H xs us Q I r ⟨p,ys,e,.inl ⟨SqL.of hp,q⟩⟩
theorem qfv:qdW X (.type "list") qhO:=fun pins s σ H xs us Q I r h=>by
  obtain ⟨p,ys,e,hp,q⟩:=h
  exact qi4 pins s σ H xs us Q I r ⟨p,ys,e,.inl (SqL.of hp),q⟩
theorem qig:PGet X gL:=by
  intro pins s σ H o i ov iv Q I ro ri h
  obtain ⟨p,k,xs,v,rfl,rfl,hp,ha,q⟩:=h
  cases ro
  obtain ⟨t,rfl⟩:=ri
  obtain ⟨its,r,pl,hz⟩:=I.list (SqL.of hp)
  obtain ⟨j,h1,h2,h3,h4,h5⟩:=qjO ha
  obtain ⟨w,ew,rw'⟩:=r.get h2
  have hl:=r.length
  have hn:=qhH
  have fin:EP X pins σ Q w s:=⟨v,H,I,rw',q⟩
  by_cases h0:0≤k
  · have hj:k.toNat=j:=by
      rw [seqIndex_of h0 h5] at h1
      exact Option.some.inj h1
    exact wpAny_getItem_list pl.isList h0 (by omega) (by rw [hj];simpa using ew) fin
  · have hj:(k+(its.toArray.size:Int)).toNat=j:=by
      rw [seqIndex_neg (by omega) h4] at h1
      rw [List.size_toArray,← hl]
      exact Option.some.inj h1
    exact wpAny_getItem_list_neg pl.isList (by omega) (by rw [List.size_toArray] <;> omega) (by omega) (by rw [hj];simpa using ew) fin
theorem qjX {K:W.Frag} {p:Addr} {xs:List V} (h:H p=some (.lst xs)):tyV K "list" (.ref p) H:=.inl ⟨rfl,xs,SqL.of h⟩
end
end Bs
namespace Bs
open PySem L2
noncomputable def qho (n:Nat) (t:TGs):TG:=fun v σ H Q=>∃ a xs,v=.ref a∧H a=some (.tup xs)∧xs.length=n∧t xs σ H Q
end Bs
namespace Bs
open PySem PySem.Spec PyProof.Rows L2
theorem qeI {X:Cx} {es:List Expr} {k:Nat} {pos:Pos} {t:TGs} {n:Nat} (hc:X.calm=true) (h:PGs X es t)
    (hn:(assignEach es X.env).length=n:=by rfl) (hst:(assignEach es X.env).findIdx? (·.1)=none:=by rfl):PG X (.Tuple es k pos) (qho n t):=fun pins s σ H v u Q I r q=>by
  obtain ⟨a,xs,e,ha,hl,q⟩:=q
  exact qqa hc h hn hst pins s σ H v u Q I r ⟨a,xs,e,SqT.of ha,hl,q⟩
theorem qmr {X:Cx}:OpR X (inplaceOp .FloorDiv) qi9:=opI fun i j _ _ _ _ _ hc q=>by
  refine ifloordiv_int (Int.ne_of_gt hc.1) ?_ (.inl (PyProof.noPylong_of_log2 (hc.2.log2 (by decide))))
  rw [Int.fdiv_eq_ediv_of_nonneg i (Int.le_of_lt hc.1)]
  exact q
end Bs
namespace Bs
open PySem L2
noncomputable def sT:V→Option Int→Option Int→Hp→VK→Prop:=fun x lo hi H Q=>∃ a xs,x=.ref a∧H a=some (.tup xs)∧∀ p H',(H'=H∧p=a∧qgt xs lo hi=xs)∨(H p=none∧H'=upd H p (.tup (qgt xs lo hi)))→Q (.ref p) H'
end Bs
namespace HT
open PySem PySem.Spec PyProof.Rows
end HT
namespace Bs
open PySem PySem.Spec PyProof.Rows L2
end Bs
namespace Bs
open PySem L2
noncomputable def Itd (lo:Int) (n:Nat):It:=⟨fun i _=>i<n,fun i H x H'=>H'=H∧x=.int (lo - i),fun i _=>n≤i⟩
noncomputable def Itv (K:W.Frag) (a:Addr) (n:Nat):It:=⟨fun i H=>i<n∧∃ xs,SqL K H a xs∧xs.length=n,fun i H x H'=>H'=H∧∀ xs,SqL K H a xs→xs[n - 1 - i]?=some x,fun i _=>n=i⟩
noncomputable def qnT (ta:TA):TI:=fun σ H R=>ta σ H fun vs H1=>∃ i j:Int,vs=[.int i,.int j,.int (-1)]∧(-(2 ^ 62)≤i∧i<2 ^ 62∧-(2 ^ 62)≤j∧j<2 ^ 62)∧R (Itd i (i - j).toNat) H1
noncomputable def qr4 (K:W.Frag) (ta:TA):TI:=fun σ H R=>ta σ H fun vs H1=>∃ a xs,vs=[.ref a]∧SqL K H1 a xs∧R (Itv K a xs.length) H1
section
variable {K:W.Frag} {ta:TA} {g:TG} {tb:TS} {D:Ends} {σ:L2.St} {H:Hp} {a:Addr} {xs:List V}
theorem qms:qfo (qnT ta) g tb D σ H=ta σ H (fun vs H1=>∃ i j:Int,vs=[.int i,.int j,.int (-1)]∧(-(2 ^ 62)≤i∧i<2 ^ 62∧-(2 ^ 62)≤j∧j<2 ^ 62)∧ForJ (Itd i (i - j).toNat) g tb D σ H1):=rfl
theorem qmt:qfo (qr4 K ta) g tb D σ H=ta σ H (fun vs H1=>∃ a xs,vs=[.ref a]∧SqL K H1 a xs∧ForJ (Itv K a xs.length) g tb D σ H1):=rfl
theorem ForJ.down {lo:Int} {n:Nat} (Pv:Nat→L2.St→Hp→Prop) (h0:Pv 0 σ H)
    (hs:∀ i σ H,i<n→Pv i σ H→g (.int (lo - i)) σ H fun σ2 H2=>tb { D with nx:=Pv (i+1),ct:=Pv (i+1),bk:=D.nx } σ2 H2) (hd:∀ σ H,Pv n σ H→D.nx σ H):ForJ (Itd lo n) g tb D σ H:=by
  refine ⟨fun i m σ H=>m=n - i∧i≤n∧Pv i σ H,⟨n,by simp,Nat.zero_le _,h0⟩,?_⟩
  rintro i m σ H ⟨rfl,hi,pv⟩
  by_cases lt:i<n
  · refine .inr ⟨lt,Pv (i+1),fun σ' H' p'=>⟨n - (i+1),by omega,rfl,lt,p'⟩,fun x H' y=>?_⟩
    obtain ⟨e,y⟩:=y
    subst e y
    exact hs i σ _ lt pv
  · have e:i=n:=by omega
    subst e
    exact .inl ⟨Nat.le_refl _,hd σ H pv⟩
end
end Bs
namespace Bs
open PySem PySem.Spec PyProof.Rows L2
theorem qmu {P:Program} {w:World} {K:W.Frag} {tg:Expr} (it:Addr) (lo:Int) (n:Nat):Turn P w K tg (Itd lo n) [it] it (fun i h=>IsRangeIter h it (lo+(i:Nat)*(-1)) ((n:Int) - (i:Nat)) (-1)) where
  mem:=by simp
  obj:=fun i h st b hb=>by
    have e:b=it:=by simpa using hb
    subst e
    exact ⟨_,st,fun v z=>by
      have z':Data.fields _=Data.cell v:=z
      cases z'⟩
  keep:=fun i h h' st k=>k it (by simp) _ st
  item:=by
    intro X hP hw hK hc i pins s σ H E I hf st hg
    subst hP hw hK
    obtain ⟨f0,f1,f2,f3,f4,f5⟩:=hf it (by simp)
    have W:=Walks.range (prog:=X.prog) (w:=X.w) (I.ok.hd hc) it lo (-1) n
    refine W.item i s _ _ hg st fun v h' tk hv st' kk=>?_
    obtain ⟨t,rfl⟩:=hv
    have I1:Inv X pins σ H { s with heap:=h',toks:=tk }:=I.turned (fun b o hb e=>kk b o (by simpa using hb) e) f0 f1 f3 f4 f5
    refine ⟨_,rfl,qnM (s:={ s with heap:=h',toks:=tk }) (n := "range_iterator") st' rfl rfl (by decide) ⟨.int (lo - i),H,I1,⟨t,?_⟩,⟨rfl,rfl⟩,st',fun b hb=>(hf b hb).1⟩⟩
    rw [show lo+(i:Int)*(-1)=lo - i by omega]
  done:=by
    intro X hP hw hK hc i pins s σ H E I hf st hg
    subst hP hw hK
    obtain ⟨f0,f1,f2,f3,f4,f5⟩:=hf it (by simp)
    exact wpAny_pyNext_range_end (I.ok.hd hc) st (by have:n≤i:=hg;omega) fun h' eb=>⟨rfl,I.turned (t':=s.toks) (fun b o hb e=>eb b o hb e) f0 f1 f3 f4 f5⟩
  self:=fun _ _ _ _ _ st h=>wpAny_pyIter_rangeiter st h
theorem qjc (a b:Int):Builtin.Range.rangeSize a b (-1)=if b<a then a - b else 0:=by
  unfold Builtin.Range.rangeSize
  simp only [show ¬ ((-1:Int) > 0) by decide,if_false,Int.neg_neg,Int.ediv_one]
  split <;> omega
theorem qlm {a b:Int} (ha:-(2 ^ 62)≤a) (ha':a<2 ^ 62) (hb:-(2 ^ 62)≤b) (hb':b<2 ^ 62):Builtin.Range.small a b (-1)=true:=by
  unfold Builtin.Range.small
  rw [qjc]
  simp only [Builtin.Range.rangeFitsLong,Bool.and_eq_true,Bool.or_eq_true,decide_eq_true_eq,beq_iff_eq,show ¬ ((-1:Int) > 0) by decide,if_false]
  split <;> omega
theorem qjd {X:Cx} {tg:Expr} {a b c:Expr} {ta:TA} {p pos:Pos} (hg:Gl X "range") (hm:X.mg "range" = none) (ha:PA X [a,b,c] ta) (hs:starEach [a,b,c] X.env=[(false,eval a X.env),(false,eval b X.env),(false,eval c X.env)]:=by rfl) (hs2:starEach [b,c] X.env=[(false,eval b X.env),(false,eval c X.env)]:=by rfl) :
    PI X tg (.Call (.Name "range" p) [a,b,c] [] pos) (qnT ta):=by
  intro pins s σ H R I h
  refine Call_ (qeW I hg hm boot_range (PyProof.Rows.callWith_type1 (thn (ha pos pins s σ H _ I h) fun us s1 ⟨vs,H1,I1,r1,q1⟩=>?_) (by rw [hs,hs2]) (by rw [hs2];rfl)))
  obtain ⟨i,j,e,⟨q1,q2,q3,q4⟩,q⟩:=q1
  subst e
  cases r1 with
  | cons r rr=>
    cases rr with
    | cons r' rr=>
      cases rr with
      | cons r'' rr=>
        cases rr
        obtain ⟨t,rfl⟩:=r
        obtain ⟨t',rfl⟩:=r'
        obtain ⟨t'',rfl⟩:=r''
        refine call_range_3 (by decide) ?_ (.inl (PyProof.noPylong_small (by decide)))
        refine wpAny_pyIter_range (IsRange.new ..) (qlm q1 q2 q3 q4) ?_
        have I2:Inv X pins σ H1 { s1 with heap:=s1.heap.push { cls:=.type "range", data:=.fields #[.int i t,.int j t',.int (-1) t''] },toks:=s1.toks }:=I1.kept fun b o e=>Heap.get?_push_of_some _ e
        refine ⟨(s1.heap.push { cls:=.type "range", data:=.fields #[.int i t,.int j t',.int (-1) t''] }).objs.size,[(s1.heap.push { cls:=.type "range", data:=.fields #[.int i t,.int j t',.int (-1) t''] }).objs.size],_,_,H1,rfl,
          I2.kept (t':=s1.toks) fun b o e=>Heap.get?_push_of_some _ e,qmu _ i (i - j).toNat,?_,fun b hb=>?_,q⟩
        · have e1:i+((0:Nat):Int)*(-1)=i:=by simp
          have e2:(((i - j).toNat:Nat):Int) - ((0:Nat):Int)=Builtin.Range.rangeSize i j (-1):=by rw [qjc];split <;> omega
          show IsRangeIter _ _ (i+((0:Nat):Int)*(-1)) ((((i - j).toNat:Nat):Int) - ((0:Nat):Int)) (-1)
          rw [e1,e2]
          exact Heap.get?_push_size _ rfl
        · have e:b=(s1.heap.push { cls:=.type "range", data:=.fields #[.int i t,.int j t',.int (-1) t''] }).objs.size:=by simpa using hb
          subst e
          exact I2.fpOk (Nat.le_refl _) (I2.hok.fresh (Nat.le_refl _))
end Bs
namespace Bs
open PySem L2
noncomputable def qra:R2:=fun x y H Q=>y=.non∧Q (.bl (decide (x=.non))) H
noncomputable def qpd:R2:=fun x y H Q=>y=.non∧Q (.bl (!decide (x=.non))) H
noncomputable def qrl (_ j:Int):Prop:=0<j
noncomputable def qpe (_ j:Int):Prop:=j≠0
noncomputable abbrev qjY:R2:=rI qrl fun i j=>.int (i / j)
noncomputable abbrev qhp:R2:=rI qpe fun i j=>.int (i.fdiv j)
noncomputable def Itz (K:W.Frag) (a b:Addr):It:=
  ⟨fun i H=>∃ xs ys x y,SqL K H a xs∧SqL K H b ys∧xs[i]?=some x∧ys[i]?=some y,fun i H v H'=>∃ p x y,H p=none∧v=.ref p∧H'=upd H p (.tup [x,y])∧(∀ xs,SqL K H a xs→xs[i]?=some x)∧∀ ys,SqL K H b ys→ys[i]?=some y,fun i H=>∃ xs ys,SqL K H a xs∧SqL K H b ys∧xs.length≤i⟩
noncomputable def qrm (K:W.Frag) (ta:TA):TI:=fun σ H R=>ta σ H fun vs H1=>∃ a b,vs=[.ref a,.ref b]∧(∃ xs,SqL K H1 a xs)∧(∃ ys,SqL K H1 b ys)∧R (Itz K a b) H1
noncomputable def qkG (wi:TI) (capt:List (Option Nat)) (g:TG) (tc:TT) (te:TE):TE:=fun σ H Q=>wi σ H fun J H1=>∃ (n:Nat) (W:Nat→List V→Hp→Prop),W 0 [] H1∧∀ i ys H,W i ys H→i≤n∧ys.length≤sizeLine∧
  ((J.stop i H∧∀ p,H p=none→Q (.ref p) (upd H p (.lst ys)))∨(i<n∧J.go i H∧∀ x H',J.yld i H x H'→g x (qdg capt σ) H' fun σ2 H2=>tc σ2 H2 fun b H3=>if b=true then te σ2 H3 fun y H4=>W (i+1) (ys++[y]) H4 else W (i+1) ys H3))
noncomputable def CompF (J:It) (capt:List (Option Nat)) (g:TG) (tc:TT) (te:TE) (σ:L2.St) (Q:VK) (H1:Hp):Prop:=∃ (n:Nat) (W:Nat→List V→Hp→Prop),W 0 [] H1∧∀ i ys H,W i ys H→i≤n∧ys.length≤sizeLine∧
  ((J.stop i H∧∀ p,H p=none→Q (.ref p) (upd H p (.lst ys)))∨(i<n∧J.go i H∧∀ x H',J.yld i H x H'→g x (qdg capt σ) H' fun σ2 H2=>tc σ2 H2 fun b H3=>if b=true then te σ2 H3 fun y H4=>W (i+1) (ys++[y]) H4 else W (i+1) ys H3))
section
variable {K:W.Frag} {ta:TA} {tl:TE} {capt:List (Option Nat)} {g:TG} {tc:TT} {te:TE} {tb:TS} {D:Ends} {σ:L2.St} {H:Hp} {Q:VK} {a b:Addr} {xs ys:List V}
theorem qkH:qkG (qdV K tl) capt g tc te σ H Q=tl σ H (fun x H1=>∃ a,x=.ref a∧(∃ xs,SqL K H1 a xs)∧CompF (Itl K a) capt g tc te σ Q H1):=rfl
theorem qmv:qcI (qrm K ta) capt g te σ H Q=ta σ H (fun vs H1=>∃ a b,vs=[.ref a,.ref b]∧(∃ xs,SqL K H1 a xs)∧(∃ ys,SqL K H1 b ys)∧CompJ (Itz K a b) capt g te σ Q H1):=rfl
theorem CompF.lst (W:Nat→List V→Hp→Prop) (h0:W 0 [] H) (hb:∀ i ys H,W i ys H→i≤xs.length∧ys.length≤sizeLine∧SqL K H a xs)
    (hs:∀ i x ys H,xs[i]?=some x→W i ys H→g x (qdg capt σ) H fun σ2 H2=>tc σ2 H2 fun b H3=>if b=true then te σ2 H3 fun y H4=>W (i+1) (ys++[y]) H4 else W (i+1) ys H3) (hd:∀ ys H,W xs.length ys H→∀ p,H p=none→Q (.ref p) (upd H p (.lst ys))):CompF (Itl K a) capt g tc te σ Q H:=by
  refine ⟨xs.length,W,h0,fun i ys H w=>⟨(hb i ys H w).1,(hb i ys H w).2.1,?_⟩⟩
  have q:SqL K H a xs:=(hb i ys H w).2.2
  by_cases h:i<xs.length
  · refine .inr ⟨h,⟨xs,xs[i],q,by simp [h]⟩,fun x H' y=>?_⟩
    obtain ⟨e,y⟩:=y
    subst e
    exact hs i x ys _ (y xs q) w
  · have e:i=xs.length:=Nat.le_antisymm (hb i ys H w).1 (Nat.not_lt.mp h)
    subst e
    exact .inl ⟨⟨xs,q,Nat.le_refl _⟩,hd ys H w⟩
theorem CompJ.zip (hl:xs.length=ys.length) (W:Nat→List V→Hp→Prop) (h0:W 0 [] H) (hb:∀ i zs H,W i zs H→i≤xs.length∧zs.length≤sizeLine∧SqL K H a xs∧SqL K H b ys)
    (hs:∀ i x y zs H p,xs[i]?=some x→ys[i]?=some y→W i zs H→H p=none→g (.ref p) (qdg capt σ) (upd H p (.tup [x,y])) fun σ2 H2=>te σ2 H2 fun z H3=>W (i+1) (zs++[z]) H3) (hd:∀ zs H,W xs.length zs H→∀ p,H p=none→Q (.ref p) (upd H p (.lst zs))):CompJ (Itz K a b) capt g te σ Q H:=by
  refine ⟨xs.length,W,h0,fun i zs H w=>⟨(hb i zs H w).1,(hb i zs H w).2.1,?_⟩⟩
  obtain ⟨_,_,q,q2⟩:=hb i zs H w
  by_cases h:i<xs.length
  · refine .inr ⟨h,⟨xs,ys,xs[i],ys[i],q,q2,by simp [h],by simp [hl ▸ h]⟩,fun v H' y=>?_⟩
    obtain ⟨p,x,y,hp,e1,e2,h1,h2⟩:=y
    subst e1 e2
    exact hs i x y zs _ p (h1 xs q) (h2 ys q2) w hp
  · have e:i=xs.length:=Nat.le_antisymm (hb i zs H w).1 (Nat.not_lt.mp h)
    subst e
    exact .inl ⟨⟨xs,ys,q,q2,Nat.le_refl _⟩,hd zs H w⟩
end
noncomputable def qpf:V→Hp→VK→Prop:=fun x H Q=>∃ (p:Addr) (ns:List Int),x=.ref p∧H p=some (.lst (ns.map V.int))∧∀ m:Int,(ns=[]∧m=0∨m∈ns)→Q (.int m) H
noncomputable def qnU (te:TE):TE:=fun σ H Q=>te σ H fun x H1=>qpf x H1 Q
noncomputable def qnV:List V→Hp→VK→Prop:=fun xs H Q=>∃ (p:Addr) (ns:List Int),xs=[.ref p]∧H p=some (.lst (ns.map V.int))∧Q (.bl (ns.any fun z=>!decide (z=0))) H
end Bs
namespace Bs
open PySem PySem.Spec PyProof.Rows L2
section
variable {X:Cx} {pins:List (Addr×Obj)} {σ:L2.St} {H:Hp} {s:Shared}
theorem qc1:OpR X (binaryOp .FloorDiv) qhp:=by
  intro pins s σ H x y v u Q I rx ry ⟨i,j,ex,ey,hc,q⟩
  subst ex ey
  obtain ⟨t,rfl⟩:=rx
  obtain ⟨t2,rfl⟩:=ry
  exact floordiv_int hc ⟨.int (i.fdiv j),H,I.tok _,⟨_,rfl⟩,q⟩ (Or.inr (I.ok.plr s I.bk))
theorem qgc:OpR X (binaryOp .FloorDiv) qjY:=by
  intro pins s σ H x y v u Q I rx ry ⟨i,j,ex,ey,hc,q⟩
  have hc':0<j:=hc
  replace q:Q (.int (i / j)) H:=q
  rw [← Int.fdiv_eq_ediv_of_nonneg i (Int.le_of_lt hc')] at q
  exact qc1 pins s σ H x y v u Q I rx ry ⟨i,j,ex,ey,Int.ne_of_gt hc',q⟩
theorem qmw {fp:List Addr} {g:Heap} {tk:Nat} (I:Inv X pins σ H s) (ff:∀ b∈fp,qjL X pins H b) (k:∀ b o,b∉fp→s.heap.get? b=some o→g.get? b=some o):Inv X pins σ H { s with heap:=g,toks:=tk }:=by
  have tr:∀ b u,H b=some u→b∉fp:=fun b u q hb=>by rw [(ff b hb).1] at q;cases q
  refine I.step (g':=s.gens) (d':=s.drawn) (ch:=fp) (fun b hb=>⟨(ff b hb).2.2.2.1,(ff b hb).2.1,(ff b hb).2.2.2.2.1,(ff b hb).2.2.2.2.2⟩) (fun b o _ _ hc q _=>k b o hc q) (fun b o _ _ hc q _=>⟨o.slots,k b o hc q⟩) (fun _ _ _ _ n=>n)
    (fun b o hc q=>⟨o,k b o hc q⟩) (fun _ _ q=>q) (fun _ _ _ q=>q) (fun b ps q=>⟨#[],by rw [q];simp⟩) (fun m hm=>?_) (fun b u q=>?_) I.bare
  · obtain ⟨o,es,ep,ho,hr⟩:=hm
    exact ⟨o,es,ep,k _ o (fun hb=>(ff _ hb).2.1 rfl) ho,hr⟩
  · refine (I.hok b u q).stay (fun c v hc z=>?_) (fun _ z=>z) fun _ _ z=>z
    rcases hc with y | y
    · subst y;exact k _ v (tr _ u q) z
    · exact k c v (tr c _ y) z
theorem qmx {fp:List Addr} {g:Heap} {tk:Nat} {xs:List V} {its:List Value} (I:Inv X pins σ H s) (ff:∀ b∈fp,qjL X pins H b) (k:∀ b o,b∉fp→s.heap.get? b=some o→g.get? b=some o)
    (hz:xs.length≤sizeLine) (rv:Vals xs its) (ht:g.get? s.heap.objs.size=some { cls:=.type "tuple", data:=.seq its.toArray }):Inv X pins σ (upd H s.heap.objs.size (.tup xs)) { s with heap:=g,toks:=tk }:=by
  have nT:H s.heap.objs.size=none:=I.hok.fresh (Nat.le_refl _)
  have tn:∀ b u,H b=some u→b≠s.heap.objs.size:=fun b u q=>qaD q nT
  have tr:∀ b u,H b=some u→b∉fp:=fun b u q hb=>by rw [(ff b hb).1] at q;cases q
  refine I.step (g':=s.gens) (d':=s.drawn) (ch:=fp) (fun b hb=>⟨(ff b hb).2.2.2.1,(ff b hb).2.1,(ff b hb).2.2.2.2.1,(ff b hb).2.2.2.2.2⟩) (fun b o _ _ hc q _=>k b o hc q) (fun b o _ _ hc q _=>⟨o.slots,k b o hc q⟩) (fun b o _ q n=>?_)
    (fun b o hc q=>⟨o,k b o hc q⟩) (fun b ys q=>?_) (fun b o u q=>?_) (fun b ps q=>⟨#[],?_⟩) (fun m hm=>?_) (fun b u q=>?_) I.bare
  · rw [qaB (Nat.ne_of_lt (Heap.lt_size q))];exact n
  · rw [qaB (tn b _ q)];exact q
  · rw [qaB (tn b _ q)];exact q
  · rw [qaB (tn b _ q),q];simp
  · obtain ⟨o,es,ep,ho,hr⟩:=hm
    exact ⟨o,es,ep,k _ o (fun hb=>(ff _ hb).2.1 rfl) ho,hr⟩
  · by_cases hb:b=s.heap.objs.size
    · subst hb
      rw [qai] at q
      cases q
      exact ⟨hz,its,rv,⟨_,ht,rfl,_,rfl⟩⟩
    · rw [qaB hb] at q
      refine (I.hok b u q).stay (fun c v hc z=>?_) (fun c z=>by rw [qaB (tn c _ z)];exact z) fun c ys z=>by rw [qaB (tn c _ z)];exact z
      rcases hc with y | y
      · subst y;exact k _ v (tr _ u q) z
      · exact k c v (tr c _ y) z
end
noncomputable def qrn (a b z ti to i1 i2:Addr) (i:Nat) (h:Heap):Prop:=IsZip h z ti to .none∧IsPair h ti (.ref i1) (.ref i2)∧(∃ u v,IsPair h to u v)∧h.IsListIter i1 a i∧h.IsListIter i2 b i
theorem qnW {P:Program} {w:World} {K:W.Frag} {elts:List Expr} {k:Nat} {pos:Pos} {a b z ti to i1 i2:Addr} (D:ZipApart z ti to i1 i2 a b):Turn P w K (.Tuple elts k pos) (Itz K a b) [z,ti,to,i1,i2] z (qrn a b z ti to i1 i2) where
  mem:=by simp
  obj:=fun i h st c hc=>by
    obtain ⟨s1,s2,⟨u,v,s3⟩,⟨o4,s4,_,d4⟩,⟨o5,s5,_,d5⟩⟩:=st
    have hc':c=z∨c=ti∨c=to∨c=i1∨c=i2:=by simpa using hc
    rcases hc' with rfl | rfl | rfl | rfl | rfl
    · exact ⟨_,s1,fun v q=>nomatch q⟩
    · exact ⟨_,s2,fun v q=>nomatch q⟩
    · exact ⟨_,s3,fun v q=>nomatch q⟩
    · exact ⟨_,s4,fun v q=>by rw [d4] at q;cases q⟩
    · exact ⟨_,s5,fun v q=>by rw [d5] at q;cases q⟩
  keep:=fun i h h' st kk=>⟨kk z (by simp) _ st.1,kk ti (by simp) _ st.2.1,let ⟨u,v,q⟩:=st.2.2.1;⟨u,v,kk to (by simp) _ q⟩,st.2.2.2.1.at fun o q=>kk i1 (by simp) o q,st.2.2.2.2.at fun o q=>kk i2 (by simp) o q⟩
  item:=by
    intro X hP hw hK hc i pins s σ H E I hf st hg
    subst hP hw hK
    obtain ⟨xs,ys,x,y,hq,hq2,hx,hy⟩:=hg
    obtain ⟨s1,s2,⟨u0,v0,s3⟩,s4,s5⟩:=st
    obtain ⟨its,rv,p1,_⟩:=I.list hq
    obtain ⟨jts,rw',p2,_⟩:=I.list hq2
    obtain ⟨u,hu,ru⟩:=rv.get hx
    obtain ⟨v,hv,rw2⟩:=rw'.get hy
    refine wpAny_pyNext_zip_item D s1 s2 s3 s4 s5 p1.isList p2.isList (x:=u) (y:=v) (by simpa using hu) (by simpa using hv) fun g g1 g2 g3 g4 g5 _ gk=>?_
    refine ⟨_,rfl,wpAny_letOwnedTupleGo_zip g1 fun g' z1 sb=>?_⟩
    have lz:z<s.heap.objs.size:=Heap.lt_size s1
    have kept:∀ c o,c∉[z,ti,to,i1,i2]→s.heap.get? c=some o→g'.get? c=some o:=fun c o hc q=>by
      have hc':¬ (c=z∨c=ti∨c=to∨c=i1∨c=i2):=by simpa using hc
      exact sb.extBut c o (fun e=>hc' (.inl e)) (gk c o (fun e=>hc' (.inl e)) (fun e=>hc' (.inr (.inr (.inl e)))) (fun e=>hc' (.inr (.inr (.inr (.inl e))))) (fun e=>hc' (.inr (.inr (.inr (.inr e))))) q)
    have I1:=qmx (g:=g') (tk:=s.toks) (xs:=[x,y]) (its:=[u,v]) I hf kept (sz (by simp)) (.cons ru (.cons rw2 .nil)) (sb.extBut _ _ (Nat.ne_of_gt lz) g5)
    refine ⟨.ref s.heap.objs.size,_,I1,rfl,⟨_,x,y,I.hok.fresh (Nat.le_refl _),rfl,rfl,fun zs hz=>by rw [I.list_inj hz hq];exact hx,fun zs hz=>by rw [I.list_inj hz hq2];exact hy⟩,⟨z1,?_,⟨u,v,sb.extBut _ _ D.TOz g2⟩,g3.at fun o q=>sb.extBut i1 o D.i1z q,g4.at fun o q=>sb.extBut i2 o D.i2z q⟩,fun c hc=>?_⟩
    · exact sb.extBut _ _ D.TIz (gk _ _ D.TIz D.TITO D.TIi1 D.TIi2 s2)
    · rw [qaB]
      · exact (hf c hc).1
      · have hc':c=z∨c=ti∨c=to∨c=i1∨c=i2:=by simpa using hc
        obtain ⟨o4,s4,_⟩:=s4
        obtain ⟨o5,s5,_⟩:=s5
        rcases hc' with rfl | rfl | rfl | rfl | rfl
        · exact Nat.ne_of_lt lz
        · exact Nat.ne_of_lt (Heap.lt_size s2)
        · exact Nat.ne_of_lt (Heap.lt_size s3)
        · exact Nat.ne_of_lt (Heap.lt_size s4)
        · exact Nat.ne_of_lt (Heap.lt_size s5)
  done:=by
    intro X hP hw hK hc i pins s σ H E I hf st hg
    subst hP hw hK
    obtain ⟨xs,ys,hq,hq2,hx⟩:=hg
    obtain ⟨s1,s2,⟨u0,v0,s3⟩,s4,s5⟩:=st
    obtain ⟨its,rv,p1,_⟩:=I.list hq
    obtain ⟨jts,_,p2,_⟩:=I.list hq2
    have hl:=rv.length
    refine wpAny_pyNext_zip_end (I.ok.hd hc) D s1 s2 s3 s4 s5 p1.isList p2.isList (.inl (by simp;omega)) fun g gk=>⟨rfl,qmw (tk:=s.toks) I hf fun c o hc q=>?_⟩
    have hc':¬ (c=z∨c=ti∨c=to∨c=i1∨c=i2):=by simpa using hc
    exact gk c o (fun e=>hc' (.inl e)) (fun e=>hc' (.inr (.inr (.inl e)))) (fun e=>hc' (.inr (.inr (.inr (.inl e))))) (fun e=>hc' (.inr (.inr (.inr (.inr e))))) q
  self:=fun _ _ _ _ _ st h=>wpAny_pyIter_zip st.1 h
section
variable {X:Cx} {elts:List Expr} {k:Nat} {tpos:Pos} {a b:Expr} {ta:TA} {p pos:Pos}
theorem vals2 {x y:V} {us:List Value} (r:Vals [x,y] us):∃ u v,us=[u,v]∧RelV x u∧RelV y v:=r.two
theorem qqq (hg:Gl X "zip") (hm:X.mg "zip" = none) (ha:PA X [a,b] ta) (hs:starEach [a,b] X.env=(false,eval a X.env)::starEach [b] X.env:=by rfl) (hpl:(backTo pos (starEach [b] X.env)).any (·.1)=false:=by rfl):PI X (.Tuple elts k tpos) (.Call (.Name "zip" p) [a,b] [] pos) (qrm X.K ta):=by
  intro pins s σ H R I h
  refine Call_ (qeW I hg hm qqn (PyProof.Rows.callWith_type1 (thn (ha pos pins s σ H _ I h) fun us s1 ⟨vs,H1,I1,r1,q1⟩=>?_) hs hpl))
  obtain ⟨l1,l2,rfl,⟨xs,hq⟩,⟨ys,hq2⟩,q⟩:=q1
  obtain ⟨u,v,rfl,ru,rv⟩:=vals2 r1
  cases ru
  cases rv
  obtain ⟨its,_,p1,_⟩:=I1.list hq
  obtain ⟨jts,_,p2,_⟩:=I1.list hq2
  refine call_zip_2 p1.isList p2.isList fun g z1 z2 z3 z4 z5 _ gk=>?_
  have I2:Inv X pins σ H1 { s1 with heap:=g }:=I1.kept (t':=s1.toks) gk
  have n1:@LT.lt Nat _ l1 s1.heap.objs.size:=p1.lt
  have n2:@LT.lt Nat _ l2 s1.heap.objs.size:=p2.lt
  have D:ZipApart (s1.heap.objs.size+4) (s1.heap.objs.size+2) (s1.heap.objs.size+3) s1.heap.objs.size (s1.heap.objs.size+1) l1 l2:=by
    constructor <;> (show (_:Nat)≠_;omega)
  refine wpAny_pyIter_zip z1 ⟨_,[s1.heap.objs.size+4,s1.heap.objs.size+2,s1.heap.objs.size+3,s1.heap.objs.size,s1.heap.objs.size+1],_,_,H1,rfl,I2,qnW D,⟨z1,z2,⟨_,_,z3⟩,z4,z5⟩,fun c hc=>?_,q⟩
  have hc':s1.heap.objs.size≤c:=by
    have z:c=s1.heap.objs.size+4∨c=s1.heap.objs.size+2∨c=s1.heap.objs.size+3∨c=s1.heap.objs.size∨c=s1.heap.objs.size+1:=by simpa using hc
    rcases z with z | z | z | z | z <;> rw [z] <;> first | exact Nat.le_add_right _ _ | exact Nat.le_refl _
  exact I1.fpOk hc' (I1.hok.fresh hc')
end
theorem qqr:bootBuiltins "any" = some (.builtin "any"):=by decide +kernel
theorem qe2:∀ {ns:List Int} {us:List Value} {i:Nat} {u:Value},Vals (ns.map V.int) us→us[i]?=some u→∃ n t,ns[i]?=some n∧u=Value.int n t
  | [],_,_,_,.nil,e=>by simp at e
  | n::ns,_,0,_,.cons r _,e=>by
    simp at e;subst e
    obtain ⟨t,rfl⟩:=r
    exact ⟨n,t,rfl,rfl⟩
  | _::ns,_,i+1,u,.cons _ r,e=>by
    obtain ⟨n,t,h1,h2⟩:=qe2 (i:=i) (u:=u) r (by simpa using e)
    exact ⟨n,t,by simpa using h1,h2⟩
section
variable {X:Cx}
theorem qmy (hc:X.calm=true):qdW X (.builtin "any") qnV:=fun pins s σ H xs us Q I r ⟨p,ns,e,hp,q⟩=>by
  subst e
  obtain ⟨u,rfl,ru⟩:=qgs r
  cases ru
  obtain ⟨its,rv,pl,hz⟩:=I.list (SqL.of hp)
  have hl:ns.length=its.length:=by have:=rv.length;simpa using this
  refine call_any_walk (wpAny_pyIter_list pl.isList ⟨s.heap.objs.size,[s.heap.objs.size,p],[s.heap.objs.size],its.toArray.size,_,_,fun i=>!decide (ns.getD i 0=0),rfl,Walks.list (A:=X.A.in1) (show X.A.in1.handled=none from I.ok.hd hc) s.heap.objs.size p (Nat.ne_of_lt pl.lt) _,⟨⟨_,Heap.get?_push_size _ rfl,rfl,rfl⟩,pl.isList.push _⟩,?_,fun g tk gk=>?_⟩)
  · intro i v s' Q' E' hP hQ
    obtain ⟨n,t,h1,rfl⟩:=qe2 rv (show its[i]?=some v by simpa using hP)
    have e:ns.getD i 0=n:=by rw [List.getD_eq_getElem?_getD,h1];rfl
    replace hQ:Q' (!decide (ns.getD i 0=0)) s':=hQ
    rw [e] at hQ
    refine PySem.P.truthy_int ?_
    have e2:(n != 0)=!decide (n=0):=by rw [Bool.eq_iff_iff];simp
    rw [e2]
    exact hQ
  · have kk:∀ b o,s.heap.get? b=some o→g.get? b=some o:=fun b o e=>gk b o (fun z=>absurd (Heap.lt_size e) (by rw [List.mem_singleton.mp z];exact Nat.lt_irrefl _)) (Heap.get?_push_of_some _ e)
    refine ⟨_,H,I.kept kk,?_,q⟩
    show Value.bool _=Value.bool _
    congr 1
    rw [Bool.eq_iff_iff]
    simp only [List.any_eq_true,List.mem_range,List.size_toArray]
    constructor
    · rintro ⟨i,hi,h⟩
      have hi2:i<ns.length:=by omega
      rw [List.getD_eq_getElem?_getD,List.getElem?_eq_getElem hi2] at h
      exact ⟨ns[i],List.getElem_mem hi2,h⟩
    · rintro ⟨x,hx,h⟩
      obtain ⟨i,hi,rfl⟩:=List.getElem_of_mem hx
      refine ⟨i,by omega,?_⟩
      rw [List.getD_eq_getElem?_getD,List.getElem?_eq_getElem hi]
      exact h
end
section
variable {prog:Program} {w:World} {A:Around} {R:Result→Shared→Prop} {I:Addr} {fp wr:List Addr} {n:Nat} {P:Nat→Value→Prop} {St:Nat→Heap→Prop} {d:Value}
theorem qgH (W:Walks prog w A.in1 I fp wr n P St) (bt:Nat→Nat→Bool) (hcmp:CmpOf prog w A.in1 .Lt P bt) (S:Addr) (hSf:S∉fp):∀ (k j q:Nat) (s:Shared) (vb:Value) (c:Nat),n - j=k→j≤n→St j s.heap→q<n→P q vb→
    s.heap.get? S=some { cls:=.type "list", dict:=none,data:=.seq #[vb,vb] c,slots:=#[] }→
    (∀ q v h' tk,q<n→P q v→(∀ b o,b∉wr→b≠S→s.heap.get? b=some o→h'.get? b=some o)→R (.ok (.ret v)) { s with heap:=h',toks:=tk })→
    codeAny (model prog w) A (.builtin "min.loop" ⟨[.ref I,.none,.ref S],[("default", d)]⟩) R s
  | 0,j,q,s,vb,c,hk,hj,hst,hq,hPb,hS,hR=>by
    have jn:j=n:=by omega
    refine codeAny_builtin F.entry_min_loop ?_
    rw [Around.under_plainId F.plain_min_loop _]
    refine wpAny_bind (m:=seqItems? (.ref S)) (wpAny_seqItems hS rfl ?_)
    refine wpAny_bind (m:=tryCatch (pyNext (.ref I)) _) (wpAny_tryCatch (W.done s _ _ (jn ▸ hst) fun h' tk kp=>?_))
    have hS2:=kp S _ (fun z=>hSf (W.sub _ z)) hS
    refine wpAny_bind (m:=updateSeq S (fun _=>#[])) (wpAny_updateSeq hS2 rfl (wpAny_bind (wpAny_letGo (wpAny_pure ?_))))
    exact hR q vb _ tk hq hPb fun b o h1 h2 e=>(Heap.get?_update_other _ _ h2.symm).trans (kp b o h1 e)
  | k+1,j,q,s,vb,c,hk,hj,hst,hq,hPb,hS,hR=>by
    have jn:j<n:=by omega
    refine codeAny_builtin F.entry_min_loop ?_
    rw [Around.under_plainId F.plain_min_loop _]
    refine wpAny_bind (m:=seqItems? (.ref S)) (wpAny_seqItems hS rfl ?_)
    refine wpAny_bind (m:=tryCatch (pyNext (.ref I)) _) (wpAny_tryCatch (W.item j s _ _ jn hst fun v h' tk hP hst' kp=>?_))
    have hS2:=kp S _ (fun z=>hSf (W.sub _ z)) hS
    refine wpAny_bind (m:=tryCatch (holding [v,v] (richCompare .Lt v vb >>= _)) _) (wpAny_tryCatch (wpAny_holding (wpAny_bind (hcmp j q v vb _ _ _ hP hPb ?_))))
    refine wpAny_bind (wpAny_holding (wpAny_truthy_bool (wpAny_bind (wpAny_letGo (wpAny_pure ?_)))))
    have nm:(toString "min" ++ toString ".loop" : String) = "min.loop" := by decide
    cases bt j q with
    | true=>
      simp only [if_true]
      refine wpAny_bind (wpAny_updateSeq hS2 rfl (wpAny_bind (wpAny_letGo ?_)))
      rw [nm]
      refine wpAny_pure ⟨plainId_quiet F.plain_min_loop _,qgH W bt hcmp S hSf k (j+1) j _ v _ (by omega) (by omega) (W.frame _ _ _ hst' fun b hb o e=>(Heap.get?_update_other _ _ (fun z:S=b=>hSf (by rw [z];exact hb))).trans e) jn hP (Heap.get?_update_self _ hS2 rfl) fun q' v' h2 tk2 hq' hP' kp2=>?_⟩
      exact hR q' v' h2 tk2 hq' hP' fun b o h1 h3 e=>kp2 b o h1 h3 ((Heap.get?_update_other _ _ h3.symm).trans (kp b o h1 e))
    | false=>
      simp only [Bool.false_eq_true,if_false]
      refine wpAny_bind (wpAny_letGo ?_)
      rw [nm]
      exact wpAny_pure ⟨plainId_quiet F.plain_min_loop _,qgH W bt hcmp S hSf k (j+1) q _ vb c (by omega) (by omega) hst' hq hPb hS2 fun q' v' h2 tk2 hq' hP' kp2=>hR q' v' h2 tk2 hq' hP' fun b o h1 h3 e=>kp2 b o h1 h3 (kp b o h1 e)⟩
theorem qln (W:Walks prog w A.in1 I fp wr n P St) (bt:Nat→Nat→Bool) (hcmp:CmpOf prog w A.in1 .Lt P bt) (S:Addr) (hSf:S∉fp) {s:Shared} {c:Nat} (hst:St 0 s.heap)
    (hS:s.heap.get? S=some { cls:=.type "list", dict:=none,data:=.seq #[] c,slots:=#[] })
    (hR:∀ v h' tk,(n=0∧v=d∨∃ q,q<n∧P q v)→(∀ b o,b∉wr→b≠S→s.heap.get? b=some o→h'.get? b=some o)→R (.ok (.ret v)) { s with heap:=h',toks:=tk }) :
    codeAny (model prog w) A (.builtin "min.loop" ⟨[.ref I,.none,.ref S],[("default", d)]⟩) R s:=by
  refine codeAny_builtin F.entry_min_loop ?_
  rw [Around.under_plainId F.plain_min_loop _]
  refine wpAny_bind (m:=seqItems? (.ref S)) (wpAny_seqItems hS rfl ?_)
  rcases Nat.eq_zero_or_pos n with z | z
  · refine wpAny_bind (m:=tryCatch (pyNext (.ref I)) _) (wpAny_tryCatch (W.done s _ _ (z ▸ hst) fun h' tk kp=>?_))
    refine wpAny_bind (wpAny_rule (wpAny_pure ?_))
    exact hR d h' tk (.inl ⟨z,rfl⟩) fun b o h1 _ e=>kp b o h1 e
  · refine wpAny_bind (m:=tryCatch (pyNext (.ref I)) _) (wpAny_tryCatch (W.item 0 s _ _ z hst fun v h' tk hP hst' kp=>?_))
    have hS2:=kp S _ (fun z=>hSf (W.sub _ z)) hS
    have nm:(toString "min" ++ toString ".loop" : String) = "min.loop" := by decide
    refine wpAny_bind (m:=updateSeq S (fun _=>#[v,v])) (wpAny_updateSeq hS2 rfl ?_)
    rw [nm]
    refine wpAny_pure ⟨plainId_quiet F.plain_min_loop _,qgH W bt hcmp S hSf _ 1 0 _ v _ rfl z (W.frame _ _ _ hst' fun b hb o e=>(Heap.get?_update_other _ _ (fun z:S=b=>hSf (by rw [z];exact hb))).trans e) z hP (Heap.get?_update_self _ hS2 rfl) fun q' v' h2 tk2 hq' hP' kp2=>?_⟩
    exact hR v' h2 tk2 (.inr ⟨q',hq',hP'⟩) fun b o h1 h3 e=>kp2 b o h1 h3 ((Heap.get?_update_other _ _ h3.symm).trans (kp b o h1 e))
end
theorem qmz (a v:Value):argsOk "min" ⟨[a],[("default", v)]⟩:=by unfold argsOk;kernel_rfl
section
variable {X:Cx} {e:Expr} {te:TE} {p pos kp1 kp2:Pos} {kk:Nat}
theorem qpg (hc:X.calm=true) (hm:X.mg "min" = none) (hv:bootBuiltins "min" = some (.builtin "min")) (ha:PE X e te) (hg:Gl X "min" := by rfl)
    (hs:starEach [e] X.env=(false,eval e X.env)::starEach [] X.env:=by rfl) (hb:backTo pos (starEach [e] X.env)=(false,eval e X.env)::backTo pos (starEach [] X.env):=by rfl):PE X (.Call (.Name "min" p) [e] [⟨some "default", .Constant (.int 0) kk kp1,kp2⟩] pos) (qnU te):=by
  intro pins s σ H Q I h
  refine wpAny_Call_Name_kw (qeW I hg hm hv ?_ (by decide) (by decide))
  refine PyProof.Rows.callWith_kw ?_ hb (by rw [hb];rfl)
  rw [hb]
  refine Calls.spliced_cons (thn (ha pins s σ H _ I h) fun u s1 ⟨x,H1,I1,r1,q1⟩=>Calls.spliced_nil ?_)
  have kw:PK X [⟨some "default", .Constant (.int 0) kk kp1,kp2⟩] (qab (tC (.int 0)) qau):=qo7 qae qqe
  refine thn (kw pos pins s1 σ H1 (fun vs H2=>vs=[.int 0]∧H2=H1) I1 ⟨rfl,rfl⟩) fun ws s2 ⟨zs,H2,I2,rz,ez,eh⟩=>?_
  subst ez eh
  obtain ⟨z,rfl,t,rfl⟩:=qgs rz
  obtain ⟨l,ns,rfl,hl,q⟩:=q1
  cases r1
  obtain ⟨its,rv,pl,hz⟩:=I2.list (SqL.of hl)
  have hle:ns.length=its.length:=by have:=rv.length;simpa using this
  have nm:(toString "min" ++ toString ".loop" : String) = "min.loop" := by decide
  refine kmb_tree F.kind_min F.plain_min F.entry_min (qmz _ _) ?_
  refine wpAny_bind (m:=Builtin.Builtins.bindParams "min" ["key", "default"] 0 ⟨[],[("default", Value.int 0 t)]⟩) (wpAny_of_eq (a:=[none,some (Value.int 0 t)]) rfl ?_)
  refine wpAny_bind (wpAny_pure (wpAny_bind (wpAny_pyIter_list pl.isList ?_)))
  refine wpAny_bind (wpAny_newObj_type ?_)
  rw [nm]
  have lp:l<s2.heap.objs.size:=pl.lt
  have nS:(s2.heap.push { cls:=.type "list_iterator", data:=.fields #[.ref l,.int 0 0] }).objs.size=s2.heap.objs.size+1:=Heap.size_push ..
  have W:=Walks.list (prog:=X.prog) (w:=X.w) (A:=X.A.in1) (show X.A.in1.handled=none from I2.ok.hd hc) s2.heap.objs.size l (Nat.ne_of_lt lp) its.toArray
  refine wpAny_pure ⟨plainId_quiet F.plain_min_loop _,qln W _ (CmpOf.ints_lt (fun i=>ns.getD i 0) fun i v hP=>?_) _ ?_ ⟨⟨_,Heap.get?_push_of_some _ (Heap.get?_push_size _ rfl),rfl,rfl⟩,(pl.isList.push _).push _⟩ (Heap.get?_push_size _ rfl) fun v g tk hv2 gk=>?_⟩
  · obtain ⟨n,t2,h1,rfl⟩:=qe2 rv (show its[i]?=some v by simpa using hP)
    exact ⟨t2,by rw [List.getD_eq_getElem?_getD,h1];rfl⟩
  · rw [nS]
    have:¬ (s2.heap.objs.size+1=s2.heap.objs.size∨s2.heap.objs.size+1=l):=fun z=>by
      rcases z with z | z
      · exact absurd z (Nat.succ_ne_self _)
      · rw [← z] at lp;exact absurd lp (Nat.not_lt.mpr (Nat.le_succ _))
    simpa using this
  · have kk2:∀ b o,s2.heap.get? b=some o→g.get? b=some o:=fun b o e=>by
      have lb:b<s2.heap.objs.size:=Heap.lt_size e
      refine gk b o (fun z=>?_) (fun z=>?_) (Heap.get?_push_of_some _ (Heap.get?_push_of_some _ e))
      · rw [List.mem_singleton.mp z] at lb;exact absurd lb (Nat.lt_irrefl _)
      · rw [z,nS] at lb;exact absurd lb (Nat.not_lt.mpr (Nat.le_succ _))
    have I3:=I2.kept (t':=tk) kk2
    rcases hv2 with ⟨z,rfl⟩ | ⟨i,hi,hP⟩
    · exact ⟨.int 0,_,I3,⟨t,rfl⟩,q 0 (.inl ⟨List.length_eq_zero_iff.mp (by rw [List.size_toArray] at z;omega),rfl⟩)⟩
    · obtain ⟨n,t2,h1,rfl⟩:=qe2 rv (show its[i]?=some v by simpa using hP)
      exact ⟨.int n,_,I3,⟨t2,rfl⟩,q n (.inr (List.mem_of_getElem? h1))⟩
end
end Bs
namespace Bs
open PySem PySem.Spec PyProof.Rows L2
section
variable {X:Cx} {pins:List (Addr×Obj)} {σ:L2.St} {H:Hp} {s:Shared} {N:List Str} {capt:List (Option Nat)} {scope:Scope} {cl:List (Str×Addr)} {C:Addr} {fp:List Addr}
theorem qje {prog:Program} {w:World} {A:Around} {R:Result→Shared→Prop} {s:Shared} {elt target iter c:Expr} {scope:Scope} {pos:Pos} {it acc:Value} {env:Env} (I:Nat→Shared→Prop)
    (turn:∀ n s,I n s→wpAny (model prog w) A (pyNext it) (fun r s₁=>match r with
      | none=>R (.ok .next) s₁
      | some v=>wpAny (model prog w) A (letOwnedTupleGo target it v) (fun _ s₂=>wpAny (model prog w) A (assign target env v) (fun _ s₃=>wpAny (model prog w) A (isTrue c env (eval c env)) (fun okb s₆=>if okb=true then wpAny (model prog w) A (eval elt env) (fun x s₄=>
          wpAny (model prog w) A (call (.builtin "list.append") [acc,x]) (fun _ s₅=>∃ m,m<n∧I m s₅) (fun _ _=>False) s₄) (fun _ _=>False) s₆ else ∃ m,m<n∧I m s₆) (fun _ _=>False) s₃) (fun _ _=>False) s₂) (fun _ _=>False) s₁) (fun _ _=>False) s)
    (n:Nat) (h:I n s):codeAny (model prog w) A (.compLoop (.ListComp elt [⟨target,iter,[c],0⟩] scope pos) 0 it acc env) R s:=by
  refine codeAny_loop rfl I (fun n s hI=>?_) n h
  show wpAny _ A ((compTurn (.ListComp elt [⟨target,iter,[c],0⟩] scope pos) 0 it acc env).onRaise (fun x=>do noteFrame x env;theTreesLotGoes x)) _ _ s
  refine wpAny_noted ?_
  rw [compTurn_list]
  have no:∀ {E':Value→Shared→Prop} (e:Value) (s':Shared),(fun (_:Value) (_:Shared)=>False) e s'→E' e s':=fun _ _ f=>f.elim
  refine wpAny_bind (wpAny_standAt (wpAny_bind (wpAny_mono (turn n s hI) (fun r s₁ h₁=>?_) no)))
  cases r with
  | none=>exact wpAny_pure h₁
  | some v=>
    refine wpAny_bind (wpAny_mono h₁ (fun _ s₂ h₂=>?_) no)
    refine wpAny_bind (wpAny_mono h₂ (fun _ s₆ h₆=>wpAny_bind (wpAny_tests_one (wpAny_mono h₆ (fun okb s₃ h₃=>?_) no))) no)
    cases okb with
    | false=>exact wpAny_pure ⟨rfl,h₃⟩
    | true=>exact wpAny_bind (wpAny_bind (wpAny_mono h₃ (fun x s₄ h₄=>wpAny_bind (wpAny_mono h₄ (fun _ s₅ h₅=>wpAny_pure (wpAny_pure ⟨rfl,h₅⟩)) no)) no))
theorem qlo {elt iter tg c:Expr} {tc:TT} {pos:Pos} {wi:TI} {g:TG} {te:TE} {pins:List (Addr×Obj)} {s:Shared} {σ:L2.St} {H:Hp} {Q:VK} (RR:Value→Addr→Result→Shared→Prop) (hc:X.calm=true) (B:BlkOk X N capt scope cl) (hi:PI X tg iter wi)
    (hg:∀ C s H fp,PG (blk X N scope cl C s H fp) tg g) (ht:∀ C s H fp,PT (blk X N scope cl C s H fp) c tc) (he:∀ C s H fp,PE (blk X N scope cl C s H fp) elt te) (I:Inv X pins σ H s) (h:qkG wi capt g tc te σ H Q)
    (fin:∀ (D C:Addr) (s4:Shared) (Hq:Hp) (m:Str→Option Value),Inv X pins σ Hq s4→Q (.ref D) Hq→s4.heap.Ns C m→Hq C=none→C≠X.env.locals→X.s₀.heap.objs.size≤C→(∀ x c,X.env.cells.lookup x=some c→c≠C)→(∀ p∈X.pn++pins,p.1≠C)→RR (.ref D) C (.ok .next) s4) :
    wpAny (model X.prog X.w) X.A (eval iter X.env) (fun x s₁=>wpAny (model X.prog X.w) X.A (pyIter x) (fun it s₂=>wpAny (model X.prog X.w) X.A (newList []) (fun acc s₃=>
      wpAny (model X.prog X.w) X.A (newFunctionEnv scope X.env.globals cl [] X.env.qual none .none (some X.env)) (fun cenv s₄=>
        codeAny (model X.prog X.w) X.A (.compStart (.ListComp elt [⟨tg,iter,[c],0⟩] scope pos) 0 it acc { cenv with scope:=relabel scope X.env }) (RR acc cenv.locals) s₄) X.xe s₃) X.xe s₂) X.xe s₁) X.xe s:=by
  refine thn (hi pins s σ H _ I h) fun v s1 h1=>thn h1 fun itv s2 h2=>?_
  obtain ⟨it,fp,tn,J,H2,e,I2,T,st2,f2,n0,W,w0,turn⟩:=h2
  subst e
  have fl:∀ b∈fp,b<s2.heap.objs.size:=fun b hb=>by obtain ⟨o,e,_⟩:=T.obj _ _ st2 b hb;exact Heap.lt_size e
  refine wpAny_newObj_type (wpAny_newFunctionEnv B.nocell (by intro y hy;simp at hy) (fun h₁ hns₁ hsb₁=>?_) B.kind)
  dsimp only at hns₁ hsb₁ ⊢
  generalize hG:s2.heap.push { cls:=.type "list", dict:=none,data:=.seq ([]:List Value).toArray }=G at hns₁ hsb₁ ⊢
  have hC:G.objs.size=s2.heap.objs.size+1:=by rw [← hG,Heap.size_push]
  have hCle:s2.heap.objs.size≤G.objs.size:=by rw [hC];exact Nat.le_succ _
  have hDC:s2.heap.objs.size≠G.objs.size:=by rw [hC];exact Nat.ne_of_lt (Nat.lt_succ_self _)
  have old:∀ b o,s2.heap.get? b=some o→h₁.get? b=some o:=fun b o e=>hsb₁.extBut b o (by rw [hC];exact Nat.ne_of_lt (Nat.lt_succ_of_lt (Heap.lt_size e))) (Heap.get?_push_of_some _ (hG ▸ Heap.get?_push_of_some _ e))
  have hacc:h₁.get? s2.heap.objs.size=some { cls:=.type "list", data:=.seq ([]:List Value).toArray }:=hsb₁.extBut _ _ hDC (Heap.get?_push_of_some _ (hG ▸ Heap.get?_push_size _ rfl))
  have ok':=qml B I2 f2 fl hCle
  have nsD:s2.heap.objs.size∉frs X.stack:=fun hb=>by
    rcases List.mem_cons.mp (I2.stkSub _ hb) with z | z
    · exact absurd I2.lt (by rw [← z];exact Nat.lt_irrefl _)
    · exact I2.nofs (Nat.le_refl _) z
  have ncD:∀ x c,cl.lookup x=some c→c≠s2.heap.objs.size:=fun x c e z=>by
    obtain ⟨v,q⟩:=I2.cell x c (B.cells x c e)
    exact absurd q.lt (by rw [z];exact Nat.lt_irrefl _)
  have nfD:∀ b∈fp,s2.heap.objs.size≠b:=fun b hb z=>absurd (fl b hb) (by rw [← z];exact Nat.lt_irrefl _)
  have I₁:Inv (blk X N scope cl G.objs.size s2 H2 fp) [] (qdg capt σ) H2 { s2 with heap:=h₁,toks:=s2.toks+([]:List (Str×Value)).length }:=qmm B I2 f2 fl hCle hns₁ old
  have loop:codeAny (model X.prog X.w) X.A (.compLoop (.ListComp elt [⟨tg,iter,[c],0⟩] scope pos) 0 (.ref it) (.ref s2.heap.objs.size) (compEnvC scope cl G.objs.size X.env))
      (RR (.ref s2.heap.objs.size) G.objs.size) { s2 with heap:=h₁,toks:=s2.toks+([]:List (Str×Value)).length }:=by
    refine qje (fun n s'=>∃ (i:Nat) (ys:List V) (its:List Value) (k:Nat) (Hc:Hp),Inv (blk X N scope cl G.objs.size s2 H2 fp) [] (qdg capt σ) Hc s'∧s'.heap.get? s2.heap.objs.size=some { cls:=.type "list", data:=.seq its.toArray k }∧Vals ys its∧
      Hc s2.heap.objs.size=none∧tn i s'.heap∧(∀ b∈fp,Hc b=none)∧W i ys Hc∧n=n0 - i) ?_ n0 ⟨0,[],[],0,H2,I₁,hacc,.nil,I2.hok.fresh (Nat.le_refl _),T.keep _ _ _ st2 (fun b _ o e=>old b o e),fun b hb=>(f2 b hb).1,w0,rfl⟩
    rintro n s3 ⟨i,ys,its,k,Hc,I3,hD,hv,nD,st3,fr3,w3,en⟩
    obtain ⟨_,hl,step⟩:=turn i ys Hc w3
    have hz:its.toArray.size≤sizeLine:=by rw [List.size_toArray,← hv.length];exact hl
    have I3p:Inv (blk X N scope cl G.objs.size s2 H2 fp) [(s2.heap.objs.size,{ cls:=.type "list", data:=.seq its.toArray k })] (qdg capt σ) Hc s3:=I3.pins_of fun p hp=>by
      rw [List.mem_singleton] at hp
      subst hp
      exact ⟨hD,nD,hDC,nsD,fun v z=>nomatch z⟩
    have fo3:∀ {Hx:Hp} (_:∀ b∈fp,Hx b=none),∀ b∈fp,qjL (blk X N scope cl G.objs.size s2 H2 fp) [(s2.heap.objs.size,{ cls:=.type "list", data:=.seq its.toArray k })] Hx b:=fun hx b hb=>
      ⟨hx b hb,(ok'.exf b hb).1,ok'.exfs b hb,.inl hb,(ok'.exf b hb).2,fun p hp=>by
        have hp':p∈[((s2.heap.objs.size,{ cls:=.type "list", data:=.seq its.toArray k }):Addr×Obj)]:=hp
        rw [List.mem_singleton] at hp'
        subst hp'
        exact nfD b hb⟩
    rcases step with ⟨stop,q⟩ | ⟨ltn,go,nxt⟩
    · refine thn (T.done (blk X N scope cl G.objs.size s2 H2 fp) rfl rfl rfl hc i _ s3 _ Hc _ I3p (fo3 fr3) st3 stop) fun r s4 ⟨hr,I4⟩=>?_
      subst hr
      have hD4:=(I4.pin (s2.heap.objs.size,{ cls:=.type "list", data:=.seq its.toArray k }) (List.mem_append_right _ (List.mem_singleton.mpr rfl))).1
      obtain ⟨m,hn,_⟩:=I4.loc
      have nDt:∀ b u,Hc b=some u→b≠s2.heap.objs.size:=fun b u e z=>by rw [z,nD] at e;cases e
      have oldC:∀ b o,s2.heap.get? b=some o→b≠s2.heap.objs.size:=fun b o e=>Nat.ne_of_lt (Heap.lt_size e)
      have ub:Un (frs X.stack) fp H2 Hc s2.heap s4.heap:=I4.base
      have cC:∀ b,b<s2.heap.objs.size→b≠G.objs.size:=fun b hb z=>absurd (Nat.lt_of_lt_of_le hb hCle) (by rw [z];exact Nat.lt_irrefl _)
      refine fin _ G.objs.size s4 (upd Hc s2.heap.objs.size (.lst ys)) m ?_ (q _ nD) hn (by rw [qaB (fun z=>hDC z.symm)];exact I4.free) (fun z=>cC _ I2.lt z.symm) (Nat.le_trans I2.sz hCle)
        (fun x c e=>by obtain ⟨v,q⟩:=I2.cell x c e;exact cC _ q.lt) fun p hp=>cC _ (Heap.lt_size (I2.pin p hp).1)
      refine I2.call' (ch:=fp) (s':=s4) I4.os ?_ ?_ I4.bare fun b hb=>⟨(f2 b hb).2.2.2.1,(f2 b hb).2.1,(f2 b hb).2.2.2.2.1,(f2 b hb).2.2.2.2.2⟩
      · refine ⟨ub.keep,ub.slot,fun b o e n hx=>?_,ub.there,fun b xs e=>?_,fun b o u e=>?_,fun b ps e=>?_⟩
        · rw [qaB (oldC b o e)];exact ub.free b o e n hx
        · have z:=ub.tups b xs e
          rw [qaB (nDt b _ z)];exact z
        · have z:=ub.frzs b o u e
          rw [qaB (nDt b _ z)];exact z
        · obtain ⟨more,z⟩:=ub.tbls b ps e
          exact ⟨more,by rw [qaB (nDt b _ z)];exact z⟩
      · intro b u e
        by_cases hb:b=s2.heap.objs.size
        · subst hb
          rw [qai] at e
          cases e
          exact ⟨hl,its,k,hv,hD4⟩
        · rw [qaB hb] at e
          exact (I4.hok b u e).stay (fun c v _ q=>q) (fun c q=>by rw [qaB (nDt c _ q)];exact q) fun c xs q=>by rw [qaB (nDt c _ q)];exact q
    · refine thn (T.item (blk X N scope cl G.objs.size s2 H2 fp) rfl rfl rfl hc i _ s3 _ Hc _ I3p (fo3 fr3) st3 go) fun r s4 ⟨u,hr,h4⟩=>?_
      subst hr
      refine thn h4 fun _ s5 ⟨x,H5,I5,r5,y5,st5,fr5⟩=>?_
      have I5':=I5.pinned (fo3 fr5) (T.obj _ _ st5)
      refine thn (hg _ _ _ _ _ s5 _ H5 x u _ I5' r5 (nxt x H5 y5)) fun _ s6 ⟨σ6,H6,I6,q6⟩=>?_
      refine thn (ht _ _ _ _ _ s6 σ6 H6 _ I6 q6) fun okb s9 ⟨H9,I9,q9⟩=>?_
      have pF9:∀ b∈fp,∀ o,s5.heap.get? b=some o→s9.heap.get? b=some o∧H9 b=none:=fun b hb o e=>by
        have z:=I9.pin (b,o) (List.mem_append_right _ (List.mem_append_right _ (qdn hb e)))
        exact ⟨z.1,z.2.1⟩
      cases okb with
      | false=>
        have w9:W (i+1) ys H9:=q9
        have pD9:=I9.pin (s2.heap.objs.size,{ cls:=.type "list", data:=.seq its.toArray k }) (List.mem_append_right _ (List.mem_append_left _ (List.mem_singleton.mpr rfl)))
        have I9n:Inv (blk X N scope cl G.objs.size s2 H2 fp) [] σ6 H9 s9:=I9.pins_of fun p hp=>nomatch hp
        exact ⟨n0 - (i+1),by omega,i+1,ys,its,k,H9,qgG B I2 f2 I9n,pD9.1,hv,pD9.2.1,T.keep _ _ _ st5 (fun b hb o e=>(pF9 b hb o e).1),(fun b hb=>by
          obtain ⟨o,e,_⟩:=T.obj _ _ st5 b hb
          exact (pF9 b hb o e).2),w9,rfl⟩
      | true=>
      replace q9:te σ6 H9 fun y H4=>W (i+1) (ys++[y]) H4:=q9
      refine thn (he _ _ _ _ _ s9 σ6 H9 _ I9 q9) fun uy s7 ⟨y,H7,I7,r7,w7⟩=>?_
      have pD:=I7.pin (s2.heap.objs.size,{ cls:=.type "list", data:=.seq its.toArray k }) (List.mem_append_right _ (List.mem_append_left _ (List.mem_singleton.mpr rfl)))
      have pF:∀ b∈fp,∀ o,s5.heap.get? b=some o→s7.heap.get? b=some o∧H7 b=none:=fun b hb o e=>by
        have z:=I7.pin (b,o) (List.mem_append_right _ (List.mem_append_right _ (qdn hb e)))
        exact ⟨z.1,z.2.1⟩
      refine append_at (hsz:=hz) pD.1 fun h8 sb8 hD8=>?_
      have I7n:Inv (blk X N scope cl G.objs.size s2 H2 fp) [] σ6 H7 s7:=I7.pins_of fun p hp=>nomatch hp
      have I8:Inv (blk X N scope cl G.objs.size s2 H2 fp) [] σ6 H7 { s7 with heap:=h8,toks:=s7.toks }:=I7n.turned (fun b o hb e=>sb8.extBut b o hb e) pD.2.1 hDC (.inr (Nat.le_refl _)) ncD (fun p hp=>nomatch hp)
      refine ⟨n0 - (i+1),by omega,i+1,ys++[y],its++[uy],k+1,H7,qgG B I2 f2 I8,?_,Paired.snoc hv r7,pD.2.1,T.keep _ _ _ st5 (fun b hb o e=>sb8.extBut b o (nfD b hb).symm (pF b hb o e).1),fun b hb=>?_,w7,rfl⟩
      · show h8.get? _=_
        rw [hD8,List.push_toArray]
      · obtain ⟨o,e,_⟩:=T.obj _ _ st5 b hb
        exact (pF b hb o e).2
  exact codeAny_compStart_list loop (T.self X.A 0 _ _ _ (T.keep _ _ _ st2 (fun b _ o e=>old b o e)) loop)
theorem qnX {elt iter tg c:Expr} {tc:TT} {pos:Pos} {wi:TI} {g:TG} {te:TE} (hc:X.calm=true) (B:BlkOk X N capt scope cl) (hi:PI X tg iter wi)
    (hg:∀ C s H fp,PG (blk X N scope cl C s H fp) tg g) (ht:∀ C s H fp,PT (blk X N scope cl C s H fp) c tc) (he:∀ C s H fp,PE (blk X N scope cl C s H fp) elt te)
    (hs:∀ x,foldedSetIterable iter X.env x=pure x:=by intro _;rfl):PE X (.ListComp elt [⟨tg,iter,[c],0⟩] scope pos) (qkG wi capt g tc te):=by
  intro pins s σ H Q I h
  rw [eval_ListComp]
  refine wpAny_comprehension_free (use:=none) rfl hs B.clos B.kind B.names (qlo (fun acc C=>compPost (model X.prog X.w) X.A X.xe none (EP X pins σ Q) acc C) hc B hi hg ht he I h fun D C s4 Hq m I4 q hn hf h1 h2 h3 h4=>?_)
  exact ⟨m,hn,fun h' sb=>⟨.ref D,Hq,I4.turned (fun b o hb e=>sb.extBut b o hb e) hf h1 (.inr h2) h3 h4,rfl,q⟩⟩
end
end Bs
namespace Bs
open PySem L2
noncomputable def sS (K:W.Frag):V→Option Int→Option Int→Hp→VK→Prop:=fun x lo hi H Q=>∃ a xs,x=.ref a∧SqL K H a xs∧∀ p,H p=none→Q (.ref p) (upd H p (.lst (qgt xs lo hi)))
noncomputable def qmA:List V→Hp→VK→Prop:=fun xs H Q=>∃ (p:Addr) (ns:List Int),xs=[.ref p]∧H p=some (.lst (ns.map V.int))∧Q (.int ns.sum) H
end Bs
namespace Bs
open PySem PySem.Spec PyProof.Rows L2
section
variable {X:Cx}
theorem qjf:SlR X (sS X.K):=ql3
theorem qgI (ns:List Int):∀ k,k≤ns.length→preSum (fun i=>ns.getD i 0) k=(ns.take k).sum
  | 0,_=>rfl
  | k+1,h=>by
    have e:ns.take (k+1)=ns.take k++[ns.getD k 0]:=by
      rw [List.take_add_one,List.getD_eq_getElem?_getD,List.getElem?_eq_getElem (by omega)];rfl
    show preSum _ k+_=_
    rw [e,qgI ns k (by omega),List.sum_append]
    simp
theorem qjg (hc:X.calm=true):qdW X (.builtin "sum") qmA:=fun pins s σ H xs us Q I r ⟨p,ns,e,hp,q⟩=>by
  subst e
  obtain ⟨u,rfl,ru⟩:=qgs r
  cases ru
  obtain ⟨its,rv,pl,hz⟩:=I.list (SqL.of hp)
  have hl:ns.length=its.length:=by have:=rv.length;simpa using this
  refine call_sum_walkG (wpAny_pyIter_list pl.isList ⟨s.heap.objs.size,[s.heap.objs.size,p],[s.heap.objs.size],its.toArray.size,_,_,fun i=>ns.getD i 0,rfl,Walks.list (A:=X.A.in1) (show X.A.in1.handled=none from I.ok.hd hc) s.heap.objs.size p (Nat.ne_of_lt pl.lt) _,⟨⟨_,Heap.get?_push_size _ rfl,rfl,rfl⟩,pl.isList.push _⟩,?_,?_,fun g tk t gk=>?_⟩)
  · intro b hb
    have z:b=s.heap.objs.size∨b=p:=by simpa using hb
    rcases z with z | z
    · rw [z];exact Heap.lt_size (Heap.get?_push_size _ rfl)
    · obtain ⟨o,_,ho,_⟩:=pl
      rw [z];exact Heap.lt_size (Heap.get?_push_of_some _ ho)
  · intro i v hP
    obtain ⟨n,t,h1,rfl⟩:=qe2 rv (show its[i]?=some v by simpa using hP)
    have e:ns.getD i 0=n:=by rw [List.getD_eq_getElem?_getD,h1];rfl
    exact ⟨t,by show Value.int n t=Value.int (ns.getD i 0) t;rw [e]⟩
  · have kk:∀ b o,s.heap.get? b=some o→g.get? b=some o:=fun b o e=>gk b o (fun z=>absurd (Heap.lt_size e) (by rw [List.mem_singleton.mp z];exact Nat.lt_irrefl _)) (Heap.get?_push_of_some _ e)
    refine ⟨.int ns.sum,H,I.kept kk,⟨t,?_⟩,q⟩
    have e:=qgI ns ns.length (Nat.le_refl _)
    rw [List.take_length] at e
    rw [List.size_toArray,← hl,e]
end
end Bs
namespace Bs
open PySem L2
noncomputable def qqs (n:Nat) (t:TGs):TG:=fun v σ H Q=>∃ a xs,v=.ref a∧H a=some (.lst xs)∧xs.length=n∧t xs σ H Q
end Bs
namespace Bs
open PySem PySem.Spec PyProof.Rows L2
theorem qqt {m n:Nat} {a b:Int} (ha:Bd m a) (hb:Bd n b) (h:m+n≤134217728):IntMulOk a b:=IntMulOk.of_le (qmf ha) (qmf hb) h
end Bs
namespace Bs
theorem Bd.one:Bd 1 1:=by unfold Bd;decide
theorem Bd.pow {b:Nat} {x:Int} (h:Bd b x) (k:Nat):Bd (b*k+1) (x ^ k):=by
  induction k with
  | zero=>rw [Int.pow_zero,Nat.mul_zero];exact Bd.one
  | succ k ih=>
    have e:b*(k+1)+1=(b*k+1)+b:=by rw [Nat.mul_add,Nat.mul_one];omega
    rw [Int.pow_succ,e]
    exact ih.mul h
theorem pow_ne {t:Int} (h:t≠0) (m:Nat):t ^ m≠0:=by
  induction m with
  | zero=>rw [Int.pow_zero];decide
  | succ m ih=>rw [Int.pow_succ];exact Int.mul_ne_zero ih h
end Bs
namespace Bs
noncomputable abbrev Nu:=Int×Int
noncomputable def red (n m:Int):Nu:=(n / ((Int.gcd n m:Nat):Int),m / ((Int.gcd n m:Nat):Int))
noncomputable def nadd (q r:Nu):Nu:=red (q.1*r.2+r.1*q.2) (q.2*r.2)
noncomputable def nmul (q r:Nu):Nu:=red (q.1*r.1) (q.2*r.2)
noncomputable def Wo (q:Nu) (n m:Int):Prop:=q.1*m=n*q.2
theorem qbC {n m:Int} (hm:0<m):Low (red n m).1 (red n m).2:=(qeG (a:=n) hm).1
theorem qet {n m:Int} (hm:0<m):Wo (red n m) n m:=by
  have h:=(qen (a:=n) (b:=m) (s:=((Int.gcd n m:Nat):Int)) (by omega) (by rw [if_neg (by omega)])).2.2.2.1
  rw [Int.fdiv_eq_ediv_of_nonneg _ (by omega),Int.fdiv_eq_ediv_of_nonneg _ (by omega)] at h
  exact h
theorem qfw {a b d:Int} (h:Low a b) (hd:b∣a*d):b∣d:=by
  have c:Nat.Coprime b.natAbs a.natAbs:=by
    have:Nat.Coprime a.natAbs b.natAbs:=h.one
    exact this.symm
  have z:=Int.natAbs_dvd_natAbs.mpr hd
  rw [Int.natAbs_mul] at z
  exact Int.natAbs_dvd_natAbs.mp (c.dvd_of_dvd_mul_left z)
theorem qhP {a b c d:Int} (h1:Low a b) (h2:Low c d) (h:a*d=c*b):a=c∧b=d:=by
  have d1:b∣d:=qfw h1 ⟨c,by rw [h,Int.mul_comm]⟩
  have d2:d∣b:=qfw h2 ⟨a,by rw [← h,Int.mul_comm]⟩
  have e:b=d:=Int.dvd_antisymm (Int.le_of_lt h1.pos) (Int.le_of_lt h2.pos) d1 d2
  subst e
  exact ⟨Int.eq_of_mul_eq_mul_right (Int.ne_of_gt h1.pos) h,rfl⟩
theorem qgJ {q r:Nu} {n m:Int} (h1:Low q.1 q.2) (h2:Low r.1 r.2) (hm:m≠0) (w1:Wo q n m) (w2:Wo r n m):q=r:=by
  unfold Wo at w1 w2
  have e:q.1*r.2=r.1*q.2:=by
    have z:m*(q.1*r.2)=m*(r.1*q.2):=by grind
    exact Int.eq_of_mul_eq_mul_left hm z
  obtain ⟨a,b⟩:=qhP h1 h2 e
  exact Prod.ext a b
theorem qqu {q:Nu} {n m:Int} (h1:Low q.1 q.2) (hm:0<m) (w:Wo q n m):q.1.natAbs≤n.natAbs∧q.2.natAbs≤m.natAbs:=by
  have e:q=red n m:=qgJ h1 (qbC hm) (Int.ne_of_gt hm) w (qet hm)
  subst e
  exact ⟨(qeG (a:=n) hm).2.1,(qeG (a:=n) hm).2.2.1⟩
theorem qkI {q r:Nu} (h1:0<q.2) (h2:0<r.2):Low (nadd q r).1 (nadd q r).2:=qbC (Int.mul_pos h1 h2)
theorem qdz {q r:Nu} (h1:0<q.2) (h2:0<r.2):Low (nmul q r).1 (nmul q r).2:=qbC (Int.mul_pos h1 h2)
theorem qph {q r:Nu} {n k m:Int} (h1:0<q.2) (h2:0<r.2) (w1:Wo q n m) (w2:Wo r k m):Wo (nadd q r) (n+k) m:=by
  have w:=qet (n:=q.1*r.2+r.1*q.2) (Int.mul_pos h1 h2)
  unfold Wo at *
  unfold nadd
  have z:(q.2*r.2)*((red (q.1*r.2+r.1*q.2) (q.2*r.2)).1*m)=(q.2*r.2)*((n+k)*(red (q.1*r.2+r.1*q.2) (q.2*r.2)).2):=by grind
  exact Int.eq_of_mul_eq_mul_left (Int.ne_of_gt (Int.mul_pos h1 h2)) z
theorem qpi {q r:Nu} {n k m l:Int} (h1:0<q.2) (h2:0<r.2) (w1:Wo q n m) (w2:Wo r k l):Wo (nmul q r) (n*k) (m*l):=by
  have w:=qet (n:=q.1*r.1) (Int.mul_pos h1 h2)
  unfold Wo at *
  unfold nmul
  have z:(q.2*r.2)*((red (q.1*r.1) (q.2*r.2)).1*(m*l))=(q.2*r.2)*((n*k)*(red (q.1*r.1) (q.2*r.2)).2):=by grind
  exact Int.eq_of_mul_eq_mul_left (Int.ne_of_gt (Int.mul_pos h1 h2)) z
theorem qnY {m:Int} (hm:0<m):red 0 m=(0,1):=qgJ (qbC hm) ⟨by decide,by decide⟩ (Int.ne_of_gt hm) (qet hm) (by unfold Wo;omega)
noncomputable def qcZ (l:List Nu):Nat→Nat
  | 0=>0
  | m+1=>if (l.getD m (1,1)).1=0 then qcZ l m else m+1
noncomputable def trim (l:List Nu):List Nu:=l.take (qcZ l l.length)
theorem qkJ (l:List Nu):∀ m,qcZ l m≤m
  | 0=>Nat.le_refl 0
  | m+1=>by
    unfold qcZ
    split
    · exact Nat.le_succ_of_le (qkJ l m)
    · exact Nat.le_refl _
theorem qhQ (l:List Nu):∀ m,qcZ l m=0∨(l.getD (qcZ l m - 1) (1,1)).1≠0
  | 0=>.inl rfl
  | m+1=>by
    unfold qcZ
    split
    · exact qhQ l m
    · rename_i h;exact .inr h
noncomputable def Nz (l:List Nu):Prop:=∀ q,l.getLast?=some q→q.1≠0
theorem qmB {l:List Nu} (h:Nz l):trim l=l:=by
  unfold trim
  have e:qcZ l l.length=l.length:=by
    cases hl:l.length with
    | zero=>rfl
    | succ m=>
      unfold qcZ
      have hm:m<l.length:=by omega
      have z:(l.getD m (1,1)).1≠0:=by
        have q:=h l[m] (by rw [List.getLast?_eq_getElem?,hl];simp [hm])
        rw [List.getD_eq_getElem?_getD,List.getElem?_eq_getElem hm]
        exact q
      rw [if_neg z]
  rw [e,List.take_length]
theorem qmC (l:List Nu):Nz (trim l):=by
  intro q hq
  unfold trim at hq
  have hle:=qkJ l l.length
  rw [List.getLast?_eq_getElem?,List.length_take,Nat.min_eq_left hle] at hq
  rcases qhQ l l.length with z | z
  · rw [z] at hq;simp at hq
  · by_cases h0:qcZ l l.length=0
    · rw [h0] at hq;simp at hq
    · rw [List.getElem?_take_of_lt (by omega)] at hq
      rw [List.getD_eq_getElem?_getD,hq] at z
      exact z
theorem qih {l:List Nu} {q:Nu} (h:q∈trim l):q∈l:=List.mem_of_mem_take h
noncomputable def qaJ (l:List Nu):Prop:=∀ q∈l,Low q.1 q.2
noncomputable def qro (n:Nat) (l:List Nu):Prop:=∀ q∈l,Bd n q.1∧Bd n q.2
noncomputable def qbe (l:List Nu) (i:Nat):Nu:=l.getD i (0,1)
theorem qqv:Low 0 1:=⟨by decide,by decide⟩
theorem qa2 {l:List Nu} (h:qaJ l) (i:Nat):Low (qbe l i).1 (qbe l i).2:=by
  unfold qbe
  rw [List.getD_eq_getElem?_getD]
  cases e:l[i]? with
  | none=>exact qqv
  | some q=>exact h q (List.mem_of_getElem? e)
end Bs
namespace Bs
noncomputable def qfp (l:List Nu):Int:=l.foldl (fun B q=>B*(q.2 / ((Int.gcd B q.2:Nat):Int))) 1
noncomputable def qdA (l:List Nu):List Int:=l.map fun q=>q.1*(qfp l / q.2)
theorem qii {B d:Int} (hB:0<B) (hd:0<d):0<B*(d / ((Int.gcd B d:Nat):Int))∧B∣B*(d / ((Int.gcd B d:Nat):Int))∧d∣B*(d / ((Int.gcd B d:Nat):Int))∧(d / ((Int.gcd B d:Nat):Int)).natAbs≤d.natAbs∧0<((Int.gcd B d:Nat):Int)∧((Int.gcd B d:Nat):Int)≤d:=by
  have g0:0<Int.gcd B d:=Int.gcd_pos_of_ne_zero_right B (by omega)
  obtain ⟨k,hk⟩:((Int.gcd B d:Nat):Int)∣d:=Int.gcd_dvd_right B d
  obtain ⟨m,hm⟩:((Int.gcd B d:Nat):Int)∣B:=Int.gcd_dvd_left B d
  have gp:(0:Int)<((Int.gcd B d:Nat):Int):=by omega
  have e:d / ((Int.gcd B d:Nat):Int)=k:=by
    have z:d / ((Int.gcd B d:Nat):Int)=(((Int.gcd B d:Nat):Int)*k) / ((Int.gcd B d:Nat):Int):=by rw [← hk]
    rw [z,Int.mul_ediv_cancel_left _ (Int.ne_of_gt gp)]
  have kp:0<k:=by
    rcases Int.lt_or_le 0 k with h | h
    · exact h
    · exfalso
      have:=Int.mul_nonneg (Int.le_of_lt gp) (show 0≤-k by omega)
      rw [Int.mul_neg] at this
      omega
  have le:((Int.gcd B d:Nat):Int)≤d:=Int.le_of_dvd hd (Int.gcd_dvd_right B d)
  refine ⟨by rw [e];exact Int.mul_pos hB kp,Int.dvd_mul_right ..,?_,?_,gp,le⟩
  · rw [e]
    refine ⟨m,?_⟩
    have z:d*m=((Int.gcd B d:Nat):Int)*k*m:=by rw [← hk]
    have z2:B*k=((Int.gcd B d:Nat):Int)*m*k:=by rw [← hm]
    rw [z,z2];grind
  · rw [e]
    have z:d.natAbs=(Int.gcd B d)*k.natAbs:=by
      have:d.natAbs=(((Int.gcd B d:Nat):Int)*k).natAbs:=by rw [← hk]
      rw [this,Int.natAbs_mul];simp
    rw [z]
    exact Nat.le_mul_of_pos_left _ g0
theorem qjh {b:Nat}:∀ (l:List Nu) (B:Int) (c:Nat),(∀ q∈l,0<q.2∧Bd b q.2)→0<B→Bd c B→
    0<l.foldl (fun B q=>B*(q.2 / ((Int.gcd B q.2:Nat):Int))) B∧B∣l.foldl (fun B q=>B*(q.2 / ((Int.gcd B q.2:Nat):Int))) B∧(∀ q∈l,q.2∣l.foldl (fun B q=>B*(q.2 / ((Int.gcd B q.2:Nat):Int))) B)∧Bd (c+b*l.length) (l.foldl (fun B q=>B*(q.2 / ((Int.gcd B q.2:Nat):Int))) B)
  | [],B,c,_,hB,bB=>⟨hB,Int.dvd_refl B,(fun _ h=>nomatch h),by simpa using bB⟩
  | q::l,B,c,h,hB,bB=>by
    obtain ⟨q0,qb⟩:=h q (List.mem_cons_self ..)
    obtain ⟨s1,s2,s3,s4,_,_⟩:=qii hB q0
    obtain ⟨r1,r2,r3,r4⟩:=qjh l (B*(q.2 / ((Int.gcd B q.2:Nat):Int))) (c+b) (fun r hr=>h r (List.mem_cons_of_mem _ hr)) s1 (bB.mul (qb.le s4))
    rw [List.foldl_cons]
    refine ⟨r1,Int.dvd_trans s2 r2,fun r hr=>?_,r4.mono (by rw [List.length_cons,Nat.mul_add,Nat.mul_one];omega)⟩
    rcases List.mem_cons.mp hr with rfl | hr
    · exact Int.dvd_trans s3 r2
    · exact r3 r hr
theorem qpj {b:Nat} {l:List Nu} (h1:qaJ l) (h2:qro b l):0<qfp l∧(∀ q∈l,q.2∣qfp l)∧Bd (1+b*l.length) (qfp l):=by
  obtain ⟨r1,_,r3,r4⟩:=qjh (b:=b) l 1 1 (fun q hq=>⟨(h1 q hq).pos,(h2 q hq).2⟩) (by decide) Bd.one
  exact ⟨r1,r3,r4⟩
theorem qhq {B d:Int} (hB:0<B) (hd:0<d):(B / d).natAbs≤B.natAbs:=by
  have h1:0≤B / d:=Int.ediv_nonneg (Int.le_of_lt hB) (Int.le_of_lt hd)
  have h2:B / d≤B:=Int.ediv_le_self d (Int.le_of_lt hB)
  omega
theorem qqw {q:Nu} {B:Int} (hd:q.2∣B):Wo q (q.1*(B / q.2)) B:=by
  unfold Wo
  rw [Int.mul_assoc,Int.ediv_mul_cancel hd]
noncomputable def ps (ns ms:List Int):Nat→Nat→Int
  | 0,_=>0
  | i+1,k=>ps ns ms i k+(if i≤k∧k - i<ms.length then ns.getD i 0*ms.getD (k - i) 0 else 0)
noncomputable def in2 (ns ms:List Int) (i j k:Nat):Int:=ps ns ms i k+(if i≤k∧k - i<j then ns.getD i 0*ms.getD (k - i) 0 else 0)
theorem qkK (ns ms:List Int) (i k:Nat):in2 ns ms i 0 k=ps ns ms i k:=by
  unfold in2;rw [if_neg (by omega)];omega
theorem qgd (ns ms:List Int) (i j k:Nat):in2 ns ms i (j+1) k=if k=i+j then in2 ns ms i j k+ns.getD i 0*ms.getD j 0 else in2 ns ms i j k:=by
  unfold in2
  by_cases h:k=i+j
  · subst h
    rw [if_pos rfl,if_pos ⟨by omega,by omega⟩,if_neg (by omega),show i+j - i=j by omega];omega
  · rw [if_neg h]
    congr 1
    by_cases h2:i≤k∧k - i<j
    · rw [if_pos h2,if_pos ⟨h2.1,by omega⟩]
    · rw [if_neg h2,if_neg (by omega)]
theorem qdh {c:Nat} {ns:List Int} (h:∀ z∈ns,Bd c z) (i:Nat):Bd c (ns.getD i 0):=by
  rw [List.getD_eq_getElem?_getD]
  cases e:ns[i]? with
  | none=>exact Nat.pow_pos (by decide)
  | some z=>exact h z (List.mem_of_getElem? e)
theorem qbP (c:Nat):Bd c 0:=Nat.pow_pos (by decide)
theorem qnZ {c d:Nat} {ns ms:List Int} (h1:∀ z∈ns,Bd c z) (h2:∀ z∈ms,Bd d z):∀ i k,Bd (c+d+i) (ps ns ms i k)
  | 0,_=>qbP _
  | i+1,k=>by
    unfold ps
    refine (qnZ h1 h2 i k).add ?_
    split
    · exact ((qdh h1 i).mul (qdh h2 (k - i))).mono (by omega)
    · exact qbP _
theorem qqx {c d:Nat} {ns ms:List Int} (h1:∀ z∈ns,Bd c z) (h2:∀ z∈ms,Bd d z) (i j k:Nat):Bd (c+d+i+1) (in2 ns ms i j k):=by
  unfold in2
  refine (qnZ h1 h2 i k).add ?_
  split
  · exact ((qdh h1 i).mul (qdh h2 (k - i))).mono (by omega)
  · exact qbP _
theorem qij {ns ms:List Int}:∀ i k,i+ms.length≤k+1→ps ns ms i k=0
  | 0,_,_=>rfl
  | i+1,k,h=>by
    unfold ps
    rw [qij i k (by omega),if_neg (by omega)];rfl
end Bs
namespace Bs
noncomputable def val (q:Nu):Rat:=(q.1:Rat) / (q.2:Rat)
theorem zdiv (x:Rat):0 / x=0:=by rw [Rat.div_def,Rat.zero_mul]
theorem qaL {z:Int} (h:z≠0):(z:Rat)≠0:=by exact_mod_cast h
theorem qe3 {q:Nu} {n m:Int} (hq:q.2≠0) (hm:m≠0) (w:Wo q n m):val q=(n:Rat) / (m:Rat):=by
  have h1:=qaL hq
  have h2:=qaL hm
  have w':(q.1:Rat)*m=n*q.2:=by unfold Wo at w;exact_mod_cast w
  unfold val
  grind
theorem qeJ {q r:Nu} (h1:Low q.1 q.2) (h2:Low r.1 r.2) (h:val q=val r):q=r:=by
  have a:=qaL (Int.ne_of_gt h1.pos)
  have b:=qaL (Int.ne_of_gt h2.pos)
  unfold val at h
  have z:(q.1:Rat)*r.2=r.1*q.2:=by grind
  have z':q.1*r.2=r.1*q.2:=by exact_mod_cast z
  obtain ⟨x,y⟩:=qhP h1 h2 z'
  exact Prod.ext x y
theorem qgK {n m:Int} (hm:0<m):val (red n m)=(n:Rat) / (m:Rat):=qe3 (Int.ne_of_gt (qbC hm).pos) (Int.ne_of_gt hm) (qet hm)
theorem qn0 {q r:Nu} (h1:0<q.2) (h2:0<r.2):val (nadd q r)=val q+val r:=by
  unfold nadd
  rw [qgK (Int.mul_pos h1 h2)]
  have a:=qaL (Int.ne_of_gt h1)
  have b:=qaL (Int.ne_of_gt h2)
  unfold val
  push_cast
  grind
theorem qge {q r:Nu} (h1:0<q.2) (h2:0<r.2):val (nmul q r)=val q*val r:=by
  unfold nmul
  rw [qgK (Int.mul_pos h1 h2)]
  have a:=qaL (Int.ne_of_gt h1)
  have b:=qaL (Int.ne_of_gt h2)
  unfold val
  push_cast
  grind
noncomputable def qb7 (n m:Int):Nu:=if m<0 then red (-n) (-m) else red n m
theorem qdB {n m:Int} (hm:m≠0):Low (qb7 n m).1 (qb7 n m).2:=by
  unfold qb7
  split
  · exact qbC (by omega)
  · exact qbC (by omega)
theorem qdC {n m:Int} (hm:m≠0):val (qb7 n m)=(n:Rat) / (m:Rat):=by
  unfold qb7
  split
  · rw [qgK (by omega)]
    have:=qaL hm
    push_cast
    grind
  · exact qgK (by omega)
theorem qn1 {n m N:Int} (hm:m≠0) (h:m∣N):(qb7 n m).2∣N:=by
  have aux:∀ {n m:Int},0<m→(red n m).2∣m:=fun {n m} h0=>by
    unfold red
    exact Int.ediv_dvd_of_dvd (Int.gcd_dvd_right n m)
  unfold qb7
  split
  · exact Int.dvd_trans (aux (by omega)) (Int.dvd_trans (Int.neg_dvd.mpr (Int.dvd_refl m)) h)
  · exact Int.dvd_trans (aux (by omega)) h
theorem qmD {c d:Nat} {n m:Int} (hm:m≠0) (h1:Bd c n) (h2:Bd d m):Bd c (qb7 n m).1∧Bd d (qb7 n m).2:=by
  have aux:∀ {n m:Int},0<m→Bd c n→Bd d m→Bd c (red n m).1∧Bd d (red n m).2:=fun {n m} h0 h1 h2=>by
    have w:=qqu (qbC h0) h0 (qet (n:=n) h0)
    exact ⟨h1.le w.1,h2.le w.2⟩
  unfold qb7
  split
  · exact aux (by omega) h1.neg h2.neg
  · exact aux (by omega) h1 h2
noncomputable def pwo (l:List Nu) (k:Nat):Rat:=val (qbe l k)
theorem qr5 {q:Nu} (h:Low q.1 q.2) (z:q.1=0):q=(0,1):=qeJ h qqv (by unfold val;rw [z];show ((0:Int):Rat) / _=((0:Int):Rat) / _;rw [show ((0:Int):Rat)=0 from rfl,zdiv,zdiv])
theorem qmE {l:List Nu} (hl:qaJ l) (k:Nat):qbe (trim l) k=qbe l k:=by
  have key:∀ (m:Nat),m≤l.length→(∀ j,m≤j→j<l.length→(qbe l j).1=0)→∀ j,qcZ l m≤j→j<l.length→(qbe l j).1=0:=by
    intro m
    induction m with
    | zero=>intro _ h j hj1 hj2;exact h j (by omega) hj2
    | succ m ih=>
      intro hm h j h1 h2
      rw [show qcZ l (m+1)=if (l.getD m (1,1)).1=0 then qcZ l m else m+1 from rfl] at h1
      split at h1
      · rename_i z
        refine ih (by omega) (fun j hj1 hj2=>?_) j h1 h2
        by_cases e:j=m
        · subst e
          unfold qbe
          rw [List.getD_eq_getElem?_getD,List.getElem?_eq_getElem hj2] at z ⊢
          exact z
        · exact h j (by omega) hj2
      · exact h j h1 h2
  unfold trim
  by_cases h1:k<qcZ l l.length
  · unfold qbe
    rw [List.getD_eq_getElem?_getD,List.getD_eq_getElem?_getD,List.getElem?_take_of_lt h1]
  · have e:qbe (l.take (qcZ l l.length)) k=(0,1):=by
      unfold qbe
      rw [List.getD_eq_getElem?_getD,List.getElem?_eq_none (by rw [List.length_take];omega)]
      rfl
    rw [e]
    by_cases h2:k<l.length
    · exact (qr5 (qa2 hl k) (key l.length (Nat.le_refl _) (fun j a b=>absurd b (by omega)) k (by omega) h2)).symm
    · unfold qbe
      rw [List.getD_eq_getElem?_getD,List.getElem?_eq_none (by omega)]
      rfl
theorem qkL {l:List Nu} {k:Nat} (h:l.length≤k):qbe l k=(0,1):=by
  unfold qbe
  rw [List.getD_eq_getElem?_getD,List.getElem?_eq_none h]
  rfl
theorem qc2 {l:List Nu} {k:Nat} (h:l.length≤k):pwo l k=0:=by
  unfold pwo
  rw [qkL h]
  exact zdiv _
theorem qoI {a b:List Nu} (nb:Nz b) (h:∀ k,qbe a k=qbe b k):b.length≤a.length:=by
  rcases Nat.lt_or_ge a.length b.length with hlt | hge
  · exfalso
    have hb:b.length - 1<b.length:=by omega
    have q:=nb b[b.length - 1] (by rw [List.getLast?_eq_getElem?];exact List.getElem?_eq_getElem hb)
    have e:=h (b.length - 1)
    rw [qkL (by omega)] at e
    unfold qbe at e
    rw [List.getD_eq_getElem?_getD,List.getElem?_eq_getElem hb] at e
    have e':((0,1):Nu)=b[b.length - 1]:=e
    rw [← e'] at q
    exact q rfl
  · exact hge
theorem qn2 {a b:List Nu} (ha:qaJ a) (hb:qaJ b) (na:Nz a) (nb:Nz b) (h:∀ k,pwo a k=pwo b k):a=b:=by
  have g:∀ k,qbe a k=qbe b k:=fun k=>qeJ (qa2 ha k) (qa2 hb k) (h k)
  have e:a.length=b.length:=Nat.le_antisymm (qoI na fun k=>(g k).symm) (qoI nb g)
  refine List.ext_getElem e fun i h1 h2=>?_
  have z:=g i
  unfold qbe at z
  rw [List.getD_eq_getElem?_getD,List.getD_eq_getElem?_getD,List.getElem?_eq_getElem h1,List.getElem?_eq_getElem h2] at z
  exact z
noncomputable def cv (f g:Nat→Rat):Nat→Nat→Rat
  | 0,_=>0
  | n+1,k=>cv f g n k+(if n≤k then f n*g (k - n) else 0)
theorem qoJ {f f' g:Nat→Rat} {s:Nat} {x:Rat} (h0:f s=0) (h1:f' s=x) (h2:∀ i,i≠s→f' i=f i):∀ n k,cv f' g n k=cv f g n k+(if s<n∧s≤k then x*g (k - s) else 0)
  | 0,k=>by unfold cv;rw [if_neg (by omega)];exact (Rat.add_zero 0).symm
  | n+1,k=>by
    unfold cv
    rw [qoJ h0 h1 h2 n k]
    by_cases e:n=s
    · subst e
      rw [h0,h1]
      by_cases hk:n≤k
      · rw [if_pos hk,if_pos hk,if_neg (by omega),if_pos ⟨by omega,hk⟩]
        grind
      · rw [if_neg hk,if_neg hk,if_neg (by omega),if_neg (by omega)]
    · rw [h2 n e]
      have e1:(s<n+1∧s≤k)↔(s<n∧s≤k):=by omega
      simp only [e1]
      grind
noncomputable def ovN (l:List Nu) (M:Int):List Int:=l.map fun q=>q.1*(M / q.2)
noncomputable def Ov (l:List Nu) (M:Int):Prop:=0<M∧∀ q∈l,q.2∣M
theorem qmF {l:List Nu} {M:Int} (i:Nat):(ovN l M).getD i 0=(qbe l i).1*(M / (qbe l i).2):=by
  unfold ovN qbe
  rw [List.getD_eq_getElem?_getD,List.getD_eq_getElem?_getD,List.getElem?_map]
  cases l[i]? with
  | none=>simp
  | some q=>rfl
theorem Ov.get {l:List Nu} {M:Int} (h:Ov l M) (i:Nat):(qbe l i).2∣M:=by
  unfold qbe
  rw [List.getD_eq_getElem?_getD]
  cases e:l[i]? with
  | none=>exact Int.one_dvd M
  | some q=>exact h.2 q (List.mem_of_getElem? e)
theorem qmG {l:List Nu} {M:Int} (h:Ov l M) (i:Nat):Wo (qbe l i) ((ovN l M).getD i 0) M:=by
  rw [qmF]
  exact qqw (h.get i)
theorem qik {l:List Nu} {M:Int} (hl:qaJ l) (h:Ov l M) (i:Nat):pwo l i=((ovN l M).getD i 0:Rat) / (M:Rat):=qe3 (Int.ne_of_gt (qa2 hl i).pos) (Int.ne_of_gt h.1) (qmG h i)
noncomputable def qlp (l m:List Nu) (M1 M2:Int) (n:Nat):List Nu:=(List.range n).map fun k=>red (ps (ovN l M1) (ovN m M2) l.length k) (M1*M2)
theorem qqy {l m:List Nu} {M1 M2:Int} (hl:qaJ l) (hm:qaJ m) (h1:Ov l M1) (h2:Ov m M2):∀ n k,(ps (ovN l M1) (ovN m M2) n k:Rat) / ((M1*M2:Int):Rat)=cv (pwo l) (pwo m) n k
  | 0,k=>zdiv _
  | n+1,k=>by
    have a:=qaL (Int.ne_of_gt h1.1)
    have b:=qaL (Int.ne_of_gt h2.1)
    have ih:=qqy hl hm h1 h2 n k
    unfold ps cv
    rw [← ih]
    by_cases hk:n≤k
    · rw [if_pos hk,qik hl h1,qik hm h2]
      by_cases h3:k - n<(ovN m M2).length
      · rw [if_pos ⟨hk,h3⟩]
        push_cast
        grind
      · rw [if_neg (by omega),show (ovN m M2).getD (k - n) 0=0 by rw [List.getD_eq_getElem?_getD,List.getElem?_eq_none (by omega)];rfl]
        push_cast
        grind
    · rw [if_neg hk,if_neg (by omega)]
      push_cast
      grind
theorem qn3 {l m:List Nu} {M1 M2:Int} {n:Nat} (h1:Ov l M1) (h2:Ov m M2):qaJ (qlp l m M1 M2 n):=by
  intro q hq
  obtain ⟨k,_,rfl⟩:=List.mem_map.mp hq
  exact qbC (Int.mul_pos h1.1 h2.1)
theorem qqz {l m:List Nu} {M1 M2:Int} (hl:qaJ l) (hm:qaJ m) (h1:Ov l M1) (h2:Ov m M2) (k:Nat):pwo (qlp l m M1 M2 (l.length+m.length)) k=cv (pwo l) (pwo m) l.length k:=by
  rw [← qqy hl hm h1 h2]
  have b0:=Int.mul_pos h1.1 h2.1
  by_cases h:k<l.length+m.length
  · have e:qbe (qlp l m M1 M2 (l.length+m.length)) k=red (ps (ovN l M1) (ovN m M2) l.length k) (M1*M2):=by
      unfold qlp qbe
      rw [List.getD_eq_getElem?_getD,List.getElem?_map,List.getElem?_range h]
      rfl
    unfold pwo
    rw [e,qgK b0]
  · rw [qc2 (by unfold qlp;rw [List.length_map,List.length_range];omega),qij l.length k (by unfold ovN;rw [List.length_map];omega)]
    exact (zdiv _).symm
theorem lcm_dvd {B d M:Int} (hB:0<B) (hd:0<d) (h1:B∣M) (h2:d∣M):B*(d / ((Int.gcd B d:Nat):Int))∣M:=by
  have z:((Nat.lcm B.natAbs d.natAbs:Nat):Int)∣M:=Int.natAbs_dvd_natAbs.mp (by rw [Int.natAbs_natCast];exact Nat.lcm_dvd (Int.natAbs_dvd_natAbs.mpr h1) (Int.natAbs_dvd_natAbs.mpr h2))
  have e:((Nat.lcm B.natAbs d.natAbs:Nat):Int)=B*(d / ((Int.gcd B d:Nat):Int)):=by
    unfold Nat.lcm
    rw [Nat.mul_div_assoc _ (Nat.gcd_dvd_right _ _)]
    push_cast
    rw [show ((B.natAbs:Nat):Int)=B by omega,show ((d.natAbs:Nat):Int)=d by omega]
    rfl
  rw [← e]
  exact z
theorem qil {M:Int}:∀ (l:List Nu) (B:Int),(∀ q∈l,0<q.2∧q.2∣M)→0<B→B∣M→0<l.foldl (fun B q=>B*(q.2 / ((Int.gcd B q.2:Nat):Int))) B∧l.foldl (fun B q=>B*(q.2 / ((Int.gcd B q.2:Nat):Int))) B∣M
  | [],B,_,hB,h=>⟨hB,h⟩
  | q::l,B,hq,hB,h=>by
    obtain ⟨q0,qd⟩:=hq q (List.mem_cons_self ..)
    obtain ⟨s1,_⟩:=qii hB q0
    exact qil l _ (fun r hr=>hq r (List.mem_cons_of_mem _ hr)) s1 (lcm_dvd hB q0 h qd)
theorem qdp {n:Nat} {a b:Int} (hb:b≠0) (h:a∣b) (bd:Bd n b):Bd n a:=bd.le (Nat.le_of_dvd (by omega) (Int.natAbs_dvd_natAbs.mpr h))
theorem qeK {l:List Nu} (hl:qaJ l):Ov l (qfp l):=by
  obtain ⟨a,b,_⟩:=qpj (b:=(l.foldl (fun n q=>n+q.1.natAbs+q.2.natAbs) 1)) hl (fun q hq=>by
    have big:∀ (l:List Nu) (n:Nat),n≤l.foldl (fun n q=>n+q.1.natAbs+q.2.natAbs) n∧∀ q∈l,q.1.natAbs+q.2.natAbs≤l.foldl (fun n q=>n+q.1.natAbs+q.2.natAbs) n:=by
      intro l
      induction l with
      | nil=>intro n;exact ⟨Nat.le_refl _,fun _ h=>nomatch h⟩
      | cons r l ih=>
        intro n
        obtain ⟨i1,i2⟩:=ih (n+r.1.natAbs+r.2.natAbs)
        rw [List.foldl_cons]
        refine ⟨by omega,fun q hq=>?_⟩
        rcases List.mem_cons.mp hq with rfl | hq
        · omega
        · exact i2 q hq
    have z:=(big l 1).2 q hq
    exact ⟨Nat.lt_of_le_of_lt (by omega) (Nat.lt_two_pow_self),Nat.lt_of_le_of_lt (by omega) (Nat.lt_two_pow_self)⟩)
  exact ⟨a,b⟩
theorem qkM {l:List Nu} {M:Int} (hl:qaJ l) (h:Ov l M):qfp l∣M:=(qil l 1 (fun q hq=>⟨(hl q hq).pos,h.2 q hq⟩) (by decide) (Int.one_dvd M)).2
theorem qjZ (l:List Nu):qdA l=ovN l (qfp l):=rfl
end Bs
namespace Bs
section
variable {α:Type} [Lean.Grind.CommRing α]
noncomputable def cvL:List α→(Nat→α)→Nat→α
  | [],_,_=>0
  | x::a,b,k=>x*b k+(match k with | 0=>0 | k+1=>cvL a b k)
theorem qaE (b:Nat→α) (k:Nat):cvL [] b k=0:=rfl
theorem qao (x:α) (a:List α) (b:Nat→α):cvL (x::a) b 0=x*b 0+0:=rfl
theorem qal (x:α) (a:List α) (b:Nat→α) (k:Nat):cvL (x::a) b (k+1)=x*b (k+1)+cvL a b k:=rfl
theorem qak {b c:Nat→α} (h:∀ k,b k=c k):∀ (a:List α) (k:Nat),cvL a b k=cvL a c k
  | [],_=>rfl
  | x::a,0=>by rw [qao,qao,h 0]
  | x::a,k+1=>by rw [qal,qal,h (k+1),qak h a k]
theorem qd6 (b c:Nat→α):∀ (a:List α) (k:Nat),cvL a (fun k=>b k+c k) k=cvL a b k+cvL a c k
  | [],_=>by rw [qaE,qaE,qaE];grind
  | x::a,0=>by rw [qao,qao,qao];grind
  | x::a,k+1=>by rw [qal,qal,qal,qd6 b c a k];grind
theorem qba (s:α) (b:Nat→α):∀ (a:List α) (k:Nat),cvL a (fun k=>s*b k) k=s*cvL a b k
  | [],_=>by rw [qaE,qaE];grind
  | x::a,0=>by rw [qao,qao];grind
  | x::a,k+1=>by rw [qal,qal,qba s b a k];grind
noncomputable def up1 (b:Nat→α):Nat→α
  | 0=>0
  | k+1=>b k
theorem qmH (b:Nat→α):∀ (a:List α) (k:Nat),cvL a (up1 b) k=up1 (cvL a b) k
  | [],0=>rfl
  | [],k+1=>rfl
  | x::a,0=>by rw [qao];show x*0+0=0;grind
  | x::a,1=>by
    rw [qal]
    have h:=qmH b a 0
    rw [h]
    show x*b 0+0=cvL (x::a) b 0
    rw [qao]
  | x::a,k+2=>by
    rw [qal,qmH b a (k+1)]
    show x*b (k+1)+cvL a b k=cvL (x::a) b (k+1)
    rw [qal]
theorem qc3 (x:α) (a:List α) (b:Nat→α) (k:Nat):cvL (x::a) b k=x*b k+up1 (cvL a b) k:=by
  cases k with
  | zero=>exact qao x a b
  | succ k=>exact qal x a b k
theorem qep (c:Nat→α):∀ (a b:List α) (k:Nat),cvL a (cvL b c) k=cvL b (cvL a c) k
  | [],b,k=>by
    rw [qaE]
    have e:cvL b (cvL [] c) k=cvL b (fun k=>0*c k) k:=qak (fun k=>by rw [qaE];grind) b k
    rw [e,qba]
    grind
  | x::a,b,k=>by
    rw [qc3]
    have e:cvL b (cvL (x::a) c) k=cvL b (fun k=>x*c k+up1 (cvL a c) k) k:=qak (fun k=>qc3 x a c k) b k
    rw [e,qd6,qba,qmH]
    have e2:up1 (cvL a (cvL b c)) k=up1 (cvL b (cvL a c)) k:=by
      cases k with
      | zero=>rfl
      | succ k=>exact qep c a b k
    rw [e2]
noncomputable def qbT:Nat→α
  | 0=>1
  | _+1=>0
theorem qcJ:∀ (a:List α) (k:Nat),cvL a qbT k=a.getD k 0
  | [],k=>by rw [qaE];simp
  | x::a,0=>by rw [qao];show x*1+0=x;grind
  | x::a,k+1=>by
    rw [qal,qcJ a k]
    show x*0+a.getD k 0=(x::a).getD (k+1) 0
    rw [List.getD_cons_succ]
    grind
end
end Bs
namespace Bs
theorem qj0 {n k:Nat}:k∣2 ^ n↔∃ a,a≤n∧k=2 ^ a:=by
  constructor
  · induction n generalizing k with
    | zero=>intro h;exact ⟨0,Nat.le_refl 0,by simpa using h⟩
    | succ n ih=>
      intro h
      by_cases h2:2∣k
      · obtain ⟨j,rfl⟩:=h2
        rw [Nat.pow_succ,Nat.mul_comm (2 ^ n) 2] at h
        obtain ⟨a,ha,e⟩:=ih (Nat.dvd_of_mul_dvd_mul_left (by decide) h)
        exact ⟨a+1,by omega,by rw [e,Nat.pow_succ,Nat.mul_comm]⟩
      · have c:Nat.Coprime k 2:=by
          have:Nat.gcd k 2∣2:=Nat.gcd_dvd_right k 2
          have h3:=Nat.le_of_dvd (by decide) this
          have h4:Nat.gcd k 2≠2:=fun z=>h2 (by rw [← z];exact Nat.gcd_dvd_left k 2)
          have h5:Nat.gcd k 2≠0:=fun z=>by have:=Nat.eq_zero_of_gcd_eq_zero_right z;omega
          show Nat.gcd k 2=1
          omega
        rw [Nat.pow_succ] at h
        obtain ⟨a,ha,e⟩:=ih (c.dvd_of_dvd_mul_right h)
        exact ⟨a,by omega,e⟩
  · rintro ⟨a,ha,rfl⟩
    exact Nat.pow_dvd_pow 2 ha
structure Pr (p:Nat):Prop where
  two:2≤p
  div:∀ d,d∣p→d=1∨d=p
theorem Pr.cop {p:Nat} (h:Pr p) {a:Nat} (ha:¬ p∣a):Nat.gcd a p=1:=by
  rcases h.div _ (Nat.gcd_dvd_right a p) with e | e
  · exact e
  · exact absurd (e ▸ Nat.gcd_dvd_left a p) ha
theorem Pr.mul {p:Nat} (h:Pr p) {a b:Nat} (hd:p∣a*b):p∣a∨p∣b:=by
  by_cases ha:p∣a
  · exact .inl ha
  · refine .inr (Nat.Coprime.dvd_of_dvd_mul_left (k:=p) (m:=a) ?_ hd)
    have:=h.cop ha
    rw [Nat.gcd_comm] at this
    exact this
theorem Pr.mulI {p:Nat} (h:Pr p) {a b:Int} (hd:(p:Int)∣a*b):(p:Int)∣a∨(p:Int)∣b:=by
  have z:=Int.natAbs_dvd_natAbs.mpr hd
  rw [Int.natAbs_mul,Int.natAbs_natCast] at z
  rcases h.mul z with e | e
  · exact .inl (Int.natAbs_dvd_natAbs.mp (by rw [Int.natAbs_natCast];exact e))
  · exact .inr (Int.natAbs_dvd_natAbs.mp (by rw [Int.natAbs_natCast];exact e))
theorem qji {m:Nat} (hm:2≤m):∃ q,Pr q∧q∣m∧(q=m∨q*q≤m):=by
  have key:∀ n d,2≤d→(∀ e,2≤e→e<d→¬ e∣m)→m=d+n→∃ q,2≤q∧q∣m∧∀ e,2≤e→e<q→¬ e∣m:=by
    intro n
    induction n with
    | zero=>intro d hd h e;exact ⟨d,hd,by rw [e];exact Nat.dvd_refl _,h⟩
    | succ n ih=>
      intro d hd h e
      by_cases hdm:d∣m
      · exact ⟨d,hd,hdm,h⟩
      · refine ih (d+1) (by omega) (fun x hx hx2=>?_) (by omega)
        by_cases hxd:x=d
        · rw [hxd];exact hdm
        · exact h x hx (by omega)
  obtain ⟨q,q2,qm,ql⟩:=key (m - 2) 2 (Nat.le_refl 2) (fun e h1 h2=>absurd h2 (by omega)) (by omega)
  refine ⟨q,⟨q2,fun d hd=>?_⟩,qm,?_⟩
  · by_cases h2:2≤d
    · right
      rcases Nat.lt_or_ge d q with h | h
      · exact absurd (Nat.dvd_trans hd qm) (ql d h2 h)
      · exact Nat.le_antisymm (Nat.le_of_dvd (by omega) hd) h
    · left
      have:d≠0:=fun z=>by rw [z] at hd;have:=Nat.eq_zero_of_zero_dvd hd;omega
      omega
  · obtain ⟨k,hk⟩:=qm
    by_cases k1:k≤1
    · left
      have:k=1:=by
        rcases Nat.eq_zero_or_pos k with z | z
        · rw [z] at hk;omega
        · omega
      rw [hk,this,Nat.mul_one]
    · right
      rcases Nat.lt_or_ge k q with h | h
      · exact absurd ⟨q,by rw [hk,Nat.mul_comm]⟩ (ql k (by omega) h)
      · rw [hk];exact Nat.mul_le_mul_left q h
theorem pigeon:∀ (n m:Nat) (f:Nat→Nat),(∀ i,i<m→f i<n)→(∀ i j,i<m→j<m→f i=f j→i=j)→m≤n
  | 0,m,f,h,_=>by
    rcases Nat.eq_zero_or_pos m with z | z
    · omega
    · exact absurd (h 0 z) (by omega)
  | n+1,0,_,_,_=>by omega
  | n+1,m+1,f,h,inj=>by
    have:=pigeon n m (fun i=>if f i=n then f m else f i) (fun i hi=>by
      show (if f i=n then f m else f i)<n
      by_cases e:f i=n
      · rw [if_pos e]
        have h1:=h m (Nat.lt_succ_self m)
        have:f m≠n:=fun z=>absurd (inj i m (by omega) (by omega) (by rw [e,z])) (by omega)
        omega
      · rw [if_neg e]
        have h1:=h i (by omega)
        omega) (fun i j hi hj e=>by
      have e:(if f i=n then f m else f i)=(if f j=n then f m else f j):=e
      by_cases ei:f i=n
      · rw [if_pos ei] at e
        by_cases ej:f j=n
        · exact inj i j (by omega) (by omega) (by rw [ei,ej])
        · rw [if_neg ej] at e
          exact absurd (inj m j (by omega) (by omega) e) (by omega)
      · rw [if_neg ei] at e
        by_cases ej:f j=n
        · rw [if_pos ej] at e
          exact absurd (inj i m (by omega) (by omega) e) (by omega)
        · rw [if_neg ej] at e
          exact inj i j (by omega) (by omega) e)
    omega
noncomputable abbrev Rt:=Int×Int
noncomputable def rmul (q:Int) (x y:Rt):Rt:=((x.1*y.1+3*(x.2*y.2)) % q,(x.1*y.2+x.2*y.1) % q)
noncomputable def rpow (q:Int):Nat→Rt
  | 0=>(1 % q,0 % q)
  | n+1=>rmul q (2,1) (rpow q n)
theorem qbG {q a b c:Int} (h:a - b=q*c):a % q=b % q:=by
  have:a=b+q*c:=by omega
  rw [this,Int.add_mul_emod_self_left]
theorem em {a q:Int}:∃ c,a % q=a - q*c:=⟨a / q,by have:=Int.emod_add_mul_ediv a q;omega⟩
theorem qcB (q:Int) (x y z:Rt):rmul q (rmul q x y) z=rmul q x (rmul q y z):=by
  obtain ⟨a,b⟩:=x
  obtain ⟨c,d⟩:=y
  obtain ⟨e,f⟩:=z
  obtain ⟨c1,h1⟩:=em (a:=a*c+3*(b*d)) (q:=q)
  obtain ⟨c2,h2⟩:=em (a:=a*d+b*c) (q:=q)
  obtain ⟨c3,h3⟩:=em (a:=c*e+3*(d*f)) (q:=q)
  obtain ⟨c4,h4⟩:=em (a:=c*f+d*e) (q:=q)
  refine Prod.ext ?_ ?_
  · show ((a*c+3*(b*d)) % q*e+3*((a*d+b*c) % q*f)) % q=(a*((c*e+3*(d*f)) % q)+3*(b*((c*f+d*e) % q))) % q
    rw [h1,h2,h3,h4]
    exact qbG (c:=a*c3+3*b*c4 - c1*e - 3*c2*f) (by grind)
  · show ((a*c+3*(b*d)) % q*f+((a*d+b*c) % q*e)) % q=(a*((c*f+d*e) % q)+(b*((c*e+3*(d*f)) % q))) % q
    rw [h1,h2,h3,h4]
    exact qbG (c:=a*c4+b*c3 - c1*f - c2*e) (by grind)
theorem qmI (q:Int) (x y:Rt):rmul q x y=rmul q y x:=by
  refine Prod.ext ?_ ?_
  · show (x.1*y.1+3*(x.2*y.2)) % q=(y.1*x.1+3*(y.2*x.2)) % q
    congr 1;grind
  · show (x.1*y.2+x.2*y.1) % q=(y.1*x.2+y.2*x.1) % q
    congr 1;grind
noncomputable def rn (q:Int) (x:Rt):Prop:=x.1 % q=x.1∧x.2 % q=x.2
theorem qpk (q:Int) (x y:Rt):rn q (rmul q x y):=⟨Int.emod_emod ..,Int.emod_emod ..⟩
theorem qeL (q:Int):∀ n,rn q (rpow q n)
  | 0=>⟨Int.emod_emod ..,Int.emod_emod ..⟩
  | _+1=>qpk q _ _
theorem rone (q:Int) {x:Rt} (h:rn q x):rmul q (rpow q 0) x=x:=by
  obtain ⟨c1,h1⟩:=em (a:=1) (q:=q)
  obtain ⟨c2,h2⟩:=em (a:=0) (q:=q)
  refine Prod.ext ?_ ?_
  · show (1 % q*x.1+3*(0 % q*x.2)) % q=x.1
    rw [h1,h2,← h.1]
    rw [qbG (b:=x.1 % q) (c:=- c1*(x.1 % q) - 3*c2*x.2) (by grind),Int.emod_emod]
  · show (1 % q*x.2+0 % q*x.1) % q=x.2
    rw [h1,h2,← h.2]
    rw [qbG (b:=x.2 % q) (c:=- c1*(x.2 % q) - c2*x.1) (by grind),Int.emod_emod]
theorem qdD (q:Int):∀ m n,rpow q (m+n)=rmul q (rpow q m) (rpow q n)
  | 0,n=>by rw [Nat.zero_add,rone q (qeL q n)]
  | m+1,n=>by
    rw [Nat.succ_add]
    show rmul q (2,1) (rpow q (m+n))=rmul q (rmul q (2,1) (rpow q m)) (rpow q n)
    rw [qdD q m n,qcB]
noncomputable def rinv (q:Int):Nat→Rt
  | 0=>(1 % q,0 % q)
  | n+1=>rmul q (2,-1) (rinv q n)
theorem r21 (q:Int):rmul q (2,-1) (2,1)=rpow q 0:=by
  refine Prod.ext ?_ ?_
  · show (2*2+3*(-1*1)) % q=1 % q;rfl
  · show (2*1 + -1*2) % q=0 % q;rfl
theorem qkN (q:Int):∀ n,rmul q (rinv q n) (rpow q n)=rpow q 0
  | 0=>rone q (qeL q 0)
  | n+1=>by
    show rmul q (rmul q (2,-1) (rinv q n)) (rmul q (2,1) (rpow q n))=_
    rw [qcB,← qcB q (rinv q n),qmI q (rinv q n) (2,1),qcB q (2,1),qkN q n,← qcB,r21,rone q (qeL q 0)]
theorem qim (q:Int) {m:Nat} (h:rpow q m=rpow q 0):∀ k,rpow q (m*k)=rpow q 0
  | 0=>rfl
  | k+1=>by rw [Nat.mul_succ,qdD,qim q h k,h,rone q (qeL q 0)]
theorem rord (q:Int) {n:Nat} (h1:rpow q (2 ^ (n+1))=rpow q 0) (h2:rpow q (2 ^ n)≠rpow q 0):∀ d,0<d→d<2 ^ (n+1)→rpow q d≠rpow q 0:=by
  intro d
  induction d using Nat.strongRecOn with
  | _ d ih=>
  intro d0 hd e
  have hr:=Nat.mod_lt (2 ^ (n+1)) d0
  have er:rpow q (2 ^ (n+1) % d)=rpow q 0:=by
    have e1:=Nat.div_add_mod (2 ^ (n+1)) d
    rw [← e1,qdD,qim q e,rone q (qeL q _)] at h1
    exact h1
  rcases Nat.eq_zero_or_pos (2 ^ (n+1) % d) with z | z
  · obtain ⟨k,hk⟩:=Nat.dvd_of_mod_eq_zero z
    obtain ⟨a,ha,hka⟩:=(qj0 (n:=n+1) (k:=d)).mp ⟨k,hk⟩
    have hlt:a≤n:=by
      rcases Nat.lt_or_ge n a with h | h
      · exfalso
        have:a=n+1:=by omega
        rw [this] at hka
        omega
      · exact h
    apply h2
    have e2:2 ^ n=d*2 ^ (n - a):=by rw [hka,← Nat.pow_add];congr 1;omega
    rw [e2]
    exact qim q e _
  · exact ih _ hr z (by omega) er
theorem rnorm (q:Int):∀ n,∃ c,(rpow q n).1*(rpow q n).1 - 3*((rpow q n).2*(rpow q n).2) - 1=q*c
  | 0=>by
    obtain ⟨c1,h1⟩:=em (a:=1) (q:=q)
    obtain ⟨c2,h2⟩:=em (a:=0) (q:=q)
    refine ⟨-2*c1+q*c1*c1 - 3*q*c2*c2,?_⟩
    show (1 % q)*(1 % q) - 3*((0 % q)*(0 % q)) - 1=_
    rw [h1,h2];grind
  | n+1=>by
    obtain ⟨c,hc⟩:=rnorm q n
    obtain ⟨c1,h1⟩:=em (a:=2*(rpow q n).1+3*(1*(rpow q n).2)) (q:=q)
    obtain ⟨c2,h2⟩:=em (a:=2*(rpow q n).2+1*(rpow q n).1) (q:=q)
    have e1:(rpow q (n+1)).1=2*(rpow q n).1+3*(1*(rpow q n).2) - q*c1:=h1
    have e2:(rpow q (n+1)).2=2*(rpow q n).2+1*(rpow q n).1 - q*c2:=h2
    rw [e1,e2]
    generalize (rpow q n).1=a at *
    generalize (rpow q n).2=b at *
    exact ⟨c - 2*c1*(2*a+3*b)+q*c1*c1+6*c2*(2*b+a) - 3*q*c2*c2,by grind⟩
theorem qpl (q:Int) (n:Nat):∃ c,2*(rpow q (n+n)).1=(2*(rpow q n).1)*(2*(rpow q n).1) - 2+q*c:=by
  obtain ⟨c,hc⟩:=rnorm q n
  rw [qdD]
  obtain ⟨c1,h1⟩:=em (a:=(rpow q n).1*(rpow q n).1+3*((rpow q n).2*(rpow q n).2)) (q:=q)
  refine ⟨-2*c1 - 2*c,?_⟩
  show 2*(((rpow q n).1*(rpow q n).1+3*((rpow q n).2*(rpow q n).2)) % q)=_
  rw [h1];grind
noncomputable def ll (M:Nat):Nat→Nat→Nat
  | 0,s=>s
  | k+1,s=>ll M k ((s*s+(M - 2)) % M)
theorem qmJ {q:Int} {M:Nat} (hM:2≤M) (hq:q∣(M:Int)):∀ (k t s:Nat),q∣2*(rpow q (2 ^ t)).1 - (s:Int)→q∣2*(rpow q (2 ^ (t+k))).1 - (ll M k s:Int)
  | 0,t,s,h=>h
  | k+1,t,s,h=>by
    have:=qmJ hM hq k (t+1) ((s*s+(M - 2)) % M) (by
      obtain ⟨c,hc⟩:=qpl q (2 ^ t)
      obtain ⟨d,hd⟩:=h
      obtain ⟨m,hm⟩:=hq
      have e:(2:Nat) ^ (t+1)=2 ^ t+2 ^ t:=by rw [Nat.pow_succ];omega
      rw [e,hc]
      have z:(((s*s+(M - 2)) % M:Nat):Int)=(s:Int)*s+(M - 2) - M*(((s*s+(M - 2)) / M:Nat):Int):=by
        have:=Nat.mod_add_div (s*s+(M - 2)) M
        have z2:(((s*s+(M - 2)) % M:Nat):Int)+(M:Int)*(((s*s+(M - 2)) / M:Nat):Int)=(s:Int)*s+(M - 2):=by
          have:=congrArg (fun x:Nat=>(x:Int)) this
          simp only [Int.natCast_add,Int.natCast_mul] at this
          rw [this,Int.natCast_sub hM]
          rfl
        omega
      rw [z]
      generalize (((s*s+(M - 2)) / M:Nat):Int)=w
      generalize (rpow q (2 ^ t)).1=a at hd
      have hd':2*a=s+q*d:=by omega
      rw [hd',hm]
      exact ⟨2*s*d+q*d*d+c - m+m*w,by grind⟩)
    rw [show t+(k+1)=t+1+k by omega]
    exact this
theorem qn4 {n:Nat} (h:ll (2 ^ (n+2) - 1) n 4 % (2 ^ (n+2) - 1)=0):Pr (2 ^ (n+2) - 1):=by
  have big:4≤2 ^ (n+2):=by rw [Nat.pow_add];have:=Nat.one_le_two_pow (n:=n);omega
  generalize hM:2 ^ (n+2) - 1=M at h ⊢
  obtain ⟨q,pq,qM,hq⟩:=qji (m:=M) (by omega)
  rcases hq with e | hq
  · rw [← e];exact pq
  exfalso
  have qI:(q:Int)∣(M:Int):=Int.natCast_dvd_natCast.mpr qM
  have q2:=pq.two
  have odd:q≠2:=fun z=>by
    rw [z] at qM
    have:2 ^ (n+2)=2*2 ^ (n+1):=by rw [Nat.pow_succ 2 (n+1)];omega
    omega
  have s0:(q:Int)∣2*(rpow q (2 ^ (0+n))).1 - (ll M n 4:Int):=qmJ (by omega) qI n 0 4 (by
    show (q:Int)∣2*(rmul q (2,1) (rpow q 0)).1 - 4
    obtain ⟨c1,h1⟩:=em (a:=1) (q:=(q:Int))
    obtain ⟨c2,h2⟩:=em (a:=0) (q:=(q:Int))
    show (q:Int)∣2*((2*(1 % (q:Int))+3*(1*(0 % (q:Int)))) % (q:Int)) - 4
    obtain ⟨c3,h3⟩:=em (a:=2*(1 % (q:Int))+3*(1*(0 % (q:Int)))) (q:=(q:Int))
    rw [h3,h1,h2]
    exact ⟨-4*c1 - 6*c2 - 2*c3,by grind⟩)
  have s1:(q:Int)∣(ll M n 4:Int):=Int.natCast_dvd_natCast.mpr (Nat.dvd_trans qM (Nat.dvd_of_mod_eq_zero h))
  have s2:(q:Int)∣2*(rpow q (2 ^ n)).1:=by
    have:=Int.dvd_add s0 s1
    rw [Nat.zero_add] at this
    rw [Int.sub_add_cancel] at this
    exact this
  have s3:(q:Int)∣(rpow q (2 ^ n)).1:=by
    rcases pq.mulI s2 with z | z
    · exfalso
      have z2:=Int.natCast_dvd_natCast.mp (show (q:Int)∣((2:Nat):Int) from z)
      have:=Nat.le_of_dvd (by decide) z2
      omega
    · exact z
  have qne:(q:Int)≠0:=by omega
  have m1:rpow q (2 ^ (n+1))=((-1) % (q:Int),0 % (q:Int)):=by
    have e:(2:Nat) ^ (n+1)=2 ^ n+2 ^ n:=by rw [Nat.pow_succ];omega
    rw [e,qdD]
    obtain ⟨c,hc⟩:=rnorm q (2 ^ n)
    obtain ⟨d,hd⟩:=s3
    refine Prod.ext ?_ ?_
    · show ((rpow q (2 ^ n)).1*(rpow q (2 ^ n)).1+3*((rpow q (2 ^ n)).2*(rpow q (2 ^ n)).2)) % (q:Int)=(-1) % (q:Int)
      refine qbG (c:=2*q*d*d - c) ?_
      generalize (rpow q (2 ^ n)).2=b at *
      rw [hd] at hc ⊢
      grind
    · show ((rpow q (2 ^ n)).1*(rpow q (2 ^ n)).2+(rpow q (2 ^ n)).2*(rpow q (2 ^ n)).1) % (q:Int)=0 % (q:Int)
      refine qbG (c:=2*d*(rpow q (2 ^ n)).2) ?_
      rw [hd];grind
  have h2:rpow q (2 ^ (n+1))≠rpow q 0:=fun z=>by
    rw [m1] at z
    have z1:(-1) % (q:Int)=1 % (q:Int):=congrArg Prod.fst z
    have z2:(q:Int)∣-1 - 1:=Int.dvd_of_emod_eq_zero ((Int.emod_eq_emod_iff_emod_sub_eq_zero).mp z1)
    have z3:=Int.natAbs_dvd_natAbs.mpr z2
    have:=Nat.le_of_dvd (by decide) z3
    rw [Int.natAbs_natCast] at this
    have:(-1 - 1:Int).natAbs=2:=by decide
    omega
  have h1:rpow q (2 ^ (n+1+1))=rpow q 0:=by
    have e:(2:Nat) ^ (n+1+1)=2 ^ (n+1)+2 ^ (n+1):=by rw [Nat.pow_succ 2 (n+1)];omega
    rw [e,qdD,m1]
    obtain ⟨c1,e1⟩:=em (a:=-1) (q:=(q:Int))
    obtain ⟨c2,e2⟩:=em (a:=0) (q:=(q:Int))
    refine Prod.ext ?_ ?_
    · show ((-1) % (q:Int)*((-1) % (q:Int))+3*(0 % (q:Int)*(0 % (q:Int)))) % (q:Int)=1 % (q:Int)
      refine qbG (c:=2*c1+q*c1*c1+3*q*c2*c2) ?_
      rw [e1,e2];grind
    · show ((-1) % (q:Int)*(0 % (q:Int))+0 % (q:Int)*((-1) % (q:Int))) % (q:Int)=0 % (q:Int)
      refine qbG (c:=2*c2+2*q*c1*c2) ?_
      rw [e1,e2];grind
  have ord:=rord (q:Int) h1 h2
  have ne:∀ i d,0<d→i+d<2 ^ (n+2)→rpow q i≠rpow q (i+d):=fun i d d0 hd z=>by
    have e:rpow q d=rpow q 0:=by
      have a:=qkN (q:Int) i
      have b:rmul q (rinv q i) (rpow q (i+d))=rpow q d:=by
        rw [qdD,← qcB,a,rone _ (qeL _ _)]
      rw [← b,← z,a]
    exact ord d d0 (by have:(2:Nat) ^ (n+1+1)=2 ^ (n+2):=rfl;omega) e
  have lt:∀ i,0≤(rpow q i).1∧(rpow q i).1<q∧0≤(rpow q i).2∧(rpow q i).2<q:=fun i=>by
    obtain ⟨a,b⟩:=qeL (q:Int) i
    have p0:(0:Int)<q:=by omega
    have u1:=Int.emod_nonneg (rpow q i).1 qne
    have u2:=Int.emod_lt_of_pos (rpow q i).1 p0
    have u3:=Int.emod_nonneg (rpow q i).2 qne
    have u4:=Int.emod_lt_of_pos (rpow q i).2 p0
    rw [a] at u1 u2
    rw [b] at u3 u4
    exact ⟨u1,u2,u3,u4⟩
  have pg:=pigeon (q*q) (2 ^ (n+2)) (fun i=>(rpow q i).1.toNat*q+(rpow q i).2.toNat) (fun i _=>by
    obtain ⟨a,b,c,d⟩:=lt i
    have a':(rpow q i).1.toNat+1≤q:=by omega
    have d':(rpow q i).2.toNat<q:=by omega
    have:=Nat.mul_le_mul_right q a'
    rw [Nat.add_mul,Nat.one_mul] at this
    show (rpow q i).1.toNat*q+(rpow q i).2.toNat<q*q
    omega) (fun i j hi hj e=>by
    have e:(rpow q i).1.toNat*q+(rpow q i).2.toNat=(rpow q j).1.toNat*q+(rpow q j).2.toNat:=e
    obtain ⟨a,b,c,d⟩:=lt i
    obtain ⟨a',b',c',d'⟩:=lt j
    have m1:=congrArg (· % q) e
    have m2:=congrArg (· / q) e
    simp only [Nat.mul_comm _ q,Nat.mul_add_mod,Nat.mul_add_div (show 0<q by omega)] at m1 m2
    rw [Nat.mod_eq_of_lt (by omega),Nat.mod_eq_of_lt (by omega)] at m1
    rw [Nat.div_eq_of_lt (by omega),Nat.div_eq_of_lt (by omega)] at m2
    have ee:rpow q i=rpow q j:=Prod.ext (by omega) (by omega)
    rcases Nat.lt_trichotomy i j with h | h | h
    · exact absurd ee (by have:=ne i (j - i) (by omega) (by omega);rw [show i+(j - i)=j by omega] at this;exact this)
    · exact h
    · exact absurd ee.symm (by have:=ne j (i - j) (by omega) (by omega);rw [show j+(i - j)=i by omega] at this;exact this))
  omega
end Bs
namespace Bs
noncomputable def llk (M k s:Nat):Nat:=Nat.rec (motive:=fun _=>Nat→Nat) (fun s=>s) (fun _ ih s=>ih ((s*s+(M - 2)) % M)) k s
noncomputable def llf (x:Nat) (f:Nat→Nat):Nat:=Nat.rec (motive:=fun _=>Nat) (f 0) (fun n _=>f (n+1)) x
noncomputable def llo (M k j s:Nat):Nat:=Nat.rec (motive:=fun _=>Nat→Nat) (fun s=>s) (fun _ ih s=>llf (llk M k s) ih) j s
theorem qmK (M:Nat):∀ k s,llk M k s=ll M k s
  | 0,_=>rfl
  | k+1,s=>qmK M k _
theorem qoK (x:Nat) (f:Nat→Nat):llf x f=f x:=by cases x <;> rfl
theorem qmL (M:Nat):∀ a b s,ll M (a+b) s=ll M b (ll M a s)
  | 0,b,s=>by rw [Nat.zero_add];rfl
  | a+1,b,s=>by rw [Nat.succ_add];exact qmL M a b _
theorem qoL (M k:Nat):∀ j s,llo M k j s=ll M (k*j) s
  | 0,_=>rfl
  | j+1,s=>by
    show llf (llk M k s) (llo M k j)=_
    rw [qoK,qmK,qoL M k j,← qmL]
    congr 1
    rw [Nat.mul_succ,Nat.add_comm]
noncomputable def mers (e:Nat):Nat:=2 ^ e - 1
theorem qc4 {n r k j:Nat} (e:n=k*j+r) (h:Nat.beq (llf (llo (mers (n+2)) k j 4) (fun s=>llk (mers (n+2)) r s % mers (n+2))) 0=true):Pr (mers (n+2)):=by
  refine qn4 ?_
  replace h:=Nat.eq_of_beq_eq_true h
  rw [qoK,qoL,qmK,← qmL,← e] at h
  exact h
theorem qr6:Pr (mers 61):=qc4 (n:=59) (r:=9) (k:=10) (j:=5) rfl (by decide +kernel)
theorem qrp:Pr (mers 127):=qc4 (n:=125) (r:=5) (k:=20) (j:=6) rfl (by decide +kernel)
theorem qrq:Pr (mers 521):=qc4 (n:=519) (r:=19) (k:=50) (j:=10) rfl (by decide +kernel)
theorem qqA:Pr (mers 1279):=qc4 (n:=1277) (r:=77) (k:=100) (j:=12) rfl (by decide +kernel)
theorem qqB:Pr (mers 4423):=qc4 (n:=4421) (r:=21) (k:=100) (j:=44) rfl (by decide +kernel)
theorem qqC:Pr (mers 9941):=qc4 (n:=9939) (r:=39) (k:=100) (j:=99) rfl (by decide +kernel)
theorem qpm:Pr (mers 21701):=qc4 (n:=21699) (r:=99) (k:=150) (j:=144) rfl (by decide +kernel)
theorem qpn:Pr (mers 44497):=qc4 (n:=44495) (r:=95) (k:=200) (j:=222) rfl (by decide +kernel)
end Bs
namespace Bs
noncomputable def co (ns:List Int) (k:Nat):Int:=ns.getD k 0
section
variable {α:Type} [Lean.Grind.CommRing α]
noncomputable def qa5:List α→List α→List α
  | [],b=>b
  | a,[]=>a
  | x::a,y::b=>(x+y)::qa5 a b
theorem qgL (a:List α):qa5 a []=a:=by cases a <;> rfl
theorem qax (g:Nat→α):∀ (a b:List α) (k:Nat),cvL (qa5 a b) g k=cvL a g k+cvL b g k
  | [],b,k=>by show cvL b g k=0+cvL b g k;grind
  | x::a,[],k=>by rw [qgL,qaE];grind
  | x::a,y::b,0=>by show cvL ((x+y)::qa5 a b) g 0=_;rw [qao,qao,qao];grind
  | x::a,y::b,k+1=>by show cvL ((x+y)::qa5 a b) g (k+1)=_;rw [qal,qal,qal,qax g a b k];grind
theorem qat (c:α) (g:Nat→α):∀ (a:List α) (k:Nat),cvL (a.map (c*·)) g k=c*cvL a g k
  | [],k=>by show (0:α)=c*0;grind
  | x::a,0=>by rw [List.map_cons,qao,qao];grind
  | x::a,k+1=>by rw [List.map_cons,qal,qal,qat c g a k];grind
noncomputable def upS (s:Nat) (f:Nat→α) (k:Nat):α:=if s≤k then f (k - s) else 0
theorem qcK (g:Nat→α):∀ (s:Nat) (a:List α) (k:Nat),cvL (List.replicate s 0++a) g k=upS s (cvL a g) k
  | 0,a,k=>by unfold upS;rw [if_pos (Nat.zero_le k)];rfl
  | s+1,a,0=>by unfold upS;rw [if_neg (by omega)];show cvL (0::(List.replicate s 0++a)) g 0=0;rw [qao];grind
  | s+1,a,k+1=>by
    show cvL (0::(List.replicate s 0++a)) g (k+1)=_
    rw [qal,qcK g s a k]
    unfold upS
    by_cases h:s≤k
    · rw [if_pos h,if_pos (by omega),show k+1 - (s+1)=k - s by omega];grind
    · rw [if_neg h,if_neg (by omega)];grind
noncomputable def qaW:List α→List α→List α
  | [],_=>[]
  | x::a,b=>qa5 (b.map (x*·)) (0::qaW a b)
theorem qaq (g:Nat→α):∀ (a b:List α) (k:Nat),cvL (qaW a b) g k=cvL a (cvL b g) k
  | [],b,k=>rfl
  | x::a,b,k=>by
    show cvL (qa5 (b.map (x*·)) (0::qaW a b)) g k=_
    rw [qax,qat,qc3,qc3]
    have e:up1 (cvL (qaW a b) g) k=up1 (cvL a (cvL b g)) k:=by
      cases k with
      | zero=>rfl
      | succ k=>exact qaq g a b k
    rw [e]
    grind
theorem qbn (g:Nat→α) (s:α):∀ (a:List α) (k:Nat),cvL (a++[s]) g k=cvL a g k+s*upS a.length g k
  | [],0=>by show cvL [s] g 0=0+s*g 0;rw [qao];grind
  | [],k+1=>by show cvL [s] g (k+1)=0+s*g (k+1);rw [qal,qaE];grind
  | x::a,0=>by show cvL (x::(a++[s])) g 0=_;rw [qao,qao];unfold upS;rw [if_neg (by simp)];grind
  | x::a,k+1=>by
    show cvL (x::(a++[s])) g (k+1)=_
    rw [qal,qal,qbn g s a k]
    have e:upS (x::a).length g (k+1)=upS a.length g k:=by
      unfold upS
      rw [List.length_cons]
      by_cases h:a.length≤k
      · rw [if_pos h,if_pos (by omega),show k+1 - (a.length+1)=k - a.length by omega]
      · rw [if_neg h,if_neg (by omega)]
    rw [e];grind
theorem qcb (a:List α) {g:Nat→α} (h:∀ k,g k=0) (k:Nat):cvL a g k=0:=by
  rw [qak (c:=fun k=>0*g k) (fun j=>by rw [h j];grind) a k,qba]
  grind
end
theorem qcc (a:List Int) (k:Nat):co a k=cvL a qbT k:=(qcJ a k).symm
theorem qbv (a b:List Int) (k:Nat):cvL a (co b) k=cvL b (co a) k:=by
  rw [qak (qcc b) a k,qep,qak (fun j=>(qcc a j).symm) b k]
theorem qaz {a:List Int} {k:Nat} (h:a.length≤k):co a k=0:=by
  unfold co;rw [List.getD_eq_getElem?_getD,List.getElem?_eq_none h];rfl
theorem qb8 {g:Nat→Int} {n:Nat} (h:∀ i,n≤i→g i=0):∀ (a:List Int) (k:Nat),a.length+n≤k+1→cvL a g k=0
  | [],_,_=>rfl
  | x::a,0,hk=>by
    rw [List.length_cons] at hk
    rw [qao,h 0 (by omega)];omega
  | x::a,k+1,hk=>by
    rw [List.length_cons] at hk
    rw [qal,h (k+1) (by omega),qb8 h a k (by omega)];omega
theorem qin {p:Int} {g:Nat→Int} {n:Nat} (h:∀ i,n<i→p∣g i):∀ (a:List Int) (k:Nat),a.length+n≤k→p∣cvL a g k
  | [],_,_=>Int.dvd_zero p
  | x::a,0,hk=>absurd hk (by rw [List.length_cons];omega)
  | x::a,k+1,hk=>by
    rw [List.length_cons] at hk
    rw [qal]
    exact Int.dvd_add (Int.dvd_mul_of_dvd_right (h (k+1) (by omega))) (qin h a k (by omega))
theorem qe4 {p:Nat} (hp:Pr p) {g:Nat→Int} {n:Nat} (h0:¬ (p:Int)∣g n) (h:∀ i,n<i→(p:Int)∣g i) (S:List Int) :
    (∀ k,n≤k→(p:Int)∣cvL S g k)→∀ s∈S,(p:Int)∣s:=by
  induction hl:S.length generalizing S with
  | zero=>intro _ s hs;rw [List.length_eq_zero_iff.mp hl] at hs;exact nomatch hs
  | succ m ih=>
    intro hk
    have ne:S≠[]:=fun z=>by rw [z] at hl;simp at hl
    obtain ⟨T,t,rfl⟩:∃ T t,S=T++[t]:=⟨S.dropLast,S.getLast ne,(List.dropLast_concat_getLast ne).symm⟩
    have hT:T.length=m:=by simpa using hl
    have ht:(p:Int)∣t:=by
      have a:=hk (T.length+n) (by omega)
      rw [qbn] at a
      have b:=qin h T (T.length+n) (Nat.le_refl _)
      have c:(p:Int)∣t*upS T.length g (T.length+n):=by
        have:=Int.dvd_sub a b
        rwa [show ∀ x y:Int,x+y - x=y by intro x y;omega] at this
      unfold upS at c
      rw [if_pos (by omega),show T.length+n - T.length=n by omega] at c
      rcases hp.mulI c with z | z
      · exact z
      · exact absurd z h0
    have hT2:=ih T hT (fun k hk2=>by
      have a:=hk k hk2
      rw [qbn] at a
      have:=Int.dvd_sub a (Int.dvd_mul_of_dvd_left (c:=upS T.length g k) ht)
      rwa [show ∀ x y:Int,x+y - y=x by intro x y;omega] at this)
    intro s hs
    rcases List.mem_append.mp hs with h | h
    · exact hT2 s h
    · rw [List.mem_singleton.mp h];exact ht
noncomputable def Lz (g:List Int):Prop:=0<g.length∧co g (g.length - 1)≠0
noncomputable def QI (r o f:Nat→Int):Prop:=∃ d:Int,d≠0∧∃ U V:List Int,∀ k,d*f k=cvL U r k+cvL V o k
noncomputable def MQ (g f:Nat→Int):Prop:=∃ c:Int,c≠0∧∃ A:List Int,∀ k,c*f k=cvL A g k
theorem QI.congr {r o f h:Nat→Int} (q:QI r o f) (e:∀ k,h k=f k):QI r o h:=by
  obtain ⟨d,d0,U,V,hU⟩:=q
  exact ⟨d,d0,U,V,fun k=>by rw [e k];exact hU k⟩
theorem QI.left (r o:Nat→Int):QI r o r:=⟨1,by decide,[1],[],fun k=>by
  rw [qaE]
  cases k with
  | zero=>rw [qao];omega
  | succ k=>rw [qal,qaE];omega⟩
theorem QI.right (r o:Nat→Int):QI r o o:=⟨1,by decide,[],[1],fun k=>by
  rw [qaE]
  cases k with
  | zero=>rw [qao];omega
  | succ k=>rw [qal,qaE];omega⟩
theorem QI.less {r o f h:Nat→Int} (q:QI r o f) (q':QI r o h) (a w:Int) (s:Nat):QI r o (fun k=>a*f k - w*upS s h k):=by
  obtain ⟨d,d0,U,V,hU⟩:=q
  obtain ⟨d',d0',U',V',hU'⟩:=q'
  refine ⟨d*d',Int.mul_ne_zero d0 d0',qa5 (U.map (d'*a*·)) (List.replicate s 0++U'.map (-(d*w)*·)),qa5 (V.map (d'*a*·)) (List.replicate s 0++V'.map (-(d*w)*·)),fun k=>?_⟩
  show d*d'*(a*f k - w*upS s h k)=_
  rw [qax,qax,qat,qat,qcK,qcK]
  unfold upS
  have e1:=hU k
  by_cases hs:s≤k
  · rw [if_pos hs,if_pos hs,if_pos hs,qat,qat]
    have e2:=hU' (k - s)
    grind
  · rw [if_neg hs,if_neg hs,if_neg hs]
    grind
theorem QI.scal {r o f:Nat→Int} {c:Int} (c0:c≠0) (q:QI r o (fun k=>c*f k)):QI r o f:=by
  obtain ⟨d,d0,U,V,hU⟩:=q
  exact ⟨d*c,Int.mul_ne_zero d0 c0,U,V,fun k=>by rw [← hU k];grind⟩
theorem QI.trans {r o a b f:Nat→Int} (qa:QI r o a) (qb:QI r o b) (q:QI a b f):QI r o f:=by
  obtain ⟨d,d0,U,V,hU⟩:=q
  obtain ⟨d1,d10,U1,V1,h1⟩:=qa
  obtain ⟨d2,d20,U2,V2,h2⟩:=qb
  refine ⟨d1*d2*d,Int.mul_ne_zero (Int.mul_ne_zero d10 d20) d0,qa5 ((qaW U U1).map (d2*·)) ((qaW V U2).map (d1*·)),qa5 ((qaW U V1).map (d2*·)) ((qaW V V2).map (d1*·)),fun k=>?_⟩
  rw [qax,qax,qat,qat,qat,qat,qaq,qaq,qaq,qaq]
  have e1:d1*cvL U a k=cvL U (cvL U1 r) k+cvL U (cvL V1 o) k:=by
    rw [← qba,← qd6];exact qak h1 U k
  have e2:d2*cvL V b k=cvL V (cvL U2 r) k+cvL V (cvL V2 o) k:=by
    rw [← qba,← qd6];exact qak h2 V k
  have e3:=hU k
  grind
theorem MQ.refl (g:Nat→Int):MQ g g:=⟨1,by decide,[1],fun k=>by
  cases k with
  | zero=>rw [qao];omega
  | succ k=>rw [qal,qaE];omega⟩
theorem MQ.zero (g:Nat→Int) {f:Nat→Int} (h:∀ k,f k=0):MQ g f:=⟨1,by decide,[],fun k=>by rw [qaE,h k];rfl⟩
theorem MQ.congr {g f h:Nat→Int} (m:MQ g f) (e:∀ k,h k=f k):MQ g h:=by
  obtain ⟨c,c0,A,hA⟩:=m
  exact ⟨c,c0,A,fun k=>by rw [e k];exact hA k⟩
theorem MQ.less {g f h:Nat→Int} (m:MQ g f) (m':MQ g h) (a w:Int) (s:Nat):MQ g (fun k=>a*f k - w*upS s h k):=by
  obtain ⟨d,d0,U,hU⟩:=m
  obtain ⟨d',d0',U',hU'⟩:=m'
  refine ⟨d*d',Int.mul_ne_zero d0 d0',qa5 (U.map (d'*a*·)) (List.replicate s 0++U'.map (-(d*w)*·)),fun k=>?_⟩
  show d*d'*(a*f k - w*upS s h k)=_
  rw [qax,qat,qcK]
  unfold upS
  have e1:=hU k
  by_cases hs:s≤k
  · rw [if_pos hs,if_pos hs,qat]
    have e2:=hU' (k - s)
    grind
  · rw [if_neg hs,if_neg hs]
    grind
theorem MQ.scal {g f:Nat→Int} {c:Int} (c0:c≠0) (m:MQ g (fun k=>c*f k)):MQ g f:=by
  obtain ⟨d,d0,A,hA⟩:=m
  exact ⟨d*c,Int.mul_ne_zero d0 c0,A,fun k=>by rw [← hA k];grind⟩
theorem MQ.trans {g f h:Nat→Int} (m:MQ g f) (m':MQ f h):MQ g h:=by
  obtain ⟨c,c0,A,hA⟩:=m
  obtain ⟨d,d0,B,hB⟩:=m'
  refine ⟨c*d,Int.mul_ne_zero c0 d0,qaW B A,fun k=>?_⟩
  rw [qaq]
  have e:c*cvL B f k=cvL B (cvL A g) k:=by rw [← qba];exact qak hA B k
  rw [← e,← hB k];grind
theorem MQ.of_QI {r o f g:Nat→Int} (m1:MQ g r) (m2:MQ g o) (q:QI r o f):MQ g f:=by
  obtain ⟨d,d0,U,V,hU⟩:=q
  obtain ⟨c,c0,A,hA⟩:=m1
  obtain ⟨e,e0,B,hB⟩:=m2
  refine ⟨c*e*d,Int.mul_ne_zero (Int.mul_ne_zero c0 e0) d0,qa5 ((qaW U A).map (e*·)) ((qaW V B).map (c*·)),fun k=>?_⟩
  rw [qax,qat,qat,qaq,qaq]
  have e1:c*cvL U r k=cvL U (cvL A g) k:=by rw [← qba];exact qak hA U k
  have e2:e*cvL V o k=cvL V (cvL B g) k:=by rw [← qba];exact qak hB V k
  have e3:=hU k
  grind
theorem QI.of_MQ {r o f h:Nat→Int} (q:QI r o f) (m:MQ f h):QI r o h:=by
  obtain ⟨c,c0,A,hA⟩:=m
  obtain ⟨d,d0,U,V,hU⟩:=q
  refine ⟨d*c,Int.mul_ne_zero d0 c0,qaW A U,qaW A V,fun k=>?_⟩
  rw [qaq,qaq]
  have e:d*cvL A f k=cvL A (cvL U r) k+cvL A (cvL V o) k:=by rw [← qba,← qd6];exact qak hU A k
  rw [← e,← hA k];grind
end Bs
namespace Bs
theorem qeM {f:List Int} (h:co f (f.length - 1)=0) (k:Nat):co f.dropLast k=co f k:=by
  unfold co at *
  rw [List.getD_eq_getElem?_getD,List.getD_eq_getElem?_getD]
  rw [List.getElem?_dropLast]
  by_cases hk:k<f.length - 1
  · rw [if_pos hk]
  · rw [if_neg hk]
    by_cases e:k=f.length - 1
    · subst e
      rw [List.getD_eq_getElem?_getD] at h
      rw [h];rfl
    · rw [List.getElem?_eq_none (by omega)]
theorem qhr (f:List Int):(∀ k,co f k=0)∨∃ g,Lz g∧g.length≤f.length∧∀ k,co g k=co f k:=by
  induction hn:f.length generalizing f with
  | zero=>exact .inl fun k=>qaz (by omega)
  | succ n ih=>
    by_cases h:co f (f.length - 1)=0
    · rcases ih f.dropLast (by rw [List.length_dropLast];omega) with z | ⟨g,g1,g2,g3⟩
      · exact .inl fun k=>by rw [← qeM h];exact z k
      · exact .inr ⟨g,g1,by omega,fun k=>by rw [g3,qeM h]⟩
    · exact .inr ⟨f,⟨by omega,h⟩,by omega,fun _=>rfl⟩
theorem qgf (n:Nat) (F:Nat→Int) (k:Nat):co ((List.range n).map F) k=if k<n then F k else 0:=by
  unfold co
  rw [List.getD_eq_getElem?_getD,List.getElem?_map]
  by_cases h:k<n
  · rw [if_pos h,List.getElem?_range h];rfl
  · rw [if_neg h,List.getElem?_eq_none (by rw [List.length_range];omega)];rfl
structure Gen (r o:Nat→Int) (g:List Int):Prop where
  lz:Lz g
  qi:QI r o (co g)
  len:∀ h,Lz h→QI r o (co h)→g.length≤h.length
  last:∀ h,Lz h→QI r o (co h)→h.length=g.length→(co g (g.length - 1)).natAbs≤(co h (h.length - 1)).natAbs
theorem qqD {r o:Nat→Int} {f:List Int} (lf:Lz f) (q:QI r o (co f)):∃ g,Gen r o g:=by
  have L:∀ n,(∃ f,f.length=n∧Lz f∧QI r o (co f))→∃ m,(∃ f,f.length=m∧Lz f∧QI r o (co f))∧∀ h,Lz h→QI r o (co h)→m≤h.length:=by
    intro n
    induction n using Nat.strongRecOn with
    | _ n ih=>
      intro hf
      by_cases hx:∃ m,m<n∧∃ f,f.length=m∧Lz f∧QI r o (co f)
      · obtain ⟨m,hm,hx⟩:=hx
        exact ih m hm hx
      · refine ⟨n,hf,fun h lh qh=>?_⟩
        rcases Nat.lt_or_ge h.length n with z | z
        · exact absurd ⟨h.length,z,h,rfl,lh,qh⟩ hx
        · exact z
  obtain ⟨m,⟨f1,e1,l1,q1⟩,hm⟩:=L f.length ⟨f,rfl,lf,q⟩
  have M:∀ n,(∃ f,f.length=m∧Lz f∧QI r o (co f)∧(co f (f.length - 1)).natAbs=n)→∃ g,Gen r o g:=by
    intro n
    induction n using Nat.strongRecOn with
    | _ n ih=>
      rintro ⟨f,fm,lf,qf,fn⟩
      by_cases hx:∃ j,j<n∧∃ f,f.length=m∧Lz f∧QI r o (co f)∧(co f (f.length - 1)).natAbs=j
      · obtain ⟨j,hj,hx⟩:=hx
        exact ih j hj hx
      · refine ⟨f,lf,qf,fun h lh qh=>by rw [fm];exact hm h lh qh,fun h lh qh hl=>?_⟩
        rcases Nat.lt_or_ge (co h (h.length - 1)).natAbs (co f (f.length - 1)).natAbs with z | z
        · exact absurd ⟨_,by omega,h,by omega,lh,qh,rfl⟩ hx
        · exact z
  exact M _ ⟨f1,e1,l1,q1,rfl⟩
theorem Gen.mq {r o:Nat→Int} {g:List Int} (G:Gen r o g):∀ (n:Nat) (f:List Int),f.length≤n→QI r o (co f)→MQ (co g) (co f)
  | 0,f,h,_=>MQ.zero _ fun k=>qaz (by omega)
  | n+1,f,h,q=>by
    rcases qhr f with z | ⟨f1,l1,h1,e1⟩
    · exact MQ.zero _ z
    have q1:QI r o (co f1):=q.congr e1
    have gl:=G.len f1 l1 q1
    refine MQ.congr (f:=co f1) ?_ fun k=>(e1 k).symm
    generalize hs:f1.length - g.length=s
    have g0:=G.lz.1
    let F:List Int:=(List.range (f1.length - 1)).map fun k=>co g (g.length - 1)*co f1 k - co f1 (f1.length - 1)*upS s (co g) k
    have eF:∀ k,co F k=co g (g.length - 1)*co f1 k - co f1 (f1.length - 1)*upS s (co g) k:=fun k=>by
      rw [qgf]
      by_cases hk:k<f1.length - 1
      · rw [if_pos hk]
      · rw [if_neg hk]
        unfold upS
        by_cases hk2:k=f1.length - 1
        · rw [if_pos (by omega),hk2,show f1.length - 1 - s=g.length - 1 by omega];grind
        · rw [qaz (a:=f1) (by omega)]
          by_cases hk3:s≤k
          · rw [if_pos hk3,qaz (a:=g) (k:=k - s) (by omega)];omega
          · rw [if_neg hk3];omega
    have qF:QI r o (co F):=QI.congr (q1.less G.qi (co g (g.length - 1)) (co f1 (f1.length - 1)) s) eF
    have lF:F.length≤n:=by
      have:F.length=f1.length - 1:=by show ((List.range (f1.length - 1)).map _).length=_;rw [List.length_map,List.length_range]
      omega
    have m:=Gen.mq G n F lF qF
    have m2:=MQ.less (MQ.congr m fun k=>(eF k).symm) (MQ.refl (co g)) 1 (-(co f1 (f1.length - 1))) s
    refine MQ.scal (c:=co g (g.length - 1)) G.lz.2 (MQ.congr m2 fun k=>?_)
    show _=1*_ - _*upS s (co g) k
    generalize upS s (co g) k=y
    grind
theorem Gen.prim {r o:Nat→Int} {g:List Int} (G:Gen r o g) {p:Nat} (hp:2≤p):∃ n,¬ (p:Int)∣co g n∧∀ i,n<i→(p:Int)∣co g i:=by
  have key:∀ n,(∀ i,n≤i→(p:Int)∣co g i)→(∀ i,(p:Int)∣co g i)∨∃ n,¬ (p:Int)∣co g n∧∀ i,n<i→(p:Int)∣co g i:=by
    intro n
    induction n with
    | zero=>intro h;exact .inl fun i=>h i (Nat.zero_le i)
    | succ n ih=>
      intro h
      by_cases hd:(p:Int)∣co g n
      · exact ih fun i hi=>by
          by_cases e:i=n
          · rw [e];exact hd
          · exact h i (by omega)
      · exact .inr ⟨n,hd,fun i hi=>h i (by omega)⟩
  rcases key g.length (fun i hi=>by rw [qaz hi];exact Int.dvd_zero _) with h | h
  · exfalso
    let h1:List Int:=g.map (· / (p:Int))
    have e1:∀ k,(p:Int)*co h1 k=co g k:=fun k=>by
      have:co h1 k=co g k / (p:Int):=by
        show (g.map (· / (p:Int))).getD k 0=g.getD k 0 / (p:Int)
        rw [List.getD_eq_getElem?_getD,List.getD_eq_getElem?_getD,List.getElem?_map]
        cases g[k]? with
        | none=>exact (Int.zero_ediv _).symm
        | some z=>rfl
      rw [this,Int.mul_ediv_cancel' (h k)]
    have p0:(p:Int)≠0:=by omega
    have len1:h1.length=g.length:=List.length_map ..
    have ne:co h1 (h1.length - 1)≠0:=fun z=>G.lz.2 (by rw [← e1,← len1,z];omega)
    have l1:Lz h1:=⟨by rw [len1];exact G.lz.1,ne⟩
    have q1:QI r o (co h1):=QI.scal (c:=(p:Int)) p0 (QI.congr G.qi e1)
    have lt:=G.last h1 l1 q1 len1
    have e2:=e1 (g.length - 1)
    rw [← len1] at e2
    rw [len1] at e2 lt
    rw [← e2,Int.natAbs_mul,Int.natAbs_natCast] at lt
    rw [len1] at ne
    have pos:0<(co h1 (g.length - 1)).natAbs:=by omega
    have:=Nat.mul_le_mul_right (co h1 (g.length - 1)).natAbs hp
    omega
  · exact h
theorem Gen.loc {r o:Nat→Int} {g:List Int} (G:Gen r o g) {p:Nat} (hp:Pr p) {f:Nat→Int} (m:MQ (co g) f) :
    ∃ (c:Int) (A:List Int),¬ (p:Int)∣c∧∀ k,c*f k=cvL A (co g) k:=by
  obtain ⟨n,n0,n1⟩:=G.prim hp.two
  obtain ⟨c,c0,A,hA⟩:=m
  have key:∀ (m:Nat) (c:Int) (A:List Int),c.natAbs≤m→c≠0→(∀ k,c*f k=cvL A (co g) k)→∃ (c:Int) (A:List Int),¬ (p:Int)∣c∧∀ k,c*f k=cvL A (co g) k:=by
    intro m
    induction m with
    | zero=>intro c A h h0;omega
    | succ m ih=>
      intro c A h h0 hA
      by_cases hd:(p:Int)∣c
      · have dA:∀ a∈A,(p:Int)∣a:=qe4 hp n0 n1 A fun k _=>by rw [← hA k];exact Int.dvd_mul_of_dvd_left hd
        obtain ⟨c',rfl⟩:=hd
        have p2:=hp.two
        have c0':c'≠0:=fun z=>h0 (by rw [z];omega)
        have eA:A=(A.map (· / (p:Int))).map ((p:Int)*·):=by
          rw [List.map_map]
          conv=>lhs;rw [← List.map_id A]
          refine List.map_congr_left fun a ha=>?_
          show a=(p:Int)*(a / (p:Int))
          rw [Int.mul_ediv_cancel' (dA a ha)]
        refine ih c' (A.map (· / (p:Int))) ?_ c0' fun k=>?_
        · rw [Int.natAbs_mul,Int.natAbs_natCast] at h
          have pos:0<c'.natAbs:=by omega
          have:=Nat.mul_le_mul_right c'.natAbs p2
          omega
        · have e:=hA k
          rw [eA,qat,Int.mul_assoc] at e
          exact Int.eq_of_mul_eq_mul_left (by omega) e
      · exact ⟨c,A,hd,hA⟩
  exact key _ c A (Nat.le_refl _) c0 hA
theorem qr7 (a b:Nat):∃ x y:Int,x*a+y*b=(Nat.gcd a b:Int):=by
  induction a,b using Nat.gcd.induction with
  | H0 n=>exact ⟨0,1,by simp⟩
  | H1 m n hm ih=>
    obtain ⟨x,y,h⟩:=ih
    refine ⟨y - x*((n / m:Nat):Int),x,?_⟩
    rw [Nat.gcd_rec,← h]
    have e:(n:Int)=(m:Int)*((n / m:Nat):Int)+((n % m:Nat):Int):=by
      have:=Nat.div_add_mod n m
      exact_mod_cast this.symm
    generalize ((n / m:Nat):Int)=q at *
    generalize ((n % m:Nat):Int)=w at *
    rw [e];grind
theorem qr8 (a b:Int):∃ x y:Int,x*a+y*b=(Int.gcd a b:Int):=by
  obtain ⟨x,y,h⟩:=qr7 a.natAbs b.natAbs
  have s:∀ z:Int,∃ e:Int,(z.natAbs:Int)=e*z:=fun z=>by
    rcases Int.natAbs_eq z with h | h
    · exact ⟨1,by omega⟩
    · exact ⟨-1,by omega⟩
  obtain ⟨e,he⟩:=s a
  obtain ⟨f,hf⟩:=s b
  refine ⟨x*e,y*f,?_⟩
  show _=((Nat.gcd a.natAbs b.natAbs:Nat):Int)
  rw [← h,he,hf];grind
noncomputable def Dm (p:Int) (g f:Nat→Int):Prop:=∃ S:List Int,∀ k,p∣f k - cvL S g k
theorem Gen.dm {r o:Nat→Int} {g:List Int} (G:Gen r o g) {p:Nat} (hp:Pr p) {f:Nat→Int} (m:MQ (co g) f):Dm (p:Int) (co g) f:=by
  obtain ⟨c,A,hc,hA⟩:=G.loc hp m
  have cop:Int.gcd c (p:Int)=1:=by
    have:=hp.cop (a:=c.natAbs) fun z=>hc (Int.natAbs_dvd_natAbs.mp (by rw [Int.natAbs_natCast];exact z))
    exact this
  obtain ⟨x,y,hxy⟩:∃ x y:Int,x*c+y*(p:Int)=1:=by
    obtain ⟨x,y,h⟩:=qr8 c (p:Int)
    exact ⟨x,y,by rw [h,cop];rfl⟩
  refine ⟨A.map (x*·),fun k=>⟨f k*y,?_⟩⟩
  rw [qat,← hA k]
  grind
theorem Dm.less {p:Int} {g f h:Nat→Int} (m:Dm p g f) (m':Dm p g h) (a w:Int) (s:Nat):Dm p g (fun k=>a*f k - w*upS s h k):=by
  obtain ⟨S,hS⟩:=m
  obtain ⟨S',hS'⟩:=m'
  refine ⟨qa5 (S.map (a*·)) (List.replicate s 0++S'.map (-w*·)),fun k=>?_⟩
  show p∣a*f k - w*upS s h k - _
  rw [qax,qat,qcK]
  unfold upS
  obtain ⟨x,hx⟩:=hS k
  by_cases hs:s≤k
  · rw [if_pos hs,if_pos hs,qat]
    obtain ⟨y,hy⟩:=hS' (k - s)
    exact ⟨a*x - w*y,by grind⟩
  · rw [if_neg hs,if_neg hs]
    exact ⟨a*x,by grind⟩
theorem Dm.congr {p:Int} {g f h:Nat→Int} (m:Dm p g f) (e:∀ k,p∣h k - f k):Dm p g h:=by
  obtain ⟨S,hS⟩:=m
  exact ⟨S,fun k=>by have:=Int.dvd_add (e k) (hS k);rwa [show ∀ x y z:Int,x - y+(y - z)=x - z by intro x y z;omega] at this⟩
theorem Dm.zero (p:Int) (g:Nat→Int) {f:Nat→Int} (h:∀ k,p∣f k):Dm p g f:=⟨[],fun k=>by rw [qaE];simpa using h k⟩
theorem Gen.lead {r o:Nat→Int} {g R:List Int} (G:Gen r o g) {p:Nat} (hp:Pr p) (lR:Lz R) (m:MQ (co g) (co R)) (h:¬ (p:Int)∣co R (R.length - 1)):¬ (p:Int)∣co g (g.length - 1):=by
  intro hd
  obtain ⟨n,n0,n1⟩:=G.prim hp.two
  obtain ⟨c,A,hc,hA⟩:=G.loc hp m
  have nl:n+1<g.length:=by
    rcases Nat.lt_or_ge n g.length with z | z
    · rcases Nat.lt_or_ge (n+1) g.length with y | y
      · exact y
      · exact absurd hd (by rw [show g.length - 1=n by omega];exact n0)
    · exact absurd (by rw [qaz z];exact Int.dvd_zero _) n0
  rcases qhr A with z | ⟨B,lB,_,eB⟩
  · have:c*co R (R.length - 1)=0:=by
      rw [hA,qbv,qcb g z]
    rcases Int.mul_eq_zero.mp this with e | e
    · exact hc (by rw [e];exact Int.dvd_zero _)
    · exact lR.2 e
  · have hB:∀ k,c*co R k=cvL B (co g) k:=fun k=>by rw [hA,qbv,qak (fun j=>(eB j).symm) g k,← qbv]
    have bl:B.length+g.length≤R.length+1:=by
      rcases Nat.lt_or_ge (R.length+1) (B.length+g.length) with z | z
      · exfalso
        have b0:=lB.1
        have g0:=G.lz.1
        have e:=hB (B.length - 1+(g.length - 1))
        rw [qaz (by omega)] at e
        have ne:B≠[]:=fun z=>by rw [z] at b0;simp at b0
        obtain ⟨T,t,hT⟩:∃ T t,B=T++[t]:=⟨B.dropLast,B.getLast ne,(List.dropLast_concat_getLast ne).symm⟩
        have tl:T.length=B.length - 1:=by rw [hT];simp
        have tc:co B (B.length - 1)=t:=by rw [← tl,hT];unfold co;simp [List.getD_eq_getElem?_getD]
        rw [hT,qbn,← hT,qb8 (n:=g.length) (fun i hi=>qaz hi) T _ (by omega)] at e
        unfold upS at e
        rw [if_pos (by omega),show B.length - 1+(g.length - 1) - T.length=g.length - 1 by omega] at e
        have e2:t*co g (g.length - 1)=0:=by omega
        rcases Int.mul_eq_zero.mp e2 with x | x
        · exact lB.2 (tc.trans x)
        · exact G.lz.2 x
      · exact z
    have hh:=qin n1 B (R.length - 1) (by omega)
    rw [← hB] at hh
    rcases hp.mulI hh with x | x
    · exact hc x
    · exact h x
theorem Dm.len {p:Nat} (hp:Pr p) {g f:List Int} (lg:0<g.length) (hl:¬ (p:Int)∣co g (g.length - 1)) (d:Dm (p:Int) (co g) (co f)) (h0:∃ k,¬ (p:Int)∣co f k):g.length≤f.length:=by
  rcases Nat.lt_or_ge f.length g.length with z | z
  · exfalso
    obtain ⟨S,hS⟩:=d
    have sS:=qe4 hp hl (fun i hi=>by rw [qaz (by omega)];exact Int.dvd_zero _) S fun k hk=>by
      have:=hS k
      rw [qaz (by omega)] at this
      have e:=Int.dvd_neg.mpr this
      rwa [show ∀ x:Int,-(0 - x)=x by intro x;omega] at e
    obtain ⟨k,hk⟩:=h0
    apply hk
    have c:∀ (S:List Int),(∀ s∈S,(p:Int)∣s)→∀ k,(p:Int)∣cvL S (co g) k:=by
      intro S
      induction S with
      | nil=>intro _ k;exact Int.dvd_zero _
      | cons x S ih=>
        intro h k
        rw [qc3]
        refine Int.dvd_add (Int.dvd_mul_of_dvd_left (h x (List.mem_cons_self ..))) ?_
        cases k with
        | zero=>exact Int.dvd_zero _
        | succ k=>exact ih (fun s hs=>h s (List.mem_cons_of_mem _ hs)) k
    have:=Int.dvd_add (hS k) (c S sS k)
    rwa [Int.sub_add_cancel] at this
  · exact z
structure RC (r o:Nat→Int) (g:List Int):Prop where
  lz:Lz g
  left:MQ (co g) r
  right:MQ (co g) o
  qi:QI r o (co g)
theorem Gen.rc {R O g:List Int} (G:Gen (co R) (co O) g):RC (co R) (co O) g:=
  ⟨G.lz,G.mq _ R (Nat.le_refl _) (QI.left _ _),G.mq _ O (Nat.le_refl _) (QI.right _ _),G.qi⟩
theorem qmM {r o:Nat→Int} {g h:List Int} (G:RC r o g) (lh:Lz h) (m1:MQ (co h) r) (m2:MQ (co h) o) (hl:g.length≤h.length):RC r o h:=by
  refine ⟨lh,m1,m2,G.qi.of_MQ ?_⟩
  obtain ⟨d,d0,T,hT⟩:=MQ.of_QI m1 m2 G.qi
  rcases qhr T with z | ⟨B,lB,_,eB⟩
  · exfalso
    have:d*co g (g.length - 1)=0:=by rw [hT,qbv,qcb h z]
    rcases Int.mul_eq_zero.mp this with e | e
    · exact d0 e
    · exact G.lz.2 e
  · have hB:∀ k,d*co g k=cvL B (co h) k:=fun k=>by rw [hT,qbv,qak (fun j=>(eB j).symm) h k,← qbv]
    have b0:=lB.1
    have g0:=lh.1
    have ne:B≠[]:=fun z=>by rw [z] at b0;simp at b0
    obtain ⟨X,t,hX⟩:∃ X t,B=X++[t]:=⟨B.dropLast,B.getLast ne,(List.dropLast_concat_getLast ne).symm⟩
    have tl:X.length=B.length - 1:=by rw [hX];simp
    have tc:co B (B.length - 1)=t:=by rw [← tl,hX];unfold co;simp [List.getD_eq_getElem?_getD]
    have one:B.length=1:=by
      rcases Nat.lt_or_ge 1 B.length with y | y
      · exfalso
        have e:=hB (B.length - 1+(h.length - 1))
        rw [qaz (by omega),hX,qbn,← hX,qb8 (n:=h.length) (fun i hi=>qaz hi) X _ (by omega)] at e
        unfold upS at e
        rw [if_pos (by omega),show B.length - 1+(h.length - 1) - X.length=h.length - 1 by omega] at e
        have e2:t*co h (h.length - 1)=0:=by omega
        rcases Int.mul_eq_zero.mp e2 with x | x
        · exact lB.2 (tc.trans x)
        · exact lh.2 x
      · omega
    have X0:X=[]:=List.length_eq_zero_iff.mp (by omega)
    have t0:t≠0:=fun z=>lB.2 (tc.trans z)
    refine ⟨t,t0,[d],fun k=>?_⟩
    have e:=hB k
    rw [hX,X0] at e
    cases k with
    | zero=>rw [qao];rw [show ([]++[t]:List Int)=[t] from rfl,qao] at e;omega
    | succ k=>rw [qal,qaE];rw [show ([]++[t]:List Int)=[t] from rfl,qal,qaE] at e;omega
end Bs
namespace Bs
noncomputable def Prim (g:List Int):Prop:=∀ c:Int,(∀ k,c∣co g k)→c.natAbs=1
theorem Prim.top {g:List Int} (P:Prim g) {p:Nat} (hp:2≤p):∃ n,¬ (p:Int)∣co g n∧∀ i,n<i→(p:Int)∣co g i:=by
  have key:∀ n,(∀ i,n≤i→(p:Int)∣co g i)→(∀ i,(p:Int)∣co g i)∨∃ n,¬ (p:Int)∣co g n∧∀ i,n<i→(p:Int)∣co g i:=by
    intro n
    induction n with
    | zero=>intro h;exact .inl fun i=>h i (Nat.zero_le i)
    | succ n ih=>
      intro h
      by_cases hd:(p:Int)∣co g n
      · exact ih fun i hi=>by
          by_cases e:i=n
          · rw [e];exact hd
          · exact h i (by omega)
      · exact .inr ⟨n,hd,fun i hi=>h i (by omega)⟩
  rcases key g.length (fun i hi=>by rw [qaz hi];exact Int.dvd_zero _) with h | h
  · have:=P (p:Int) h
    omega
  · exact h
theorem gauss {g:List Int} (P:Prim g) {f:Nat→Int} (m:MQ (co g) f):∃ A:List Int,∀ k,f k=cvL A (co g) k:=by
  obtain ⟨c,c0,A,hA⟩:=m
  have key:∀ (m:Nat) (c:Int) (A:List Int),c.natAbs≤m→c≠0→(∀ k,c*f k=cvL A (co g) k)→∃ A:List Int,∀ k,f k=cvL A (co g) k:=by
    intro m
    induction m with
    | zero=>intro c A h h0;omega
    | succ m ih=>
      intro c A h h0 hA
      by_cases h1:c.natAbs=1
      · rcases Int.natAbs_eq c with e | e
        · exact ⟨A,fun k=>by rw [← hA k,e,h1];omega⟩
        · exact ⟨A.map (-1*·),fun k=>by rw [qat,← hA k,e,h1];omega⟩
      · obtain ⟨p,hp,pd,_⟩:=qji (m:=c.natAbs) (by omega)
        have hd:(p:Int)∣c:=Int.natAbs_dvd_natAbs.mp (by rw [Int.natAbs_natCast];exact pd)
        obtain ⟨n,n0,n1⟩:=P.top hp.two
        have dA:∀ a∈A,(p:Int)∣a:=qe4 hp n0 n1 A fun k _=>by rw [← hA k];exact Int.dvd_mul_of_dvd_left hd
        obtain ⟨c',rfl⟩:=hd
        have p2:=hp.two
        have c0':c'≠0:=fun z=>h0 (by rw [z];omega)
        have eA:A=(A.map (· / (p:Int))).map ((p:Int)*·):=by
          rw [List.map_map]
          conv=>lhs;rw [← List.map_id A]
          refine List.map_congr_left fun a ha=>?_
          show a=(p:Int)*(a / (p:Int))
          rw [Int.mul_ediv_cancel' (dA a ha)]
        refine ih c' (A.map (· / (p:Int))) ?_ c0' fun k=>?_
        · rw [Int.natAbs_mul,Int.natAbs_natCast] at h
          have pos:0<c'.natAbs:=by omega
          have:=Nat.mul_le_mul_right c'.natAbs p2
          omega
        · have e:=hA k
          rw [eA,qat,Int.mul_assoc] at e
          exact Int.eq_of_mul_eq_mul_left (by omega) e
  exact key _ c A (Nat.le_refl _) c0 hA
noncomputable def evI:List Int→Int→Int
  | [],_=>0
  | a::l,x=>a+x*evI l x
theorem qgg:∀ (l:List Int) (x:Int),(∀ k,co l k=0)→evI l x=0
  | [],_,_=>rfl
  | a::l,x,h=>by
    have h0:a=0:=h 0
    show a+x*evI l x=0
    rw [h0,qgg l x fun k=>h (k+1)];omega
theorem qgM:∀ (a b:List Int) (x:Int),(∀ k,co a k=co b k)→evI a x=evI b x
  | [],b,x,h=>(qgg b x fun k=>(h k).symm).symm
  | a::l,[],x,h=>qgg (a::l) x h
  | a::l,b::m,x,h=>by
    have h0:a=b:=h 0
    show a+x*evI l x=b+x*evI m x
    rw [h0,qgM l m x fun k=>h (k+1)]
theorem qmN:∀ (a b:List Int) (x:Int),evI (qa5 a b) x=evI a x+evI b x
  | [],b,x=>by show evI b x=0+evI b x;omega
  | a::l,[],x=>by rw [qgL];show _=_+0;omega
  | a::l,b::m,x=>by
    show (a+b)+x*evI (qa5 l m) x=a+x*evI l x+(b+x*evI m x)
    rw [qmN l m x];grind
theorem qkO (c:Int):∀ (a:List Int) (x:Int),evI (a.map (c*·)) x=c*evI a x
  | [],x=>by show (0:Int)=c*0;omega
  | a::l,x=>by
    show c*a+x*evI (l.map (c*·)) x=c*(a+x*evI l x)
    rw [qkO c l x];grind
theorem qmO:∀ (a b:List Int) (x:Int),evI (qaW a b) x=evI a x*evI b x
  | [],b,x=>by show (0:Int)=0*_;omega
  | a::l,b,x=>by
    show evI (qa5 (b.map (a*·)) (0::qaW l b)) x=(a+x*evI l x)*evI b x
    rw [qmN,qkO]
    show a*evI b x+(0+x*evI (qaW l b) x)=_
    rw [qmO l b x];grind
theorem qmP (a b:List Int) (k:Nat):co (qaW a b) k=cvL a (co b) k:=by
  rw [qcc,qaq]
  exact qak (fun j=>(qcc b j).symm) a k
theorem qn5 {r a g:List Int} (h:∀ k,co r k=cvL a (co g) k) (x:Int):evI r x=evI a x*evI g x:=by
  rw [← qmO]
  exact qgM r (qaW a g) x fun k=>by rw [qmP];exact h k
theorem qoM {b c:Nat} {x:Int} (hx:Bd c x):∀ (l:List Int),(∀ z∈l,Bd b z)→Bd (b+l.length*(c+1)) (evI l x)
  | [],_=>qbP _
  | a::l,hb=>by
    show Bd _ (a+x*evI l x)
    have h1:=hb a (List.mem_cons_self ..)
    have h2:=hx.mul (qoM hx l fun z hz=>hb z (List.mem_cons_of_mem _ hz))
    have e:(l.length+1)*(c+1)=l.length*(c+1)+(c+1):=by rw [Nat.add_mul,Nat.one_mul]
    refine ((h1.mono (n:=c+(b+l.length*(c+1))) (by omega)).add h2).mono ?_
    rw [List.length_cons,e];omega
noncomputable def syn:List Int→Int→List Int
  | [],_=>[]
  | _::l,t=>evI l t::syn l t
theorem qio:∀ (l:List Int) (t:Int),(syn l t).length=l.length
  | [],_=>rfl
  | _::l,t=>congrArg (·+1) (qio l t)
theorem qmQ:∀ (l:List Int) (t x:Int),evI l x - evI l t=(x - t)*evI (syn l t) x
  | [],t,x=>by show (0:Int) - 0=_*0;omega
  | a::l,t,x=>by
    show a+x*evI l x - (a+t*evI l t)=(x - t)*(evI l t+x*evI (syn l t) x)
    have:=qmQ l t x
    grind
theorem qkP:∀ (l:List Int) (t:Int) (k:Nat),co l k=(if k=0 then evI l t else co (syn l t) (k - 1)) - t*co (syn l t) k
  | [],t,k=>by
    rw [show co (syn [] t) k=0 from qaz (Nat.zero_le _),show co (syn [] t) (k - 1)=0 from qaz (Nat.zero_le _),qaz (Nat.zero_le _)]
    show 0=(if k=0 then 0 else 0) - _
    split <;> omega
  | a::l,t,0=>by
    show a=a+t*evI l t - t*evI l t
    omega
  | a::l,t,k+1=>by
    have:=qkP l t k
    show co l k=(if k+1=0 then _ else co (evI l t::syn l t) (k+1 - 1)) - t*co (syn l t) k
    rw [if_neg (by omega),this]
    cases k with
    | zero=>rfl
    | succ k=>rw [if_neg (by omega)];rfl
theorem qn6 (l:List Int) (t:Int):co (syn l t) (l.length - 1)=0:=by
  induction l with
  | nil=>exact qaz (Nat.zero_le _)
  | cons a l ih=>
    show co (evI l t::syn l t) l.length=0
    cases h:l.length with
    | zero=>rw [List.length_eq_zero_iff.mp h];rfl
    | succ m=>rw [h] at ih;exact ih
theorem interp {c:Nat}:∀ (d:Nat) (l:List Int) (y:Nat) (x:Nat→Int),(∀ k,d<k→co l k=0)→(∀ i,i≤d→Bd c (x i))→(∀ i j,i≤d→j≤d→i≠j→x i≠x j)→(∀ i,i≤d→Bd y (evI l (x i)))→∀ k,Bd (y+d*(c+3)) (co l k)
  | 0,l,y,x,h1,_,_,h4,k=>by
    cases k with
    | zero=>
      have e:evI l (x 0)=co l 0:=by
        cases l with
        | nil=>rfl
        | cons a l=>
          show a+x 0*evI l (x 0)=a
          rw [qgg l (x 0) fun k=>h1 (k+1) (by omega)];omega
      have:=h4 0 (Nat.le_refl 0)
      rw [e] at this
      exact this.mono (by omega)
    | succ k=>rw [h1 (k+1) (by omega)];exact qbP _
  | d+1,l,y,x,h1,h2,h3,h4,k=>by
    have hs:∀ j,d<j→co (syn l (x (d+1))) j=0:=by
      have step:∀ n,∀ j,d<j→l.length≤j+n→co (syn l (x (d+1))) j=0:=by
        intro n
        induction n with
        | zero=>intro j _ h;exact qaz (by rw [qio];omega)
        | succ n ih=>
          intro j hj h
          have e:=qkP l (x (d+1)) (j+1)
          rw [h1 (j+1) (by omega),if_neg (by omega),ih (j+1) (by omega) (by omega)] at e
          rw [show j+1 - 1=j by omega] at e
          omega
      intro j hj
      exact step l.length j hj (by omega)
    have ih:=interp d (syn l (x (d+1))) (y+1) x hs (fun i hi=>h2 i (by omega)) (fun i j hi hj=>h3 i j (by omega) (by omega)) (fun i hi=>by
      have e:=qmQ l (x (d+1)) (x i)
      have ne:x i - x (d+1)≠0:=fun z=>h3 i (d+1) (by omega) (by omega) (by omega) (by omega)
      have b:=(h4 i (by omega)).sub (h4 (d+1) (by omega))
      rw [e] at b
      refine b.le ?_
      rw [Int.natAbs_mul]
      exact Nat.le_mul_of_pos_left _ (by omega))
    have e:=qkP l (x (d+1)) k
    rw [e]
    have hx:=h2 (d+1) (Nat.le_refl _)
    have b2:=hx.mul (ih k)
    have em:(d+1)*(c+3)=d*(c+3)+(c+3):=by rw [Nat.add_mul,Nat.one_mul]
    have b1:Bd (c+(y+1+d*(c+3))) (if k=0 then evI l (x (d+1)) else co (syn l (x (d+1))) (k - 1)):=by
      split
      · exact (h4 (d+1) (Nat.le_refl _)).mono (by omega)
      · exact (ih (k - 1)).mono (by omega)
    exact (b1.sub b2).mono (by omega)
end Bs
namespace Bs
open PySem L2
noncomputable def isN (H:Hp) (v:V) (q:Nu):Prop:=∃ p,v=.ref p∧H p=some (.tup [.int q.1,.int q.2])
noncomputable def Nums (H:Hp):List V→List Nu→Prop
  | [],[]=>True
  | x::xs,q::l=>isN H x q∧Nums H xs l
  | _,_=>False
noncomputable def Tp (H H':Hp):Prop:=∀ b xs,H b=some (.tup xs)→H' b=some (.tup xs)
theorem tpS {H H':Hp} (s:Same H H'):Tp H H':=fun b xs h=>s b _ h
theorem Tp.trans {H H1 H2:Hp} (a:Tp H H1) (b:Tp H1 H2):Tp H H2:=fun c xs h=>b c xs (a c xs h)
theorem Kp.tp {p:Addr} {H H':Hp} {xs:List V} (k:Kp p H H') (h:H p=some (.lst xs)):Tp H H':=fun b ys q=>k b _ (qrc q h (by intro z;cases z)) q
theorem Tp.updL {p:Addr} {H:Hp} {xs ys:List V} (h:H p=some (.lst xs)):Tp H (upd H p (.lst ys)):=Kp.tp Kp.upd h
theorem isN.tp {H H':Hp} {v:V} {q:Nu} (h:isN H v q) (t:Tp H H'):isN H' v q:=let ⟨p,e,z⟩:=h;⟨p,e,t _ _ z⟩
theorem Nums.tp {H H':Hp} (t:Tp H H'):∀ {xs:List V} {l:List Nu},Nums H xs l→Nums H' xs l
  | [],[],_=>trivial
  | _::_,_::_,h=>⟨h.1.tp t,Nums.tp t h.2⟩
  | [],_::_,h=>h.elim
  | _::_,[],h=>h.elim
theorem Nums.length {H:Hp}:∀ {xs:List V} {l:List Nu},Nums H xs l→xs.length=l.length
  | [],[],_=>rfl
  | _::_,_::_,h=>congrArg (·+1) (Nums.length h.2)
  | [],_::_,h=>h.elim
  | _::_,[],h=>h.elim
theorem Nums.get {H:Hp}:∀ {xs:List V} {l:List Nu} {i:Nat} {v:V},Nums H xs l→xs[i]?=some v→∃ q,l[i]?=some q∧isN H v q
  | [],[],_,_,_,e=>by simp at e
  | _::_,q::_,0,_,h,e=>by simp at e;subst e;exact ⟨q,rfl,h.1⟩
  | _::_,_::_,i+1,_,h,e=>by
    obtain ⟨q,h1,h2⟩:=Nums.get (i:=i) h.2 (by simpa using e)
    exact ⟨q,by simpa using h1,h2⟩
  | [],_::_,_,_,h,_=>h.elim
  | _::_,[],_,_,h,_=>h.elim
theorem Nums.at {H:Hp} {xs:List V} {l:List Nu} {i:Nat} (h:Nums H xs l) (hi:i<l.length) (d:Nu):∃ v,xs[i]?=some v∧isN H v (l.getD i d):=by
  have hx:i<xs.length:=by rw [h.length];exact hi
  obtain ⟨q,h1,h2⟩:=h.get (List.getElem?_eq_getElem hx)
  refine ⟨_,List.getElem?_eq_getElem hx,?_⟩
  rw [List.getD_eq_getElem?_getD,h1]
  exact h2
theorem Nums.append {H:Hp}:∀ {xs ys:List V} {l m:List Nu},Nums H xs l→Nums H ys m→Nums H (xs++ys) (l++m)
  | [],_,[],_,_,h=>h
  | _::_,_,_::_,_,h,h2=>⟨h.1,Nums.append h.2 h2⟩
  | [],_,_::_,_,h,_=>h.elim
  | _::_,_,[],_,h,_=>h.elim
theorem Nums.one {H:Hp} {v:V} {q:Nu} (h:isN H v q):Nums H [v] [q]:=⟨h,trivial⟩
theorem Nums.take {H:Hp}:∀ {xs:List V} {l:List Nu} (n:Nat),Nums H xs l→Nums H (xs.take n) (l.take n)
  | [],[],n,_=>by simp [Nums]
  | _::_,_::_,0,_=>trivial
  | _::_,_::_,n+1,h=>⟨h.1,Nums.take n h.2⟩
  | [],_::_,_,h=>h.elim
  | _::_,[],_,h=>h.elim
theorem Nums.set {H:Hp} {v:V} {q:Nu} (hv:isN H v q):∀ {xs:List V} {l:List Nu} (i:Nat),Nums H xs l→Nums H (xs.set i v) (l.set i q)
  | [],[],_,_=>trivial
  | _::_,_::_,0,h=>⟨hv,h.2⟩
  | _::_,_::_,i+1,h=>⟨h.1,Nums.set hv i h.2⟩
  | [],_::_,_,h=>h.elim
  | _::_,[],_,h=>h.elim
theorem Nums.rep {H:Hp} {v:V} {q:Nu} (hv:isN H v q):∀ n:Nat,Nums H (List.replicate n v) (List.replicate n q)
  | 0=>trivial
  | n+1=>⟨hv,Nums.rep hv n⟩
theorem qc5 {α:Type} (v:α):∀ n:Nat,(List.replicate n [v]).flatten=List.replicate n v
  | 0=>rfl
  | n+1=>by rw [List.replicate_succ,List.flatten_cons,qc5 v n];rfl
theorem qcd {α:Type} {xs:List α} {i:Int} {j:Nat} {v:α} (e:i=(j:Int)) (h:xs[j]?=some v):atI xs i=some v:=by subst e;exact ql2 h
theorem qip {H:Hp} {p:Addr} {q:Nu}:isN (upd H p (.tup [.int q.1,.int q.2])) (.ref p) q:=⟨p,rfl,qai⟩
theorem qgN {xs:List V} {m:Nat} (h:m≤xs.length):qgt xs none (some (m:Int))=xs.take m:=by
  unfold qgt HT.sIx
  simp only [List.drop_zero,Nat.sub_zero,Int.toNat_natCast]
  rw [if_neg (by omega),Nat.min_eq_left h]
noncomputable def qn7 (H:Hp) (Q:VK) (l:List Nu):Prop:=∀ (r:Addr) (zs:List V) (H':Hp),Same H H'→H' r=some (.tup zs)→Nums H' zs l→Q (.ref r) H'
noncomputable def qoN (q:Nu):PySem.W.Dat:=.tuple [.int q.1,.int q.2]
noncomputable def qmR (l:List Nu):PySem.W.Dat:=.tuple (l.map qoN)
theorem qrr {H:Hp} {v:V} {q:Nu} (h:isN H v q):RepD H v (qoN q):=by
  obtain ⟨p,rfl,hp⟩:=h
  exact .tup hp (.cons (.int _) (.cons (.int _) .nil))
theorem qqE {H:Hp}:∀ {xs:List V} {l:List Nu},Nums H xs l→RepA H xs (l.map qoN)
  | [],[],_=>.nil
  | _::_,_::_,h=>.cons (qrr h.1) (qqE h.2)
  | [],_::_,h=>h.elim
  | _::_,[],h=>h.elim
theorem qpZ {H:Hp} {p:Addr} {xs:List V} {l:List Nu} (hp:H p=some (.tup xs)) (h:Nums H xs l):RepD H (.ref p) (qmR l):=.tup hp (qqE h)
theorem okN (q:Nu) (n:Nat):PySem.W.kqdOk (n+1) (qoN q)=true:=by simp [qoN,PySem.W.kqdOk]
theorem okP (l:List Nu) (n:Nat):PySem.W.kqdOk (n+2) (qmR l)=true:=by
  simp only [qmR,PySem.W.kqdOk,List.all_map,List.all_eq_true,Function.comp]
  intro q _
  exact okN q n
end Bs
set_option maxHeartbeats 4000000
namespace Bs
open PySem L2
theorem qkQ {g:Nat→Rat} {n:Nat} (h:∀ i,n<i→g i=0):∀ (a:List Rat) (k:Nat),a.length+n≤k→cvL a g k=0
  | [],_,_=>rfl
  | x::a,0,hk=>absurd hk (by rw [List.length_cons];omega)
  | x::a,k+1,hk=>by
    rw [List.length_cons] at hk
    rw [qal,h (k+1) (by omega),qkQ h a k (by omega)];grind
theorem qj1 {g:Nat→Rat} {n:Nat} (h0:g n≠0) (h:∀ i,n<i→g i=0) (S:List Rat):(∀ k,n≤k→cvL S g k=0)→∀ s∈S,s=0:=by
  induction hl:S.length generalizing S with
  | zero=>intro _ s hs;rw [List.length_eq_zero_iff.mp hl] at hs;exact nomatch hs
  | succ m ih=>
    intro hk
    have ne:S≠[]:=fun z=>by rw [z] at hl;simp at hl
    obtain ⟨T,t,rfl⟩:∃ T t,S=T++[t]:=⟨S.dropLast,S.getLast ne,(List.dropLast_concat_getLast ne).symm⟩
    have ht:t=0:=by
      have a:=hk (T.length+n) (by omega)
      rw [qbn,qkQ h T _ (Nat.le_refl _)] at a
      unfold upS at a
      rw [if_pos (by omega),show T.length+n - T.length=n by omega] at a
      have a':t*g n=0:=by grind
      rcases Rat.mul_eq_zero.mp a' with z | z
      · exact z
      · exact absurd z h0
    have hT2:=ih T (by simpa using hl) (fun k hk2=>by
      have a:=hk k hk2
      rw [qbn,ht] at a
      grind)
    intro s hs
    rcases List.mem_append.mp hs with h | h
    · exact hT2 s h
    · rw [List.mem_singleton.mp h];exact ht
theorem qgh {g:Nat→Rat}:∀ (S:List Rat),(∀ s∈S,s=0)→∀ k,cvL S g k=0
  | [],_,_=>rfl
  | x::S,h,0=>by rw [qao,h x (List.mem_cons_self ..)];grind
  | x::S,h,k+1=>by rw [qal,h x (List.mem_cons_self ..),qgh S (fun s hs=>h s (List.mem_cons_of_mem _ hs)) k];grind
theorem qpo {G:Nat→Rat} {n:Nat} (h0:G n≠0) (hG:∀ i,n<i→G i=0) {A B:List Rat} (h:∀ k,cvL A G k=cvL B G k) (g:Nat→Rat) (k:Nat):cvL A g k=cvL B g k:=by
  have z:=qgh (g:=g) (qa5 A (B.map ((-1:Rat)*·))) (qj1 h0 hG _ fun k _=>by rw [qax,qat,h k];grind) k
  rw [qax,qat] at z
  grind
end Bs
namespace Bs
open PySem L2
structure Sr where
  c:Nat→Rat
theorem Sr.ext' {f g:Sr} (h:∀ k,f.c k=g.c k):f=g:=by
  cases f;cases g;congr;exact funext h
noncomputable def tr (n:Nat) (f:Nat→Rat):List Rat:=(List.range n).map f
theorem qgO (n:Nat) (f:Nat→Rat) (k:Nat):(tr n f).getD k 0=if k<n then f k else 0:=by
  unfold tr
  rw [List.getD_eq_getElem?_getD,List.getElem?_map]
  by_cases h:k<n
  · rw [List.getElem?_range h,if_pos h];rfl
  · rw [if_neg h,List.getElem?_eq_none (by rw [List.length_range];omega)];rfl
theorem qd7:∀ (a b:List Rat) (g h:Nat→Rat) (k:Nat),(∀ i,i≤k→a.getD i 0=b.getD i 0)→(∀ i,i≤k→g i=h i)→cvL a g k=cvL b h k:=by
  intro a
  induction a with
  | nil=>
    intro b
    induction b with
    | nil=>intro g h k _ _;rfl
    | cons y b ih=>
      intro g h k ab gh
      have y0:=ab 0 (Nat.zero_le _)
      simp at y0
      cases k with
      | zero=>rw [qaE,qao,← y0];grind
      | succ k=>
        rw [qaE,qal,← y0]
        have:=ih g h k (fun i hi=>by have:=ab (i+1) (by omega);simpa using this) (fun i hi=>gh i (by omega))
        rw [qaE] at this
        grind
  | cons x a ih=>
    intro b g h k ab gh
    cases b with
    | nil=>
      have x0:=ab 0 (Nat.zero_le _)
      simp at x0
      cases k with
      | zero=>rw [qaE,qao,x0];grind
      | succ k=>
        rw [qaE,qal,x0]
        have:=ih [] g h k (fun i hi=>by have:=ab (i+1) (by omega);simpa using this) (fun i hi=>gh i (by omega))
        rw [qaE] at this
        grind
    | cons y b=>
      have x0:=ab 0 (Nat.zero_le _)
      simp at x0
      cases k with
      | zero=>rw [qao,qao,x0,gh 0 (Nat.le_refl _)]
      | succ k=>
        rw [qal,qal,x0,gh _ (Nat.le_refl _),ih b g h k (fun i hi=>by have:=ab (i+1) (by omega);simpa using this) (fun i hi=>gh i (by omega))]
namespace Sr
noncomputable def zero:Sr:=⟨fun _=>0⟩
noncomputable def one:Sr:=⟨qbT⟩
noncomputable def add (f g:Sr):Sr:=⟨fun k=>f.c k+g.c k⟩
noncomputable def neg (f:Sr):Sr:=⟨fun k=>- f.c k⟩
noncomputable def mul (f g:Sr):Sr:=⟨fun k=>cvL (tr (k+1) f.c) g.c k⟩
noncomputable def num (x:Rat):Sr:=⟨fun k=>x*qbT k⟩
theorem qkR (f g:Sr) {n k:Nat} (h:k<n):(mul f g).c k=cvL (tr n f.c) g.c k:=by
  refine qd7 _ _ _ _ _ (fun i hi=>?_) (fun _ _=>rfl)
  rw [qgO,qgO,if_pos (by omega),if_pos (by omega)]
theorem qj2 (f g:Sr) {n m k:Nat} (h:k<n) (h':k<m):(mul f g).c k=cvL (tr n f.c) (cvL (tr m g.c) qbT) k:=by
  rw [qkR f g h]
  refine qd7 _ _ _ _ _ (fun _ _=>rfl) (fun i hi=>?_)
  rw [qcJ,qgO,if_pos (by omega)]
theorem mul_comm (f g:Sr):mul f g=mul g f:=ext' fun k=>by
  rw [qj2 f g (Nat.lt_succ_self k) (Nat.lt_succ_self k),qj2 g f (Nat.lt_succ_self k) (Nat.lt_succ_self k),qep]
theorem mul_assoc (f g h:Sr):mul (mul f g) h=mul f (mul g h):=ext' fun k=>by
  rw [qkR (mul f g) h (Nat.lt_succ_self k),qkR f (mul g h) (Nat.lt_succ_self k)]
  have e1:cvL (tr (k+1) (mul f g).c) h.c k=cvL (qaW (tr (k+1) f.c) (tr (k+1) g.c)) h.c k:=by
    refine qd7 _ _ _ _ _ (fun i hi=>?_) (fun _ _=>rfl)
    rw [qgO,if_pos (by omega),← qcJ,qaq,qj2 f g (n:=k+1) (m:=k+1) (by omega) (by omega)]
  rw [e1,qaq]
  exact qd7 _ _ _ _ _ (fun _ _=>rfl) (fun i hi=>(qkR g h (by omega)).symm)
theorem mul_add (f g h:Sr):mul f (add g h)=add (mul f g) (mul f h):=ext' fun k=>by
  show cvL (tr (k+1) f.c) (fun k=>g.c k+h.c k) k=_
  rw [qd6];rfl
theorem mul_one (f:Sr):mul f one=f:=ext' fun k=>by
  show cvL (tr (k+1) f.c) qbT k=_
  rw [qcJ,qgO,if_pos (Nat.lt_succ_self k)]
theorem mul_zero (f:Sr):mul f zero=zero:=ext' fun k=>by
  show cvL (tr (k+1) f.c) (fun _=>0) k=0
  have:=qba (0:Rat) (fun _=>0) (tr (k+1) f.c) k
  rw [show (fun k:Nat=>(0:Rat)*(fun _=>(0:Rat)) k)=fun _=>0 from funext fun _=>by grind] at this
  rw [this];grind
noncomputable def npow (f:Sr):Nat→Sr
  | 0=>one
  | n+1=>mul (npow f n) f
noncomputable instance:Add Sr:=⟨add⟩
noncomputable instance:Mul Sr:=⟨mul⟩
noncomputable instance:Neg Sr:=⟨neg⟩
noncomputable instance:Sub Sr:=⟨fun f g=>add f (neg g)⟩
noncomputable instance:NatCast Sr:=⟨fun n=>num (n:Rat)⟩
noncomputable instance:IntCast Sr:=⟨fun n=>num (n:Rat)⟩
noncomputable instance (n:Nat):OfNat Sr n:=⟨num (n:Rat)⟩
noncomputable instance:Pow Sr Nat:=⟨npow⟩
noncomputable instance:SMul Nat Sr:=⟨fun n f=>mul (num (n:Rat)) f⟩
noncomputable instance:SMul Int Sr:=⟨fun n f=>mul (num (n:Rat)) f⟩
theorem num0:num 0=zero:=ext' fun k=>by show 0*qbT k=(0:Rat);grind
theorem num1:num 1=one:=ext' fun k=>by show 1*qbT k=(qbT k:Rat);grind
theorem qmS (x y:Rat):num (x+y)=add (num x) (num y):=ext' fun k=>by show (x+y)*qbT k=x*qbT k+y*qbT k;grind
theorem qj3 (x:Rat):num (-x)=neg (num x):=ext' fun k=>by show (-x)*qbT k = -(x*qbT k);grind
theorem add_comm (f g:Sr):add f g=add g f:=ext' fun k=>by show f.c k+g.c k=g.c k+f.c k;grind
theorem add_assoc (f g h:Sr):add (add f g) h=add f (add g h):=ext' fun k=>by show f.c k+g.c k+h.c k=f.c k+(g.c k+h.c k);grind
theorem add_zero (f:Sr):add f zero=f:=ext' fun k=>by show f.c k+0=f.c k;grind
theorem qj4 (f:Sr):add (neg f) f=zero:=ext' fun k=>by show -f.c k+f.c k=0;grind
theorem add_mul (f g h:Sr):mul (add f g) h=add (mul f h) (mul g h):=by rw [mul_comm,mul_add,mul_comm h f,mul_comm h g]
theorem neg_mul (f g:Sr):mul (neg f) g=neg (mul f g):=by
  have h:add (mul (neg f) g) (mul f g)=zero:=by rw [← add_mul,qj4,mul_comm,mul_zero]
  have h2:add (neg (mul f g)) (mul f g)=zero:=qj4 _
  refine ext' fun k=>?_
  have a:=congrFun (congrArg Sr.c h) k
  have b:=congrFun (congrArg Sr.c h2) k
  have a:(mul (neg f) g).c k+(mul f g).c k=0:=a
  have b:(neg (mul f g)).c k+(mul f g).c k=0:=b
  grind
noncomputable instance:Lean.Grind.CommRing Sr where
  add_zero f:=(congrArg (add f) num0).trans (add_zero f)
  add_comm:=add_comm
  add_assoc:=add_assoc
  mul_assoc:=mul_assoc
  mul_comm:=mul_comm
  mul_one f:=(congrArg (mul f) num1).trans (mul_one f)
  one_mul f:=(congrArg (fun z=>mul z f) num1).trans ((mul_comm _ _).trans (mul_one f))
  left_distrib:=mul_add
  right_distrib:=add_mul
  zero_mul f:=by show mul (num 0) f=num 0;rw [num0,mul_comm,mul_zero]
  mul_zero f:=by show mul f (num 0)=num 0;rw [num0,mul_zero]
  pow_zero f:=num1.symm
  pow_succ f n:=rfl
  ofNat_succ n:=by
    show num ((n+1:Nat):Rat)=add (num (n:Rat)) (num 1)
    rw [← qmS];push_cast;rfl
  ofNat_eq_natCast n:=rfl
  nsmul_eq_natCast_mul n f:=rfl
  sub_eq_add_neg f g:=rfl
  neg_add_cancel f:=(qj4 f).trans num0.symm
  intCast_neg n:=by show num ((-n:Int):Rat)=neg (num (n:Rat));rw [← qj3];push_cast;rfl
  intCast_ofNat n:=rfl
  neg_zsmul n f:=by show mul (num ((-n:Int):Rat)) f=neg (mul (num (n:Rat)) f);rw [show ((-n:Int):Rat) = -(n:Rat) by push_cast;rfl,qj3,neg_mul]
  zsmul_natCast_eq_nsmul n f:=rfl
end Sr
end Bs
namespace Bs
open PySem L2
namespace Sr
noncomputable def L (a:List Rat):Sr:=⟨cvL a qbT⟩
theorem L_mul (a:List Rat) (g:Sr):L a*g=⟨cvL a g.c⟩:=ext' fun k=>by
  refine qd7 _ _ _ _ _ (fun i hi=>?_) (fun _ _=>rfl)
  rw [qgO,if_pos (by omega)]
  exact qcJ a i
noncomputable def Bn (f:Sr) (n:Nat):Prop:=∀ k,n≤k→f.c k=0
theorem Bn.row {f:Sr} {n:Nat} (h:Bn f n):L (tr n f.c)=f:=ext' fun k=>by
  show cvL (tr n f.c) qbT k=f.c k
  rw [qcJ,qgO]
  by_cases hk:k<n
  · rw [if_pos hk]
  · rw [if_neg hk,h k (by omega)]
noncomputable def Pol (f:Sr):Prop:=∃ a,f=L a
theorem Pol.L (a:List Rat):Pol (L a):=⟨a,rfl⟩
theorem Bn.pol {f:Sr} {n:Nat} (h:Bn f n):Pol f:=⟨_,h.row.symm⟩
theorem qrP (a:List Rat):Bn (Sr.L a) a.length:=fun k hk=>by
  show cvL a qbT k=0
  rw [qcJ,List.getD_eq_getElem?_getD,List.getElem?_eq_none hk];rfl
theorem Pol.bn {f:Sr} (h:Pol f):∃ n,Bn f n:=let ⟨a,e⟩:=h;⟨a.length,e ▸ qrP a⟩
theorem Pol.add {f g:Sr} (h:Pol f) (h':Pol g):Pol (f+g):=by
  obtain ⟨a,rfl⟩:=h;obtain ⟨b,rfl⟩:=h'
  exact ⟨qa5 a b,ext' fun k=>(qax qbT a b k).symm⟩
theorem Pol.mul {f g:Sr} (h:Pol f) (h':Pol g):Pol (f*g):=by
  obtain ⟨a,rfl⟩:=h;obtain ⟨b,rfl⟩:=h'
  exact ⟨qaW a b,by rw [L_mul];exact ext' fun k=>(qaq qbT a b k).symm⟩
theorem Pol.num (x:Rat):Pol (num x):=⟨[x],ext' fun k=>by
  show x*qbT k=cvL [x] qbT k
  cases k with
  | zero=>rw [qao];grind
  | succ k=>rw [qal,qaE];grind⟩
theorem Pol.nat (n:Nat):Pol (OfNat.ofNat n:Sr):=Pol.num (n:Rat)
theorem Pol.neg {f:Sr} (h:Pol f):Pol (-f):=by
  have e:-f=Sr.num (-1)*f:=by
    have:Sr.num (-1)=(-1:Sr):=qj3 1
    rw [this];grind
  rw [e];exact (Pol.num _).mul h
theorem Pol.sub {f g:Sr} (h:Pol f) (h':Pol g):Pol (f - g):=by
  have e:f - g=f + -g:=by grind
  rw [e];exact h.add h'.neg
theorem Pol.pow {f:Sr} (h:Pol f):∀ n:Nat,Pol (f ^ n)
  | 0=>(num1 ▸ Pol.num 1:Pol one)
  | n+1=>(h.pow n).mul h
theorem top_ex {f:Sr}:∀ n,Bn f n→f=0∨∃ m,m<n∧f.c m≠0∧Bn f (m+1)
  | 0,h=>.inl (ext' fun k=>by rw [h k (Nat.zero_le _)];show 0=((0:Nat):Rat)*qbT k;push_cast;grind)
  | n+1,h=>by
    by_cases z:f.c n=0
    · rcases top_ex n (fun k hk=>by rcases Nat.eq_or_lt_of_le hk with e | e;exact e ▸ z;exact h k e) with q | ⟨m,m1,m2,m3⟩
      · exact .inl q
      · exact .inr ⟨m,by omega,m2,m3⟩
    · exact .inr ⟨n,by omega,z,h⟩
theorem zero_c (k:Nat):(0:Sr).c k=0:=by show ((0:Nat):Rat)*qbT k=0;push_cast;grind
theorem cancel {f g h:Sr} (pf:Pol f) (pg:Pol g) (ph:Pol h) (h0:h≠0) (e:f*h=g*h):f=g:=by
  obtain ⟨a,rfl⟩:=pf;obtain ⟨b,rfl⟩:=pg
  obtain ⟨n,hn⟩:=ph.bn
  rcases top_ex n hn with z | ⟨m,_,m1,m2⟩
  · exact absurd z h0
  rw [L_mul,L_mul] at e
  exact ext' fun k=>qpo m1 (fun i hi=>m2 i hi) (fun k=>congrFun (congrArg Sr.c e) k) qbT k
theorem ne_mul {f g:Sr} (pf:Pol f) (pg:Pol g) (f0:f≠0) (g0:g≠0):f*g≠0:=fun e=>f0 (cancel pf (Pol.nat 0) pg g0 (by rw [e];grind))
noncomputable def X (n:Nat):Sr:=L (List.replicate n 0++[1])
theorem qn8 (n:Nat) (g:Sr) (k:Nat):(X n*g).c k=if n≤k then g.c (k - n) else 0:=by
  unfold X
  rw [L_mul]
  show cvL (List.replicate n 0++[1]) g.c k=_
  rw [qcK]
  unfold upS
  by_cases h:n≤k
  · rw [if_pos h,if_pos h]
    cases k - n with
    | zero=>rw [qao];grind
    | succ k=>rw [qal,qaE];grind
  · rw [if_neg h,if_neg h]
theorem num_mul (x:Rat) (g:Sr) (k:Nat):(num x*g).c k=x*g.c k:=by
  have:num x=L [x]:=ext' fun k=>by
    show x*qbT k=cvL [x] qbT k
    cases k with
    | zero=>rw [qao];grind
    | succ k=>rw [qal,qaE];grind
  rw [this,L_mul]
  show cvL [x] g.c k=_
  cases k with
  | zero=>rw [qao];grind
  | succ k=>rw [qal,qaE];grind
theorem qrs (f g:Sr) (k:Nat):(f - g).c k=f.c k - g.c k:=by show f.c k + - g.c k=_;grind
theorem divide {g:Sr} {m:Nat} (g0:g.c m≠0) (hg:Bn g (m+1)):∀ (n:Nat) (f:Sr),Bn f n→∃ q r,Pol q∧Bn r m∧f=q*g+r
  | 0,f,h=>⟨0,f,Pol.nat 0,fun k _=>h k (Nat.zero_le _),by grind⟩
  | n+1,f,h=>by
    by_cases c:n+1≤m
    · exact ⟨0,f,Pol.nat 0,fun k hk=>h k (by omega),by grind⟩
    · obtain ⟨q,r,pq,br,e⟩:=divide g0 hg n (f - num (f.c n*(g.c m)⁻¹)*(X (n - m)*g)) fun k hk=>by
        rw [qrs,num_mul,qn8,if_pos (by omega)]
        rcases Nat.eq_or_lt_of_le hk with z | z
        · rw [← z,show n - (n - m)=m by omega]
          have:(g.c m)⁻¹*g.c m=1:=Rat.inv_mul_cancel _ g0
          grind
        · rw [h k z,hg (k - (n - m)) (by omega)];grind
      exact ⟨q+num (f.c n*(g.c m)⁻¹)*X (n - m),r,pq.add ((Pol.num _).mul (Pol.L _)),br,by grind⟩
theorem qoO:∀ (n:Nat) (S T:Sr),Pol S→Bn T n→(S≠0∨T≠0)→∃ g r e U W,Pol g∧Pol r∧Pol e∧Pol U∧Pol W∧g≠0∧S=g*r∧T=g*e∧U*r+W*e=1:=by
  intro n
  induction n using Nat.strongRecOn with
  | _ n ih=>
    intro S T pS bT h
    by_cases z:T=0
    · exact ⟨S,1,0,1,0,pS,Pol.nat 1,Pol.nat 0,Pol.nat 1,Pol.nat 0,by rcases h with h | h;exact h;exact absurd z h,by grind,by rw [z];grind,by grind⟩
    · rcases top_ex n bT with q | ⟨m,mn,m0,mb⟩
      · exact absurd q z
      obtain ⟨a,rfl⟩:=pS
      obtain ⟨q,r,pq,br,e⟩:=divide m0 mb _ _ (qrP a)
      obtain ⟨g,r1,e1,U,W,pg,pr,pe,pU,pW,g0,h1,h2,h3⟩:=ih m mn T r bT.pol br (.inl z)
      exact ⟨g,q*r1+e1,r1,W,U - W*q,pg,(pq.mul pr).add pe,pr,pW,pU.sub (pW.mul pq),g0,by rw [e,h1,h2];grind,h1,by grind⟩
noncomputable def D (f:Sr):Sr:=⟨fun k=>((k:Rat)+1)*f.c (k+1)⟩
theorem qqF (f g:Sr):D (f+g)=D f+D g:=ext' fun k=>by show ((k:Rat)+1)*(f.c (k+1)+g.c (k+1))=((k:Rat)+1)*f.c (k+1)+((k:Rat)+1)*g.c (k+1);grind
theorem D_num (x:Rat) (g:Sr):D (num x*g)=num x*D g:=ext' fun k=>by
  rw [num_mul]
  show ((k:Rat)+1)*(num x*g).c (k+1)=x*(((k:Rat)+1)*g.c (k+1))
  rw [num_mul];grind
theorem D_X (g:Sr):D (X 1*g)=g+X 1*D g:=ext' fun k=>by
  show ((k:Rat)+1)*(X 1*g).c (k+1)=g.c k+(X 1*D g).c k
  rw [qn8,qn8,if_pos (by omega)]
  cases k with
  | zero=>rw [if_neg (by omega)];push_cast;show ((0:Nat)+1)*g.c 0=_;push_cast;grind
  | succ k=>rw [if_pos (by omega)];show (((k+1:Nat):Rat)+1)*g.c (k+1)=g.c (k+1)+((k:Rat)+1)*g.c (k+1);push_cast;grind
theorem qoP (x:Rat) (a:List Rat):L (x::a)=num x+X 1*L a:=ext' fun k=>by
  show cvL (x::a) qbT k=x*qbT k+(X 1*L a).c k
  rw [qn8,qc3]
  cases k with
  | zero=>rw [if_neg (by omega)];rfl
  | succ k=>rw [if_pos (by omega)];rfl
theorem qrt:D (L [])=0:=ext' fun k=>by show ((k:Rat)+1)*cvL [] qbT (k+1)=_;rw [qaE,zero_c];grind
theorem L_nil:L []=0:=ext' fun k=>by rw [zero_c];rfl
theorem qmT (x:Rat):D (num x)=0:=ext' fun k=>by show ((k:Rat)+1)*(x*qbT (k+1))=_;rw [zero_c];show ((k:Rat)+1)*(x*0)=0;grind
theorem qoQ (g:Sr):∀ a:List Rat,D (L a*g)=D (L a)*g+L a*D g
  | []=>by
    have z:(0:Sr)=num 0:=rfl
    rw [qrt,L_nil,z,D_num,← z]
    grind
  | x::a=>by
    have ih:=qoQ g a
    have e:L (x::a)*g=num x*g+X 1*(L a*g):=by rw [qoP];grind
    rw [e,qqF,D_num,D_X,ih,qoP,qqF,D_X,qmT]
    grind
theorem D_mul {f:Sr} (pf:Pol f) (g:Sr):D (f*g)=D f*g+f*D g:=by
  obtain ⟨a,rfl⟩:=pf
  exact qoQ g a
theorem qru {f:Sr} {n:Nat} (h:Bn f (n+1)):Bn (D f) n:=fun k hk=>by show ((k:Rat)+1)*f.c (k+1)=0;rw [h (k+1) (by omega)];grind
theorem qr9 {f:Sr} {n:Nat} (h:f.c (n+1)≠0):D f≠0:=fun e=>by
  have:=congrFun (congrArg Sr.c e) n
  rw [zero_c] at this
  have this:((n:Rat)+1)*f.c (n+1)=0:=this
  rcases Rat.mul_eq_zero.mp this with z | z
  · have:((n:Rat)+1)=((n+1:Nat):Rat):=by push_cast;rfl
    rw [this] at z
    have:n+1=0:=by exact_mod_cast z
    omega
  · exact h z
theorem Pol.D {f:Sr} (h:Pol f):Pol (D f):=by
  obtain ⟨n,hn⟩:=h.bn
  exact Bn.pol (n:=n) (qru (n:=n) fun k hk=>hn k (by omega))
theorem rad_pow:∀ (n:Nat) (S R c:Sr),Bn S n→S≠0→Pol R→Pol c→D S*R=c*S→∃ (m:Nat) (a:Sr),Pol a∧R ^ m=a*S:=by
  intro n
  induction n using Nat.strongRecOn with
  | _ n ih=>
    intro S R c bS S0 pR pc e
    rcases top_ex n bS with z | ⟨m,mn,m0,mb⟩
    · exact absurd z S0
    cases m with
    | zero=>
      refine ⟨0,num (S.c 0)⁻¹,Pol.num _,ext' fun k=>?_⟩
      rw [num_mul]
      have e1:(R ^ 0).c k=qbT k:=rfl
      rw [e1]
      cases k with
      | zero=>show 1=_;have:(S.c 0)⁻¹*S.c 0=1:=Rat.inv_mul_cancel _ m0;grind
      | succ k=>show 0=_;rw [mb (k+1) (by omega)];grind
    | succ m=>
      obtain ⟨g,r,e1,U,W,pg,pr,pe,pU,pW,g0,h1,h2,h3⟩:=qoO _ S (D S) mb.pol (qru mb) (.inl S0)
      have sR:e1*R=c*r:=cancel (pe.mul pR) (pc.mul pr) pg g0 (by rw [h2,h1] at e;grind)
      have hR:R=(U*R+W*c)*r:=by
        have:R=(U*r+W*e1)*R:=by rw [h3];grind
        grind
      have pt:Pol (U*R+W*c):=(pU.mul pR).add (pW.mul pc)
      have dS:D g*r=g*(e1 - D r):=by
        have:=D_mul pg r
        rw [← h1,h2] at this
        grind
      have gR:D g*R=(e1 - D r)*(U*R+W*c)*g:=by
        have:D g*R=D g*r*(U*R+W*c):=by generalize U*R+W*c=t at hR;rw [hR];grind
        rw [this,dS]
        grind
      obtain ⟨N,hN⟩:=pg.bn
      obtain ⟨t,_,t0,tb⟩:=(top_ex N hN).resolve_left g0
      have tm:t≤m:=by
        rcases Nat.lt_or_ge m t with q | q
        · exfalso
          obtain ⟨E,rfl⟩:=pe
          have h2':D S=L E*g:=by rw [h2];grind
          rw [L_mul] at h2'
          refine qr9 m0 (ext' fun k=>?_)
          rw [h2',zero_c]
          exact qgh E (qj1 t0 (fun i hi=>tb i hi) E fun k hk=>by
            exact (congrFun (congrArg Sr.c h2') k).symm.trans (qru mb k (by omega))) k
        · exact q
      obtain ⟨M,a,pa,ea⟩:=ih (t+1) (by omega) g R _ tb g0 pR ((pe.sub pr.D).mul pt) gR
      refine ⟨M+1,a*(U*R+W*c),pa.mul pt,?_⟩
      have:R ^ (M+1)=R ^ M*R:=rfl
      rw [this,ea,h1]
      have:a*(U*R+W*c)*(g*r)=a*g*((U*R+W*c)*r):=by grind
      rw [this,← hR]
noncomputable def Cs (f g:Sr):Prop:=∃ U W,Pol U∧Pol W∧U*f+W*g=1
theorem Cs.comm {f g:Sr} (h:Cs f g):Cs g f:=let ⟨U,W,a,b,e⟩:=h;⟨W,U,b,a,by grind⟩
theorem Cs.mul {f g h:Sr} (pf:Pol f) (pg:Pol g) (h1:Cs f g) (h2:Cs f h):Cs f (g*h):=by
  obtain ⟨U,W,pU,pW,e⟩:=h1
  obtain ⟨U',W',pU',pW',e'⟩:=h2
  refine ⟨U+W*U'*g,W*W',pU.add ((pW.mul pU').mul pg),pW.mul pW',?_⟩
  have:(U+W*U'*g)*f+W*W'*(g*h)=U*f+W*g*(U'*f+W'*h):=by grind
  rw [this,e',← e];grind
theorem Cs.one {f:Sr}:Cs f 1:=⟨0,1,Pol.nat 0,Pol.nat 1,by grind⟩
theorem Cs.pow {f g:Sr} (pf:Pol f) (pg:Pol g) (h:Cs f g):∀ n:Nat,Cs f (g ^ n)
  | 0=>⟨0,1,Pol.nat 0,Pol.nat 1,by grind⟩
  | n+1=>Cs.mul pf (pg.pow n) (Cs.pow pf pg h n) h
theorem Cs.add {f g z c:Sr} (h:Cs f g) (pc:Pol c) (e:z=f+c*g):Cs z g:=by
  obtain ⟨U,W,pU,pW,q⟩:=h
  exact ⟨U,W - U*c,pU,pW.sub (pU.mul pc),by rw [e];grind⟩
theorem Cs.neg {f g:Sr} (h:Cs f g):Cs (-f) g:=by
  obtain ⟨U,W,pU,pW,q⟩:=h
  exact ⟨-U,W,pU.neg,pW,by grind⟩
end Sr
end Bs
namespace Bs
open PySem L2
namespace Sr
theorem pow_s (f:Sr) (n:Nat):f ^ (n+1)=f ^ n*f:=rfl
theorem pow_z (f:Sr):f ^ 0=1:=num1.symm
theorem qqG:(1:Sr)≠0:=fun h=>by
  have:=congrFun (congrArg Sr.c h) 0
  rw [zero_c] at this
  have this:((1:Nat):Rat)*qbT 0=0:=this
  have e:(qbT 0:Rat)=1:=rfl
  rw [e] at this
  push_cast at this
  grind
theorem pow_ne {f:Sr} (pf:Pol f) (f0:f≠0):∀ n:Nat,f ^ n≠0
  | 0=>by rw [pow_z];exact qqG
  | n+1=>by rw [pow_s];exact ne_mul (pf.pow n) pf (pow_ne pf f0 n) f0
theorem qqH {d:Sr} (pd:Pol d):∀ n:Nat,d*D (d ^ n)=num (n:Rat)*d ^ n*D d
  | 0=>by
    rw [pow_z,show D 1=0 from qmT _]
    show d*0=num ((0:Nat):Rat)*1*D d
    rw [show num ((0:Nat):Rat)=0 from rfl]
    grind
  | n+1=>by
    rw [pow_s,D_mul (pd.pow n),show num ((n+1:Nat):Rat)=num (n:Rat)+1 by rw [show ((n+1:Nat):Rat)=(n:Rat)+((1:Nat):Rat) by push_cast;rfl,qmS];rfl]
    have h:=qqH pd n
    grind
theorem qjj {b:Nat→Rat} {d:Nat} (h:∀ k,d<k→b k=0):∀ (a:List Rat) (k:Nat),d+a.length≤k→cvL a b k=0
  | [],_,_=>rfl
  | x::a,0,hk=>by simp at hk
  | x::a,k+1,hk=>by
    rw [qal,qjj h a k (by simp at hk;omega),h (k+1) (by simp at hk;omega)]
    grind
theorem top_mul {f g:Sr} {m n:Nat} (hf:Bn f (m+1)) (hg:Bn g (n+1)):(f*g).c (m+n)=f.c m*g.c n∧Bn (f*g) (m+n+1):=by
  have hi:∀ (a:List Rat) (k:Nat),n+a.length≤k→cvL a g.c k=0:=qjj fun k hk=>hg k hk
  rw [← hf.row,L_mul]
  refine ⟨?_,fun k hk=>hi _ k (by unfold tr;rw [List.length_map,List.length_range];omega)⟩
  show cvL (tr (m+1) f.c) g.c (m+n)=_
  have e:tr (m+1) f.c=tr m f.c++[f.c m]:=by unfold tr;rw [List.range_succ,List.map_append];rfl
  have tl:(tr m f.c).length=m:=by unfold tr;rw [List.length_map,List.length_range]
  rw [e,qbn,hi (tr m f.c) _ (by rw [tl];omega),tl]
  unfold upS
  rw [if_pos (by omega),show m+n - m=n by omega]
  have z:(L (tr m f.c++[f.c m])).c m=f.c m:=by
    rw [← e]
    exact congrFun (congrArg Sr.c hf.row) m
  rw [z]
  grind
theorem qpp {d g:Sr} (pd:Pol d) (pg:Pol g) (g0:g≠0) (h:∀ k:Nat,∃ q,Pol q∧g=d ^ k*q):∃ x:Rat,x≠0∧d=num x:=by
  obtain ⟨n,hn⟩:=pd.bn
  obtain ⟨N,hN⟩:=pg.bn
  rcases top_ex n hn with z | ⟨m,_,m0,mb⟩
  · obtain ⟨q,_,e⟩:=h 1
    exact absurd (by rw [e,pow_s,pow_z,z];grind) g0
  rcases Nat.eq_zero_or_pos m with z | mp
  · subst z
    refine ⟨d.c 0,m0,ext' fun k=>?_⟩
    show d.c k=d.c 0*qbT k
    cases k with
    | zero=>show _=d.c 0*1;grind
    | succ k=>rw [mb (k+1) (by omega)];show (0:Rat)=d.c 0*0;grind
  exfalso
  have key:∀ (k:Nat) (q:Sr),Pol q→q≠0→∃ j,k*m≤j∧(d ^ k*q).c j≠0∧Bn (d ^ k*q) (j+1):=fun k=>by
    induction k with
    | zero=>
      intro q pq q0
      obtain ⟨r,hr⟩:=pq.bn
      rcases top_ex r hr with z | ⟨j,_,j0,jb⟩
      · exact absurd z q0
      · refine ⟨j,by omega,?_⟩
        rw [pow_z,show (1:Sr)*q=q by grind]
        exact ⟨j0,jb⟩
    | succ k ih=>
      intro q pq q0
      obtain ⟨j,j1,j2,j3⟩:=ih q pq q0
      obtain ⟨t1,t2⟩:=top_mul mb j3
      rw [show d ^ (k+1)*q=d*(d ^ k*q) by rw [pow_s];grind]
      refine ⟨m+j,by rw [Nat.succ_mul];omega,?_,t2⟩
      rw [t1]
      intro z
      rcases Rat.mul_eq_zero.mp z with z | z
      · exact m0 z
      · exact j2 z
  obtain ⟨q,pq,e⟩:=h (N+1)
  have q0:q≠0:=fun z=>g0 (by rw [e,z];grind)
  obtain ⟨j,j1,j2,_⟩:=key (N+1) q pq q0
  rw [← e] at j2
  refine j2 (hN j ?_)
  have:(N+1)*1≤(N+1)*m:=Nat.mul_le_mul_left _ mp
  omega
theorem Cs.of_unit {f g d U W:Sr} {x:Rat} (x0:x≠0) (e:d=num x) (pU:Pol U) (pW:Pol W) (h:U*f+W*g=d):Cs f g:=by
  refine ⟨num (x⁻¹)*U,num (x⁻¹)*W,(Pol.num _).mul pU,(Pol.num _).mul pW,?_⟩
  have i:num (x⁻¹)*num x=1:=ext' fun k=>by
    rw [num_mul]
    show x⁻¹*(x*qbT k)=_
    have:x⁻¹*x=1:=Rat.inv_mul_cancel _ x0
    show _=((1:Nat):Rat)*qbT k
    push_cast
    grind
  rw [e] at h
  grind
theorem simple_cop {f g l m:Sr} (pg:Pol g) (pl:Pol l) (pm:Pol m) (f0:f≠0) (h1:f=g*l) (h2:D f=g*m) (c:Cs l m):Cs l (D l):=by
  have g0:g≠0:=fun z=>f0 (by rw [h1,z];grind)
  have l0:l≠0:=fun z=>f0 (by rw [h1,z];grind)
  obtain ⟨n,hn⟩:=pl.D.bn
  obtain ⟨d,r,e,U,W,pd,pr,pe,pU,pW,d0,e1,e2,e3⟩:=qoO n l (D l) pl hn (.inl l0)
  obtain ⟨U1,W1,pU1,pW1,e4⟩:=c
  have hs:D g*l=g*(m - D l):=by
    have:=D_mul pg l
    rw [← h1,h2] at this
    grind
  have dr:D d*r=d*(e - D r):=by
    have:=D_mul pd r
    rw [← e1,e2] at this
    grind
  have dv:∀ k:Nat,∃ q,Pol q∧g=d ^ k*q:=fun k=>by
    induction k with
    | zero=>exact ⟨g,pg,by rw [pow_z];grind⟩
    | succ k ih=>
      obtain ⟨h,ph,eh⟩:=ih
      have a1:d*D g=d ^ k*(num (k:Rat)*D d*h+d*D h):=by
        rw [eh,D_mul (pd.pow k)]
        have:=qqH pd k
        grind
      have a2:d ^ k*((num (k:Rat)*D d*h+d*D h)*r)=d ^ k*(h*(m - D l)):=by
        have:d*D g*r=g*(m - D l):=by
          rw [← hs,show D g*l=D g*(d*r) from congrArg _ e1]
          grind
        rw [a1] at this
        rw [eh] at this
        grind
      have a3:(num (k:Rat)*D d*h+d*D h)*r=h*(m - D l):=
        cancel ((((Pol.num _).mul pd.D).mul ph |>.add (pd.mul ph.D)).mul pr) (ph.mul (pm.sub pl.D)) (pd.pow k) (pow_ne pd d0 k) (by grind)
      have a4:h*m=d*(num (k:Rat)*h*(e - D r)+D h*r+h*e):=by
        rw [e2] at a3
        have:num (k:Rat)*D d*h*r=num (k:Rat)*h*(d*(e - D r)):=by rw [← dr];grind
        grind
      refine ⟨h*U1*r+W1*(num (k:Rat)*h*(e - D r)+D h*r+h*e),((ph.mul pU1).mul pr).add (pW1.mul ((((Pol.num _).mul ph).mul (pe.sub pr.D) |>.add (ph.D.mul pr)).add (ph.mul pe))),?_⟩
      have a5:h=d*(h*U1*r+W1*(num (k:Rat)*h*(e - D r)+D h*r+h*e)):=by
        rw [e1] at e4
        have:h=h*(U1*(d*r)+W1*m):=by rw [e4];grind
        grind
      rw [pow_s,eh]
      grind
  obtain ⟨x,x0,ex⟩:=qpp pd pg g0 dv
  exact Cs.of_unit x0 ex pU pW (by rw [e2,show U*l=U*(d*r) from congrArg _ e1];grind)
theorem Cs.parts {l p q r:Sr} (pl:Pol l) (pp:Pol p) (pq:Pol q) (pr:Pol r) (c:Cs l (D l)) (e:l=p*q*r):Cs p q:=by
  obtain ⟨U,W,pU,pW,h⟩:=c
  have d1:D l=D p*(q*r)+p*(D q*r+q*D r):=by
    rw [e,show p*q*r=p*(q*r) by grind,D_mul pp,D_mul pq]
  refine ⟨U*(q*r)+W*(D q*r+q*D r),W*(D p*r),(pU.mul (pq.mul pr)).add (pW.mul ((pq.D.mul pr).add (pq.mul pr.D))),pW.mul (pp.D.mul pr),?_⟩
  rw [d1,e] at h
  grind
theorem Cs.part {l p q:Sr} (pp:Pol p) (pq:Pol q) (c:Cs l (D l)) (e:l=p*q):Cs p (D p):=by
  obtain ⟨U,W,pU,pW,h⟩:=c
  have d1:D l=D p*q+p*D q:=by rw [e,D_mul pp]
  refine ⟨U*q+W*D q,W*q,(pU.mul pq).add (pW.mul pq.D),pW.mul pq,?_⟩
  rw [d1,e] at h
  grind
end Sr
end Bs
namespace Bs
open PySem
noncomputable def qbY (K:W.Frag):Addr:=match PySem.W.nsIn K PySem.mainGlobals "EXPONENTS" with | some (some (.ref a))=>a | _=>0
end Bs
namespace Bs
noncomputable def evF (f:Nat→Rat) (n:Nat) (x:Rat):Nat→Rat
  | 0=>0
  | d+1=>f (n - 1 - d)+x*evF f n x d
noncomputable def sy (c:Int) (R:Nat→Int) (n:Nat):Nat→Int
  | 0=>R (n - 1)
  | d+1=>R (n - 1 - (d+1))+c*sy c R n d
end Bs
namespace Bs
open PySem L2
noncomputable abbrev Nm (H:Hp) (p:Addr) (t d:Int):Prop:=H p=some (.tup [.int t,.int d])
noncomputable def qar (_:W.Frag):Sp:=fun vs H Q _=>∃ a b:Int,vs=[.int a,.int b]∧Q (.int ((Int.gcd a b:Nat):Int)) H
noncomputable def qjk (K:W.Frag):Sp:=fun vs H Q _=>∃ (a:Addr) (ns:List Int),vs=[.ref a]∧SqL K H a (ns.map V.int)∧ns.length≤63∧∀ H',Q (.bl true) H'
noncomputable def qcL (_:W.Frag):Sp:=fun vs H Q _=>∃ (x n:Int) (b:Nat),vs=[.int x,.int n]∧0≤n∧Bd b x∧b*n.toNat+1≤200000∧Q (.int (x ^ n.toNat)) H
noncomputable def qbU (n:Nat) (f:Nat→Int):List V:=((List.range n).map f).map V.int
noncomputable def qcz (ns:List Int):Nat→Nat
  | 0=>0
  | m+1=>if ns.getD m 1=0 then qcz ns m else m+1
noncomputable def qd8 (ns:List Int):List Int:=ns.take (qcz ns ns.length)
noncomputable def Pl (H:Hp) (r:Addr) (L:List Nu):Prop:=∃ zs,H r=some (.tup zs)∧Nums H zs L
noncomputable def qaM (_:W.Frag):Sp:=fun vs H Q _=>∃ (p:Addr) (ns:List Int),vs=[.ref p]∧H p=some (.lst (ns.map V.int))∧∀ r,H r=none→Q (.ref r) (upd H r (.lst ((qd8 ns).map V.int)))
end Bs
namespace Bs
open PySem L2
noncomputable def Tz (ns:List Int):Prop:=ns=[]∨co ns (ns.length - 1)≠0
noncomputable def SDs (H:Hp):List V→List (List Int)→Prop
  | [],[]=>True
  | x::xs,r::rs=>(∃ p,x=.ref p∧H p=some (.lst (r.map V.int)))∧SDs H xs rs
  | _,_=>False
noncomputable def SD (H:Hp) (p:Addr) (rs:List (List Int)):Prop:=∃ xs,H p=some (.lst xs)∧SDs H xs rs
noncomputable def ZipR (R:List Int→List Int→List Int→Prop):List (List Int)→List (List Int)→List (List Int)→Prop
  | [],[],[]=>True
  | a::as,b::bs,c::cs=>R a b c∧ZipR R as bs cs
  | _,_,_=>False
noncomputable def qbZ (_:W.Frag):Sp:=fun vs H Q _=>∃ (p:Addr) (ns:List Int) (st:Int),vs=[.ref p,.int st]∧H p=some (.lst (ns.map V.int))∧ns.length≤1000∧∀ (g:Int) (H':Hp),Same H H'→0≤g→g∣st→(∀ z∈ns,g∣z)→(∀ d:Int,d∣st→(∀ z∈ns,d∣z)→d∣g)→Q (.int g) H'
noncomputable def qbp (_:W.Frag):Sp:=fun vs H Q _=>∃ (p:Addr) (ns:List Int) (g:Int),vs=[.ref p,.int g]∧H p=some (.lst (ns.map V.int))∧(0<g∨ns=[])∧ns.length≤1000∧∀ r,H r=none→Q (.ref r) (upd H r (.lst ((ns.map (· / g)).map V.int)))
noncomputable def qbD (_:W.Frag):Sp:=fun vs H Q _=>∃ (p q:Addr) (ns ms:List Int) (f w:Int) (s:Nat),vs=[.ref p,.int f,.ref q,.int w,.int (s:Int)]∧H p=some (.lst (ns.map V.int))∧H q=some (.lst (ms.map V.int))∧ns.length≤1000∧s+ms.length≤1000∧Bd 60000000 f∧Bd 60000000 w∧(∀ z∈ns,Bd 60000000 z)∧(∀ z∈ms,Bd 60000000 z)∧
  ∀ (r:Addr) (rs:List Int) (H':Hp),Same H H'→H' r=some (.lst (rs.map V.int))→Tz rs→(∀ k,co rs k=f*co ns k - w*upS s (co ms) k)→Q (.ref r) H'
noncomputable def qaR (_:W.Frag):Sp:=fun vs H Q _=>∃ (p q:Addr) (ns ms:List Int) (b d:Nat),vs=[.ref p,.ref q]∧H p=some (.lst (ns.map V.int))∧H q=some (.lst (ms.map V.int))∧Lz ms∧(∀ z∈ns,Bd b z)∧(∀ z∈ms,Bd d z)∧b+ns.length*(d+1)≤60000000∧d≤60000000∧ns.length≤1000∧ms.length≤1000∧((¬ ∃ A:List Int,∀ k,co ns k=cvL A (co ms) k)→∀ H',Same H H'→Q .non H')∧
  ∀ (r:Addr) (qs:List Int) (H':Hp),Same H H'→H' r=some (.lst (qs.map V.int))→qs.length=ns.length+1 - ms.length→(∀ k,co ns k=cvL qs (co ms) k)→Q (.ref r) H'
noncomputable def Sh (rows rows':List (List Int)):Prop:=∃ g:Int,0<g∧rows=rows'.map (·.map (g*·))
noncomputable def qrv (rows:List (List Int)):Prop:=(∀ r∈rows,r=[])∨∀ d:Int,(∀ r∈rows,∀ z∈r,d∣z)→d.natAbs=1
noncomputable def qaH (_:W.Frag):Sp:=fun vs H Q _=>∃ (p:Addr) (rows:List (List Int)),vs=[.ref p]∧SD H p rows∧rows.length≤1000∧(∀ r∈rows,r.length≤1000∧Tz r)∧
  ∀ (t:Addr) (rows':List (List Int)) (H':Hp),Same H H'→SD H' t rows'→Sh rows rows'→qrv rows'→Q (.ref t) H'
noncomputable def qay (_:W.Frag):Sp:=fun vs H Q _=>∃ (p:Addr) (ns:List Int),vs=[.ref p]∧H p=some (.lst (ns.map V.int))∧ns.length≤1000∧Tz ns∧
  ∀ (t:Addr) (ms:List Int) (g:Int) (H':Hp),Same H H'→H' t=some (.lst (ms.map V.int))→0<g→ns=ms.map (g*·)→(ns=[]∨Prim ms)→Q (.ref t) H'
noncomputable def qbi (_:W.Frag):Sp:=fun vs H Q _=>∃ (p q:Addr) (o:List Int),vs=[.ref p,.ref q]∧SD H p [[]]∧SD H q [o]∧0<o.length∧∀ (t:Addr) (H':Hp),Same H H'→SD H' t [[]]→Q (.ref t) H'
noncomputable def qaV (_:W.Frag):Sp:=fun vs H Q _=>∃ (p q:Addr) (s o:List Int),vs=[.ref p,.ref q]∧SD H p [s]∧SD H q [o]∧(s=[]∨o=[])∧∀ (t:Addr) (H':Hp),Same H H'→SD H' t [if o=[] then s else o]→Q (.ref t) H'
noncomputable def qaX (_:W.Frag):Sp:=fun vs H Q _=>∃ a p:Int,vs=[.int a,.int p]∧2≤p∧Bd 45000 p∧∀ r:Int,0≤r→r<p→(Int.gcd a p=1→p∣r*a - 1)→Q (.int r) H
noncomputable def qa6 (_:W.Frag):Sp:=fun vs H Q _=>∃ (p:Addr) (ns:List Int) (m:Int),vs=[.ref p,.int m]∧H p=some (.lst (ns.map V.int))∧0<m∧ns.length≤1000∧∀ r,H r=none→Q (.ref r) (upd H r (.lst ((ns.map (· % m)).map V.int)))
noncomputable def Md (m:Int) (rs:List Int) (f:Nat→Int):Prop:=(∀ z∈rs,0≤z∧z<m)∧∀ k,m∣co rs k - f k
noncomputable def qaZ (_:W.Frag):Sp:=fun vs H Q _=>∃ (p:Addr) (ns:List Int) (m:Int),vs=[.ref p,.int m]∧H p=some (.lst (ns.map V.int))∧0<m∧ns.length≤1000∧∀ (r:Addr) (rs:List Int) (H':Hp),Same H H'→H' r=some (.lst (rs.map V.int))→Tz rs→rs.length≤ns.length→Md m rs (co ns)→Q (.ref r) H'
noncomputable def qaS (_:W.Frag):Sp:=fun vs H Q _=>∃ (q:Addr) (ns:List Int) (p:Nat),vs=[.ref q,.int (p:Int)]∧H q=some (.lst (ns.map V.int))∧Pr p∧Bd 45000 (p:Int)∧ns.length≤1000∧Tz ns∧(∀ z∈ns,0≤z∧z<(p:Int))∧
  ∀ (r:Addr) (rs:List Int) (f:Int) (H':Hp),Same H H'→H' r=some (.lst (rs.map V.int))→rs.length=ns.length→(ns≠[]→co rs (rs.length - 1)=1)→Md (p:Int) rs (fun k=>f*co ns k)→Q (.ref r) H'
noncomputable def qa7 (_:W.Frag):Sp:=fun vs H Q _=>∃ (p q:Addr) (ns ms:List Int) (m:Int) (b:Nat),vs=[.ref p,.ref q,.int m]∧H p=some (.lst (ns.map V.int))∧H q=some (.lst (ms.map V.int))∧0<ms.length∧co ms (ms.length - 1)=1∧0<m∧Bd b m∧(∀ z∈ms,Bd b z)∧b≤60000000∧ns.length≤1000∧ms.length≤1000∧
  ∀ (t r s:Addr) (qs rs:List Int) (H':Hp),Same H H'→H' t=some (.tup [.ref r,.ref s])→H' r=some (.lst (qs.map V.int))→H' s=some (.lst (rs.map V.int))→Tz qs→Tz rs→rs.length<ms.length→Md m rs (fun k=>co ns k - cvL qs (co ms) k)→(∀ z∈qs,0≤z∧z<m)→Q (.ref t) H'
noncomputable def qbj (_:W.Frag):Sp:=fun vs H Q _=>∃ (p q:Addr) (ns ms:List Int) (m:Int) (b:Nat),vs=[.ref p,.ref q,.int m]∧H p=some (.lst (ns.map V.int))∧H q=some (.lst (ms.map V.int))∧0<ms.length∧co ms (ms.length - 1)=1∧0<m∧Bd b m∧(∀ z∈ms,Bd b z)∧b≤60000000∧ns.length≤1000∧ms.length≤1000∧
  ∀ (s:Addr) (qs rs:List Int) (H':Hp),Same H H'→H' s=some (.lst (rs.map V.int))→Tz rs→rs.length<ms.length→Md m rs (fun k=>co ns k - cvL qs (co ms) k)→Q (.ref s) H'
noncomputable def qa0 (_:W.Frag):Sp:=fun vs H Q _=>∃ (a b:Addr) (ns ms:List Int) (p:Nat),vs=[.ref a,.ref b,.int (p:Int)]∧H a=some (.lst (ns.map V.int))∧H b=some (.lst (ms.map V.int))∧Pr p∧Bd 45000 (p:Int)∧ns.length≤1000∧ms.length≤1000∧((∃ k,¬ (p:Int)∣co ns k)∨∃ k,¬ (p:Int)∣co ms k)∧
  ∀ (s:Addr) (rs:List Int) (H':Hp),Same H H'→H' s=some (.lst (rs.map V.int))→0<rs.length→rs.length≤1000→co rs (rs.length - 1)=1→(∀ z∈rs,0≤z∧z<(p:Int))→(∀ g:Nat→Int,Dm (p:Int) g (co ns)→Dm (p:Int) g (co ms)→Dm (p:Int) g (co rs))→Dm (p:Int) (co rs) (co ns)→Dm (p:Int) (co rs) (co ms)→Q (.ref s) H'
noncomputable def qb0 (_:W.Frag):Sp:=fun vs H Q _=>∃ w p:Int,vs=[.int w,.int p]∧0<p∧∀ r:Int,p∣r - w→2*r.natAbs≤p.natAbs→Q (.int r) H
noncomputable def qrQ (d n c p:Nat):Prop:=2 ^ ((d+n*(2*c+4)+c+2)*(2*(n - 1)))<p
noncomputable def qaT (_:W.Frag):Sp:=fun vs H Q _=>∃ (a b:Addr) (ns ms:List Int) (p d n c:Nat),vs=[.ref a,.ref b,.int (p:Int)]∧H a=some (.lst (ns.map V.int))∧H b=some (.lst (ms.map V.int))∧Pr p∧Bd 45000 (p:Int)∧Lz ns∧Lz ms∧(∀ z∈ns,Bd d z)∧(∀ z∈ms,Bd d z)∧d+ns.length*45001≤1000000∧d+ms.length*45001≤1000000∧ns.length≤n∧ms.length≤n∧n<2 ^ c∧2≤n∧(¬ qrQ d n c p→∀ H',Same H H'→Q .non H')∧
  ∀ (s:Addr) (rs:List Int) (H':Hp),Same H H'→H' s=some (.lst (rs.map V.int))→RC (co ns) (co ms) rs→Prim rs→Q (.ref s) H'
noncomputable def qaN (_:W.Frag):Sp:=fun vs H Q _=>∃ (a b:Addr) (ns ms:List Int) (d n c:Nat),vs=[.ref a,.ref b]∧H a=some (.lst (ns.map V.int))∧H b=some (.lst (ms.map V.int))∧Tz ns∧Tz ms∧(∀ z∈ns,Bd d z)∧(∀ z∈ms,Bd d z)∧ns.length≤n∧ms.length≤n∧n≤20∧2≤n∧n<2 ^ c∧(d+n*(2*c+4)+c+2)*(2*(n - 1))≤44490∧((ns=[]∨ms=[])→2*3 ^ (ns.length+ms.length)*(d+1)≤60000000)∧
  ∀ (s:Addr) (rs:List Int) (H':Hp),Same H H'→H' s=some (.lst (rs.map V.int))→((ns≠[]∨ms≠[])→RC (co ns) (co ms) rs∧Prim rs)→(ns=[]→ms=[]→rs=[])→Q (.ref s) H'
end Bs
namespace Bs
open PySem L2
structure Gq (b c:Nat) (l:List Nu):Prop where
  low:qaJ l
  nz:Nz l
  ov:∃ M,Ov l M∧Bd c M∧∀ z∈ovN l M,Bd b z
noncomputable def mnc (g:List Int):List Nu:=g.map fun n=>qb7 n (co g (g.length - 1))
noncomputable def MR (g f:Nat→Rat):Prop:=∃ A:List Rat,∀ k,f k=cvL A g k
noncomputable def qb9 (_:W.Frag):Sp:=fun vs H Q _=>∃ a b:Int,vs=[.int a,.int b]∧b≠0∧∀ (p:Addr),H p=none→Q (.ref p) (upd H p (.tup [.int (qb7 a b).1,.int (qb7 a b).2]))
noncomputable def qd9 (_:W.Frag):Sp:=fun vs H Q _=>∃ (p:Addr) (xs:List V) (l:List Nu),vs=[.ref p]∧H p=some (.lst xs)∧Nums H xs l∧l.length≤1000∧qn7 H Q (trim l)
noncomputable def qbc (_:W.Frag):Sp:=fun vs H Q _=>∃ (p:Addr) (xs:List V) (l:List Nu) (M:Int),vs=[.ref p]∧H p=some (.tup xs)∧Nums H xs l∧qaJ l∧Ov l M∧Bd 400000 M∧(∀ q∈l,Bd 60000000 q.1)∧l.length≤1000∧
  ∀ (r a:Addr) (H':Hp),Same H H'→H' r=some (.tup [.ref a,.int (qfp l)])→H' a=some (.lst ((qdA l).map V.int))→Q (.ref r) H'
noncomputable def qbf (_:W.Frag):Sp:=fun vs H Q _=>∃ (p:Addr) (ns:List Int) (B:Int),vs=[.ref p,.int B]∧H p=some (.lst (ns.map V.int))∧B≠0∧ns.length≤1000∧qn7 H Q (trim (ns.map fun n=>qb7 n B))
noncomputable def qce (_:W.Frag):Sp:=fun vs H Q _=>∃ (p q:Addr) (xs ys:List V) (l m:List Nu) (b c n e:Nat),vs=[.ref p,.ref q]∧H p=some (.tup xs)∧H q=some (.tup ys)∧Nums H xs l∧Nums H ys m∧Gq b c l∧Gq b c m∧l.length≤n∧m.length≤n∧n≤20∧2≤n∧n<2 ^ e∧(b+n*(2*e+4)+e+2)*(2*(n - 1))≤44490∧c≤90000∧((l=[]∨m=[])→2*3 ^ (l.length+m.length)*(b+1)≤60000000)∧
  (l=[]→m=[]→qn7 H Q [])∧((l≠[]∨m≠[])→∀ g,RC (co (qdA l)) (co (qdA m)) g→Prim g→qn7 H Q (mnc g))
noncomputable def qjl (f:Nu→Nu→Nu) (_:W.Frag):Sp:=fun vs H Q _=>∃ (p q:Addr) (a b c d:Int),vs=[.ref p,.ref q]∧Nm H p a b∧Nm H q c d∧0<b∧0<d∧Bd 60000000 a∧Bd 60000000 b∧Bd 60000000 c∧Bd 60000000 d∧
  ∀ (r:Addr),H r=none→Q (.ref r) (upd H r (.tup [.int (f (a,b) (c,d)).1,.int (f (a,b) (c,d)).2]))
noncomputable def Cop (T B:Nat→Rat):Prop:=∃ U W:List Rat,∀ k,(qbT k:Rat)=cvL U T k+cvL W B k
noncomputable abbrev qe5:=qjl nmul
end Bs
namespace Bs
open PySem L2
structure Fr (l m T B:List Nu):Prop where
  eq:∀ k,cv (pwo T) (pwo m) T.length k=cv (pwo l) (pwo B) l.length k
  st:T.length≤l.length
  sb:B.length≤m.length
structure Fq (b c:Nat) (T B:List Nu):Prop where
  gt:Gq b c T
  gb:Gq b c B
  ne:B≠[]
  one:qbe B (B.length - 1)=(1,1)
  cop:Cop (pwo T) (pwo B)
structure S1 (b c n e:Nat):Prop where
  n20:n≤20
  n2:2≤n
  ne:n<2 ^ e
  lu:(b+n*(2*e+4)+e+2)*(2*(n - 1))≤44490
  cc:c≤60000
  em:2*3 ^ n*(b+1)≤60000000
  dv:(n+2)*(b+n*(2*e+4)+1)≤200000
noncomputable def D1 (b n e:Nat):Nat:=b+n*(2*e+4)
noncomputable def Bt (b n e:Nat):Nat:=3*b+2*D1 b n e+n+1
structure S2 (b n e:Nat):Prop where
  a:S1 b b n e
  n20:2*n - 1≤20
  lu:(Bt b n e+(2*n - 1)*(2*(e+1)+4)+(e+1)+2)*(2*(2*n - 1 - 1))≤44490
  cc:4*b+D1 b n e≤60000
  em:2*3 ^ n*(Bt b n e+1)≤60000000
  dv:(2*n+2)*(D1 b n e+n*(2*e+4)+1)+Bt b n e≤200000
noncomputable def rw' (l:List Nu):List Rat:=(List.range l.length).map (pwo l)
end Bs
namespace Bs
open PySem L2
noncomputable def dv (f:Nat→Rat) (k:Nat):Rat:=((k:Rat)+1)*f (k+1)
noncomputable def evN (l:List Nu) (x:Rat):Rat:=evF (pwo l) l.length x l.length
noncomputable def bS (b n e:Nat):Nat:=(b+5)+2*D1 (b+5) n e+n+2*b+1
noncomputable def bM (b n:Nat):Nat:=b+80*n+41*n*n+3
structure Mvd (s:Rat) (b n:Nat) (l L:List Nu):Prop where
  gq:Gq (bM b n) (bM b n) L
  len:L.length=l.length
  top:pwo L (l.length - 1)=pwo l (l.length - 1)
  ev:∀ x,evN L x=evN l (x+s)
noncomputable def qb1 (_:W.Frag):Sp:=fun vs H Q _=>∃ (p:Addr) (xs:List V) (l:List Nu) (b c:Nat),vs=[.ref p]∧H p=some (.tup xs)∧Nums H xs l∧Gq b c l∧l.length≤31∧b≤200000∧c≤200000∧
  ∀ (r:Addr) (R:List Nu) (H':Hp),Same H H'→Pl H' r R→Gq (b+5) c R→R.length=l.length - 1→(∀ k,pwo R k=dv (pwo l) k)→Q (.ref r) H'
structure S4 (b n e:Nat):Prop where
  a:S1 (b+5) (b+5) n e
  n20:2*n - 1≤20
  lu:(bS b n e+(2*n - 1)*(2*(e+1)+4)+(e+1)+2)*(2*(2*n - 1 - 1))≤44490
  m:S1 (bM b n+5) (bM b n+5) n e
  s8:bS b n e+4*b≤8000
  m8:bM b n≤8000
end Bs
namespace Bs
open PySem L2
noncomputable def Hand (H:Hp) (p a:Addr) (n:Int):Prop:=∃ (ns:List Int) (x y z:Int),H p=some (.lst [.ref a,.int x,.int y,.int z])∧H a=some (.lst (ns.map V.int))∧ns.length≤1000∧a≠p∧0≤x∧x≤n∧0≤y
noncomputable def qcM (K:W.Frag):Sp:=fun vs H Q _=>∃ (s:Addr) (ns:List Int),vs=[.ref s]∧SqL K H s (ns.map V.int)∧ns.length≤63∧∀ (p a:Addr) (H':Hp),H p=none→Kp p H H'→Hand H' p a 0→Q (.ref p) H'
noncomputable def qaU (_:W.Frag):Sp:=fun vs H Q _=>∃ (p a:Addr) (m n:Int),vs=[.ref p,.int m]∧Hand H p a n∧n≤100000∧0<m∧m≤1000∧
  ∀ (d:Int) (H':Hp),0≤d→d<m→Hand H' p a (n+2)→Kp p H H'→Q (.int d) H'
noncomputable abbrev qaY:=qb9
noncomputable def qbk (_:W.Frag):Sp:=fun vs H Q _=>∃ (p q:Addr) (a b:List Int) (n m:Nat),vs=[.ref p,.ref q]∧H p=some (.lst (a.map V.int))∧H q=some (.lst (b.map V.int))∧Lz a∧Lz b∧a.length≤20∧b.length≤20∧(∀ z∈a,Bd n z)∧(∀ z∈b,Bd m z)∧n≤1000∧m≤1000∧
  ∀ (r:Addr) (c:List Int) (H':Hp),Same H H'→H' r=some (.lst (c.map V.int))→c.length=a.length+b.length - 1→Lz c→(∀ k,co c k=ps a b a.length k)→Q (.ref r) H'
noncomputable def qbB (_:W.Frag):Sp:=fun vs H Q _=>∃ (p q:Addr) (ns:List Int) (t d:Int),vs=[.ref p,.ref q]∧H p=some (.lst (ns.map V.int))∧Nm H q t d∧d≠0∧Bd 1000 t∧(∀ z∈ns,Bd 1000 z)∧ns.length≤1000∧qn7 H Q (ns.map fun n=>qb7 (n*t) d)
noncomputable def qb2 (_:W.Frag):Sp:=fun vs H Q _=>∃ (p a:Addr) (n:Int),vs=[.ref p]∧Hand H p a n∧n≤90000∧
  ∀ (r:Addr) (t d:Int) (H':Hp),Nm H' r t d→Low t d→t≠0→Bd 4 t→Bd 4 d→Hand H' p a (n+6)→Kp p H H'→Q (.ref r) H'
noncomputable def qbg (_:W.Frag):Sp:=fun vs H Q _=>∃ (p a:Addr) (m s n:Int),vs=[.ref p,.int m,.int s]∧Hand H p a n∧n≤90000∧0≤m∧m≤8∧(s=9∨s=30)∧
  ∀ (r:Addr) (ns:List Int) (H':Hp),H' r=some (.lst (ns.map V.int))→(ns.length:Int)≤m+1→Lz ns→(∀ z∈ns,-s≤z∧z≤s)→r≠p→r≠a→Hand H' p a (n+40)→Kp p H H'→Q (.ref r) H'
noncomputable def qbq (_:W.Frag):Sp:=fun vs H Q _=>∃ (p:Addr) (ns:List Int),vs=[.ref p]∧H p=some (.lst (ns.map V.int))∧Lz ns∧ns.length≤1000∧qn7 H Q (mnc ns)
noncomputable def qb3 (_:W.Frag):Sp:=fun vs H Q _=>∃ (p q:Addr) (xs ys:List V) (l m:List Nu) (M1 M2:Int) (b c:Nat),vs=[.ref p,.ref q]∧H p=some (.tup xs)∧H q=some (.tup ys)∧Nums H xs l∧Nums H ys m∧qaJ l∧qaJ m∧Ov l M1∧Ov m M2∧Bd 900000 (M1*M2)∧(∀ z∈ovN l M1,Bd b z)∧(∀ z∈ovN m M2,Bd c z)∧b+c≤900000∧l.length≤100∧m.length≤100∧qn7 H Q (trim (qlp l m M1 M2 (l.length+m.length)))
end Bs
namespace Bs
open PySem L2
noncomputable def sr (l:List Nu):Sr:=⟨pwo l⟩
noncomputable def si (ns:List Int):Sr:=⟨fun k=>(co ns k:Rat)⟩
noncomputable def dI (ns:List Int):List Int:=(List.range (ns.length - 1)).map fun k=>((k+1:Nat):Int)*co ns (k+1)
noncomputable def RadOf (F L:Sr):Prop:=∃ S M:Sr,Sr.Pol S∧Sr.Pol L∧Sr.Pol M∧F=S*L∧Sr.D F=S*M∧Sr.Cs L M
noncomputable def qcf:Nat→List (List Nu)→Sr
  | _,[]=>1
  | i,p::ps=>sr p ^ i*qcf (i+1) ps
noncomputable def qbz:List (List Nu)→Sr
  | []=>1
  | p::ps=>sr p*qbz ps
structure Mo (p:List Nu):Prop where
  gq:Gq 148 148 p
  ne:p≠[]
  one:qbe p (p.length - 1)=(1,1)
  le:p.length≤9
structure Pts (l:List Nu) (ps:List (List Nu)):Prop where
  full:∃ c:Rat,c≠0∧sr l=Sr.num c*qcf 1 ps
  rad:∃ (c:Rat) (L:Sr),c≠0∧RadOf (sr l) L∧L=Sr.num c*qbz ps
  each:∀ p∈ps,Mo p
  last:∀ p,ps.getLast?=some p→2≤p.length
  none:ps=[]→l.length≤1
  many:ps.length≤12
noncomputable def PLs (H:Hp):List V→List (List Nu)→Prop
  | [],[]=>True
  | v::vs,p::ps=>(∃ a,v=.ref a∧Pl H a p)∧PLs H vs ps
  | _,_=>False
noncomputable def qbh (_:W.Frag):Sp:=fun vs H Q _=>∃ (p:Addr) (ns:List Int) (b:Nat),vs=[.ref p]∧H p=some (.lst (ns.map V.int))∧ns.length≤100∧(∀ z∈ns,Bd b z)∧b≤100000∧∀ (r:Addr) (H':Hp),Same H H'→H' r=some (.lst ((dI ns).map V.int))→Q (.ref r) H'
noncomputable def qa3 (_:W.Frag):Sp:=fun vs H Q _=>∃ (p:Addr) (ns:List Int),vs=[.ref p]∧H p=some (.lst (ns.map V.int))∧Lz ns∧ns.length≤1000∧qn7 H Q (mnc ns)
noncomputable def qbr (_:W.Frag):Sp:=fun vs H Q _=>∃ (p:Addr) (ns:List Int),vs=[.ref p]∧H p=some (.lst (ns.map V.int))∧Lz ns∧(∀ z∈ns,Bd 40 z)∧ns.length≤9∧
  ∀ (r:Addr) (rs:List Int) (H':Hp),Same H H'→H' r=some (.lst (rs.map V.int))→Lz rs→rs.length≤9→(∀ z∈rs,Bd 148 z)→(∃ (c:Rat) (L:Sr),c≠0∧RadOf (si ns) L∧si rs=Sr.num c*L)→Q (.ref r) H'
noncomputable def qa8 (_:W.Frag):Sp:=fun vs H Q _=>∃ (p:Addr) (xs:List V) (l:List Nu),vs=[.ref p]∧H p=some (.tup xs)∧Nums H xs l∧Gq 40 40 l∧l≠[]∧l.length≤9∧
  ∀ (r:Addr) (us:List V) (ps:List (List Nu)) (H':Hp),Same H H'→H' r=some (.lst us)→PLs H' us ps→Pts l ps→Q (.ref r) H'
noncomputable def qb4 (_:W.Frag):Sp:=fun vs H Q _=>∃ (p:Addr) (xs:List V) (l:List Nu),vs=[.ref p]∧H p=some (.tup xs)∧Nums H xs l∧Gq 40 40 l∧l≠[]∧l.length≤9∧
  ∀ (r:Addr) (R:List Nu) (H':Hp),Same H H'→Pl H' r R→Mo R→(∃ (c:Rat) (L:Sr),c≠0∧RadOf (sr l) L∧sr R=Sr.num c*L)→Q (.ref r) H'
noncomputable abbrev qe6:=qjl nadd
noncomputable abbrev qcg:=qjl nmul
noncomputable abbrev qch:=qd9
noncomputable def qb5 (_:W.Frag):Sp:=fun vs H Q _=>∃ (p:Addr) (us:List V) (ps:List (List Nu)),vs=[.ref p]∧H p=some (.lst us)∧PLs H us ps∧(∀ p∈ps,Mo p)∧ps.length≤12∧(∀ p∈ps,Sr.Cs (sr p) (Sr.D (sr p)))∧(∀ i j:Nat,j<i→i<ps.length→Sr.Cs (sr (ps.getD i [])) (sr (ps.getD j [])))∧∀ H',Same H H'→Q (.bl true) H'
end Bs
namespace Bs
open PySem L2
set_option linter.unusedVariables false
noncomputable def qcv (K:W.Frag):TS:=
  (qaO (qc0 (qbd (tOp rNe (qag 1) (tC (.int 0)))) (qaO (qa1 (tOp qpc (qag 0) (qag 1)) (qam 2))
    (qaO (qa1 (qag 1) (qam 0))
    (qa1 (qag 2) (qam 1)))))
    (qbE (tCB qnR (qab (qag 0) qau))))
noncomputable def qiq (K:W.Frag):TS:=
  (qaO (qa1 (tC (.int 1)) (qam 2))
    (qaO (qa1 (qag 0) (qam 3))
    (qaO (qc0 (qbd (tOp iGt (qag 1) (tC (.int 0)))) (qaO (qgp (qbd (tOp rEq (tOp qic (qag 1) (tC (.int 2))) (tC (.int 1)))) (qnL 2 (qag 3) qdS) qcC)
    (qaO (qnL 1 (tC (.int 2)) qi9)
    (qgp (qbd (tOp iGt (qag 1) (tC (.int 0)))) (qnL 3 (qag 3) qdS) qcC))))
    (qbE (qag 2)))))
noncomputable def qgP (K:W.Frag):TS:=
  (qaO (qa1 (qaw (qar K) [] E0 (qab (qnU (qkG (qdV K (qag 0)) [none] (qam 0) (qbd (tOp rNe (qag 0) (tC (.int 0)))) (tCB qnR (qab (qag 0) qau)))) (qab (qag 1) qau))) (qam 2))
    (qaO (qfo (qdV K (qag 0)) (qam 3) (qaO (qgp (qbd (tOp rEq (qag 2) (tC (.int 1)))) (qbE (tC (.int 1))) qcC)
    (qa1 (qaw (qar K) [] E0 (qab (qag 3) (qab (qag 2) qau))) (qam 2))))
    (qbE (qag 2))))
noncomputable def qdE (K:W.Frag):TS:=
  (qaO (qa1 (tCB qbX (qab (qag 0) qau)) (qam 1))
    (qaO (qc0 (qlJ (qbd (tOp iGt (qag 1) (tC (.int 0)))) (qbd (tOp rEq (tOp gL (qag 0) (tOp qft (qag 1) (tC (.int 1)))) (tC (.int 0))))) (qnL 1 (tC (.int 1)) qft))
    (qbE (tSl sL (qag 0) qcr (qf0 (qag 1))))))
noncomputable def qea (K:W.Frag):TS:=
  (qbE (qcI (qdV K (qag 0)) [none,some 1] (qam 0) (tOp qjY (qag 0) (qag 1))))
noncomputable def qeN (K:W.Frag):TS:=
  (qbE (qcI (qlR (qab (tC (.int 1)) (qab (tCB qbX (qab (qag 0) qau)) qau))) [none,some 0] (qam 0) (tOp qdS (qag 0) (tOp gL (qag 1) (qag 0)))))
noncomputable def qeb (K:W.Frag):TS:=
  (qgp (qbd (tOp rNe (qag 6) (tC (.int 0)))) (qfo (qhn (qab (qag 3) qau)) (qam 7) (qk9 (qag 2) (tOp qes (qag 5) (qag 7)) (tOp qdS (qag 6) (tOp gL (qag 1) (qag 7))) gL qft qeY)) qcC)
noncomputable def qec (K:W.Frag):TS:=
  (qaO (qa1 (qag 6) (qlO (qag 4) (qag 5) qeY))
    (qeb K))
noncomputable def qed (K:W.Frag):TS:=
  (qaO (qgp (qbd (tOp rNe (tOp qdS (qag 6) (tOp gL (qag 1) (tUn qf1 (tC (.int 1))))) (tOp gL (qag 2) (tOp qes (qag 5) (qag 3))))) (qbE (tC .non)) qcC)
    (qec K))
noncomputable def qee (K:W.Frag):TS:=
  (qaO (qa1 (tOp qhp (tOp gL (qag 2) (tOp qes (qag 5) (qag 3))) (tOp gL (qag 1) (tUn qf1 (tC (.int 1))))) (qam 6))
    (qed K))
noncomputable def qfR (K:W.Frag):TS:=
  (qbE (tIf (tB (tCB qnV (qab (tSl sL (qag 2) qcr (qf0 (qag 3))) qau))) (tC .non) (qag 4)))
noncomputable def qfS (K:W.Frag):TS:=
  (qaO (qfo (qnT (qab (tOp qft (tOp qft (tCB qbX (qab (qag 0) qau)) (qag 3)) (tC (.int 1))) (qab (tUn qf1 (tC (.int 1))) (qab (tUn qf1 (tC (.int 1))) qau)))) (qam 5) (qee K))
    (qfR K))
noncomputable def qfT (K:W.Frag):TS:=
  (qaO (qa1 (tOp qoB (qga (qab (tC (.int 0)) qau)) (tCB qpY (qab (tOp qft (tCB qbX (qab (qag 0) qau)) (qag 3)) (qab (tC (.int 0)) qau)))) (qam 4))
    (qfS K))
noncomputable def qfU (K:W.Frag):TS:=
  (qaO (qa1 (tOp qft (tCB qbX (qab (qag 1) qau)) (tC (.int 1))) (qam 3))
    (qfT K))
noncomputable def qfx (K:W.Frag):TS:=
  (qaO (qa1 (tCB qhO (qab (qag 0) qau)) (qam 2))
    (qfU K))
noncomputable def qfy (K:W.Frag):TS:=
  (qaO (qa1 (qcI (qdV K (qag 0)) [none,some 1] (qam 0) (tOp qdS (qag 1) (qag 0))) (qam 5))
    (qaO (qk8 (tBM K "list" qh6 (qag 5) (qab (tOp qoB (qga (qab (tC (.int 0)) qau)) (tOp qft (tOp qes (tCB qbX (qab (qag 2) qau)) (qag 4)) (tCB qbX (qab (qag 0) qau)))) qau)))
    (qaO (qfo (qgF K (qab (qag 2) qau)) (qho 2 (qdU (qam 6) (qdU (qam 7) qnI))) (qk9 (qag 5) (tOp qes (qag 6) (qag 4)) (tOp qdS (qag 3) (qag 7)) gL qft qeY))
    (qbE (qaw (qaM K) [] E0 (qab (qag 5) qau))))))
noncomputable def qe7 (K:W.Frag):TS:=
  (qa1 (qcI (qrm K (qab (qag 0) (qab (qag 1) qau))) [none,none,some 6,some 7,some 2] (qho 2 (qdU (qam 0) (qdU (qam 1) qnI))) (qaw (qbD K) [] E0 (qab (qag 0) (qab (qag 2) (qab (qag 1) (qab (qag 3) (qab (qag 4) qau))))))) (qam 0))
noncomputable def qe8 (K:W.Frag):TS:=
  (qaO (qa1 (tOp qhp (qag 3) (qag 5)) (qam 7))
    (qe7 K))
noncomputable def qe9 (K:W.Frag):TS:=
  (qaO (qa1 (tOp qhp (qag 4) (qag 5)) (qam 6))
    (qe8 K))
noncomputable def qfa (K:W.Frag):TS:=
  (qaO (qa1 (qaw (qar K) [] E0 (qab (qag 3) (qab (qag 4) qau))) (qam 5))
    (qe9 K))
noncomputable def qfb (K:W.Frag):TS:=
  (qaO (qa1 (tOp gL (tOp gL (qag 1) (tC (.int 0))) (tUn qf1 (tC (.int 1)))) (qam 4))
    (qfa K))
noncomputable def qfc (K:W.Frag):TS:=
  (qaO (qa1 (tOp gL (tOp gL (qag 0) (tC (.int 0))) (tUn qf1 (tC (.int 1)))) (qam 3))
    (qfb K))
noncomputable def qfd (K:W.Frag):TS:=
  (qaO (qa1 (tOp qft (tCB qbX (qab (tOp gL (qag 0) (tC (.int 0))) qau)) (tCB qbX (qab (tOp gL (qag 1) (tC (.int 0))) qau))) (qam 2))
    (qfc K))
noncomputable def qef (K:W.Frag):TS:=
  (qbE (qaw (qaH K) [] E0 (qab (qag 0) qau)))
noncomputable def qdF (K:W.Frag):TS:=
  (qaO (qc0 (qbd (tOp iGe (tCB qbX (qab (tOp gL (qag 0) (tC (.int 0))) qau)) (tCB qbX (qab (tOp gL (qag 1) (tC (.int 0))) qau)))) (qfd K))
    (qef K))
noncomputable def qbQ (K:W.Frag):TS:=
  (qaO (qa1 (tC (.int 0)) (qam 1))
    (qaO (qfo (qdV K (qag 0)) (qam 2) (qa1 (qaw (qbZ K) [] E0 (qab (qag 2) (qab (qag 1) qau))) (qam 1)))
    (qbE (qcI (qdV K (qag 0)) [none,some 1] (qam 0) (qaw (qbp K) [] E0 (qab (qag 0) (qab (qag 1) qau)))))))
noncomputable def qcN (K:W.Frag):TS:=
  (qbE (tOp gL (qaw (qaH K) [] E0 (qab (qga (qab (qag 0) qau)) qau)) (tC (.int 0))))
noncomputable def qcO (K:W.Frag):TS:=
  (qaO (qc0 (qif (tOp gL (qag 1) (tC (.int 0)))) (qaO (qgp (qbd (tOp rEq (tCB qbX (qab (tOp gL (qag 1) (tC (.int 0))) qau)) (tC (.int 1)))) (qbE (qag 1)) qcC)
    (qaO (qa1 (qaw (qbi K) [] E0 (qab (qag 0) (qab (qag 1) qau))) (qam 2))
    (qaO (qa1 (qag 1) (qam 0))
    (qa1 (qag 2) (qam 1))))))
    (qbE (qag 0)))
noncomputable def qci (K:W.Frag):TS:=
  (qa1 (qag 7) (qam 5))
noncomputable def qcj (K:W.Frag):TS:=
  (qaO (qa1 (qag 5) (qam 4))
    (qci K))
noncomputable def qck (K:W.Frag):TS:=
  (qaO (qa1 (tOp qft (qag 4) (tOp qdS (qag 6) (qag 5))) (qam 7))
    (qcj K))
noncomputable def qcl (K:W.Frag):TS:=
  (qaO (qa1 (qag 7) (qam 3))
    (qck K))
noncomputable def qcm (K:W.Frag):TS:=
  (qaO (qa1 (qag 3) (qam 2))
    (qcl K))
noncomputable def qcn (K:W.Frag):TS:=
  (qaO (qa1 (tOp qft (qag 2) (tOp qdS (qag 6) (qag 3))) (qam 7))
    (qcm K))
noncomputable def qco (K:W.Frag):TS:=
  (qaO (qa1 (tOp qjY (qag 2) (qag 3)) (qam 6))
    (qcn K))
noncomputable def qc6 (K:W.Frag):TS:=
  (qbE (tOp qic (qag 4) (qag 1)))
noncomputable def qc7 (K:W.Frag):TS:=
  (qaO (qc0 (qbd (tOp rNe (qag 3) (tC (.int 0)))) (qco K))
    (qc6 K))
noncomputable def qc8 (K:W.Frag):TS:=
  (qaO (qa1 (tC (.int 1)) (qam 5))
    (qc7 K))
noncomputable def qc9 (K:W.Frag):TS:=
  (qaO (qa1 (tC (.int 0)) (qam 4))
    (qc8 K))
noncomputable def qda (K:W.Frag):TS:=
  (qaO (qa1 (tOp qic (qag 0) (qag 1)) (qam 3))
    (qc9 K))
noncomputable def qcw (K:W.Frag):TS:=
  (qaO (qa1 (qag 1) (qam 2))
    (qda K))
noncomputable def qdi (K:W.Frag):TS:=
  (qbE (qcI (qdV K (qag 0)) [none,some 1] (qam 0) (tOp qic (qag 0) (qag 1))))
noncomputable def qeg (K:W.Frag):TS:=
  (qbE (qaw (qaM K) [] E0 (qab (qaw (qa6 K) [] E0 (qab (qag 0) (qab (qag 1) qau))) qau)))
noncomputable def qdj (K:W.Frag):TS:=
  (qaO (qgp (qq6 (qif (qag 0))) (qbE (qga qau)) qcC)
    (qaO (qa1 (qaw (qaX K) [] E0 (qab (tOp gL (qag 0) (tUn qf1 (tC (.int 1)))) (qab (qag 1) qau))) (qam 2))
    (qbE (qcI (qdV K (qag 0)) [none,some 1,some 2] (qam 0) (tOp qic (tOp qdS (qag 0) (qag 2)) (qag 1))))))
noncomputable def qcP (K:W.Frag):TS:=
  (qgp (qbd (tOp rNe (qag 7) (tC (.int 0)))) (qfo (qhn (qab (qag 4) qau)) (qam 8) (qk9 (qag 3) (tOp qes (qag 6) (qag 8)) (tOp qdS (qag 7) (tOp gL (qag 1) (qag 8))) gL qft qeY)) qcC)
noncomputable def qcQ (K:W.Frag):TS:=
  (qaO (qa1 (qag 7) (qlO (qag 5) (qag 6) qeY))
    (qcP K))
noncomputable def qcR (K:W.Frag):TS:=
  (qaO (qa1 (tOp qic (tOp gL (qag 3) (tOp qes (qag 6) (qag 4))) (qag 2)) (qam 7))
    (qcQ K))
noncomputable def qdJ (K:W.Frag):TS:=
  (qbE (qh3 (qab (qaw (qaM K) [] E0 (qab (qag 5) qau)) (qab (qaw (qaZ K) [] E0 (qab (tSl sL (qag 3) qcr (qf0 (qag 4))) (qab (qag 2) qau))) qau))))
noncomputable def qdK (K:W.Frag):TS:=
  (qaO (qfo (qnT (qab (tOp qft (tOp qft (tCB qbX (qab (qag 0) qau)) (qag 4)) (tC (.int 1))) (qab (tUn qf1 (tC (.int 1))) (qab (tUn qf1 (tC (.int 1))) qau)))) (qam 6) (qcR K))
    (qdJ K))
noncomputable def qdL (K:W.Frag):TS:=
  (qaO (qa1 (tOp qoB (qga (qab (tC (.int 0)) qau)) (tCB qpY (qab (tOp qft (tCB qbX (qab (qag 0) qau)) (qag 4)) (qab (tC (.int 0)) qau)))) (qam 5))
    (qdK K))
noncomputable def qdM (K:W.Frag):TS:=
  (qaO (qa1 (tOp qft (tCB qbX (qab (qag 1) qau)) (tC (.int 1))) (qam 4))
    (qdL K))
noncomputable def qdk (K:W.Frag):TS:=
  (qaO (qa1 (tCB qhO (qab (qag 0) qau)) (qam 3))
    (qdM K))
noncomputable def qdG (K:W.Frag):TS:=
  (qbE (tOp gT (qaw (qa7 K) [] E0 (qab (qag 0) (qab (qag 1) (qab (qag 2) qau)))) (tC (.int 1))))
noncomputable def qcS (K:W.Frag):TS:=
  (qaO (qa1 (qaw (qaS K) [] E0 (qab (qaw (qaZ K) [] E0 (qab (qag 0) (qab (qag 2) qau))) (qab (qag 2) qau))) (qam 0))
    (qaO (qa1 (qaw (qaS K) [] E0 (qab (qaw (qaZ K) [] E0 (qab (qag 1) (qab (qag 2) qau))) (qab (qag 2) qau))) (qam 1))
    (qaO (qc0 (qif (qag 1)) (qaO (qa1 (qaw (qbj K) [] E0 (qab (qag 0) (qab (qag 1) (qab (qag 2) qau)))) (qam 3))
    (qaO (qa1 (qag 1) (qam 0))
    (qa1 (qaw (qaS K) [] E0 (qab (qag 3) (qab (qag 2) qau))) (qam 1)))))
    (qbE (qag 0)))))
noncomputable def qgQ (K:W.Frag):TS:=
  (qaO (qa1 (tOp qic (qag 0) (qag 1)) (qam 2))
    (qbE (tIf (qbd (tOp iGt (tOp qdS (tC (.int 2)) (qag 2)) (qag 1))) (tOp qft (qag 2) (qag 1)) (qag 2))))
noncomputable def qb6 (K:W.Frag):TS:=
  (qaO (qa1 (qaw (qar K) [] E0 (qab (tOp gL (qag 0) (tUn qf1 (tC (.int 1)))) (qab (tOp gL (qag 1) (tUn qf1 (tC (.int 1)))) qau))) (qam 3))
    (qaO (qgp (qbd (tOp rEq (tOp qic (qag 3) (qag 2)) (tC (.int 0)))) (qbE (tC .non)) qcC)
    (qaO (qa1 (qaw (qa0 K) [] E0 (qab (qag 0) (qab (qag 1) (qab (qag 2) qau)))) (qam 4))
    (qaO (qa1 (qaw (qay K) [] E0 (qab (qcI (qdV K (qag 4)) [none,some 2,some 3] (qam 0) (qaw (qb0 K) [] E0 (qab (tOp qdS (qag 2) (qag 0)) (qab (qag 1) qau)))) qau)) (qam 5))
    (qaO (qgp (tOr (qbd (tOp qra (qaw (qaR K) [] E0 (qab (qag 0) (qab (qag 5) qau))) (tC .non))) (qbd (tOp qra (qaw (qaR K) [] E0 (qab (qag 1) (qab (qag 5) qau))) (tC .non)))) (qbE (tC .non)) qcC)
    (qbE (qag 5)))))))
noncomputable def qeh (K:W.Frag):TS:=
  (qaO (qa1 (qaw (qay K) [] E0 (qab (qag 0) qau)) (qam 2))
    (qaO (qa1 (qaw (qay K) [] E0 (qab (qag 1) qau)) (qam 3))
    (qaO (qgp (qlJ (qif (qag 0)) (qif (qag 1))) (qfo (qpW K (tC (.ref (qbY K)))) (qam 4) (qaO (qa1 (qaw (qaT K) [] E0 (qab (qag 2) (qab (qag 3) (qab (tOp qft (qaw (qcL K) [] E0 (qab (tC (.int 2)) (qab (qag 4) qau))) (tC (.int 1))) qau)))) (qam 5))
    (qgp (qbd (tOp qpd (qag 5) (tC .non))) (qbE (qag 5)) qcC))) qcC)
    (qbE (tOp gL (qaw (qaV K) [] E0 (qab (qga (qab (qag 2) qau)) (qab (qga (qab (qag 3) qau)) qau))) (tC (.int 0)))))))
noncomputable def qeu (K:W.Frag):TS:=
  (qbE (tIf (qbd (tOp iGt (tOp gL (qag 2) (tUn qf1 (tC (.int 1)))) (tC (.int 0)))) (qag 2) (qcI (qdV K (qag 2)) [none] (qam 0) (tUn qf1 (qag 0)))))
noncomputable def qev (K:W.Frag):TS:=
  (qaO (qa1 (qaw (qaR K) [] E0 (qab (qag 1) (qab (qaw (qaN K) [] E0 (qab (qag 1) (qab (qaw (qbh K) [] E0 (qab (qag 1) qau)) qau))) qau))) (qam 2))
    (qeu K))
noncomputable def qei (K:W.Frag):TS:=
  (qaO (qa1 (qaw (qay K) [] E0 (qab (qag 0) qau)) (qam 1))
    (qev K))
noncomputable def qj5 (K:W.Frag):TS:=
  (qaO (qa1 (qaw (qar K) [] E0 (qab (qag 0) (qab (qag 1) qau))) (qam 2))
    (qaO (qgp (qbd (tOp iLt (qag 1) (tC (.int 0)))) (qa1 (tUn qf1 (qag 2)) (qam 2)) qcC)
    (qbE (qh3 (qab (tOp qhp (qag 0) (qag 2)) (qab (tOp qhp (qag 1) (qag 2)) qau))))))
noncomputable def qj6 (K:W.Frag):TS:=
  (qbE (qaw (qb9 K) [] E0 (qab (tOp qdS (tOp gT (qag 0) (tC (.int 0))) (tOp gT (qag 1) (tC (.int 0)))) (qab (tOp qdS (tOp gT (qag 0) (tC (.int 1))) (tOp gT (qag 1) (tC (.int 1)))) qau))))
noncomputable def qmU (K:W.Frag):TS:=
  (qaO (qa1 (tCB qbX (qab (qag 0) qau)) (qam 1))
    (qaO (qc0 (qlJ (qbd (tOp iGt (qag 1) (tC (.int 0)))) (qbd (tOp rEq (tOp gT (tOp gL (qag 0) (tOp qft (qag 1) (tC (.int 1)))) (tC (.int 0))) (tC (.int 0))))) (qnL 1 (tC (.int 1)) qft))
    (qbE (tCB qjb (qab (tSl sL (qag 0) qcr (qf0 (qag 1))) qau)))))
noncomputable def qgR (K:W.Frag):TS:=
  (qaO (qa1 (tC (.int 1)) (qam 1))
    (qaO (qfo (qpW K (qag 0)) (qam 2) (qnL 1 (tOp qjY (tOp gT (qag 2) (tC (.int 1))) (qaw (qar K) [] E0 (qab (qag 1) (qab (tOp gT (qag 2) (tC (.int 1))) qau)))) qdS))
    (qbE (qh3 (qab (qcI (qpW K (qag 0)) [none,some 1] (qam 0) (tOp qdS (tOp gT (qag 0) (tC (.int 0))) (tOp qjY (qag 1) (tOp gT (qag 0) (tC (.int 1)))))) (qab (qag 1) qau))))))
noncomputable def qeO (K:W.Frag):TS:=
  (qbE (qaw (qd9 K) [] E0 (qab (qcI (qdV K (qag 0)) [none,some 1] (qam 0) (qaw (qb9 K) [] E0 (qab (qag 0) (qab (qag 1) qau)))) qau)))
noncomputable def qir (K:W.Frag):TS:=
  (qaO (qa1 (qaw (qaN K) [] E0 (qab (tOp gT (qaw (qbc K) [] E0 (qab (qag 0) qau)) (tC (.int 0))) (qab (tOp gT (qaw (qbc K) [] E0 (qab (qag 1) qau)) (tC (.int 0))) qau))) (qam 2))
    (qbE (tIf (qif (qag 2)) (qaw (qbf K) [] E0 (qab (qag 2) (qab (tOp gL (qag 2) (tUn qf1 (tC (.int 1)))) qau))) (qh3 qau))))
noncomputable def qgS (K:W.Frag):TS:=
  (qbE (tCB qjb (qab (qcI (qlR (qab (tC (.int 1)) (qab (tCB qjS (qab (qag 0) qau)) qau))) [none,some 0] (qam 0) (qaw (qe5 K) [] E0 (qab (tOp gT (qag 1) (qag 0)) (qab (qh3 (qab (qag 0) (qab (tC (.int 1)) qau))) qau)))) qau)))
noncomputable def qcT (K:W.Frag):TS:=
  (qa1 (qaw (qaR K) [] E0 (qab (qag 2) (qab (qag 5) qau))) (qam 2))
noncomputable def qcU (K:W.Frag):TS:=
  (qaO (qa1 (qag 5) (qam 3))
    (qcT K))
noncomputable def qcV (K:W.Frag):TS:=
  (qaO (qk8 (tBM K "list" qgu (qag 4) (qab (qaw (qa3 K) [] E0 (qab (qaw (qaR K) [] E0 (qab (qag 3) (qab (qag 5) qau))) qau)) qau)))
    (qcU K))
noncomputable def qcW (K:W.Frag):TS:=
  (qaO (qa1 (qaw (qaN K) [] E0 (qab (qag 3) (qab (qag 2) qau))) (qam 5))
    (qcV K))
noncomputable def qdN (K:W.Frag):TS:=
  (qbE (qag 4))
noncomputable def qdO (K:W.Frag):TS:=
  (qaO (qc0 (qbd (tOp iGt (tCB qbX (qab (qag 3) qau)) (tC (.int 1)))) (qcW K))
    (qdN K))
noncomputable def qdP (K:W.Frag):TS:=
  (qaO (qa1 (qga qau) (qam 4))
    (qdO K))
noncomputable def qdQ (K:W.Frag):TS:=
  (qaO (qa1 (qaw (qaR K) [] E0 (qab (qag 1) (qab (qag 2) qau))) (qam 3))
    (qdP K))
noncomputable def qdR (K:W.Frag):TS:=
  (qaO (qa1 (qaw (qaN K) [] E0 (qab (qag 1) (qab (qaw (qbh K) [] E0 (qab (qag 1) qau)) qau))) (qam 2))
    (qdQ K))
noncomputable def qdl (K:W.Frag):TS:=
  (qaO (qa1 (qaw (qay K) [] E0 (qab (tOp gT (qaw (qbc K) [] E0 (qab (qag 0) qau)) (tC (.int 0))) qau)) (qam 1))
    (qdR K))
noncomputable def qej (K:W.Frag):TS:=
  (qbE (qaw (qbf K) [] E0 (qab (qag 0) (qab (tOp gL (qag 0) (tUn qf1 (tC (.int 1)))) qau))))
noncomputable def qgT (K:W.Frag):TS:=
  (qbE (qaw (qa3 K) [] E0 (qab (qaw (qbr K) [] E0 (qab (tOp gT (qaw (qbc K) [] E0 (qab (qag 0) qau)) (tC (.int 0))) qau)) qau)))
noncomputable def qis (K:W.Frag):TS:=
  (qaO (qa1 (tCB qmA (qab (tSl (sS K) (qag 0) qcr (qf0 (tC (.int 1)))) qau)) (qam 1))
    (qbE (qga (qab (tCB qhO (qab (tSl (sS K) (qag 0) qcr (qf0 (tC (.int 63)))) qau)) (qab (tC (.int 0)) (qab (tOp qi9 (tCB qnR (qab (qag 1) qau)) (tC (.int 2))) (qab (tOp qic (qag 1) (tC (.int 2))) qau)))))))
noncomputable def qfe (K:W.Frag):TS:=
  (qa1 (tCB qnR (qab (tOp gL (tOp gL (qag 0) (tC (.int 0))) (tOp gL (qag 0) (tC (.int 1)))) qau)) (qlO (qag 0) (tC (.int 2)) qeY))
noncomputable def qff (K:W.Frag):TS:=
  (qaO (qa1 (tOp qes (tOp gL (qag 0) (tC (.int 1))) (tC (.int 1))) (qlO (qag 0) (tC (.int 1)) qeY))
    (qfe K))
noncomputable def qfg (K:W.Frag):TS:=
  (qbE (qag 2))
noncomputable def qfh (K:W.Frag):TS:=
  (qaO (qa1 (tOp qi9 (tOp gL (qag 0) (tC (.int 2))) (qag 1)) (qlO (qag 0) (tC (.int 2)) qeY))
    (qfg K))
noncomputable def qfi (K:W.Frag):TS:=
  (qaO (qa1 (tOp qic (tOp gL (qag 0) (tC (.int 2))) (qag 1)) (qam 2))
    (qfh K))
noncomputable def qhR (K:W.Frag):TS:=
  (qbE (tOp qic (tOp qi9 (qag 5) (tC (.int 7))) (qag 1)))
noncomputable def qhS (K:W.Frag):TS:=
  (qaO (qa1 (tOp qic (tOp qes (tOp qdS (qag 4) (tOp qes (tOp qic (qag 4) (tC (.int 39373))) (tOp gL (qag 0) (tC (.int 1))))) (tOp qdS (tC (.int 31)) (tOp gL (qag 0) (tC (.int 1))))) (tC (.int 1999999973))) (qam 5))
    (qhR K))
noncomputable def qhT (K:W.Frag):TS:=
  (qaO (qa1 (tOp qic (tOp qdS (tOp qes (tOp qes (tOp qic (qag 3) (tC (.int 2147483629))) (tOp qdS (tC (.int 7919)) (tOp gL (qag 0) (tC (.int 1))))) (tC (.int 11))) (tOp qes (tC (.int 48271)) (tOp qdS (tC (.int 2)) (tOp gL (qag 0) (tC (.int 1)))))) (tC (.int 2147483647))) (qam 4))
    (qhS K))
noncomputable def qhU (K:W.Frag):TS:=
  (qaO (qa1 (tCB qmA (qab (tSl sL (tSl sL (tOp gL (qag 0) (tC (.int 0))) (qf0 (tOp qic (tOp gL (qag 0) (tC (.int 1))) (tCB qpY (qab (tC (.int 1)) (qab (tCB qbX (qab (tOp gL (qag 0) (tC (.int 0))) qau)) qau))))) qcr) qcr (qf0 (tC (.int 1)))) qau)) (qam 3))
    (qhT K))
noncomputable def qfz (K:W.Frag):TS:=
  (qaO (qa1 (tOp qes (tOp gL (qag 0) (tC (.int 1))) (tC (.int 1))) (qlO (qag 0) (tC (.int 1)) qeY))
    (qhU K))
noncomputable def qfA (K:W.Frag):TS:=
  (qaO (qgp (qlJ (qbd (tOp rEq (tOp gL (qag 0) (tC (.int 3))) (tC (.int 1)))) (qbd (tOp iGt (tOp gL (qag 0) (tC (.int 2))) (tC (.int 0))))) (qfi K) qcC)
    (qfz K))
noncomputable def qit (K:W.Frag):TS:=
  (qaO (qgp (qlJ (qbd (tOp rEq (tOp gL (qag 0) (tC (.int 3))) (tC (.int 1)))) (qlJ (qbd (tOp rEq (tOp gL (qag 0) (tC (.int 2))) (tC (.int 0)))) (qbd (tOp iLt (tOp qes (tOp gL (qag 0) (tC (.int 1))) (tC (.int 1))) (tCB qbX (qab (tOp gL (qag 0) (tC (.int 0))) qau)))))) (qff K) qcC)
    (qfA K))
noncomputable def qfB (K:W.Frag):TS:=
  (qaO (qqb 2 3 (qab (tCB qnR (qab (qag 0) qau)) (qab (tCB qnR (qab (qag 1) qau)) qau)))
    (qaO (qc0 (qbd (tOp iGt (qag 3) (tC (.int 0)))) (qqb 2 3 (qab (qag 3) (qab (tOp qic (qag 2) (qag 3)) qau))))
    (qaO (qgp (qbd (tOp iLt (qag 1) (tC (.int 0)))) (qa1 (tUn qf1 (qag 2)) (qam 2)) qcC)
    (qbE (qh3 (qab (tOp qhp (qag 0) (qag 2)) (qab (tOp qhp (qag 1) (qag 2)) qau)))))))
noncomputable def qdH (K:W.Frag):TS:=
  (qaO (qa1 (tOp qoB (qga (qab (tC (.int 0)) qau)) (tOp qft (tOp qes (tCB qbX (qab (qag 0) qau)) (tCB qbX (qab (qag 1) qau))) (tC (.int 1)))) (qam 2))
    (qaO (qfo (qgF K (qab (qag 0) qau)) (qho 2 (qdU (qam 3) (qdU (qam 4) qnI))) (qfo (qgF K (qab (qag 1) qau)) (qho 2 (qdU (qam 5) (qdU (qam 6) qnI))) (qa1 (tOp qes (tOp gL (qag 2) (tOp qes (qag 3) (qag 5))) (tOp qdS (qag 4) (qag 6))) (qlO (qag 2) (tOp qes (qag 3) (qag 5)) qeY))))
    (qbE (qag 2))))
noncomputable def qeP (K:W.Frag):TS:=
  (qbE (tCB qjb (qab (qcI (qdV K (qag 0)) [none,some 1] (qam 0) (qaw (qaY K) [] E0 (qab (tOp qdS (qag 0) (tOp gT (qag 1) (tC (.int 0)))) (qab (tOp gT (qag 1) (tC (.int 1))) qau)))) qau)))
noncomputable def qgU (K:W.Frag):TS:=
  (qbE (qaw (qaY K) [] E0 (qab (tOp qdS (tOp gL (qga (qab (tC (.int 1)) (qab (tUn qf1 (tC (.int 1))) qau))) (qaw (qaU K) [] E0 (qab (qag 0) (qab (tC (.int 2)) qau)))) (tOp qes (tC (.int 1)) (qaw (qaU K) [] E0 (qab (qag 0) (qab (tC (.int 9)) qau))))) (qab (tOp qes (tC (.int 1)) (qaw (qaU K) [] E0 (qab (qag 0) (qab (tC (.int 9)) qau)))) qau))))
noncomputable def qeQ (K:W.Frag):TS:=
  (qaO (qa1 (qga qau) (qam 3))
    (qaO (qfo (qhn (qab (qaw (qaU K) [] E0 (qab (qag 0) (qab (tOp qes (qag 1) (tC (.int 1))) qau))) qau)) (qam 4) (qk8 (tBM K "list" qgu (qag 3) (qab (tOp gL (qga (qab (tC (.int 0)) (qab (tC (.int 1)) (qab (tUn qf1 (tC (.int 1))) (qab (tOp qft (qaw (qaU K) [] E0 (qab (qag 0) (qab (tOp qes (tOp qdS (tC (.int 2)) (qag 2)) (tC (.int 1))) qau))) (qag 2)) qau))))) (qaw (qaU K) [] E0 (qab (qag 0) (qab (tC (.int 4)) qau)))) qau))))
    (qbE (tOp qq7 (qag 3) (qga (qab (tOp qdS (tOp gL (qga (qab (tC (.int 1)) (qab (tUn qf1 (tC (.int 1))) qau))) (qaw (qaU K) [] E0 (qab (qag 0) (qab (tC (.int 2)) qau)))) (tOp qes (tC (.int 1)) (qaw (qaU K) [] E0 (qab (qag 0) (qab (qag 2) qau))))) qau))))))
noncomputable def qek (K:W.Frag):TS:=
  (qbE (tCB qjb (qab (qcI (qdV K (qag 0)) [none,some 0] (qam 0) (qaw (qaY K) [] E0 (qab (qag 0) (qab (tOp gL (qag 1) (tUn qf1 (tC (.int 1)))) qau)))) qau)))
noncomputable def qj7 (K:W.Frag):TS:=
  (qbE (qaw (qaY K) [] E0 (qab (tOp qes (tOp qdS (tOp gT (qag 0) (tC (.int 0))) (tOp gT (qag 1) (tC (.int 1)))) (tOp qdS (tOp gT (qag 1) (tC (.int 0))) (tOp gT (qag 0) (tC (.int 1))))) (qab (tOp qdS (tOp gT (qag 0) (tC (.int 1))) (tOp gT (qag 1) (tC (.int 1)))) qau))))
noncomputable def qeR (K:W.Frag):TS:=
  (qbE (qaw (qaY K) [] E0 (qab (tOp qdS (tOp gT (qag 0) (tC (.int 0))) (tOp gT (qag 1) (tC (.int 0)))) (qab (tOp qdS (tOp gT (qag 0) (tC (.int 1))) (tOp gT (qag 1) (tC (.int 1)))) qau))))
noncomputable def qeS (K:W.Frag):TS:=
  (qaO (qa1 (tCB qbX (qab (qag 0) qau)) (qam 1))
    (qaO (qc0 (qlJ (qbd (tOp iGt (qag 1) (tC (.int 0)))) (qbd (tOp rEq (tOp gT (tOp gL (qag 0) (tOp qft (qag 1) (tC (.int 1)))) (tC (.int 0))) (tC (.int 0))))) (qa1 (tOp qft (qag 1) (tC (.int 1))) (qam 1)))
    (qbE (tCB qjb (qab (tSl sL (qag 0) qcr (qf0 (qag 1))) qau)))))
noncomputable def qgV (K:W.Frag):TS:=
  (qaO (qa1 (tOp qoB (qga (qab (qh3 (qab (tC (.int 0)) (qab (tC (.int 1)) qau))) qau)) (tOp qes (tCB qjS (qab (qag 0) qau)) (tCB qjS (qab (qag 1) qau)))) (qam 2))
    (qaO (qfo (qkB K (qab (qag 0) qau)) (qho 2 (qdU (qam 3) (qdU (qam 4) qnI))) (qfo (qkB K (qab (qag 1) qau)) (qho 2 (qdU (qam 5) (qdU (qam 6) qnI))) (qa1 (qaw (qe6 K) [] E0 (qab (tOp gL (qag 2) (tOp qes (qag 3) (qag 5))) (qab (qaw (qcg K) [] E0 (qab (qag 4) (qab (qag 6) qau))) qau))) (qlO (qag 2) (tOp qes (qag 3) (qag 5)) qeY))))
    (qbE (qaw (qch K) [] E0 (qab (qag 2) qau)))))
noncomputable def qew (K:W.Frag):TS:=
  (qfo (qhn (qab (qag 1) qau)) (qam 2) (qgp (qbd (tOp neD (qaw (qce K) [] E0 (qab (tOp gL (qag 0) (qag 1)) (qab (tOp gL (qag 0) (qag 2)) qau))) (qh3 (qab (qh3 (qab (tC (.int 1)) (qab (tC (.int 1)) qau))) qau)))) (qbE (tC (.bl false))) qcC))
noncomputable def qex (K:W.Frag):TS:=
  (qaO (qgp (tOr (qbd (tOp neD (tOp gT (tOp gL (qag 0) (qag 1)) (tUn qf1 (tC (.int 1)))) (qh3 (qab (tC (.int 1)) (qab (tC (.int 1)) qau))))) (qbd (tOp neD (qaw (qce K) [] E0 (qab (tOp gL (qag 0) (qag 1)) (qab (qaw (qb1 K) [] E0 (qab (tOp gL (qag 0) (qag 1)) qau)) qau))) (qh3 (qab (qh3 (qab (tC (.int 1)) (qab (tC (.int 1)) qau))) qau))))) (qbE (tC (.bl false))) qcC)
    (qew K))
noncomputable def qgW (K:W.Frag):TS:=
  (qbE (tC (.bl true)))
noncomputable def qgX (K:W.Frag):TS:=
  (qaO (qfo (qhn (qab (tCB qbX (qab (qag 0) qau)) qau)) (qam 1) (qex K))
    (qgW K))
noncomputable def qhV (K:W.Frag):TS:=
  (qfo (qhn (qab (tOp qes (tC (.int 2)) (qaw (qaU K) [] E0 (qab (qag 1) (qab (tC (.int 2)) qau)))) qau)) (qam 4) (qa1 (qaw (qbk K) [] E0 (qab (qag 2) (qab (qag 3) qau))) (qam 2)))
noncomputable def qhW (K:W.Frag):TS:=
  (qaO (qa1 (qaw (qbg K) [] E0 (qab (qag 1) (qab (tC (.int 2)) (qab (tC (.int 9)) qau)))) (qam 3))
    (qhV K))
noncomputable def qhX (K:W.Frag):TS:=
  (qaO (qa1 (qaw (qbg K) [] E0 (qab (qag 1) (qab (tC (.int 2)) (qab (tC (.int 9)) qau)))) (qam 2))
    (qhW K))
noncomputable def qhY (K:W.Frag):TS:=
  (qfo (qhn (qab (tOp qes (qag 9) (tC (.int 1))) qau)) (qam 4) (qa1 (qaw (qb3 K) [] E0 (qab (qag 7) (qab (qag 10) qau))) (qam 7)))
noncomputable def qhZ (K:W.Frag):TS:=
  (qaO (qa1 (qaw (qb3 K) [] E0 (qab (qag 8) (qab (qag 10) qau))) (qam 8))
    (qhY K))
noncomputable def qgY (K:W.Frag):TS:=
  (qbE (qlN (tOp eqD (qag 7) (qaw (qbq K) [] E0 (qab (qag 2) qau))) (qlN (tOp eqD (qag 8) (qaw (qb4 K) [] E0 (qab (qag 5) qau))) (qaw (qb5 K) [] E0 (qab (qag 6) qau)))))
noncomputable def qmV (K:W.Frag):TS:=
  (qaO (qgp (tOr (qlJ (qbd (tOp neD (qag 6) (qga qau))) (qbd (tOp iLt (tCB qjS (qab (tOp gL (qag 6) (tUn qf1 (tC (.int 1)))) qau)) (tC (.int 2))))) (qlJ (qbd (tOp eqD (qag 6) (qga qau))) (qbd (tOp iGt (tCB qbX (qab (qag 2) qau)) (tC (.int 1)))))) (qbE (tC (.bl false))) qcC)
    (qgY K))
noncomputable def qmW (K:W.Frag):TS:=
  (qaO (qfo (qgF K (qab (qag 6) qau)) (qho 2 (qdU (qam 9) (qdU (qam 10) qnI))) (qhZ K))
    (qmV K))
noncomputable def qmX (K:W.Frag):TS:=
  (qaO (qa1 (qh3 (qab (qh3 (qab (tC (.int 1)) (qab (tC (.int 1)) qau))) qau)) (qam 8))
    (qmW K))
noncomputable def qmY (K:W.Frag):TS:=
  (qaO (qa1 (qh3 (qab (qh3 (qab (tC (.int 1)) (qab (tC (.int 1)) qau))) qau)) (qam 7))
    (qmX K))
noncomputable def qmZ (K:W.Frag):TS:=
  (qaO (qa1 (qaw (qa8 K) [] E0 (qab (qag 5) qau)) (qam 6))
    (qmY K))
noncomputable def qj8 (K:W.Frag):TS:=
  (qaO (qa1 (qaw (qbB K) [] E0 (qab (qag 2) (qab (qaw (qb2 K) [] E0 (qab (qag 1) qau)) qau))) (qam 5))
    (qmZ K))
noncomputable def qm0 (K:W.Frag):TS:=
  (qaO (qgp (qbd (tOp rEq (qaw (qaU K) [] E0 (qab (qag 1) (qab (tC (.int 2)) qau))) (tC (.int 0)))) (qhX K) qcC)
    (qj8 K))
noncomputable def qm1 (K:W.Frag):TS:=
  (qaO (qa1 (qaw (qbg K) [] E0 (qab (qag 1) (qab (tOp gL (qga (qab (tC (.int 5)) (qab (tC (.int 8)) qau))) (tCB qnS (qab (tOp rEq (qaw (qaU K) [] E0 (qab (qag 1) (qab (tC (.int 8)) qau))) (tC (.int 0))) qau))) (qab (tC (.int 30)) qau)))) (qam 2))
    (qm0 K))
noncomputable def qpq (K:W.Frag):TS:=
  (qaO (qa1 (qaw (qcM K) [] E0 (qab (qag 0) qau)) (qam 1))
    (qm1 K))
end Bs
namespace Bs
open PySem L2
variable {K:W.Frag} {vs:List V} {H:Hp} {Q:VK} {E:XK}
local macro_rules | `(tactic| rwa [$[$t:term],*]) => do
  let l : Array Lean.Term := (("qaO qa1 qaw qab qag qau qam qlO L2.start qgp tIf qbd tB tOp rI0 rI tC tUn rU qcC qbE qh3 qga qqb qnL qk8 tCB qoA qlJ tOr qq6 qlN qrI qp8 rEq rNe qeY qes qft qdS qi9 qqj qic qpc qrL iLt iLe iGt iGe qf1 gT gL gS qnR qpY qrM qnS qjS qbX qqk qrN ql9 qfP qoC eqT qma qmb qoD qoE List.map_cons List.map_nil List.length_cons List.length_nil List.replicate List.cons_append List.nil_append List.append_nil List.getElem?_cons_zero List.getElem?_cons_succ Option.some.injEq exists_eq_left' exists_eq_left V.int.injEq V.bl.injEq V.ref.injEq V.ty.injEq HO.tup.injEq HO.lst.injEq List.cons.injEq and_true true_and and_assoc exists_and_left List.set_cons_zero List.set_cons_succ decide_eq_true_eq decide_eq_false_iff_not Bool.not_eq_true' Bool.true_eq_false Bool.false_eq_true Bool.not_true Bool.not_false if_true if_false ite_true ite_false qmc qmd qkx qky qhI qhJ qhK qhL qhM Nat.zero_add Nat.reduceAdd Nat.reduceSub qai Int.cast_ofNat_Int decide_true decide_false eq_self not_true_eq_false not_false_eq_true Int.natCast_add Int.natCast_zero reduceCtorEq Nm qho qdU qnI qk9 tSl qcr qf0 sL sT qjb qoG qhO qif qqp qoB qq7 qgu qh6 qrK tBM qrJ qkz qkA qmh qmi qkC qmv qkH qmj qmk qms qmt qnU qpf qnV qra qpd qjY qhp qrl qpe qdg Option.bind_some Option.bind_none Option.bind Option.join id_eq sS qmA qqs qar qcL qbZ qaM qbp qaR qbD qbi qaH qay qaV qaX qa6 qaZ qaS qa7 qbj qa0 qb0 qaT qaN qb9 qd9 qbc qbf qce qjl qb1 qbh qbr qa3 qa8 qb4 qcM qaU qbk qbB qb2 qbg qbq qb5".splitOn " ").map fun s => (⟨(Lean.mkIdent s.toName).raw⟩ : Lean.Term)).toArray
  `(tactic| simp only [$[$(l ++ t):term],*])
theorem qrw {x:Int} (h1:-1099511627776<x) (h2:x<1099511627776):Bd 40 x:=by
  show x.natAbs<1099511627776
  omega
theorem qlq {a b:Int} (ha:Bd 60000000 a) (hb:Bd 60000000 b):IntMulOk a b:=qqt ha hb (by decide)
theorem qrx {a b:Int} (h1:-18446744073709551616<b) (h2:b<18446744073709551616):IntMulOk a b:=IntMulOk.of_right (intBits_le_64 (by omega) (by omega))
theorem qry {a b:Int} (h1:-18446744073709551616<a) (h2:a<18446744073709551616):IntMulOk a b:=IntMulOk.of_left (intBits_le_64 (by omega) (by omega))
theorem qfC (h:qar K vs H Q E):qcv K { nx:=fun _ H'=>Q .non H',rt:=Q } (L2.start ["one", "other", "rest"] vs) H:=by
  obtain ⟨a,b,rfl,q⟩:=h
  unfold qcv
  rwa []
  refine while_by (fun m σ H'=>∃ (x y:Int) (r:Option V),σ=[some (.int x),some (.int y),r]∧H'=H∧Int.gcd x y=Int.gcd a b∧m=y.natAbs) b.natAbs ⟨a,b,none,rfl,rfl,rfl,rfl⟩ ?_
  rintro m σ H' ⟨x,y,r,rfl,rfl,hg,rfl⟩
  rwa []
  refine qcy (fun c=>?_) (fun c=>?_)
  · refine ⟨fun σ' H''=>∃ m',m'<y.natAbs∧_,fun _ _ h=>h,?_⟩
    refine ⟨c,_,ql8 x c,y,x.fmod y,_,rfl,rfl,?_,rfl⟩
    rw [qkw];exact hg
  · have y0:y=0:=Decidable.not_not.mp c
    subst y0
    have e:(if x<0 then -x else x)=((Int.gcd a b:Nat):Int):=by
      rw [← hg,Int.gcd_zero_right];split <;> omega
    rw [e];exact q
theorem qn9 {ns:List Int} {k:Int} (h0:0≤k) (h:k<(ns.length:Int)):∃ v:Int,atI (ns.map V.int) k=some (.int v):=by
  have hk:k.toNat<ns.length:=by omega
  have ek:k=((k.toNat:Nat):Int):=by omega
  have q:atI (ns.map V.int) ((k.toNat:Nat):Int)=some (.int ns[k.toNat]):=ql2 (by rw [List.getElem?_map,List.getElem?_eq_getElem hk] <;> rfl)
  rw [← ek] at q
  exact ⟨_,q⟩
theorem qm2 (h:qcL K vs H Q E):qiq K { nx:=fun _ H'=>Q .non H',rt:=Q } (L2.start ["whole", "n", "result", "square"] vs) H:=by
  obtain ⟨x,n,b,rfl,n0,bx,hb,q⟩:=h
  unfold qiq
  rwa []
  have BP:∀ k:Nat,k≤n.toNat→Bd 60000000 (x ^ k):=fun k hk=>(bx.pow k).mono (by
    have:=Nat.mul_le_mul_left b hk
    omega)
  refine while_by (fun m σ H'=>∃ r s:Nat,σ=[some (.int x),some (.int (m:Int)),some (.int (x ^ r)),some (.int (x ^ s))]∧H'=H∧r+s*m=n.toNat) n.toNat ⟨0,1,?_,rfl,by omega⟩ ?_
  · have e:((n.toNat:Nat):Int)=n:=by omega
    rw [e,Int.pow_zero,show x ^ 1=x by rw [Int.pow_succ,Int.pow_zero,Int.one_mul]]
  rintro m σ H' ⟨r,s,rfl,rfl,hm⟩
  rwa []
  refine qcy (fun c=>?_) (fun c=>?_)
  · have m1:1≤m:=by omega
    have sl:s≤s*m:=Nat.le_mul_of_pos_right s m1
    have d2:qrj (m:Int) 2:=⟨by decide,(qr1 (by decide) (by decide)).mono (by decide)⟩
    have hm2:s*m=(s+s)*(m / 2)+s*(m % 2):=by
      have e:m=2*(m / 2)+m % 2:=(Nat.div_add_mod m 2).symm
      generalize m / 2=u at e ⊢
      generalize m % 2=v at e ⊢
      subst e
      rw [Nat.mul_add]
      congr 1
      rw [← Nat.mul_assoc,Nat.mul_comm s 2]
      congr 1
      omega
    have ed:((m:Int) / 2)=((m / 2:Nat):Int):=by omega
    rw [ed]
    refine ⟨fun σ' H''=>∃ m',m'<m∧_,fun _ _ h=>h,?_⟩
    have fin:∀ r':Nat,r'+(s+s)*(m / 2)=n.toNat→qrj (m:Int) 2∧if 0<((m / 2:Nat):Int) then IntMulOk (x ^ s) (x ^ s)∧∃ m',m'<m∧∃ r s_1,[some (V.int x),some (V.int ((m / 2:Nat):Int)),some (V.int (x ^ r')),some (V.int (x ^ s*x ^ s))]=[some (V.int x),some (V.int (m':Int)),some (V.int (x ^ r)),some (V.int (x ^ s_1))]∧H'=H'∧r+s_1*m'=n.toNat
        else ∃ m',m'<m∧∃ r s_1,[some (V.int x),some (V.int ((m / 2:Nat):Int)),some (V.int (x ^ r')),some (V.int (x ^ s))]=[some (V.int x),some (V.int (m':Int)),some (V.int (x ^ r)),some (V.int (x ^ s_1))]∧H'=H'∧r+s_1*m'=n.toNat:=fun r' hr'=>by
      refine ⟨d2,qcy (fun c2=>?_) (fun c2=>?_)⟩
      · exact ⟨qlq (BP s (by omega)) (BP s (by omega)),m / 2,by omega,r',s+s,by rw [Int.pow_add],rfl,hr'⟩
      · have z:m / 2=0:=by omega
        rw [z] at hr' ⊢
        exact ⟨0,by omega,r',s,rfl,rfl,by omega⟩
    refine ⟨by decide,qcy (fun c2=>⟨qlq (BP r (by omega)) (BP s (by omega)),?_⟩) (fun c2=>?_)⟩
    · rw [← Int.pow_add]
      have e1:m % 2=1:=by omega
      rw [e1] at hm2
      exact fin (r+s) (by omega)
    · have e1:m % 2=0:=by omega
      rw [e1] at hm2
      exact fin r (by omega)
  · have z:m=0:=by omega
    subst z
    have e:r=n.toNat:=by omega
    subst e
    exact q
theorem qgi {H:Hp} {Q:VK} {xs:List V} {l:List Nu} {m:Nat} (hN:Nums H xs l) (hm:m≤l.length) (e:qcZ l l.length=m) (q:qn7 H Q (trim l)) :
    ∀ (p:Addr),H p=none→∀ (r:Addr),upd H p (HO.lst (qgt xs none (some (m:Int)))) r=none→Q (V.ref r) (upd (upd H p (HO.lst (qgt xs none (some (m:Int))))) r (HO.tup (qgt xs none (some (m:Int))))):=fun p hp r hr=>by
  have s:=(qaf hp (HO.lst (qgt xs none (some (m:Int))))).trans (qaf hr (HO.tup (qgt xs none (some (m:Int)))))
  refine q r _ _ s qai ?_
  rw [qgN (by rw [hN.length];exact hm)]
  rw [qgN (by rw [hN.length];exact hm)] at s
  unfold trim
  rw [e]
  exact (hN.take m).tp (tpS s)
theorem qh0 (l:List Nu) (m:Nat):qcZ l (m+1)=if (l.getD m (1,1)).1=0 then qcZ l m else m+1:=rfl
theorem qpr (h:qd9 K vs H Q E):qmU K { nx:=fun _ H'=>Q .non H',rt:=Q } (L2.start ["row", "many"] vs) H:=by
  obtain ⟨p,xs,l,rfl,hp,hN,hl,q⟩:=h
  unfold qmU
  rwa [hp]
  have lx:=hN.length
  refine while_by (fun m σ H'=>σ=[some (.ref p),some (.int (m:Int))]∧H'=H∧qcZ l m=qcZ l l.length∧m≤l.length) xs.length ⟨rfl,rfl,by rw [lx],by omega⟩ ?_
  rintro m σ H' ⟨rfl,rfl,ht,hm⟩
  rwa [hp]
  refine qcy (fun c=>?_) (fun c=>?_)
  · obtain ⟨k,rfl⟩:∃ k,m=k+1:=⟨m - 1,by omega⟩
    obtain ⟨v,hv,p1,rfl,hp1⟩:=hN.at (i:=k) (by omega) (1,1)
    rw [qh0] at ht
    refine ⟨_,qcd (by omega) hv,p1,rfl,_,hp1,_,rfl,rfl,qcy (fun c2=>?_) (fun c2=>?_)⟩
    · have z:(l.getD k (1,1)).1=0:=by injection c2
      rw [if_pos z] at ht
      exact ⟨fun σ' H''=>∃ m',m'<k+1∧_,fun _ _ h=>h,k,by omega,by rw [show ((k+1:Nat):Int) - 1=(k:Int) by omega],rfl,ht,by omega⟩
    · have z:(l.getD k (1,1)).1≠0:=fun z=>c2 (by rw [z])
      rw [if_neg z] at ht
      exact qgi hN hm ht.symm q
  · have z:m=0:=by omega
    subst z
    exact qgi hN hm ht.symm q
theorem qoa {l:List Nu} {i:Nat} {q:Nu} (h:l[i]?=some q):(l.take (i+1)).foldl (fun B q=>B*(q.2 / ((Int.gcd B q.2:Nat):Int))) 1=(l.take i).foldl (fun B q=>B*(q.2 / ((Int.gcd B q.2:Nat):Int))) 1*(q.2 / ((Int.gcd ((l.take i).foldl (fun B q=>B*(q.2 / ((Int.gcd B q.2:Nat):Int))) 1) q.2:Nat):Int)):=by
  rw [List.take_add_one,h,List.foldl_append]
  rfl
theorem qbR {α β:Type} {l:List α} {i:Nat} {q:α} (f:α→β) (h:l[i]?=some q):(l.take (i+1)).map f=(l.take i).map f++[f q]:=by
  rw [List.take_add_one,h,List.map_append]
  rfl
theorem qhs {β:Type} (f:Nat→β) (i:Nat):(List.range (i+1)).map f=(List.range i).map f++[f i]:=by rw [List.range_succ,List.map_append];rfl
theorem qby (n:Nat) (f:Nat→Int):(qbU n f).length=n:=by unfold qbU;rw [List.length_map,List.length_map,List.length_range]
theorem qbs {n k:Nat} (f:Nat→Int) (h:k<n):(qbU n f)[k]?=some (.int (f k)):=by
  unfold qbU
  rw [List.getElem?_map,List.getElem?_map,List.getElem?_range h]
  rfl
theorem qeq {n k:Nat} {f g:Nat→Int} {z:Int} (h:k<n) (h1:g k=z) (h2:∀ i,i<n→i≠k→g i=f i):(qbU n f).set k (.int z)=qbU n g:=by
  apply List.ext_getElem?
  intro i
  by_cases hi:i<n
  · by_cases e:i=k
    · subst e
      rw [List.getElem?_set_self (by rw [qby];exact hi),qbs g hi,h1]
    · rw [List.getElem?_set_ne (fun z=>e z.symm),qbs f hi,qbs g hi,h2 i hi e]
  · rw [List.getElem?_eq_none (by rw [List.length_set,qby];omega),List.getElem?_eq_none (by rw [qby];omega)]
theorem qdq {n:Nat} {f g:Nat→Int} (h:∀ i,i<n→g i=f i):qbU n f=qbU n g:=by
  apply List.ext_getElem?
  intro i
  by_cases hi:i<n
  · rw [qbs f hi,qbs g hi,h i hi]
  · rw [List.getElem?_eq_none (by rw [qby];omega),List.getElem?_eq_none (by rw [qby];omega)]
theorem qiu (n:Nat):(List.replicate n [V.int 0]).flatten=qbU n fun _=>0:=by
  rw [qc5]
  apply List.ext_getElem?
  intro i
  by_cases hi:i<n
  · rw [qbs _ hi,List.getElem?_replicate,if_pos hi]
  · rw [List.getElem?_replicate,if_neg hi,List.getElem?_eq_none (by rw [qby];omega)]
theorem qgZ {n k:Nat} {i:Int} (e:i=(k:Int)) (h:k<n):ixN n i=some k:=by
  subst e
  unfold ixN
  rw [if_pos (by omega),if_pos (by omega)]
  simp
theorem qdr {α:Type} {n k:Nat} (f:Nat→α) (h:k<n):((List.range n).map f)[k]?=some (f k):=by
  rw [List.getElem?_map,List.getElem?_range h];rfl
theorem qlr {α:Type} {n k:Nat} {f g:Nat→α} {z:α} (h:k<n) (h1:g k=z) (h2:∀ i,i<n→i≠k→g i=f i):((List.range n).map f).set k z=(List.range n).map g:=by
  apply List.ext_getElem?
  intro i
  by_cases hi:i<n
  · by_cases e:i=k
    · subst e
      rw [List.getElem?_set_self (by rw [List.length_map,List.length_range];exact hi),qdr g hi,h1]
    · rw [List.getElem?_set_ne (fun z=>e z.symm),qdr f hi,qdr g hi,h2 i hi e]
  · rw [List.getElem?_eq_none (by rw [List.length_set,List.length_map,List.length_range];omega),List.getElem?_eq_none (by rw [List.length_map,List.length_range];omega)]
theorem qfV {α:Type} {n:Nat} {f g:Nat→α} (h:∀ i,i<n→f i=g i):(List.range n).map f=(List.range n).map g:=
  List.map_congr_left fun i hi=>h i (List.mem_range.mp hi)
theorem qh1 {α:Type} (z:α):∀ n:Nat,(List.range n).map (fun _=>z)=List.replicate n z
  | 0=>rfl
  | n+1=>by rw [List.range_succ,List.map_append,qh1 z n,List.replicate_succ'];rfl
theorem qoR {c d:Nat} {n m:Int} (hm:0<m) (h1:Bd c n) (h2:Bd d m):Bd c (red n m).1∧Bd d (red n m).2:=by
  have w:=qqu (qbC hm) hm (qet (n:=n) hm)
  exact ⟨h1.le w.1,h2.le w.2⟩
theorem qob {n k B:Int} {q r:Nu} {a b c:Int} (hB:0<B) (h1:0<q.2) (h2:0<r.2) (w1:Wo q a b) (w2:Wo r c k) (e:B=b*k):nadd (red n B) (nmul q r)=red (n+a*c) B:=by
  subst e
  refine qgJ (qkI (qbC hB).pos (qdz h1 h2).pos) (qbC hB) (Int.ne_of_gt hB) (qph (qbC hB).pos (qdz h1 h2).pos (qet hB) (qpi h1 h2 w1 w2)) (qet hB)
theorem Pl.same {H H':Hp} {r:Addr} {L:List Nu} (h:Pl H r L) (s:Same H H'):Pl H' r L:=let ⟨zs,a,b⟩:=h;⟨zs,s _ _ a,b.tp (tpS s)⟩
theorem Pl.tp {H H':Hp} {r:Addr} {L:List Nu} (h:Pl H r L) (s:Tp H H'):Pl H' r L:=let ⟨zs,a,b⟩:=h;⟨zs,s _ _ a,b.tp s⟩
theorem Pl.rep {H:Hp} {r:Addr} {L:List Nu} (h:Pl H r L):RepD H (.ref r) (qmR L):=let ⟨_,a,b⟩:=h;qpZ a b
theorem qps {m n:Nat} {x y:Int} (hx:Bd m x) (hy:Bd n y) (hm:m≤60000000:=by decide) (hn:n≤60000000:=by decide):IntMulOk x y:=qlq (hx.mono hm) (hy.mono hn)
theorem qcX (ns:List Int) (m:Nat):qcz ns (m+1)=if ns.getD m 1=0 then qcz ns m else m+1:=rfl
theorem qht (h:qaM K vs H Q E):qdE K { nx:=fun _ H'=>Q .non H',rt:=Q } (L2.start ["row", "many"] vs) H:=by
  obtain ⟨p,ns,rfl,hp,q⟩:=h
  unfold qdE
  rwa [hp]
  have fin:∀ m:Nat,m≤ns.length→qcz ns m=qcz ns ns.length→qcz ns m=m→∀ r,H r=none→Q (V.ref r) (upd H r (HO.lst (qgt (ns.map V.int) none (some (m:Int))))):=fun m h1 h2 h3 r hr=>by
    rw [qgN (by rw [List.length_map];exact h1),← List.map_take,← h3,h2]
    exact q r hr
  refine while_by (fun m σ H'=>σ=[some (.ref p),some (.int (m:Int))]∧H'=H∧qcz ns m=qcz ns ns.length∧m≤ns.length) ns.length ⟨by rw [List.length_map],rfl,rfl,Nat.le_refl _⟩ ?_
  rintro m σ H' ⟨rfl,rfl,ht,hm⟩
  rwa [hp]
  refine qcy (fun c=>?_) (fun c=>?_)
  · obtain ⟨k,rfl⟩:∃ k,m=k+1:=⟨m - 1,by omega⟩
    have hv:(ns.map V.int)[k]?=some (V.int (ns.getD k 1)):=by
      rw [List.getElem?_map,List.getElem?_eq_getElem (by omega),List.getD_eq_getElem?_getD,List.getElem?_eq_getElem (by omega)];rfl
    refine ⟨_,qcd (by omega) hv,rfl,qcy (fun c2=>?_) (fun c2=>?_)⟩
    · have z:ns.getD k 1=0:=by injection c2
      rw [qcX,if_pos z] at ht
      exact ⟨fun σ' H''=>∃ m',m'<k+1∧_,fun _ _ h=>h,k,by omega,by rw [show ((k+1:Nat):Int) - 1=(k:Int) by omega],rfl,ht,by omega⟩
    · have z:ns.getD k 1≠0:=fun z=>c2 (by rw [z])
      exact fin (k+1) hm ht (by rw [qcX,if_neg z])
  · have z:m=0:=by omega
    subst z
    exact fin 0 hm ht rfl
theorem qg0 (ns:List Int):∀ m,qcz ns m≤m
  | 0=>Nat.le_refl 0
  | m+1=>by
    rw [qcX]
    split
    · exact Nat.le_succ_of_le (qg0 ns m)
    · exact Nat.le_refl _
theorem qg1 {ns:List Int}:(qd8 ns).length=qcz ns ns.length:=by
  unfold qd8
  rw [List.length_take,Nat.min_eq_left (qg0 ns ns.length)]
theorem qjm {ns:List Int} (k:Nat):(qd8 ns).getD k 0=ns.getD k 0:=by
  have key:∀ (m:Nat),m≤ns.length→(∀ j,m≤j→j<ns.length→ns.getD j 0=0)→∀ j,qcz ns m≤j→j<ns.length→ns.getD j 0=0:=by
    intro m
    induction m with
    | zero=>intro _ h j hj1 hj2;exact h j (by omega) hj2
    | succ m ih=>
      intro hm h j h1 h2
      rw [qcX] at h1
      split at h1
      · rename_i z
        refine ih (by omega) (fun j hj1 hj2=>?_) j h1 h2
        by_cases e:j=m
        · subst e
          rw [List.getD_eq_getElem?_getD,List.getElem?_eq_getElem hj2] at z ⊢
          exact z
        · exact h j (by omega) hj2
      · exact h j h1 h2
  by_cases h1:k<qcz ns ns.length
  · unfold qd8
    rw [List.getD_eq_getElem?_getD,List.getD_eq_getElem?_getD,List.getElem?_take_of_lt h1]
  · have e:(qd8 ns).getD k 0=0:=by
      rw [List.getD_eq_getElem?_getD,List.getElem?_eq_none (by rw [qg1];omega)]
      rfl
    rw [e]
    by_cases h2:k<ns.length
    · exact (key ns.length (Nat.le_refl _) (fun j a b=>absurd b (by omega)) k (by omega) h2).symm
    · rw [List.getD_eq_getElem?_getD,List.getElem?_eq_none (by omega)]
      rfl
theorem qqI {n:Nat} {z g:Int} (h:g∣z) (b:Bd n z):Bd n (z / g):=by
  by_cases hz:z=0
  · rw [hz,Int.zero_ediv];exact qbP n
  · exact qdp hz (Int.ediv_dvd_of_dvd h) b
theorem qkS {z g:Int} (hg:g≠0) (h:g∣z):((z / g:Int):Rat)=(z:Rat) / (g:Rat):=by
  obtain ⟨y,rfl⟩:=h
  rw [Int.mul_ediv_cancel_left _ hg]
  have:=qaL hg
  push_cast
  grind
theorem qkT {ns:List Int} {g:Int} (h:∀ z∈ns,g∣z) (k:Nat):g∣ns.getD k 0:=by
  rw [List.getD_eq_getElem?_getD]
  cases e:ns[k]? with
  | none=>exact Int.dvd_zero g
  | some z=>exact h z (List.mem_of_getElem? e)
theorem qm3 {m:List Nu} (hm:qaJ m) (nm:Nz m) (h1:1≤m.length):(qdA m).getD (m.length - 1) 0≠0:=by
  rw [qjZ,qmF]
  have hb:m.length - 1<m.length:=by omega
  have q:=nm m[m.length - 1] (by rw [List.getLast?_eq_getElem?];exact List.getElem?_eq_getElem hb)
  have e:qbe m (m.length - 1)=m[m.length - 1]:=by unfold qbe;rw [List.getD_eq_getElem?_getD,List.getElem?_eq_getElem hb];rfl
  rw [e]
  refine Int.mul_ne_zero q ?_
  have o:=qeK hm
  have d:=o.2 m[m.length - 1] (List.getElem_mem hb)
  obtain ⟨y,hy⟩:=d
  have p0:=(hm m[m.length - 1] (List.getElem_mem hb)).pos
  rw [hy,Int.mul_ediv_cancel_left _ (Int.ne_of_gt p0)]
  intro z
  rw [z,Int.mul_zero] at hy
  have:=o.1
  omega
theorem atI_last {xs:List V} {v:V} (h:1≤xs.length) (e:xs[xs.length - 1]?=some v):atI xs (-1)=some v:=by
  unfold atI ixN
  rw [if_neg (by decide),if_pos (by omega),show (-1+(xs.length:Int)).toNat=xs.length - 1 by omega]
  exact e
theorem qiv {n m:Int} (h:0<m):qb7 n m=red n m:=by unfold qb7;rw [if_neg (by omega)]
theorem qoc (h:qb9 K vs H Q E):qj5 K { nx:=fun _ H'=>Q .non H',rt:=Q } (L2.start ["top", "bottom", "shared"] vs) H:=by
  obtain ⟨a,b,rfl,hb,q⟩:=h
  unfold qj5
  rwa []
  have go:∀ s:Int,(s=if b<0 then -((Int.gcd a b:Nat):Int) else ((Int.gcd a b:Nat):Int))→qpe a s∧qpe b s∧2≤sizeLine∧∀ (p:Addr),H p=none→Q (V.ref p) (upd H p (HO.tup [V.int (a.fdiv s),V.int (b.fdiv s)])):=fun s hs=>by
    obtain ⟨h1,h2,h3,h4,h5,h6⟩:=qen hb hs
    have e:qb7 a b=(a.fdiv s,b.fdiv s):=by
      refine qeJ (qdB hb) h3 ?_
      rw [qdC hb,qe3 (q:=(a.fdiv s,b.fdiv s)) (Int.ne_of_gt h3.pos) hb h4]
    rw [e] at q
    exact ⟨h1,h1,sz (by decide),q⟩
  refine qcy (fun c=>?_) (fun c=>?_)
  · exact go _ (by rw [if_pos c])
  · exact go _ (by rw [if_neg c])
theorem qls (h:qbc K vs H Q E):qgR K { nx:=fun _ H'=>Q .non H',rt:=Q } (L2.start ["P", "bottom", "number"] vs) H:=by
  obtain ⟨p,xs,l,M,rfl,hp,hN,hL,hO,bM,hB,hl,q⟩:=h
  unfold qgR
  rwa [hp]
  have lx:=hN.length
  have B0:=(qeK hL).1
  have BB:=qdp (Int.ne_of_gt hO.1) (qkM hL hO) bM
  have qb:∀ q∈l,Bd 400000 q.2:=fun q hq=>qdp (Int.ne_of_gt hO.1) (hO.2 q hq) bM
  refine ⟨⟨_,SqT.of hp⟩,ForT.by (xs:=xs) (fun i σ H'=>∃ x,σ=[some (.ref p),some (.int ((l.take i).foldl (fun B q=>B*(q.2 / ((Int.gcd B q.2:Nat):Int))) 1)),x]∧H'=H) ⟨none,rfl,rfl⟩ ?_ ?_ ?_⟩
  · rintro i σ H' _ ⟨x,rfl,rfl⟩
    exact hp
  · rintro i x σ H' hi ⟨y,rfl,rfl⟩
    obtain ⟨z,hz,p1,rfl,hp1⟩:=hN.get hi
    have zl:=hL z (List.mem_of_getElem? hz)
    have zb:=qb z (List.mem_of_getElem? hz)
    obtain ⟨f1,f3⟩:=qil (M:=M) (l.take i) 1 (fun q hq=>⟨(hL q (List.mem_of_mem_take hq)).pos,hO.2 q (List.mem_of_mem_take hq)⟩) (by decide) (Int.one_dvd M)
    have f4:=qdp (Int.ne_of_gt hO.1) f3 bM
    obtain ⟨s1,_,_,s4,s5,s6⟩:=qii f1 zl.pos
    rwa [hp1]
    refine ⟨s5,qps f4 (zb.le s4),?_,_,rfl⟩
    rw [qoa hz]
  · rintro σ H' ⟨x,rfl,rfl⟩
    rw [lx,List.take_length]
    rwa [hp]
    refine ⟨⟨_,SqT.of hp⟩,CompJ.tup (xs:=xs) (fun i ys H''=>i≤xs.length∧ys=((qdA l).take i).map V.int∧H''=H') ⟨Nat.zero_le _,rfl,rfl⟩ ?_ ?_ ?_⟩
    · rintro i ys H'' ⟨h1,rfl,rfl⟩
      refine ⟨h1,sz ?_,hp⟩
      rw [List.length_map,List.length_take];omega
    · rintro i x ys H'' hi ⟨h1,rfl,rfl⟩
      obtain ⟨z,hz,p1,rfl,hp1⟩:=hN.get hi
      have zl:=hL z (List.mem_of_getElem? hz)
      have zb:=qb z (List.mem_of_getElem? hz)
      have zn:=hB z (List.mem_of_getElem? hz)
      have hi2:i<xs.length:=(List.getElem?_eq_some_iff.mp hi).1
      rwa [hp1]
      have eB:l.foldl (fun B q=>B*(q.2 / ((Int.gcd B q.2:Nat):Int))) 1=qfp l:=rfl
      rw [eB]
      have cz:(qdA l)[i]?=some (z.1*(qfp l / z.2)):=by unfold qdA;rw [List.getElem?_map,hz];rfl
      refine ⟨zl.pos,qps zn (BB.le (qhq B0 zl.pos)),by omega,?_⟩
      rw [qbR V.int cz]
    · rintro ys H'' ⟨_,rfl,rfl⟩ a ha
      refine ⟨sz (by decide),fun r hr=>?_⟩
      have e:(qdA l).take xs.length=qdA l:=by
        rw [lx,show l.length=(qdA l).length by unfold qdA;rw [List.length_map],List.take_length]
      rw [e] at hr ⊢
      have s:=(qaf ha (HO.lst ((qdA l).map V.int))).trans (qaf hr (HO.tup [V.ref a,V.int (qfp l)]))
      exact q r a _ s qai (qaf hr _ _ _ qai)
theorem qjn (h:qbf K vs H Q E):qeO K { nx:=fun _ H'=>Q .non H',rt:=Q } (L2.start ["row", "bottom"] vs) H:=by
  obtain ⟨p,ns,B,rfl,hp,hB,hl,q⟩:=h
  unfold qeO
  rwa [hp]
  refine ⟨⟨_,SqL.of hp⟩,CompJ.lst (xs:=ns.map V.int) (fun i ys H'=>i≤ns.length∧Same H H'∧Nums H' ys ((ns.take i).map fun n=>qb7 n B)) ⟨Nat.zero_le _,Same.refl H,trivial⟩ ?_ ?_ ?_⟩
  · rintro i ys H' ⟨h1,s1,hN⟩
    refine ⟨by rw [List.length_map];exact h1,sz ?_,SqL.of (s1 _ _ hp)⟩
    rw [hN.length,List.length_map,List.length_take];omega
  · rintro i x ys H' hi ⟨h1,s1,hN⟩
    rw [List.getElem?_map] at hi
    cases e:ns[i]? with
    | none=>rw [e] at hi;cases hi
    | some n=>
      rw [e] at hi
      obtain rfl:V.int n=x:=Option.some.inj hi
      have hi2:i<ns.length:=(List.getElem?_eq_some_iff.mp e).1
      rwa []
      refine ⟨hB,fun r hr=>⟨by omega,s1.trans (qaf hr _),?_⟩⟩
      rw [qbR _ e]
      exact (hN.tp (tpS (qaf hr _))).append (Nums.one qip)
  · rintro ys H' ⟨_,s1,hN⟩ a ha
    rw [List.length_map,List.take_length] at hN
    have s2:=qaf ha (HO.lst ys)
    rwa []
    refine ⟨_,hN.tp (tpS s2),by rw [List.length_map];exact hl,fun r zs H'' s3 hr hz=>q r zs H'' ((s1.trans s2).trans s3) hr hz⟩
theorem qkU {b:Nat} {l:List Nu} {M:Int} (hl:qaJ l) (h:Ov l M) (hb:∀ z∈ovN l M,Bd b z):∀ q∈l,Bd b q.1:=fun q hq=>by
  refine (hb (q.1*(M / q.2)) (List.mem_map.mpr ⟨q,hq,rfl⟩)).le ?_
  rw [Int.natAbs_mul]
  obtain ⟨y,hy⟩:=h.2 q hq
  have p0:=(hl q hq).pos
  have m0:=h.1
  have:M / q.2=y:=by rw [hy,Int.mul_ediv_cancel_left _ (Int.ne_of_gt p0)]
  rw [this]
  refine Nat.le_mul_of_pos_right _ ?_
  rcases Nat.eq_zero_or_pos y.natAbs with z | z
  · have y0:y=0:=by omega
    rw [y0] at hy;omega
  · exact z
theorem qg2 {g f:List Int} (lg:Lz g) (lf:Lz f) (mq:MQ (co g) (co f)):g.length≤f.length:=by
  obtain ⟨c,c0,A,hA⟩:=mq
  rcases Nat.lt_or_ge f.length g.length with y | y
  · exfalso
    rcases qhr A with z | ⟨B,lB,_,eB⟩
    · have:c*co f (f.length - 1)=0:=by rw [hA,qbv,qcb g z]
      rcases Int.mul_eq_zero.mp this with e | e
      · exact c0 e
      · exact lf.2 e
    · have hB:∀ k,c*co f k=cvL B (co g) k:=fun k=>by rw [hA,qbv,qak (fun j=>(eB j).symm) g k,← qbv]
      have b0:=lB.1
      have g0:=lg.1
      have ne:B≠[]:=List.length_pos_iff.mp b0
      obtain ⟨X,t,hX⟩:∃ X t,B=X++[t]:=⟨B.dropLast,B.getLast ne,(List.dropLast_concat_getLast ne).symm⟩
      have tl:X.length=B.length - 1:=by rw [hX];simp
      have tc:co B (B.length - 1)=t:=by rw [← tl,hX];unfold co;simp [List.getD_eq_getElem?_getD]
      have e:=hB (B.length - 1+(g.length - 1))
      rw [qaz (by omega),hX,qbn,← hX,qb8 (n:=g.length) (fun i hi=>qaz hi) X _ (by omega)] at e
      unfold upS at e
      rw [if_pos (by omega),show B.length - 1+(g.length - 1) - X.length=g.length - 1 by omega] at e
      have e2:t*co g (g.length - 1)=0:=by omega
      rcases Int.mul_eq_zero.mp e2 with x | x
      · exact lB.2 (tc.trans x)
      · exact lg.2 x
  · exact y
theorem php:∀ (m n:Nat) (f:Nat→Nat),(∀ i,i<n→f i<m)→m<n→∃ i j,i<j∧j<n∧f i=f j
  | 0,n,f,h,hn=>absurd (h 0 hn) (Nat.not_lt_zero _)
  | m+1,n,f,h,hn=>by
    obtain ⟨n,rfl⟩:∃ k,n=k+1:=⟨n - 1,by omega⟩
    by_cases c:∃ i,i<n∧f i=f n
    · obtain ⟨i,hi,e⟩:=c
      exact ⟨i,n,hi,by omega,e⟩
    · have c:∀ i,i<n→f i≠f n:=fun i hi e=>c ⟨i,hi,e⟩
      have hv:=h n (by omega)
      obtain ⟨i,j,hij,hj,e⟩:=php m n (fun i=>if f n<f i then f i - 1 else f i) (fun i hi=>by
        have h1:=h i (by omega)
        have h2:=c i hi
        show (if f n<f i then f i - 1 else f i)<m
        split <;> omega) (by omega)
      refine ⟨i,j,hij,by omega,?_⟩
      have c1:=c i (by omega)
      have c2:=c j hj
      have e:(if f n<f i then f i - 1 else f i)=(if f n<f j then f j - 1 else f j):=e
      split at e <;> split at e <;> omega
noncomputable def enc (M:Nat):Nat→(Nat→Nat)→Nat
  | 0,_=>0
  | N+1,e=>e 0+M*enc M N (fun k=>e (k+1))
theorem qoS {M:Nat}:∀ (N:Nat) (e:Nat→Nat),(∀ k,k<N→e k<M)→enc M N e<M ^ N
  | 0,_,_=>Nat.one_pos
  | N+1,e,h=>by
    have h1:=qoS N (fun k=>e (k+1)) (fun k hk=>h (k+1) (by omega))
    have h0:=h 0 (by omega)
    show e 0+M*enc M N (fun k=>e (k+1))<M ^ (N+1)
    have h2:M*(enc M N (fun k=>e (k+1))+1)≤M*M ^ N:=Nat.mul_le_mul_left M h1
    rw [Nat.pow_succ,Nat.mul_comm (M ^ N)]
    rw [Nat.mul_add,Nat.mul_one] at h2
    omega
theorem qkV {M a b x y:Nat} (ha:a<M) (hb:b<M) (h:a+M*x=b+M*y):a=b∧x=y:=by
  have h1:(a+M*x) % M=a:=by rw [Nat.add_mul_mod_self_left,Nat.mod_eq_of_lt ha]
  have h2:(b+M*y) % M=b:=by rw [Nat.add_mul_mod_self_left,Nat.mod_eq_of_lt hb]
  have e:a=b:=by rw [← h1,h,h2]
  subst e
  exact ⟨rfl,Nat.eq_of_mul_eq_mul_left (by omega) (Nat.add_left_cancel h)⟩
theorem qm4 {M:Nat}:∀ (N:Nat) (e e':Nat→Nat),(∀ k,k<N→e k<M)→(∀ k,k<N→e' k<M)→enc M N e=enc M N e'→∀ k,k<N→e k=e' k
  | 0,_,_,_,_,_,k,hk=>absurd hk (Nat.not_lt_zero _)
  | N+1,e,e',h,h',q,k,hk=>by
    obtain ⟨q1,q2⟩:=qkV (h 0 (by omega)) (h' 0 (by omega)) q
    cases k with
    | zero=>exact q1
    | succ k=>exact qm4 N _ _ (fun k hk=>h (k+1) (by omega)) (fun k hk=>h' (k+1) (by omega)) q2 k (by omega)
noncomputable def digs (p:Nat):Nat→Nat→List Int
  | 0,_=>[]
  | N+1,t=>((t % p:Nat):Int)::digs p N (t / p)
theorem qiw (p:Nat):∀ (N t:Nat),(digs p N t).length=N
  | 0,_=>rfl
  | N+1,t=>by show (digs p N (t / p)).length+1=N+1;rw [qiw p N]
theorem qj9 {p:Nat} (p0:0<p):∀ (N t:Nat),∀ z∈digs p N t,0≤z∧z<(p:Int)
  | 0,_,z,h=>by cases h
  | N+1,t,z,h=>by
    rcases List.mem_cons.mp h with rfl | h
    · have:=Nat.mod_lt t p0;omega
    · exact qj9 p0 N _ z h
theorem qkW {p:Nat} (p0:0<p):∀ (N t s:Nat),t<p ^ N→s<p ^ N→digs p N t=digs p N s→t=s
  | 0,t,s,h1,h2,_=>by rw [Nat.pow_zero] at h1 h2;omega
  | N+1,t,s,h1,h2,h=>by
    injection h with a b
    rw [Nat.pow_succ,Nat.mul_comm] at h1 h2
    have:=qkW p0 N (t / p) (s / p) (Nat.div_lt_of_lt_mul h1) (Nat.div_lt_of_lt_mul h2) b
    have e1:=Nat.div_add_mod t p
    have e2:=Nat.div_add_mod s p
    have a:t % p=s % p:=by exact_mod_cast a
    rw [← e1,← e2,this,a]
theorem qm5 {g:Nat→Int} {h q:Nat} (hg:∀ k,(g k).natAbs≤h):∀ (a:List Int),(∀ z∈a,z.natAbs≤q)→∀ k,(cvL a g k).natAbs≤a.length*(q*h)
  | [],_,k=>by show (0:Int).natAbs≤_;simp
  | x::a,ha,0=>by
    rw [qao]
    have h1:(x*g 0).natAbs≤q*h:=by rw [Int.natAbs_mul];exact Nat.mul_le_mul (ha x (List.mem_cons_self ..)) (hg 0)
    have:(x::a).length*(q*h)=a.length*(q*h)+q*h:=by rw [List.length_cons,Nat.add_mul,Nat.one_mul]
    omega
  | x::a,ha,k+1=>by
    rw [qal]
    have h1:(x*g (k+1)).natAbs≤q*h:=by rw [Int.natAbs_mul];exact Nat.mul_le_mul (ha x (List.mem_cons_self ..)) (hg (k+1))
    have h2:=qm5 hg a (fun z hz=>ha z (List.mem_cons_of_mem _ hz)) k
    have:(x::a).length*(q*h)=a.length*(q*h)+q*h:=by rw [List.length_cons,Nat.add_mul,Nat.one_mul]
    omega
theorem qpt {A B u v:List Int} (lA:Lz A) (lB:Lz B) (q:QI (co A) (co B) qbT) (hu:u.length<B.length) (hv:v.length<A.length) (h:∀ k,cvL u (co A) k+cvL v (co B) k=0):(∀ k,co u k=0)∧∀ k,co v k=0:=by
  obtain ⟨d,d0,U,V,hd⟩:=q
  have half:∀ {A B u v U V:List Int},Lz B→(∀ k,d*qbT k=cvL U (co A) k+cvL V (co B) k)→u.length<B.length→(∀ k,cvL u (co A) k+cvL v (co B) k=0)→∀ k,co u k=0:=fun {A B u v U V} lB hd hu h=>by
    rcases qhr u with z | ⟨f,lf,fl,ef⟩
    · exact z
    · exfalso
      have mq:MQ (co B) (co f):=by
        refine ⟨d,d0,qa5 (qaW V u) ((qaW U v).map ((-1)*·)),fun k=>?_⟩
        rw [qax,qat,qaq,qaq,ef k,qcc u k,← qba,qak hd,qd6,qep (co A) u U,qep (co B) u V]
        have e:cvL U (cvL u (co A)) k = - cvL U (cvL v (co B)) k:=by
          have:cvL U (cvL u (co A)) k+cvL U (cvL v (co B)) k=0:=by rw [← qd6];exact qcb U h k
          omega
        rw [e];omega
      have:=qg2 lB lf mq
      omega
  exact ⟨half lB hd hu h,half (A:=B) (B:=A) (u:=v) (v:=u) (U:=V) (V:=U) lA (fun k=>by rw [hd k];omega) hv (fun k=>by have:=h k;omega)⟩
theorem qod {a b:Int} (h:a=b):a∣b:=by rw [h];exact Int.dvd_refl b
theorem cvD {p:Int} {f g:Nat→Int} {S:List Int} (h:∀ k,p∣f k - cvL S g k):∀ (a:List Int) (k:Nat),p∣cvL a f k - cvL a (cvL S g) k
  | [],k=>by show p∣(0:Int) - 0;simp
  | x::a,0=>by
    rw [qao,qao]
    have:=Int.dvd_trans (h 0) (Int.dvd_mul_left x _)
    rw [Int.mul_sub] at this
    refine Int.dvd_trans this (qod ?_)
    omega
  | x::a,k+1=>by
    rw [qal,qal]
    have h1:=Int.dvd_trans (h (k+1)) (Int.dvd_mul_left x _)
    have h2:=cvD h a k
    rw [Int.mul_sub] at h1
    have:=Int.dvd_add h1 h2
    refine Int.dvd_trans this (qod ?_)
    omega
theorem qjo:∀ (a b:List Int),(qa5 a b).length=max a.length b.length
  | [],b=>by show b.length=max 0 b.length;omega
  | a,[]=>by rw [qgL];show a.length=max a.length 0;omega
  | x::a,y::b=>by
    show (qa5 a b).length+1=max (a.length+1) (b.length+1)
    rw [qjo a b];omega
theorem qoT {a b:List Int} (hl:a.length=b.length) (h:∀ k,co a k=co b k):a=b:=by
  refine List.ext_getElem hl fun i h1 h2=>?_
  have:=h i
  unfold co at this
  rwa [List.getD_eq_getElem?_getD,List.getD_eq_getElem?_getD,List.getElem?_eq_getElem h1,List.getElem?_eq_getElem h2] at this
theorem lucky {A B G:List Int} {p b:Nat} (hp:Pr p) (lA:Lz A) (lB:Lz B) (q:QI (co A) (co B) qbT) (hA:∀ k,Bd b (co A k)) (hB:∀ k,Bd b (co B k)) (n1:2≤A.length) (m1:2≤B.length) (g2:2≤G.length) (g1:¬ (p:Int)∣co G (G.length - 1)) (dA:Dm (p:Int) (co G) (co A)) (dB:Dm (p:Int) (co G) (co B))
    (big:(2*((A.length+B.length)*2 ^ b)) ^ (A.length+B.length - 2)<p):False:=by
  have p2:=hp.two
  have p0:0<p:=by omega
  generalize hn:A.length - 1=n at *
  generalize hm:B.length - 1=m at *
  generalize hE:(A.length+B.length)*2 ^ b=E at *
  have N1:A.length+B.length - 2=n+m:=by omega
  rw [N1] at big
  have hAn:∀ k,(co A k).natAbs≤2 ^ b:=fun k=>Nat.le_of_lt (hA k)
  have hBn:∀ k,(co B k).natAbs≤2 ^ b:=fun k=>Nat.le_of_lt (hB k)
  have E0:0<E:=by rw [← hE];exact Nat.mul_pos (by omega) (Nat.pow_pos (by decide))
  let u:Nat→List Int:=fun t=>(digs p (m+n) t).take m
  let v:Nat→List Int:=fun t=>(digs p (m+n) t).drop m
  let f:Nat→Nat→Int:=fun t k=>cvL (u t) (co A) k+cvL (v t) (co B) k
  have ul:∀ t,(u t).length=m:=fun t=>by show ((digs p (m+n) t).take m).length=m;rw [List.length_take,qiw];omega
  have vl:∀ t,(v t).length=n:=fun t=>by show ((digs p (m+n) t).drop m).length=n;rw [List.length_drop,qiw];omega
  have uz:∀ t,∀ z∈u t,0≤z∧z<(p:Int):=fun t z hz=>qj9 p0 _ t z (List.mem_of_mem_take hz)
  have vz:∀ t,∀ z∈v t,0≤z∧z<(p:Int):=fun t z hz=>qj9 p0 _ t z (List.mem_of_mem_drop hz)
  have fb:∀ t k,(f t k).natAbs<E*p:=fun t k=>by
    have h1:=qm5 (q:=p - 1) hAn (u t) (fun z hz=>by have:=uz t z hz;omega) k
    have h2:=qm5 (q:=p - 1) hBn (v t) (fun z hz=>by have:=vz t z hz;omega) k
    rw [ul] at h1
    rw [vl] at h2
    have h3:(f t k).natAbs≤(m+n)*((p - 1)*2 ^ b):=by
      rw [Nat.add_mul]
      show (cvL (u t) (co A) k+cvL (v t) (co B) k).natAbs≤_
      omega
    refine Nat.lt_of_le_of_lt h3 ?_
    rw [← hE]
    have e:(m+n)*((p - 1)*2 ^ b)=((m+n)*2 ^ b)*(p - 1):=by rw [Nat.mul_comm (p - 1),Nat.mul_assoc]
    rw [e]
    exact Nat.lt_of_lt_of_le (Nat.mul_lt_mul_of_pos_left (by omega) (Nat.mul_pos (by omega) (Nat.pow_pos (by decide)))) (Nat.mul_le_mul_right p (Nat.mul_le_mul_right _ (by omega)))
  let e0:Nat→Nat:=fun t=>(f t 0 / (p:Int)+(E:Int)).toNat
  let ek:Nat→Nat→Nat:=fun t k=>(f t (k+1)+((E*p:Nat):Int)).toNat
  have e0r:∀ t,0≤f t 0 / (p:Int)+(E:Int)∧f t 0 / (p:Int)+(E:Int)<2*(E:Int):=fun t=>by
    have h:=fb t 0
    have h1:-((E:Int)*(p:Int))≤f t 0:=by have:((E*p:Nat):Int)=(E:Int)*(p:Int):=by push_cast;rfl
                                         omega
    have h2:f t 0<(E:Int)*(p:Int):=by have:((E*p:Nat):Int)=(E:Int)*(p:Int):=by push_cast;rfl
                                      omega
    have q1:-(E:Int)≤f t 0 / (p:Int):=by
      refine (Int.le_ediv_iff_mul_le (by omega)).mpr ?_
      rw [Int.neg_mul];exact h1
    have q2:f t 0 / (p:Int)<(E:Int):=Int.ediv_lt_of_lt_mul (by omega) h2
    omega
  have ekr:∀ t k,0≤f t (k+1)+((E*p:Nat):Int)∧f t (k+1)+((E*p:Nat):Int)<2*((E*p:Nat):Int):=fun t k=>by
    have h:=fb t (k+1)
    omega
  have e0l:∀ t,e0 t<2*E:=fun t=>by have:=e0r t;show (f t 0 / (p:Int)+(E:Int)).toNat<2*E;omega
  have ekl:∀ t k,ek t k<2*(E*p):=fun t k=>by have:=ekr t k;show (f t (k+1)+((E*p:Nat):Int)).toNat<2*(E*p);omega
  have cl:∀ t,e0 t+2*E*enc (2*(E*p)) (m+n - 1) (ek t)<2*E*(2*(E*p)) ^ (m+n - 1):=fun t=>by
    have h1:=qoS (M:=2*(E*p)) (m+n - 1) (ek t) (fun k _=>ekl t k)
    have h2:2*E*(enc (2*(E*p)) (m+n - 1) (ek t)+1)≤2*E*(2*(E*p)) ^ (m+n - 1):=Nat.mul_le_mul_left _ h1
    have h3:=e0l t
    rw [Nat.mul_add,Nat.mul_one] at h2
    omega
  have room:2*E*(2*(E*p)) ^ (m+n - 1)<p ^ (m+n):=by
    obtain ⟨N,hN⟩:∃ N,m+n=N+1:=⟨m+n - 1,by omega⟩
    rw [hN,Nat.add_sub_cancel]
    rw [Nat.add_comm n m,hN] at big
    have e:2*E*(2*(E*p)) ^ N=(2*E) ^ (N+1)*p ^ N:=by
      rw [← Nat.mul_assoc 2 E p,Nat.mul_pow (2*E) p N,Nat.pow_succ,Nat.mul_comm ((2*E) ^ N) (2*E),Nat.mul_assoc (2*E)]
    rw [e,Nat.pow_succ p,Nat.mul_comm (p ^ N) p]
    exact Nat.mul_lt_mul_of_pos_right big (Nat.pow_pos p0)
  obtain ⟨s,t,st,ht,e⟩:=php _ _ _ (fun i _=>cl i) room
  obtain ⟨q0,q1⟩:=qkV (e0l s) (e0l t) e
  have qk:=qm4 (m+n - 1) _ _ (fun k _=>ekl s k) (fun k _=>ekl t k) q1
  have w0:∀ k,(co (u s) k - co (u t) k)=co (qa5 (u s) ((u t).map ((-1)*·))) k:=fun k=>by rw [qcc,qcc,qcc,qax,qat];omega
  have df:∀ k,f s k - f t k=cvL (qa5 (u s) ((u t).map ((-1)*·))) (co A) k+cvL (qa5 (v s) ((v t).map ((-1)*·))) (co B) k:=fun k=>by
    rw [qax,qax,qat,qat]
    show cvL (u s) (co A) k+cvL (v s) (co B) k - (cvL (u t) (co A) k+cvL (v t) (co B) k)=_
    omega
  have hi:∀ k,0<k→f s k - f t k=0:=fun k hk=>by
    rcases Nat.lt_or_ge k (m+n) with c | c
    · have:=qk (k - 1) (by omega)
      have r1:=ekr s (k - 1)
      have r2:=ekr t (k - 1)
      have this:(f s (k - 1+1)+((E*p:Nat):Int)).toNat=(f t (k - 1+1)+((E*p:Nat):Int)).toNat:=this
      rw [show k - 1+1=k by omega] at *
      omega
    · have z:∀ t,f t k=0:=fun t=>by
        show cvL (u t) (co A) k+cvL (v t) (co B) k=0
        rw [qb8 (n:=A.length) (fun i hi=>qaz hi) (u t) k (by rw [ul];omega),qb8 (n:=B.length) (fun i hi=>qaz hi) (v t) k (by rw [vl];omega)];rfl
      rw [z,z];rfl
  have d0:(f s 0 - f t 0).natAbs<p:=by
    have r1:=e0r s
    have r2:=e0r t
    have q0:(f s 0 / (p:Int)+(E:Int)).toNat=(f t 0 / (p:Int)+(E:Int)).toNat:=q0
    have q0:f s 0 / (p:Int)=f t 0 / (p:Int):=by omega
    have m1:=Int.emod_add_mul_ediv (f s 0) p
    have m2:=Int.emod_add_mul_ediv (f t 0) p
    have b1:=Int.emod_nonneg (f s 0) (show (p:Int)≠0 by omega)
    have b2:=Int.emod_lt_of_pos (f s 0) (show (0:Int)<p by omega)
    have b3:=Int.emod_nonneg (f t 0) (show (p:Int)≠0 by omega)
    have b4:=Int.emod_lt_of_pos (f t 0) (show (0:Int)<p by omega)
    rw [q0] at m1
    omega
  have dm:Dm (p:Int) (co G) (co [f s 0 - f t 0]):=by
    obtain ⟨SA,hSA⟩:=dA
    obtain ⟨SB,hSB⟩:=dB
    refine ⟨qa5 (qaW (qa5 (u s) ((u t).map ((-1)*·))) SA) (qaW (qa5 (v s) ((v t).map ((-1)*·))) SB),fun k=>?_⟩
    have e:co [f s 0 - f t 0] k=f s k - f t k:=by
      cases k with
      | zero=>rfl
      | succ k=>rw [hi (k+1) (by omega)];exact qaz (by simp)
    rw [e,df,qax (co G),qaq,qaq]
    have h1:=cvD (p:=(p:Int)) hSA (qa5 (u s) ((u t).map ((-1)*·))) k
    have h2:=cvD (p:=(p:Int)) hSB (qa5 (v s) ((v t).map ((-1)*·))) k
    have:=Int.dvd_add h1 h2
    refine Int.dvd_trans this (qod ?_)
    omega
  have z0:f s 0 - f t 0=0:=by
    by_cases c:(p:Int)∣f s 0 - f t 0
    · obtain ⟨y,hy⟩:=c
      rcases Int.lt_trichotomy y 0 with z | z | z
      · have:(p:Int)*y≤(p:Int)*(-1):=Int.mul_le_mul_of_nonneg_left (by omega) (by omega)
        omega
      · rw [hy,z];omega
      · have:(p:Int)*1≤(p:Int)*y:=Int.mul_le_mul_of_nonneg_left (by omega) (by omega)
        omega
    · exfalso
      have:=Dm.len hp (by omega) g1 dm ⟨0,c⟩
      simp at this
      omega
  have all:∀ k,cvL (qa5 (u s) ((u t).map ((-1)*·))) (co A) k+cvL (qa5 (v s) ((v t).map ((-1)*·))) (co B) k=0:=fun k=>by
    rw [← df]
    cases k with
    | zero=>exact z0
    | succ k=>exact hi (k+1) (by omega)
  have ll:∀ {a c:List Int} {x:Nat},a.length=x→c.length=x→(qa5 a (c.map ((-1)*·))).length=x:=fun {a c x} h1 h2=>by
    rw [qjo,List.length_map,h1,h2];omega
  obtain ⟨c1,c2⟩:=qpt lA lB q (by rw [ll (ul s) (ul t)];omega) (by rw [ll (vl s) (vl t)];omega) all
  have eu:u s=u t:=qoT (by rw [ul,ul]) fun k=>by have:=c1 k;rw [← w0] at this;omega
  have ev:v s=v t:=qoT (by rw [vl,vl]) fun k=>by
    have:=c2 k
    rw [qcc,qax,qat,← qcc,← qcc] at this;omega
  have:digs p (m+n) s=digs p (m+n) t:=by
    rw [← List.take_append_drop m (digs p (m+n) s),← List.take_append_drop m (digs p (m+n) t)]
    exact congr (congrArg _ eu) ev
  have:=qkW p0 _ _ _ (by omega) (by omega) this
  omega
theorem qh2:∀ (ts l:List Int),ts.Nodup→(∀ t∈ts,evI l t=0)→l.length≤ts.length→∀ k,co l k=0
  | [],l,_,_,h,k=>qaz (by have:l.length=0:=by simpa using h
                          omega)
  | t::ts,l,nd,hr,hl,k=>by
    have nd':=List.nodup_cons.mp nd
    have e0:=hr t (List.mem_cons_self ..)
    have sd:co (syn l t) ((syn l t).length - 1)=0:=by rw [qio];exact qn6 l t
    have cd:=qeM sd
    have z:∀ k,co (syn l t) k=0:=fun k=>by
      rw [← cd k]
      refine qh2 ts (syn l t).dropLast nd'.2 (fun x hx=>?_) (by rw [List.length_dropLast,qio];simp at hl;omega) k
      rw [qgM _ _ x cd]
      have h1:=qmQ l t x
      rw [hr x (List.mem_cons_of_mem _ hx),e0] at h1
      have ne:x - t≠0:=fun q=>nd'.1 (by have:x=t:=by omega
                                        rw [← this];exact hx)
      have h1:(x - t)*evI (syn l t) x=0:=by omega
      rcases Int.mul_eq_zero.mp h1 with q | q
      · exact absurd q ne
      · exact q
    rw [qkP l t k,z k]
    split
    · rw [e0];omega
    · rw [z (k - 1)];omega
theorem qm6 (n:Nat):((List.range (2*n+1)).map fun i:Nat=>(i:Int) - (n:Int)).Nodup:=by
  unfold List.Nodup
  rw [List.pairwise_map]
  exact (List.nodup_range (n:=2*n+1)).imp fun h q=>h (by omega)
theorem qkX (f:Int→Bool):∀ P:List Int,(P.filter f).length+(P.filter fun x=>!f x).length=P.length
  | []=>rfl
  | x::P=>by
    have:=qkX f P
    rw [List.filter_cons,List.filter_cons,List.length_cons]
    cases f x
    · simp;omega
    · simp;omega
theorem qoe {r:List Int} {n:Nat} (r0:∃ k,co r k≠0) (rl:r.length≤n):∃ x:Nat→Int,(∀ i,i≤n→evI r (x i)≠0∧(x i).natAbs≤n)∧∀ i j,i≤n→j≤n→i≠j→x i≠x j:=by
  let P:List Int:=(List.range (2*n+1)).map fun i:Nat=>(i:Int) - (n:Int)
  have pl:P.length=2*n+1:=by show ((List.range (2*n+1)).map fun i:Nat=>(i:Int) - (n:Int)).length=_;rw [List.length_map,List.length_range]
  have pn:P.Nodup:=qm6 n
  have pr:∀ x∈P,x.natAbs≤n:=fun x hx=>by
    obtain ⟨i,hi,rfl⟩:=List.mem_map.mp hx
    have:=List.mem_range.mp hi
    omega
  have parts:(P.filter fun x=>decide (evI r x=0)).length+(P.filter fun x=>!decide (evI r x=0)).length=P.length:=by
    exact qkX _ P
  have few:(P.filter fun x=>decide (evI r x=0)).length<r.length:=by
    rcases Nat.lt_or_ge (P.filter fun x=>decide (evI r x=0)).length r.length with c | c
    · exact c
    · exfalso
      obtain ⟨k,hk⟩:=r0
      exact hk (qh2 _ r (pn.filter _) (fun t ht=>by simpa using (List.mem_filter.mp ht).2) c k)
  let Gd:=P.filter fun x=>!decide (evI r x=0)
  have gl:n+1≤Gd.length:=by
    show n+1≤(P.filter fun x=>!decide (evI r x=0)).length
    omega
  have gn:Gd.Nodup:=pn.filter _
  refine ⟨fun i=>Gd.getD i 0,fun i hi=>?_,fun i j hi hj hij e=>?_⟩
  · have hlt:i<Gd.length:=by omega
    have e:Gd.getD i 0=Gd[i]:=by rw [List.getD_eq_getElem?_getD,List.getElem?_eq_getElem hlt];rfl
    show evI r (Gd.getD i 0)≠0∧(Gd.getD i 0).natAbs≤n
    rw [e]
    have m:=List.mem_filter.mp (List.getElem_mem hlt)
    exact ⟨by simpa using m.2,pr _ m.1⟩
  · have h1:i<Gd.length:=by omega
    have h2:j<Gd.length:=by omega
    have e:Gd.getD i 0=Gd.getD j 0:=e
    rw [List.getD_eq_getElem?_getD,List.getD_eq_getElem?_getD,List.getElem?_eq_getElem h1,List.getElem?_eq_getElem h2] at e
    have e:Gd[i]=Gd[j]:=e
    have pw:=List.pairwise_iff_getElem.mp gn
    rcases Nat.lt_or_gt_of_ne hij with q | q
    · exact pw i j h1 h2 q e
    · exact pw j i h2 h1 q e.symm
theorem qfD {b n c:Nat} {r g A:List Int} (hr:∀ z∈r,Bd b z) (r0:∃ k,co r k≠0) (rl:r.length≤n) (gl:g.length≤n) (hn:n<2 ^ c) (hA:∀ k,co r k=cvL A (co g) k):∀ k,Bd (b+n*(2*c+4)) (co g k):=by
  by_cases g0:g.length=0
  · intro k;rw [qaz (by omega)];exact qbP _
  obtain ⟨x,hx,xi⟩:=qoe r0 rl
  have bx:∀ i,i≤n→Bd c (x i):=fun i hi=>by
    show (x i).natAbs<2 ^ c
    have:=(hx i hi).2
    omega
  intro k
  have:=interp (c:=c) (g.length - 1) g (b+n*(c+1)) x (fun k hk=>qaz (by omega)) (fun i hi=>bx i (by omega)) (fun i j hi hj hij=>xi i j (by omega) (by omega) hij) (fun i hi=>by
    have ne:=(hx i (by omega)).1
    have e:=qn5 hA (x i)
    have bd:=qoM (bx i (by omega)) r hr
    have le:(evI g (x i)).natAbs≤(evI r (x i)).natAbs:=by
      rw [e,Int.natAbs_mul]
      refine Nat.le_mul_of_pos_left _ ?_
      rcases Nat.eq_zero_or_pos (evI A (x i)).natAbs with z | z
      · exact absurd (by rw [e,Int.natAbs_eq_zero.mp z];omega) ne
      · exact z
    refine (bd.le le).mono ?_
    have:=Nat.mul_le_mul_right (c+1) rl
    omega) k
  refine this.mono ?_
  have h1:(g.length - 1)*(c+3)≤n*(c+3):=Nat.mul_le_mul_right (c+3) (by omega)
  have h2:n*(2*c+4)=n*(c+1)+n*(c+3):=by rw [← Nat.mul_add];congr 1;omega
  omega
theorem qfj {a g:List Int} (la:Lz a) (lg:Lz g):cvL a (co g) (a.length - 1+(g.length - 1))=co a (a.length - 1)*co g (g.length - 1):=by
  obtain ⟨i,s,rfl⟩:∃ i s,a=i++[s]:=⟨a.dropLast,a.getLast (List.length_pos_iff.mp la.1),(List.dropLast_concat_getLast _).symm⟩
  have e:(i++[s]).length - 1=i.length:=by rw [List.length_append];simp
  have hs:co (i++[s]) i.length=s:=by
    unfold co
    rw [List.getD_eq_getElem?_getD,List.getElem?_append_right (Nat.le_refl _),Nat.sub_self];rfl
  rw [e,hs,qbn,qb8 (n:=g.length) (fun i hi=>qaz hi) i _ (by have:=lg.1;omega)]
  unfold upS
  rw [if_pos (by omega),show i.length+(g.length - 1) - i.length=g.length - 1 by omega]
  omega
theorem qm7 {X ms:List Int} (lm:Lz ms) {T:Nat} (h:∀ k,T+(ms.length - 1)≤k→cvL X (co ms) k=0):(∀ j,T≤j→co X j=0)∧∀ s,T=s+1→cvL X (co ms) (s+(ms.length - 1))=co X s*co ms (ms.length - 1):=by
  rcases qhr X with z | ⟨Y,lY,_,eY⟩
  · refine ⟨fun j _=>z j,fun s _=>?_⟩
    rw [qbv,qcb ms z,z s];omega
  · have hY:∀ k,cvL X (co ms) k=cvL Y (co ms) k:=fun k=>by rw [qbv,qak (fun j=>(eY j).symm) ms k,← qbv]
    have tp:=qfj lY lm
    have ly:Y.length≤T:=by
      rcases Nat.lt_or_ge T Y.length with c | c
      · exfalso
        have:=h (Y.length - 1+(ms.length - 1)) (by omega)
        rw [hY,tp] at this
        exact Int.mul_ne_zero lY.2 lm.2 this
      · exact c
    refine ⟨fun j hj=>by rw [← eY];exact qaz (by omega),fun s hs=>?_⟩
    rw [hY,← eY]
    have y0:=lY.1
    rcases Nat.lt_or_ge Y.length T with c | c
    · rw [qaz (by omega),qb8 (n:=ms.length) (fun i hi=>qaz hi) Y _ (by have:=lm.1;omega)];omega
    · rw [show s=Y.length - 1 by omega];exact tp
theorem qm8 {m n:Nat} {x y:Int} (hx:Bd m x) (hy:Bd n y) (hm:m≤60000000:=by omega) (hn:n≤60000000:=by omega):IntMulOk x y:=qlq (hx.mono hm) (hy.mono hn)
theorem qpu {ns:List Int} {m:Int} (ms:List Int) (hms:ms=(ns.filter (fun z=>!decide (z=0))).map fun z=>if z<0 then -z else z) (h:ms=[]∧m=0∨m∈ms) (d:Int):(∀ z∈ns,d∣z)→d∣m:=by
  intro hd
  rcases h with ⟨_,e⟩ | h
  · rw [e];exact Int.dvd_zero d
  · rw [hms] at h
    obtain ⟨z,hz,rfl⟩:=List.mem_map.mp h
    have:=hd z (List.mem_filter.mp hz).1
    show d∣if z<0 then -z else z
    split
    · exact Int.dvd_neg.mpr this
    · exact this
theorem qlt (h:qbZ K vs H Q E):qgP K { nx:=fun _ H'=>Q .non H',rt:=Q } (L2.start ["row", "start", "found", "whole"] vs) H:=by
  obtain ⟨p,ns,st,rfl,hp,hl,k⟩:=h
  unfold qgP
  rwa []
  refine ⟨⟨_,SqL.of hp⟩,CompF.lst (xs:=ns.map V.int) (fun i ys H'=>i≤ns.length∧H'=H∧ys=(((ns.take i).filter (fun z=>!decide (z=0))).map fun z=>if z<0 then -z else z).map V.int) ⟨Nat.zero_le _,rfl,rfl⟩ ?_ ?_ ?_⟩
  · rintro i ys H' ⟨h1,rfl,rfl⟩
    refine ⟨by rw [List.length_map];exact h1,sz ?_,SqL.of hp⟩
    rw [List.length_map,List.length_map]
    exact Nat.le_trans (List.length_filter_le _ _) (by rw [List.length_take];omega)
  · rintro i x ys H' hi ⟨h1,rfl,rfl⟩
    rw [List.getElem?_map] at hi
    cases e:ns[i]? with
    | none=>rw [e] at hi;cases hi
    | some n=>
      rw [e] at hi
      obtain rfl:V.int n=x:=Option.some.inj hi
      have hi2:i<ns.length:=(List.getElem?_eq_some_iff.mp e).1
      have et:ns.take (i+1)=ns.take i++[n]:=by rw [List.take_add_one,e];rfl
      rwa []
      refine qcy (fun c=>?_) (fun c=>?_)
      · refine ⟨by omega,?_⟩
        have c0:¬ n=0:=by simpa using c
        simp [et,List.filter_append,c0]
      · refine ⟨by omega,?_⟩
        have c0:n=0:=by simpa using c
        simp [et,List.filter_append,c0]
  · rintro ys H' ⟨_,rfl,rfl⟩ a ha
    rw [List.length_map,List.take_length]
    have sa:=qaf ha (HO.lst (((ns.filter (fun z=>!decide (z=0))).map fun z=>if z<0 then -z else z).map V.int))
    have hpa:=sa _ _ hp
    refine ⟨_,rfl,_,qai,fun m hm=>?_⟩
    have hg:=qpu _ rfl hm
    generalize hHa:upd H' a (HO.lst (((ns.filter (fun z=>!decide (z=0))).map fun z=>if z<0 then -z else z).map V.int))=Ha at sa hpa ⊢
    refine ⟨⟨_,SqL.of hpa⟩,ForL.by (xs:=ns.map V.int) (fun i σ H2=>∃ (g:Int) (x:Option V),σ=[some (.ref p),some (.int st),some (.int g),x]∧H2=Ha∧0≤g∧g∣st∧(∀ z∈ns.take i,g∣z)∧(∀ d:Int,d∣st→(∀ z∈ns,d∣z)→d∣g)) ⟨_,none,rfl,rfl,by omega,Int.gcd_dvd_right m st,fun z hz=>(by simp at hz),fun d h1 h2=>Int.dvd_coe_gcd (hg d h2) h1⟩ ?_ ?_ ?_⟩
    · rintro i σ H2 _ ⟨g,x,rfl,rfl,_⟩
      exact SqL.of hpa
    · rintro i x σ H2 hi ⟨g,y,rfl,rfl,g0,g1,g2,g3⟩
      rw [List.getElem?_map] at hi
      cases e:ns[i]? with
      | none=>rw [e] at hi;cases hi
      | some n=>
        rw [e] at hi
        obtain rfl:V.int n=x:=Option.some.inj hi
        rwa []
        refine qcy (fun c=>?_) (fun c=>?_)
        · have c1:g=1:=by simpa using c
          subst c1
          exact k 1 _ sa (by decide) (Int.one_dvd _) (fun z _=>Int.one_dvd z) g3
        · refine ⟨by omega,Int.dvd_trans (Int.gcd_dvd_right n g) g1,fun z hz=>?_,fun d h1 h2=>Int.dvd_coe_gcd (h2 n (List.mem_of_getElem? e)) (g3 d h1 h2)⟩
          rw [List.take_add_one,e] at hz
          rcases List.mem_append.mp hz with z1 | z1
          · exact Int.dvd_trans (Int.gcd_dvd_right n g) (g2 z z1)
          · have z2:z=n:=by simpa using z1
            rw [z2];exact Int.gcd_dvd_left n g
    · rintro σ H2 ⟨g,x,rfl,rfl,g0,g1,g2,g3⟩
      rw [List.length_map,List.take_length] at g2
      rwa []
      exact k g _ sa g0 g1 g2 g3
theorem qix (h:qbp K vs H Q E):qea K { nx:=fun _ H'=>Q .non H',rt:=Q } (L2.start ["row", "divisor"] vs) H:=by
  obtain ⟨p,ns,g,rfl,hp,g0,hl,q⟩:=h
  unfold qea
  rwa []
  refine ⟨⟨_,SqL.of hp⟩,CompJ.lst (xs:=ns.map V.int) (fun i ys H'=>i≤ns.length∧H'=H∧ys=((ns.map (· / g)).take i).map V.int) ⟨Nat.zero_le _,rfl,rfl⟩ ?_ ?_ ?_⟩
  · rintro i ys H' ⟨h1,rfl,rfl⟩
    refine ⟨by rw [List.length_map];exact h1,sz ?_,SqL.of hp⟩
    rw [List.length_map,List.length_take];omega
  · rintro i x ys H' hi ⟨h1,rfl,rfl⟩
    rw [List.getElem?_map] at hi
    cases e:ns[i]? with
    | none=>rw [e] at hi;cases hi
    | some n=>
      rw [e] at hi
      obtain rfl:V.int n=x:=Option.some.inj hi
      have hi2:i<ns.length:=(List.getElem?_eq_some_iff.mp e).1
      have gp:0<g:=by
        rcases g0 with h | h
        · exact h
        · rw [h] at hi2;exact absurd hi2 (by simp)
      rwa []
      refine ⟨gp,by omega,?_⟩
      rw [qbR V.int (q:=n / g) (by rw [List.getElem?_map,e];rfl)]
  · rintro ys H' ⟨_,rfl,rfl⟩ a ha
    have e:(ns.map (· / g)).take (ns.map V.int).length=ns.map (· / g):=by rw [List.length_map,show ns.length=(ns.map (· / g)).length by rw [List.length_map],List.take_length]
    rw [e]
    exact q a ha
theorem qoU {ns:List Int} {k:Nat}:co ns k=ns.getD k 0:=rfl
theorem qiy (ns:List Int):Tz (qd8 ns):=by
  have key:∀ m,m≤ns.length→qcz ns m=0∨co ns (qcz ns m - 1)≠0:=by
    intro m
    induction m with
    | zero=>intro _;exact .inl rfl
    | succ m ih=>
      intro hm
      rw [qcX]
      split
      · exact ih (by omega)
      · rename_i z
        right
        rw [show m+1 - 1=m by omega,qoU]
        rw [List.getD_eq_getElem?_getD,List.getElem?_eq_getElem (by omega)] at z ⊢
        exact z
  have hl:(qd8 ns).length=qcz ns ns.length:=qg1
  rcases key ns.length (Nat.le_refl _) with h | h
  · left
    exact List.length_eq_zero_iff.mp (hl.trans h)
  · right
    rw [hl]
    show (qd8 ns).getD _ 0≠0
    rw [qjm]
    exact h
theorem qiz (ns:List Int) (k:Nat):co (qd8 ns) k=co ns k:=qjm k
theorem qfk (n:Nat) (F:Nat→Int):qbU n F=((List.range n).map F).map V.int:=rfl
theorem qrz (ns:List Int) (f:Int) (n:Nat) (h:ns.length≤n):List.map V.int (ns.map (f*·))++List.replicate (n - ns.length) (V.int 0)=qbU n fun k=>f*co ns k:=by
  rw [qfk]
  apply List.ext_getElem?
  intro i
  by_cases h1:i<ns.length
  · rw [List.getElem?_append_left (by rw [List.length_map,List.length_map];exact h1),List.getElem?_map,List.getElem?_map,List.getElem?_map,List.getElem?_map,List.getElem?_range (by omega),List.getElem?_eq_getElem h1]
    show _=some (V.int (f*ns.getD i 0))
    rw [List.getD_eq_getElem?_getD,List.getElem?_eq_getElem h1]
    rfl
  · rw [List.getElem?_append_right (by rw [List.length_map,List.length_map];omega),List.length_map,List.length_map,List.getElem?_map,List.getElem?_map]
    by_cases h2:i<n
    · rw [List.getElem?_replicate,if_pos (by omega),List.getElem?_range h2]
      show _=some (V.int (f*co ns i))
      rw [qaz (by omega),Int.mul_zero]
    · rw [List.getElem?_replicate,if_neg (by omega),List.getElem?_eq_none (by rw [List.length_range];omega)]
      rfl
theorem qka (h:qbD K vs H Q E):qfy K { nx:=fun _ H'=>Q .non H',rt:=Q } (L2.start ["row", "factor", "other", "weight", "shift", "result", "place", "whole"] vs) H:=by
  obtain ⟨p,q,ns,ms,f,w,s,rfl,hp,hq,hl,hls,bf,bw,bn,bm,k⟩:=h
  unfold qfy
  rwa []
  refine ⟨⟨_,SqL.of hp⟩,CompJ.lst (xs:=ns.map V.int) (fun i ys H'=>i≤ns.length∧H'=H∧ys=((ns.map (f*·)).take i).map V.int) ⟨Nat.zero_le _,rfl,rfl⟩ ?_ ?_ ?_⟩
  · rintro i ys H' ⟨h1,rfl,rfl⟩
    refine ⟨by rw [List.length_map];exact h1,sz ?_,SqL.of hp⟩
    rw [List.length_map,List.length_take];omega
  · rintro i x ys H' hi ⟨h1,rfl,rfl⟩
    rw [List.getElem?_map] at hi
    cases e:ns[i]? with
    | none=>rw [e] at hi;cases hi
    | some n=>
      rw [e] at hi
      obtain rfl:V.int n=x:=Option.some.inj hi
      have hi2:i<ns.length:=(List.getElem?_eq_some_iff.mp e).1
      rwa []
      refine ⟨qm8 bf (bn n (List.mem_of_getElem? e)),by omega,?_⟩
      rw [qbR V.int (q:=f*n) (by rw [List.getElem?_map,e];rfl)]
  · rintro ys H' ⟨_,rfl,rfl⟩ a ha
    have e:(ns.map (f*·)).take (ns.map V.int).length=ns.map (f*·):=by rw [List.length_map,show ns.length=(ns.map (f*·)).length by rw [List.length_map],List.take_length]
    rw [e]
    generalize hL:max ns.length (s+ms.length)=L
    have sa:=qaf ha (HO.lst (List.map V.int (ns.map (f*·))))
    have hpa:=sa _ _ hp
    have hqa:=sa _ _ hq
    rwa [hpa,hqa]
    refine ⟨qjX qai,sz (by decide),fun b hb=>?_⟩
    have sb:=qaf hb (HO.lst [V.int 0])
    refine ⟨_,sb _ _ hqa,_,sb _ _ hpa,?_⟩
    have e0:(((ms.map V.int).length:Int)+(s:Int) - ((ns.map V.int).length:Int))=(ms.length:Int)+(s:Int) - (ns.length:Int):=by rw [List.length_map,List.length_map]
    rw [e0]
    have ek:((ms.length:Int)+(s:Int) - (ns.length:Int)).toNat=L - ns.length:=by omega
    refine ⟨by omega,by omega,sz (by rw [ek];simp;omega),fun c hc=>?_⟩
    rw [ek,qc5]
    have sc:=qaf hc (HO.lst (List.replicate (L - ns.length) (V.int 0)))
    have haa:upd H' a (HO.lst (List.map V.int (ns.map (f*·)))) a=some (HO.lst (List.map V.int (ns.map (f*·)))):=qai
    have hac:=sc _ _ (sb _ _ haa)
    refine ⟨_,hac,sz (by simp;omega),?_⟩
    rw [qrz ns f L (by omega)]
    generalize hX:upd (upd (upd H' a (HO.lst (List.map V.int (ns.map (f*·))))) b (HO.lst [V.int 0])) c (HO.lst (List.replicate (L - ns.length) (V.int 0)))=Hx at hac ⊢
    have sx:Same H' Hx:=fun x o h=>by rw [← hX];exact sc x o (sb x o (sa x o h))
    have sd:Same H' (upd Hx a (HO.lst (qbU L fun k=>f*co ns k))):=fun x o h=>Kp.upd x o (qaD h ha) (sx x o h)
    have had:(upd Hx a (HO.lst (qbU L fun k=>f*co ns k))) a=_:=qai
    generalize upd Hx a (HO.lst (qbU L fun k=>f*co ns k))=Hd at sd had ⊢
    refine ⟨⟨_,SqL.of (sd _ _ hq)⟩,ForJ.enumL (xs:=ms.map V.int) (fun j σ H2=>∃ x y:Option V,σ=[some (.ref p),some (.int f),some (.ref q),some (.int w),some (.int (s:Int)),some (.ref a),x,y]∧Same H' H2∧H2 a=some (.lst (qbU L fun k=>f*co ns k - (if s≤k∧k - s<j then w*co ms (k - s) else 0)))) ⟨none,none,rfl,sd,?_⟩ ?_ ?_ ?_⟩
    · rw [had]
      exact congrArg (fun l=>some (HO.lst l)) (qdq fun k _=>by rw [if_neg (by omega)];omega)
    · rintro j σ H2 _ ⟨_,_,_,s2,_⟩
      exact SqL.of (s2 _ _ hq)
    · rintro j y pq σ H2 hj ⟨y3,y4,rfl,s2,hw2⟩ hpq
      rw [List.getElem?_map] at hj
      cases em:ms[j]? with
      | none=>rw [em] at hj;cases hj
      | some u=>
        rw [em] at hj
        obtain rfl:V.int u=y:=Option.some.inj hj
        have jl:j<ms.length:=(List.getElem?_eq_some_iff.mp em).1
        have ud:co ms j=u:=by rw [qoU,List.getD_eq_getElem?_getD,em];rfl
        have sq:=qaf hpq (HO.tup [V.int (j:Int),V.int u])
        have hw3:=sq _ _ hw2
        rwa [hw3]
        have kl:s+j<L:=by omega
        refine ⟨_,qcd (by omega) (qbs _ kl),qm8 bw (bm u (List.mem_of_getElem? em)),_,rfl,s+j,?_,fun b o h=>Kp.upd b o (qaD h ha) (sq b o (s2 b o h)),?_⟩
        · rw [qby];exact qgZ (by omega) kl
        · refine qeq kl ?_ fun k _ hk=>?_
          · rw [if_pos (by omega),if_neg (by omega),show s+j - s=j by omega,ud];omega
          · by_cases h:s≤k∧k - s<j
            · rw [if_pos h,if_pos (by omega)]
            · rw [if_neg h,if_neg (by omega)]
    · rintro σ H2 ⟨y3,y4,rfl,s2,hw2⟩
      rw [List.length_map,qfk] at hw2
      rwa [hw2]
      refine ⟨_,rfl,fun r hr=>k r _ _ (s2.trans (qaf hr _)) qai (qiy _) fun i=>?_⟩
      rw [qiz,qgf]
      unfold upS
      by_cases hi:i<L
      · rw [if_pos hi]
        by_cases h:s≤i
        · rw [if_pos h]
          by_cases h2:i - s<ms.length
          · rw [if_pos ⟨h,h2⟩]
          · rw [if_neg (by omega),qaz (a:=ms) (by omega)];omega
        · rw [if_neg h,if_neg (by omega)];omega
      · rw [if_neg hi,qaz (a:=ns) (by omega)]
        by_cases h:s≤i
        · rw [if_pos h,qaz (a:=ms) (by omega)];omega
        · rw [if_neg h];omega
theorem qpv (a b:Int):(a.fdiv b).natAbs≤a.natAbs:=by
  rw [Int.fdiv_eq_ediv]
  split
  · rw [Int.sub_zero];exact Int.natAbs_ediv_le_natAbs a b
  · rename_i h
    have hb:b<0:=by omega
    have hd:¬ b∣a:=fun z=>h (.inr z)
    have e:=Int.mul_ediv_add_emod a b
    have r0:=Int.emod_nonneg a (show b≠0 by omega)
    have r1:=Int.emod_lt_of_neg a hb
    have rn:a % b≠0:=fun z=>hd (Int.dvd_of_emod_eq_zero z)
    generalize a / b=q at *
    generalize a % b=r at *
    rcases Int.lt_or_le q 1 with hq | hq
    · have h1:(-b)*(-q) ≥ 2*(-q):=Int.mul_le_mul_of_nonneg_right (by omega) (by omega)
      rw [Int.neg_mul_neg] at h1
      omega
    · have h1:(-b)*(q - 1) ≥ 1*(q - 1):=Int.mul_le_mul_of_nonneg_right (by omega) (by omega)
      rw [Int.neg_mul,Int.mul_sub] at h1
      omega
theorem qkY {n m:Nat} {F:Nat→Int}:qgt (qbU n F) none (some (m:Int))=((List.range (min m n)).map F).map V.int:=by
  unfold qgt HT.sIx
  simp only [List.drop_zero,Nat.sub_zero,Int.toNat_natCast]
  rw [if_neg (by omega),qby]
  unfold qbU
  rw [← List.map_take,← List.map_take,List.take_range]
  congr 3
  omega
theorem qof {n:Nat} {F:Nat→Int} (h:((List.range n).map F).any (fun z=>!decide (z=0))=false):∀ k,k<n→F k=0:=by
  intro k hk
  have:=List.any_eq_false.mp h (F k) (List.mem_map.mpr ⟨k,List.mem_range.mpr hk,rfl⟩)
  simpa using this
theorem qm9 {n s:Nat} {F:Nat→Int} {w:Int} (hs:s<n) (h0:F s=0) (g:Nat→Int) (k:Nat) :
    cvL ((List.range n).map fun j=>if j=s then w else F j) g k=cvL ((List.range n).map F) g k+w*upS s g k:=by
  have e:∀ m,m≤n→cvL ((List.range m).map fun j=>if j=s then w else F j) g k=cvL ((List.range m).map F) g k+(if s<m then w*upS s g k else 0):=by
    intro m
    induction m with
    | zero=>intro _;rw [if_neg (by omega)];rfl
    | succ m ih=>
      intro hm
      rw [List.range_succ,List.map_append,List.map_append,List.map_singleton,List.map_singleton,qbn,qbn,ih (by omega),List.length_map,List.length_map,List.length_range]
      by_cases e:m=s
      · subst e
        rw [if_pos rfl,if_neg (by omega),if_pos (by omega),h0]
        omega
      · rw [if_neg e]
        by_cases h:s<m
        · rw [if_pos h,if_pos (by omega)];omega
        · rw [if_neg h,if_neg (by omega)];omega
  rw [e n (Nat.le_refl n),if_pos hs]
theorem qbt {b:Nat} {ns:List Int} (h:∀ z∈ns,Bd b z) (k:Nat):Bd b (co ns k):=qdh h k
theorem qgj {n:Nat} {g:Nat→Int} (k:Nat):cvL ((List.range n).map fun _=>(0:Int)) g k=0:=by
  have e:((List.range n).map fun _=>(0:Int))=(List.replicate n (1:Int)).map (0*·):=by
    apply List.ext_getElem?
    intro i
    rw [List.getElem?_map,List.getElem?_map]
    by_cases h:i<n
    · rw [List.getElem?_range h,List.getElem?_replicate,if_pos h];rfl
    · rw [List.getElem?_eq_none (by rw [List.length_range];omega),List.getElem?_replicate,if_neg h];rfl
  rw [e,qat];omega
theorem qrb (ns:List Int):List.map V.int ns=qbU ns.length (co ns):=by
  rw [qfk]
  congr 1
  apply List.ext_getElem?
  intro i
  rw [List.getElem?_map]
  by_cases h:i<ns.length
  · rw [List.getElem?_range h,List.getElem?_eq_getElem h]
    show _=some (ns.getD i 0)
    rw [List.getD_eq_getElem?_getD,List.getElem?_eq_getElem h];rfl
  · rw [List.getElem?_eq_none (by omega),List.getElem?_eq_none (by rw [List.length_range];omega)];rfl
theorem qcp {ms:List Int} (h:0<ms.length):atI (ms.map V.int) (-1)=some (V.int (co ms (ms.length - 1))):=by
  refine atI_last (by rw [List.length_map];omega) ?_
  rw [List.length_map,List.getElem?_map,List.getElem?_eq_getElem (by omega)]
  show _=some (V.int (ms.getD (ms.length - 1) 0))
  rw [List.getD_eq_getElem?_getD,List.getElem?_eq_getElem (by omega)];rfl
theorem qkb (h:qaR K vs H Q E):qfx K { nx:=fun _ H'=>Q .non H',rt:=Q } (L2.start ["row", "divisor", "rest", "last", "quotient", "shift", "weight", "place"] vs) H:=by
  obtain ⟨p,q,ns,ms,b,d,rfl,hp,hq,lm,bn,bm,bb,bd1,hn,hm,kN,kR⟩:=h
  have m0:=lm.1
  have lne:=lm.2
  obtain ⟨L,hL⟩:∃ L,ms.length=L+1:=⟨ms.length - 1,by omega⟩
  have hL1:ms.length - 1=L:=by omega
  rw [hL1] at lne
  generalize hlead:co ms L=lead at lne
  have aL:=qcp m0
  rw [hL1,hlead] at aL
  generalize hc:ns.length - L=c
  unfold qfx
  rwa [hp]
  refine fun a ha=>?_
  have sa:=qaf ha (HO.lst (ns.map V.int))
  unfold qfU
  have hpa:=sa _ _ hp
  have hqa:=sa _ _ hq
  rwa [hqa]
  unfold qfT
  rwa []
  refine ⟨sz (by decide),fun x hx=>?_⟩
  have sx:=qaf hx (HO.lst [V.int 0])
  have hpx:=sx _ _ hpa
  rwa [hpx]
  have hmax:(if (0:Int) > ((List.map V.int ns).length:Int) - (((List.map V.int ms).length:Int) - 1) then (0:Int) else ((List.map V.int ns).length:Int) - (((List.map V.int ms).length:Int) - 1))=(c:Int):=by
    rw [List.length_map,List.length_map];split <;> omega
  rw [hmax]
  refine ⟨by omega,by omega,sz (by simp;omega),fun y hy=>?_⟩
  rw [Int.toNat_natCast,qc5]
  have sy:=qaf hy (HO.lst (List.replicate c (V.int 0)))
  have sA:Same (upd H a (HO.lst (ns.map V.int))) (upd (upd (upd H a (HO.lst (ns.map V.int))) x (HO.lst [V.int 0])) y (HO.lst (List.replicate c (V.int 0)))):=fun z o h=>sy z o (sx z o h)
  have hay:=sA _ _ (show upd H a (HO.lst (ns.map V.int)) a=_ from qai)
  have hyy:(upd (upd (upd H a (HO.lst (ns.map V.int))) x (HO.lst [V.int 0])) y (HO.lst (List.replicate c (V.int 0)))) y=_:=qai
  have sH:Same H (upd (upd (upd H a (HO.lst (ns.map V.int))) x (HO.lst [V.int 0])) y (HO.lst (List.replicate c (V.int 0)))):=fun z o h=>sA z o (sa z o h)
  have nay:a≠y:=qaD (sx _ _ (show upd H a (HO.lst (ns.map V.int)) a=_ from qai)) hy
  have nyH:H y=none:=by
    cases e:H y with
    | none=>rfl
    | some o=>have:=sx _ _ (sa _ _ e);rw [hy] at this;cases this
  generalize (upd (upd (upd H a (HO.lst (ns.map V.int))) x (HO.lst [V.int 0])) y (HO.lst (List.replicate c (V.int 0))))=H1 at hay hyy sH ⊢
  rw [qrb ns] at hay
  have e0:List.replicate c (V.int 0)=qbU c fun _=>0:=by rw [← qc5,qiu]
  rw [e0] at hyy
  unfold qfS
  have hp1:=sH _ _ hp
  rwa [hp1]
  refine ⟨by rw [List.length_map,List.length_map];omega,?_⟩
  have elo:((List.map V.int ns).length:Int) - (((List.map V.int ms).length:Int) - 1) - 1=(ns.length:Int) - (L:Int) - 1:=by rw [List.length_map,List.length_map];omega
  have ela:((List.map V.int ms).length:Int) - 1=(L:Int):=by rw [List.length_map];omega
  rw [elo,ela]
  have ecn:((ns.length:Int) - (L:Int) - 1 - -1).toNat=c:=by omega
  rw [ecn]
  refine ⟨by omega,by decide,by decide,?_⟩
  let Iv:Nat→L2.St→Hp→Prop:=fun i σ H2=>i≤c∧∃ (F G:Nat→Int) (u v w:Option V),σ=[some (.ref p),some (.ref q),some (.ref a),some (.int (L:Int)),some (.ref y),u,v,w]∧Same H H2∧H2 a=some (.lst (qbU ns.length F))∧H2 y=some (.lst (qbU c G))∧
    (∀ j,j<c - i→G j=0)∧(∀ k,k<ns.length - i→F k=co ns k - cvL ((List.range c).map G) (co ms) k)∧(∀ k,ns.length - i≤k→co ns k=cvL ((List.range c).map G) (co ms) k)∧(∀ k,k<ns.length→Bd (b+i*(d+1)) (F k))
  refine ForJ.down Iv ⟨Nat.zero_le _,co ns,fun _=>0,none,none,none,rfl,sH,hay,hyy,fun _ _=>rfl,fun k _=>by rw [qgj];omega,fun k hk=>by rw [qgj,qaz (by omega)],fun k _=>(qbt bn k).mono (by omega)⟩ ?_ ?_
  · rintro i σ H2 hi ⟨_,F,G,u,v,w,rfl,s2,ha2,hy2,hG,hF,hF2,bF⟩
    have hq2:=s2 _ _ hq
    have ic:i<c:=hi
    have esh:((ns.length:Int) - (L:Int) - 1 - (i:Int))=((c - 1 - i:Nat):Int):=by omega
    rw [esh]
    generalize hs:c - 1 - i=s
    have hst:s+L=ns.length - 1 - i:=by omega
    have aT:atI (qbU ns.length F) ((s:Int)+(L:Int))=some (V.int (F (s+L))):=qcd (j:=s+L) (by omega) (qbs F (by omega))
    unfold qee
    rwa [ha2,hq2,aL,aT]
    refine ⟨lne,?_⟩
    generalize hw:(F (s+L)).fdiv lead=wt
    have bFt:=bF (s+L) (by omega)
    have bwt:Bd (b+i*(d+1)) wt:=bFt.le (by rw [← hw];exact qpv _ _)
    have bi:b+i*(d+1)≤60000000:=by
      have:=Nat.mul_le_mul_right (d+1) (show i≤ns.length by omega)
      omega
    have bi1:b+(i+1)*(d+1)≤60000000:=by
      have:=Nat.mul_le_mul_right (d+1) (show i+1≤ns.length by omega)
      omega
    have bld:Bd d lead:=by rw [← hlead];exact qbt bm L
    unfold qed
    rwa [ha2,hq2,aL,aT]
    refine ⟨qm8 bwt bld,?_⟩
    refine qcy (fun ce=>?_) (fun ce=>?_)
    · refine kN (fun ⟨A,hA⟩=>?_) _ s2
      have ce':wt*lead≠F (s+L):=by simpa using ce
      have hX:∀ k,cvL (qa5 A (((List.range c).map G).map ((-1)*·))) (co ms) k=co ns k - cvL ((List.range c).map G) (co ms) k:=fun k=>by rw [qax,qat,← hA];omega
      have q:=(qm7 lm (X:=qa5 A (((List.range c).map G).map ((-1)*·))) (T:=s+1) (fun k hk=>by rw [hX,hF2 k (by omega)];omega)).2 s rfl
      rw [hX,hL1,hlead,← hF (s+L) (by omega)] at q
      exact ce' (by rw [← hw,q,Int.mul_fdiv_cancel _ lne])
    have ex:wt*lead=F (s+L):=by simpa using ce
    unfold qec
    rwa [hy2]
    refine ⟨s,by rw [qby];exact qgZ rfl (by omega),?_⟩
    have hG':(qbU c G).set s (V.int wt)=qbU c (fun j=>if j=s then wt else G j):=qeq (by omega) (if_pos rfl) fun j _ hj=>if_neg hj
    rw [hG']
    have s3:Same H (upd H2 y (HO.lst (qbU c fun j=>if j=s then wt else G j))):=fun z o h=>Kp.upd z o (qaD h nyH) (s2 z o h)
    have ha3:(upd H2 y (HO.lst (qbU c fun j=>if j=s then wt else G j))) a=_:=(qaB nay).trans ha2
    have hy3:(upd H2 y (HO.lst (qbU c fun j=>if j=s then wt else G j))) y=_:=qai
    generalize (upd H2 y (HO.lst (qbU c fun j=>if j=s then wt else G j)))=H3 at s3 ha3 hy3 ⊢
    have cvE:∀ k,cvL ((List.range c).map fun j=>if j=s then wt else G j) (co ms) k=cvL ((List.range c).map G) (co ms) k+wt*upS s (co ms) k:=fun k=>qm9 (by omega) (hG s (by omega)) _ k
    have fin:∀ (F':Nat→Int) (u v w:Option V) (H4:Hp),Same H H4→H4 a=some (.lst (qbU ns.length F'))→H4 y=some (.lst (qbU c fun j=>if j=s then wt else G j))→(∀ k,k<ns.length→F' k=F k - (if s≤k∧k - s<L then wt*co ms (k - s) else 0))→
        Iv (i+1) [some (.ref p),some (.ref q),some (.ref a),some (.int (L:Int)),some (.ref y),u,v,w] H4:=fun F' u v w H4 s4 ha4 hy4 eF=>by
      refine ⟨by omega,F',_,u,v,w,rfl,s4,ha4,hy4,fun j hj=>?_,fun k hk=>?_,fun k hk=>?_,fun k hk=>?_⟩
      · show (if j=s then wt else G j)=0
        rw [if_neg (by omega)];exact hG j (by omega)
      · rw [eF k (by omega),cvE,hF k (by omega)]
        unfold upS
        by_cases h:s≤k
        · rw [if_pos h,if_pos ⟨h,by omega⟩];omega
        · rw [if_neg h,if_neg (by omega)];omega
      · rw [cvE]
        by_cases ek:k=s+L
        · have hf:=hF k (by omega)
          rw [ek] at hf ⊢
          unfold upS
          rw [if_pos (by omega),show s+L - s=L by omega,hlead,ex];omega
        · have h2:=hF2 k (by omega)
          rw [h2]
          unfold upS
          by_cases h:s≤k
          · rw [if_pos h,qaz (a:=ms) (by omega)];omega
          · rw [if_neg h];omega
      · rw [eF k hk]
        have e2:b+(i+1)*(d+1)=b+i*(d+1)+d+1:=by rw [Nat.add_mul];omega
        rw [e2]
        refine Bd.sub ((bF k hk).mono (by omega)) ?_
        split
        · exact bwt.mul (qbt bm _)
        · exact qbP _
    unfold qeb
    rwa []
    refine qcy (fun cw=>?_) (fun cw=>?_)
    · refine ⟨by omega,by omega,?_⟩
      rw [Int.toNat_natCast]
      refine ForR.by (fun j σ H4=>∃ (u:Option V),σ=[some (.ref p),some (.ref q),some (.ref a),some (.int (L:Int)),some (.ref y),some (.int (s:Int)),some (.int wt),u]∧Same H H4∧H4 a=some (.lst (qbU ns.length fun k=>F k - (if s≤k∧k - s<j then wt*co ms (k - s) else 0)))∧H4 y=some (.lst (qbU c fun j=>if j=s then wt else G j))) ⟨w,rfl,s3,?_,hy3⟩ ?_ ?_
      · rw [ha3]
        exact congrArg (fun l=>some (HO.lst l)) (qdq fun k _=>by rw [if_neg (by omega)];omega)
      · rintro j σ H4 hj ⟨u',rfl,s4,ha4,hy4⟩
        have hq4:=s4 _ _ hq
        have aj:atI (ms.map V.int) (0+(j:Int))=some (V.int (co ms j)):=qcd (j:=j) (by omega) (by rw [qrb];exact qbs _ (by omega))
        rwa [ha4,hq4,aj]
        refine ⟨_,qcd (j:=s+j) (by omega) (qbs _ (by omega)),qm8 bwt (qbt bm j),_,rfl,s+j,by rw [qby];exact qgZ (by omega) (by omega),?_,?_,?_⟩
        · intro z o h
          exact Kp.upd z o (qaD h ha) (s4 z o h)
        · refine qeq (by omega) ?_ fun k _ hk=>?_
          · rw [if_pos (by omega),if_neg (by omega),show s+j - s=j by omega];omega
          · by_cases h:s≤k∧k - s<j
            · rw [if_pos h,if_pos (by omega)]
            · rw [if_neg h,if_neg (by omega)]
        · rw [qaB (Ne.symm nay)];exact hy4
      · rintro σ H4 ⟨u',rfl,s4,ha4,hy4⟩
        exact fin _ _ _ _ _ s4 ha4 hy4 fun k _=>rfl
    · have w0:wt=0:=by simpa using cw
      exact fin F _ _ _ _ s3 ha3 hy3 fun k _=>by rw [w0];split <;> omega
  · rintro σ H2 ⟨_,F,G,u,v,w,rfl,s2,ha2,hy2,hG,hF,hF2,bF⟩
    unfold qfR
    rwa [ha2]
    refine fun z hz=>?_
    rw [qkY]
    have sz2:=qaf hz (HO.lst (((List.range (min L ns.length)).map F).map V.int))
    refine ⟨_,rfl,qcy (fun ce=>?_) (fun ce=>?_)⟩
    · refine kN (fun ⟨A,hA⟩=>?_) _ (s2.trans sz2)
      have hX:∀ k,cvL (qa5 A (((List.range c).map G).map ((-1)*·))) (co ms) k=co ns k - cvL ((List.range c).map G) (co ms) k:=fun k=>by rw [qax,qat,← hA];omega
      have q:=(qm7 lm (X:=qa5 A (((List.range c).map G).map ((-1)*·))) (T:=0) (fun k hk=>by rw [hX,hF2 k (by omega)];omega)).1
      have ce':((List.range (min L ns.length)).map F).any (fun z=>!decide (z=0))=true:=by simpa using ce
      obtain ⟨z,hz',hz0⟩:=List.any_eq_true.mp ce'
      obtain ⟨k,hk,rfl⟩:=List.mem_map.mp hz'
      have hk:=List.mem_range.mp hk
      have e:=hX k
      rw [qbv,qcb ms (fun j=>q j (Nat.zero_le j)),← hF k (by omega)] at e
      rw [← e] at hz0
      simp at hz0
    · have ce':((List.range (min L ns.length)).map F).any (fun z=>!decide (z=0))=false:=by simpa using ce
      have hy3:=sz2 _ _ hy2
      rw [qfk] at hy3
      refine kR y _ _ (s2.trans sz2) hy3 (by rw [List.length_map,List.length_range];omega) fun k=>?_
      by_cases hk:ns.length - c≤k
      · exact hF2 k hk
      · have:=hF k (by omega)
        rw [qof ce' k (by omega)] at this
        omega
theorem qkZ {K:W.Frag} {a:Addr} {capt:List (Option Nat)} {te:TE} {σ:L2.St} {Q:VK} {H:Hp} {ns:List Int} (F:Int→Int) (hp:H a=some (.lst (ns.map V.int))) (hl:ns.length≤1000)
    (hs:∀ n,n∈ns→∀ P:VK,P (.int (F n)) H→te ((qdg capt σ).set 0 (some (.int n))) H P) (hd:∀ p,H p=none→Q (.ref p) (upd H p (.lst ((ns.map F).map V.int)))):CompJ (Itl K a) capt (qam 0) te σ Q H:=by
  refine CompJ.lst (xs:=ns.map V.int) (fun i ys H'=>i≤ns.length∧H'=H∧ys=((ns.map F).take i).map V.int) ⟨Nat.zero_le _,rfl,rfl⟩ ?_ ?_ ?_
  · rintro i ys H' ⟨h1,rfl,rfl⟩
    refine ⟨by rw [List.length_map];exact h1,sz ?_,SqL.of hp⟩
    rw [List.length_map,List.length_take];omega
  · rintro i x ys H' hi ⟨h1,rfl,rfl⟩
    rw [List.getElem?_map] at hi
    cases e:ns[i]? with
    | none=>rw [e] at hi;cases hi
    | some n=>
      rw [e] at hi
      obtain rfl:V.int n=x:=Option.some.inj hi
      have hi2:i<ns.length:=(List.getElem?_eq_some_iff.mp e).1
      show te ((qdg capt σ).set 0 (some (.int n))) H' _
      refine hs n (List.mem_of_getElem? e) _ ⟨by omega,rfl,?_⟩
      rw [qbR V.int (q:=F n) (by rw [List.getElem?_map,e];rfl)]
  · rintro ys H' ⟨_,rfl,rfl⟩ p hpn
    have e:(ns.map F).take (ns.map V.int).length=ns.map F:=by rw [List.length_map,show ns.length=(ns.map F).length by rw [List.length_map],List.take_length]
    rw [e]
    exact hd p hpn
theorem qg3 (h:qa6 K vs H Q E):qdi K { nx:=fun _ H'=>Q .non H',rt:=Q } (L2.start ["row", "prime"] vs) H:=by
  obtain ⟨p,ns,m,rfl,hp,m0,hl,q⟩:=h
  unfold qdi
  rwa []
  refine ⟨⟨_,SqL.of hp⟩,qkZ (· % m) hp hl (fun n _ P hP=>?_) q⟩
  rwa []
  exact ⟨m0,hP⟩
theorem qjp {F:Int→Int} (h0:F 0=0) (ns:List Int) (k:Nat):co (ns.map F) k=F (co ns k):=by
  unfold co
  rw [List.getD_eq_getElem?_getD,List.getD_eq_getElem?_getD,List.getElem?_map]
  cases ns[k]? with
  | none=>exact h0.symm
  | some z=>rfl
theorem qjq {ns:List Int} {z:Int} (h:z∈qd8 ns):z∈ns:=List.mem_of_mem_take h
theorem qog (ns:List Int):(qd8 ns).length≤ns.length:=by rw [qg1];exact qg0 _ _
theorem qbH (a m:Int):m∣a % m - a:=⟨-(a / m),by have:=Int.emod_add_mul_ediv a m;rw [Int.mul_neg];omega⟩
theorem qiA (h:qaZ K vs H Q E):qeg K { nx:=fun _ H'=>Q .non H',rt:=Q } (L2.start ["row", "prime"] vs) H:=by
  obtain ⟨p,ns,m,rfl,hp,m0,hl,q⟩:=h
  unfold qeg
  rwa [hp]
  refine ⟨_,rfl,m0,hl,fun r hr=>?_⟩
  refine ⟨_,rfl,fun t ht=>?_⟩
  refine q t _ _ ((qaf hr _).trans (qaf ht _)) qai (qiy _) (Nat.le_trans (qog _) (by rw [List.length_map];exact Nat.le_refl _)) ⟨fun z hz=>?_,fun k=>?_⟩
  · obtain ⟨y,_,rfl⟩:=List.mem_map.mp (qjq hz)
    exact ⟨Int.emod_nonneg _ (by omega),Int.emod_lt_of_pos _ m0⟩
  · rw [qiz,qjp (Int.zero_emod m)]
    exact qbH _ _
theorem qfE (h:qaX K vs H Q E):qcw K { nx:=fun _ H'=>Q .non H',rt:=Q } (L2.start ["whole", "prime", "one", "other", "one_weight", "other_weight", "quotient", "rest"] vs) H:=by
  obtain ⟨a,p,rfl,p2,bp,q⟩:=h
  unfold qcw qda qc9 qc8 qc7
  rwa []
  refine ⟨by omega,?_⟩
  have a0:=Int.emod_nonneg a (show p≠0 by omega)
  have a1:=Int.emod_lt_of_pos a (show 0<p by omega)
  refine while_by (fun n σ H'=>∃ (x y s t:Int) (u v:Option V),σ=[some (.int a),some (.int p),some (.int x),some (.int y),some (.int s),some (.int t),u,v]∧H'=H∧n=y.toNat∧0≤y∧y<x∧x≤p∧
    Int.gcd x y=Int.gcd a p∧p∣x - s*a∧p∣y - t*a∧(t.natAbs:Int)*x+(s.natAbs:Int)*y≤p∧(s.natAbs:Int)≤p) (a % p).toNat ⟨p,a % p,0,1,none,none,rfl,rfl,rfl,a0,a1,Int.le_refl _,?_,⟨1,by omega⟩,?_,by simp,by simp;omega⟩ ?_
  · rw [qib a (by omega)]
  · rw [show a % p - 1*a=a % p - a by omega]
    exact qbH a p
  · rintro n σ H' ⟨x,y,s,t,u,v,rfl,rfl,rfl,y0,yx,xp,hg,hs,ht,hb,hsp⟩
    have tx:(t.natAbs:Int)*1≤(t.natAbs:Int)*x:=Int.mul_le_mul_of_nonneg_left (by omega) (by omega)
    have sy:0≤(s.natAbs:Int)*y:=Int.mul_nonneg (by omega) y0
    have tp:(t.natAbs:Int)≤p:=by omega
    rwa []
    refine qcy (fun c=>?_) (fun c=>?_)
    · have yp:0<y:=by
        have:y≠0:=by simpa using c
        omega
      unfold qco qcn qcm qcl qck qcj qci
      have q0:=Int.ediv_nonneg (show 0≤x by omega) y0
      have q1:x / y≤x:=Int.ediv_le_self y (by omega)
      have r0:=Int.emod_nonneg x (show y≠0 by omega)
      have r1:=Int.emod_lt_of_pos x yp
      have er:x - x / y*y=x % y:=by have:=Int.emod_add_mul_ediv x y;rw [Int.mul_comm] at this;omega
      have B:∀ {z:Int},z.natAbs≤p.natAbs→Bd 60000000 z:=fun h=>(bp.le h).mono (by decide)
      refine ⟨fun σ' H''=>∃ m',m'<y.toNat∧_,fun _ _ h=>h,?_⟩
      rwa []
      refine ⟨yp,qm8 (B (by omega)) (B (by omega)),qm8 (B (by omega)) (B (by omega)),?_⟩
      refine ⟨(x - x / y*y).toNat,by omega,rfl,by omega,by omega,by omega,?_,ht,?_,?_,tp⟩
      · rw [er,qib x y0];exact hg
      · obtain ⟨α,hα⟩:=hs
        obtain ⟨β,hβ⟩:=ht
        exact ⟨α - x / y*β,by
          generalize x / y=qq at *
          have e1:x=s*a+p*α:=by omega
          have e2:y=t*a+p*β:=by omega
          rw [e1,e2];grind⟩
      · have n1:((s - x / y*t).natAbs:Int)≤(s.natAbs:Int)+x / y*(t.natAbs:Int):=by
          have h1:=Int.natAbs_sub_le s (x / y*t)
          rw [Int.natAbs_mul] at h1
          have h2:((x / y).natAbs:Int)=x / y:=by omega
          have h3:(((x / y).natAbs*t.natAbs:Nat):Int)=x / y*(t.natAbs:Int):=by rw [Int.natCast_mul,h2]
          omega
        have n2:=Int.mul_le_mul_of_nonneg_right n1 y0
        rw [er]
        have n3:(t.natAbs:Int)*(x % y)=(t.natAbs:Int)*x - (t.natAbs:Int)*(x / y*y):=by rw [← er,Int.mul_sub]
        rw [n3]
        generalize (t.natAbs:Int)=tt at *
        generalize (s.natAbs:Int)=ss at *
        generalize x / y=qq at *
        have n4:(ss+qq*tt)*y=ss*y+tt*(qq*y):=by grind
        omega
    · have yz:y=0:=by simpa using c
      unfold qc6
      rwa []
      refine ⟨by omega,q _ (Int.emod_nonneg _ (by omega)) (Int.emod_lt_of_pos _ (by omega)) fun hc=>?_⟩
      have x1:x=1:=by
        rw [yz] at hg
        rw [Int.gcd_zero_right,hc] at hg
        omega
      obtain ⟨α,hα⟩:=hs
      obtain ⟨γ,hγ⟩:=qbH s p
      refine ⟨γ*a - α,?_⟩
      have e1:s % p=s+p*γ:=by omega
      rw [e1]
      have e2:s*a=1 - p*α:=by omega
      grind
theorem qg4 (h:qaS K vs H Q E):qdj K { nx:=fun _ H'=>Q .non H',rt:=Q } (L2.start ["row", "prime", "factor"] vs) H:=by
  obtain ⟨q,ns,p,rfl,hq,pp,bp,hl,tz,hz,k⟩:=h
  have p2:(2:Int)≤(p:Int):=by have:=pp.two;omega
  unfold qdj
  rwa [hq]
  by_cases hn:ns=[]
  · subst hn
    refine qcy (fun _=>?_) (fun c=>absurd rfl c)
    refine ⟨sz (by decide),fun r hr=>k r [] 0 _ (qaf hr _) qai rfl (fun z=>absurd rfl z) ⟨fun z hz=>(by cases hz),fun i=>?_⟩⟩
    show (p:Int)∣co [] i - 0*co [] i
    rw [qaz (Nat.zero_le _)];exact ⟨0,by omega⟩
  have l0:0<ns.length:=List.length_pos_iff.mpr hn
  refine qcy (fun c=>absurd c (by simpa using hn)) (fun _=>?_)
  have aL:=qcp l0
  rwa [aL]
  refine ⟨p2,bp,fun f f0 f1 hf=>?_⟩
  have lne:co ns (ns.length - 1)≠0:=by
    rcases tz with h | h
    · exact absurd h hn
    · exact h
  have lz:0≤co ns (ns.length - 1)∧co ns (ns.length - 1)<(p:Int):=hz _ (by
    unfold co
    rw [List.getD_eq_getElem?_getD,List.getElem?_eq_getElem (by omega)]
    exact List.getElem_mem _)
  have gc:Int.gcd (co ns (ns.length - 1)) (p:Int)=1:=pp.cop fun z=>by
    have:=Nat.le_of_dvd (by omega) z
    omega
  have hf:=hf gc
  have B:∀ {z:Int},0≤z→z<(p:Int)→Bd 60000000 z:=fun h1 h2=>(bp.le (by omega)).mono (by decide)
  refine ⟨⟨_,SqL.of hq⟩,qkZ (fun n=>n*f % (p:Int)) hq hl (fun n hn P hP=>?_) fun r hr=>?_⟩
  · rwa []
    exact ⟨qm8 (B (hz n hn).1 (hz n hn).2) (B f0 f1),by omega,hP⟩
  · have cm:∀ i,co (ns.map fun n=>n*f % (p:Int)) i=co ns i*f % (p:Int):=fun i=>qjp (F:=fun n=>n*f % (p:Int)) (by simp) ns i
    refine k r _ f _ (qaf hr _) qai (List.length_map ..) (fun _=>?_) ⟨fun z hz=>?_,fun i=>?_⟩
    · rw [List.length_map,cm]
      obtain ⟨c,hc⟩:=hf
      have e:co ns (ns.length - 1)*f=1+(p:Int)*c:=by rw [Int.mul_comm];omega
      rw [e,Int.add_mul_emod_self_left]
      exact Int.emod_eq_of_lt (by decide) (by omega)
    · obtain ⟨y,_,rfl⟩:=List.mem_map.mp hz
      exact ⟨Int.emod_nonneg _ (by omega),Int.emod_lt_of_pos _ (by omega)⟩
    · rw [cm]
      show (p:Int)∣co ns i*f % (p:Int) - f*co ns i
      rw [Int.mul_comm f]
      exact qbH _ _
theorem qlu (h:qb0 K vs H Q E):qgQ K { nx:=fun _ H'=>Q .non H',rt:=Q } (L2.start ["whole", "prime", "rest"] vs) H:=by
  obtain ⟨w,p,rfl,p0,k⟩:=h
  unfold qgQ
  rwa []
  have r0:=Int.emod_nonneg w (show p≠0 by omega)
  have r1:=Int.emod_lt_of_pos w p0
  have rd:=qbH w p
  refine ⟨p0,IntMulOk.of_left (intBits_le_64 (by omega) (by omega)),qcy (fun c=>?_) (fun c=>?_)⟩
  · refine k _ ?_ (by omega)
    obtain ⟨γ,hγ⟩:=rd
    exact ⟨γ - 1,by rw [Int.mul_sub];omega⟩
  · exact k _ rd (by omega)
theorem qhu (h:qbj K vs H Q E):qdG K { nx:=fun _ H'=>Q .non H',rt:=Q } (L2.start ["row", "divisor", "modulus"] vs) H:=by
  obtain ⟨p,q,ns,ms,m,b,rfl,hp,hq,m0,ml,mp,bm,bms,bb,hn,hm,k⟩:=h
  unfold qdG
  rwa [hp,hq]
  refine ⟨ns,rfl,ms,rfl,m0,ml,mp,b,bm,bms,bb,hn,hm,fun t r s qs rs H' sH ht hr hs tq tr lr md _=>?_⟩
  refine ⟨_,ht,?_⟩
  rwa []
  exact k s qs rs H' sH hs tr lr md
theorem qf2 (h:qa0 K vs H Q E):qcS K { nx:=fun _ H'=>Q .non H',rt:=Q } (L2.start ["row", "other", "prime", "rest"] vs) H:=by
  obtain ⟨a,b,ns,ms,p,rfl,ha,hb,pp,bp,hn,hm,h0,k⟩:=h
  have p2:(2:Int)≤(p:Int):=by have:=pp.two;omega
  unfold qcS
  rwa [ha]
  refine ⟨ns,rfl,by omega,hn,fun c r1 H1 s1 hc tz1 l1 md1=>?_⟩
  refine ⟨r1,p,rfl,hc,pp,bp,by omega,tz1,md1.1,fun d r2 f H2 s2 hd l2 o2 md2=>?_⟩
  have hb2:=s2 _ _ (s1 _ _ hb)
  rwa [hb2]
  refine ⟨ms,rfl,by omega,hm,fun c' r3 H3 s3 hc' tz3 l3 md3=>?_⟩
  refine ⟨r3,p,rfl,hc',pp,bp,by omega,tz3,md3.1,fun d' r4 f' H4 s4 hd' l4 o4 md4=>?_⟩
  have s04:Same H H4:=((s1.trans s2).trans s3).trans s4
  have hd4:=(s3.trans s4) _ _ hd
  have step:∀ {g h:Nat→Int} {rs:List Int} {f:Int},Dm (p:Int) g h→Md (p:Int) rs (fun k=>f*h k)→Dm (p:Int) g (co rs):=fun {g h rs f} d md=>by
    refine Dm.congr (Dm.less d d f 0 0) fun k=>?_
    have:=md.2 k
    show (p:Int)∣co rs k - (f*h k - 0*_)
    rw [Int.zero_mul,Int.sub_zero]
    exact this
  have nz:∀ {xs rs rs2:List Int} {f:Int},(∃ k,¬ (p:Int)∣co xs k)→Md (p:Int) rs (co xs)→rs2.length=rs.length→0<rs2.length:=fun {xs rs rs2 f} ⟨k,hk⟩ md e=>by
    rcases Nat.eq_zero_or_pos rs2.length with z | z
    · exfalso
      have:=md.2 k
      rw [qaz (by omega)] at this
      have t2:=Int.dvd_neg.mpr this
      rw [show ∀ x:Int,-(0 - x)=x by intro x;omega] at t2
      exact hk t2
    · exact z
  have M1:∀ {xs rs:List Int},Md (p:Int) rs (co xs)→∀ {g:Nat→Int},Dm (p:Int) g (co xs)→Dm (p:Int) g (co rs):=fun md g d=>Dm.congr d md.2
  have back1:∀ {g:Nat→Int} {r r2:List Int} {f:Int},Md (p:Int) r2 (fun k=>f*co r k)→r2.length=r.length→(r≠[]→co r2 (r2.length - 1)=1)→Dm (p:Int) g (co r2)→Dm (p:Int) g (co r):=fun {g r r2 f} md l o d=>by
    by_cases r0:r=[]
    · exact Dm.zero _ _ fun k=>by rw [r0,qaz (Nat.zero_le _)];exact Int.dvd_zero _
    · refine Dm.congr (Dm.less d d (co r (r.length - 1)) 0 0) fun k=>?_
      show (p:Int)∣co r k - (co r (r.length - 1)*co r2 k - 0*_)
      rw [Int.zero_mul,Int.sub_zero]
      have h1:=md.2 k
      have h2:=md.2 (r2.length - 1)
      rw [o r0,l] at h2
      have q1:(p:Int)∣co r (r.length - 1)*(co r2 k - f*co r k):=Int.dvd_mul_of_dvd_right h1
      have q2:(p:Int)∣co r k*(1 - f*co r (r.length - 1)):=Int.dvd_mul_of_dvd_right h2
      refine Int.dvd_trans (Int.dvd_sub q2 q1) (qod ?_)
      grind
  have back:∀ {g:Nat→Int} {xs r r2:List Int} {f:Int},Md (p:Int) r (co xs)→Md (p:Int) r2 (fun k=>f*co r k)→r2.length=r.length→(r≠[]→co r2 (r2.length - 1)=1)→Dm (p:Int) g (co r2)→Dm (p:Int) g (co xs):=fun {g xs r r2 f} md1 md l o d=>Dm.congr (back1 md l o d) fun k=>by
    have:=Int.dvd_neg.mpr (md1.2 k)
    refine Int.dvd_trans this (qod ?_)
    omega
  refine while_by (fun m σ H'=>∃ (x y:Addr) (xs ys:List Int) (u:Option V),σ=[some (.ref x),some (.ref y),some (.int (p:Int)),u]∧Same H H'∧H' x=some (.lst (xs.map V.int))∧H' y=some (.lst (ys.map V.int))∧m=ys.length∧xs.length≤1000∧ys.length≤1000∧(0<xs.length∨0<ys.length)∧(xs≠[]→co xs (xs.length - 1)=1)∧(ys≠[]→co ys (ys.length - 1)=1)∧(∀ z∈xs,0≤z∧z<(p:Int))∧(∀ z∈ys,0≤z∧z<(p:Int))∧
    (∀ g:Nat→Int,Dm (p:Int) g (co ns)→Dm (p:Int) g (co ms)→Dm (p:Int) g (co xs)∧Dm (p:Int) g (co ys))∧(∀ g:Nat→Int,Dm (p:Int) g (co xs)→Dm (p:Int) g (co ys)→Dm (p:Int) g (co ns)∧Dm (p:Int) g (co ms))) r4.length ⟨d,d',r2,r4,none,rfl,s04,hd4,hd',rfl,by omega,by omega,?_,?_,?_,md2.1,md4.1,fun g d1 d2=>⟨step (M1 md1 d1) md2,step (M1 md3 d2) md4⟩,fun g d1 d2=>⟨back md1 md2 l2 o2 d1,back md3 md4 l4 o4 d2⟩⟩ ?_
  · rcases h0 with h | h
    · exact .inl (nz (f:=f) h md1 l2)
    · exact .inr (nz (f:=f) h md3 l4)
  · intro z
    exact o2 fun e=>z (List.length_eq_zero_iff.mp (by rw [l2,e];rfl))
  · intro z
    exact o4 fun e=>z (List.length_eq_zero_iff.mp (by rw [l4,e];rfl))
  · rintro m σ H' ⟨x,y,xs,ys,u,rfl,sH,hx,hy,rfl,xl,yl,ne,ox,oy,bx,bY,hD,hE⟩
    rwa [hy]
    by_cases hys:ys=[]
    · subst hys
      refine qcy (fun c=>absurd c (by simp)) (fun _=>?_)
      have x0:0<xs.length:=by simpa using ne
      have rfx:Dm (p:Int) (co xs) (co xs):=⟨[1],fun k=>by
        have e:cvL [1] (co xs) k=co xs k:=by
          cases k with
          | zero=>rw [qao];omega
          | succ k=>rw [qal,qaE];omega
        rw [e,Int.sub_self];exact Int.dvd_zero _⟩
      have zz:Dm (p:Int) (co xs) (co []):=Dm.zero _ _ fun k=>by rw [qaz (Nat.zero_le _)];exact Int.dvd_zero _
      exact k x xs H' sH hx x0 xl (ox (List.length_pos_iff.mp x0)) bx (fun g d1 d2=>(hD g d1 d2).1) (hE _ rfx zz).1 (hE _ rfx zz).2
    · have y0:0<ys.length:=List.length_pos_iff.mpr hys
      refine qcy (fun _=>?_) (fun c=>absurd hys (by simpa using c))
      refine ⟨fun σ' H''=>∃ m',m'<ys.length∧_,fun _ _ h=>h,?_⟩
      rwa [hx,hy]
      have B:∀ z:Int,0≤z→z<(p:Int)→Bd 45000 z:=fun z h1 h2=>bp.le (by omega)
      refine ⟨xs,rfl,ys,rfl,y0,oy hys,by omega,45000,bp,fun z hz=>B z (bY z hz).1 (bY z hz).2,by decide,xl,yl,fun s qs rs H2 sH2 hs trs lrs md=>?_⟩
      have whole:∀ g:Nat→Int,Dm (p:Int) g (co ys)→Dm (p:Int) g (co rs)→Dm (p:Int) g (co xs):=fun g d1 d2=>by
        obtain ⟨S1,h1⟩:=d1
        obtain ⟨S2,h2⟩:=d2
        refine ⟨qa5 S2 (qaW qs S1),fun k=>?_⟩
        rw [qax,qaq]
        have e1:=cvD h1 qs k
        have m2:(p:Int)∣co rs k - (co xs k - cvL qs (co ys) k):=md.2 k
        have:=Int.dvd_add (Int.dvd_sub (h2 k) m2) e1
        refine Int.dvd_trans this (qod ?_)
        omega
      refine ⟨rs,p,rfl,hs,pp,bp,by omega,trs,md.1,fun t ts f H3 sH3 ht lt ot mdt=>?_⟩
      refine ⟨ts.length,by omega,(sH.trans sH2).trans sH3,ys,(sH2.trans sH3) _ _ hy,ts,ht,rfl,yl,by omega,.inl y0,oy,fun z=>ot fun e=>z (List.length_eq_zero_iff.mp (by rw [lt,e];rfl)),bY,mdt.1,fun g d1 d2=>⟨(hD g d1 d2).2,?_⟩,fun g d1 d2=>hE g (whole g d1 (back1 mdt lt ot d2)) d1⟩
      obtain ⟨dx,dy⟩:=hD g d1 d2
      have dr:Dm (p:Int) g (co rs):=by
        obtain ⟨S1,h1⟩:=dx
        obtain ⟨S2,h2⟩:=dy
        refine Dm.congr (f:=fun k=>co xs k - cvL qs (co ys) k) ⟨qa5 S1 ((qaW qs S2).map (-1*·)),fun k=>?_⟩ md.2
        rw [qax,qat,qaq]
        have e:(p:Int)∣cvL qs (co ys) k - cvL qs (cvL S2 g) k:=by
          have lin:∀ (A:List Int) (k:Nat),(p:Int)∣cvL A (co ys) k - cvL A (cvL S2 g) k:=by
            intro A
            induction A with
            | nil=>intro k;rw [qaE,qaE];exact ⟨0,by omega⟩
            | cons a A ih=>
              intro k
              rw [qc3,qc3]
              have i2:(p:Int)∣up1 (cvL A (co ys)) k - up1 (cvL A (cvL S2 g)) k:=by
                cases k with
                | zero=>exact ⟨0,by show (0:Int) - 0=_;omega⟩
                | succ k=>exact ih k
              have i1:(p:Int)∣a*(co ys k - cvL S2 g k):=Int.dvd_mul_of_dvd_right (h2 k)
              have:=Int.dvd_add i1 i2
              rw [show a*(co ys k - cvL S2 g k)+(up1 (cvL A (co ys)) k - up1 (cvL A (cvL S2 g)) k)=a*co ys k+up1 (cvL A (co ys)) k - (a*cvL S2 g k+up1 (cvL A (cvL S2 g)) k) by rw [Int.mul_sub];omega] at this
              exact this
          exact lin qs k
        have:=Int.dvd_sub (h1 k) e
        rw [show co xs k - cvL S1 g k - (cvL qs (co ys) k - cvL qs (cvL S2 g) k)=co xs k - cvL qs (co ys) k - (cvL S1 g k + -1*cvL qs (cvL S2 g) k) by omega] at this
        exact this
      exact step dr mdt
theorem qg5 (h:qa7 K vs H Q E):qdk K { nx:=fun _ H'=>Q .non H',rt:=Q } (L2.start ["row", "divisor", "modulus", "rest", "last", "quotient", "shift", "weight", "place"] vs) H:=by
  obtain ⟨p,q,ns,ms,m,b,rfl,hp,hq,m0,ml,mp,bm,bms,bb,hn,hm,kR⟩:=h
  obtain ⟨L,hL⟩:∃ L,ms.length=L+1:=⟨ms.length - 1,by omega⟩
  have hL1:ms.length - 1=L:=by omega
  rw [hL1] at ml
  generalize hc:ns.length - L=c
  unfold qdk
  rwa [hp]
  refine fun a ha=>?_
  have sa:=qaf ha (HO.lst (ns.map V.int))
  unfold qdM
  have hpa:=sa _ _ hp
  have hqa:=sa _ _ hq
  rwa [hqa]
  unfold qdL
  rwa []
  refine ⟨sz (by decide),fun x hx=>?_⟩
  have sx:=qaf hx (HO.lst [V.int 0])
  have hpx:=sx _ _ hpa
  rwa [hpx]
  have hmax:(if (0:Int) > ((List.map V.int ns).length:Int) - (((List.map V.int ms).length:Int) - 1) then (0:Int) else ((List.map V.int ns).length:Int) - (((List.map V.int ms).length:Int) - 1))=(c:Int):=by
    rw [List.length_map,List.length_map];split <;> omega
  rw [hmax]
  refine ⟨by omega,by omega,sz (by simp;omega),fun y hy=>?_⟩
  rw [Int.toNat_natCast,qc5]
  have sy:=qaf hy (HO.lst (List.replicate c (V.int 0)))
  have sA:Same (upd H a (HO.lst (ns.map V.int))) (upd (upd (upd H a (HO.lst (ns.map V.int))) x (HO.lst [V.int 0])) y (HO.lst (List.replicate c (V.int 0)))):=fun z o h=>sy z o (sx z o h)
  have hay:=sA _ _ (show upd H a (HO.lst (ns.map V.int)) a=_ from qai)
  have hyy:(upd (upd (upd H a (HO.lst (ns.map V.int))) x (HO.lst [V.int 0])) y (HO.lst (List.replicate c (V.int 0)))) y=_:=qai
  have sH:Same H (upd (upd (upd H a (HO.lst (ns.map V.int))) x (HO.lst [V.int 0])) y (HO.lst (List.replicate c (V.int 0)))):=fun z o h=>sA z o (sa z o h)
  have nay:a≠y:=qaD (sx _ _ (show upd H a (HO.lst (ns.map V.int)) a=_ from qai)) hy
  have nyH:H y=none:=by
    cases e:H y with
    | none=>rfl
    | some o=>have:=sx _ _ (sa _ _ e);rw [hy] at this;cases this
  generalize (upd (upd (upd H a (HO.lst (ns.map V.int))) x (HO.lst [V.int 0])) y (HO.lst (List.replicate c (V.int 0))))=H1 at hay hyy sH ⊢
  rw [qrb ns] at hay
  have e0:List.replicate c (V.int 0)=qbU c fun _=>0:=by rw [← qc5,qiu]
  rw [e0] at hyy
  unfold qdK
  have hp1:=sH _ _ hp
  rwa [hp1]
  refine ⟨by rw [List.length_map,List.length_map];omega,?_⟩
  have elo:((List.map V.int ns).length:Int) - (((List.map V.int ms).length:Int) - 1) - 1=(ns.length:Int) - (L:Int) - 1:=by rw [List.length_map,List.length_map];omega
  have ela:((List.map V.int ms).length:Int) - 1=(L:Int):=by rw [List.length_map];omega
  rw [elo,ela]
  have ecn:((ns.length:Int) - (L:Int) - 1 - -1).toNat=c:=by omega
  rw [ecn]
  refine ⟨by omega,by decide,by decide,?_⟩
  let Iv:Nat→L2.St→Hp→Prop:=fun i σ H2=>i≤c∧∃ (F G:Nat→Int) (u v w:Option V),σ=[some (.ref p),some (.ref q),some (.int m),some (.ref a),some (.int (L:Int)),some (.ref y),u,v,w]∧Same H H2∧H2 a=some (.lst (qbU ns.length F))∧H2 y=some (.lst (qbU c G))∧
    (∀ j,j<c - i→G j=0)∧(∀ k,k<ns.length - i→m∣F k - (co ns k - cvL ((List.range c).map G) (co ms) k))∧(∀ k,ns.length - i≤k→m∣co ns k - cvL ((List.range c).map G) (co ms) k)∧(∀ j,j<c→0≤G j∧G j<m)
  refine ForJ.down Iv ⟨Nat.zero_le _,co ns,fun _=>0,none,none,none,rfl,sH,hay,hyy,fun _ _=>rfl,fun k _=>by rw [qgj];exact ⟨0,by omega⟩,fun k hk=>by rw [qgj,qaz (by omega)];exact ⟨0,by omega⟩,fun k _=>⟨Int.le_refl 0,mp⟩⟩ ?_ ?_
  · rintro i σ H2 hi ⟨_,F,G,u,v,w,rfl,s2,ha2,hy2,hG,hF,hF2,bG⟩
    have hq2:=s2 _ _ hq
    have ic:i<c:=hi
    have esh:((ns.length:Int) - (L:Int) - 1 - (i:Int))=((c - 1 - i:Nat):Int):=by omega
    rw [esh]
    generalize hs:c - 1 - i=s
    have hst:s+L=ns.length - 1 - i:=by omega
    have aT:atI (qbU ns.length F) ((s:Int)+(L:Int))=some (V.int (F (s+L))):=qcd (j:=s+L) (by omega) (qbs F (by omega))
    unfold qcR
    rwa [ha2,hq2,aT]
    refine ⟨mp,?_⟩
    have w0:=Int.emod_nonneg (F (s+L)) (show m≠0 by omega)
    have w1:=Int.emod_lt_of_pos (F (s+L)) mp
    have wd:=qbH (F (s+L)) m
    generalize hw:F (s+L) % m=wt at w0 w1 wd
    have bwt:Bd b wt:=bm.le (by omega)
    unfold qcQ
    rwa [hy2]
    refine ⟨s,by rw [qby];exact qgZ rfl (by omega),?_⟩
    have hG':(qbU c G).set s (V.int wt)=qbU c (fun j=>if j=s then wt else G j):=qeq (by omega) (if_pos rfl) fun j _ hj=>if_neg hj
    rw [hG']
    have s3:Same H (upd H2 y (HO.lst (qbU c fun j=>if j=s then wt else G j))):=fun z o h=>Kp.upd z o (qaD h nyH) (s2 z o h)
    have ha3:(upd H2 y (HO.lst (qbU c fun j=>if j=s then wt else G j))) a=_:=(qaB nay).trans ha2
    have hy3:(upd H2 y (HO.lst (qbU c fun j=>if j=s then wt else G j))) y=_:=qai
    generalize (upd H2 y (HO.lst (qbU c fun j=>if j=s then wt else G j)))=H3 at s3 ha3 hy3 ⊢
    have cvE:∀ k,cvL ((List.range c).map fun j=>if j=s then wt else G j) (co ms) k=cvL ((List.range c).map G) (co ms) k+wt*upS s (co ms) k:=fun k=>qm9 (by omega) (hG s (by omega)) _ k
    have fin:∀ (F':Nat→Int) (u v w:Option V) (H4:Hp),Same H H4→H4 a=some (.lst (qbU ns.length F'))→H4 y=some (.lst (qbU c fun j=>if j=s then wt else G j))→(∀ k,k<ns.length→F' k=F k - (if s≤k∧k - s<L then wt*co ms (k - s) else 0))→
        Iv (i+1) [some (.ref p),some (.ref q),some (.int m),some (.ref a),some (.int (L:Int)),some (.ref y),u,v,w] H4:=fun F' u v w H4 s4 ha4 hy4 eF=>by
      refine ⟨by omega,F',_,u,v,w,rfl,s4,ha4,hy4,fun j hj=>?_,fun k hk=>?_,fun k hk=>?_,fun j hj=>?_⟩
      · show (if j=s then wt else G j)=0
        rw [if_neg (by omega)];exact hG j (by omega)
      · have hf:=hF k (by omega)
        rw [eF k (by omega),cvE]
        unfold upS
        by_cases h:s≤k
        · rw [if_pos h,if_pos ⟨h,by omega⟩]
          rw [show ∀ x y z w:Int,x - y - (z - (w+y))=x - (z - w) by intro x y z w;omega]
          exact hf
        · rw [if_neg h,if_neg (by omega)]
          rw [show ∀ x z w:Int,x - 0 - (z - (w+wt*0))=x - (z - w) by intro x z w;omega]
          exact hf
      · rw [cvE]
        by_cases ek:k=s+L
        · have hf:=hF k (by omega)
          rw [ek] at hf ⊢
          unfold upS
          rw [if_pos (by omega),show s+L - s=L by omega,ml]
          obtain ⟨α,hα⟩:=hf
          obtain ⟨β,hβ⟩:=wd
          exact ⟨-α - β,by rw [Int.mul_sub,Int.mul_neg];omega⟩
        · have h2:=hF2 k (by omega)
          unfold upS
          by_cases h:s≤k
          · rw [if_pos h,qaz (a:=ms) (by omega),Int.mul_zero,Int.add_zero];exact h2
          · rw [if_neg h,Int.mul_zero,Int.add_zero];exact h2
      · show 0≤(if j=s then wt else G j)∧(if j=s then wt else G j)<m
        split
        · exact ⟨w0,w1⟩
        · exact bG j hj
    unfold qcP
    rwa []
    refine qcy (fun cw=>?_) (fun cw=>?_)
    · refine ⟨by omega,by omega,?_⟩
      rw [Int.toNat_natCast]
      refine ForR.by (fun j σ H4=>∃ (u:Option V),σ=[some (.ref p),some (.ref q),some (.int m),some (.ref a),some (.int (L:Int)),some (.ref y),some (.int (s:Int)),some (.int wt),u]∧Same H H4∧H4 a=some (.lst (qbU ns.length fun k=>F k - (if s≤k∧k - s<j then wt*co ms (k - s) else 0)))∧H4 y=some (.lst (qbU c fun j=>if j=s then wt else G j))) ⟨w,rfl,s3,?_,hy3⟩ ?_ ?_
      · rw [ha3]
        exact congrArg (fun l=>some (HO.lst l)) (qdq fun k _=>by rw [if_neg (by omega)];omega)
      · rintro j σ H4 hj ⟨u',rfl,s4,ha4,hy4⟩
        have hq4:=s4 _ _ hq
        have aj:atI (ms.map V.int) (0+(j:Int))=some (V.int (co ms j)):=qcd (j:=j) (by omega) (by rw [qrb];exact qbs _ (by omega))
        rwa [ha4,hq4,aj]
        refine ⟨_,qcd (j:=s+j) (by omega) (qbs _ (by omega)),qm8 bwt (qbt bms j),_,rfl,s+j,by rw [qby];exact qgZ (by omega) (by omega),?_,?_,?_⟩
        · intro z o h
          exact Kp.upd z o (qaD h ha) (s4 z o h)
        · refine qeq (by omega) ?_ fun k _ hk=>?_
          · rw [if_pos (by omega),if_neg (by omega),show s+j - s=j by omega];omega
          · by_cases h:s≤k∧k - s<j
            · rw [if_pos h,if_pos (by omega)]
            · rw [if_neg h,if_neg (by omega)]
        · rw [qaB (Ne.symm nay)];exact hy4
      · rintro σ H4 ⟨u',rfl,s4,ha4,hy4⟩
        exact fin _ _ _ _ _ s4 ha4 hy4 fun k _=>rfl
    · have w0':wt=0:=by simpa using cw
      exact fin F _ _ _ _ s3 ha3 hy3 fun k _=>by rw [w0'];split <;> omega
  · rintro σ H2 ⟨_,F,G,u,v,w,rfl,s2,ha2,hy2,hG,hF,hF2,bG⟩
    unfold qdJ
    rw [qfk] at hy2
    rwa [ha2,hy2]
    refine ⟨_,rfl,fun t ht=>?_⟩
    have st:=qaf ht (HO.lst (List.map V.int (qd8 (List.map G (List.range c)))))
    have ha3:=st _ _ ha2
    have htt:upd H2 t (HO.lst (List.map V.int (qd8 (List.map G (List.range c))))) t=_:=qai
    generalize upd H2 t (HO.lst (List.map V.int (qd8 (List.map G (List.range c)))))=H3 at st ha3 htt ⊢
    refine ⟨_,ha3,fun z hz=>?_⟩
    rw [qkY]
    have sz2:=qaf hz (HO.lst (((List.range (min L ns.length)).map F).map V.int))
    refine ⟨_,rfl,mp,by rw [List.length_map,List.length_range];omega,fun r rs H4 s4 hr4 tr lr md=>?_⟩
    rw [List.length_map,List.length_range] at lr
    refine ⟨sz (by decide),fun e he=>?_⟩
    have se:=qaf he (HO.tup [V.ref t,V.ref r])
    have cq:∀ k,cvL (qd8 ((List.range c).map G)) (co ms) k=cvL ((List.range c).map G) (co ms) k:=fun k=>by
      rw [qbv,qak (fun j=>qiz _ j) ms k,← qbv]
    refine kR e t r _ rs _ ((s2.trans st).trans ((sz2.trans s4).trans se)) qai (se _ _ (s4 _ _ (sz2 _ _ htt))) (se _ _ hr4) (qiy _) tr (by omega) ⟨md.1,fun k=>?_⟩ fun z hz=>?_
    · have:=md.2 k
      rw [qgf] at this
      show m∣co rs k - (co ns k - cvL (qd8 ((List.range c).map G)) (co ms) k)
      rw [cq]
      by_cases hk:k<min L ns.length
      · rw [if_pos hk] at this
        have h2:=Int.dvd_add this (hF k (by omega))
        rw [show ∀ x y z:Int,x - y+(y - z)=x - z by intro x y z;omega] at h2
        exact h2
      · rw [if_neg hk] at this
        have h2:=Int.dvd_sub this (hF2 k (by omega))
        rw [show ∀ x y:Int,x - 0 - y=x - y by intro x y;omega] at h2
        exact h2
    · obtain ⟨j,hj,rfl⟩:=List.mem_map.mp (qjq hz)
      exact bG j (List.mem_range.mp hj)
theorem SDs.tp {H H':Hp} (s:Same H H'):∀ {xs:List V} {rs:List (List Int)},SDs H xs rs→SDs H' xs rs
  | [],[],_=>trivial
  | _::_,_::_,h=>⟨let ⟨p,e,q⟩:=h.1;⟨p,e,s _ _ q⟩,SDs.tp s h.2⟩
  | [],_::_,h=>h.elim
  | _::_,[],h=>h.elim
theorem SD.tp {H H':Hp} (s:Same H H') {p:Addr} {rs:List (List Int)} (h:SD H p rs):SD H' p rs:=let ⟨xs,e,q⟩:=h;⟨xs,s _ _ e,q.tp s⟩
theorem SDs.length {H:Hp}:∀ {xs:List V} {rs:List (List Int)},SDs H xs rs→xs.length=rs.length
  | [],[],_=>rfl
  | _::_,_::_,h=>congrArg (·+1) (SDs.length h.2)
  | [],_::_,h=>h.elim
  | _::_,[],h=>h.elim
theorem SDs.get {H:Hp}:∀ {xs:List V} {rs:List (List Int)} {i:Nat} {v:V},SDs H xs rs→xs[i]?=some v→∃ p r,v=.ref p∧rs[i]?=some r∧H p=some (.lst (r.map V.int))
  | [],[],_,_,_,e=>by simp at e
  | _::_,r::_,0,_,h,e=>by
    simp at e;subst e
    obtain ⟨p,e,q⟩:=h.1
    exact ⟨p,r,e,rfl,q⟩
  | _::_,_::_,i+1,_,h,e=>by
    obtain ⟨p,r,h1,h2,h3⟩:=SDs.get (i:=i) h.2 (by simpa using e)
    exact ⟨p,r,h1,by simpa using h2,h3⟩
  | [],_::_,_,_,h,_=>h.elim
  | _::_,[],_,_,h,_=>h.elim
theorem SDs.snoc {H:Hp} {p:Addr} {r:List Int} (hp:H p=some (.lst (r.map V.int))):∀ {xs:List V} {rs:List (List Int)},SDs H xs rs→SDs H (xs++[.ref p]) (rs++[r])
  | [],[],_=>⟨⟨p,rfl,hp⟩,trivial⟩
  | _::_,_::_,h=>⟨h.1,SDs.snoc hp h.2⟩
  | [],_::_,h=>h.elim
  | _::_,[],h=>h.elim
theorem SD.head {H:Hp} {p:Addr} {r:List Int} {rs:List (List Int)} (h:SD H p (r::rs)):∃ a xs,H p=some (.lst (.ref a::xs))∧H a=some (.lst (r.map V.int))∧SDs H (.ref a::xs) (r::rs):=by
  obtain ⟨xs,e,q⟩:=h
  match xs,q with
  | [],q=>exact q.elim
  | x::xs,q=>
    obtain ⟨a,e1,e2⟩:=q.1
    subst e1
    exact ⟨a,xs,e,e2,q⟩
theorem qer {α:Type} (x:α) (xs:List α):atI (x::xs) 0=some x:=by
  unfold atI ixN
  rw [if_pos (by decide),if_pos (by rw [List.length_cons];omega)]
  rfl
theorem qeT (h:qaH K vs H Q E):qbQ K { nx:=fun _ H'=>Q .non H',rt:=Q } (L2.start ["strand", "shared", "row"] vs) H:=by
  obtain ⟨p,rows,rfl,⟨xs,hp,hS⟩,hl,hr,k⟩:=h
  have lx:=hS.length
  unfold qbQ
  rwa []
  refine ⟨⟨_,SqL.of hp⟩,ForL.by (xs:=xs) (fun i σ H'=>∃ (g:Int) (u:Option V),σ=[some (.ref p),some (.int g),u]∧Same H H'∧0≤g∧(∀ r∈rows.take i,∀ z∈r,g∣z)∧(∀ d:Int,(∀ r∈rows.take i,∀ z∈r,d∣z)→d∣g)) ⟨0,none,rfl,Same.refl H,Int.le_refl 0,fun r hr=>(by simp at hr),fun d _=>Int.dvd_zero d⟩ ?_ ?_ ?_⟩
  · rintro i σ H' _ ⟨g,u,rfl,s,_⟩
    exact SqL.of (s _ _ hp)
  · rintro i x σ H' hi ⟨g,u,rfl,s,g0,g1,g2⟩
    obtain ⟨a,r,rfl,hri,ha⟩:=hS.get hi
    have ha':=s _ _ ha
    have hrm:=hr r (List.mem_of_getElem? hri)
    rwa [ha']
    refine ⟨r,rfl,hrm.1,fun g' H2 s2 g0' d1 d2 d3=>?_⟩
    have et:rows.take (i+1)=rows.take i++[r]:=by rw [List.take_add_one,hri];rfl
    refine ⟨s.trans s2,g0',fun r' hr' z hz=>?_,fun d hd=>d3 d ?_ fun z hz=>?_⟩
    · rw [et] at hr'
      rcases List.mem_append.mp hr' with h | h
      · exact Int.dvd_trans d1 (g1 r' h z hz)
      · rw [List.mem_singleton.mp h] at hz;exact d2 z hz
    · exact g2 d fun r' hr' z hz=>hd r' (by rw [et];exact List.mem_append_left _ hr') z hz
    · exact hd r (by rw [et];exact List.mem_append_right _ (List.mem_singleton.mpr rfl)) z hz
  · rintro σ H' ⟨g,u,rfl,s,g0,g1,g2⟩
    rw [lx,List.take_length] at g1 g2
    have hp':=s _ _ hp
    have gz:∀ r∈rows,0<g∨r=[]:=fun r hrr=>by
      rcases Int.lt_or_le 0 g with h | h
      · exact .inl h
      · right
        have ge:g=0:=by omega
        rcases (hr r hrr).2 with h | h
        · exact h
        · exfalso
          by_cases hl0:r.length=0
          · rw [qaz (by omega)] at h;exact h rfl
          · have:=g1 r hrr (co r (r.length - 1)) (by
              unfold co
              rw [List.getD_eq_getElem?_getD,List.getElem?_eq_getElem (by omega)]
              exact List.getElem_mem _)
            rw [ge] at this
            exact h (Int.zero_dvd.mp this)
    rwa []
    refine ⟨⟨_,SqL.of hp'⟩,CompJ.lst (xs:=xs) (fun i ys H2=>i≤rows.length∧Same H H2∧SDs H2 ys ((rows.take i).map fun r=>r.map (· / g))) ⟨Nat.zero_le _,s,trivial⟩ ?_ ?_ ?_⟩
    · rintro i ys H2 ⟨h1,s2,hy⟩
      refine ⟨by omega,sz ?_,SqL.of (s2 _ _ hp)⟩
      rw [hy.length,List.length_map,List.length_take];omega
    · rintro i x ys H2 hi ⟨h1,s2,hy⟩
      obtain ⟨a,r,rfl,hri,ha⟩:=hS.get hi
      have ha':=s2 _ _ ha
      have hrm:=hr r (List.mem_of_getElem? hri)
      have hi2:i<rows.length:=(List.getElem?_eq_some_iff.mp hri).1
      rwa [ha']
      refine ⟨r,rfl,gz r (List.mem_of_getElem? hri),hrm.1,fun t ht=>?_⟩
      refine ⟨by omega,s2.trans (qaf ht _),?_⟩
      have et:(rows.take (i+1)).map (fun r=>r.map (· / g))=(rows.take i).map (fun r=>r.map (· / g))++[r.map (· / g)]:=by rw [List.take_add_one,hri];simp
      rw [et]
      exact SDs.snoc qai (hy.tp (qaf ht _))
    · rintro ys H2 ⟨_,s2,hy⟩ t ht
      rw [lx,List.take_length] at hy
      have st:=qaf ht (HO.lst ys)
      by_cases gp:0<g
      · refine k t _ _ (s2.trans st) ⟨ys,qai,hy.tp st⟩ ⟨g,gp,?_⟩ (.inr fun d hd=>?_)
        · rw [List.map_map]
          conv=>lhs;rw [← List.map_id rows]
          refine List.map_congr_left fun r hrr=>?_
          show r=(r.map (· / g)).map (g*·)
          rw [List.map_map]
          conv=>lhs;rw [← List.map_id r]
          refine List.map_congr_left fun z hz=>?_
          show z=g*(z / g)
          rw [Int.mul_ediv_cancel' (g1 r hrr z hz)]
        · have hdg:d*g∣g:=g2 (d*g) fun r hrr z hz=>by
            have h1:=hd (r.map (· / g)) (List.mem_map.mpr ⟨r,hrr,rfl⟩) (z / g) (List.mem_map.mpr ⟨z,hz,rfl⟩)
            obtain ⟨c,hc⟩:=h1
            refine ⟨c,?_⟩
            have:=Int.mul_ediv_cancel' (g1 r hrr z hz)
            rw [← this,hc];grind
          obtain ⟨c,hc⟩:=hdg
          have e:g*(d*c)=g*1:=by rw [Int.mul_one];conv=>rhs;rw [hc]
                                 grind
          have e1:=Int.eq_of_mul_eq_mul_left (by omega) e
          have:d.natAbs*c.natAbs=1:=by rw [← Int.natAbs_mul,e1];rfl
          exact Nat.eq_one_of_mul_eq_one_right this
      · have ge:∀ r∈rows,r=[]:=fun r hrr=>by
          rcases gz r hrr with h | h
          · exact absurd h gp
          · exact h
        have em:rows.map (fun r=>r.map (· / g))=rows:=by
          conv=>rhs;rw [← List.map_id rows]
          refine List.map_congr_left fun r hrr=>?_
          rw [ge r hrr];rfl
        rw [em] at hy
        refine k t rows _ (s2.trans st) ⟨ys,qai,hy.tp st⟩ ⟨1,by decide,?_⟩ (.inl ge)
        conv=>lhs;rw [← List.map_id rows]
        refine List.map_congr_left fun r hrr=>?_
        rw [ge r hrr];rfl
theorem qpw {r:List Int} (h:∀ d:Int,(∀ z∈r,d∣z)→d.natAbs=1):Prim r:=fun c hc=>h c fun z hz=>by
  obtain ⟨i,hi,rfl⟩:=List.getElem_of_mem hz
  have:=hc i
  unfold co at this
  rw [List.getD_eq_getElem?_getD,List.getElem?_eq_getElem hi] at this
  exact this
theorem qf3 (h:qay K vs H Q E):qcN K { nx:=fun _ H'=>Q .non H',rt:=Q } (L2.start ["row"] vs) H:=by
  obtain ⟨p,ns,rfl,hp,hl,tz,k⟩:=h
  unfold qcN
  rwa []
  refine ⟨sz (by decide),fun a ha=>?_⟩
  have sa:=qaf ha (HO.lst [V.ref p])
  refine ⟨[ns],⟨[V.ref p],qai,⟨⟨p,rfl,sa _ _ hp⟩,trivial⟩⟩,by simp,?_,fun t rows' H' s' hSD hSh hP=>?_⟩
  · intro r hr
    rw [List.mem_singleton.mp hr]
    exact ⟨hl,tz⟩
  obtain ⟨g,g0,eg⟩:=hSh
  match rows',eg,hSD,hP with
  | [ms],eg,hSD,hP=>
    obtain ⟨b,xs,h1,h2,_⟩:=hSD.head
    have eg':ns=ms.map (g*·):=by simpa using eg
    refine ⟨_,h1,_,qer _ _,k b ms g H' (sa.trans s') h2 g0 eg' ?_⟩
    rcases hP with h | h
    · left;rw [eg',h ms (List.mem_singleton.mpr rfl)];rfl
    · right
      exact qpw fun d hd=>h d fun r hr z hz=>by rw [List.mem_singleton.mp hr] at hz;exact hd z hz
  | [],eg,_,_=>simp at eg
  | _::_::_,eg,_,_=>simp at eg
theorem qrA {a b:List Int} (ha:Tz a) (n:Nat) (h:∀ k,n≤k→co a k=0):a.length≤n:=by
  rcases Nat.lt_or_ge n a.length with z | z
  · rcases ha with e | e
    · rw [e] at z;simp at z
    · exact absurd (h _ (by omega)) e
  · exact z
theorem qna {n:Nat} {a:List Int} (h:∀ k,Bd n (co a k)):∀ z∈a,Bd n z:=fun z hz=>by
  obtain ⟨i,hi,rfl⟩:=List.getElem_of_mem hz
  have:=h i
  unfold co at this
  rw [List.getD_eq_getElem?_getD,List.getElem?_eq_getElem hi] at this
  exact this
theorem qiB (g:Int) (a:List Int) (k:Nat):co (a.map (g*·)) k=g*co a k:=qjp (F:=(g*·)) (by omega) a k
theorem qkc {g:Int} (g0:g≠0) {a:List Int} (h:Tz (a.map (g*·))):Tz a:=by
  rcases h with h | h
  · left;exact List.map_eq_nil_iff.mp h
  · right
    rw [qiB,List.length_map] at h
    exact fun z=>h (by rw [z];omega)
theorem qkd {n:Nat} {g:Int} (g0:0<g) {a:List Int} (h:∀ z∈a.map (g*·),Bd n z):∀ z∈a,Bd n z:=fun z hz=>(h (g*z) (List.mem_map.mpr ⟨z,hz,rfl⟩)).le (by
  rw [Int.natAbs_mul]
  exact Nat.le_mul_of_pos_left _ (by omega))
theorem ZipR.mono {R R':List Int→List Int→List Int→Prop} (h:∀ a b c,R a b c→R' a b c):∀ {A B C:List (List Int)},ZipR R A B C→ZipR R' A B C
  | [],[],[],_=>trivial
  | _::_,_::_,_::_,z=>⟨h _ _ _ z.1,ZipR.mono h z.2⟩
  | [],[],_::_,z=>z.elim
  | [],_::_,_,z=>z.elim
  | _::_,[],_,z=>z.elim
  | _::_,_::_,[],z=>z.elim
theorem ZipR.len {R:List Int→List Int→List Int→Prop}:∀ {A B C:List (List Int)},ZipR R A B C→C.length=A.length∧B.length=A.length
  | [],[],[],_=>⟨rfl,rfl⟩
  | _::_,_::_,_::_,z=>⟨congrArg (·+1) (ZipR.len z.2).1,congrArg (·+1) (ZipR.len z.2).2⟩
  | [],[],_::_,z=>z.elim
  | [],_::_,_,z=>z.elim
  | _::_,[],_,z=>z.elim
  | _::_,_::_,[],z=>z.elim
theorem ZipR.snoc {R:List Int→List Int→List Int→Prop} {a b c:List Int} (h:R a b c):∀ {A B C:List (List Int)},ZipR R A B C→ZipR R (A++[a]) (B++[b]) (C++[c])
  | [],[],[],_=>⟨h,trivial⟩
  | _::_,_::_,_::_,z=>⟨z.1,ZipR.snoc h z.2⟩
  | [],[],_::_,z=>z.elim
  | [],_::_,_,z=>z.elim
  | _::_,[],_,z=>z.elim
  | _::_,_::_,[],z=>z.elim
theorem ZipR.comp {B0:List (List Int)} {R R' R'':List Int→List Int→List Int→Prop} (h:∀ a b c d,b∈B0→R a b c→R' c b d→R'' a b d):∀ {A B C D:List (List Int)},(∀ b∈B,b∈B0)→ZipR R A B C→ZipR R' C B D→ZipR R'' A B D
  | [],[],[],[],_,_,_=>trivial
  | _::_,_::_,_::_,_::_,m,z,z'=>⟨h _ _ _ _ (m _ (List.mem_cons_self ..)) z.1 z'.1,ZipR.comp h (fun b hb=>m b (List.mem_cons_of_mem _ hb)) z.2 z'.2⟩
  | [],[],[],_::_,_,_,z=>z.elim
  | [],[],_::_,_,_,z,_=>z.elim
  | [],_::_,_,_,_,z,_=>z.elim
  | _::_,[],_,_,_,z,_=>z.elim
  | _::_,_::_,[],_,_,z,_=>z.elim
  | _::_,_::_,_::_,[],_,_,z=>z.elim
theorem ZipR.mem {A0 B0:List (List Int)} {R:List Int→List Int→List Int→Prop} {P:List Int→Prop} (h:∀ a b c,a∈A0→b∈B0→R a b c→P c):∀ {A B C:List (List Int)},(∀ a∈A,a∈A0)→(∀ b∈B,b∈B0)→ZipR R A B C→∀ c∈C,P c
  | [],[],[],_,_,_,c,hc=>nomatch hc
  | a::_,b::_,d::_,ma,mb,z,c,hc=>by
    rcases List.mem_cons.mp hc with e | e
    · rw [e];exact h _ _ _ (ma _ (List.mem_cons_self ..)) (mb _ (List.mem_cons_self ..)) z.1
    · exact ZipR.mem h (fun a ha=>ma a (List.mem_cons_of_mem _ ha)) (fun b hb=>mb b (List.mem_cons_of_mem _ hb)) z.2 c e
  | [],[],_::_,_,_,z,_,_=>z.elim
  | [],_::_,_,_,_,z,_,_=>z.elim
  | _::_,[],_,_,_,z,_,_=>z.elim
  | _::_,_::_,[],_,_,z,_,_=>z.elim
theorem ZipR.start {R:List Int→List Int→List Int→Prop} (h:∀ a b,R a b a):∀ {A B:List (List Int)},A.length=B.length→ZipR R A B A
  | [],[],_=>trivial
  | _::_,_::_,e=>⟨h _ _,ZipR.start h (by simpa using e)⟩
  | [],_::_,e=>by simp at e
  | _::_,[],e=>by simp at e
theorem ZipR.right {R:List Int→List Int→List Int→Prop} (h:∀ a b,R a b b):∀ {A B:List (List Int)},A.length=B.length→ZipR R A B B
  | [],[],_=>trivial
  | _::_,_::_,e=>⟨h _ _,ZipR.right h (by simpa using e)⟩
  | [],_::_,e=>by simp at e
  | _::_,[],e=>by simp at e
theorem ZipR.map {R R':List Int→List Int→List Int→Prop} {F:List Int→List Int} (h:∀ a b c,R a b (F c)→R' a b c):∀ {A B C:List (List Int)},ZipR R A B (C.map F)→ZipR R' A B C
  | [],[],[],_=>trivial
  | _::_,_::_,_::_,z=>⟨h _ _ _ z.1,ZipR.map h z.2⟩
  | [],[],_::_,z=>z.elim
  | [],_::_,_,z=>z.elim
  | _::_,[],_,z=>z.elim
  | _::_,_::_,[],z=>z.elim
theorem qrB {a b:Int} (hb:b≠0) (h:a∣b):a.natAbs≤b.natAbs:=Nat.le_of_dvd (by omega) (Int.natAbs_dvd_natAbs.mpr h)
theorem qhv (h:qbi K vs H Q E):qdF K { nx:=fun _ H'=>Q .non H',rt:=Q } (L2.start ["strand", "other", "shift", "top", "lead", "shared", "factor", "weight"] vs) H:=by
  obtain ⟨p,q,o,rfl,hS,hO,o0,k⟩:=h
  obtain ⟨ac,xc,hp,hac,_⟩:=hS.head
  obtain ⟨ao,xo,hq,hao,_⟩:=hO.head
  have A1:atI (V.ref ac::xc) 0=some (V.ref ac):=qer _ _
  have A2:atI (V.ref ao::xo) 0=some (V.ref ao):=qer _ _
  unfold qdF
  rwa []
  refine while_by (fun n σ H'=>σ=[some (.ref p),some (.ref q),none,none,none,none,none,none]∧H'=H∧n=0) 0 ⟨rfl,rfl,rfl⟩ ?_
  rintro n σ H' ⟨rfl,rfl,rfl⟩
  rwa [hp,hq,hac,hao,A1,A2]
  refine qcy (fun c=>by rw [List.length_map] at c;exfalso;omega) (fun _=>?_)
  unfold qef
  rwa []
  refine ⟨[[]],hS,by decide,(fun r hr=>by rw [List.mem_singleton.mp hr];exact ⟨by decide,.inl rfl⟩),fun t rows H1 s1 hSD sh _=>k t H1 s1 ?_⟩
  obtain ⟨g,_,e⟩:=sh
  have l1:rows.length=1:=by have:=congrArg List.length e;simpa using this.symm
  obtain ⟨r,rfl⟩:∃ r,rows=[r]:=List.length_eq_one_iff.mp l1
  have e:[]=r.map (g*·):=List.head_eq_of_cons_eq e
  rw [List.map_eq_nil_iff.mp e.symm] at hSD
  exact hSD
theorem qiC {a:List Int} (h:Tz a) (ne:a≠[]):Lz a:=by
  refine ⟨List.length_pos_iff.mpr ne,?_⟩
  rcases h with e | e
  · exact absurd e ne
  · exact e
theorem qf4 (h:qaV K vs H Q E):qcO K { nx:=fun _ H'=>Q .non H',rt:=Q } (L2.start ["strand", "other", "rest"] vs) H:=by
  obtain ⟨p,q,s,o,rfl,hS,hO,em,k⟩:=h
  unfold qcO
  rwa []
  refine while_by (fun n σ H'=>(σ=[some (.ref p),some (.ref q),none]∧H'=H∧n=1)∨∃ (t:Addr) (u:Option V),σ=[some (.ref q),some (.ref t),u]∧Same H H'∧SD H' t [[]]∧o≠[]∧n=0) 1 (.inl ⟨rfl,rfl,rfl⟩) ?_
  rintro n σ H' (⟨rfl,rfl,rfl⟩ | ⟨t,u,rfl,sH,hT,o0,rfl⟩)
  · obtain ⟨ao,xo,hq,hao,_⟩:=hO.head
    have A2:atI (V.ref ao::xo) 0=some (V.ref ao):=qer _ _
    rwa [hq,hao,A2]
    by_cases oe:o=[]
    · refine qcy (fun c=>absurd oe (by simpa using c)) (fun _=>?_)
      rw [if_pos oe] at k
      exact k p _ (Same.refl _) hS
    · refine qcy (fun _=>?_) (fun c=>absurd (by simpa using c) oe)
      have se:s=[]:=by
        rcases em with z | z
        · exact z
        · exact absurd z oe
      rw [if_neg oe] at k
      refine ⟨fun σ' H''=>∃ m',m'<1∧_,fun _ _ h=>h,?_⟩
      rwa [hq,hao,A2]
      refine qcy (fun _=>k q _ (Same.refl _) hO) (fun _=>?_)
      refine ⟨by rw [← se];exact hS,o,hO,List.length_pos_iff.mpr oe,fun t H1 s1 hT=>?_⟩
      exact ⟨0,by decide,.inr ⟨s1,hT,oe,rfl⟩⟩
  · obtain ⟨at',xt,ht,hat,_⟩:=hT.head
    have A2:atI (V.ref at'::xt) 0=some (V.ref at'):=qer _ _
    rwa [ht,hat,A2]
    refine qcy (fun c=>absurd c (by simp)) (fun _=>?_)
    rw [if_neg o0] at k
    exact k q _ sH (hO.tp sH)
theorem qnb {b n c:Nat} {r a g:List Int} (hr:∀ z∈r,Bd b z) (rl:r.length≤n) (hn:n<2 ^ c) (lg:Lz g) (h:∀ k,co r k=cvL a (co g) k):∀ k,Bd (b+n*(2*c+4)) (co a k):=by
  rcases qhr a with z | ⟨a',la,_,ea⟩
  · intro k;rw [z k];exact qbP _
  have h':∀ k,co r k=cvL g (co a') k:=fun k=>by rw [h k,qbv,qak (fun k=>(ea k).symm) g k]
  have t:co r (a'.length - 1+(g.length - 1))≠0:=by rw [h',qbv,qfj la lg];exact Int.mul_ne_zero la.2 lg.2
  have al:a'.length≤r.length:=by
    rcases Nat.lt_or_ge (a'.length - 1+(g.length - 1)) r.length with c | c
    · have:=la.1;omega
    · exact absurd (qaz c) t
  intro k
  rw [← ea k]
  exact qfD hr ⟨_,t⟩ rl (Nat.le_trans al rl) hn h' k
theorem qpx {G S:List Int} (lG:Lz G) (h:∀ k,cvL S (co G) k=0) (k:Nat):co S k=0:=(qm7 lG (T:=0) fun k _=>h k).1 k (Nat.zero_le k)
theorem Gen.Prim {r o:Nat→Int} {g:List Int} (G:Gen r o g):Prim g:=fun c hc=>by
  rcases Nat.lt_or_ge c.natAbs 2 with h | h
  · rcases Nat.eq_zero_or_pos c.natAbs with z | z
    · exfalso
      have c0:c=0:=by omega
      have:=hc (g.length - 1)
      rw [c0] at this
      exact G.lz.2 (Int.zero_dvd.mp this)
    · omega
  · exfalso
    obtain ⟨n,hn,_⟩:=G.prim h
    exact hn (Int.natAbs_dvd.mpr (hc n))
theorem qpy {R O A B G:List Int} (lG:Lz G) (hA:∀ k,co R k=cvL A (co G) k) (hB:∀ k,co O k=cvL B (co G) k) (q:QI (co R) (co O) (co G)):QI (co A) (co B) qbT:=by
  obtain ⟨d,d0,U,V,h⟩:=q
  refine ⟨d,d0,U,V,fun k=>?_⟩
  have z:=qpx (S:=qa5 (qa5 (qaW U A) (qaW V B)) [-d]) lG (fun k=>by
    rw [qax,qax,qaq,qaq,← qak hA,← qak hB]
    have:=h k
    have e:cvL [-d] (co G) k = -d*co G k:=by
      cases k with
      | zero=>rw [qao];omega
      | succ k=>rw [qal,qaE];omega
    rw [e,Int.neg_mul,this];omega) k
  rw [qcc,qax,qax,qaq,qaq,← qak (qcc A),← qak (qcc B)] at z
  have e:cvL [-d] qbT k = -d*qbT k:=by
    cases k with
    | zero=>rw [qao];omega
    | succ k=>rw [qal,qaE];omega
  rw [e,Int.neg_mul] at z
  omega
theorem qoh (p:Nat) (p0:0<p) (S:List Int):(∀ k,(p:Int)∣co S k)∨∃ T,Lz T∧(∀ k,(p:Int)∣co S k - co T k)∧¬ (p:Int)∣co T (T.length - 1):=by
  have cm:∀ k,co (S.map (· % (p:Int))) k=co S k % (p:Int):=fun k=>qjp (F:=(· % (p:Int))) (Int.zero_emod _) S k
  rcases qhr (S.map (· % (p:Int))) with z | ⟨T,lT,_,eT⟩
  · exact .inl fun k=>Int.dvd_of_emod_eq_zero (by rw [← cm k];exact z k)
  · refine .inr ⟨T,lT,fun k=>?_,fun h=>?_⟩
    · rw [eT,cm]
      exact ⟨co S k / p,by have:=Int.emod_add_mul_ediv (co S k) p;omega⟩
    · have h1:=eT (T.length - 1)
      rw [cm] at h1
      have b1:=Int.emod_nonneg (co S (T.length - 1)) (show (p:Int)≠0 by omega)
      have b2:=Int.emod_lt_of_pos (co S (T.length - 1)) (show (0:Int)<p by omega)
      have:=lT.2
      have l:=Int.le_of_dvd (by omega) h
      omega
theorem cvT {p:Int} {S T:List Int} {g:Nat→Int} {n:Nat} (hg:∀ i,n≤i→g i=0) (h:∀ k,p∣co S k - co T k) (k:Nat):p∣cvL S g k - cvL T g k:=by
  have e:∀ k,g k=co ((List.range n).map g) k:=fun k=>by
    rw [qgf];split
    · rfl
    · exact hg k (by omega)
  rw [qak e,qak e,qbv,qbv T]
  have:=cvD (S:=[1]) (f:=co S) (g:=co T) (fun k=>by
    have e1:cvL [1] (co T) k=co T k:=by
      cases k with
      | zero=>rw [qao];omega
      | succ k=>rw [qal,qaE];omega
    rw [e1];exact h k) ((List.range n).map g) k
  rwa [qak (b:=cvL [1] (co T)) (c:=co T) (fun k=>by
    cases k with
    | zero=>rw [qao];omega
    | succ k=>rw [qal,qaE];omega)] at this
theorem qnc {p:Nat} (hp:Pr p) {R A G rs T:List Int} (hA:∀ k,co R k=cvL A (co G) k) (lG:Lz G) (pG:¬ (p:Int)∣co G (G.length - 1)) (hT:∀ k,(p:Int)∣co rs k - cvL T (co G) k) (d:Dm (p:Int) (co rs) (co R)):Dm (p:Int) (co T) (co A):=by
  obtain ⟨X,hX⟩:=d
  refine ⟨X,fun k=>?_⟩
  have z:=qe4 hp pG (fun i hi=>by rw [qaz (by omega)];exact Int.dvd_zero _) (qa5 A ((qaW X T).map ((-1)*·))) (fun k _=>by
    rw [qax,qat,qaq,← hA]
    have h1:=hX k
    have h2:=cvD hT X k
    have:=Int.dvd_add h1 h2
    refine Int.dvd_trans this (qod ?_)
    omega)
  have e:co A k - cvL X (co T) k=co (qa5 A ((qaW X T).map ((-1)*·))) k:=by
    rw [qcc (qa5 A _),qax,qat,qaq,← qcc,← qak (qcc T)];omega
  rw [e]
  exact qkT z k
theorem qpz {x e c n p N:Nat} (hx:x<2 ^ (c+1)) (hN:N≤2*(n - 1)) (big:2 ^ ((e+c+2)*(2*(n - 1)))<p):(2*(x*2 ^ e)) ^ N<p:=by
  have h1:2*(x*2 ^ e)≤2 ^ (e+c+2):=by
    have:x*2 ^ e≤2 ^ (c+1)*2 ^ e:=Nat.mul_le_mul_right _ (Nat.le_of_lt hx)
    have e2:2 ^ (e+c+2)=2*(2 ^ (c+1)*2 ^ e):=by rw [← Nat.pow_add,show e+c+2=(c+1+e)+1 by omega,Nat.pow_succ];omega
    omega
  refine Nat.lt_of_le_of_lt ?_ big
  rw [Nat.pow_mul]
  exact Nat.le_trans (Nat.pow_le_pow_left h1 N) (Nat.pow_le_pow_right (Nat.pow_pos (by decide)) hN)
theorem qke {ns ms rs gs G:List Int} {p d n c e:Nat} {lead:Int} (hp:Pr p) (ln:Lz ns) (lm:Lz ms) (bn:∀ z∈ns,Bd d z) (bm:∀ z∈ms,Bd d z) (nn:ns.length≤n) (mn:ms.length≤n) (hc:n<2 ^ c) (n2:2≤n) (he:e=d+n*(2*c+4)) (big:2 ^ ((e+c+2)*(2*(n - 1)))<p)
    (hld:((Int.gcd (co ns (ns.length - 1)) (co ms (ms.length - 1)):Nat):Int)=lead) (hG:Gen (co ns) (co ms) G) (r0:0<rs.length) (one:co rs (rs.length - 1)=1) (glen:G.length≤rs.length) (pG:¬ (p:Int)∣co G (G.length - 1)) (dG:Dm (p:Int) (co G) (co rs)) (dn:Dm (p:Int) (co rs) (co ns)) (dm:Dm (p:Int) (co rs) (co ms))
    (gl:gs.length=rs.length) (hg:∀ k,k<rs.length→(p:Int)∣co gs k - lead*co rs k) (hb:∀ z∈gs,2*z.natAbs≤p):MQ (co gs) (co ns)∧MQ (co gs) (co ms):=by
  have p2:=hp.two
  have P:=hG.Prim
  have lG:=hG.lz
  obtain ⟨A,hA⟩:=gauss P hG.rc.left
  obtain ⟨B,hB⟩:=gauss P hG.rc.right
  have bA:=qnb bn nn hc lG hA
  have bB:=qnb bm mn hc lG hB
  have bG:∀ k,Bd e (co G k):=by
    rw [he]
    exact qfD bn ⟨_,ln.2⟩ nn (Nat.le_trans (qg2 lG ln hG.rc.left) nn) hc hA
  rw [← he] at bA bB
  have n0:1≤n:=by have:=ln.1;omega
  have cop:=qpy lG hA hB hG.qi
  obtain ⟨S,hS⟩:=dG
  have p0:0<p:=by omega
  have one':¬ (p:Int)∣(1:Int):=fun z=>by have:=Int.le_of_dvd (by decide) z;omega
  rcases qoh p p0 S with z | ⟨T,lT,hT,pT⟩
  · exfalso
    have h1:=hS (rs.length - 1)
    have h2:=cvT (p:=(p:Int)) (S:=S) (T:=[]) (g:=co G) (n:=G.length) (fun i hi=>qaz hi) (fun k=>by rw [qaz (a:=[]) (Nat.zero_le _),Int.sub_zero];exact z k) (rs.length - 1)
    rw [one] at h1
    rw [qaE,Int.sub_zero] at h2
    have:=Int.dvd_add h1 h2
    rw [Int.sub_add_cancel] at this
    exact one' this
  have hTr:∀ k,(p:Int)∣co rs k - cvL T (co G) k:=fun k=>by
    have:=Int.dvd_add (hS k) (cvT (fun i hi=>qaz hi) hT k (g:=co G) (n:=G.length))
    refine Int.dvd_trans this (qod ?_)
    omega
  have t0:=lT.1
  have g0:=lG.1
  have tl:T.length+G.length=rs.length+1:=by
    have tp:=qfj lT lG
    have np:¬ (p:Int)∣co T (T.length - 1)*co G (G.length - 1):=fun z=>by
      rcases hp.mulI z with q | q
      · exact pT q
      · exact pG q
    have h1:=hTr (T.length - 1+(G.length - 1))
    rw [tp] at h1
    have c1:T.length - 1+(G.length - 1)<rs.length:=by
      rcases Nat.lt_or_ge (T.length - 1+(G.length - 1)) rs.length with c | c
      · exact c
      · exfalso
        rw [qaz c,Int.zero_sub] at h1
        exact np (Int.dvd_neg.mp h1)
    have h2:=hTr (rs.length - 1)
    rw [one] at h2
    rcases Nat.lt_or_ge (T.length - 1+(G.length - 1)) (rs.length - 1) with c | c
    · exfalso
      rw [qb8 (n:=G.length) (fun i hi=>qaz hi) T _ (by omega),Int.sub_zero] at h2
      exact one' h2
    · omega
  have dTA:=qnc hp hA lG pG hTr dn
  have dTB:=qnc hp hB lG pG hTr dm
  have trimmed:∀ {R A:List Int},Lz R→R.length≤n→(∀ k,co R k=cvL A (co G) k)→(∀ k,Bd e (co A k))→∃ A',Lz A'∧A'.length≤n∧co A'=co A:=fun {R A} lR Rn h _=>by
    rcases qhr A with z | ⟨A',la,_,ea⟩
    · exact absurd (by rw [h,qbv,qcb G z]) lR.2
    · refine ⟨A',la,?_,funext ea⟩
      have t:co R (A'.length - 1+(G.length - 1))≠0:=by
        rw [h,qbv,qak (fun k=>(ea k).symm) G,← qbv,qfj la lG];exact Int.mul_ne_zero la.2 lG.2
      rcases Nat.lt_or_ge (A'.length - 1+(G.length - 1)) R.length with c | c
      · have:=la.1;omega
      · exact absurd (qaz c) t
  obtain ⟨A',lA,An,eA⟩:=trimmed ln nn hA bA
  obtain ⟨B',lB,Bn,eB⟩:=trimmed lm mn hB bB
  have big1:2 ^ e<p:=Nat.lt_of_le_of_lt (Nat.pow_le_pow_right (by decide) (by
    have:(e+c+2)*1≤(e+c+2)*(2*(n - 1)):=Nat.mul_le_mul_left _ (by omega)
    omega)) big
  have T1:T.length=1:=by
    rcases Nat.lt_or_ge T.length 2 with cT | cT
    · omega
    · exfalso
      have short:∀ {A:List Int},Lz A→(∀ k,Bd e (co A k))→Dm (p:Int) (co T) (co A)→2≤A.length:=fun {A} lA bA dA=>by
        have:=Dm.len hp t0 pT dA ⟨A.length - 1,fun z=>by
          have h1:=bA (A.length - 1)
          have h2:=Int.natAbs_dvd_natAbs.mpr z
          have h3:=Nat.le_of_dvd (by have:=lA.2;omega) h2
          rw [Int.natAbs_natCast] at h3
          have:(co A (A.length - 1)).natAbs<2 ^ e:=h1
          omega⟩
        omega
      have a2:=short lA (fun k=>by rw [eA];exact bA k) (by rw [eA];exact dTA)
      have b2:=short lB (fun k=>by rw [eB];exact bB k) (by rw [eB];exact dTB)
      refine lucky hp lA lB (by rw [eA,eB];exact cop) (fun k=>by rw [eA];exact bA k) (fun k=>by rw [eB];exact bB k) a2 b2 cT pT (by rw [eA];exact dTA) (by rw [eB];exact dTB) (qpz (x:=A'.length+B'.length) (c:=c) (n:=n) ?_ (by omega) big)
      rw [Nat.pow_succ];omega
  obtain ⟨s,rfl⟩:∃ s,T=[s]:=by
    match T,T1 with
    | [s],_=>exact ⟨s,rfl⟩
  have hrs:∀ k,(p:Int)∣co rs k - s*co G k:=fun k=>by
    have:=hTr k
    have e1:cvL [s] (co G) k=s*co G k:=by
      cases k with
      | zero=>rw [qao];omega
      | succ k=>rw [qal,qaE];omega
    rwa [e1] at this
  have lr:G.length=rs.length:=by simp at tl;omega
  have lcd:∀ {R A:List Int},(∀ k,co R k=cvL A (co G) k)→Lz R→co G (G.length - 1)∣co R (R.length - 1):=fun {R A} h lR=>by
    rcases qhr A with z | ⟨A',la,_,ea⟩
    · exact absurd (by rw [h,qbv,qcb G z]) lR.2
    · have hh:∀ k,co R k=cvL A' (co G) k:=fun k=>by rw [h,qbv,qak (fun k=>(ea k).symm) G,← qbv]
      have tp:=qfj la lG
      have a0:=la.1
      have rl:R.length - 1=A'.length - 1+(G.length - 1):=by
        rcases Nat.lt_trichotomy (R.length - 1) (A'.length - 1+(G.length - 1)) with c | c | c
        · exfalso
          have:=hh (A'.length - 1+(G.length - 1))
          rw [qaz (by have:=lR.1;omega),tp] at this
          exact Int.mul_ne_zero la.2 lG.2 this.symm
        · exact c
        · exfalso
          have:=hh (R.length - 1)
          rw [qb8 (n:=G.length) (fun i hi=>qaz hi) A' _ (by omega)] at this
          exact lR.2 this
      rw [rl,hh,tp]
      exact Int.dvd_mul_left _ _
  obtain ⟨t,ht⟩:co G (G.length - 1)∣lead:=by rw [← hld];exact Int.dvd_coe_gcd (lcd hA ln) (lcd hB lm)
  have lead0:lead≠0:=fun z=>by
    rw [← hld] at z
    have:Int.gcd (co ns (ns.length - 1)) (co ms (ms.length - 1))=0:=by omega
    exact ln.2 (Int.gcd_eq_zero_iff.mp this).1
  have t0':t≠0:=fun z=>lead0 (by rw [ht,z,Int.mul_zero])
  have bt:t.natAbs<2 ^ d:=by
    have h1:lead∣co ns (ns.length - 1):=by rw [← hld];exact Int.gcd_dvd_left ..
    have h2:=Int.dvd_trans (show t∣lead from ⟨co G (G.length - 1),by rw [ht,Int.mul_comm]⟩) h1
    have h3:=Nat.le_of_dvd (by have:=ln.2;omega) (Int.natAbs_dvd_natAbs.mpr h2)
    have h4:(co ns (ns.length - 1)).natAbs<2 ^ d:=qbt bn _
    omega
  have egs:∀ k,co gs k=t*co G k:=fun k=>by
    rcases Nat.lt_or_ge k rs.length with ck | ck
    · have h1:=hg k ck
      have h2:=hrs k
      have h3:=hrs (rs.length - 1)
      rw [one,← lr] at h3
      have dv:(p:Int)∣co gs k - t*co G k:=by
        have q1:(p:Int)∣lead*(co rs k - s*co G k):=Int.dvd_mul_of_dvd_right h2
        have q2:(p:Int)∣(t*co G k)*(1 - s*co G (G.length - 1)):=Int.dvd_mul_of_dvd_right h3
        have:=Int.dvd_sub (Int.dvd_add h1 q1) q2
        refine Int.dvd_trans this (qod ?_)
        rw [ht]
        grind
      have b1:2*(co gs k).natAbs≤p:=by
        have:co gs k∈gs:=by
          unfold co
          rw [List.getD_eq_getElem?_getD,List.getElem?_eq_getElem (by omega)]
          exact List.getElem_mem _
        exact hb _ this
      have b2:2*(t*co G k).natAbs<p:=by
        rw [Int.natAbs_mul]
        have h5:t.natAbs*(co G k).natAbs≤2 ^ d*2 ^ e:=Nat.mul_le_mul (Nat.le_of_lt bt) (Nat.le_of_lt (bG k))
        have h6:2*(2 ^ d*2 ^ e)≤2 ^ ((e+c+2)*(2*(n - 1))):=by
          rw [← Nat.pow_add,show 2*2 ^ (d+e)=2 ^ (d+e+1) by rw [Nat.pow_succ];omega]
          refine Nat.pow_le_pow_right (by decide) ?_
          have:(e+c+2)*2≤(e+c+2)*(2*(n - 1)):=Nat.mul_le_mul_left _ (by omega)
          omega
        omega
      obtain ⟨y,hy⟩:=dv
      have ab:(co gs k - t*co G k).natAbs<p:=by omega
      rcases Int.lt_trichotomy y 0 with z | z | z
      · have:(p:Int)*y≤(p:Int)*(-1):=Int.mul_le_mul_of_nonneg_left (by omega) (by omega)
        omega
      · rw [z] at hy;omega
      · have:(p:Int)*1≤(p:Int)*y:=Int.mul_le_mul_of_nonneg_left (by omega) (by omega)
        omega
    · rw [qaz (by omega),qaz (a:=G) (by omega)];omega
  have fin:∀ {R A:List Int},(∀ k,co R k=cvL A (co G) k)→MQ (co gs) (co R):=fun {R A} h=>⟨t,t0',A,fun k=>by rw [qak egs,qba,h k]⟩
  exact ⟨fin hA,fin hB⟩
theorem qk0 {g f:List Int} {A:List Int} (h:∀ k,co f k=cvL A (co g) k):MQ (co g) (co f):=⟨1,by decide,A,fun k=>by rw [← h k];omega⟩
theorem qfl (h:qaT K vs H Q E):qb6 K { nx:=fun _ H'=>Q .non H',rt:=Q } (L2.start ["row", "other", "prime", "lead", "found", "guess"] vs) H:=by
  obtain ⟨a,b,ns,ms,p,d,nn,cc,rfl,ha,hb,pp,bp,ln,lm,bn,bm,dn,dm,nn1,nn2,nc,nn0,kN,kR⟩:=h
  have p2:(2:Int)≤(p:Int):=by have:=pp.two;omega
  unfold qb6
  have an:=qcp ln.1
  have am:=qcp lm.1
  rwa [ha,hb,an,am]
  generalize hld:((Int.gcd (co ns (ns.length - 1)) (co ms (ms.length - 1)):Nat):Int)=lead
  have ld1:lead∣co ns (ns.length - 1):=by rw [← hld];exact Int.gcd_dvd_left ..
  have bl:Bd d lead:=(qbt bn (ns.length - 1)).le (qrB ln.2 ld1)
  refine ⟨by omega,qcy (fun c=>?_) (fun c=>?_)⟩
  · refine kN (fun bg=>?_) _ (Same.refl H)
    have bl':lead.natAbs<2 ^ d:=bl
    have z:=Int.dvd_of_emod_eq_zero (show lead % (p:Int)=0 by simpa using c)
    have l0:lead≠0:=fun z=>by
      rw [← hld] at z
      have:Int.gcd (co ns (ns.length - 1)) (co ms (ms.length - 1))=0:=by omega
      exact ln.2 (Int.gcd_eq_zero_iff.mp this).1
    have h3:=Nat.le_of_dvd (by omega) (Int.natAbs_dvd_natAbs.mpr z)
    rw [Int.natAbs_natCast] at h3
    have:2 ^ d≤2 ^ ((d+nn*(2*cc+4)+cc+2)*(2*(nn - 1))):=by
      refine Nat.pow_le_pow_right (by decide) ?_
      have:(d+nn*(2*cc+4)+cc+2)*1≤(d+nn*(2*cc+4)+cc+2)*(2*(nn - 1)):=Nat.mul_le_mul_left _ (by omega)
      omega
    have bg:2 ^ ((d+nn*(2*cc+4)+cc+2)*(2*(nn - 1)))<p:=bg
    omega
  have pl:¬ (p:Int)∣lead:=fun z=>c (by rw [Int.emod_eq_zero_of_dvd z])
  have hnl:¬ (p:Int)∣co ns (ns.length - 1)∨¬ (p:Int)∣co ms (ms.length - 1):=by
    by_cases h1:(p:Int)∣co ns (ns.length - 1)
    · right
      intro h2
      exact pl (by rw [← hld];exact Int.dvd_coe_gcd h1 h2)
    · exact .inl h1
  refine ⟨ns,ms,p,rfl,rfl,rfl,pp,bp,by omega,by omega,?_,fun s rs H1 s1 hs r0 rl one br hD dvn dvm=>?_⟩
  · rcases hnl with h | h
    · exact .inl ⟨_,h⟩
    · exact .inr ⟨_,h⟩
  refine ⟨⟨_,SqL.of hs⟩,CompJ.lst (xs:=rs.map V.int) (fun i ys H'=>i≤rs.length∧H'=H1∧∃ gs:List Int,ys=gs.map V.int∧gs.length=i∧(∀ k,k<i→(p:Int)∣co gs k - lead*co rs k)∧∀ z∈gs,Bd 45000 z∧2*z.natAbs≤p) ⟨Nat.zero_le _,rfl,[],rfl,rfl,fun k hk=>absurd hk (by omega),fun z hz=>nomatch hz⟩ ?_ ?_ ?_⟩
  · rintro i ys H' ⟨h1,rfl,gs,rfl,gl,_⟩
    exact ⟨by rw [List.length_map];exact h1,sz (by rw [List.length_map];omega),SqL.of hs⟩
  · rintro i x ys H' hi ⟨h1,rfl,gs,rfl,gl,hg,bg⟩
    rw [List.getElem?_map] at hi
    cases e:rs[i]? with
    | none=>rw [e] at hi;cases hi
    | some n=>
      rw [e] at hi
      obtain rfl:V.int n=x:=Option.some.inj hi
      have hi2:i<rs.length:=(List.getElem?_eq_some_iff.mp e).1
      have bnn:=br n (List.mem_of_getElem? e)
      have cn:co rs i=n:=by unfold co;rw [List.getD_eq_getElem?_getD,e];rfl
      rwa []
      refine ⟨qm8 bl (bp.le (x:=(p:Int)) (y:=n) (by omega)),by omega,fun r hr1 hr2=>⟨by omega,gs++[r],by simp,by simp;omega,fun k hk=>?_,fun z hz=>?_⟩⟩
      · by_cases ek:k=i
        · subst ek
          have:co (gs++[r]) k=r:=by unfold co;rw [List.getD_eq_getElem?_getD,← gl];simp
          rw [this,cn];exact hr1
        · have:co (gs++[r]) k=co gs k:=by unfold co;rw [List.getD_eq_getElem?_getD,List.getD_eq_getElem?_getD,List.getElem?_append_left (by omega)]
          rw [this];exact hg k (by omega)
      · rcases List.mem_append.mp hz with z1 | z1
        · exact bg z z1
        · rw [List.mem_singleton.mp z1];exact ⟨bp.le (by omega),by rw [Int.natAbs_natCast] at hr2;exact hr2⟩
  · rintro ys H' ⟨_,rfl,gs,rfl,gl,hg,bg⟩ t ht
    rw [List.length_map] at gl hg
    have st:=qaf ht (HO.lst (gs.map V.int))
    have htt:upd H' t (HO.lst (gs.map V.int)) t=_:=qai
    generalize upd H' t (HO.lst (gs.map V.int))=H2 at st htt ⊢
    have gl0:0<gs.length:=by omega
    have glast:co gs (gs.length - 1)≠0:=fun z=>by
      have:=hg (gs.length - 1) (by omega)
      rw [z,show gs.length - 1=rs.length - 1 by omega,one] at this
      exact pl (by have t2:=Int.dvd_neg.mpr this;rw [show -(0 - lead*1)=lead by omega] at t2;exact t2)
    rwa [htt]
    refine ⟨gs,rfl,by omega,.inr glast,fun u gu g H3 s3 hu g0 eg hp=>?_⟩
    have Pg:Prim gu:=by
      rcases hp with h | h
      · rw [h] at gl0;simp at gl0
      · exact h
    have lgu:gu.length=gs.length:=by rw [eg,List.length_map]
    have lzg:Lz gu:=qiC (qkc (Int.ne_of_gt g0) (by rw [← eg];exact .inr glast)) (fun z=>by rw [z] at lgu;simp at lgu;omega)
    have bgu:∀ z∈gu,Bd 45000 z:=qkd g0 (by rw [← eg];exact fun z hz=>(bg z hz).1)
    have s13:Same H H3:=(s1.trans st).trans s3
    have ha3:=s13 _ _ ha
    have hb3:=s13 _ _ hb
    obtain ⟨G,hG⟩:=qqD ln (QI.left (co ns) (co ms))
    have mn:=hG.mq _ ns (Nat.le_refl _) (QI.left _ _)
    have mm:=hG.mq _ ms (Nat.le_refl _) (QI.right _ _)
    have lead':¬ (p:Int)∣co G (G.length - 1):=by
      rcases hnl with h | h
      · exact hG.lead pp ln mn h
      · exact hG.lead pp lm mm h
    have dG:=hD (co G) (hG.dm pp mn) (hG.dm pp mm)
    have glen:G.length≤rs.length:=Dm.len pp hG.lz.1 lead' dG ⟨rs.length - 1,by
      rw [one]
      intro z
      have:=Int.le_of_dvd (by decide) z
      omega⟩
    have tells:qrQ d nn cc p→(∃ A:List Int,∀ k,co ns k=cvL A (co gu) k)∧∃ A:List Int,∀ k,co ms k=cvL A (co gu) k:=fun bp'=>by
      obtain ⟨q1,q2⟩:=qke pp ln lm bn bm nn1 nn2 nc nn0 rfl bp' hld hG r0 one glen lead' dG dvn dvm gl hg (fun z hz=>(bg z hz).2)
      have sc:∀ k,co gs k=g*co gu k:=fun k=>by rw [eg,qiB]
      have mg:MQ (co gu) (co gs):=⟨1,by decide,[g],fun k=>by
        have e:cvL [g] (co gu) k=g*co gu k:=by
          cases k with
          | zero=>rw [qao];omega
          | succ k=>rw [qal,qaE];omega
        rw [e,sc];omega⟩
      exact ⟨gauss Pg (mg.trans q1),gauss Pg (mg.trans q2)⟩
    rwa [ha3,hu]
    refine ⟨ns,rfl,gu,rfl,lzg,d,bn,45000,bgu,by omega,by decide,by omega,by omega,fun no=>kN (fun bg=>no (tells bg).1) |> fun f H4 s4=>f H4 (s13.trans s4),fun r qs H4 s4 hr _ hq=>?_⟩
    have hb4:=s4 _ _ hb3
    have hu4:=s4 _ _ hu
    rwa [hb4,hu4]
    refine ⟨ms,rfl,gu,rfl,lzg,d,bm,45000,bgu,by omega,by decide,by omega,by omega,fun no=>kN (fun bg=>no (tells bg).2) |> fun f H5 s5=>f H5 ((s13.trans s4).trans s5),fun r2 qs2 H5 s5 hr2 _ hq2=>?_⟩
    exact kR u gu H5 ((s13.trans s4).trans s5) (s5 _ _ hu4) (qmM hG.rc lzg (qk0 hq) (qk0 hq2) (by omega)) Pg
noncomputable def exps:List Nat:=[61,127,521,1279,4423,9941,21701,44497]
noncomputable def qsa (K:W.Frag):Prop:=∀ H:Hp,SqT K H (qbY K) (exps.map fun e:Nat=>V.int (e:Int))
theorem qpA:∀ e∈exps,Pr (mers e)∧e≤44497:=by
  intro e he
  have h:e=61∨e=127∨e=521∨e=1279∨e=4423∨e=9941∨e=21701∨e=44497:=by simpa [exps] using he
  rcases h with h | h | h | h | h | h | h | h <;> rw [h]
  · exact ⟨qr6,by decide⟩
  · exact ⟨qrp,by decide⟩
  · exact ⟨qrq,by decide⟩
  · exact ⟨qqA,by decide⟩
  · exact ⟨qqB,by decide⟩
  · exact ⟨qqC,by decide⟩
  · exact ⟨qpm,by decide⟩
  · exact ⟨qpn,by decide⟩
theorem qoi (e:Nat):(2:Int) ^ (e:Int).toNat - 1=((mers e:Nat):Int):=by
  unfold mers
  have:=Nat.one_le_two_pow (n:=e)
  rw [Int.natCast_sub this,Int.toNat_natCast,Int.natCast_pow]
  rfl
theorem qpB {e:Nat} (h:e≤44497):Bd 45000 ((mers e:Nat):Int):=by
  unfold Bd mers
  rw [Int.natAbs_natCast]
  have h1:=Nat.one_le_two_pow (n:=e)
  have h2:=Nat.pow_le_pow_right (n:=2) (by decide) (show e≤45000 by omega)
  omega
theorem qkf {ns ms one two rs:List Int} {g h:Int} (g0:g≠0) (h0:h≠0) (e1:ns=one.map (g*·)) (e2:ms=two.map (h*·)) (R:RC (co one) (co two) rs):RC (co ns) (co ms) rs:=by
  have c1:∀ k,co ns k=g*co one k:=fun k=>by rw [e1,qiB]
  have c2:∀ k,co ms k=h*co two k:=fun k=>by rw [e2,qiB]
  refine ⟨R.lz,?_,?_,?_⟩
  · obtain ⟨c,c0,A,hA⟩:=R.left
    exact ⟨c,c0,A.map (g*·),fun k=>by rw [qat,← hA k,c1 k];grind⟩
  · obtain ⟨c,c0,A,hA⟩:=R.right
    exact ⟨c,c0,A.map (h*·),fun k=>by rw [qat,← hA k,c2 k];grind⟩
  · obtain ⟨d,d0,U,W,hU⟩:=R.qi
    refine ⟨g*h*d,Int.mul_ne_zero (Int.mul_ne_zero g0 h0) d0,U.map (h*·),W.map (g*·),fun k=>?_⟩
    rw [qat,qat,qak c1 U k,qak c2 W k,qba,qba]
    have:=hU k
    grind
theorem qiD {K:W.Frag} (hK:qsa K) {vs:List V} {H:Hp} {Q:VK} {E:XK} (h:qaN K vs H Q E):qeh K { nx:=fun _ H'=>Q .non H',rt:=Q } (L2.start ["row", "other", "one", "two", "exponent", "found"] vs) H:=by
  obtain ⟨a,b,ns,ms,d,nn,cc,rfl,ha,hb,tn,tm,bn,bm,nN,mN,N18,n2',nc,sm,hbd0,k⟩:=h
  have d9:d≤44490:=by
    have:(d+nn*(2*cc+4)+cc+2)*1≤(d+nn*(2*cc+4)+cc+2)*(2*(nn - 1)):=Nat.mul_le_mul_left _ (by omega)
    omega
  unfold qeh
  rwa [ha]
  refine ⟨ns,rfl,by omega,tn,fun a1 one g1 H1 s1 h1 g10 e1 p1=>?_⟩
  have hb1:=s1 _ _ hb
  rwa [hb1]
  refine ⟨ms,rfl,by omega,tm,fun a2 two g2 H2 s2 h2 g20 e2 p2=>?_⟩
  have s02:=s1.trans s2
  have ha2:=s02 _ _ ha
  have hb2:=s02 _ _ hb
  have h12:=s2 _ _ h1
  have l1:ns.length=one.length:=by rw [e1,List.length_map]
  have l2:ms.length=two.length:=by rw [e2,List.length_map]
  have t1:Tz one:=qkc (Int.ne_of_gt g10) (by rw [← e1];exact tn)
  have t2:Tz two:=qkc (Int.ne_of_gt g20) (by rw [← e2];exact tm)
  have b1:∀ z∈one,Bd d z:=qkd g10 (by rw [← e1];exact bn)
  have b2:∀ z∈two,Bd d z:=qkd g20 (by rw [← e2];exact bm)
  have n1:one=[]↔ns=[]:=by rw [← List.length_eq_zero_iff,← List.length_eq_zero_iff,l1]
  have n2:two=[]↔ms=[]:=by rw [← List.length_eq_zero_iff,← List.length_eq_zero_iff,l2]
  have last:(ns=[]∨ms=[])→∀ (H3:Hp) (u v:Option V),Same H2 H3→(qbE (tOp gL (qaw (qaV K) [] E0 (qab (qga (qab (qag 2) qau)) (qab (qga (qab (qag 3) qau)) qau))) (tC (.int 0)))) { nx:=fun _ H'=>Q .non H',rt:=Q } [some (.ref a),some (.ref b),some (.ref a1),some (.ref a2),u,v] H3:=fun em H3 u v s3=>by
    have h13:=s3 _ _ h12
    have h23:=s3 _ _ h2
    rwa []
    refine ⟨sz (by decide),fun x hx=>?_⟩
    have sx:=qaf hx (HO.lst [V.ref a1])
    refine ⟨sz (by decide),fun y hy=>?_⟩
    have sy:=qaf hy (HO.lst [V.ref a2])
    have hxy:=sy _ _ (show upd H3 x (HO.lst [V.ref a1]) x=_ from qai)
    refine ⟨one,⟨[V.ref a1],hxy,⟨⟨a1,rfl,sy _ _ (sx _ _ h13)⟩,trivial⟩⟩,two,⟨[V.ref a2],qai,⟨⟨a2,rfl,sy _ _ (sx _ _ h23)⟩,trivial⟩⟩,em.imp (fun z=>n1.mpr z) (fun z=>n2.mpr z),fun t H4 s4 hSD=>?_⟩
    obtain ⟨ar,xr,ht,har,_⟩:=hSD.head
    refine ⟨_,ht,_,qer _ _,?_⟩
    refine k ar _ H4 (s02.trans (s3.trans ((sx.trans sy).trans s4))) har (fun hne=>?_) fun h1 h2=>by rw [if_pos (n2.mpr h2)];exact n1.mpr h1
    have z0:∀ {x:List Int},x=[]→∀ k,co x k=0:=fun e k=>by rw [e];exact qaz (Nat.zero_le _)
    by_cases te:two=[]
    · rw [if_pos te]
      have oe:ns≠[]:=by
        rcases hne with h | h
        · exact h
        · exact absurd (n2.mp te) h
      have l1':Lz one:=qiC t1 fun z=>oe (n1.mp z)
      exact ⟨qkf (Int.ne_of_gt g10) (Int.ne_of_gt g20) e1 e2 ⟨l1',MQ.refl _,MQ.zero _ (z0 te),QI.left _ _⟩,p1.resolve_left oe⟩
    · rw [if_neg te]
      have oe:one=[]:=n1.mpr (em.resolve_right fun z=>te (n2.mpr z))
      exact ⟨qkf (Int.ne_of_gt g10) (Int.ne_of_gt g20) e1 e2 ⟨qiC t2 te,MQ.zero _ (z0 oe),MQ.refl _,QI.right _ _⟩,p2.resolve_left fun z=>te (n2.mpr z)⟩
  have l0:=fun em=>last em H2 none none (Same.refl H2)
  simp only [qaO,qa1,qaw,qab,qag,qau,qam,qlO,L2.start,qgp,tIf,qbd,tB,tOp,rI0,rI,tC,tUn,rU,qcC,qbE,qh3,qga,qqb,qnL,qk8,tCB,qoA,qlJ,tOr,qq6,qlN,qrI,qp8,rEq,rNe,qeY,qes,qft,qdS,qi9,qqj,qic,qpc,qrL,iLt,iLe,iGt,iGe,qf1,gT,gL,gS,qnR,qpY,qrM,qnS,qjS,qbX,qqk,qrN,ql9,qfP,qoC,eqT,qma,qmb,qoD,qoE,List.map_cons,List.map_nil,List.length_cons,List.length_nil,List.replicate,List.cons_append,List.nil_append,List.append_nil,List.getElem?_cons_zero,List.getElem?_cons_succ,Option.some.injEq,exists_eq_left',exists_eq_left,V.int.injEq,V.bl.injEq,V.ref.injEq,V.ty.injEq,HO.tup.injEq,HO.lst.injEq,List.cons.injEq,and_true,true_and,and_assoc,exists_and_left,List.set_cons_zero,List.set_cons_succ,decide_eq_true_eq,decide_eq_false_iff_not,Bool.not_eq_true',Bool.true_eq_false,Bool.false_eq_true,Bool.not_true,Bool.not_false,if_true,if_false,ite_true,ite_false,qmc,qmd,qkx,qky,qhI,qhJ,qhK,qhL,qhM,Nat.zero_add,Nat.reduceAdd,Nat.reduceSub,qai,Int.cast_ofNat_Int,decide_true,decide_false,eq_self,not_true_eq_false,not_false_eq_true,Int.natCast_add,Int.natCast_zero,reduceCtorEq,Nm,qho,qdU,qnI,qk9,tSl,qcr,qf0,sL,sT,qjb,qoG,qhO,qif,qqp,qoB,qq7,qgu,qh6,qrK,tBM,qrJ,qkz,qkA,qmh,qmi,qkC,qmv,qkH,qmj,qmk,qms,qmt,qnU,qpf,qnV,qra,qpd,qjY,qhp,qrl,qpe,qdg,Option.bind_some,Option.bind_none,Option.bind,Option.join,id_eq,sS,qmA,qqs,qar,qcL,qbZ,qaM,qbp,qaR,qbD,qbi,qaH,qay,qaV,qaX,qa6,qaZ,qaS,qa7,qbj,qa0,qb0,qaT,qaN,qb9,qd9,qbc,qbf,qce,qjl,qb1,qbh,qbr,qa3,qa8,qb4,qcM,qaU,qbk,qbB,qb2,qbg,qbq,qb5] at l0
  have lne:ns≠[]→ms≠[]→Lz one∧Lz two:=fun h1 h2=>⟨qiC t1 fun z=>h1 (n1.mp z),qiC t2 fun z=>h2 (n2.mp z)⟩
  refine ⟨_,ha2,qcy (fun c1=>⟨_,hb2,qcy (fun c2=>⟨⟨_,hK H2⟩,?_⟩) (fun c2=>l0 (.inr (by simpa using c2)))⟩) (fun c1=>l0 (.inl (by simpa using c1)))⟩
  obtain ⟨z1,z2⟩:=lne (by simpa using c1) (by simpa using c2)
  refine qlT (xs:=exps.map fun e:Nat=>V.int (e:Int)) (fun i σ H'=>i<8∧∃ u v,σ=[some (.ref a),some (.ref b),some (.ref a1),some (.ref a2),u,v]∧Same H2 H') ⟨by decide,none,none,rfl,Same.refl H2⟩ (fun i σ H' _ _=>hK H') ?_ ?_
  · rintro i x σ H' hi ⟨i8,u,v,rfl,s3⟩
    rw [List.getElem?_map] at hi
    cases e:exps[i]? with
    | none=>rw [e] at hi;cases hi
    | some ex=>
      rw [e] at hi
      obtain rfl:V.int (ex:Int)=x:=Option.some.inj hi
      obtain ⟨pe,pl⟩:=qpA ex (List.mem_of_getElem? e)
      have h13:=s3 _ _ h12
      have h23:=s3 _ _ h2
      rwa [h13,h23]
      refine ⟨by omega,2,by unfold Bd;decide,by omega,one,two,mers ex,qoi ex,rfl,rfl,pe,qpB pl,z1,z2,d,b1,b2,by omega,by omega,nn,by omega,by omega,cc,nc,n2',fun nb H4 s4=>⟨?_,s3.trans s4⟩,fun t rs H4 s4 ht rc pr=>?_⟩
      · rcases Nat.lt_or_ge (i+1) 8 with c8 | c8
        · exact c8
        · exfalso
          have i7:i=7:=by omega
          rw [i7] at e
          obtain rfl:44497=ex:=Option.some.inj e
          refine nb ?_
          show 2 ^ ((d+nn*(2*cc+4)+cc+2)*(2*(nn - 1)))<mers 44497
          have h1:2 ^ ((d+nn*(2*cc+4)+cc+2)*(2*(nn - 1)))≤2 ^ 44490:=Nat.pow_le_pow_right (by decide) sm
          have h2:2 ^ 44490<mers 44497:=by
            unfold mers
            have e7:2 ^ 44497=2 ^ 44490*2 ^ 7:=by rw [← Nat.pow_add]
            rw [e7]
            have:1≤2 ^ 44490:=Nat.one_le_two_pow
            omega
          omega
      exact k t rs H4 (s02.trans (s3.trans s4)) ht (fun _=>⟨qkf (Int.ne_of_gt g10) (Int.ne_of_gt g20) e1 e2 rc,pr⟩) fun h1 _=>absurd h1 (by simpa using c1)
  · rintro σ H' ⟨i8,_⟩
    exact absurd i8 (by simp [exps])
theorem qbu (l:List Nu):(qdA l).length=l.length:=by unfold qdA;rw [List.length_map]
theorem qfF {l:List Nu} (hl:qaJ l) (nl:Nz l):Tz (qdA l):=by
  by_cases h:l=[]
  · left;rw [h];rfl
  · right
    rw [qbu]
    exact qm3 hl nl (List.length_pos_iff.mpr h)
theorem qrC {l:List Nu} {M N:Int} (hl:qaJ l) (hM:Ov l M) (hN:Ov l N) (h:M∣N) {b:Nat} (hb:∀ z∈ovN l N,Bd b z):∀ z∈ovN l M,Bd b z:=fun z hz=>by
  obtain ⟨q,hq,rfl⟩:=List.mem_map.mp hz
  refine (hb (q.1*(N / q.2)) (List.mem_map.mpr ⟨q,hq,rfl⟩)).le ?_
  rw [Int.natAbs_mul,Int.natAbs_mul]
  refine Nat.mul_le_mul_left _ ?_
  have p0:=(hl q hq).pos
  obtain ⟨x,hx⟩:=hM.2 q hq
  obtain ⟨y,hy⟩:=h
  have e1:M / q.2=x:=by rw [hx,Int.mul_ediv_cancel_left _ (Int.ne_of_gt p0)]
  have e2:N / q.2=x*y:=by rw [hy,hx,Int.mul_assoc,Int.mul_ediv_cancel_left _ (Int.ne_of_gt p0)]
  rw [e1,e2,Int.natAbs_mul]
  refine Nat.le_mul_of_pos_right _ ?_
  rcases Nat.eq_zero_or_pos y.natAbs with z | z
  · have y0:y=0:=by omega
    have:=hN.1
    rw [hy,y0] at this;omega
  · exact z
theorem Gq.clr {b c:Nat} {l:List Nu} (G:Gq b c l):(∀ z∈qdA l,Bd b z)∧Bd c (qfp l)∧(∀ q∈l,Bd b q.1):=by
  obtain ⟨M,hO,bM,hz⟩:=G.ov
  have hd:=qkM G.low hO
  exact ⟨qrC G.low (qeK G.low) hO hd hz,qdp (Int.ne_of_gt hO.1) hd bM,qkU G.low hO hz⟩
theorem qel (g:List Int):(mnc g).length=g.length:=by unfold mnc;rw [List.length_map]
theorem qkg {g:List Int} (lg:Lz g):qaJ (mnc g):=fun q hq=>by
  obtain ⟨z,_,rfl⟩:=List.mem_map.mp hq
  exact qdB lg.2
theorem qiE {g:List Int} (lg:Lz g) (k:Nat):pwo (mnc g) k=(co g k:Rat) / (co g (g.length - 1):Rat):=by
  unfold pwo qbe mnc
  rw [List.getD_eq_getElem?_getD,List.getElem?_map]
  unfold co
  rw [List.getD_eq_getElem?_getD (l:=g) (i:=k)]
  cases e:g[k]? with
  | none=>
    show val (0,1)=((0:Int):Rat) / _
    unfold val
    show ((0:Int):Rat) / _=_
    rw [show ((0:Int):Rat)=0 from rfl,zdiv,zdiv]
  | some z=>exact qdC lg.2
theorem qiF {g:List Int} (lg:Lz g):qbe (mnc g) (g.length - 1)=(1,1):=qeJ (qa2 (qkg lg) _) ⟨by decide,by decide⟩ (by
  have h:=qiE lg (g.length - 1)
  unfold pwo at h
  rw [h]
  have:=qaL lg.2
  have e1:val (1,1)=1:=by unfold val;show ((1:Int):Rat) / ((1:Int):Rat)=1;grind
  rw [e1];grind)
theorem qnd {g:List Int} (lg:Lz g):Nz (mnc g):=fun q hq=>by
  have h:=qiF lg
  rw [List.getLast?_eq_getElem?,qel] at hq
  unfold qbe at h
  rw [List.getD_eq_getElem?_getD,hq] at h
  have e1:q=(1,1):=h
  rw [e1];decide
theorem qnf (h:qce K vs H Q E):qir K { nx:=fun _ H'=>Q .non H',rt:=Q } (L2.start ["P", "Q", "row"] vs) H:=by
  obtain ⟨p,q,xs,ys,l,m,b,c,nn,ee,rfl,hp,hq,hN,hM,G1,G2,lN,mN,N18,n2',ne',sm,c9,hb,k0,k1⟩:=h
  have b9:b≤44490:=by
    have:(b+nn*(2*ee+4)+ee+2)*1≤(b+nn*(2*ee+4)+ee+2)*(2*(nn - 1)):=Nat.mul_le_mul_left _ (by omega)
    omega
  obtain ⟨cb1,cB1,ct1⟩:=G1.clr
  obtain ⟨cb2,cB2,ct2⟩:=G2.clr
  obtain ⟨M1,O1,bM1,_⟩:=G1.ov
  obtain ⟨M2,O2,bM2,_⟩:=G2.ov
  unfold qir
  rwa [hp]
  refine ⟨l,hN,G1.low,M1,O1,bM1.mono (by omega),fun q hq=>(ct1 q hq).mono (by omega),by omega,fun r a H1 s1 hr ha=>?_⟩
  have hq1:=s1 _ _ hq
  rwa [hr,hq1]
  refine ⟨m,hM.tp (tpS s1),G2.low,M2,O2,bM2.mono (by omega),fun q hq=>(ct2 q hq).mono (by omega),by omega,fun r2 a2 H2 s2 hr2 ha2=>?_⟩
  have ha':=s2 _ _ ha
  rwa [hr2,ha',ha2]
  have n1:qdA l=[]↔l=[]:=by rw [← List.length_eq_zero_iff,← List.length_eq_zero_iff,qbu]
  have n2:qdA m=[]↔m=[]:=by rw [← List.length_eq_zero_iff,← List.length_eq_zero_iff,qbu]
  refine ⟨qdA l,rfl,qdA m,rfl,qfF G1.low G1.nz,qfF G2.low G2.nz,b,cb1,cb2,nn,by rw [qbu];exact lN,by rw [qbu];exact mN,N18,n2',ee,ne',sm,fun em=>by rw [qbu,qbu];exact hb (em.imp (fun z=>n1.mp z) (fun z=>n2.mp z)),fun s rs H3 s3 hs rc r0=>?_⟩
  have s03:=(s1.trans s2).trans s3
  rwa [hs]
  by_cases hz:l=[]∧m=[]
  · have e:=r0 (n1.mpr hz.1) (n2.mpr hz.2)
    subst e
    refine qcy (fun z=>absurd z (by simp)) (fun _=>?_)
    exact ⟨sz (by decide),fun t ht=>k0 hz.1 hz.2 t [] _ (s03.trans (qaf ht _)) qai trivial⟩
  · have hne:l≠[]∨m≠[]:=by
      by_cases h1:l=[]
      · exact .inr fun h2=>hz ⟨h1,h2⟩
      · exact .inl h1
    obtain ⟨R,P⟩:=rc (hne.imp (fun h z=>h (n1.mp z)) (fun h z=>h (n2.mp z)))
    have rne:rs≠[]:=List.length_pos_iff.mp R.lz.1
    refine qcy (fun _=>?_) (fun z=>absurd rne (by simpa using z))
    have al:=qcp R.lz.1
    have rl:rs.length≤1000:=by
      rcases hne with h | h
      · have:=qg2 R.lz (qiC (qfF G1.low G1.nz) fun z=>h (n1.mp z)) R.left
        rw [qbu] at this;omega
      · have:=qg2 R.lz (qiC (qfF G2.low G2.nz) fun z=>h (n2.mp z)) R.right
        rw [qbu] at this;omega
    rwa [hs,al]
    refine ⟨rs,rfl,R.lz.2,rl,fun t zs H4 s4 ht hz'=>?_⟩
    have e:trim (rs.map fun n=>qb7 n (co rs (rs.length - 1)))=mnc rs:=qmB (qnd R.lz)
    rw [e] at hz'
    exact k1 hne rs R P t zs H4 (s03.trans s4) ht hz'
theorem MR.short {g f:Nat→Rat} {n:Nat} (h0:g n≠0) (h:∀ i,n<i→g i=0) (m:MR g f) (hf:∀ k,n≤k→f k=0) (k:Nat):f k=0:=by
  obtain ⟨A,hA⟩:=m
  rw [hA k]
  exact qgh A (qj1 h0 h A fun k hk=>by rw [← hA k];exact hf k hk) k
theorem MR.less {g f h:Nat→Rat} (m:MR g f) (γ:Rat) (s:Nat) (e:∀ k,h k=f k - γ*upS s g k):MR g h:=by
  obtain ⟨A,hA⟩:=m
  refine ⟨qa5 A ((List.replicate s 0++[γ]).map ((-1:Rat)*·)),fun k=>?_⟩
  rw [qax,qat,qcK,e k,hA k]
  have e2:upS s (cvL [γ] g) k=γ*upS s g k:=by
    unfold upS
    by_cases hk:s≤k
    · rw [if_pos hk,if_pos hk]
      cases hkk:k - s with
      | zero=>rw [qao];grind
      | succ j=>rw [qal,qaE];grind
    · rw [if_neg hk,if_neg hk];grind
  rw [e2];grind
theorem qg6 {q:Nu} {n M:Int} (hq:q.2≠0) (hM:M≠0) (h:val q=(n:Rat) / (M:Rat)):Wo q n M:=by
  unfold Wo
  unfold val at h
  have a:=qaL hq
  have b:=qaL hM
  have e:(q.1:Rat)*(M:Rat)=(n:Rat)*(q.2:Rat):=by grind
  exact_mod_cast e
theorem qiG {q:Nu} {n M:Int} (hl:Low q.1 q.2) (h:Wo q n M):q.2∣M∧q.1*(M / q.2)=n:=by
  unfold Wo at h
  have d:q.2∣M:=qfw hl ⟨n,by rw [h,Int.mul_comm]⟩
  refine ⟨d,?_⟩
  have p0:=hl.pos
  have e:q.2*(q.1*(M / q.2))=q.2*n:=by
    have:=Int.mul_ediv_cancel' d
    calc q.2*(q.1*(M / q.2))=q.1*(q.2*(M / q.2)):=by grind
      _=q.1*M:=by rw [this]
      _=q.2*n:=by rw [h,Int.mul_comm]
  exact Int.eq_of_mul_eq_mul_left (Int.ne_of_gt p0) e
structure RS (m:List Nu) (z:Nat→Rat) (b c d i:Nat) (L:List Nu):Prop where
  low:qaJ L
  ov:∃ D,Ov L D∧Bd (c+i*d) D∧∀ z∈ovN L D,Bd (b+i*(d+1)) z
  mr:MR (pwo m) (fun k=>pwo L k - z k)
noncomputable def rsL (L m:List Nu) (cc:Nu) (s j:Nat):List Nu:=(List.range L.length).map fun k=>if s≤k∧k - s<j then nadd (qbe L k) (nmul (-cc.1,cc.2) (qbe m (k - s))) else qbe L k
theorem qng (L m:List Nu) (cc:Nu) (s j:Nat):(rsL L m cc s j).length=L.length:=by unfold rsL;rw [List.length_map,List.length_range]
theorem qpC {L m:List Nu} {cc:Nu} {s j k:Nat} (h:k<L.length):(rsL L m cc s j)[k]?=some (if s≤k∧k - s<j then nadd (qbe L k) (nmul (-cc.1,cc.2) (qbe m (k - s))) else qbe L k):=by
  unfold rsL;rw [List.getElem?_map,List.getElem?_range h];rfl
theorem qpD (q:Nu):val (-q.1,q.2) = - val q:=by
  unfold val
  show ((-q.1:Int):Rat) / _=_
  push_cast
  grind
theorem qpE {m:List Nu} (nm:Nz m) (m0:m≠[]):(qbe m (m.length - 1)).1≠0:=by
  have hb:m.length - 1<m.length:=by have:=List.length_pos_iff.mpr m0;omega
  have q:=nm m[m.length - 1] (by rw [List.getLast?_eq_getElem?];exact List.getElem?_eq_getElem hb)
  have e:qbe m (m.length - 1)=m[m.length - 1]:=by unfold qbe;rw [List.getD_eq_getElem?_getD,List.getElem?_eq_getElem hb];rfl
  rw [e];exact q
theorem qgk {m:List Nu} (hm:qaJ m) (nm:Nz m) (m0:m≠[]):pwo m (m.length - 1)≠0:=by
  have a:=qaL (qpE nm m0)
  have b:=qaL (Int.ne_of_gt (qa2 hm (m.length - 1)).pos)
  unfold pwo val
  grind
theorem qpF {L m:List Nu} {cc:Nu} {s j:Nat} (hL:qaJ L) (hm:qaJ m) (hc:0<cc.2):qaJ (rsL L m cc s j):=fun q hq=>by
  obtain ⟨k,_,rfl⟩:=List.mem_map.mp hq
  show Low (if s≤k∧k - s<j then nadd (qbe L k) (nmul (-cc.1,cc.2) (qbe m (k - s))) else qbe L k).1 _
  split
  · exact qkI (qa2 hL k).pos (qdz (q:=(-cc.1,cc.2)) hc (qa2 hm _).pos).pos
  · exact qa2 hL k
theorem qpG {L m:List Nu} {cc:Nu} {s:Nat} (hL:qaJ L) (hm:qaJ m) (hc:0<cc.2) (hs:L.length=s+m.length) (k:Nat):pwo (rsL L m cc s m.length) k=pwo L k - val cc*upS s (pwo m) k:=by
  by_cases h:k<L.length
  · have e:qbe (rsL L m cc s m.length) k=if s≤k∧k - s<m.length then nadd (qbe L k) (nmul (-cc.1,cc.2) (qbe m (k - s))) else qbe L k:=by
      unfold qbe
      rw [List.getD_eq_getElem?_getD,qpC h];rfl
    unfold pwo
    rw [e]
    unfold upS
    by_cases hk:s≤k
    · rw [if_pos ⟨hk,by omega⟩,if_pos hk,qn0 (qa2 hL k).pos (qdz (q:=(-cc.1,cc.2)) hc (qa2 hm _).pos).pos,qge (q:=(-cc.1,cc.2)) hc (qa2 hm _).pos,qpD]
      show _=_ - _*val (qbe m (k - s))
      grind
    · rw [if_neg (by omega),if_neg hk];grind
  · rw [qc2 (by rw [qng];omega),qc2 (by omega)]
    unfold upS
    rw [if_pos (by omega),qc2 (by omega)];grind
theorem RS.step {m:List Nu} {z:Nat→Rat} {b c d i:Nat} {L:List Nu} (S:RS m z b c d i L) (hm:qaJ m) (nm:Nz m) (m0:m≠[]) {M:Int} (OM:Ov m M) (bm:∀ z∈ovN m M,Bd d z) (hs:m.length≤L.length) {by':Nu} (lb:Low by'.1 by'.2) (vb:val by'*pwo m (m.length - 1)=1) :
    RS m z b c d (i+1) (rsL L m (nmul (qbe L (L.length - 1)) by') (L.length - m.length) m.length).dropLast:=by
  have l0:=List.length_pos_iff.mpr m0
  have lL:=qa2 S.low (L.length - 1)
  generalize hcc:nmul (qbe L (L.length - 1)) by'=cc
  have ccl:Low cc.1 cc.2:=by rw [← hcc];exact qdz lL.pos lb.pos
  have vc:val cc=pwo L (L.length - 1)*val by':=by rw [← hcc];exact qge lL.pos lb.pos
  generalize hsf:L.length - m.length=s
  have hls:L.length=s+m.length:=by omega
  have lowL':=qpF (s:=s) (j:=m.length) S.low hm ccl.pos
  have pw:=fun k=>qpG (cc:=cc) S.low hm ccl.pos hls k
  have lenL':=qng L m cc s m.length
  have pwl:=qgk hm nm m0
  have top0:pwo (rsL L m cc s m.length) (L.length - 1)=0:=by
    rw [pw,vc]
    unfold upS
    rw [if_pos (by omega),show L.length - 1 - s=m.length - 1 by omega]
    grind
  have dl:∀ k,pwo (rsL L m cc s m.length).dropLast k=pwo L k - val cc*upS s (pwo m) k:=fun k=>by
    rw [← pw]
    by_cases h:k<L.length - 1
    · unfold pwo qbe
      rw [List.getD_eq_getElem?_getD,List.getD_eq_getElem?_getD,List.getElem?_dropLast,if_pos (by rw [lenL'];exact h)]
    · rw [qc2 (by rw [List.length_dropLast,lenL'];omega)]
      by_cases e:k=L.length - 1
      · rw [e,top0]
      · rw [qc2 (by rw [lenL'];omega)]
  have lowD:qaJ (rsL L m cc s m.length).dropLast:=fun q hq=>lowL' q (List.dropLast_subset _ hq)
  refine ⟨lowD,?_,S.mr.less (val cc) s fun k=>by rw [dl k];grind⟩
  obtain ⟨D,OD,bD,bz⟩:=S.ov
  generalize hμ:(ovN m M).getD (m.length - 1) 0=μ
  have pμ:pwo m (m.length - 1)=(μ:Rat) / (M:Rat):=by rw [qik hm OM,hμ]
  have M0:=qaL (Int.ne_of_gt OM.1)
  have D0:=qaL (Int.ne_of_gt OD.1)
  have μ0:μ≠0:=fun z=>pwl (by rw [pμ,z];exact zdiv _)
  have bμ:Bd d μ:=by rw [← hμ];exact qdh bm _
  have aμ:0<(μ.natAbs:Int):=by omega
  have key:∀ k,∃ n:Int,pwo (rsL L m cc s m.length).dropLast k=(n:Rat) / ((D*(μ.natAbs:Int):Int):Rat)∧Bd (b+(i+1)*(d+1)) n:=fun k=>by
    have e2:b+(i+1)*(d+1)=(d+(b+i*(d+1)))+1:=by rw [Nat.add_mul];omega
    have b1:Bd (b+i*(d+1)) ((ovN L D).getD k 0):=qdh bz k
    have b2:Bd (b+i*(d+1)) ((ovN L D).getD (L.length - 1) 0):=qdh bz _
    have hv:val cc=((ovN L D).getD (L.length - 1) 0:Rat) / (D:Rat)*((M:Rat) / (μ:Rat)):=by
      rw [vc,qik S.low OD]
      have:val by'=(M:Rat) / (μ:Rat):=by
        rw [pμ] at vb
        have:=qaL μ0
        grind
      rw [this]
    have up:∃ w:Int,upS s (pwo m) k=(w:Rat) / (M:Rat)∧Bd d w:=by
      unfold upS
      by_cases hk:s≤k
      · rw [if_pos hk,qik hm OM];exact ⟨_,rfl,qdh bm _⟩
      · rw [if_neg hk];exact ⟨0,(zdiv _).symm,qbP _⟩
    obtain ⟨w,hw,bw⟩:=up
    rw [dl,hv,hw,qik S.low OD,e2]
    have μR:=qaL μ0
    rcases Int.natAbs_eq μ with e | e
    · refine ⟨(μ.natAbs:Int)*(ovN L D).getD k 0 - w*(ovN L D).getD (L.length - 1) 0,?_,?_⟩
      · rw [← e]
        push_cast
        generalize ((ovN L D).getD k 0:Rat)=x at *
        generalize ((ovN L D).getD (L.length - 1) 0:Rat)=y at *
        grind
      · rw [← e];exact (bμ.mul b1).sub (bw.mul b2)
    · refine ⟨(μ.natAbs:Int)*(ovN L D).getD k 0+w*(ovN L D).getD (L.length - 1) 0,?_,?_⟩
      · have e':(μ.natAbs:Int) = -μ:=by omega
        rw [e']
        push_cast
        generalize ((ovN L D).getD k 0:Rat)=x at *
        generalize ((ovN L D).getD (L.length - 1) 0:Rat)=y at *
        grind
      · have e':(μ.natAbs:Int) = -μ:=by omega
        rw [e'];exact (bμ.neg.mul b1).add (bw.mul b2)
  have DP:0<D*(μ.natAbs:Int):=Int.mul_pos OD.1 aμ
  have elem:∀ q∈(rsL L m cc s m.length).dropLast,q.2∣D*(μ.natAbs:Int)∧Bd (b+(i+1)*(d+1)) (q.1*((D*(μ.natAbs:Int)) / q.2)):=fun q hq=>by
    obtain ⟨k,hk,e⟩:=List.getElem_of_mem hq
    obtain ⟨n,hn,bn⟩:=key k
    have lq:=lowD q hq
    have ek:qbe (rsL L m cc s m.length).dropLast k=q:=by unfold qbe;rw [List.getD_eq_getElem?_getD,List.getElem?_eq_getElem hk,← e];rfl
    unfold pwo at hn
    rw [ek] at hn
    obtain ⟨h1,h2⟩:=qiG lq (qg6 (Int.ne_of_gt lq.pos) (Int.ne_of_gt DP) hn)
    exact ⟨h1,by rw [h2];exact bn⟩
  refine ⟨D*(μ.natAbs:Int),⟨DP,fun q hq=>(elem q hq).1⟩,?_,fun z hz=>?_⟩
  · refine (bD.mul (bμ.le (y:=(μ.natAbs:Int)) (by omega))).mono ?_
    rw [Nat.add_mul];omega
  · obtain ⟨q,hq,rfl⟩:=List.mem_map.mp hz
    exact (elem q hq).2
theorem qqJ (f:Nat→Int):∀ (A:List Int) (k:Nat),cvL (A.map fun z:Int=>(z:Rat)) (fun k=>(f k:Rat)) k=((cvL A f k:Int):Rat)
  | [],_=>rfl
  | x::A,0=>by rw [List.map_cons,qao,qao];push_cast;grind
  | x::A,k+1=>by rw [List.map_cons,qal,qal,qqJ f A k];push_cast;grind
theorem qnh {f:Nat→Int} {G:Nat→Rat} {β:Rat} (β0:β≠0) (hG:∀ k,G k=β*(f k:Rat)) (A:List Int) (k:Nat):((cvL A f k:Int):Rat)=β⁻¹*cvL (A.map fun z:Int=>(z:Rat)) G k:=by
  rw [qak hG,qba,qqJ]
  grind
theorem MR.of {f g:Nat→Int} {F G:Nat→Rat} {α β:Rat} (β0:β≠0) (hF:∀ k,F k=α*(f k:Rat)) (hG:∀ k,G k=β*(g k:Rat)) (m:MQ g f):MR G F:=by
  obtain ⟨c,c0,A,hA⟩:=m
  have c1:=qaL c0
  refine ⟨(A.map fun z:Int=>(z:Rat)).map (α*(c:Rat)⁻¹*β⁻¹*·),fun k=>?_⟩
  have e:(c:Rat)*(f k:Rat)=((cvL A g k:Int):Rat):=by exact_mod_cast hA k
  rw [qat,hF k]
  rw [qnh β0 hG] at e
  grind
theorem MR.qi {r o g:Nat→Int} {n L M G:Nat→Rat} {α β γ:Rat} (α0:α≠0) (β0:β≠0) (hL:∀ k,L k=α*(r k:Rat)) (hM:∀ k,M k=β*(o k:Rat)) (hG:∀ k,G k=γ*(g k:Rat)) (q:QI r o g) (m1:MR n L) (m2:MR n M):MR n G:=by
  obtain ⟨d,d0,U,W,hU⟩:=q
  obtain ⟨A,hA⟩:=m1
  obtain ⟨B,hB⟩:=m2
  have d1:=qaL d0
  refine ⟨qa5 ((qaW (U.map fun z:Int=>(z:Rat)) A).map (γ*(d:Rat)⁻¹*α⁻¹*·)) ((qaW (W.map fun z:Int=>(z:Rat)) B).map (γ*(d:Rat)⁻¹*β⁻¹*·)),fun k=>?_⟩
  rw [qax,qat,qat,qaq,qaq,← qak hA,← qak hB]
  have e:(d:Rat)*(g k:Rat)=((cvL U r k:Int):Rat)+((cvL W o k:Int):Rat):=by exact_mod_cast hU k
  rw [qnh α0 hL,qnh β0 hM] at e
  rw [hG k]
  grind
theorem qpH {l:List Nu} (hl:qaJ l) (k:Nat):pwo l k=((qfp l:Rat))⁻¹*(co (qdA l) k:Rat):=by
  rw [qik hl (qeK hl),← qjZ]
  show (co (qdA l) k:Rat) / _=_
  grind
theorem qqK {g:List Int} (lg:Lz g) (k:Nat):pwo (mnc g) k=((co g (g.length - 1):Rat))⁻¹*(co g k:Rat):=by
  rw [qiE lg];grind
theorem qkh {g:List Int} (lg:Lz g):((co g (g.length - 1):Rat))⁻¹≠0:=by
  have:=qaL lg.2
  grind
theorem RC.symm {r o:Nat→Int} {g:List Int} (G:RC r o g):RC o r g:=by
  obtain ⟨d,d0,U,W,h⟩:=G.qi
  exact ⟨G.lz,G.right,G.left,⟨d,d0,W,U,fun k=>by rw [h k];omega⟩⟩
theorem qqL {lead:Int} (h0:lead≠0) {B:Nat} {ns:List Int} (hb:∀ z∈ns,Bd B z):Ov (ns.map fun n=>qb7 n lead) (lead.natAbs:Int)∧∀ z∈ovN (ns.map fun n=>qb7 n lead) (lead.natAbs:Int),Bd B z:=by
  have A0:(0:Int)<(lead.natAbs:Int):=by omega
  have key:∀ n∈ns,(qb7 n lead).2∣(lead.natAbs:Int)∧Bd B ((qb7 n lead).1*((lead.natAbs:Int) / (qb7 n lead).2)):=fun n hn=>by
    have lq:=qdB (n:=n) h0
    have l1:=qaL h0
    have:∃ s:Int,val (qb7 n lead)=(s:Rat) / (((lead.natAbs:Int):Int):Rat)∧Bd B s:=by
      rw [qdC h0]
      rcases Int.natAbs_eq lead with e | e
      · exact ⟨n,by rw [← e],hb n hn⟩
      · refine ⟨-n,?_,(hb n hn).neg⟩
        have e':(lead.natAbs:Int) = -lead:=by omega
        rw [e'];push_cast;grind
    obtain ⟨s,hs,bs⟩:=this
    obtain ⟨d1,d2⟩:=qiG lq (qg6 (Int.ne_of_gt lq.pos) (Int.ne_of_gt A0) hs)
    exact ⟨d1,by rw [d2];exact bs⟩
  refine ⟨⟨A0,fun q hq=>?_⟩,fun z hz=>?_⟩
  · obtain ⟨n,hn,rfl⟩:=List.mem_map.mp hq
    exact (key n hn).1
  · obtain ⟨q,hq,rfl⟩:=List.mem_map.mp hz
    obtain ⟨n,hn,rfl⟩:=List.mem_map.mp hq
    exact (key n hn).2
theorem qpI {l:List Nu} {M:Int} {B:Nat} (h:Ov l M) (hb:∀ z∈ovN l M,Bd B z):Ov (trim l) M∧∀ z∈ovN (trim l) M,Bd B z:=by
  refine ⟨⟨h.1,fun q hq=>h.2 q (qih hq)⟩,fun z hz=>?_⟩
  obtain ⟨q,hq,rfl⟩:=List.mem_map.mp hz
  exact hb _ (List.mem_map.mpr ⟨q,qih hq,rfl⟩)
structure PS (l m:List Nu) (b c d e nq:Nat) (r:List Int) (B:Int) (qs:List Nu):Prop where
  len:r.length≤l.length
  tz:Tz r
  B0:B≠0
  N:∃ N,0<N∧B∣N∧Bd (c+(nq - (r.length+1 - m.length))*d) N∧∀ q∈qs,q.2∣N
  low:qaJ qs
  qb:∀ q∈qs,Bd (b+nq*(d+1)+e) q.1
  rb:∀ z∈r,Bd (b+(nq - (r.length+1 - m.length))*(d+1)) z
  ql:qs.length=nq
  zer:∀ j,j+m.length≤r.length→qbe qs j=(0,1)
  idn:∀ k,pwo l k=cv (pwo qs) (pwo m) nq k+(co r k:Rat) / (B:Rat)
theorem qni {ns:List Int} {g:Int} (k:Nat):co (ns.map (· / g)) k=co ns k / g:=qjp (F:=(· / g)) (Int.zero_ediv g) ns k
theorem qoV {ns:List Int} {g:Int} (h:∀ z∈ns,g∣z) (k:Nat):g∣co ns k:=qkT h k
theorem PS.step {l m:List Nu} {b c d e nq:Nat} {r:List Int} {B:Int} {qs:List Nu} (S:PS l m b c d e nq r B qs) (hm:qaJ m) (nm:Nz m) (m1:1≤m.length) (bC:∀ z∈qdA m,Bd d z) (bE:Bd e (qfp m)) (hq:nq=l.length+1 - m.length) (hr:m.length≤r.length)
    {lead top sh f w g:Int} (hlead:lead=co (qdA m) (m.length - 1)) (htop:top=co r (r.length - 1)) (hs0:0<sh) (hf:f*sh=lead) (hw:w*sh=top) {r1:List Int} (t1:Tz r1) (hr1:∀ k,co r1 k=f*co r k - w*upS (r.length - m.length) (co (qdA m)) k) (g0:0<g) (gB:g∣B*f) (gr:∀ z∈r1,g∣z) :
    PS l m b c d e nq (r1.map (· / g)) (B*f / g) (qs.set (r.length - m.length) (qb7 (top*qfp m) (B*lead)))∧r1.length<r.length:=by
  have lne:lead≠0:=by rw [hlead];exact qm3 hm nm m1
  have cl:(qdA m).length=m.length:=qbu m
  have fne:f≠0:=fun z=>lne (by rw [← hf,z,Int.zero_mul])
  have lt1:r1.length<r.length:=by
    have:r1.length≤r.length - 1:=qrA (b:=[]) t1 _ fun k hk=>by
      rw [hr1 k]
      unfold upS
      rw [if_pos (by omega)]
      by_cases ek:k=r.length - 1
      · rw [ek,← htop,show r.length - 1 - (r.length - m.length)=m.length - 1 by omega,← hlead,← hw,← hf];grind
      · rw [qaz (a:=r) (by omega),qaz (a:=qdA m) (k:=k - (r.length - m.length)) (by omega)];omega
    omega
  have len2:(r1.map (· / g)).length=r1.length:=List.length_map ..
  obtain ⟨N,N0,NB,Nb,Nq⟩:=S.N
  have hlen:=S.len
  have bl:Bd d lead:=by rw [hlead];exact qbt bC _
  have bt:Bd (b+(nq - (r.length+1 - m.length))*(d+1)) top:=by rw [htop];exact qbt S.rb _
  have bf:Bd d f:=qdp lne ⟨sh,by rw [hf]⟩ bl
  have bw:Bd (b+(nq - (r.length+1 - m.length))*(d+1)) w:=by
    by_cases z:top=0
    · have w0:w=0:=by
        rcases Int.mul_eq_zero.mp (hw.trans z) with h | h
        · exact h
        · omega
      rw [w0];exact qbP _
    · exact qdp z ⟨sh,by rw [hw]⟩ bt
  have sle:r.length - m.length<nq:=by omega
  have bne:B*lead≠0:=Int.mul_ne_zero S.B0 lne
  have nlow:=qdB (n:=top*qfp m) bne
  have mem_set:∀ {q:Nu},q∈qs.set (r.length - m.length) (qb7 (top*qfp m) (B*lead))→q∈qs∨q=qb7 (top*qfp m) (B*lead):=fun {q} h=>List.mem_or_eq_of_mem_set h
  have sget:∀ j,qbe (qs.set (r.length - m.length) (qb7 (top*qfp m) (B*lead))) j=if j=r.length - m.length then qb7 (top*qfp m) (B*lead) else qbe qs j:=fun j=>by
    unfold qbe
    rw [List.getD_eq_getElem?_getD,List.getD_eq_getElem?_getD]
    by_cases e:j=r.length - m.length
    · rw [if_pos e,e,List.getElem?_set_self (by rw [S.ql];exact sle)];rfl
    · rw [if_neg e,List.getElem?_set_ne (fun z=>e z.symm)]
  have grow:∀ x:Nat,(nq - (r.length+1 - m.length))*x+x≤(nq - (r1.length+1 - m.length))*x:=fun x=>by
    have:=Nat.mul_le_mul_right x (show nq - (r.length+1 - m.length)+1≤nq - (r1.length+1 - m.length) by omega)
    rw [Nat.add_mul,Nat.one_mul] at this
    exact this
  refine ⟨⟨by omega,?_,?_,⟨N*(lead.natAbs:Int),?_,?_,?_,?_⟩,?_,?_,?_,?_,?_,?_⟩,lt1⟩
  · rcases t1 with h | h
    · left;rw [h];rfl
    · right
      rw [len2,qni]
      intro z
      have:=Int.ediv_mul_cancel (qoV gr (r1.length - 1))
      rw [z,Int.zero_mul] at this
      exact h this.symm
  · intro z
    have d:=Int.ediv_mul_cancel gB
    rw [z,Int.zero_mul] at d
    exact Int.mul_ne_zero S.B0 fne d.symm
  · exact Int.mul_pos N0 (by omega)
  · refine Int.dvd_trans (Int.ediv_dvd_of_dvd gB) (Int.mul_dvd_mul NB ?_)
    exact Int.dvd_natAbs.mpr ⟨sh,by rw [hf]⟩
  · have bl':Bd d (lead.natAbs:Int):=bl.le (by rw [Int.natAbs_natCast];exact Nat.le_refl _)
    refine (Nb.mul bl').mono ?_
    rw [len2]
    have:=grow d
    omega
  · intro q hq
    rcases mem_set hq with h | h
    · exact Int.dvd_trans (Nq q h) (Int.dvd_mul_right ..)
    · rw [h]
      exact qn1 bne (Int.mul_dvd_mul NB (Int.dvd_natAbs.mpr (Int.dvd_refl _)))
  · intro q hq
    rcases mem_set hq with h | h
    · exact S.low q h
    · rw [h];exact nlow
  · intro q hq
    rcases mem_set hq with h | h
    · exact S.qb q h
    · rw [h]
      refine (qmD bne (bt.mul bE) (Nat.lt_two_pow_self:Bd _ (B*lead))).1.mono ?_
      have:=Nat.mul_le_mul_right (d+1) (show nq - (r.length+1 - m.length)≤nq by omega)
      omega
  · intro z hz
    obtain ⟨y,hy,rfl⟩:=List.mem_map.mp hz
    refine qqI (gr y hy) ?_
    refine qna (n:=b+(nq - ((r1.map (· / g)).length+1 - m.length))*(d+1)) (fun k=>?_) y hy
    rw [hr1 k,len2]
    have gw:=grow (d+1)
    refine Bd.mono (m:=(b+(nq - (r.length+1 - m.length))*(d+1)+d)+1) (Bd.sub ((bf.mul (qbt S.rb k)).mono (by omega)) ?_) (by omega)
    unfold upS
    split
    · exact bw.mul (qbt bC _)
    · rw [Int.mul_zero];exact qbP _
  · rw [List.length_set];exact S.ql
  · intro j hj
    rw [len2] at hj
    rw [sget,if_neg (by omega)]
    exact S.zer j (by omega)
  · intro k
    have hB:=qaL S.B0
    have hL:=qaL lne
    have hg:=qaL (Int.ne_of_gt g0)
    have hF:=qaL fne
    have hE:=qaL (Int.ne_of_gt (qeK hm).1)
    have c1:=qoJ (f:=pwo qs) (f':=pwo (qs.set (r.length - m.length) (qb7 (top*qfp m) (B*lead)))) (g:=pwo m) (s:=r.length - m.length) (x:=val (qb7 (top*qfp m) (B*lead)))
      (by unfold pwo;rw [S.zer _ (by omega)];exact zdiv _) (by unfold pwo;rw [sget,if_pos rfl]) (fun i hi=>by unfold pwo;rw [sget,if_neg hi]) nq k
    have gd:g∣f*co r k - w*upS (r.length - m.length) (co (qdA m)) k:=by rw [← hr1 k];exact qoV gr k
    rw [c1,S.idn k,qni,hr1 k,qkS (Int.ne_of_gt g0) gd,qkS (Int.ne_of_gt g0) gB,qdC bne]
    have hf':(f:Rat)*sh=lead:=by exact_mod_cast hf
    have hw':(w:Rat)*sh=top:=by exact_mod_cast hw
    have hS:=qaL (Int.ne_of_gt hs0)
    unfold upS
    by_cases hk:r.length - m.length≤k
    · rw [if_pos hk,if_pos ⟨sle,hk⟩,qik hm (qeK hm),← qjZ]
      show _+(co r k:Rat) / _=_+_*((co (qdA m) (k - (r.length - m.length)):Rat) / _)+_
      push_cast
      generalize (co (qdA m) (k - (r.length - m.length)):Rat)=dk
      generalize cv (pwo qs) (pwo m) nq k=c
      generalize (co r k:Rat)=x
      grind
    · rw [if_neg hk,if_neg (by omega)]
      push_cast
      generalize cv (pwo qs) (pwo m) nq k=c
      generalize (co r k:Rat)=x
      grind
theorem qk1 {a b:Nu} (h:qoN a=qoN b):a=b:=by
  unfold qoN at h
  injection h with h
  injection h with h1 h2
  injection h2 with h2 _
  injection h1 with h1
  injection h2 with h2
  exact Prod.ext h1 h2
theorem qk2 {l m:List Nu} (h:qmR l=qmR m):l=m:=by
  unfold qmR at h
  injection h with h
  induction l generalizing m with
  | nil=>
    cases m with
    | nil=>rfl
    | cons b m=>simp at h
  | cons a l ih=>
    cases m with
    | nil=>simp at h
    | cons b m=>
      rw [List.map_cons,List.map_cons] at h
      injection h with h1 h2
      rw [qk1 h1,ih h2]
theorem eqP {H:Hp} {p q:Addr} {xs ys:List V} {l m:List Nu} {Q:VK} (hp:H p=some (.tup xs)) (hN:Nums H xs l) (hq:H q=some (.tup ys)) (hM:Nums H ys m) (b:Bool) (hb:b=true↔l=m) (h:Q (.bl b) H):eqD (.ref p) (.ref q) H Q:=
  ⟨_,_,b,qpZ hp hN,qpZ hq hM,okP _ 6,okP _ 6,⟨fun z=>by rw [hb.mp z],fun z=>hb.mpr (qk2 z)⟩,h⟩
theorem neP {H:Hp} {p q:Addr} {xs ys:List V} {l m:List Nu} {Q:VK} (hp:H p=some (.tup xs)) (hN:Nums H xs l) (hq:H q=some (.tup ys)) (hM:Nums H ys m) (b:Bool) (hb:b=true↔l=m) (h:Q (.bl (!b)) H):neD (.ref p) (.ref q) H Q:=
  ⟨_,_,b,qpZ hp hN,qpZ hq hM,okP _ 6,okP _ 6,⟨fun z=>by rw [hb.mp z],fun z=>hb.mpr (qk2 z)⟩,h⟩
theorem MR.trans {n M L:Nat→Rat} (h1:MR n M) (h2:MR M L):MR n L:=by
  obtain ⟨A,hA⟩:=h1
  obtain ⟨B,hB⟩:=h2
  exact ⟨qaW B A,fun k=>by rw [qaq,← qak hA,hB k]⟩
theorem MR.add {n F G L:Nat→Rat} (h1:MR n F) (h2:MR n G) (h:∀ k,L k=F k+G k):MR n L:=by
  obtain ⟨A,hA⟩:=h1
  obtain ⟨B,hB⟩:=h2
  exact ⟨qa5 A B,fun k=>by rw [qax,← hA k,← hB k,h k]⟩
theorem MR.smul {n F L:Nat→Rat} (h1:MR n F) (c:Rat) (h:∀ k,L k=c*F k):MR n L:=by
  obtain ⟨A,hA⟩:=h1
  exact ⟨A.map (c*·),fun k=>by rw [qat,← hA k,h k]⟩
theorem MR.sub {n F G L:Nat→Rat} (h1:MR n F) (h2:MR n G) (h:∀ k,L k=F k - G k):MR n L:=
  h1.add (h2.smul (-1) (L:=fun k=>-1*G k) fun _=>rfl) fun k=>by rw [h k];grind
theorem qoW (F G:Nat→Rat) (k:Nat):∀ n,cv F G n k=cvL ((List.range n).map F) G k
  | 0=>rfl
  | n+1=>by
    show cv F G n k+(if n≤k then F n*G (k - n) else 0)=_
    rw [qoW F G k n,List.range_succ,List.map_append,List.map_singleton,qbn,List.length_map,List.length_range]
    unfold upS
    by_cases hk:n≤k
    · rw [if_pos hk,if_pos hk]
    · rw [if_neg hk,if_neg hk];grind
theorem qqM {F:Nat→Rat} {n:Nat} (h:∀ i,n≤i→F i=0) (k:Nat):F k=cvL ((List.range n).map F) qbT k:=by
  rw [qcJ,List.getD_eq_getElem?_getD,List.getElem?_map]
  by_cases hk:k<n
  · rw [List.getElem?_range hk];rfl
  · rw [List.getElem?_eq_none (by rw [List.length_range];omega),h k (by omega)];rfl
theorem MR.len {g h:List Int} (lg:Lz g) (lh:Lz h) (m:MR (pwo (mnc g)) (pwo (mnc h))):g.length≤h.length:=by
  rcases Nat.lt_or_ge h.length g.length with y | y
  · exfalso
    have g0:=lg.1
    have one:∀ {x:List Int},Lz x→pwo (mnc x) (x.length - 1)=1:=fun {x} lx=>by unfold pwo;rw [qiF lx];unfold val;show ((1:Int):Rat) / ((1:Int):Rat)=1;grind
    have z:=MR.short (n:=g.length - 1) (by rw [one lg];decide) (fun i hi=>qc2 (by rw [qel];omega)) m (fun k hk=>qc2 (by rw [qel];omega)) (h.length - 1)
    rw [one lh] at z
    exact absurd z (by decide)
  · exact y
theorem Gq.mono {b c b' c':Nat} {l:List Nu} (G:Gq b c l) (h1:b≤b') (h2:c≤c'):Gq b' c' l:=by
  obtain ⟨x,y,M,O,bM,bz⟩:=G
  exact ⟨x,y,M,O,bM.mono h2,fun z hz=>(bz z hz).mono h1⟩
theorem qqN {T:List Nu} {b c:Nat} (hT:qaJ T) (nT:Nz T) {M:Int} (M0:0<M) (bM:Bd c M) {N:Nat→Int} (h:∀ k,pwo T k=(N k:Rat) / (M:Rat)) (hN:∀ k,Bd b (N k)):Gq b c T:=by
  have key:∀ q∈T,∃ k,q.2∣M∧q.1*(M / q.2)=N k:=fun q hq=>by
    obtain ⟨i,hi,rfl⟩:=List.getElem_of_mem hq
    have e:qbe T i=T[i]:=by unfold qbe;rw [List.getD_eq_getElem?_getD,List.getElem?_eq_getElem hi];rfl
    have hl:=hT _ hq
    have v:=h i
    unfold pwo at v
    rw [e] at v
    exact ⟨i,qiG hl (qg6 (Int.ne_of_gt hl.pos) (Int.ne_of_gt M0) v)⟩
  refine ⟨hT,nT,M,⟨M0,fun q hq=>?_⟩,bM,fun z hz=>?_⟩
  · obtain ⟨k,a,_⟩:=key q hq;exact a
  · obtain ⟨q,hq,rfl⟩:=List.mem_map.mp hz
    obtain ⟨k,_,a⟩:=key q hq
    rw [a];exact hN k
theorem qoj (h:qe5 K vs H Q E):qj6 K { nx:=fun _ H'=>Q .non H',rt:=Q } (L2.start ["one", "other"] vs) H:=by
  obtain ⟨p,q,a,b,c,d,rfl,hp,hq,b0,d0,ba,bb,bc,bd,k⟩:=h
  unfold qj6
  rwa [hp,hq]
  exact ⟨qlq ba bc,qlq bb bd,Int.ne_of_gt (Int.mul_pos b0 d0),fun r hr=>by rw [qiv (Int.mul_pos b0 d0)];exact k r hr⟩
theorem qqO (l:List Nu) (k:Nat):cvL (rw' l) qbT k=pwo l k:=(qqM (fun i hi=>qc2 hi) k).symm
theorem qrD (l:List Nu) (g:Nat→Rat) (k:Nat):cv (pwo l) g l.length k=cvL (rw' l) g k:=qoW _ _ k _
theorem Cop.scal {T B T' B':Nat→Rat} {s:Rat} (s0:s≠0) (h:Cop T B) (hT:∀ k,T' k=s*T k) (hB:∀ k,B' k=s*B k):Cop T' B':=by
  obtain ⟨U,W,e⟩:=h
  refine ⟨U.map (s⁻¹*·),W.map (s⁻¹*·),fun k=>?_⟩
  rw [qat,qat,qak hT,qak hB,qba,qba,e k]
  have:s⁻¹*s=1:=Rat.inv_mul_cancel s s0
  grind
theorem Cop.mr {T B n:Nat→Rat} (h:Cop T B) (h1:MR n T) (h2:MR n B):MR n qbT:=by
  obtain ⟨U,W,e⟩:=h
  obtain ⟨A,hA⟩:=h1
  obtain ⟨C,hC⟩:=h2
  exact ⟨qa5 (qaW U A) (qaW W C),fun k=>by rw [qax,qaq,qaq,← qak hA,← qak hC,e k]⟩
theorem qrR (l:List Nu):sr l=Sr.L (rw' l):=Sr.ext' fun k=>(qqO l k).symm
theorem qg7 (l:List Nu):Sr.Pol (sr l):=⟨_,qrR l⟩
theorem qqP (l:List Nu) (g:Nat→Rat):(⟨cvL (rw' l) g⟩:Sr)=sr l*⟨g⟩:=by rw [qrR,Sr.L_mul]
theorem qqQ {P A C:List Nu} (h:∀ k,pwo P k=cv (pwo A) (pwo C) A.length k):sr P=sr A*sr C:=by
  refine Eq.trans ?_ (qqP A (pwo C))
  exact Sr.ext' fun k=>(h k).trans (qrD _ _ _)
theorem qpJ {l:List Nu} (h1:qaJ l) (h2:Nz l) (h3:l≠[]):sr l≠0:=fun z=>qgk h1 h2 h3 (by
  have:=congrFun (congrArg Sr.c z) (l.length - 1)
  rw [Sr.zero_c] at this
  exact this)
theorem qqR {l m:List Nu} (h1:qaJ l) (h2:qaJ m) (n1:Nz l) (n2:Nz m) (h:sr l=sr m):l=m:=qn2 h1 h2 n1 n2 fun k=>congrFun (congrArg Sr.c h) k
theorem qrE (k:Nat):(1:Sr).c k=qbT k:=by show ((1:Nat):Rat)*qbT k=_;push_cast;grind
theorem qsb {l m:List Nu} (h:∀ k,pwo m k=dv (pwo l) k):sr m=Sr.D (sr l):=Sr.ext' fun k=>h k
theorem qsc (ns:List Int) (f:Int):List.map V.int (ns.map (f*·))=qbU ns.length fun k=>f*ns.getD k 0:=by
  unfold qbU
  congr 1
  apply List.ext_getElem?
  intro i
  rw [List.getElem?_map,List.getElem?_map]
  by_cases h:i<ns.length
  · rw [List.getElem?_range h,List.getElem?_eq_getElem h]
    show _=some (f*ns.getD i 0)
    rw [List.getD_eq_getElem?_getD,List.getElem?_eq_getElem h]
    rfl
  · rw [List.getElem?_eq_none (by omega),List.getElem?_eq_none (by rw [List.length_range];omega)]
    rfl
theorem qnj (m:Nat) (f:Nat→Int):qbU (m+1) f=qbU m f++[V.int (f m)]:=by
  unfold qbU
  rw [List.range_succ,List.map_append,List.map_append]
  rfl
theorem qnk (ns:List Int):ns.map V.int=qbU ns.length fun k=>ns.getD k 0:=by
  have h:=qsc ns 1
  have e:ns.map (1*·)=ns:=by
    have e2:(fun x:Int=>1*x)=id:=funext fun x=>Int.one_mul x
    rw [e2,List.map_id]
  rw [e] at h
  rw [h]
  exact qdq fun i _=>by rw [Int.one_mul]
theorem qok (h:qe6 K vs H Q E):qj7 K { nx:=fun _ H'=>Q .non H',rt:=Q } (L2.start ["_law_one", "_law_other"] vs) H:=by
  obtain ⟨p,q,a,b,c,d,rfl,hp,hq,b0,d0,ba,bb,bc,bd,k⟩:=h
  unfold qj7
  rwa [hp,hq]
  exact ⟨qps ba bd,qps bc bb,qps bb bd,Int.ne_of_gt (Int.mul_pos b0 d0),fun r hr=>by rw [qiv (Int.mul_pos b0 d0)];exact k r hr⟩
theorem qjr (h:qcg K vs H Q E):qeR K { nx:=fun _ H'=>Q .non H',rt:=Q } (L2.start ["_law_one", "_law_other"] vs) H:=by
  obtain ⟨p,q,a,b,c,d,rfl,hp,hq,b0,d0,ba,bb,bc,bd,k⟩:=h
  unfold qeR
  rwa [hp,hq]
  exact ⟨qps ba bc,qps bb bd,Int.ne_of_gt (Int.mul_pos b0 d0),fun r hr=>by rw [qiv (Int.mul_pos b0 d0)];exact k r hr⟩
theorem qlv (h:qb3 K vs H Q E):qgV K { nx:=fun _ H'=>Q .non H',rt:=Q } (L2.start ["_law_kp", "_law_kq", "_law_row", "_law_k", "_law_one", "_law_j", "_law_other"] vs) H:=by
  obtain ⟨p,q,xs,ys,l,m,M1,M2,nb,nc,rfl,hp,hq,hN,hM,hl,hm,O1,O2,bMM,bl,bm,nbc,ll,lm,k⟩:=h
  unfold qgV
  rwa [hp,hq]
  have lx:=hN.length
  have ly:=hM.length
  refine ⟨sz (by decide),fun b hb=>⟨sz (by simp),fun c hc=>?_⟩⟩
  have sb:=qaf hb (HO.tup [V.int 0,V.int 1])
  have sc:=qaf hc (HO.lst [V.ref b])
  have hp1:=sc _ _ (sb _ _ hp)
  have hq1:=sc _ _ (sb _ _ hq)
  rwa [hp1,hq1]
  have eL:((xs.length:Int)+(ys.length:Int)).toNat=l.length+m.length:=by omega
  rw [eL,qc5]
  refine ⟨by omega,by omega,sz (by omega),fun w hw=>?_⟩
  have sw:=qaf hw (HO.lst (List.replicate (l.length+m.length) (V.ref b)))
  have w0:H w=none:=by
    cases e:H w with
    | none=>rfl
    | some o=>have z:=sc _ _ (sb _ _ e);rw [hw] at z;cases z
  have BP:=Int.mul_pos O1.1 O2.1
  have BB1:Bd 900000 M1:=qdp (Int.ne_of_gt BP) (Int.dvd_mul_right ..) bMM
  have BB2:Bd 900000 M2:=qdp (Int.ne_of_gt BP) (Int.dvd_mul_left ..) bMM
  have n2:(ovN m M2).length=m.length:=by unfold ovN;rw [List.length_map]
  have bd:∀ i j k,i≤100→Bd 1000000 (in2 (ovN l M1) (ovN m M2) i j k):=fun i j k hi=>(qqx bl bm i j k).mono (by omega)
  refine ⟨⟨_,SqT.of (sw _ _ hp1)⟩,ForJ.enumT (xs:=xs) (fun i σ H'=>∃ x1 x2 x3 x4:Option V,σ=[some (.ref p),some (.ref q),some (.ref w),x1,x2,x3,x4]∧Same H H'∧∃ zs,H' w=some (.lst zs)∧Nums H' zs ((List.range (l.length+m.length)).map fun k=>red (ps (ovN l M1) (ovN m M2) i k) (M1*M2)))
    ⟨none,none,none,none,rfl,(sb.trans sc).trans sw,_,qai,?_⟩ ?_ ?_ ?_⟩
  · rw [show (fun k=>red (ps (ovN l M1) (ovN m M2) 0 k) (M1*M2))=fun _=>((0,1):Nu) from funext fun k=>qnY BP,qh1]
    exact Nums.rep ⟨b,rfl,sw _ _ (sc _ _ qai)⟩ _
  · rintro i σ H' _ ⟨_,_,_,_,_,s1,_⟩
    exact s1 _ _ hp
  · rintro i x pp σ H1 hi ⟨x1,x2,x3,x4,rfl,s1,zs,hw1,hz1⟩ hpp
    obtain ⟨z,hz,px,rfl,hpx⟩:=hN.get hi
    have il:i<l.length:=(List.getElem?_eq_some_iff.mp hz).1
    have zd:qbe l i=z:=by unfold qbe;rw [List.getD_eq_getElem?_getD,hz];rfl
    have sp:=qaf hpp (HO.tup [V.int (i:Int),V.ref px])
    rwa []
    refine ⟨⟨_,SqT.of (sp _ _ (s1 _ _ hq))⟩,ForJ.enumT (xs:=ys) (fun j σ H'=>∃ x3 x4:Option V,σ=[some (.ref p),some (.ref q),some (.ref w),some (.int (i:Int)),some (.ref px),x3,x4]∧Same H H'∧∃ zs,H' w=some (.lst zs)∧Nums H' zs ((List.range (l.length+m.length)).map fun k=>red (in2 (ovN l M1) (ovN m M2) i j k) (M1*M2)))
          ⟨x3,x4,rfl,s1.trans sp,_,sp _ _ hw1,?_⟩ ?_ ?_ ?_⟩
    · rw [qfV fun k _=>congrArg (red · (M1*M2)) (qkK (ovN l M1) (ovN m M2) i k)]
      exact hz1.tp (tpS sp)
    · rintro j σ H' _ ⟨_,_,_,s2,_⟩
      exact s2 _ _ hq
    · rintro j y pq σ H2 hj ⟨y3,y4,rfl,s2,zs2,hw2,hz2⟩ hpq
      obtain ⟨u,hu,py,rfl,hpy⟩:=hM.get hj
      have jl:j<m.length:=(List.getElem?_eq_some_iff.mp hu).1
      have ud:qbe m j=u:=by unfold qbe;rw [List.getD_eq_getElem?_getD,hu];rfl
      have sq:=qaf hpq (HO.tup [V.int (j:Int),V.ref py])
      have hw3:=sq _ _ hw2
      have kl:i+j<l.length+m.length:=by omega
      have hz3:=hz2.tp (tpS sq)
      obtain ⟨v,hv,g,rfl,hg⟩:=hz3.at (i:=i+j) (by rw [List.length_map,List.length_range];exact kl) (1,1)
      rw [List.getD_eq_getElem?_getD,qdr _ kl] at hg
      have hpx3:=sq _ _ (s2 _ _ hpx)
      have hpy3:=sq _ _ (s2 _ _ hpy)
      have lq:=hl z (List.mem_of_getElem? hz)
      have lu:=hm u (List.mem_of_getElem? hu)
      have bq:=qkU hl O1 bl z (List.mem_of_getElem? hz)
      have bu:=qkU hm O2 bm u (List.mem_of_getElem? hu)
      rwa [hw3,hpx3,hpy3]
      have qd:z.2*u.2∣M1*M2:=Int.mul_dvd_mul (O1.2 z (List.mem_of_getElem? hz)) (O2.2 u (List.mem_of_getElem? hu))
      have bq2:Bd 900000 z.2:=qdp (Int.ne_of_gt O1.1) (O1.2 z (List.mem_of_getElem? hz)) BB1
      have bu2:Bd 900000 u.2:=qdp (Int.ne_of_gt O2.1) (O2.2 u (List.mem_of_getElem? hu)) BB2
      have bp:=qoR (Int.mul_pos lq.pos lu.pos) (bq.mul bu) (qdp (Int.ne_of_gt BP) qd bMM)
      have br:=qoR BP (bd i j (i+j) (by omega)) bMM
      refine ⟨_,qcd (by omega) hv,lq.pos,lu.pos,bq.mono (by omega),bq2.mono (by omega),bu.mono (by omega),bu2.mono (by omega),fun r1 hr1=>?_⟩
      have sr1:=qaf hr1 (HO.tup [V.int (nmul (z.1,z.2) (u.1,u.2)).1,V.int (nmul (z.1,z.2) (u.1,u.2)).2])
      refine ⟨g,rfl,_,_,sr1 _ _ hg,(qbC BP).pos,(qdz lq.pos lu.pos).pos,br.1.mono (by omega),br.2.mono (by omega),bp.1.mono (by omega),bp.2.mono (by omega),fun r2 hr2=>?_⟩
      have sr2:=qaf hr2 (HO.tup [V.int (nadd (red (in2 (ovN l M1) (ovN m M2) i j (i+j)) (M1*M2)) (nmul (z.1,z.2) (u.1,u.2))).1,V.int (nadd (red (in2 (ovN l M1) (ovN m M2) i j (i+j)) (M1*M2)) (nmul (z.1,z.2) (u.1,u.2))).2])
      have st:=(sq.trans sr1).trans sr2
      have lz:zs2.length=l.length+m.length:=by rw [hz2.length,List.length_map,List.length_range]
      refine ⟨_,st _ _ hw2,i+j,qgZ (by omega) (by omega),fun b o h=>Kp.upd b o (qaD h w0) (st b o (s2 b o h)),?_⟩
      have hn:=(Nums.set (q:=nadd (red (in2 (ovN l M1) (ovN m M2) i j (i+j)) (M1*M2)) (nmul z u)) ⟨r2,rfl,qai⟩ (i+j) (hz2.tp (tpS st))).tp (Tp.updL (ys:=zs2.set (i+j) (V.ref r2)) (st _ _ hw2))
      rw [qlr (g:=fun k=>red (in2 (ovN l M1) (ovN m M2) i (j+1) k) (M1*M2)) kl ?_ fun k _ hk=>?_] at hn
      · exact hn
      · have w1:=qmG O1 i
        have w2:=qmG O2 j
        rw [zd] at w1
        rw [ud] at w2
        show red (in2 (ovN l M1) (ovN m M2) i (j+1) (i+j)) (M1*M2)=_
        rw [qgd,if_pos rfl,qob BP lq.pos lu.pos w1 w2 rfl]
      · show red (in2 (ovN l M1) (ovN m M2) i (j+1) k) (M1*M2)=_
        rw [qgd,if_neg hk]
    · rintro σ H2 ⟨y3,y4,rfl,s2,zs2,hw2,hz2⟩
      rw [ly,qfV fun k _=>congrArg (red · (M1*M2)) (show in2 (ovN l M1) (ovN m M2) i m.length k=ps (ovN l M1) (ovN m M2) (i+1) k by rw [← n2];rfl)] at hz2
      exact ⟨_,_,_,_,rfl,s2,zs2,hw2,hz2⟩
  · rintro σ H1 ⟨x1,x2,x3,x4,rfl,s1,zs,hw1,hz1⟩
    rwa [hw1]
    rw [lx] at hz1
    exact ⟨_,hz1,by rw [List.length_map,List.length_range];omega,fun r vs H2 s2 hr hv=>k r vs H2 (s1.trans s2) hr hv⟩
theorem qjs (h:qch K vs H Q E):qeS K { nx:=fun _ H'=>Q .non H',rt:=Q } (L2.start ["_law_row", "_law_many"] vs) H:=by
  obtain ⟨p,xs,l,rfl,hp,hN,hl,q⟩:=h
  unfold qeS
  rwa [hp]
  have lx:=hN.length
  refine while_by (fun m σ H'=>σ=[some (.ref p),some (.int (m:Int))]∧H'=H∧qcZ l m=qcZ l l.length∧m≤l.length) xs.length ⟨rfl,rfl,by rw [lx],by omega⟩ ?_
  rintro m σ H' ⟨rfl,rfl,ht,hm⟩
  rwa [hp]
  refine qcy (fun c=>?_) (fun c=>?_)
  · obtain ⟨k,rfl⟩:∃ k,m=k+1:=⟨m - 1,by omega⟩
    obtain ⟨v,hv,p1,rfl,hp1⟩:=hN.at (i:=k) (by omega) (1,1)
    rw [qh0] at ht
    refine ⟨_,qcd (by omega) hv,p1,rfl,_,hp1,_,rfl,rfl,qcy (fun c2=>?_) (fun c2=>?_)⟩
    · have z:(l.getD k (1,1)).1=0:=by injection c2
      rw [if_pos z] at ht
      exact ⟨fun σ' H''=>∃ m',m'<k+1∧_,fun _ _ h=>h,k,by omega,by rw [show ((k+1:Nat):Int) - 1=(k:Int) by omega],rfl,ht,by omega⟩
    · have z:(l.getD k (1,1)).1≠0:=fun z=>c2 (by rw [z])
      rw [if_neg z] at ht
      exact qgi hN hm ht.symm q
  · have z:m=0:=by omega
    subst z
    exact qgi hN hm ht.symm q
theorem qgl (ns:List Int) (lo hi:Option Int):∃ ms:List Int,qgt (ns.map V.int) lo hi=ms.map V.int∧ms.length≤ns.length:=by
  unfold qgt
  rw [← List.map_drop,← List.map_take]
  exact ⟨_,rfl,by rw [List.length_take,List.length_drop];omega⟩
theorem qnl (h:qcM K vs H Q E):qis K { nx:=fun _ H'=>Q .non H',rt:=Q } (L2.start ["_law_script", "_law_first"] vs) H:=by
  obtain ⟨s,ns,rfl,hs,n63,k⟩:=h
  unfold qis
  rwa []
  obtain ⟨c1,e1,_⟩:=qgl ns none (some 1)
  obtain ⟨c2,e2,l2⟩:=qgl ns none (some 63)
  refine ⟨_,hs,fun p hp=>⟨c1,e1,_,Same.seq (qaf hp _) hs,fun p1 h1 l hl=>⟨⟨by decide,(qrw (by decide) (by decide)).mono (by decide)⟩,by decide,sz (by decide),fun r hr=>?_⟩⟩⟩
  have t1:=qaf hp (HO.lst (qgt (ns.map V.int) none (some 1)))
  have t2:=qaf h1 (HO.lst (qgt (ns.map V.int) none (some 63)))
  have t3:=qaf hl (HO.lst (qgt (ns.map V.int) none (some 63)))
  have t4:=(t1.trans t2).trans t3
  have r0:H r=none:=by
    cases e:H r with
    | none=>rfl
    | some o=>have z:=t4 _ _ e;rw [hr] at z;cases z
  refine k r l _ r0 (Kp.of_same (t4.trans (qaf hr _))) ⟨c2,0,_,_,qai,?_,by omega,?_,by decide,by decide,?_⟩
  · rw [← e2];exact (qaf hr _) _ _ qai
  · exact qaD qai hr
  · refine Int.ediv_nonneg ?_ (by decide)
    split <;> omega
theorem qnm (h:qaU K vs H Q E):qit K { nx:=fun _ H'=>Q .non H',rt:=Q } (L2.start ["_law_hand_here", "_law_many", "_law_found", "_law_cell", "_law_once", "_law_twice"] vs) H:=by
  obtain ⟨p,a,m,n,rfl,⟨ns,x,y,z,hp,ha,ln,ap,x0,xn,y0⟩,n9,m0,m9,k⟩:=h
  have A0:∀ x y:Int,atI [V.ref a,V.int x,V.int y,V.int z] 0=some (V.ref a):=fun _ _=>rfl
  have A1:∀ x y:Int,atI [V.ref a,V.int x,V.int y,V.int z] 1=some (V.int x):=fun _ _=>rfl
  have A2:∀ x y:Int,atI [V.ref a,V.int x,V.int y,V.int z] 2=some (V.int y):=fun _ _=>rfl
  have A3:∀ x y:Int,atI [V.ref a,V.int x,V.int y,V.int z] 3=some (V.int z):=fun _ _=>rfl
  have I1:ixN 4 1=some 1:=rfl
  have I2:ixN 4 2=some 2:=rfl
  have kpa:∀ {H1:Hp} {o:HO},H1 a=some (.lst (ns.map V.int))→(upd H1 p o) a=some (.lst (ns.map V.int)):=fun h=>by rw [qaB ap];exact h
  have go:∀ (x y:Int) (H1:Hp),H1 p=some (.lst [V.ref a,V.int x,V.int y,V.int z])→H1 a=some (.lst (ns.map V.int))→0≤x→x≤n+1→0≤y→Kp p H H1→qfA K { nx:=fun x H'=>Q V.non H',rt:=Q } [some (V.ref p),some (V.int m),none,none,none,none] H1:=fun x y H1 hp ha x0 xn y0 k1=>by
    have go2:qfz K { nx:=fun x H'=>Q V.non H',rt:=Q } [some (V.ref p),some (V.int m),none,none,none,none] H1:=by
      unfold qfz
      rwa [hp,A1,I1]
      have k2:Kp p H (upd H1 p (HO.lst [V.ref a,V.int (x+1),V.int y,V.int z])):=k1.trans Kp.upd
      have hp2:upd H1 p (HO.lst [V.ref a,V.int (x+1),V.int y,V.int z]) p=_:=qai
      have ha2:upd H1 p (HO.lst [V.ref a,V.int (x+1),V.int y,V.int z]) a=_:=kpa ha
      generalize upd H1 p (HO.lst [V.ref a,V.int (x+1),V.int y,V.int z])=H2 at k2 hp2 ha2 ⊢
      unfold qhU
      rwa [hp2,ha2,A0,A1]
      obtain ⟨c1,e1,_⟩:=qgl ns (some ((x+1) % if ((ns.map V.int).length:Int) > 1 then ((ns.map V.int).length:Int) else 1)) none
      obtain ⟨c2,e2,_⟩:=qgl c1 none (some 1)
      rw [e1,e2]
      refine ⟨by split <;> omega,fun q1 h1 q2 h2=>⟨c2,rfl,?_⟩⟩
      have s3:=(qaf h1 (HO.lst (c1.map V.int))).trans (qaf h2 (HO.lst (c2.map V.int)))
      have hp3:=s3 _ _ hp2
      have ha3:=s3 _ _ ha2
      have k3:=k2.same s3
      generalize upd (upd H2 q1 (HO.lst (c1.map V.int))) q2 (HO.lst (c2.map V.int))=H3 at hp3 ha3 k3 ⊢
      generalize c2.sum=cell
      unfold qhT
      rwa [hp3,A1]
      have L:∀ {x y:Int},0≤x→x<4611686018427387904→IntMulOk x y:=fun h1 h2=>qry (by omega) (by omega)
      have R:∀ {x y:Int},0≤y→y<4611686018427387904→IntMulOk x y:=fun h1 h2=>qrx (by omega) (by omega)
      refine ⟨by decide,L (by decide) (by decide),L (by decide) (by decide),R (by omega) (by omega),by decide,?_⟩
      generalize (cell % 2147483629+7919*(x+1)+11)*(48271+2*(x+1)) % 2147483647=once
      unfold qhS
      rwa [hp3,A1]
      have z:=Int.emod_nonneg once (show (39373:Int)≠0 by decide)
      have z2:=Int.emod_lt_of_pos once (show (0:Int)<39373 by decide)
      refine ⟨by decide,R (by omega) (by omega),L (by decide) (by decide),by decide,?_⟩
      unfold qhR
      rwa []
      exact ⟨⟨by decide,(qrw (by decide) (by decide)).mono (by decide)⟩,m0,k _ _ (Int.emod_nonneg _ (by omega)) (Int.emod_lt_of_pos _ m0) ⟨ns,x+1,y,_,hp3,ha3,ln,ap,by omega,by omega,y0⟩ k3⟩
    unfold qfA
    rwa [hp,A2,A3]
    refine qcy (fun _=>?_) (fun _=>go2)
    refine qcy (fun _=>?_) (fun _=>go2)
    unfold qfi
    rwa [hp,A2]
    refine ⟨m0,?_⟩
    unfold qfh qfg
    rwa [hp,A2,I2]
    exact ⟨⟨m0,(qrw (by omega) (by omega)).mono (by decide)⟩,k _ _ (Int.emod_nonneg _ (by omega)) (Int.emod_lt_of_pos _ m0) ⟨ns,x,y / m,z,qai,kpa ha,ln,ap,x0,by omega,Int.ediv_nonneg y0 (by omega)⟩ (k1.trans Kp.upd)⟩
  unfold qit
  rwa [hp,ha,A0,A1,A2,A3]
  have go0:=go x y H hp ha x0 (by omega) y0 (Kp.of_same (Same.refl H))
  refine qcy (fun _=>?_) (fun _=>go0)
  refine qcy (fun _=>?_) (fun _=>go0)
  refine qcy (fun xl=>?_) (fun _=>go0)
  unfold qff
  rwa [hp,A1,I1]
  have hp2:upd H p (HO.lst [V.ref a,V.int (x+1),V.int y,V.int z]) p=_:=qai
  have ha2:upd H p (HO.lst [V.ref a,V.int (x+1),V.int y,V.int z]) a=_:=kpa ha
  have k2:Kp p H (upd H p (HO.lst [V.ref a,V.int (x+1),V.int y,V.int z])):=Kp.upd
  generalize upd H p (HO.lst [V.ref a,V.int (x+1),V.int y,V.int z])=H2 at k2 hp2 ha2 ⊢
  unfold qfe
  rwa [hp2,ha2,A0,A1,I2]
  rw [List.length_map] at xl
  obtain ⟨v,hv⟩:=qn9 (ns:=ns) (k:=x+1) (by omega) (by omega)
  exact ⟨_,hv,v,rfl,go (x+1) _ _ qai (kpa ha2) (by omega) (by omega) (by split <;> omega) (k2.trans Kp.upd)⟩
theorem qki (h:qaY K vs H Q E):qfB K { nx:=fun _ H'=>Q .non H',rt:=Q } (L2.start ["_law_top", "_law_bottom", "_law_one", "_law_other"] vs) H:=by
  obtain ⟨a,b,rfl,hb,q⟩:=h
  unfold qfB
  rwa []
  have go:∀ s:Int,(s=if b<0 then -((Int.gcd a b:Nat):Int) else ((Int.gcd a b:Nat):Int))→qpe a s∧qpe b s∧2≤sizeLine∧∀ (p:Addr),H p=none→Q (V.ref p) (upd H p (HO.tup [V.int (a.fdiv s),V.int (b.fdiv s)])):=fun s hs=>by
    obtain ⟨h1,h2,h3,h4,h5,h6⟩:=qen hb hs
    have e:qb7 a b=(a.fdiv s,b.fdiv s):=by
      refine qeJ (qdB hb) h3 ?_
      rw [qdC hb,qe3 (q:=(a.fdiv s,b.fdiv s)) (Int.ne_of_gt h3.pos) hb h4]
    rw [e] at q
    exact ⟨h1,h1,sz (by decide),q⟩
  refine while_by (fun m σ H'=>∃ x y:Int,σ=[some (.int a),some (.int b),some (.int x),some (.int y)]∧H'=H∧0≤x∧0≤y∧Int.gcd x y=Int.gcd a b∧m=y.natAbs) b.natAbs ⟨_,_,rfl,rfl,by split <;> omega,by split <;> omega,?_,by split <;> omega⟩ ?_
  · split <;> split <;> simp [Int.neg_gcd,Int.gcd_neg]
  rintro m σ H' ⟨x,y,rfl,rfl,x0,y0,hg,rfl⟩
  rwa []
  refine qcy (fun c=>?_) (fun c=>?_)
  · refine ⟨fun σ' H''=>∃ m',m'<y.natAbs∧_,fun _ _ h=>h,?_⟩
    have z1:=Int.emod_nonneg x (show y≠0 by omega)
    have z2:=Int.emod_lt_of_pos x c
    refine ⟨c,(x % y).natAbs,by omega,y,x % y,rfl,rfl,y0,z1,?_,rfl⟩
    rw [qib x y0];exact hg
  · have e:y=0:=by omega
    subst e
    have ex:x=((Int.gcd a b:Nat):Int):=by rw [← hg,Int.gcd_zero_right];omega
    refine qcy (fun c2=>?_) (fun c2=>?_)
    · exact go _ (by rw [if_pos c2,ex])
    · exact go _ (by rw [if_neg c2,ex])
theorem qjt (h:qbB K vs H Q E):qeP K { nx:=fun _ H'=>Q .non H',rt:=Q } (L2.start ["_law_row", "_law_scale_here"] vs) H:=by
  obtain ⟨p,q,ns,t,d,rfl,hp,hq,d0,bt,bn,l9,k⟩:=h
  unfold qeP
  rwa [hp,hq]
  refine ⟨⟨_,SqL.of hp⟩,CompJ.lst (xs:=ns.map V.int) (fun i ys H'=>i≤ns.length∧Same H H'∧Nums H' ys ((ns.map fun n=>qb7 (n*t) d).take i)) ⟨Nat.zero_le _,Same.refl H,trivial⟩ ?_ ?_ ?_⟩
  · rintro i ys H' ⟨h1,s1,hZ⟩
    refine ⟨by rw [List.length_map];exact h1,sz ?_,SqL.of (s1 _ _ hp)⟩
    rw [hZ.length,List.length_take];omega
  · rintro i x ys H' hi ⟨h1,s1,hZ⟩
    rw [List.getElem?_map] at hi
    cases e:ns[i]? with
    | none=>rw [e] at hi;cases hi
    | some z=>
      rw [e] at hi
      obtain rfl:=Option.some.inj hi
      have hq1:=s1 _ _ hq
      have hi2:i<ns.length:=(List.getElem?_eq_some_iff.mp e).1
      rwa [hq1]
      refine ⟨qm8 (bn z (List.mem_of_getElem? e)) bt,d0,fun r hr=>⟨by omega,s1.trans (qaf hr _),?_⟩⟩
      have e2:(ns.map fun n=>qb7 (n*t) d)[i]?=some (qb7 (z*t) d):=by rw [List.getElem?_map,e];rfl
      rw [List.take_add_one,e2]
      exact (hZ.tp (tpS (qaf hr _))).append (Nums.one qip)
  · rintro ys H' ⟨_,s1,hZ⟩ a ha
    have e:(ns.map fun n=>qb7 (n*t) d).take (ns.map V.int).length=ns.map fun n=>qb7 (n*t) d:=by rw [List.length_map,show ns.length=(ns.map fun n=>qb7 (n*t) d).length by rw [List.length_map],List.take_length]
    rw [e] at hZ
    rwa []
    intro r hr
    have s2:=(qaf ha (HO.lst ys)).trans (qaf hr (HO.tup ys))
    exact k r ys _ (s1.trans s2) qai (hZ.tp (tpS s2))
theorem qiH (h:qbq K vs H Q E):qek K { nx:=fun _ H'=>Q .non H',rt:=Q } (L2.start ["_law_row"] vs) H:=by
  obtain ⟨p,ns,rfl,hp,lz,l9,k⟩:=h
  unfold qek
  rwa [hp]
  have al:=qcp lz.1
  refine ⟨⟨_,SqL.of hp⟩,CompJ.lst (xs:=ns.map V.int) (fun i ys H'=>i≤ns.length∧Same H H'∧Nums H' ys ((mnc ns).take i)) ⟨Nat.zero_le _,Same.refl H,trivial⟩ ?_ ?_ ?_⟩
  · rintro i ys H' ⟨h1,s1,hZ⟩
    refine ⟨by rw [List.length_map];exact h1,sz ?_,SqL.of (s1 _ _ hp)⟩
    rw [hZ.length,List.length_take];omega
  · rintro i x ys H' hi ⟨h1,s1,hZ⟩
    rw [List.getElem?_map] at hi
    cases e:ns[i]? with
    | none=>rw [e] at hi;cases hi
    | some z=>
      rw [e] at hi
      obtain rfl:=Option.some.inj hi
      have hp1:=s1 _ _ hp
      have hi2:i<ns.length:=(List.getElem?_eq_some_iff.mp e).1
      rwa [hp1,al]
      refine ⟨lz.2,fun r hr=>⟨by omega,s1.trans (qaf hr _),?_⟩⟩
      have e2:(mnc ns)[i]?=some (qb7 z (co ns (ns.length - 1))):=by unfold mnc;rw [List.getElem?_map,e];rfl
      rw [List.take_add_one,e2]
      exact (hZ.tp (tpS (qaf hr _))).append (Nums.one qip)
  · rintro ys H' ⟨_,s1,hZ⟩ a ha
    have e:(mnc ns).take (ns.map V.int).length=mnc ns:=by rw [List.length_map,show ns.length=(mnc ns).length by rw [qel],List.take_length]
    rw [e] at hZ
    rwa []
    intro r hr
    have s2:=(qaf ha (HO.lst ys)).trans (qaf hr (HO.tup ys))
    exact k r ys _ (s1.trans s2) qai (hZ.tp (tpS s2))
theorem qqS {a b:List Int} (la:0<a.length) (lb:0<b.length):ps a b a.length (a.length+b.length - 1 - 1)=co a (a.length - 1)*co b (b.length - 1):=by
  obtain ⟨i,hi⟩:∃ i,a.length=i+1:=⟨a.length - 1,by omega⟩
  rw [hi]
  show ps a b i _+_=_
  rw [qij i _ (by omega),if_pos ⟨by omega,by omega⟩,show i+1+b.length - 1 - 1 - i=b.length - 1 by omega]
  show 0+co a i*co b (b.length - 1)=_
  rw [Nat.add_sub_cancel];omega
theorem qhw (h:qbk K vs H Q E):qdH K { nx:=fun _ H'=>Q .non H',rt:=Q } (L2.start ["_law_one", "_law_other", "_law_made", "_law_k", "_law_a", "_law_j", "_law_b"] vs) H:=by
  obtain ⟨p,q,ns,ms,n,m,rfl,hp,hq,la,lb,a20,b20,ba,bb,n9,m9,k⟩:=h
  have la1:=la.1
  have lb1:=lb.1
  unfold qdH
  rwa [hp,hq]
  refine ⟨sz (by decide),fun a ha=>?_⟩
  have sa:=qaf ha (HO.lst [V.int 0])
  have hpa:=sa _ _ hp
  have hqa:=sa _ _ hq
  rwa [hpa,hqa]
  rw [List.length_map,List.length_map]
  have eL:((ns.length:Int)+(ms.length:Int) - 1).toNat=ns.length+ms.length - 1:=by omega
  rw [eL,qiu]
  refine ⟨by omega,by omega,sz (by omega),fun w hw=>?_⟩
  generalize hLL:ns.length+ms.length - 1=L at hw ⊢
  have sw:=qaf hw (HO.lst (qbU L fun _=>0))
  have w0:H w=none:=by
    cases e:H w with
    | none=>rfl
    | some o=>have z:=sa _ _ e;rw [hw] at z;cases z
  refine ⟨⟨_,SqL.of (sw _ _ hpa)⟩,ForJ.enumL (xs:=ns.map V.int) (fun i σ H'=>∃ x1 x2 x3 x4:Option V,σ=[some (.ref p),some (.ref q),some (.ref w),x1,x2,x3,x4]∧Same H H'∧H' w=some (.lst (qbU L fun k=>ps ns ms i k)))
    ⟨none,none,none,none,rfl,sa.trans sw,qai⟩ ?_ ?_ ?_⟩
  · rintro i σ H' _ ⟨_,_,_,_,_,s1,_⟩
    exact SqL.of (s1 _ _ hp)
  · rintro i x pp σ H1 hi ⟨x1,x2,x3,x4,rfl,s1,hw1⟩ hpp
    rw [List.getElem?_map] at hi
    cases en:ns[i]? with
    | none=>rw [en] at hi;cases hi
    | some z=>
      rw [en] at hi
      obtain rfl:V.int z=x:=Option.some.inj hi
      have il:i<ns.length:=(List.getElem?_eq_some_iff.mp en).1
      have zd:ns.getD i 0=z:=by rw [List.getD_eq_getElem?_getD,en];rfl
      have sp:=qaf hpp (HO.tup [V.int (i:Int),V.int z])
      rwa []
      refine ⟨⟨_,SqL.of (sp _ _ (s1 _ _ hq))⟩,ForJ.enumL (xs:=ms.map V.int) (fun j σ H'=>∃ x3 x4:Option V,σ=[some (.ref p),some (.ref q),some (.ref w),some (.int (i:Int)),some (.int z),x3,x4]∧Same H H'∧H' w=some (.lst (qbU L fun k=>in2 ns ms i j k)))
          ⟨x3,x4,rfl,s1.trans sp,by rw [sp _ _ hw1];exact congrArg (fun l=>some (HO.lst l)) (qdq fun k _=>(qkK ns ms i k))⟩ ?_ ?_ ?_⟩
      · rintro j σ H' _ ⟨_,_,_,s2,_⟩
        exact SqL.of (s2 _ _ hq)
      · rintro j y pq σ H2 hj ⟨y3,y4,rfl,s2,hw2⟩ hpq
        rw [List.getElem?_map] at hj
        cases em:ms[j]? with
        | none=>rw [em] at hj;cases hj
        | some u=>
          rw [em] at hj
          obtain rfl:V.int u=y:=Option.some.inj hj
          have jl:j<ms.length:=(List.getElem?_eq_some_iff.mp em).1
          have ud:ms.getD j 0=u:=by rw [List.getD_eq_getElem?_getD,em];rfl
          have sq:=qaf hpq (HO.tup [V.int (j:Int),V.int u])
          have hw3:=sq _ _ hw2
          rwa [hw3]
          have kl:i+j<L:=by omega
          refine ⟨_,qcd (by omega) (qbs _ kl),qm8 (ba z (List.mem_of_getElem? en)) (bb u (List.mem_of_getElem? em)),_,rfl,i+j,?_,fun b o h=>Kp.upd b o (qaD h w0) (sq b o (s2 b o h)),?_⟩
          · rw [qby];exact qgZ (by omega) kl
          · refine qeq kl ?_ fun k _ hk=>?_
            · rw [qgd,if_pos rfl,zd,ud]
            · rw [qgd,if_neg hk]
      · rintro σ H2 ⟨y3,y4,rfl,s2,hw2⟩
        rw [List.length_map] at hw2
        exact ⟨_,_,_,_,rfl,s2,hw2⟩
  · rintro σ H1 ⟨x1,x2,x3,x4,rfl,s1,hw1⟩
    rwa []
    rw [List.length_map] at hw1
    have ck:∀ k,co ((List.range L).map fun k=>ps ns ms ns.length k) k=ps ns ms ns.length k:=fun k=>by
      unfold co
      rw [List.getD_eq_getElem?_getD,List.getElem?_map]
      by_cases hk:k<L
      · rw [List.getElem?_range hk];rfl
      · rw [List.getElem?_eq_none (by rw [List.length_range];omega),qij _ _ (by omega)];rfl
    have cl:((List.range L).map fun k=>ps ns ms ns.length k).length=L:=by rw [List.length_map,List.length_range]
    refine k w _ H1 s1 hw1 (by rw [cl];omega) ⟨by rw [cl];omega,?_⟩ ck
    rw [ck,cl,← hLL,qqS la1 lb1]
    exact Int.mul_ne_zero la.2 lb.2
theorem Hand.same {H H':Hp} {p a:Addr} {n:Int} (h:Hand H p a n) (s:Same H H'):Hand H' p a n:=by
  obtain ⟨ns,x,y,z,h1,h2,r⟩:=h
  exact ⟨ns,x,y,z,s _ _ h1,s _ _ h2,r⟩
theorem Hand.mono {H:Hp} {p a:Addr} {n n':Int} (h:Hand H p a n) (e:n≤n'):Hand H p a n':=by
  obtain ⟨ns,x,y,z,h1,h2,h3,h4,h5,h6,h7⟩:=h
  exact ⟨ns,x,y,z,h1,h2,h3,h4,h5,by omega,h7⟩
theorem Hand.ne {H:Hp} {p a q:Addr} {n:Int} (h:Hand H p a n) (e:H q=none):q≠p:=by
  obtain ⟨ns,x,y,z,h1,_⟩:=h
  exact fun w=>by rw [w,h1] at e;cases e
theorem Hand.ne2 {H:Hp} {p a q:Addr} {n:Int} (h:Hand H p a n) (e:H q=none):q≠a:=by
  obtain ⟨ns,x,y,z,_,h1,_⟩:=h
  exact fun w=>by rw [w,h1] at e;cases e
theorem Hand.upd {H:Hp} {p a q:Addr} {n:Int} {o:HO} (h:Hand H p a n) (e:q≠p) (e2:q≠a):Hand (upd H q o) p a n:=by
  obtain ⟨ns,x,y,z,h1,h2,r⟩:=h
  exact ⟨ns,x,y,z,by rw [qaB e.symm];exact h1,by rw [qaB e2.symm];exact h2,r⟩
theorem qqT {d:Int} (h0:0≤d) (h2:d<2):∃ s:Int,atI [V.int 1,V.int (-1)] d=some (V.int s)∧s≠0∧-1≤s∧s≤1:=by
  rcases (show d=0∨d=1 by omega) with e | e <;> subst e
  · exact ⟨1,rfl,by decide,by decide,by decide⟩
  · exact ⟨-1,rfl,by decide,by decide,by decide⟩
theorem bdN {n:Nat} {x:Int} (h:x.natAbs<2 ^ n):Bd n x:=h
theorem qnn {n m:Int} (hm:m≠0) (hn:n≠0):(qb7 n m).1≠0:=fun z=>by
  have v:=qdC (n:=n) hm
  unfold val at v
  rw [z,show ((0:Int):Rat)=0 from rfl,zdiv] at v
  have a:=qaL hm
  have b:=qaL hn
  grind
theorem qno {s d:Int} (s0:s≠0) (h1:-1≤s) (h2:s≤1):(s*d).natAbs=d.natAbs:=by
  rw [Int.natAbs_mul]
  have:s.natAbs=1:=by omega
  rw [this,Nat.one_mul]
theorem qlw (h:qb2 K vs H Q E):qgU K { nx:=fun _ H'=>Q .non H',rt:=Q } (L2.start ["_law_hand_here"] vs) H:=by
  obtain ⟨p,ad,n,rfl,hH,n9,k⟩:=h
  unfold qgU
  rwa []
  refine ⟨sz (by decide),fun q hq=>⟨ad,n,hH.same (qaf hq _),by omega,by decide,by decide,fun d H1 d0 d2 h1 k1=>?_⟩⟩
  obtain ⟨s,hs,s0,s1,s2⟩:=qqT d0 d2
  have k01:Kp p H H1:=(Kp.of_same (qaf hq _)).trans k1
  refine ⟨_,k1 _ _ (hH.ne hq) qai,_,hs,ad,n+2,h1,by omega,by decide,by decide,fun e H2 e0 e9 h2 k2=>⟨s,rfl,qrx (by omega) (by omega),ad,n+2+2,h2,by omega,by decide,by decide,fun f H3 f0 f9 h3 k3=>⟨by omega,fun r hr=>?_⟩⟩⟩
  have sr:=qaf hr (HO.tup [V.int (qb7 (s*(1+e)) (1+f)).1,V.int (qb7 (s*(1+e)) (1+f)).2])
  have f1:1+f≠0:=by omega
  have sm:=qno (d:=1+e) s0 s1 s2
  obtain ⟨b1,b2⟩:=qmD (c:=4) (d:=4) (n:=s*(1+e)) f1 (bdN (by rw [sm];show _<16;omega)) (bdN (by show _<16;omega))
  exact k r _ _ _ qai (qdB f1) (qnn f1 (Int.mul_ne_zero s0 (by omega))) b1 b2 ((h3.same sr).mono (by omega)) (((k01.trans k2).trans k3).same sr)
theorem qrF {d v S0:Int} (hS:1≤S0) (h0:0≤d) (h2:d<4) (v1:-S0≤v) (v2:v≤S0):∃ s:Int,atI [V.int 0,V.int 1,V.int (-1),V.int v] d=some (V.int s)∧-S0≤s∧s≤S0:=by
  rcases (show d=0∨d=1∨d=2∨d=3 by omega) with e | e | e | e <;> subst e
  · exact ⟨0,rfl,by omega,by omega⟩
  · exact ⟨1,rfl,by omega,by omega⟩
  · exact ⟨-1,rfl,by omega,by omega⟩
  · exact ⟨v,rfl,v1,v2⟩
theorem qju (h:qbg K vs H Q E):qeQ K { nx:=fun _ H'=>Q .non H',rt:=Q } (L2.start ["_law_hand_here", "_law_most", "_law_size", "_law_row", "_law_k"] vs) H:=by
  obtain ⟨p,ad,m,S0,n,rfl,hH,n9,m0,m7,hS,k⟩:=h
  have hS1:1≤S0:=by omega
  unfold qeQ
  rwa []
  refine ⟨sz (by decide),fun w hw=>⟨ad,n,hH.same (qaf hw _),by omega,by omega,by omega,fun d H1 d0 dm h1 k1=>⟨by omega,by omega,?_⟩⟩⟩
  have wp:w≠p:=hH.ne hw
  have wa:w≠ad:=hH.ne2 hw
  have k01:Kp p H H1:=(Kp.of_same (qaf hw _)).trans k1
  have hw1:H1 w=some (.lst []):=k1 _ _ wp qai
  refine ForR.by (fun i σ H'=>i≤d.toNat∧∃ (ns:List Int) (x:Option V),σ=[some (.ref p),some (.int m),some (.int S0),some (.ref w),x]∧H' w=some (.lst (ns.map V.int))∧ns.length=i∧(∀ z∈ns,-S0≤z∧z≤S0)∧Hand H' p ad (n+2+4*i)∧Kp p H H') ⟨Nat.zero_le _,[],none,rfl,hw1,rfl,fun z hz=>absurd hz (by simp),by simpa using h1,k01⟩ ?_ ?_
  · rintro i σ H' hi ⟨_,ns,x,rfl,hw2,ln,bn,h2,k2⟩
    rwa [hw2]
    refine ⟨qjX hw2,qry (by decide) (by decide),ad,_,h2,by omega,by omega,by omega,fun e H3 e0 e9 h3 k3=>⟨sz (by decide),fun c hc=>?_⟩⟩
    have hw3:=k3 _ _ wp hw2
    have sc:=qaf hc (HO.lst [V.int 0,V.int 1,V.int (-1),V.int (e - S0)])
    refine ⟨ad,_,h3.same sc,by omega,by decide,by decide,fun f H4 f0 f4 h4 k4=>?_⟩
    obtain ⟨s,hs,s1,s2⟩:=qrF hS1 (v:=e - S0) f0 f4 (by omega) (by omega)
    have hw4:=k4 _ _ wp (sc _ _ hw3)
    refine ⟨_,k4 _ _ (h3.ne hc) qai,_,hs,_,hw4,sz (by rw [List.length_map];omega),by omega,ns++[s],by simp,by simp;omega,fun z hz=>?_,(h4.mono (by omega)).upd wp wa,fun b o hb ho=>?_⟩
    · rcases List.mem_append.mp hz with h | h
      · exact bn z h
      · rw [List.mem_singleton.mp h];exact ⟨s1,s2⟩
    · rw [qaB (qaD ho hw)]
      exact k4 _ _ hb (sc _ _ (k3 _ _ hb (k2 _ _ hb ho)))
  · rintro σ H' ⟨_,ns,x,rfl,hw2,ln,bn,h2,k2⟩
    rwa [hw2]
    refine ⟨sz (by decide),fun c hc=>⟨ad,_,h2.same (qaf hc _),by omega,by decide,by decide,fun e H3 e0 e2 h3 k3=>?_⟩⟩
    obtain ⟨s,hs,s0,s1,s2⟩:=qqT e0 e2
    have hw3:=k3 _ _ wp (qaf hc _ _ _ hw2)
    refine ⟨_,k3 _ _ (h2.ne hc) qai,_,hs,ad,_,h3,by omega,by omega,by omega,fun f H4 f0 f9 h4 k4=>⟨s,rfl,qrx (by omega) (by omega),sz (by decide),fun g hg=>?_⟩⟩
    have hw4:=k4 _ _ wp hw3
    have sg:=qaf hg (HO.lst [V.int (s*(1+f))])
    refine ⟨_,sg _ _ hw4,sz (by rw [List.length_map];omega),fun r hr=>?_⟩
    have sr:=qaf hr (HO.lst (ns.map V.int++[V.int (s*(1+f))]))
    have sgr:=sg.trans sr
    have em:ns.map V.int++[V.int (s*(1+f))]=(ns++[s*(1+f)]).map V.int:=by simp
    have sm:=qno (d:=1+f) s0 s1 s2
    refine k r (ns++[s*(1+f)]) _ (by rw [← em];exact qai) (by rw [List.length_append];simp;omega) ⟨by simp,?_⟩ (fun z hz=>?_) ?_ ?_ ((h4.same sgr).mono (by omega)) (fun b o hb ho=>sgr _ _ (k4 _ _ hb (k3 _ _ hb (qaf hc _ _ _ (k2 _ _ hb ho)))))
    · unfold co
      rw [List.length_append,List.length_singleton,Nat.add_sub_cancel,List.getD_eq_getElem?_getD,List.getElem?_append_right (Nat.le_refl _)]
      simp
      exact ⟨s0,by omega⟩
    · rcases List.mem_append.mp hz with h | h
      · exact bn z h
      · rw [List.mem_singleton.mp h];omega
    · exact (h4.same sg).ne hr
    · exact (h4.same sg).ne2 hr
theorem qk3 (p:Nat→Int):∀ (w:List Int) (k:Nat),((cvL w p k:Int):Rat)=cvL (w.map fun z:Int=>(z:Rat)) (fun k=>(p k:Rat)) k
  | [],_=>rfl
  | x::w,0=>by rw [qao];show _=(x:Rat)*(p 0:Rat)+0;push_cast;rfl
  | x::w,k+1=>by rw [qal];show _=(x:Rat)*(p (k+1):Rat)+cvL (w.map fun z:Int=>(z:Rat)) (fun k=>(p k:Rat)) k;rw [← qk3 p w k];push_cast;rfl
theorem qqU (ns:List Int):si ns=Sr.L (ns.map fun z:Int=>(z:Rat)):=Sr.ext' fun k=>by
  show ((co ns k:Int):Rat)=cvL _ qbT k
  rw [qcJ]
  unfold co
  rw [List.getD_eq_getElem?_getD,List.getD_eq_getElem?_getD,List.getElem?_map]
  cases ns[k]? <;> rfl
theorem qbI (ns:List Int):Sr.Pol (si ns):=⟨_,qqU ns⟩
theorem qg8 {ns qs ms:List Int} (h:∀ k,co ns k=cvL qs (co ms) k):si ns=si qs*si ms:=by
  rw [qqU qs,Sr.L_mul]
  refine Sr.ext' fun k=>?_
  show ((co ns k:Int):Rat)=cvL _ (fun k=>((co ms k:Int):Rat)) k
  rw [h k,qk3]
theorem qol {ns:List Int} (h:Lz ns):si ns≠0:=fun z=>h.2 (by
  have:=congrFun (congrArg Sr.c z) (ns.length - 1)
  rw [Sr.zero_c] at this
  have this:((co ns (ns.length - 1):Int):Rat)=0:=this
  exact_mod_cast this)
theorem qom (ns:List Int):Sr.Bn (si ns) ns.length:=fun k hk=>by
  show ((co ns k:Int):Rat)=0
  rw [qaz hk];rfl
theorem qqV (ns:List Int) (k:Nat):co (dI ns) k=((k+1:Nat):Int)*co ns (k+1):=by
  by_cases h:k<ns.length - 1
  · unfold dI
    show ((List.range (ns.length - 1)).map _).getD k 0=_
    rw [List.getD_eq_getElem?_getD,List.getElem?_map,List.getElem?_range h]
    rfl
  · rw [qaz (by unfold dI;rw [List.length_map,List.length_range];omega),qaz (k:=k+1) (by omega),Int.mul_zero]
theorem qg9 (ns:List Int):(dI ns).length=ns.length - 1:=by unfold dI;rw [List.length_map,List.length_range]
theorem qsd (ns:List Int):si (dI ns)=Sr.D (si ns):=Sr.ext' fun k=>by
  show ((co (dI ns) k:Int):Rat)=((k:Rat)+1)*((co ns (k+1):Int):Rat)
  rw [qqV];push_cast;rfl
theorem qha {g:Int} (ms:List Int):si (ms.map (g*·))=Sr.num (g:Rat)*si ms:=Sr.ext' fun k=>by
  rw [Sr.num_mul]
  show ((co (ms.map (g*·)) k:Int):Rat)=(g:Rat)*((co ms k:Int):Rat)
  have e:co (ms.map (g*·)) k=g*co ms k:=by
    unfold co
    rw [List.getD_eq_getElem?_getD,List.getD_eq_getElem?_getD,List.getElem?_map]
    cases ms[k]? with
    | none=>simp
    | some z=>rfl
  rw [e];push_cast;rfl
namespace Sr
theorem num_num (x y:Rat):num x*num y=num (x*y):=ext' fun k=>by
  rw [num_mul]
  show x*(y*qbT k)=x*y*qbT k
  grind
theorem num_one:num 1=1:=congrArg num (show (1:Rat)=((1:Nat):Rat) by push_cast;rfl)
theorem num_inv {x:Rat} (h:x≠0):num x⁻¹*num x=1:=by
  rw [num_num,Rat.inv_mul_cancel _ h]
  exact num_one
theorem mul_pow {f g:Sr}:∀ n:Nat,(f*g) ^ n=f ^ n*g ^ n
  | 0=>by rw [pow_z,pow_z,pow_z];grind
  | n+1=>by rw [pow_s,pow_s,pow_s,mul_pow n];grind
theorem num_pow (x:Rat):∀ n:Nat,num x ^ n=num (x ^ n)
  | 0=>by rw [pow_z,Rat.pow_zero];exact num_one.symm
  | n+1=>by rw [pow_s,num_pow x n,num_num,Rat.pow_succ]
end Sr
theorem qjv {x:Rat} (h:x≠0):x⁻¹≠0:=fun z=>by
  have:=Rat.inv_mul_cancel _ h
  rw [z] at this
  grind
theorem RadOf.smul {F L:Sr} {x:Rat} (h:RadOf F L):RadOf (Sr.num x*F) L:=by
  obtain ⟨S,M,pS,pL,pM,e1,e2,c⟩:=h
  refine ⟨Sr.num x*S,M,(Sr.Pol.num x).mul pS,pL,pM,by rw [e1];grind,by rw [Sr.D_num,e2];grind,c⟩
theorem qpK {g f:List Int} (m:MQ (co g) (co f)):∃ B,Sr.Pol B∧si f=B*si g:=by
  obtain ⟨c,c0,A,h⟩:=m
  have c1:=qaL c0
  refine ⟨Sr.num ((c:Rat)⁻¹)*si A,(Sr.Pol.num _).mul (qbI A),?_⟩
  have e:Sr.num (c:Rat)*si f=si A*si g:=by
    rw [← qha]
    refine qg8 fun k=>?_
    rw [← h k]
    unfold co
    rw [List.getD_eq_getElem?_getD,List.getD_eq_getElem?_getD,List.getElem?_map]
    cases f[k]? with
    | none=>simp
    | some z=>rfl
  have i:=Sr.num_inv c1
  have:si f=Sr.num ((c:Rat)⁻¹)*Sr.num (c:Rat)*si f:=by rw [i];grind
  rw [this,show Sr.num ((c:Rat)⁻¹)*Sr.num (c:Rat)*si f=Sr.num ((c:Rat)⁻¹)*(Sr.num (c:Rat)*si f) by grind,e]
  grind
theorem qqW {r o g:List Int} (R:RC (co r) (co o) g) {A B:Sr} (pA:Sr.Pol A) (pB:Sr.Pol B) (h1:si r=A*si g) (h2:si o=B*si g):Sr.Cs A B:=by
  obtain ⟨d,d0,U,W,h⟩:=R.qi
  have e:Sr.num (d:Rat)*si g=si U*si r+si W*si o:=by
    rw [qqU U,qqU W,Sr.L_mul,Sr.L_mul]
    refine Sr.ext' fun k=>?_
    rw [Sr.num_mul]
    show (d:Rat)*((co g k:Int):Rat)=cvL _ (fun k=>((co r k:Int):Rat)) k+cvL _ (fun k=>((co o k:Int):Rat)) k
    rw [← qk3,← qk3]
    exact_mod_cast h k
  have e2:Sr.num (d:Rat)=si U*A+si W*B:=Sr.cancel (Sr.Pol.num _) (((qbI U).mul pA).add ((qbI W).mul pB)) (qbI g) (qol R.lz) (by rw [e,h1,h2];grind)
  exact Sr.Cs.of_unit (qaL d0) rfl (qbI U) (qbI W) e2.symm
theorem qon {ms rs qs:List Int} (R:RC (co ms) (co (dI ms)) rs) (h:∀ k,co ms k=cvL qs (co rs) k):RadOf (si ms) (si qs):=by
  obtain ⟨B,pB,eB⟩:=qpK R.right
  have e:=qg8 h
  refine ⟨si rs,B,qbI rs,qbI qs,pB,by rw [e];grind,by rw [← qsd,eB];grind,qqW R (qbI qs) pB e eB⟩
theorem qiI {ns qs ms:List Int} (ln:Lz ns) (lm:Lz ms) (hl:qs.length=ns.length+1 - ms.length) (h:∀ k,co ns k=cvL qs (co ms) k):Lz qs∧qs.length+ms.length=ns.length+1:=by
  have e:=qg8 h
  have n0:=ln.1
  have m0:=lm.1
  have q0:0<qs.length:=by
    rcases Nat.eq_zero_or_pos qs.length with z | z
    · rw [List.length_eq_zero_iff.mp z] at e
      exact absurd (by rw [e,qqU []];show Sr.L []*_=0;rw [Sr.L_nil];grind) (qol ln)
    · exact z
  refine ⟨⟨q0,fun z=>?_⟩,by omega⟩
  have b1:Sr.Bn (si qs) (qs.length - 1+1):=by rw [Nat.sub_add_cancel q0];exact qom qs
  have b2:Sr.Bn (si ms) (ms.length - 1+1):=by rw [Nat.sub_add_cancel m0];exact qom ms
  have t:=(Sr.top_mul b1 b2).1
  rw [← e,show qs.length - 1+(ms.length - 1)=ns.length - 1 by omega] at t
  have t:((co ns (ns.length - 1):Int):Rat)=((co qs (qs.length - 1):Int):Rat)*((co ms (ms.length - 1):Int):Rat):=t
  rw [z] at t
  have t2:((co ns (ns.length - 1):Int):Rat)=0:=by rw [t];push_cast;grind
  exact ln.2 (by exact_mod_cast t2)
noncomputable def DvI (ms g:List Int):Prop:=∃ A:List Int,∀ k,co ms k=cvL A (co g) k
theorem DvI.fac {ms g q a:List Int} (h:DvI ms g) (e:∀ k,co g k=cvL q (co a) k):DvI ms a∧DvI ms q:=by
  obtain ⟨A,hA⟩:=h
  refine ⟨⟨qaW A q,fun k=>?_⟩,⟨qaW A a,fun k=>?_⟩⟩
  · rw [hA k,qaq,qak e]
  · have e2:∀ k,co g k=cvL a (co q) k:=fun k=>by
      have h1:∀ (b:List Int) (k:Nat),co b k=cvL b qbT k:=fun b k=>by rw [qcJ];rfl
      rw [e k,qak (h1 a),qak (h1 q),qep]
    rw [hA k,qaq,qak e2]
theorem DvI.self (ms:List Int):DvI ms ms:=⟨[1],fun k=>by
  cases k with
  | zero=>rw [qao];grind
  | succ k=>rw [qal,qaE];grind⟩
theorem DvI.len {ms g:List Int} (h:DvI ms g) (l1:Lz ms) (l2:Lz g):g.length≤ms.length:=qg2 l2 l1 (by
  obtain ⟨A,hA⟩:=h
  exact ⟨1,by decide,A,fun k=>by rw [Int.one_mul];exact hA k⟩)
theorem DvI.bd {ms g:List Int} (h:DvI ms g) (l1:Lz ms) (bm:∀ z∈ms,Bd 40 z) (m9:ms.length≤9) (l2:Lz g):∀ z∈g,Bd 148 z:=by
  have gl:=h.len l1 l2
  obtain ⟨A,hA⟩:=h
  exact qna (qfD (n:=9) (c:=4) bm ⟨_,l1.2⟩ m9 (by omega) (by decide) hA)
theorem qnp {ns:List Int} (h:Lz ns):sr (mnc ns)=Sr.num ((co ns (ns.length - 1):Rat))⁻¹*si ns:=Sr.ext' fun k=>by
  rw [Sr.num_mul];exact qqK h k
theorem qk4 {l:List Nu} (h:qaJ l):sr l=Sr.num ((qfp l:Rat))⁻¹*si (qdA l):=Sr.ext' fun k=>by
  rw [Sr.num_mul];exact qpH h k
theorem qkj {a:List Int} (h:Lz a):Tz a:=.inr h.2
theorem qqX {ns:List Int} (h:Lz ns):Tz (dI ns):=by
  by_cases c:2≤ns.length
  · refine qkj ⟨by rw [qg9];omega,?_⟩
    rw [qg9,qqV,show ns.length - 1 - 1+1=ns.length - 1 by omega]
    exact Int.mul_ne_zero (by omega) h.2
  · have e:dI ns=[]:=List.length_eq_zero_iff.mp (by rw [qg9];omega)
    exact .inl e
theorem qqY {ns:List Int} (h:∀ z∈ns,Bd 40 z) (n9:ns.length≤9):∀ z∈dI ns,Bd 148 z:=fun z hz=>by
  unfold dI at hz
  obtain ⟨k,hk,rfl⟩:=List.mem_map.mp hz
  have hk':=List.mem_range.mp hk
  have b4:Bd 4 ((k+1:Nat):Int):=by
    show ((k+1:Nat):Int).natAbs<2 ^ 4
    omega
  exact (b4.mul (qbt h (k+1))).mono (by decide)
theorem qjw (h:qbh K vs H Q E):qeN K { nx:=fun _ H'=>Q .non H',rt:=Q } (L2.start ["row"] vs) H:=by
  obtain ⟨p,ns,b,rfl,hp,l1,bn,b9,k⟩:=h
  unfold qeN
  rwa [hp]
  rw [List.length_map]
  refine ⟨by decide,by decide,by omega,by omega,CompJ.range (fun i zs H'=>i≤ns.length - 1∧Same H H'∧zs=qbU i fun k=>((k+1:Nat):Int)*co ns (k+1)) ⟨Nat.zero_le _,Same.refl H,rfl⟩ ?_ ?_ ?_⟩
  · rintro i zs H' ⟨h1,s1,rfl⟩
    exact ⟨by omega,sz (by rw [qby];omega)⟩
  · rintro i zs H' hi ⟨h1,s1,rfl⟩
    have hp1:=s1 _ _ hp
    have g1:atI (ns.map V.int) (1+(i:Int))=some (V.int (co ns (i+1))):=by
      refine qcd (j:=i+1) (by omega) ?_
      rw [qnk]
      exact qbs _ (by omega)
    rwa [hp1,g1]
    refine ⟨qry (by omega) (by omega),by omega,s1,?_⟩
    rw [qnj i,show (1+(i:Int))=((i+1:Nat):Int) by omega]
    rfl
  · rintro zs H' ⟨_,s1,rfl⟩ a ha
    refine k a _ (s1.trans (qaf ha _)) ?_
    rw [qai,show ((ns.length:Int) - 1).toNat=ns.length - 1 by omega]
    rfl
theorem qiJ (h:qa3 K vs H Q E):qej K { nx:=fun _ H'=>Q .non H',rt:=Q } (L2.start ["row"] vs) H:=by
  obtain ⟨p,ns,rfl,hp,lz,l9,k⟩:=h
  unfold qej
  have al:=qcp lz.1
  rwa [hp,al]
  refine ⟨ns,rfl,lz.2,l9,fun r zs H1 s1 hr hz=>k r zs H1 s1 hr ?_⟩
  have e:trim (mnc ns)=mnc ns:=qmB (qnd lz)
  rw [← e]
  exact hz
theorem qhb {ns ms:List Int} {g:Int} (g0:0<g) (e:ns=ms.map (g*·)) (ln:Lz ns) (bn:∀ z∈ns,Bd 40 z):Lz ms∧(∀ z∈ms,Bd 40 z)∧ms.length=ns.length:=by
  have l:ms.length=ns.length:=by rw [e,List.length_map]
  refine ⟨⟨by have:=ln.1;omega,fun z=>ln.2 ?_⟩,fun z hz=>?_,l⟩
  · have:=congrFun (congrArg Sr.c (qha (g:=g) ms)) (ns.length - 1)
    rw [← e,Sr.num_mul] at this
    have this:((co ns (ns.length - 1):Int):Rat)=(g:Rat)*((co ms (ns.length - 1):Int):Rat):=this
    rw [← l,z] at this
    have t2:((co ns (ms.length - 1):Int):Rat)=0:=by rw [this];push_cast;grind
    rw [← l]
    exact_mod_cast t2
  · have b:=bn (g*z) (by rw [e];exact List.mem_map.mpr ⟨z,hz,rfl⟩)
    refine Bd.le b ?_
    rw [Int.natAbs_mul]
    exact Nat.le_mul_of_pos_left _ (by omega)
theorem em9 {ns ms:List Int} (h1:ns.length≤9) (h2:ms.length≤9) (h:ns=[]∨ms=[]):2*3 ^ (ns.length+ms.length)*(148+1)≤60000000:=by
  have:ns.length+ms.length≤9:=by rcases h with rfl | rfl <;> simp <;> omega
  have p:=Nat.pow_le_pow_right (show 0<3 by decide) this
  have:3 ^ 9=19683:=by decide
  omega
theorem qnq {ms rs qs:List Int} (lm:Lz ms) (bm:∀ z∈ms,Bd 40 z) (m9:ms.length≤9) (R:RC (co ms) (co (dI ms)) rs) (hl:qs.length=ms.length+1 - rs.length) (h:∀ k,co ms k=cvL qs (co rs) k):Lz qs∧qs.length+rs.length=ms.length+1∧qs.length≤9∧(∀ z∈qs,Bd 148 z)∧(∀ z∈rs,Bd 148 z)∧DvI ms qs∧DvI ms rs∧RadOf (si ms) (si qs):=by
  obtain ⟨lq,le⟩:=qiI lm R.lz hl h
  have d:=(DvI.self ms).fac h
  have r0:=R.lz.1
  exact ⟨lq,le,by omega,d.2.bd lm bm m9 lq,d.1.bd lm bm m9 R.lz,d.2,d.1,qon R h⟩
theorem qpL (qs:List Int):si (qs.map fun z=>-z)=Sr.num (-1)*si qs:=by
  have e:(qs.map fun z=>-z)=qs.map ((-1:Int)*·):=List.map_congr_left fun z _=>by omega
  rw [e,qha]
  congr 1
theorem qiK (h:qbr K vs H Q E):qei K { nx:=fun _ H'=>Q .non H',rt:=Q } (L2.start ["row", "short", "simple"] vs) H:=by
  obtain ⟨p,ns,rfl,hp,ln,bn,n9,k⟩:=h
  unfold qei
  rwa [hp]
  refine ⟨ns,rfl,by omega,qkj ln,fun t ms g H1 s1 ht g0 eg pr=>?_⟩
  obtain ⟨lm,bm,ml⟩:=qhb g0 eg ln bn
  have m9:ms.length≤9:=by omega
  have ne:ns≠[]:=List.length_pos_iff.mp ln.1
  have mne:ms≠[]:=List.length_pos_iff.mp lm.1
  have pm:Prim ms:=pr.resolve_left ne
  unfold qev
  rwa [ht]
  refine ⟨ms,rfl,by omega,40,bm,by decide,fun a H2 s2 ha=>?_⟩
  have ht2:=s2 _ _ ht
  rwa [ht2,ha]
  refine ⟨ms,rfl,dI ms,rfl,qkj lm,qqX lm,148,fun z hz=>(bm z hz).mono (by decide),qqY bm m9,9,m9,by rw [qg9];omega,by decide,by decide,4,by decide,by decide,em9 m9 (by rw [qg9];omega),fun b rs H3 s3 hb rc _=>?_⟩
  obtain ⟨R,Pr⟩:=rc (.inl mne)
  have ht3:=s3 _ _ ht2
  have dv:∃ A:List Int,∀ k,co ms k=cvL A (co rs) k:=gauss Pr R.left
  have lrs:rs.length≤9:=by have:=qg2 R.lz lm R.left;omega
  have brs:∀ z∈rs,Bd 148 z:=DvI.bd dv lm bm m9 R.lz
  rwa [ht3,hb]
  refine ⟨ms,rfl,rs,rfl,R.lz,40,bm,148,brs,by omega,by decide,by omega,by omega,fun no=>absurd dv no,fun r qs H4 s4 hr hl hq=>?_⟩
  obtain ⟨lq,le,q9,bq,_,_,_,rad⟩:=qnq lm bm m9 R hl hq
  have S4:=((s1.trans s2).trans s3).trans s4
  have al:=qcp lq.1
  have out:RadOf (si ns) (si qs):=by rw [eg,qha];exact rad.smul
  unfold qeu
  rwa [hr,al]
  refine qcy (fun c=>?_) (fun c=>?_)
  · exact k r qs H4 S4 hr lq q9 bq ⟨1,si qs,by decide,out,by rw [Sr.num_one];grind⟩
  · refine ⟨⟨_,SqL.of hr⟩,CompJ.lst (xs:=qs.map V.int) (fun i ys H'=>i≤qs.length∧Same H4 H'∧ys=((qs.map fun z=>-z).take i).map V.int) ⟨Nat.zero_le _,Same.refl H4,rfl⟩ ?_ ?_ ?_⟩
    · rintro i ys H' ⟨h1,s5,rfl⟩
      exact ⟨by rw [List.length_map];exact h1,sz (by rw [List.length_map,List.length_take];omega),SqL.of (s5 _ _ hr)⟩
    · rintro i x ys H' hi ⟨h1,s5,rfl⟩
      rw [List.getElem?_map] at hi
      cases e:qs[i]? with
      | none=>rw [e] at hi;cases hi
      | some z=>
        rw [e] at hi
        obtain rfl:=Option.some.inj hi
        have hi2:i<qs.length:=(List.getElem?_eq_some_iff.mp e).1
        rwa []
        refine ⟨by omega,s5,?_⟩
        rw [List.take_add_one,List.getElem?_map,e,List.map_append]
        rfl
    · rintro ys H' ⟨_,s5,rfl⟩ a5 ha5
      have e:(qs.map fun z=>-z).take (qs.map V.int).length=qs.map fun z=>-z:=by
        rw [List.length_map]
        exact List.take_of_length_le (by rw [List.length_map];exact Nat.le_refl _)
      rw [e]
      have cn:∀ k,co (qs.map fun z=>-z) k = - co qs k:=fun k=>by
        unfold co
        rw [List.getD_eq_getElem?_getD,List.getD_eq_getElem?_getD,List.getElem?_map]
        cases qs[k]? <;> simp
      refine k a5 (qs.map fun z=>-z) _ ((S4.trans s5).trans (qaf ha5 _)) qai ⟨by rw [List.length_map];exact lq.1,?_⟩ (by rw [List.length_map];exact q9) ?_ ⟨-1,si qs,by decide,out,qpL qs⟩
      · rw [List.length_map,cn]
        have:=lq.2
        omega
      · intro z hz
        obtain ⟨y,hy,rfl⟩:=List.mem_map.mp hz
        exact (bq y hy).neg
theorem gq_mnc' {ns:List Int} (lz:Lz ns) (bn:∀ z∈ns,Bd 148 z) (n9:ns.length≤9):Mo (mnc ns):=by
  have last:=lz.2
  refine ⟨qqN (qkg lz) (qnd lz) (M:=((co ns (ns.length - 1)).natAbs:Int)) (by omega) ?_ (N:=fun k=>if 0<co ns (ns.length - 1) then co ns k else - co ns k) (fun k=>?_) (fun k=>?_),?_,?_,by rw [qel];exact n9⟩
  · have:=qbt bn (ns.length - 1)
    show ((co ns (ns.length - 1)).natAbs:Int).natAbs<2 ^ 148
    rw [Int.natAbs_natCast];exact this
  · rw [qiE lz]
    by_cases c:0<co ns (ns.length - 1)
    · rw [if_pos c,Int.natAbs_of_nonneg (by omega)]
    · rw [if_neg c,show ((co ns (ns.length - 1)).natAbs:Int) = - co ns (ns.length - 1) by omega]
      have c1:=qaL last
      push_cast
      grind
  · split
    · exact qbt bn k
    · exact (qbt bn k).neg
  · intro z
    have z2:(mnc ns).length=0:=by rw [z];rfl
    rw [qel] at z2
    have:=lz.1
    omega
  · refine qeJ (qa2 (qkg lz) _) ⟨by decide,by decide⟩ ?_
    show pwo (mnc ns) _=_
    rw [qel,qiE lz]
    have c1:=qaL last
    unfold val
    show _=((1:Int):Rat) / ((1:Int):Rat)
    push_cast
    grind
theorem qlx (h:qb4 K vs H Q E):qgT K { nx:=fun _ H'=>Q .non H',rt:=Q } (L2.start ["P"] vs) H:=by
  obtain ⟨p,xs,l,rfl,hp,hN,G,ne,l9,k⟩:=h
  obtain ⟨cb,cB,ct⟩:=G.clr
  obtain ⟨M,O,bM,_⟩:=G.ov
  unfold qgT
  rwa [hp]
  refine ⟨l,hN,G.low,M,O,bM.mono (by decide),fun q hq=>(ct q hq).mono (by decide),by omega,fun r a H1 s1 hr ha=>?_⟩
  have lz:Lz (qdA l):=qiC (qfF G.low G.nz) (fun z=>ne (List.length_eq_zero_iff.mp (by rw [← qbu,z];rfl)))
  rwa [hr,ha]
  refine ⟨qdA l,rfl,lz,cb,by rw [qbu];exact l9,fun r2 rs H2 s2 hr2 lr r9 br rad=>?_⟩
  rwa [hr2]
  refine ⟨rs,rfl,lr,by omega,fun r3 zs H3 s3 hr3 hz=>?_⟩
  obtain ⟨c,c0,L,rad,e⟩:=rad
  refine k r3 (mnc rs) H3 ((s1.trans s2).trans s3) ⟨zs,hr3,hz⟩ (gq_mnc' lr br r9) ⟨((co rs (rs.length - 1):Rat))⁻¹*c,L,?_,?_,?_⟩
  · intro z
    rcases Rat.mul_eq_zero.mp z with z | z
    · exact qkh lr z
    · exact c0 z
  · rw [qk4 G.low];exact rad.smul
  · rw [qnp lr,e,← Sr.num_num];grind
theorem qfG (p:List Nu):∀ (ps:List (List Nu)) (i:Nat),qcf i (ps++[p])=qcf i ps*sr p ^ (i+ps.length)
  | [],i=>by show sr p ^ i*1=1*sr p ^ (i+0);rw [Nat.add_zero];grind
  | q::ps,i=>by
    show sr q ^ i*qcf (i+1) (ps++[p])=sr q ^ i*qcf (i+1) ps*sr p ^ (i+(ps.length+1))
    rw [qfG p ps (i+1),show i+1+ps.length=i+(ps.length+1) by omega]
    grind
theorem qfH (p:List Nu):∀ ps:List (List Nu),qbz (ps++[p])=qbz ps*sr p
  | []=>by show sr p*1=1*sr p;grind
  | q::ps=>by
    show sr q*qbz (ps++[p])=sr q*qbz ps*sr p
    rw [qfH p ps];grind
theorem qjx:∀ (ps:List (List Nu)) (i:Nat),Sr.Pol (qcf i ps)
  | [],_=>Sr.Pol.nat 1
  | p::ps,i=>((qg7 p).pow i).mul (qjx ps (i+1))
theorem qcY:∀ ps:List (List Nu),Sr.Pol (qbz ps)
  | []=>Sr.Pol.nat 1
  | p::ps=>(qg7 p).mul (qcY ps)
structure LInv (ms:List Int) (L0:Sr) (ps:List (List Nu)) (lf sp:List Int):Prop where
  ll:Lz lf
  ls:Lz sp
  dl:DvI ms lf
  ds:DvI ms sp
  full:∃ c:Rat,c≠0∧si ms=Sr.num c*qcf 1 ps*si lf ^ (ps.length+1)*si sp
  simp:∃ c:Rat,c≠0∧L0=Sr.num c*qbz ps*si lf
  rad:∃ (m:Nat) (a:Sr),Sr.Pol a∧si lf ^ m=a*si sp
  each:∀ p∈ps,Mo p
  last:lf.length=1→∀ p,ps.getLast?=some p→2≤p.length
  many:ps.length+lf.length+sp.length≤12
theorem num_ne' {x y:Rat} (h1:x≠0) (h2:y≠0):x*y≠0:=fun z=>by
  rcases Rat.mul_eq_zero.mp z with z | z
  · exact h1 z
  · exact h2 z
theorem qhc {x:Rat} (h:x≠0):∀ n:Nat,x ^ n≠0
  | 0=>by rw [Rat.pow_zero];decide
  | n+1=>by rw [Rat.pow_succ];exact num_ne' (qhc h n) h
theorem LInv.step {ms:List Int} {L0:Sr} {ps:List (List Nu)} {lf sp kp pt s2:List Int} (I:LInv ms L0 ps lf sp) (lm:Lz ms) (bm:∀ z∈ms,Bd 40 z) (m9:ms.length≤9) (l2:2≤lf.length) (R:RC (co lf) (co sp) kp)
    (hp:∀ k,co lf k=cvL pt (co kp) k) (pl:pt.length=lf.length+1 - kp.length) (hs:∀ k,co sp k=cvL s2 (co kp) k) (sl:s2.length=sp.length+1 - kp.length):Lz pt∧pt.length≤9∧(∀ z∈pt,Bd 148 z)∧kp.length+s2.length<lf.length+sp.length∧LInv ms L0 (ps++[mnc pt]) kp s2:=by
  obtain ⟨lp,pe⟩:=qiI I.ll R.lz pl hp
  obtain ⟨l3,se⟩:=qiI I.ls R.lz sl hs
  have dp:=I.dl.fac hp
  have dq:=I.ds.fac hs
  have p9:pt.length≤9:=by have:=dp.2.len lm lp;omega
  have bp:=dp.2.bd lm bm m9 lp
  have k0:=R.lz.1
  have e1:=qg8 hp
  have e2:=qg8 hs
  have x0:=qkh lp
  have ep:=qnp lp
  generalize ((co pt (pt.length - 1):Rat))⁻¹=x at x0 ep
  have ip:=Sr.num_inv x0
  refine ⟨lp,p9,bp,by omega,⟨R.lz,l3,dp.1,dq.2,?_,?_,?_,fun p hp'=>?_,fun k1 p hp'=>?_,by rw [List.length_append];simp;have:=I.many;omega⟩⟩
  · obtain ⟨c,c0,e⟩:=I.full
    refine ⟨c*(x ^ (1+ps.length))⁻¹,num_ne' c0 (qjv (qhc x0 _)),?_⟩
    rw [qfG,ep,Sr.mul_pow,Sr.num_pow,List.length_append,List.length_singleton,e,e1,e2,Sr.mul_pow,Nat.add_comm 1 ps.length,Sr.pow_s (si kp) (ps.length+1),← Sr.num_num]
    have iq:=Sr.num_inv (qhc x0 (ps.length+1))
    generalize Sr.num (x ^ (ps.length+1))=Y at *
    generalize Sr.num (x ^ (ps.length+1))⁻¹=Z at *
    grind
  · obtain ⟨c,c0,e⟩:=I.simp
    refine ⟨c*x⁻¹,num_ne' c0 (qjv x0),?_⟩
    rw [qfH,ep,e,e1,← Sr.num_num]
    grind
  · obtain ⟨m,a,pa,e⟩:=I.rad
    have cs:Sr.Cs (si pt) (si s2):=qqW R (qbI pt) (qbI s2) e1 e2
    obtain ⟨U,W,pU,pW,h⟩:=((Sr.Cs.pow (qbI s2) (qbI pt) cs.comm m)).comm
    refine ⟨m,U*a*si kp+W*si kp ^ m,((pU.mul pa).mul (qbI kp)).add (pW.mul ((qbI kp).pow m)),?_⟩
    rw [e1,Sr.mul_pow,e2] at e
    have:si kp ^ m=si kp ^ m*(U*si pt ^ m+W*si s2):=by rw [h];grind
    grind
  · rcases List.mem_append.mp hp' with z | z
    · exact I.each p z
    · rw [List.mem_singleton.mp z];exact gq_mnc' lp bp p9
  · rw [List.getLast?_append] at hp'
    obtain rfl:mnc pt=p:=Option.some.inj hp'
    rw [qel]
    omega
theorem qiL {a:Sr} {sp:List Int} {y:Rat} (pa:Sr.Pol a) (ls:Lz sp) (y0:y≠0) (e:Sr.num y=a*si sp):sp.length=1:=by
  have s0:=ls.1
  have a0:a≠0:=fun z=>by
    have:=congrFun (congrArg Sr.c e) 0
    rw [z,show (0:Sr)*si sp=0 by grind,Sr.zero_c] at this
    have this:y*qbT 0=0:=this
    have e1:(qbT 0:Rat)=1:=rfl
    rw [e1] at this
    exact y0 (by grind)
  obtain ⟨n,hn⟩:=pa.bn
  rcases Sr.top_ex n hn with z | ⟨j,_,j0,jb⟩
  · exact absurd z a0
  have b2:Sr.Bn (si sp) (sp.length - 1+1):=by rw [Nat.sub_add_cancel s0];exact qom sp
  have t:=(Sr.top_mul jb b2).1
  rw [← e] at t
  rcases Nat.eq_zero_or_pos (j+(sp.length - 1)) with z | z
  · omega
  · exfalso
    obtain ⟨i,hi⟩:∃ i,j+(sp.length - 1)=i+1:=⟨j+(sp.length - 1) - 1,by omega⟩
    rw [hi] at t
    have t:y*qbT (i+1)=a.c j*((co sp (sp.length - 1):Int):Rat):=t
    have e1:(qbT (i+1):Rat)=0:=rfl
    rw [e1] at t
    exact num_ne' j0 (qaL ls.2) (by rw [← t];grind)
theorem qoX {sp:List Int} (h:sp.length=1) (l:Lz sp):∃ y:Rat,y≠0∧si sp=Sr.num y:=by
  refine ⟨((co sp 0:Int):Rat),qaL (by have:=l.2;rw [h] at this;exact this),Sr.ext' fun k=>?_⟩
  show ((co sp k:Int):Rat)=((co sp 0:Int):Rat)*qbT k
  cases k with
  | zero=>show _=_*(1:Rat);grind
  | succ k=>rw [qaz (by omega)];show ((0:Int):Rat)=_*(0:Rat);push_cast;grind
theorem LInv.fin {ms:List Int} {L0:Sr} {ps:List (List Nu)} {lf sp:List Int} (I:LInv ms L0 ps lf sp) (l1:lf.length≤1):(∃ c:Rat,c≠0∧si ms=Sr.num c*qcf 1 ps)∧(∃ c:Rat,c≠0∧L0=Sr.num c*qbz ps)∧(∀ p,ps.getLast?=some p→2≤p.length):=by
  have l0:=I.ll.1
  have l1':lf.length=1:=by omega
  obtain ⟨y,y0,ey⟩:=qoX l1' I.ll
  obtain ⟨m,a,pa,e⟩:=I.rad
  rw [ey,Sr.num_pow] at e
  obtain ⟨z,z0,ez⟩:=qoX (qiL pa I.ls (qhc y0 m) e) I.ls
  refine ⟨?_,?_,I.last l1'⟩
  · obtain ⟨c,c0,e⟩:=I.full
    refine ⟨c*y ^ (ps.length+1)*z,num_ne' (num_ne' c0 (qhc y0 _)) z0,?_⟩
    rw [e,ey,ez,Sr.num_pow,← Sr.num_num,← Sr.num_num]
    grind
  · obtain ⟨c,c0,e⟩:=I.simp
    refine ⟨c*y,num_ne' c0 y0,?_⟩
    rw [e,ey,← Sr.num_num]
    grind
theorem PLs.tp {H H':Hp} (t:Tp H H'):∀ {us:List V} {ps:List (List Nu)},PLs H us ps→PLs H' us ps
  | [],[],_=>trivial
  | _::_,_::_,⟨⟨a,e,h⟩,r⟩=>⟨⟨a,e,h.tp t⟩,r.tp t⟩
theorem PLs.length {H:Hp}:∀ {us:List V} {ps:List (List Nu)},PLs H us ps→us.length=ps.length
  | [],[],_=>rfl
  | _::_,_::_,⟨_,r⟩=>congrArg (·+1) r.length
theorem PLs.snoc {H:Hp} {a:Addr} {p:List Nu} (h:Pl H a p):∀ {us:List V} {ps:List (List Nu)},PLs H us ps→PLs H (us++[.ref a]) (ps++[p])
  | [],[],_=>⟨⟨a,rfl,h⟩,trivial⟩
  | _::_,_::_,⟨x,r⟩=>⟨x,r.snoc h⟩
theorem PLs.get {H:Hp}:∀ {us:List V} {ps:List (List Nu)} {i:Nat},PLs H us ps→i<ps.length→∃ a,us[i]?=some (.ref a)∧Pl H a (ps.getD i [])
  | [],[],_,_,hi=>by simp at hi
  | _::_,p::_,0,⟨⟨a,e,h⟩,_⟩,_=>⟨a,by rw [e];rfl,h⟩
  | _::us,_::ps,i+1,⟨_,r⟩,hi=>r.get (i:=i) (by simp at hi;omega)
theorem PLs.ne {H:Hp} {us:List V} {ps:List (List Nu)} {w a:Addr} {ns:List Int} (h:PLs H us ps) (hw:H w=some (.lst us)) (ha:H a=some (.lst (ns.map V.int))) (l:Lz ns):a≠w:=fun z=>by
  subst z
  rw [hw] at ha
  injection ha with ha
  injection ha with ha
  subst ha
  cases ns with
  | nil=>exact absurd l.1 (by simp)
  | cons x ns=>
    cases ps with
    | nil=>exact h
    | cons p ps=>obtain ⟨⟨a,e,_⟩,_⟩:=h;cases e
theorem qhd (h:qa8 K vs H Q E):qdl K { nx:=fun _ H'=>Q .non H',rt:=Q } (L2.start ["P", "row", "spare", "left", "parts", "kept"] vs) H:=by
  obtain ⟨p,xs,l,rfl,hp,hN,G,ne,l9,k⟩:=h
  obtain ⟨cb,cB,ct⟩:=G.clr
  obtain ⟨M,O,bM,_⟩:=G.ov
  unfold qdl
  rwa [hp]
  refine ⟨l,hN,G.low,M,O,bM.mono (by decide),fun q hq=>(ct q hq).mono (by decide),by omega,fun r a H1 s1 hr ha=>?_⟩
  have ln:Lz (qdA l):=qiC (qfF G.low G.nz) (fun z=>ne (List.length_eq_zero_iff.mp (by rw [← qbu,z];rfl)))
  have cne:qdA l≠[]:=List.length_pos_iff.mp ln.1
  rwa [hr,ha]
  refine ⟨qdA l,rfl,by rw [qbu];omega,qkj ln,fun t ms g H2 s2 ht g0 eg pr=>?_⟩
  obtain ⟨lm,bm,ml⟩:=qhb g0 eg ln cb
  rw [qbu] at ml
  have m9:ms.length≤9:=by omega
  have mne:ms≠[]:=List.length_pos_iff.mp lm.1
  have pm:Prim ms:=pr.resolve_left cne
  have S2:=s1.trans s2
  unfold qdR
  rwa [ht]
  refine ⟨ms,rfl,by omega,40,bm,by decide,fun b H3 s3 hb=>?_⟩
  have ht3:=s3 _ _ ht
  rwa [ht3,hb]
  refine ⟨ms,rfl,dI ms,rfl,qkj lm,qqX lm,148,fun z hz=>(bm z hz).mono (by decide),qqY bm m9,9,m9,by rw [qg9];omega,by decide,by decide,4,by decide,by decide,em9 m9 (by rw [qg9];omega),fun c rs H4 s4 hc rc _=>?_⟩
  obtain ⟨R,Pr⟩:=rc (.inl mne)
  have ht4:=s4 _ _ ht3
  have dv:∃ A:List Int,∀ k,co ms k=cvL A (co rs) k:=gauss Pr R.left
  have lrs:rs.length≤9:=by have:=qg2 R.lz lm R.left;omega
  have brs:∀ z∈rs,Bd 148 z:=DvI.bd dv lm bm m9 R.lz
  unfold qdQ
  rwa [ht4,hc]
  refine ⟨ms,rfl,rs,rfl,R.lz,40,bm,148,brs,by omega,by decide,by omega,by omega,fun no=>absurd dv no,fun d qs H5 s5 hd hl hq=>?_⟩
  obtain ⟨lq,le,q9,bq,_,dq,dr,rad⟩:=qnq lm bm m9 R hl hq
  have hc5:=s5 _ _ hc
  have S5:=((S2.trans s3).trans s4).trans s5
  unfold qdP
  rwa []
  refine ⟨sz (by decide),fun w hw=>?_⟩
  have sw:=qaf hw (HO.lst [])
  have w0:H w=none:=by
    cases e:H w with
    | none=>rfl
    | some o=>have z:=S5 _ _ e;rw [hw] at z;cases z
  have I0:LInv ms (si qs) [] qs rs:=by
    refine ⟨lq,R.lz,dq,dr,⟨1,by decide,?_⟩,⟨1,by decide,?_⟩,?_,(fun _ h=>nomatch h),(fun _ _ h=>nomatch h),by simp;omega⟩
    · rw [qg8 hq,Sr.num_one]
      show _=1*1*si qs ^ (0+1)*si rs
      rw [Nat.zero_add,Sr.pow_s,Sr.pow_z];grind
    · rw [Sr.num_one]
      show _=1*1*si qs
      grind
    · obtain ⟨Sx,Mx,pS,pL,pM,e1,e2,cs⟩:=rad
      have e3:=qg8 hq
      have eS:Sx=si rs:=Sr.cancel pS (qbI rs) (qbI qs) (qol lq) (by rw [← e1,e3];grind)
      subst eS
      have e4:=Sr.D_mul (qbI rs) (si qs)
      rw [← e1,e2] at e4
      exact Sr.rad_pow rs.length (si rs) (si qs) (Mx - Sr.D (si qs)) (qom rs) (qol R.lz) (qbI qs) (pM.sub (qbI qs).D) (by grind)
  unfold qdO
  rwa []
  refine while_by (fun m σ H'=>∃ (lf sp:List Int) (al as:Addr) (x5:Option V) (us:List V) (ps:List (List Nu)),σ=[some (.ref p),some (.ref t),some (.ref as),some (.ref al),some (.ref w),x5]∧Same H H'∧H' w=some (.lst us)∧PLs H' us ps∧H' al=some (.lst (lf.map V.int))∧H' as=some (.lst (sp.map V.int))∧LInv ms (si qs) ps lf sp∧m=lf.length+sp.length) _ ⟨qs,rs,d,c,none,[],[],rfl,S5.trans sw,qai,trivial,sw _ _ hd,sw _ _ hc5,I0,rfl⟩ ?_
  rintro m σ H' ⟨lf,sp,al,as,x5,us,ps,rfl,S6,hw6,P6,hl6,hs6,I,em⟩
  have lle:=I.dl.len lm I.ll
  have lse:=I.ds.len lm I.ls
  rwa [hl6]
  rw [List.length_map]
  refine qcy (fun cc=>?_) (fun cc=>?_)
  · refine ⟨fun σ' H''=>∃ m',m'<m∧_,fun _ _ h=>h,?_⟩
    unfold qcW
    rwa [hl6,hs6]
    have lne:lf≠[]:=List.length_pos_iff.mp I.ll.1
    refine ⟨lf,rfl,sp,rfl,qkj I.ll,qkj I.ls,148,I.dl.bd lm bm m9 I.ll,I.ds.bd lm bm m9 I.ls,9,by omega,by omega,by decide,by decide,4,by decide,by decide,em9 (by omega) (by omega),fun kp kr H7 s7 hk rc _=>?_⟩
    obtain ⟨R7,P7⟩:=rc (.inl lne)
    have hl7:=s7 _ _ hl6
    have hs7:=s7 _ _ hs6
    have hw7:=s7 _ _ hw6
    have dk:DvI ms kr:=(I.dl.fac (gauss P7 R7.left).choose_spec).1
    have bk:=dk.bd lm bm m9 R7.lz
    have lk:=dk.len lm R7.lz
    have bl:=I.dl.bd lm bm m9 I.ll
    unfold qcV
    rwa [hl7,hk]
    refine ⟨qjX hw7,lf,rfl,kr,rfl,R7.lz,148,bl,148,bk,by omega,by decide,by omega,by omega,fun no=>absurd (gauss P7 R7.left) no,fun ap pt H8 s8 hpt ptl hptq=>?_⟩
    obtain ⟨lpt,pte⟩:=qiI I.ll R7.lz ptl hptq
    have kr0:=R7.lz.1
    refine ⟨pt,hpt,lpt,by omega,fun r9 zs H9 s9 h9 n9=>?_⟩
    have s79:=s8.trans s9
    have hw9:=s79 _ _ hw7
    have P9:PLs H9 us ps:=P6.tp (tpS (s7.trans s79))
    have wk:=(P6.tp (tpS s7)).ne hw7 hk R7.lz
    have wa:=(P6.tp (tpS s7)).ne hw7 hs7 I.ls
    refine ⟨us,hw9,Nat.lt_of_le_of_lt (show _≤1000 by rw [P6.length];have:=I.many;omega) (by rw [sizeLine_eq];omega),?_⟩
    have tp10:Tp H9 (upd H9 w (HO.lst (us++[V.ref r9]))):=Kp.tp Kp.upd hw9
    have hk10:upd H9 w (HO.lst (us++[V.ref r9])) kp=some (HO.lst (kr.map V.int)):=(qaB wk).trans (s79 _ _ hk)
    have hs10:upd H9 w (HO.lst (us++[V.ref r9])) as=some (HO.lst (sp.map V.int)):=(qaB wa).trans (s79 _ _ hs7)
    have hw10:upd H9 w (HO.lst (us++[V.ref r9])) w=some (HO.lst (us++[V.ref r9])):=qai
    have P10:PLs (upd H9 w (HO.lst (us++[V.ref r9]))) (us++[V.ref r9]) (ps++[mnc pt]):=(P9.tp tp10).snoc ⟨zs,tp10 _ _ h9,n9.tp tp10⟩
    have S10:Same H (upd H9 w (HO.lst (us++[V.ref r9]))):=fun b o h=>by rw [qaB (qaD h w0)];exact ((S6.trans s7).trans s79) b o h
    generalize upd H9 w (HO.lst (us++[V.ref r9]))=H10 at tp10 hk10 hs10 hw10 P10 S10 ⊢
    unfold qcU qcT
    rwa [hs10,hk10]
    refine ⟨sp,rfl,kr,rfl,R7.lz,148,I.ds.bd lm bm m9 I.ls,148,bk,by omega,by decide,by omega,by omega,fun no=>absurd (gauss P7 R7.right) no,fun a2 s2 H11 s11 h2 sl hsq=>?_⟩
    obtain ⟨_,_,_,dec,I2⟩:=I.step lm bm m9 (by omega) R7 hptq ptl hsq sl
    exact ⟨kr.length+s2.length,by omega,S10.trans s11,kr,s2,us++[V.ref r9],s11 _ _ hw10,ps++[mnc pt],P10.tp (tpS s11),s11 _ _ hk10,h2,I2,rfl⟩
  · unfold qdN
    rwa []
    obtain ⟨⟨c1,c10,f1⟩,⟨c2,c20,f2⟩,f3⟩:=I.fin (by omega)
    have gq:=qaL (Int.ne_of_gt g0)
    have bq:=qjv (qaL (Int.ne_of_gt (qeK G.low).1))
    have el:sr l=Sr.num ((qfp l:Rat)⁻¹*(g:Rat))*si ms:=by
      rw [qk4 G.low,eg,qha,← Sr.num_num];grind
    refine k w us ps H' S6 hw6 P6 ⟨⟨(qfp l:Rat)⁻¹*(g:Rat)*c1,num_ne' (num_ne' bq gq) c10,?_⟩,⟨c2,si qs,c20,?_,f2⟩,I.each,f3,fun z=>?_,by have:=I.many;omega⟩
    · rw [el,f1,← Sr.num_num ((qfp l:Rat)⁻¹*(g:Rat)) c1];grind
    · rw [el];exact rad.smul
    · subst z
      have f1:si ms=Sr.num c1*1:=f1
      have:=qiL (a:=1) (Sr.Pol.nat 1) lm c10 (by rw [f1];grind)
      omega
theorem bdc {n:Nat} {x:Int} (h:x.natAbs<2 ^ n):Bd n x:=h
theorem qqZ:Low 1 1:=⟨by decide,by decide⟩
theorem qoo {l:List Nu} {M:Int} {b c:Nat} (hl:qaJ l) (O:Ov l M) (bM:Bd c M) (hb:∀ z∈ovN l M,Bd b z) (i:Nat):Bd (b+1) (qbe l i).1∧Bd (c+1) (qbe l i).2:=by
  unfold qbe
  rw [List.getD_eq_getElem?_getD]
  cases e:l[i]? with
  | none=>exact ⟨qbP _,(bdc (n:=1) (by decide)).mono (by omega)⟩
  | some q=>
    have m:=List.mem_of_getElem? e
    exact ⟨(qkU hl O hb q m).mono (by omega),(qdp (Int.ne_of_gt O.1) (O.2 q m) bM).mono (by omega)⟩
theorem qnr {l:List Nu} {b c:Nat} (G:Gq b c l) (l31:l.length≤31) :
    Gq (b+5) c ((List.range (l.length - 1)).map fun i=>nmul (qbe l (i+1)) ((i:Int)+1,1))∧∀ k,pwo ((List.range (l.length - 1)).map fun i=>nmul (qbe l (i+1)) ((i:Int)+1,1)) k=dv (pwo l) k:=by
  have low:qaJ ((List.range (l.length - 1)).map fun i=>nmul (qbe l (i+1)) ((i:Int)+1,1)):=fun q hq=>by
    obtain ⟨i,_,rfl⟩:=List.mem_map.mp hq
    exact qdz (qa2 G.low _).pos (show (0:Int)<1 by decide)
  have vi:∀ i:Nat,val ((i:Int)+1,(1:Int))=(i:Rat)+1:=fun i=>by
    unfold val
    show (((i:Int)+1:Int):Rat) / ((1:Int):Rat)=_
    rw [show ((1:Int):Rat)=1 from rfl];push_cast;grind
  have pv:∀ k,pwo ((List.range (l.length - 1)).map fun i=>nmul (qbe l (i+1)) ((i:Int)+1,1)) k=dv (pwo l) k:=fun k=>by
    unfold dv
    rcases Nat.lt_or_ge k (l.length - 1) with h | h
    · have e:qbe ((List.range (l.length - 1)).map fun i=>nmul (qbe l (i+1)) ((i:Int)+1,1)) k=nmul (qbe l (k+1)) ((k:Int)+1,1):=by
        unfold qbe
        rw [List.getD_eq_getElem?_getD,List.getElem?_map,List.getElem?_range h];rfl
      unfold pwo
      rw [e,qge (qa2 G.low _).pos (show (0:Int)<1 by decide),vi];grind
    · rw [qc2 (by rw [List.length_map,List.length_range];exact h),qc2 (l:=l) (by omega)];grind
  obtain ⟨M,O,bM,hb⟩:=G.ov
  refine ⟨qqN low ?_ O.1 bM (N:=fun k=>if k<31 then ((k+1:Nat):Int)*(ovN l M).getD (k+1) 0 else 0) (fun k=>?_) fun k=>?_,pv⟩
  · intro q hq
    rw [List.getLast?_eq_getElem?,List.length_map,List.length_range] at hq
    rcases Nat.eq_zero_or_pos (l.length - 1) with h | h
    · rw [List.getElem?_eq_none (by rw [List.length_map,List.length_range];omega)] at hq;cases hq
    · rw [qdr _ (by omega)] at hq
      obtain rfl:=Option.some.inj hq
      intro z
      have z1:=qge (q:=qbe l (l.length - 1 - 1+1)) (r:=(((l.length - 1 - 1:Nat):Int)+1,1)) (qa2 G.low _).pos (show (0:Int)<1 by decide)
      rw [vi] at z1
      have z0:val (nmul (qbe l (l.length - 1 - 1+1)) (((l.length - 1 - 1:Nat):Int)+1,1))=0:=by
        unfold val
        rw [z]
        show ((0:Int):Rat) / _=0
        rw [show ((0:Int):Rat)=0 from rfl];grind
      rw [z0,show l.length - 1 - 1+1=l.length - 1 by omega] at z1
      have ne:=qgk G.low G.nz (fun e=>by rw [e] at h;simp at h)
      have n2:((l.length - 1 - 1:Nat):Rat)+1≠0:=fun q=>by
        have e:((l.length - 1 - 1:Nat):Rat)+1=((l.length - 1 - 1+1:Nat):Rat):=by push_cast;rfl
        rw [e] at q
        have:l.length - 1 - 1+1=0:=by exact_mod_cast q
        omega
      rcases Rat.mul_eq_zero.mp z1.symm with q | q
      · exact ne q
      · exact n2 q
  · rw [pv,dv]
    by_cases h:k<31
    · rw [if_pos h,qik G.low O];push_cast;grind
    · rw [if_neg h,qc2 (l:=l) (by omega)]
      show _=((0:Int):Rat) / _
      rw [show ((0:Int):Rat)=0 from rfl];grind
  · by_cases h:k<31
    · rw [if_pos h]
      have:Bd 5 ((k+1:Nat):Int):=by unfold Bd;rw [Int.natAbs_natCast];omega
      exact (this.mul (qdh hb (k+1))).mono (by omega)
    · rw [if_neg h];exact qbP _
theorem qly (h:qb1 K vs H Q E):qgS K { nx:=fun _ H'=>Q .non H',rt:=Q } (L2.start ["P"] vs) H:=by
  obtain ⟨p,xs,l,b,c,rfl,hp,hN,G,l31,b9,c9,k⟩:=h
  unfold qgS
  rwa [hp]
  have lx:=hN.length
  obtain ⟨M,O,bM,hb⟩:=G.ov
  refine ⟨by decide,by decide,by omega,by omega,CompJ.range (fun i zs H'=>i≤l.length - 1∧Same H H'∧Nums H' zs ((List.range i).map fun i=>nmul (qbe l (i+1)) ((i:Int)+1,1))) ⟨Nat.zero_le _,Same.refl H,trivial⟩ ?_ ?_ ?_⟩
  · rintro i zs H' ⟨h1,s1,hZ⟩
    exact ⟨by omega,sz (by rw [hZ.length,List.length_map,List.length_range];omega)⟩
  · rintro i zs H' hi ⟨h1,s1,hZ⟩
    have hp1:=s1 _ _ hp
    have hi':i+1<l.length:=by omega
    obtain ⟨v,hv,hn⟩:=hN.at (i:=i+1) (by omega) (0,1)
    obtain ⟨pv,rfl,hpv⟩:=hn.tp (tpS s1)
    have g1:atI xs (1+(i:Int))=some (V.ref pv):=qcd (j:=i+1) (by omega) hv
    rwa [hp1,g1]
    refine ⟨sz (by decide),fun w hw=>?_⟩
    have sw:=qaf hw (HO.tup [V.int (1+(i:Int)),V.int 1])
    have b1:=qoo G.low O bM hb (i+1)
    have e1:(1+(i:Int))=(i:Int)+1:=by omega
    have b5:Bd 5 (1+(i:Int)):=by unfold Bd;omega
    refine ⟨_,_,sw _ _ hpv,(qa2 G.low _).pos,by decide,b1.1.mono (by omega),b1.2.mono (by omega),b5.mono (by decide),(bdc (n:=1) (by decide)).mono (by decide),fun r hr=>⟨by omega,(s1.trans sw).trans (qaf hr _),?_⟩⟩
    rw [qhs]
    refine (hZ.tp (tpS (sw.trans (qaf hr _)))).append (Nums.one ?_)
    rw [← e1]
    exact qip (q:=nmul (qbe l (i+1)) (1+(i:Int),1))
  · rintro zs H' ⟨_,s1,hZ⟩ a ha
    rwa []
    have s2:=qaf ha (HO.lst zs)
    obtain ⟨o1,o2⟩:=qnr G l31
    have el:((xs.length:Int) - 1).toNat=l.length - 1:=by omega
    rw [el] at hZ
    intro r hr
    have s3:=qaf hr (HO.tup zs)
    exact k r _ _ ((s1.trans s2).trans s3) ⟨zs,qai,hZ.tp (tpS (s2.trans s3))⟩ o1 (by rw [List.length_map,List.length_range]) o2
theorem qq0 {H:Hp} {xs:List V} {l:List Nu} (hN:Nums H xs l) (h:l≠[]):∃ v:Addr,atI xs (-1)=some (.ref v)∧Nm H v (qbe l (l.length - 1)).1 (qbe l (l.length - 1)).2:=by
  have h0:0<l.length:=List.length_pos_iff.mpr h
  obtain ⟨v,h1,p,rfl,h2⟩:=hN.at (show l.length - 1<l.length by omega) (0,1)
  exact ⟨p,atI_last (by rw [hN.length];omega) (by rw [hN.length];exact h1),h2⟩
theorem neN {H:Hp} {p q:Addr} {a b:Nu} {Q:VK} (hp:isN H (.ref p) a) (hq:isN H (.ref q) b) (c:Bool) (hc:c=true↔a=b) (h:Q (.bl (!c)) H):neD (.ref p) (.ref q) H Q:=
  ⟨_,_,c,qrr hp,qrr hq,rfl,rfl,⟨fun z=>by rw [hc.mp z],fun z=>hc.mpr (qk1 z)⟩,h⟩
theorem qq1 {B:List Nu} (lB:qaJ B) (h:pwo B (B.length - 1)=1):qbe B (B.length - 1)=(1,1):=by
  refine qeJ (qa2 lB _) qqZ ?_
  have:val ((1:Int),(1:Int))=1:=by unfold val;show ((1:Int):Rat) / ((1:Int):Rat)=1;rw [show ((1:Int):Rat)=1 from rfl];grind
  rw [this];exact h
theorem qoY {B:List Nu} (h:qbe B (B.length - 1)=(1,1)):pwo B (B.length - 1)=1:=by
  unfold pwo
  rw [h]
  unfold val;show ((1:Int):Rat) / ((1:Int):Rat)=1;rw [show ((1:Int):Rat)=1 from rfl];grind
theorem qpM {g:List Int} (lg:Lz g) (h:g.length=1):mnc g=[(1,1)]:=by
  have e:=qiF lg
  match g,h with
  | [z],_=>exact congrArg (fun q=>[q]) e
theorem qpN {ns:List Int} {t d:Int} (lz:Lz ns) (bn:∀ z∈ns,Bd 36 z) (l:Low t d) (t0:t≠0) (bt:Bd 4 t) (bd:Bd 4 d):Gq 40 40 (ns.map fun n=>qb7 (n*t) d):=by
  have d0:d≠0:=Int.ne_of_gt l.pos
  have e:(ns.map fun n=>qb7 (n*t) d)=(ns.map (·*t)).map fun n=>qb7 n d:=by rw [List.map_map];rfl
  have b:∀ z∈ns.map (·*t),Bd 40 z:=fun z hz=>by obtain ⟨y,hy,rfl⟩:=List.mem_map.mp hz;exact (bn y hy).mul bt
  have r:=qqL d0 b
  rw [← e] at r
  refine ⟨fun q hq=>?_,fun q hq=>?_,_,r.1,(bd.le (by omega)).mono (by decide),r.2⟩
  · obtain ⟨z,_,rfl⟩:=List.mem_map.mp hq;exact qdB d0
  · rw [List.getLast?_map] at hq
    have l0:=lz.1
    have hl:ns.getLast?=some (co ns (ns.length - 1)):=by
      rw [List.getLast?_eq_getElem?]
      unfold co
      rw [List.getD_eq_getElem?_getD,List.getElem?_eq_getElem (by omega)];rfl
    rw [hl] at hq
    obtain rfl:=Option.some.inj hq
    exact qnn d0 (Int.mul_ne_zero lz.2 t0)
theorem qns {l m:List Nu} {g:List Int} (hl:qaJ l) (hm:qaJ m) (c:Sr.Cs (sr l) (sr m)) (R:RC (co (qdA l)) (co (qdA m)) g):mnc g=[(1,1)]:=by
  obtain ⟨A,pA,e1⟩:=qpK R.left
  obtain ⟨B,pB,e2⟩:=qpK R.right
  obtain ⟨U,W,pU,pW,h⟩:=c
  refine qpM R.lz (qiL (a:=U*(Sr.num ((qfp l:Rat))⁻¹*A)+W*(Sr.num ((qfp m:Rat))⁻¹*B)) ((pU.mul ((Sr.Pol.num _).mul pA)).add (pW.mul ((Sr.Pol.num _).mul pB))) R.lz (y:=1) (by decide) ?_)
  rw [qk4 hl,qk4 hm,e1,e2] at h
  rw [Sr.num_one,← h]
  grind
theorem em9' {l m:List Nu} (h1:l.length≤9) (h2:m.length≤9) (h:l=[]∨m=[]):2*3 ^ (l.length+m.length)*(153+1)≤60000000:=by
  have:l.length+m.length≤9:=by rcases h with rfl | rfl <;> simp <;> omega
  have p:=Nat.pow_le_pow_right (show 0<3 by decide) this
  have:3 ^ 9=19683:=by decide
  omega
theorem qlz (h:qb5 K vs H Q E):qgX K { nx:=fun _ H'=>Q .non H',rt:=Q } (L2.start ["_law_parts", "_law_k", "_law_j"] vs) H:=by
  obtain ⟨p,us,ps,rfl,hp,hP,each,p12,cd,cc,k⟩:=h
  have ul:=hP.length
  unfold qgX
  rwa [hp]
  refine ⟨by omega,by omega,ForR.by (fun i σ H'=>∃ x1 x2:Option V,σ=[some (.ref p),x1,x2]∧Same H H') ⟨none,none,rfl,Same.refl H⟩ ?_ ?_⟩
  · rintro i σ H1 hi ⟨x1,x2,rfl,s1⟩
    have hi':i<ps.length:=by omega
    have hp1:=s1 _ _ hp
    obtain ⟨a,ha,zs,hza,hzn⟩:=(hP.tp (tpS s1)).get hi'
    have hm:ps.getD i []∈ps:=by
      rw [List.getD_eq_getElem?_getD,List.getElem?_eq_getElem hi']
      exact List.getElem_mem hi'
    have M:=each _ hm
    have cD:=cd _ hm
    have g1:atI us (0+(i:Int))=some (V.ref a):=qcd (j:=i) (by omega) ha
    generalize hP1:ps.getD i []=P at *
    obtain ⟨e1,ge,me⟩:=qq0 hzn M.ne
    rw [M.one] at me
    unfold Nm at me
    unfold qex
    rwa [hp1,g1,hza,ge]
    refine ⟨sz (by decide),fun w hw=>?_⟩
    have sw:=qaf hw (HO.tup [V.int 1,V.int 1])
    refine neN (a:=(1,1)) (b:=(1,1)) ⟨e1,rfl,sw _ _ me⟩ ⟨w,rfl,qai⟩ true (by simp) ⟨_,rfl,qcy (fun z=>by cases z) (fun _=>?_)⟩
    have hp2:=sw _ _ hp1
    have hz2:=sw _ _ hza
    have n2:=hzn.tp (tpS sw)
    have s2:=s1.trans sw
    generalize upd H1 w (HO.tup [V.int 1,V.int 1])=H2 at hp2 hz2 n2 s2 ⊢
    have fin:∀ (r:Addr) (zs:List V) (H:Hp) (Q':VK),H r=some (.tup zs)→Nums H zs [(1,1)]→(∀ H',Same H H'→Q' (.bl false) H')→2≤sizeLine∧∀ c,H c=none→1≤sizeLine∧∀ d,upd H c (HO.tup [V.int 1,V.int 1]) d=none→neD (.ref r) (.ref d) (upd (upd H c (HO.tup [V.int 1,V.int 1])) d (HO.tup [V.ref c])) Q':=fun r zs H Q' hr hz hk=>⟨sz (by decide),fun c hc=>⟨sz (by decide),fun d hd=>by
      have t1:=qaf hc (HO.tup [V.int 1,V.int 1])
      have t2:=qaf hd (HO.tup [V.ref c])
      have t12:=t1.trans t2
      exact neP (m:=[(1,1)]) (t12 _ _ hr) (hz.tp (tpS t12)) qai (Nums.one ⟨c,rfl,t2 _ _ qai⟩) true (by simp) (hk _ t12)⟩⟩
    refine ⟨_,hp2,_,g1,_,hp2,_,g1,a,rfl,_,hz2,P,n2,148,148,M.gq,by have:=M.le;omega,by decide,by decide,fun r R H3 s3 ⟨rs,hr,nr⟩ gR lR eR=>⟨a,rfl,zs,s3 _ _ hz2,rs,hr,P,n2.tp (tpS s3),R,nr,153,148,M.gq.mono (by decide) (by decide),gR,9,M.le,by have:=M.le;omega,by decide,by decide,4,by decide,by decide,by decide,em9' M.le (by have:=M.le;omega),fun z=>absurd z M.ne,fun _ g R4 Pg r4 zs4 H4 s4 h4 n4=>?_⟩⟩
    have eD:sr R=Sr.D (sr P):=qsb eR
    rw [qns M.gq.low gR.low (by rw [eD];exact cD) R4] at n4
    refine fin r4 zs4 H4 _ h4 n4 fun H5 s5=>⟨_,rfl,qcy (fun z=>by cases z) (fun _=>?_)⟩
    have s25:=(s3.trans s4).trans s5
    have S5:=s2.trans s25
    unfold qew
    rwa []
    refine ⟨by omega,by omega,ForR.by (fun j σ H'=>∃ x2:Option V,σ=[some (.ref p),some (.int (0+(i:Int))),x2]∧Same H H') ⟨x2,rfl,S5⟩ ?_ ?_⟩
    · rintro j σ H6 hj ⟨x3,rfl,s6⟩
      have hj':j<i:=by omega
      have hp6:=s6 _ _ hp
      obtain ⟨a6,ha6,za6,hza6,hzn6⟩:=(hP.tp (tpS s6)).get hi'
      obtain ⟨b6,hb6,zb6,hzb6,hzm6⟩:=(hP.tp (tpS s6)).get (show j<ps.length by omega)
      have hmj:ps.getD j []∈ps:=by
        rw [List.getD_eq_getElem?_getD,List.getElem?_eq_getElem (show j<ps.length by omega)]
        exact List.getElem_mem _
      have Mj:=each _ hmj
      have cs:=cc i j hj' hi'
      have g6:atI us (0+(i:Int))=some (V.ref a6):=qcd (j:=i) (by omega) ha6
      have g7:atI us (0+(j:Int))=some (V.ref b6):=qcd (j:=j) (by omega) hb6
      rw [hP1] at hzn6 cs
      generalize ps.getD j []=Pj at *
      rwa [hp6,g6,g7,hza6,hzb6]
      refine ⟨P,hzn6,Pj,hzm6,153,148,M.gq.mono (by decide) (by decide),Mj.gq.mono (by decide) (by decide),9,M.le,Mj.le,by decide,by decide,4,by decide,by decide,by decide,em9' M.le Mj.le,fun z=>absurd z M.ne,fun _ g R7 Pg r7 zs7 H7 s7 h7 n7=>?_⟩
      rw [qns M.gq.low Mj.gq.low cs R7] at n7
      refine fin r7 zs7 H7 _ h7 n7 fun H8 s8=>⟨_,rfl,qcy (fun z=>by cases z) (fun _=>?_)⟩
      exact (s6.trans s7).trans s8
    · rintro σ H6 ⟨x3,rfl,s6⟩
      exact ⟨_,_,rfl,s6⟩
  · rintro σ H1 ⟨x1,x2,rfl,s1⟩
    unfold qgW
    rwa []
    exact k H1 s1
theorem qpO {l m:List Nu} {M1 M2:Int} {b c:Nat} (O1:Ov l M1) (O2:Ov m M2) (b1:∀ z∈ovN l M1,Bd b z) (b2:∀ z∈ovN m M2,Bd c z) :
    Ov (trim (qlp l m M1 M2 (l.length+m.length))) (M1*M2)∧∀ z∈ovN (trim (qlp l m M1 M2 (l.length+m.length))) (M1*M2),Bd (b+c+l.length) z:=by
  have BP:=Int.mul_pos O1.1 O2.1
  have el:∀ q∈qlp l m M1 M2 (l.length+m.length),q.2∣M1*M2∧Bd (b+c+l.length) (q.1*((M1*M2) / q.2)):=fun q hq=>by
    obtain ⟨i,_,rfl⟩:=List.mem_map.mp hq
    obtain ⟨d1,d2⟩:=qiG (qbC (n:=ps (ovN l M1) (ovN m M2) l.length i) BP) (qet BP)
    exact ⟨d1,by rw [d2];exact qnZ b1 b2 l.length i⟩
  refine qpI ⟨BP,fun q hq=>(el q hq).1⟩ fun z hz=>?_
  obtain ⟨q,hq,rfl⟩:=List.mem_map.mp hz
  exact (el q hq).2
theorem qrG (l:List Nu):Sr.Bn (sr l) l.length:=fun k hk=>qc2 hk
structure Mon (b:Nat) (R:List Nu):Prop where
  gq:Gq b b R
  ne:R≠[]
  one:qbe R (R.length - 1)=(1,1)
theorem Mon.mono {b c:Nat} {R:List Nu} (h:Mon b R) (e:b≤c):Mon c R:=⟨h.gq.mono e e,h.ne,h.one⟩
theorem Mo.mon {p:List Nu} (h:Mo p):Mon 148 p:=⟨h.gq,h.ne,h.one⟩
theorem Mon.top {b:Nat} {R:List Nu} (h:Mon b R):(sr R).c (R.length - 1)=1∧Sr.Bn (sr R) (R.length - 1+1):=by
  have:=List.length_pos_iff.mpr h.ne
  exact ⟨qoY h.one,by rw [Nat.sub_add_cancel this];exact qrG R⟩
theorem qfm {R:List Nu} {Y:Sr} {n:Nat} (lR:qaJ R) (nR:Nz R) (e:sr R=Y) (y0:Y.c n≠0) (yb:Sr.Bn Y (n+1)):R≠[]∧R.length=n+1∧pwo R (R.length - 1)=Y.c n:=by
  have hn:pwo R n=Y.c n:=congrFun (congrArg Sr.c e) n
  have h1:n<R.length:=by
    rcases Nat.lt_or_ge n R.length with h | h
    · exact h
    · exact absurd (hn.symm.trans (qc2 h)) y0
  have ne:R≠[]:=fun z=>by rw [z] at h1;simp at h1
  have hl:R.length=n+1:=by
    rcases Nat.lt_or_ge (n+1) R.length with h | h
    · have z:=qgk lR nR ne
      exact absurd ((congrFun (congrArg Sr.c e) (R.length - 1)).trans (yb _ (by omega))) z
    · omega
  exact ⟨ne,hl,by rw [hl];exact hn⟩
theorem qnt {b d:Nat} {l m:List Nu} {M1 M2:Int} (hl:Mon b l) (hm:Mon d m) (O1:Ov l M1) (O2:Ov m M2) (c1:Bd b M1) (c2:Bd d M2) (b1:∀ z∈ovN l M1,Bd b z) (b2:∀ z∈ovN m M2,Bd d z) :
    Mon (b+d+l.length) (trim (qlp l m M1 M2 (l.length+m.length)))∧sr (trim (qlp l m M1 M2 (l.length+m.length)))=sr l*sr m:=by
  have low:=qn3 (n:=l.length+m.length) O1 O2
  have e:sr (trim (qlp l m M1 M2 (l.length+m.length)))=sr l*sr m:=by
    refine qqQ fun k=>?_
    rw [← qqz hl.gq.low hm.gq.low O1 O2 k]
    unfold pwo
    rw [qmE low]
  have po:=qpO O1 O2 b1 b2
  have tl:qaJ (trim (qlp l m M1 M2 (l.length+m.length))):=fun q hq=>low q (qih hq)
  have tm:=Sr.top_mul hl.top.2 hm.top.2
  rw [hl.top.1,hm.top.1,show (1:Rat)*1=1 by grind] at tm
  obtain ⟨ne,len,last⟩:=qfm tl (qmC _) e (by rw [tm.1];decide) tm.2
  refine ⟨⟨⟨tl,qmC _,_,po.1,(c1.mul c2).mono (by omega),po.2⟩,ne,qq1 tl ?_⟩,e⟩
  rw [last,tm.1]
theorem qk5 {b c:Nat} {p q:List Nu} {x:Rat} (hp:Mon b p) (hq:Mon c q) (x0:x≠0) (e:sr p=Sr.num x*sr q):p=q:=by
  have t:(Sr.num x*sr q).c (q.length - 1)=x:=by rw [Sr.num_mul,hq.top.1];grind
  have yb:Sr.Bn (Sr.num x*sr q) (q.length - 1+1):=fun k hk=>by rw [Sr.num_mul,hq.top.2 k hk];grind
  obtain ⟨_,len,last⟩:=qfm hp.gq.low hp.gq.nz e (by rw [t];exact x0) yb
  have x1:x=1:=by rw [← t,← last,qoY hp.one]
  rw [x1,Sr.num_one] at e
  exact qqR hp.gq.low hq.gq.low hp.gq.nz hq.gq.nz (by rw [e];grind)
theorem qiM {l R:List Nu} {Y:Sr} {b:Nat} (hl:qaJ l) (nl:Nz l) (l0:l≠[]) (hR:Mon b R) (pY:Sr.Pol Y) (e:sr l=sr R*Y):R.length≤l.length:=by
  have y0:Y≠0:=fun z=>qpJ hl nl l0 (by rw [e,z];grind)
  obtain ⟨n,hn⟩:=pY.bn
  rcases Sr.top_ex n hn with z | ⟨j,_,j0,jb⟩
  · exact absurd z y0
  have tm:=Sr.top_mul hR.top.2 jb
  rw [hR.top.1] at tm
  obtain ⟨_,len,_⟩:=qfm hl nl e (n:=R.length - 1+j) (by rw [tm.1];intro z;exact j0 (by grind)) tm.2
  omega
theorem qk6 {F L L':Sr} (f0:F≠0) (h:RadOf F L) (h':RadOf F L'):∃ q,Sr.Pol q∧L'=q*L:=by
  obtain ⟨S,M,pS,pL,pM,e1,e2,c⟩:=h
  obtain ⟨S',M',pS',pL',pM',e1',e2',c'⟩:=h'
  have s0:S≠0:=fun z=>f0 (by rw [e1,z];grind)
  have s0':S'≠0:=fun z=>f0 (by rw [e1',z];grind)
  have x:L*M'=L'*M:=by
    refine Sr.cancel (pL.mul pM') (pL'.mul pM) (pS.mul pS') (Sr.ne_mul pS pS' s0 s0') ?_
    have a:S*L=S'*L':=e1.symm.trans e1'
    have b:S*M=S'*M':=e2.symm.trans e2'
    calc L*M'*(S*S')=(S*L)*(S'*M'):=by grind
      _=(S'*L')*(S*M):=by rw [a,b]
      _=L'*M*(S*S'):=by grind
  obtain ⟨U,W,pU,pW,h⟩:=c
  refine ⟨U*L'+W*M',(pU.mul pL').add (pW.mul pM'),?_⟩
  have:L'=L'*(U*L+W*M):=by rw [h];grind
  grind
theorem qpP {F L L':Sr} {b c:Nat} {p q:List Nu} {x y:Rat} (f0:F≠0) (h:RadOf F L) (h':RadOf F L') (hp:Mon b p) (hq:Mon c q) (x0:x≠0) (y0:y≠0) (e1:L=Sr.num x*sr p) (e2:sr q=Sr.num y*L'):p=q:=by
  obtain ⟨u,pu,eu⟩:=qk6 f0 h h'
  obtain ⟨v,pv,ev⟩:=qk6 f0 h' h
  have a1:sr q=sr p*(Sr.num y*u*Sr.num x):=by rw [e2,eu,e1];grind
  have iy:=Sr.num_inv y0
  have ix:=Sr.num_inv x0
  have a2:sr p=sr q*(Sr.num x⁻¹*v*Sr.num y⁻¹):=by
    have t1:sr p=Sr.num x⁻¹*(Sr.num x*sr p):=by
      rw [show Sr.num x⁻¹*(Sr.num x*sr p)=Sr.num x⁻¹*Sr.num x*sr p by grind,ix];grind
    have t2:L'=Sr.num y⁻¹*sr q:=by
      rw [e2,show Sr.num y⁻¹*(Sr.num y*L')=Sr.num y⁻¹*Sr.num y*L' by grind,iy];grind
    rw [t1,← e1,ev,t2];grind
  have l1:=qiM hq.gq.low hq.gq.nz hq.ne hp (((Sr.Pol.num y).mul pu).mul (Sr.Pol.num x)) a1
  have l2:=qiM hp.gq.low hp.gq.nz hp.ne hq (((Sr.Pol.num _).mul pv).mul (Sr.Pol.num _)) a2
  have w0:Sr.num y*u*Sr.num x≠0:=fun z=>qpJ hq.gq.low hq.gq.nz hq.ne (by rw [a1,z];grind)
  obtain ⟨n,hn⟩:=(((Sr.Pol.num y).mul pu).mul (Sr.Pol.num x)).bn
  rcases Sr.top_ex n hn with z | ⟨j,_,j0,jb⟩
  · exact absurd z w0
  have tm:=Sr.top_mul hp.top.2 jb
  rw [hp.top.1] at tm
  obtain ⟨_,len,_⟩:=qfm hq.gq.low hq.gq.nz a1 (n:=p.length - 1+j) (by rw [tm.1];intro z;exact j0 (by grind)) tm.2
  have p0:=List.length_pos_iff.mpr hp.ne
  have hj:j=0:=by omega
  subst hj
  have cst:Sr.num y*u*Sr.num x=Sr.num ((Sr.num y*u*Sr.num x).c 0):=Sr.ext' fun k=>by
    cases k with
    | zero=>show _=_*(1:Rat);grind
    | succ k=>rw [jb (k+1) (by omega)];show (0:Rat)=_*(0:Rat);grind
  generalize (Sr.num y*u*Sr.num x).c 0=w at *
  exact (qk5 hq hp j0 (by rw [a1,cst];grind)).symm
theorem qfW:∀ (a b:List (List Nu)) (i:Nat),qcf i (a++b)=qcf i a*qcf (i+a.length) b
  | [],b,i=>by show qcf i b=1*qcf (i+0) b;rw [Nat.add_zero];grind
  | q::a,b,i=>by
    show sr q ^ i*qcf (i+1) (a++b)=sr q ^ i*qcf (i+1) a*qcf (i+(a.length+1)) b
    rw [qfW a b (i+1),show i+1+a.length=i+(a.length+1) by omega];grind
theorem qcq:∀ (a b:List (List Nu)),qbz (a++b)=qbz a*qbz b
  | [],b=>by show qbz b=1*qbz b;grind
  | q::a,b=>by show sr q*qbz (a++b)=sr q*qbz a*qbz b;rw [qcq a b];grind
theorem pow_add' (f:Sr) (m:Nat):∀ n:Nat,f ^ (m+n)=f ^ m*f ^ n
  | 0=>by rw [Nat.add_zero,Sr.pow_z];grind
  | n+1=>by rw [← Nat.add_assoc,Sr.pow_s,pow_add' f m n,Sr.pow_s];grind
theorem qgm {ps:List (List Nu)} {i:Nat} (h:i<ps.length):ps=ps.take i++ps.getD i []::ps.drop (i+1):=by
  rw [List.getD_eq_getElem?_getD,List.getElem?_eq_getElem h]
  show ps=ps.take i++ps[i]::ps.drop (i+1)
  rw [← List.drop_eq_getElem_cons h,List.take_append_drop]
theorem mon1:Mon 1 [(1,1)]:=by
  refine ⟨⟨?_,?_,1,⟨by decide,?_⟩,bdc (by decide),?_⟩,by simp,rfl⟩
  · intro q hq;rw [List.mem_singleton.mp hq];exact qqZ
  · intro q hq;obtain rfl:(1,1)=q:=Option.some.inj hq;decide
  · intro q hq;rw [List.mem_singleton.mp hq];exact Int.one_dvd _
  · intro z hz
    obtain ⟨q,hq,rfl⟩:=List.mem_map.mp hz
    rw [List.mem_singleton.mp hq]
    exact bdc (by decide)
theorem qoZ:sr [(1,1)]=1:=Sr.ext' fun k=>by
  rw [qrE]
  show val (([(1,1)]:List Nu).getD k (0,1))=_
  cases k with
  | zero=>show val (1,1)=1;unfold val;show ((1:Int):Rat) / ((1:Int):Rat)=1;grind
  | succ j=>
    show val (([]:List Nu).getD j (0,1))=0
    rw [List.getD_nil]
    exact zdiv _
theorem qnu {l:List Nu} {ps:List (List Nu)} (P:Pts l ps) (l0:sr l≠0):(∀ p∈ps,Sr.Cs (sr p) (Sr.D (sr p)))∧∀ i j:Nat,j<i→i<ps.length→Sr.Cs (sr (ps.getD i [])) (sr (ps.getD j [])):=by
  obtain ⟨c,L,c0,⟨S,M,pS,pL,pM,e1,e2,cs⟩,eL⟩:=P.rad
  have cL:=Sr.simple_cop pS pL pM l0 e1 e2 cs
  have nc:=Sr.Pol.num c
  have one:∀ i,i<ps.length→Sr.Cs (sr (ps.getD i [])) (Sr.D (sr (ps.getD i []))):=fun i hi=>by
    have e:=qgm hi
    refine Sr.Cs.part (q:=Sr.num c*qbz (ps.take i)*qbz (ps.drop (i+1))) (qg7 _) ((nc.mul (qcY _)).mul (qcY _)) cL ?_
    have:qbz ps=qbz (ps.take i)*(sr (ps.getD i [])*qbz (ps.drop (i+1))):=by
      conv=>lhs;rw [e,qcq]
      rfl
    rw [eL,this];grind
  refine ⟨fun p hp=>?_,fun i j hj hi=>?_⟩
  · obtain ⟨i,hi,rfl⟩:=List.getElem_of_mem hp
    have:=one i hi
    rw [List.getD_eq_getElem?_getD,List.getElem?_eq_getElem hi] at this
    exact this
  · have e:=qgm hi
    have hj':j<(ps.take i).length:=by rw [List.length_take];omega
    have e3:=qgm hj'
    have gj:(ps.take i).getD j []=ps.getD j []:=by
      rw [List.getD_eq_getElem?_getD,List.getD_eq_getElem?_getD,List.getElem?_take_of_lt hj]
    rw [gj] at e3
    have s2:qbz ps=qbz (ps.take i)*(sr (ps.getD i [])*qbz (ps.drop (i+1))):=by
      conv=>lhs;rw [e,qcq]
      rfl
    have s3:qbz (ps.take i)=qbz ((ps.take i).take j)*(sr (ps.getD j [])*qbz ((ps.take i).drop (j+1))):=by
      conv=>lhs;rw [e3,qcq]
      rfl
    refine Sr.Cs.parts (r:=Sr.num c*qbz ((ps.take i).take j)*qbz ((ps.take i).drop (j+1))*qbz (ps.drop (i+1))) pL (qg7 _) (qg7 _) (((nc.mul (qcY _)).mul (qcY _)).mul (qcY _)) cL ?_
    rw [eL,s2,s3];grind
theorem qop {a b c:List Int} {n:Nat} (ba:∀ z∈a,Bd n z) (bb:∀ z∈b,Bd 4 z) (e:∀ k,co c k=ps a b a.length k):∀ z∈c,Bd (n+4+a.length) z:=qna fun k=>by
  rw [e k];exact qnZ ba bb a.length k
theorem qpQ {ns:List Int} {t d:Int} (d0:d≠0):sr (ns.map fun n=>qb7 (n*t) d)=Sr.num ((t:Rat) / (d:Rat))*si ns:=Sr.ext' fun k=>by
  rw [Sr.num_mul]
  show val ((ns.map fun n=>qb7 (n*t) d).getD k (0,1))=_*((ns.getD k 0:Int):Rat)
  rw [List.getD_eq_getElem?_getD,List.getD_eq_getElem?_getD,List.getElem?_map]
  cases ns[k]? with
  | none=>show val (0,1)=_*((0:Int):Rat);rw [show val (0,1)=0 from zdiv _];push_cast;grind
  | some z=>
    show val (qb7 (z*t) d)=_*(z:Rat)
    rw [qdC d0]
    have:=qaL d0
    push_cast
    grind
theorem qk7 {K:W.Frag} {a1 a2:Addr} {l m:List Nu} {b d:Nat} {H:Hp} {Q':VK} {E:XK} (h1:Pl H a1 l) (h2:Pl H a2 m) (M1:Mon b l) (M2:Mon d m) (l9:l.length≤9) (m9:m.length≤9) (bd:b+d≤100000)
    (q:∀ (r:Addr) (R:List Nu) (H':Hp),Same H H'→Pl H' r R→Mon (b+d+9) R→sr R=sr l*sr m→Q' (.ref r) H'):qb3 K [.ref a1,.ref a2] H Q' E:=by
  obtain ⟨xs,hx,nx⟩:=h1
  obtain ⟨ys,hy,ny⟩:=h2
  obtain ⟨N1,O1,c1,b1⟩:=M1.gq.ov
  obtain ⟨N2,O2,c2,b2⟩:=M2.gq.ov
  have mt:=qnt M1 M2 O1 O2 c1 c2 b1 b2
  exact ⟨a1,a2,xs,ys,l,m,N1,N2,b,d,rfl,hx,hy,nx,ny,M1.gq.low,M2.gq.low,O1,O2,(c1.mul c2).mono (by omega),b1,b2,by omega,by omega,by omega,fun r zs H' s hr hz=>q r _ H' s ⟨zs,hr,hz⟩ (mt.1.mono (by omega)) mt.2⟩
theorem qpR {H:Hp}:∀ {us:List V} {ps:List (List Nu)},PLs H us ps→RepA H us (ps.map qmR)
  | [],[],_=>.nil
  | _::_,_::_,⟨⟨_,e,_,a,b⟩,r⟩=>e ▸ .cons (qpZ a b) (qpR r)
theorem qrS (ps:List (List Nu)):PySem.W.kqdOk 8 (.list (ps.map qmR))=true:=by
  show (ps.map qmR).all (PySem.W.kqdOk 7)=true
  rw [List.all_eq_true]
  intro x hx
  obtain ⟨p,_,rfl⟩:=List.mem_map.mp hx
  exact okP p 5
theorem qpS {H:Hp} {p a q:Addr} {n:Int} {ns:List Int} (h:Hand H p a n) (hq:H q=some (.lst (ns.map V.int))):q≠p:=fun z=>by
  obtain ⟨_,_,_,_,e,_⟩:=h
  subst z
  rw [e] at hq
  injection hq with hq
  injection hq with hq
  cases ns with
  | nil=>simp at hq
  | cons x ns=>rw [List.map_cons] at hq;injection hq with h1 _;cases h1
theorem qq2 (h:qjk K vs H Q E):qpq K { nx:=fun _ H'=>Q .non H',rt:=Q } (L2.start ["_law_script", "_law_hand_here", "_law_row", "_law_other", "_law_turn", "_law_kp", "_law_found", "_law_full", "_law_simple", "_law_k", "_law_part"] vs) H:=by
  obtain ⟨s,sc,rfl,hs,n63,k⟩:=h
  unfold qpq
  rwa []
  refine ⟨sc,hs,n63,fun p ad H1 hp k1 h1=>?_⟩
  have go3:∀ (a:Addr) (row:List Int) (H2:Hp) (n:Int) (x3 x4:Option V),H2 a=some (.lst (row.map V.int))→Lz row→row.length≤9→(∀ z∈row,Bd 36 z)→Hand H2 p ad n→n≤80000→a≠p→qj8 K { nx:=fun _ H'=>Q V.non H',rt:=Q } [some (.ref s),some (.ref p),some (.ref a),x3,x4,none,none,none,none,none,none] H2:=fun a row H2 n x3 x4 ha lr rw9 br hh n8 nap=>by
    unfold qj8
    rwa []
    refine ⟨ad,_,hh,by omega,fun r t d H3 hr lt t0 bt bd h3 k3=>?_⟩
    have ha3:=k3 _ _ nap ha
    unfold Nm at hr
    rwa [ha3,hr]
    have d0:d≠0:=Int.ne_of_gt lt.pos
    refine ⟨row,rfl,d0,bt.mono (by decide),fun z hz=>(br z hz).mono (by decide),by omega,fun r4 zs H4 s4 h4 n4=>?_⟩
    have G:=qpN lr br lt t0 bt bd
    have el:=qpQ (ns:=row) (t:=t) d0
    have ll:(row.map fun n=>qb7 (n*t) d).length≤9:=by rw [List.length_map];exact rw9
    have lne:(row.map fun n=>qb7 (n*t) d)≠[]:=fun z=>by have z2:=congrArg List.length z;rw [List.length_map] at z2;have:=lr.1;simp at z2;rw [z2] at this;simp at this
    have q0:(t:Rat) / (d:Rat)≠0:=fun z=>by have a1:=qaL t0;have a2:=qaL d0;grind
    have lr1:(row.map fun n=>qb7 (n*t) d).length=row.length:=List.length_map ..
    generalize (row.map fun n=>qb7 (n*t) d)=l at *
    have ha4:=s4 _ _ ha3
    have f0:=qpJ G.low G.nz lne
    unfold qmZ
    rwa [h4]
    refine ⟨l,n4,G,lne,ll,fun r5 us ps H5 s5 h5 P5 Pt=>?_⟩
    unfold qmY qmX
    rwa []
    refine ⟨sz (by decide),fun c1 g1=>⟨sz (by decide),fun c2 g2=>?_⟩⟩
    refine ⟨sz (by decide),fun c3 g3=>⟨sz (by decide),fun c4 g4=>?_⟩⟩
    have t1:=qaf g1 (HO.tup [V.int 1,V.int 1])
    have t2:=qaf g2 (HO.tup [V.ref c1])
    have t3:=qaf g3 (HO.tup [V.int 1,V.int 1])
    have t4:=qaf g4 (HO.tup [V.ref c3])
    have t34:=t3.trans t4
    have t14:=(t1.trans t2).trans t34
    have pf:Pl (upd (upd (upd (upd H5 c1 (HO.tup [V.int 1,V.int 1])) c2 (HO.tup [V.ref c1])) c3 (HO.tup [V.int 1,V.int 1])) c4 (HO.tup [V.ref c3])) c2 [(1,1)]:=⟨_,t34 _ _ qai,Nums.one ⟨c1,rfl,t34 _ _ (t2 _ _ qai)⟩⟩
    have psm:Pl (upd (upd (upd (upd H5 c1 (HO.tup [V.int 1,V.int 1])) c2 (HO.tup [V.ref c1])) c3 (HO.tup [V.int 1,V.int 1])) c4 (HO.tup [V.ref c3])) c4 [(1,1)]:=⟨_,qai,Nums.one ⟨c3,rfl,t4 _ _ qai⟩⟩
    have S6:=(s4.trans s5).trans t14
    have h56:=t14 _ _ h5
    have P6:=P5.tp (tpS t14)
    have h46:=(s5.trans t14) _ _ h4
    have n46:=n4.tp (tpS (s5.trans t14))
    have ha6:=(s5.trans t14) _ _ ha4
    generalize upd (upd (upd (upd H5 c1 (HO.tup [V.int 1,V.int 1])) c2 (HO.tup [V.ref c1])) c3 (HO.tup [V.int 1,V.int 1])) c4 (HO.tup [V.ref c3])=H6 at pf psm h56 P6 h46 n46 ha6 ⊢
    obtain ⟨cf,cf0,ef⟩:=Pt.full
    have hr0:=Pt.rad
    obtain ⟨cr,L,cr0,rad,eL⟩:=hr0
    have p12:=Pt.many
    have ul:=P6.length
    unfold qmW
    rwa []
    refine ⟨⟨_,SqL.of h56⟩,ForJ.enumL (xs:=us) (fun i σ H'=>i≤ps.length∧∃ (af as:Addr) (F Sm:List Nu) (y4 y9 y10:Option V),σ=[some (.ref s),some (.ref p),some (.ref a),x3,y4,some (.ref r4),some (.ref r5),some (.ref af),some (.ref as),y9,y10]∧Same H6 H'∧Pl H' af F∧Pl H' as Sm∧Mon (10+3000*i) F∧Mon (10+200*i) Sm∧sr F=qcf 1 (ps.take i)∧sr Sm=qbz (ps.take i))
      ⟨Nat.zero_le _,c2,c4,[(1,1)],[(1,1)],x4,none,none,rfl,Same.refl H6,pf,psm,mon1.mono (by omega),mon1.mono (by omega),qoZ,qoZ⟩ ?_ ?_ ?_⟩
    · rintro i σ H' _ ⟨_,_,_,_,_,_,_,_,_,s7,_⟩
      exact SqL.of (s7 _ _ h56)
    · rintro i x pp σ H7 hx ⟨_,af,as,F,Sm,y4,y9,y10,rfl,s7,hF,hS,MF,MS,eF,eS⟩ hpp
      have hi:i<ps.length:=by have:=(List.getElem?_eq_some_iff.mp hx).1;omega
      obtain ⟨a',ha',hPi⟩:=P6.get hi
      obtain rfl:V.ref a'=x:=Option.some.inj (ha'.symm.trans hx)
      have hm:ps.getD i []∈ps:=by
        rw [List.getD_eq_getElem?_getD,List.getElem?_eq_getElem hi]
        exact List.getElem_mem hi
      have MP:=Pt.each _ hm
      have cut:=qgm hi
      have tk:ps.take (i+1)=ps.take i++[ps.getD i []]:=by
        rw [List.take_add_one,List.getElem?_eq_getElem hi,List.getD_eq_getElem?_getD,List.getElem?_eq_getElem hi];rfl
      have ecut:qcf 1 ps=qcf 1 (ps.take i)*(sr (ps.getD i []) ^ (1+i)*qcf (1+i+1) (ps.drop (i+1))):=by
        have lt:(ps.take i).length=i:=by rw [List.length_take];omega
        conv=>lhs;rw [cut,qfW,lt]
        rfl
      have scut:qbz ps=qbz (ps.take i)*(sr (ps.getD i [])*qbz (ps.drop (i+1))):=by
        conv=>lhs;rw [cut,qcq]
        rfl
      rw [tk]
      generalize ps.getD i []=Pi at *
      have sp:=qaf hpp (HO.tup [V.int (i:Int),V.ref a'])
      have cS:Sm.length≤9:=by
        obtain ⟨Sx,Mx,pS,pL,pM,e1,e2,cs⟩:=rad
        have:=qiM G.low G.nz lne MS (Y:=Sx*Sr.num cr*(sr Pi*qbz (ps.drop (i+1)))) ((pS.mul (Sr.Pol.num _)).mul ((qg7 _).mul (qcY _))) (by rw [e1,eL,scut,eS];grind)
        omega
      have hS8:=hS.same sp
      have hP8:=(hPi.same s7).same sp
      have hF8:=hF.same sp
      have s8:=s7.trans sp
      rwa []
      generalize upd H7 pp (HO.tup [V.int (i:Int),V.ref a'])=H8 at *
      unfold qhZ
      rwa []
      refine qk7 hS8 hP8 MS MP.mon cS MP.le (by omega) fun r9 Sm' H9 s9 hS9 MS9 eS9=>?_
      unfold qhY
      rwa []
      refine ⟨by omega,by omega,ForR.by (fun t σ H'=>t≤i+1∧∃ (af:Addr) (F:List Nu) (y4:Option V),σ=[some (.ref s),some (.ref p),some (.ref a),x3,y4,some (.ref r4),some (.ref r5),some (.ref af),some (.ref r9),some (.int (i:Int)),some (.ref a')]∧Same H9 H'∧Pl H' af F∧Mon (10+3000*i+200*t) F∧sr F=qcf 1 (ps.take i)*sr Pi ^ t) ⟨Nat.zero_le _,af,F,y4,rfl,Same.refl H9,hF8.same s9,MF.mono (by omega),by rw [eF,Sr.pow_z];grind⟩ ?_ ?_⟩
      · rintro t' σ H10 ht' ⟨t1',af',F',y4',rfl,s10,hF10,MF10,eF10⟩
        have ht2:t'<i+1:=by omega
        have cF:F'.length≤9:=by
          have pw:sr Pi ^ (1+i)=sr Pi ^ t'*sr Pi ^ (1+i - t'):=by rw [← pow_add',show t'+(1+i - t')=1+i by omega]
          have:=qiM G.low G.nz lne MF10 (Y:=Sr.num cf*(sr Pi ^ (1+i - t')*qcf (1+i+1) (ps.drop (i+1)))) ((Sr.Pol.num _).mul (((qg7 _).pow _).mul (qjx _ _))) (by rw [ef,ecut,pw,eF10];grind)
          omega
        rwa []
        refine qk7 hF10 ((hP8.same s9).same s10) MF10 MP.mon cF MP.le (by omega) fun r11 F11 H11 s11 hF11 MF11 eF11=>?_
        exact ⟨by omega,r11,rfl,s10.trans s11,F11,hF11,MF11.mono (by omega),by rw [eF11,eF10,Sr.pow_s];grind⟩
      · rintro σ H10 ⟨_,af',F',y4',rfl,s10,hF10,MF10,eF10⟩
        rw [show ((i:Int)+1).toNat=i+1 by omega] at *
        refine ⟨by omega,af',r9,F',Sm',y4',_,_,rfl,(s8.trans s9).trans s10,hF10,hS9.same s10,MF10.mono (by omega),MS9.mono (by omega),?_,?_⟩
        · rw [eF10,qfG,List.length_take,show min i ps.length=i by omega,Nat.add_comm 1 i]
        · rw [eS9,qfH,eS]
    · rintro σ H7 ⟨_,af,as,F,Sm,y4,y9,y10,rfl,s7,hF,hS,MF,MS,eF,eS⟩
      rw [ul,List.take_length] at eF eS
      have ha7:=s7 _ _ ha6
      have h57:=s7 _ _ h56
      have P7:=P6.tp (tpS s7)
      have h47:=s7 _ _ h46
      have n47:=n46.tp (tpS s7)
      have last:∀ H8,Same H7 H8→qgY K { nx:=fun _ H'=>Q V.non H',rt:=Q } [some (.ref s),some (.ref p),some (.ref a),x3,y4,some (.ref r4),some (.ref r5),some (.ref af),some (.ref as),y9,y10] H8:=fun H8 s8=>by
        have ha8:=s8 _ _ ha7
        unfold qgY
        rwa [ha8]
        refine ⟨row,rfl,lr,by omega,fun r9 zs9 H9 s9 h9 n9=>?_⟩
        obtain ⟨zF,hzF,nF⟩:=hF.same (s8.trans s9)
        have Mr:=gq_mnc' lr (fun z hz=>(br z hz).mono (by decide)) rw9
        have x0:=qkh lr
        have ex:=qnp lr
        generalize ((co row (row.length - 1):Rat))⁻¹=x at x0 ex
        have eFr:F=mnc row:=by
          refine qk5 MF Mr.mon (x:=cf⁻¹*((t:Rat) / (d:Rat))*x⁻¹) (num_ne' (num_ne' (qjv cf0) q0) (qjv x0)) ?_
          have i1:=Sr.num_inv cf0
          have i2:=Sr.num_inv x0
          have e1:qcf 1 ps=Sr.num cf⁻¹*sr l:=by rw [ef,show Sr.num cf⁻¹*(Sr.num cf*qcf 1 ps)=Sr.num cf⁻¹*Sr.num cf*qcf 1 ps by grind,i1];grind
          have e2:si row=Sr.num x⁻¹*sr (mnc row):=by rw [ex,show Sr.num x⁻¹*(Sr.num x*si row)=Sr.num x⁻¹*Sr.num x*si row by grind,i2];grind
          rw [eF,e1,el,e2,← Sr.num_num,← Sr.num_num];grind
        refine eqP hzF nF h9 n9 true (by simp [eFr]) ⟨_,rfl,?_⟩
        rw [if_pos rfl]
        have s89:=s8.trans s9
        refine ⟨_,s89 _ _ h47,l,n47.tp (tpS s89),G,lne,ll,fun r10 R H10 s10 hR MR rR=>?_⟩
        obtain ⟨y,y0,L',rad',eR⟩:=rR
        have eSR:Sm=R:=qpP f0 rad rad' MS MR.mon cr0 y0 (by rw [eL,eS]) eR
        obtain ⟨zS,hzS,nS⟩:=hS.same (s89.trans s10)
        obtain ⟨zR,hzR,nR⟩:=hR
        refine eqP hzS nS hzR nR true (by simp [eSR]) ⟨_,rfl,?_⟩
        rw [if_pos rfl]
        have s810:=s89.trans s10
        obtain ⟨ap1,ap2⟩:=qnu Pt f0
        refine ⟨_,s810 _ _ h57,ps,P7.tp (tpS s810),Pt.each,p12,ap1,ap2,fun H11 s11=>k H11⟩
      have dnil:(PySem.W.Dat.list (ps.map qmR)=PySem.W.Dat.list [])↔ps=[]:=⟨fun z=>by injection z with z;exact List.map_eq_nil_iff.mp z,fun z=>by rw [z];rfl⟩
      have sec:∀ H8,Same H7 H8→0≤sizeLine∧∀ w:Addr,H8 w=none→eqD (V.ref r5) (V.ref w) (upd H8 w (HO.lst [])) fun x H'=>∃ k,x=V.bl k∧if k=true then ∃ x,H' a=some (HO.lst x)∧if (1:Int)<(x.length:Int) then Q (V.bl false) H' else qgY K { nx:=fun _ H'=>Q V.non H',rt:=Q } [some (V.ref s),some (V.ref p),some (V.ref a),x3,y4,some (V.ref r4),some (V.ref r5),some (V.ref af),some (V.ref as),y9,y10] H' else qgY K { nx:=fun _ H'=>Q V.non H',rt:=Q } [some (V.ref s),some (V.ref p),some (V.ref a),x3,y4,some (V.ref r4),some (V.ref r5),some (V.ref af),some (V.ref as),y9,y10] H':=fun H8 s8=>⟨Nat.zero_le _,fun w hw=>by
        have sw:=qaf hw (HO.lst [])
        have s8w:=s8.trans sw
        refine ⟨_,_,decide (ps=[]),.lst (s8w _ _ h57) (qpR (P7.tp (tpS s8w))),.lst qai .nil,qrS ps,rfl,by rw [dnil];simp,_,rfl,qcy (fun c=>?_) (fun _=>last _ s8w)⟩
        have c':ps=[]:=of_decide_eq_true c
        have:=Pt.none c'
        refine ⟨_,s8w _ _ ha7,qcy (fun z=>?_) (fun _=>last _ s8w)⟩
        rw [List.length_map] at z
        omega⟩
      unfold qmV
      rwa []
      refine ⟨Nat.zero_le _,fun w hw=>?_⟩
      have sw:=qaf hw (HO.lst [])
      refine ⟨_,_,decide (ps=[]),.lst (sw _ _ h57) (qpR (P7.tp (tpS sw))),.lst qai .nil,qrS ps,rfl,by rw [dnil];simp,_,rfl,qcy (fun c=>?_) (fun _=>sec _ sw)⟩
      have pne:ps≠[]:=fun z=>by rw [z] at c;simp at c
      have p0:=List.length_pos_iff.mpr pne
      obtain ⟨a9,ha9,z9,hz9,nz9⟩:=(P7.tp (tpS sw)).get (show ps.length - 1<ps.length by omega)
      have g9:atI us (-1)=some (V.ref a9):=by
        refine atI_last (by omega) ?_
        rw [ul];exact ha9
      refine ⟨_,sw _ _ h57,_,g9,a9,rfl,_,hz9,qcy (fun z=>?_) (fun _=>sec _ sw)⟩
      have l2:=Pt.last (ps.getD (ps.length - 1) []) (by
        rw [List.getLast?_eq_getElem?,List.getD_eq_getElem?_getD,List.getElem?_eq_getElem (show ps.length - 1<ps.length by omega)];rfl)
      have:=nz9.length
      omega
  unfold qm1
  rwa []
  refine ⟨sz (by decide),fun w hw=>?_⟩
  have sw:=qaf hw (HO.lst [V.int 5,V.int 8])
  refine ⟨ad,_,h1.same sw,by decide,by decide,by decide,fun d H2 d0 d1 h2 k2=>?_⟩
  have wp:=h1.ne hw
  obtain ⟨m,hm,m5⟩:∃ m:Int,atI [V.int 5,V.int 8] (if d=0 then 1 else 0)=some (V.int m)∧(m=5∨m=8):=by
    by_cases z:d=0
    · rw [if_pos z];exact ⟨8,rfl,.inr rfl⟩
    · rw [if_neg z];exact ⟨5,rfl,.inl rfl⟩
  refine ⟨_,k2 _ _ wp qai,_,hm,?_⟩
  refine ⟨ad,m,rfl,_,h2,by omega,by omega,by omega,.inr trivial,fun a row H3 ha lrow lz br nap naa h3 k3=>?_⟩
  unfold qm0
  rwa []
  refine ⟨ad,_,h3,by omega,by decide,by decide,fun e H4 e0 e1 h4 k4=>qcy (fun c=>?_) (fun c=>go3 a row H4 _ none none (k4 _ _ nap ha) lz (by omega) (fun z hz=>?_) h4 (by omega) nap)⟩
  · unfold qhX
    rwa []
    refine ⟨ad,_,h4,by omega,by decide,by decide,.inl trivial,fun a5 row5 H5 ha5 l5 lz5 br5 na5 _ h5 k5=>?_⟩
    unfold qhW
    rwa []
    refine ⟨ad,_,h5,by omega,by decide,by decide,.inl trivial,fun a6 row6 H6 ha6 l6 lz6 br6 na6 _ h6 k6=>?_⟩
    have ha56:=k6 _ _ na5 ha5
    have b5:∀ z∈row5,Bd 4 z:=fun z hz=>by
      have:=br5 z hz
      show z.natAbs<2 ^ 4
      omega
    have b6:∀ z∈row6,Bd 4 z:=fun z hz=>by
      have:=br6 z hz
      show z.natAbs<2 ^ 4
      omega
    unfold qhV
    rwa []
    refine ⟨ad,_,h6,by omega,by decide,by decide,fun f H7 f0 f1 h7 k7=>⟨by omega,by omega,?_⟩⟩
    have ha57:=k7 _ _ na5 ha56
    have ha67:=k7 _ _ na6 ha6
    refine ForR.by (fun i σ H'=>i≤3∧∃ (a7:Addr) (R:List Int) (y4:Option V),σ=[some (.ref s),some (.ref p),some (.ref a7),some (.ref a6),y4,none,none,none,none,none,none]∧Same H7 H'∧H' a7=some (.lst (R.map V.int))∧Lz R∧R.length≤3+2*i∧∀ z∈R,Bd (4+6*i+i*i) z) ⟨by decide,a5,row5,none,rfl,Same.refl H7,ha57,lz5,by omega,b5⟩ ?_ ?_
    · rintro i σ H8 hi ⟨i3,a7,R,y4,rfl,s8,h8,lR,lenR,bR⟩
      have hi':i<3:=by omega
      have ha68:=s8 _ _ ha67
      rwa [h8,ha68]
      refine ⟨R,rfl,row6,rfl,lR,lz6,by omega,by omega,4+6*i+i*i,bR,4,b6,?_,by decide,fun r c H9 s9 h9 cl lc ec=>?_⟩
      · have:i*i≤3*3:=Nat.mul_le_mul (by omega) (by omega)
        omega
      refine ⟨by omega,s8.trans s9,c,h9,lc,by omega,fun z hz=>(qop bR b6 ec z hz).mono ?_⟩
      have e2:(i+1)*(i+1)=i*i+2*i+1:=by rw [Nat.add_mul,Nat.mul_add];omega
      omega
    · rintro σ H8 ⟨i3,a7,R,y4,rfl,s8,h8,lR,lenR,bR⟩
      have h78:=h7.same s8
      have tn:(2+f).toNat≤3:=by omega
      refine go3 a7 R H8 _ _ _ h8 lR (by omega) (fun z hz=>(bR z hz).mono ?_) h78 (by omega) (qpS h78 h8)
      have:(2+f).toNat*(2+f).toNat≤3*3:=Nat.mul_le_mul tn tn
      omega
  · have:=br z hz
    show z.natAbs<2 ^ 36
    omega
end Bs
namespace Bs
open PySem PySem.Spec PyProof.Rows L2
set_option maxHeartbeats 4000000
open Hd
structure Bl (K:W.Frag) (mg:Str→Option Value):Prop where
  abs:mg "abs" = none
  min:mg "min" = none
  len:mg "len" = none
  range:mg "range" = none
  list:mg "list" = none
  max:mg "max" = none
  any:mg "any" = none
  enumerate:mg "enumerate" = none
  zip:mg "zip" = none
  EXPONENTS:mg "EXPONENTS" = some (.ref (qbY K))
  tuple:mg "tuple" = none
  sum:mg "sum" = none
  int:mg "int" = none
  xEXPONENTS:∀ H:Hp,SqT K H (qbY K) (exps.map fun e:Nat=>V.int (e:Int))
section
variable {P:Program} {w:World} {K:W.Frag} {mg:Str→Option Value} {base:Heap} {f:Addr} {fd:FuncData}
theorem sc_common_divisor:FnScope ["one", "other", "rest"] ["one", "other"] (qaj qcs):=⟨rfl,rfl,rfl,by decide +kernel,rfl,by decide +kernel,by decide +kernel⟩
theorem qfI (F:Fun K "common_divisor" "common_divisor" qcs f fd) (B:Bl K mg)  : FnOk P w K mg base CX0 1 f fd ["one", "other"] (qar K):=by
  refine F.ok sc_common_divisor (fun vs H Q E h=>?_) (fun cdv A outer s H vs Q E hr h=>?_)
  · obtain ⟨_,_,rfl,_⟩:=h
    rfl
  have nd:=sc_common_divisor.nd
  have hu:=hr.units0
  have hu64:=hr.units
  exact ⟨qcv K,(qac (qbJ PassesOwn.never (qaG qlc (pv 1) qae (nomark _)) (qac (qan (i:=2) nd rfl (Or.inl rfl) (qas qo4 (pv 0) (pv 1)))
    (qac (qan (i:=0) nd rfl (Or.inl rfl) (pv 1))
    (qah (qan (i:=1) nd rfl (Or.inl rfl) (pv 2))))))
    (qah (qaC (qav qdo rfl B.abs qhN (qaa (pv 0) qad))))),qfC h⟩
theorem sc_raised:FnScope ["whole", "n", "result", "square"] ["whole", "n"] (qaj qh7):=⟨rfl,rfl,rfl,by decide +kernel,rfl,by decide +kernel,by decide +kernel⟩
theorem qnv (F:Fun K "raised" "raised" qh7 f fd) (B:Bl K mg)  : FnOk P w K mg base CX0 1 f fd ["whole", "n"] (qcL K):=by
  refine F.ok sc_raised (fun vs H Q E h=>?_) (fun cdv A outer s H vs Q E hr h=>?_)
  · obtain ⟨_,_,_,rfl,_⟩:=h
    rfl
  have nd:=sc_raised.nd
  have hu:=hr.units0
  have hu64:=hr.units
  exact ⟨qiq K,(qac (qan (i:=2) nd rfl (Or.inl rfl) qae)
    (qac (qan (i:=3) nd rfl (Or.inl rfl) (pv 0))
    (qac (qbJ PassesOwn.never (qaG qgr (pv 1) qae (nomark _)) (qac (qdm (qaG qfZ (qas qca (pv 1) qae) qae (nomark _)) (qah (qhF (i:=2) nd rfl (Or.inl rfl) (pv 3) qid)) qbm)
    (qac (qhF (i:=1) nd rfl (Or.inl rfl) qae qmr)
    (qah (qdm (qaG qgr (pv 1) qae (nomark _)) (qah (qhF (i:=3) nd rfl (Or.inl rfl) (pv 3) qid)) qbm)))))
    (qah (qaC (pv 2)))))),qm2 h⟩
theorem sc_content:FnScope ["row", "start", "found", "whole"] ["row", "start"] (qaj qgw):=⟨rfl,rfl,rfl,by decide +kernel,rfl,by decide +kernel,by decide +kernel⟩
theorem qlA (F:Fun K "content" "content" qgw f fd) (B:Bl K mg) (c_common_divisor:Cal P w K mg base 1 "common_divisor" ["one", "other"] (qar K)):FnOk P w K mg base CX0 2 f fd ["row", "start"] (qbZ K):=by
  refine F.ok sc_content (fun vs H Q E h=>?_) (fun cdv A outer s H vs Q E hr h=>?_)
  · obtain ⟨_,_,_,rfl,_⟩:=h
    rfl
  have nd:=sc_content.nd
  have hu:=hr.units0
  have hu64:=hr.units
  exact ⟨qgP K,(qac (qan (i:=2) nd rfl (Or.inl rfl) (c_common_divisor.pe hr (by decide) rfl (qaa (qpg rfl B.min qql (qnX (N:=["whole"]) (capt:=[none]) rfl (BlkOk.of rfl rfl rfl rfl (fun _ h=>nomatch h) rfl rfl rfl) (qbV (pv 0)) (fun _ _ _ _=>(qaF (i:=0) (show (["whole"]:List PySem.Str).Nodup by decide +kernel) rfl (Or.inl rfl))) (fun _ _ _ _=>(qaG qlc (pv 0) qae (nomark _))) (fun _ _ _ _=>(qav qdo rfl B.abs qhN (qaa (pv 0) qad))))) (qaa (pv 1) qad))))
    (qac (qbK PassesOwn.never rfl (qbV (pv 0)) (qaF (i:=3) nd rfl (Or.inl rfl)) (qac (qdm (qaG qfZ (pv 2) qae (nomark _)) (qah (qaC qae)) qbm)
    (qah (qan (i:=2) nd rfl (Or.inl rfl) (c_common_divisor.pe hr (by decide) rfl (qaa (pv 3) (qaa (pv 2) qad)))))))
    (qah (qaC (pv 2))))),qlt h⟩
theorem sc_row_trimmed:FnScope ["row", "many"] ["row"] (qaj qdv):=⟨rfl,rfl,rfl,by decide +kernel,rfl,by decide +kernel,by decide +kernel⟩
theorem qhx (F:Fun K "row_trimmed" "row_trimmed" qdv f fd) (B:Bl K mg)  : FnOk P w K mg base CX0 1 f fd ["row"] (qaM K):=by
  refine F.ok sc_row_trimmed (fun vs H Q E h=>?_) (fun cdv A outer s H vs Q E hr h=>?_)
  · obtain ⟨_,_,rfl,_⟩:=h
    rfl
  have nd:=sc_row_trimmed.nd
  have hu:=hr.units0
  have hu64:=hr.units
  exact ⟨qdE K,(qac (qan (i:=1) nd rfl (Or.inl rfl) (qav qaI rfl B.len qbl (qaa (pv 0) qad)))
    (qac (qbJ PassesOwn.never (PW.pt (qeX (qaG qgr (pv 1) qae (nomark _)) (qdT (qaG qfZ (qaA qap (pv 0) (qas qbF (pv 1) qae) (fun _ _=>rfl)) qae (nomark _))))) (qah (qhF (i:=1) nd rfl (Or.inl rfl) qae qgq)))
    (qah (qaC (qcA qeH (pv 0) qdt (qdu (pv 1))))))),qht h⟩
theorem sc_row_parted:FnScope ["row", "divisor"] ["row", "divisor"] (qaj qdY):=⟨rfl,rfl,rfl,by decide +kernel,rfl,by decide +kernel,by decide +kernel⟩
theorem qiN (F:Fun K "row_parted" "row_parted" qdY f fd) (B:Bl K mg)  : FnOk P w K mg base CX0 1 f fd ["row", "divisor"] (qbp K):=by
  refine F.ok sc_row_parted (fun vs H Q E h=>?_) (fun cdv A outer s H vs Q E hr h=>?_)
  · obtain ⟨_,_,_,rfl,_⟩:=h
    rfl
  have nd:=sc_row_parted.nd
  have hu:=hr.units0
  have hu64:=hr.units
  exact ⟨qea K,(qah (qaC (qcu (N:=["whole", "divisor"]) (capt:=[none,some 1]) rfl (BlkOk.of rfl rfl rfl rfl (List.forall_mem_singleton.mpr rfl) rfl rfl rfl) (qbV (pv 0)) (fun _ _ _ _=>(qaF (i:=0) (show (["whole", "divisor"]:List PySem.Str).Nodup by decide +kernel) rfl (Or.inl rfl))) (fun _ _ _ _=>(qas qgc (pv 0) (pv 1)))))),qix h⟩
theorem sc_row_slope:FnScope ["row"] ["row"] (qaj qeA):=⟨rfl,rfl,rfl,by decide +kernel,rfl,by decide +kernel,by decide +kernel⟩
theorem qjy (F:Fun K "row_slope" "row_slope" qeA f fd) (B:Bl K mg)  : FnOk P w K mg base CX0 1 f fd ["row"] (qbh K):=by
  refine F.ok sc_row_slope (fun vs H Q E h=>?_) (fun cdv A outer s H vs Q E hr h=>?_)
  · obtain ⟨_,_,_,rfl,_⟩:=h
    rfl
  have nd:=sc_row_slope.nd
  have hu:=hr.units0
  have hu64:=hr.units
  exact ⟨qeN K,(qah (qaC (qcu (N:=["place", "row"]) (capt:=[none,some 0]) rfl (BlkOk.of rfl rfl rfl rfl (List.forall_mem_singleton.mpr rfl) rfl rfl rfl) (qiY rfl B.range (qaa qae (qaa (qav qaI rfl B.len qbl (qaa (pv 0) qad)) qad))) (fun _ _ _ _=>(qaF (i:=0) (show (["place", "row"]:List PySem.Str).Nodup by decide +kernel) rfl (Or.inl rfl))) (fun _ _ _ _=>(qas qaP (pv 0) (qaA qap (pv 1) (pv 0) (fun _ _=>rfl))))))),qjw h⟩
theorem sc_row_over:FnScope ["row", "divisor", "rest", "last", "quotient", "shift", "weight", "place"] ["row", "divisor"] (qaj qfq):=⟨rfl,rfl,rfl,by decide +kernel,rfl,by decide +kernel,by decide +kernel⟩
theorem qkk (F:Fun K "row_over" "row_over" qfq f fd) (B:Bl K mg)  : FnOk P w K mg base CX0 1 f fd ["row", "divisor"] (qaR K):=by
  refine F.ok sc_row_over (fun vs H Q E h=>?_) (fun cdv A outer s H vs Q E hr h=>?_)
  · obtain ⟨_,_,_,_,_,_,rfl,_⟩:=h
    rfl
  have nd:=sc_row_over.nd
  have hu:=hr.units0
  have hu64:=hr.units
  exact ⟨qfx K,(qac (qan (i:=2) nd rfl (Or.inl rfl) (qbM qfv rfl B.list qjT (qaa (pv 0) qad)))
    (qac (qan (i:=3) nd rfl (Or.inl rfl) (qas qbF (qav qaI rfl B.len qbl (qaa (pv 1) qad)) qae))
    (qac (qan (i:=4) nd rfl (Or.inl rfl) (qas qi7 (qbL (qaa qae qad)) (qav (qgE rfl) rfl B.max qme (qaa (qas qbF (qav qaI rfl B.len qbl (qaa (pv 0) qad)) (pv 3)) (qaa qae qad)))))
    (qac (qbK PassesOwn.never rfl (qjd rfl B.range (qaa (qas qbF (qas qbF (qav qaI rfl B.len qbl (qaa (pv 0) qad)) (pv 3)) qae) (qaa (qcE qbA qae) (qaa (qcE qbA qae) qad)))) (qaF (i:=5) nd rfl (Or.inl rfl)) (qac (qan (i:=6) nd rfl (Or.inl rfl) (qas qc1 (qaA qap (pv 2) (qas qbb (pv 5) (pv 3)) (fun _ _=>rfl)) (qaA qap (pv 1) (qcE qbA qae) (fun _ _=>rfl))))
    (qac (qdm (qaG qlc (qas qaP (pv 6) (qaA qap (pv 1) (qcE qbA qae) (fun _ _=>rfl))) (qaA qap (pv 2) (qas qbb (pv 5) (pv 3)) (fun _ _=>rfl)) (nomark _)) (qah (qaC qgo)) qbm)
    (qac (qfN (pv 6) (qfM (pv 4) (pv 5) qbN))
    (qah (qdm (qaG qlc (pv 6) qae (nomark _)) (qah (qbK PassesOwn.never rfl (qcD rfl B.range (qaa (pv 3) qad)) (qaF (i:=7) nd rfl (Or.inl rfl)) (qah (qjK (pv 2) (qas qbb (pv 5) (pv 7)) qig (qas qaP (pv 6) (qaA qap (pv 1) (pv 7) (fun _ _=>rfl))) qgq qbN)))) qbm))))))
    (qah (qaC (qf9 (qp6 (qav (qmy rfl) rfl B.any qqr (qaa (qcA qeH (pv 2) qdt (qdu (pv 3))) qad))) qgo (pv 4)))))))),qkb h⟩
theorem sc_row_less:FnScope ["row", "factor", "other", "weight", "shift", "result", "place", "whole"] ["row", "factor", "other", "weight", "shift"] (qaj qfr):=⟨rfl,rfl,rfl,by decide +kernel,rfl,by decide +kernel,by decide +kernel⟩
theorem qkl (F:Fun K "row_less" "row_less" qfr f fd) (B:Bl K mg) (c_row_trimmed:Cal P w K mg base 1 "row_trimmed" ["row"] (qaM K)):FnOk P w K mg base CX0 2 f fd ["row", "factor", "other", "weight", "shift"] (qbD K):=by
  refine F.ok sc_row_less (fun vs H Q E h=>?_) (fun cdv A outer s H vs Q E hr h=>?_)
  · obtain ⟨_,_,_,_,_,_,_,rfl,_⟩:=h
    rfl
  have nd:=sc_row_less.nd
  have hu:=hr.units0
  have hu64:=hr.units
  exact ⟨qfy K,(qac (qmn (i:=5) (N:=["whole", "factor"]) (capt:=[none,some 1]) nd rfl (Or.inl rfl) rfl (BlkOk.of rfl rfl rfl rfl (List.forall_mem_singleton.mpr rfl) rfl rfl rfl) (qbV (pv 0)) (fun _ _ _ _=>(qaF (i:=0) (show (["whole", "factor"]:List PySem.Str).Nodup by decide +kernel) rfl (Or.inl rfl))) (fun _ _ _ _=>(qas qaP (pv 1) (pv 0))))
    (qac (qjJ (qpa PySem.F.plainAttrs_list PySem.F.slot_list_extend PySem.F.type_list_extend ql4 (pv 5) (qaa (qas qi7 (qbL (qaa qae qad)) (qas qbF (qas qbb (qav qaI rfl B.len qbl (qaa (pv 2) qad)) (pv 4)) (qav qaI rfl B.len qbl (qaa (pv 0) qad)))) qad)))
    (qac (qbK PassesOwn.never rfl (qgb rfl B.enumerate (qaa (pv 2) qad)) (qeI rfl (qbx (qaF (i:=6) nd rfl (Or.inl rfl)) (qbx (qaF (i:=7) nd rfl (Or.inl rfl)) qey))) (qah (qjK (pv 5) (qas qbb (pv 6) (pv 4)) qig (qas qaP (pv 3) (pv 7)) qgq qbN)))
    (qah (qaC (c_row_trimmed.pe hr (by decide) rfl (qaa (pv 5) qad))))))),qka h⟩
theorem sc_strand_rest:FnScope ["strand", "other", "shift", "top", "lead", "shared", "factor", "weight"] ["strand", "other"] (qaj qdw):=⟨rfl,rfl,rfl,by decide +kernel,rfl,by decide +kernel,by decide +kernel⟩
theorem qhy (F:Fun K "strand_rest" "strand_rest" qdw f fd) (B:Bl K mg) (c_common_divisor:Cal P w K mg base 1 "common_divisor" ["one", "other"] (qar K)) (c_row_less:Cal P w K mg base 2 "row_less" ["row", "factor", "other", "weight", "shift"] (qbD K)) (c_strand_shortened:Cal P w K mg base 3 "strand_shortened" ["strand"] (qaH K)):FnOk P w K mg base CX0 4 f fd ["strand", "other"] (qbi K):=by
  refine F.ok sc_strand_rest (fun vs H Q E h=>?_) (fun cdv A outer s H vs Q E hr h=>?_)
  · obtain ⟨_,_,_,rfl,_⟩:=h
    rfl
  have nd:=sc_strand_rest.nd
  have hu:=hr.units0
  have hu64:=hr.units
  exact ⟨qdF K,(qac (qbJ PassesOwn.never (qaG qrg (qav qaI rfl B.len qbl (qaa (qaA qap (pv 0) qae (fun _ _=>rfl)) qad)) (qav qaI rfl B.len qbl (qaa (qaA qap (pv 1) qae (fun _ _=>rfl)) qad)) (nomark _)) (qac (qan (i:=2) nd rfl (Or.inr rfl) (qas qbF (qav qaI rfl B.len qbl (qaa (qaA qap (pv 0) qae (fun _ _=>rfl)) qad)) (qav qaI rfl B.len qbl (qaa (qaA qap (pv 1) qae (fun _ _=>rfl)) qad))))
    (qac (qan (i:=3) nd rfl (Or.inl rfl) (qaA qap (qaA qap (pv 0) qae (fun _ _=>rfl)) (qcE qbA qae) (fun _ _=>rfl)))
    (qac (qan (i:=4) nd rfl (Or.inl rfl) (qaA qap (qaA qap (pv 1) qae (fun _ _=>rfl)) (qcE qbA qae) (fun _ _=>rfl)))
    (qac (qan (i:=5) nd rfl (Or.inl rfl) (c_common_divisor.pe hr (by decide) rfl (qaa (pv 3) (qaa (pv 4) qad))))
    (qac (qan (i:=6) nd rfl (Or.inr rfl) (qas qc1 (pv 4) (pv 5)))
    (qac (qan (i:=7) nd rfl (Or.inr rfl) (qas qc1 (pv 3) (pv 5)))
    (qah (qmn (i:=0) (N:=["row", "follower", "factor", "weight", "shift"]) (capt:=[none,none,some 6,some 7,some 2]) nd rfl (Or.inl rfl) rfl (BlkOk.of rfl rfl rfl rfl (List.forall_mem_cons.mpr ⟨rfl,(List.forall_mem_cons.mpr ⟨rfl,(List.forall_mem_singleton.mpr rfl)⟩)⟩) rfl rfl rfl) (qqq rfl B.zip (qaa (pv 0) (qaa (pv 1) qad))) (fun _ _ _ _=>(qeI rfl (qbx (qaF (i:=0) (show (["row", "follower", "factor", "weight", "shift"]:List PySem.Str).Nodup by decide +kernel) rfl (Or.inl rfl)) (qbx (qaF (i:=1) (show (["row", "follower", "factor", "weight", "shift"]:List PySem.Str).Nodup by decide +kernel) rfl (Or.inl rfl)) qey)))) (fun _ _ _ _=>(c_row_less.pe hr (by decide) rfl (qaa (pv 0) (qaa (pv 2) (qaa (pv 1) (qaa (pv 3) (qaa (pv 4) qad))))))))))))))))
    (qah (qaC (c_strand_shortened.pe hr (by decide) rfl (qaa (pv 0) qad))))),qhv h⟩
theorem sc_strand_shortened:FnScope ["strand", "shared", "row"] ["strand"] (qaj qbO):=⟨rfl,rfl,rfl,by decide +kernel,rfl,by decide +kernel,by decide +kernel⟩
theorem qeU (F:Fun K "strand_shortened" "strand_shortened" qbO f fd) (B:Bl K mg) (c_content:Cal P w K mg base 2 "content" ["row", "start"] (qbZ K)) (c_row_parted:Cal P w K mg base 1 "row_parted" ["row", "divisor"] (qbp K)):FnOk P w K mg base CX0 3 f fd ["strand"] (qaH K):=by
  refine F.ok sc_strand_shortened (fun vs H Q E h=>?_) (fun cdv A outer s H vs Q E hr h=>?_)
  · obtain ⟨_,_,rfl,_⟩:=h
    rfl
  have nd:=sc_strand_shortened.nd
  have hu:=hr.units0
  have hu64:=hr.units
  exact ⟨qbQ K,(qac (qan (i:=1) nd rfl (Or.inr rfl) qae)
    (qac (qbK PassesOwn.never rfl (qbV (pv 0)) (qaF (i:=2) nd rfl (Or.inl rfl)) (qah (qan (i:=1) nd rfl (Or.inr rfl) (c_content.pe hr (by decide) rfl (qaa (pv 2) (qaa (pv 1) qad))))))
    (qah (qaC (qcu (N:=["row", "shared"]) (capt:=[none,some 1]) rfl (BlkOk.of rfl rfl rfl rfl (List.forall_mem_singleton.mpr rfl) rfl rfl rfl) (qbV (pv 0)) (fun _ _ _ _=>(qaF (i:=0) (show (["row", "shared"]:List PySem.Str).Nodup by decide +kernel) rfl (Or.inl rfl))) (fun _ _ _ _=>(c_row_parted.pe hr (by decide) rfl (qaa (pv 0) (qaa (pv 1) qad))))))))),qeT h⟩
theorem sc_row_shortened:FnScope ["row"] ["row"] (qaj qcF):=⟨rfl,rfl,rfl,by decide +kernel,rfl,by decide +kernel,by decide +kernel⟩
theorem qf5 (F:Fun K "row_shortened" "row_shortened" qcF f fd) (B:Bl K mg) (c_strand_shortened:Cal P w K mg base 3 "strand_shortened" ["strand"] (qaH K)):FnOk P w K mg base CX0 4 f fd ["row"] (qay K):=by
  refine F.ok sc_row_shortened (fun vs H Q E h=>?_) (fun cdv A outer s H vs Q E hr h=>?_)
  · obtain ⟨_,_,rfl,_⟩:=h
    rfl
  have nd:=sc_row_shortened.nd
  have hu:=hr.units0
  have hu64:=hr.units
  exact ⟨qcN K,(qah (qaC (qaA qap (c_strand_shortened.pe hr (by decide) rfl (qaa (qbL (qaa (pv 0) qad)) qad)) qae (fun _ _=>rfl)))),qf3 h⟩
theorem sc_strand_euclid:FnScope ["strand", "other", "rest"] ["strand", "other"] (qaj qcG):=⟨rfl,rfl,rfl,by decide +kernel,rfl,by decide +kernel,by decide +kernel⟩
theorem qf6 (F:Fun K "strand_euclid" "strand_euclid" qcG f fd) (B:Bl K mg) (c_strand_rest:Cal P w K mg base 4 "strand_rest" ["strand", "other"] (qbi K)):FnOk P w K mg base CX0 5 f fd ["strand", "other"] (qaV K):=by
  refine F.ok sc_strand_euclid (fun vs H Q E h=>?_) (fun cdv A outer s H vs Q E hr h=>?_)
  · obtain ⟨_,_,_,_,rfl,_⟩:=h
    rfl
  have nd:=sc_strand_euclid.nd
  have hu:=hr.units0
  have hu64:=hr.units
  exact ⟨qcO K,(qac (qbJ PassesOwn.never (qfu (qaA qap (pv 1) qae (fun _ _=>rfl)) (fun _=>rfl)) (qac (qdm (qaG qfZ (qav qaI rfl B.len qbl (qaa (qaA qap (pv 1) qae (fun _ _=>rfl)) qad)) qae (nomark _)) (qah (qaC (pv 1))) qbm)
    (qac (qan (i:=2) nd rfl (Or.inl rfl) (c_strand_rest.pe hr (by decide) rfl (qaa (pv 0) (qaa (pv 1) qad))))
    (qac (qan (i:=0) nd rfl (Or.inl rfl) (pv 1))
    (qah (qan (i:=1) nd rfl (Or.inl rfl) (pv 2)))))))
    (qah (qaC (pv 0)))),qf4 h⟩
theorem sc_inverse_modulo:FnScope ["whole", "prime", "one", "other", "one_weight", "other_weight", "quotient", "rest"] ["whole", "prime"] (qaj qct):=⟨rfl,rfl,rfl,by decide +kernel,rfl,by decide +kernel,by decide +kernel⟩
theorem qfJ (F:Fun K "inverse_modulo" "inverse_modulo" qct f fd) (B:Bl K mg)  : FnOk P w K mg base CX0 1 f fd ["whole", "prime"] (qaX K):=by
  refine F.ok sc_inverse_modulo (fun vs H Q E h=>?_) (fun cdv A outer s H vs Q E hr h=>?_)
  · obtain ⟨_,_,rfl,_⟩:=h
    rfl
  have nd:=sc_inverse_modulo.nd
  have hu:=hr.units0
  have hu64:=hr.units
  exact ⟨qcw K,(qac (qan (i:=2) nd rfl (Or.inl rfl) (pv 1))
    (qac (qan (i:=3) nd rfl (Or.inl rfl) (qas qca (pv 0) (pv 1)))
    (qac (qan (i:=4) nd rfl (Or.inl rfl) qae)
    (qac (qan (i:=5) nd rfl (Or.inl rfl) qae)
    (qac (qbJ PassesOwn.never (qaG qlc (pv 3) qae (nomark _)) (qac (qan (i:=6) nd rfl (Or.inl rfl) (qas qgc (pv 2) (pv 3)))
    (qac (qan (i:=7) nd rfl (Or.inl rfl) (qas qbF (pv 2) (qas qaP (pv 6) (pv 3))))
    (qac (qan (i:=2) nd rfl (Or.inl rfl) (pv 3))
    (qac (qan (i:=3) nd rfl (Or.inl rfl) (pv 7))
    (qac (qan (i:=7) nd rfl (Or.inl rfl) (qas qbF (pv 4) (qas qaP (pv 6) (pv 5))))
    (qac (qan (i:=4) nd rfl (Or.inl rfl) (pv 5))
    (qah (qan (i:=5) nd rfl (Or.inl rfl) (pv 7))))))))))
    (qah (qaC (qas qca (pv 4) (pv 1))))))))),qfE h⟩
theorem sc_rests_modulo:FnScope ["row", "prime"] ["row", "prime"] (qaj qdc):=⟨rfl,rfl,rfl,by decide +kernel,rfl,by decide +kernel,by decide +kernel⟩
theorem qhe (F:Fun K "rests_modulo" "rests_modulo" qdc f fd) (B:Bl K mg)  : FnOk P w K mg base CX0 1 f fd ["row", "prime"] (qa6 K):=by
  refine F.ok sc_rests_modulo (fun vs H Q E h=>?_) (fun cdv A outer s H vs Q E hr h=>?_)
  · obtain ⟨_,_,_,rfl,_⟩:=h
    rfl
  have nd:=sc_rests_modulo.nd
  have hu:=hr.units0
  have hu64:=hr.units
  exact ⟨qdi K,(qah (qaC (qcu (N:=["whole", "prime"]) (capt:=[none,some 1]) rfl (BlkOk.of rfl rfl rfl rfl (List.forall_mem_singleton.mpr rfl) rfl rfl rfl) (qbV (pv 0)) (fun _ _ _ _=>(qaF (i:=0) (show (["whole", "prime"]:List PySem.Str).Nodup by decide +kernel) rfl (Or.inl rfl))) (fun _ _ _ _=>(qas qca (pv 0) (pv 1)))))),qg3 h⟩
theorem sc_row_modulo:FnScope ["row", "prime"] ["row", "prime"] (qaj qdZ):=⟨rfl,rfl,rfl,by decide +kernel,rfl,by decide +kernel,by decide +kernel⟩
theorem qiO (F:Fun K "row_modulo" "row_modulo" qdZ f fd) (B:Bl K mg) (c_rests_modulo:Cal P w K mg base 1 "rests_modulo" ["row", "prime"] (qa6 K)) (c_row_trimmed:Cal P w K mg base 1 "row_trimmed" ["row"] (qaM K)):FnOk P w K mg base CX0 2 f fd ["row", "prime"] (qaZ K):=by
  refine F.ok sc_row_modulo (fun vs H Q E h=>?_) (fun cdv A outer s H vs Q E hr h=>?_)
  · obtain ⟨_,_,_,rfl,_⟩:=h
    rfl
  have nd:=sc_row_modulo.nd
  have hu:=hr.units0
  have hu64:=hr.units
  exact ⟨qeg K,(qah (qaC (c_row_trimmed.pe hr (by decide) rfl (qaa (c_rests_modulo.pe hr (by decide) rfl (qaa (pv 0) (qaa (pv 1) qad))) qad)))),qiA h⟩
theorem sc_monic_modulo:FnScope ["row", "prime", "factor"] ["row", "prime"] (qaj qdd):=⟨rfl,rfl,rfl,by decide +kernel,rfl,by decide +kernel,by decide +kernel⟩
theorem qhf (F:Fun K "monic_modulo" "monic_modulo" qdd f fd) (B:Bl K mg) (c_inverse_modulo:Cal P w K mg base 1 "inverse_modulo" ["whole", "prime"] (qaX K)):FnOk P w K mg base CX0 2 f fd ["row", "prime"] (qaS K):=by
  refine F.ok sc_monic_modulo (fun vs H Q E h=>?_) (fun cdv A outer s H vs Q E hr h=>?_)
  · obtain ⟨_,_,_,rfl,_⟩:=h
    rfl
  have nd:=sc_monic_modulo.nd
  have hu:=hr.units0
  have hu64:=hr.units
  exact ⟨qdj K,(qac (qdm (qp7 (qfu (pv 0) (fun _=>rfl))) (qah (qaC (qbL qad))) qbm)
    (qac (qan (i:=2) nd rfl (Or.inr rfl) (c_inverse_modulo.pe hr (by decide) rfl (qaa (qaA qap (pv 0) (qcE qbA qae) (fun _ _=>rfl)) (qaa (pv 1) qad))))
    (qah (qaC (qcu (N:=["whole", "prime", "factor"]) (capt:=[none,some 1,some 2]) rfl (BlkOk.of rfl rfl rfl rfl (List.forall_mem_cons.mpr ⟨rfl,(List.forall_mem_singleton.mpr rfl)⟩) rfl rfl rfl) (qbV (pv 0)) (fun _ _ _ _=>(qaF (i:=0) (show (["whole", "prime", "factor"]:List PySem.Str).Nodup by decide +kernel) rfl (Or.inl rfl))) (fun _ _ _ _=>(qas qca (qas qaP (pv 0) (pv 2)) (pv 1)))))))),qg4 h⟩
theorem sc_split_modulo:FnScope ["row", "divisor", "modulus", "rest", "last", "quotient", "shift", "weight", "place"] ["row", "divisor", "modulus"] (qaj qde):=⟨rfl,rfl,rfl,by decide +kernel,rfl,by decide +kernel,by decide +kernel⟩
theorem qhg (F:Fun K "split_modulo" "split_modulo" qde f fd) (B:Bl K mg) (c_row_trimmed:Cal P w K mg base 1 "row_trimmed" ["row"] (qaM K)) (c_row_modulo:Cal P w K mg base 2 "row_modulo" ["row", "prime"] (qaZ K)):FnOk P w K mg base CX0 3 f fd ["row", "divisor", "modulus"] (qa7 K):=by
  refine F.ok sc_split_modulo (fun vs H Q E h=>?_) (fun cdv A outer s H vs Q E hr h=>?_)
  · obtain ⟨_,_,_,_,_,_,rfl,_⟩:=h
    rfl
  have nd:=sc_split_modulo.nd
  have hu:=hr.units0
  have hu64:=hr.units
  exact ⟨qdk K,(qac (qan (i:=3) nd rfl (Or.inl rfl) (qbM qfv rfl B.list qjT (qaa (pv 0) qad)))
    (qac (qan (i:=4) nd rfl (Or.inl rfl) (qas qbF (qav qaI rfl B.len qbl (qaa (pv 1) qad)) qae))
    (qac (qan (i:=5) nd rfl (Or.inl rfl) (qas qi7 (qbL (qaa qae qad)) (qav (qgE rfl) rfl B.max qme (qaa (qas qbF (qav qaI rfl B.len qbl (qaa (pv 0) qad)) (pv 4)) (qaa qae qad)))))
    (qac (qbK PassesOwn.never rfl (qjd rfl B.range (qaa (qas qbF (qas qbF (qav qaI rfl B.len qbl (qaa (pv 0) qad)) (pv 4)) qae) (qaa (qcE qbA qae) (qaa (qcE qbA qae) qad)))) (qaF (i:=6) nd rfl (Or.inl rfl)) (qac (qan (i:=7) nd rfl (Or.inl rfl) (qas qca (qaA qap (pv 3) (qas qbb (pv 6) (pv 4)) (fun _ _=>rfl)) (pv 2)))
    (qac (qfN (pv 7) (qfM (pv 5) (pv 6) qbN))
    (qah (qdm (qaG qlc (pv 7) qae (nomark _)) (qah (qbK PassesOwn.never rfl (qcD rfl B.range (qaa (pv 4) qad)) (qaF (i:=8) nd rfl (Or.inl rfl)) (qah (qjK (pv 3) (qas qbb (pv 6) (pv 8)) qig (qas qaP (pv 7) (qaA qap (pv 1) (pv 8) (fun _ _=>rfl))) qgq qbN)))) qbm)))))
    (qah (qaC (qcx (qaa (c_row_trimmed.pe hr (by decide) rfl (qaa (pv 5) qad)) (qaa (c_row_modulo.pe hr (by decide) rfl (qaa (qcA qeH (pv 3) qdt (qdu (pv 4))) (qaa (pv 2) qad))) qad))))))))),qg5 h⟩
theorem sc_rest_modulo:FnScope ["row", "divisor", "modulus"] ["row", "divisor", "modulus"] (qaj qdx):=⟨rfl,rfl,rfl,by decide +kernel,rfl,by decide +kernel,by decide +kernel⟩
theorem qhz (F:Fun K "rest_modulo" "rest_modulo" qdx f fd) (B:Bl K mg) (c_split_modulo:Cal P w K mg base 3 "split_modulo" ["row", "divisor", "modulus"] (qa7 K)):FnOk P w K mg base CX0 4 f fd ["row", "divisor", "modulus"] (qbj K):=by
  refine F.ok sc_rest_modulo (fun vs H Q E h=>?_) (fun cdv A outer s H vs Q E hr h=>?_)
  · obtain ⟨_,_,_,_,_,_,rfl,_⟩:=h
    rfl
  have nd:=sc_rest_modulo.nd
  have hu:=hr.units0
  have hu64:=hr.units
  exact ⟨qdG K,(qah (qaC (qaA qaQ (c_split_modulo.pe hr (by decide) rfl (qaa (pv 0) (qaa (pv 1) (qaa (pv 2) qad)))) qae (fun _ _=>rfl)))),qhu h⟩
theorem sc_euclid_modulo:FnScope ["row", "other", "prime", "rest"] ["row", "other", "prime"] (qaj qcH):=⟨rfl,rfl,rfl,by decide +kernel,rfl,by decide +kernel,by decide +kernel⟩
theorem qf7 (F:Fun K "euclid_modulo" "euclid_modulo" qcH f fd) (B:Bl K mg) (c_row_modulo:Cal P w K mg base 2 "row_modulo" ["row", "prime"] (qaZ K)) (c_monic_modulo:Cal P w K mg base 2 "monic_modulo" ["row", "prime"] (qaS K)) (c_rest_modulo:Cal P w K mg base 4 "rest_modulo" ["row", "divisor", "modulus"] (qbj K)):FnOk P w K mg base CX0 5 f fd ["row", "other", "prime"] (qa0 K):=by
  refine F.ok sc_euclid_modulo (fun vs H Q E h=>?_) (fun cdv A outer s H vs Q E hr h=>?_)
  · obtain ⟨_,_,_,_,_,rfl,_⟩:=h
    rfl
  have nd:=sc_euclid_modulo.nd
  have hu:=hr.units0
  have hu64:=hr.units
  exact ⟨qcS K,(qac (qan (i:=0) nd rfl (Or.inl rfl) (c_monic_modulo.pe hr (by decide) rfl (qaa (c_row_modulo.pe hr (by decide) rfl (qaa (pv 0) (qaa (pv 2) qad))) (qaa (pv 2) qad))))
    (qac (qan (i:=1) nd rfl (Or.inl rfl) (c_monic_modulo.pe hr (by decide) rfl (qaa (c_row_modulo.pe hr (by decide) rfl (qaa (pv 1) (qaa (pv 2) qad))) (qaa (pv 2) qad))))
    (qac (qbJ PassesOwn.never (qfu (pv 1) (fun _=>rfl)) (qac (qan (i:=3) nd rfl (Or.inl rfl) (c_rest_modulo.pe hr (by decide) rfl (qaa (pv 0) (qaa (pv 1) (qaa (pv 2) qad)))))
    (qac (qan (i:=0) nd rfl (Or.inl rfl) (pv 1))
    (qah (qan (i:=1) nd rfl (Or.inl rfl) (c_monic_modulo.pe hr (by decide) rfl (qaa (pv 3) (qaa (pv 2) qad))))))))
    (qah (qaC (pv 0)))))),qf2 h⟩
theorem sc_nearest:FnScope ["whole", "prime", "rest"] ["whole", "prime"] (qaj qgx):=⟨rfl,rfl,rfl,by decide +kernel,rfl,by decide +kernel,by decide +kernel⟩
theorem qlB (F:Fun K "nearest" "nearest" qgx f fd) (B:Bl K mg)  : FnOk P w K mg base CX0 1 f fd ["whole", "prime"] (qb0 K):=by
  refine F.ok sc_nearest (fun vs H Q E h=>?_) (fun cdv A outer s H vs Q E hr h=>?_)
  · obtain ⟨_,_,rfl,_⟩:=h
    rfl
  have nd:=sc_nearest.nd
  have hu:=hr.units0
  have hu64:=hr.units
  exact ⟨qgQ K,(qac (qan (i:=2) nd rfl (Or.inl rfl) (qas qca (pv 0) (pv 1)))
    (qah (qaC (qf9 (qaG qgr (qas qaP qae (pv 2)) (pv 1) (nomark _)) (qas qbF (pv 2) (pv 1)) (pv 2))))),qlu h⟩
theorem sc_common_by_prime:FnScope ["row", "other", "prime", "lead", "found", "guess"] ["row", "other", "prime"] (qaj qbW):=⟨rfl,rfl,rfl,by decide +kernel,rfl,by decide +kernel,by decide +kernel⟩
theorem qfn (F:Fun K "common_by_prime" "common_by_prime" qbW f fd) (B:Bl K mg) (c_common_divisor:Cal P w K mg base 1 "common_divisor" ["one", "other"] (qar K)) (c_euclid_modulo:Cal P w K mg base 5 "euclid_modulo" ["row", "other", "prime"] (qa0 K)) (c_nearest:Cal P w K mg base 1 "nearest" ["whole", "prime"] (qb0 K)) (c_row_shortened:Cal P w K mg base 4 "row_shortened" ["row"] (qay K)) (c_row_over:Cal P w K mg base 1 "row_over" ["row", "divisor"] (qaR K)):FnOk P w K mg base CX0 6 f fd ["row", "other", "prime"] (qaT K):=by
  refine F.ok sc_common_by_prime (fun vs H Q E h=>?_) (fun cdv A outer s H vs Q E hr h=>?_)
  · obtain ⟨_,_,_,_,_,_,_,_,rfl,_⟩:=h
    rfl
  have nd:=sc_common_by_prime.nd
  have hu:=hr.units0
  have hu64:=hr.units
  exact ⟨qb6 K,(qac (qan (i:=3) nd rfl (Or.inr rfl) (c_common_divisor.pe hr (by decide) rfl (qaa (qaA qap (pv 0) (qcE qbA qae) (fun _ _=>rfl)) (qaa (qaA qap (pv 1) (qcE qbA qae) (fun _ _=>rfl)) qad))))
    (qac (qdm (qaG qfZ (qas qca (pv 3) (pv 2)) qae (nomark _)) (qah (qaC qgo)) qbm)
    (qac (qan (i:=4) nd rfl (Or.inl rfl) (c_euclid_modulo.pe hr (by decide) rfl (qaa (pv 0) (qaa (pv 1) (qaa (pv 2) qad)))))
    (qac (qan (i:=5) nd rfl (Or.inl rfl) (c_row_shortened.pe hr (by decide) rfl (qaa (qcu (N:=["whole", "prime", "lead"]) (capt:=[none,some 2,some 3]) rfl (BlkOk.of rfl rfl rfl rfl (List.forall_mem_cons.mpr ⟨rfl,(List.forall_mem_singleton.mpr rfl)⟩) rfl rfl rfl) (qbV (pv 4)) (fun _ _ _ _=>(qaF (i:=0) (show (["whole", "prime", "lead"]:List PySem.Str).Nodup by decide +kernel) rfl (Or.inl rfl))) (fun _ _ _ _=>(c_nearest.pe hr (by decide) rfl (qaa (qas qaP (pv 2) (pv 0)) (qaa (pv 1) qad))))) qad)))
    (qac (qdm (PW.pt (qo3 (qaG qoz (c_row_over.pe hr (by decide) rfl (qaa (pv 0) (qaa (pv 5) qad))) qgo (nomark _)) (qlM (qaG qoz (c_row_over.pe hr (by decide) rfl (qaa (pv 1) (qaa (pv 5) qad))) qgo (nomark _))))) (qah (qaC qgo)) qbm)
    (qah (qaC (pv 5)))))))),qfl h⟩
theorem sc_row_common:FnScope ["row", "other", "one", "two", "exponent", "found"] ["row", "other"] (qaj qd0):=⟨rfl,rfl,rfl,by decide +kernel,rfl,by decide +kernel,by decide +kernel⟩
theorem qiP (F:Fun K "row_common" "row_common" qd0 f fd) (B:Bl K mg) (c_row_shortened:Cal P w K mg base 4 "row_shortened" ["row"] (qay K)) (c_raised:Cal P w K mg base 1 "raised" ["whole", "n"] (qcL K)) (c_common_by_prime:Cal P w K mg base 6 "common_by_prime" ["row", "other", "prime"] (qaT K)) (c_strand_euclid:Cal P w K mg base 5 "strand_euclid" ["strand", "other"] (qaV K)):FnOk P w K mg base CX0 7 f fd ["row", "other"] (qaN K):=by
  refine F.ok sc_row_common (fun vs H Q E h=>?_) (fun cdv A outer s H vs Q E hr h=>?_)
  · obtain ⟨_,_,_,_,_,_,_,rfl,_⟩:=h
    rfl
  have nd:=sc_row_common.nd
  have hu:=hr.units0
  have hu64:=hr.units
  exact ⟨qeh K,(qac (qan (i:=2) nd rfl (Or.inl rfl) (c_row_shortened.pe hr (by decide) rfl (qaa (pv 0) qad)))
    (qac (qan (i:=3) nd rfl (Or.inl rfl) (c_row_shortened.pe hr (by decide) rfl (qaa (pv 1) qad)))
    (qac (qdm (PW.pt (qeX (qfu (pv 0) (fun _=>rfl)) (qdT (qfu (pv 1) (fun _=>rfl))))) (qah (qbK PassesOwn.never rfl (qlQ (qo2 rfl B.EXPONENTS rfl)) (qaF (i:=4) nd rfl (Or.inl rfl)) (qac (qan (i:=5) nd rfl (Or.inl rfl) (c_common_by_prime.pe hr (by decide) rfl (qaa (pv 2) (qaa (pv 3) (qaa (qas qbF (c_raised.pe hr (by decide) rfl (qaa qae (qaa (pv 4) qad))) qae) qad)))))
    (qah (qdm (qaG qo5 (pv 5) qgo (nomark _)) (qah (qaC (pv 5))) qbm))))) qbm)
    (qah (qaC (qaA qap (c_strand_euclid.pe hr (by decide) rfl (qaa (qbL (qaa (pv 2) qad)) (qaa (qbL (qaa (pv 3) qad)) qad))) qae (fun _ _=>rfl))))))),qiD B.xEXPONENTS h⟩
theorem sc_simple_row:FnScope ["row", "short", "simple"] ["row"] (qaj qd1):=⟨rfl,rfl,rfl,by decide +kernel,rfl,by decide +kernel,by decide +kernel⟩
theorem qiQ (F:Fun K "simple_row" "simple_row" qd1 f fd) (B:Bl K mg) (c_row_shortened:Cal P w K mg base 4 "row_shortened" ["row"] (qay K)) (c_row_slope:Cal P w K mg base 1 "row_slope" ["row"] (qbh K)) (c_row_common:Cal P w K mg base 7 "row_common" ["row", "other"] (qaN K)) (c_row_over:Cal P w K mg base 1 "row_over" ["row", "divisor"] (qaR K)):FnOk P w K mg base CX0 8 f fd ["row"] (qbr K):=by
  refine F.ok sc_simple_row (fun vs H Q E h=>?_) (fun cdv A outer s H vs Q E hr h=>?_)
  · obtain ⟨_,_,rfl,_⟩:=h
    rfl
  have nd:=sc_simple_row.nd
  have hu:=hr.units0
  have hu64:=hr.units
  exact ⟨qei K,(qac (qan (i:=1) nd rfl (Or.inl rfl) (c_row_shortened.pe hr (by decide) rfl (qaa (pv 0) qad)))
    (qac (qan (i:=2) nd rfl (Or.inl rfl) (c_row_over.pe hr (by decide) rfl (qaa (pv 1) (qaa (c_row_common.pe hr (by decide) rfl (qaa (pv 1) (qaa (c_row_slope.pe hr (by decide) rfl (qaa (pv 1) qad)) qad))) qad))))
    (qah (qaC (qf9 (qaG qgr (qaA qap (pv 2) (qcE qbA qae) (fun _ _=>rfl)) qae (nomark _)) (pv 2) (qcu (N:=["whole"]) (capt:=[none]) rfl (BlkOk.of rfl rfl rfl rfl (fun _ h=>nomatch h) rfl rfl rfl) (qbV (pv 2)) (fun _ _ _ _=>(qaF (i:=0) (show (["whole"]:List PySem.Str).Nodup by decide +kernel) rfl (Or.inl rfl))) (fun _ _ _ _=>(qcE qbA (pv 0))))))))),qiK h⟩
theorem sc_ratio:FnScope ["top", "bottom", "shared"] ["top", "bottom"] (qaj qjP):=⟨rfl,rfl,rfl,by decide +kernel,rfl,by decide +kernel,by decide +kernel⟩
theorem qoq (F:Fun K "ratio" "ratio" qjP f fd) (B:Bl K mg) (c_common_divisor:Cal P w K mg base 1 "common_divisor" ["one", "other"] (qar K)):FnOk P w K mg base CX0 2 f fd ["top", "bottom"] (qb9 K):=by
  refine F.ok sc_ratio (fun vs H Q E h=>?_) (fun cdv A outer s H vs Q E hr h=>?_)
  · obtain ⟨_,_,rfl,_⟩:=h
    rfl
  have nd:=sc_ratio.nd
  have hu:=hr.units0
  have hu64:=hr.units
  exact ⟨qj5 K,(qac (qan (i:=2) nd rfl (Or.inl rfl) (c_common_divisor.pe hr (by decide) rfl (qaa (pv 0) (qaa (pv 1) qad))))
    (qac (qdm (qaG qnO (pv 1) qae (nomark _)) (qah (qan (i:=2) nd rfl (Or.inl rfl) (qcE qbA (pv 2)))) qbm)
    (qah (qaC (qcx (qaa (qas qc1 (pv 0) (pv 2)) (qaa (qas qc1 (pv 1) (pv 2)) qad))))))),qoc h⟩
theorem sc_times:FnScope ["one", "other"] ["one", "other"] (qaj qjQ):=⟨rfl,rfl,rfl,by decide +kernel,rfl,by decide +kernel,by decide +kernel⟩
theorem qor (F:Fun K "times" "times" qjQ f fd) (B:Bl K mg) (c_ratio:Cal P w K mg base 2 "ratio" ["top", "bottom"] (qb9 K)):FnOk P w K mg base CX0 3 f fd ["one", "other"] (qe5 K):=by
  refine F.ok sc_times (fun vs H Q E h=>?_) (fun cdv A outer s H vs Q E hr h=>?_)
  · obtain ⟨_,_,_,_,_,_,rfl,_⟩:=h
    rfl
  have nd:=sc_times.nd
  have hu:=hr.units0
  have hu64:=hr.units
  exact ⟨qj6 K,(qah (qaC (c_ratio.pe hr (by decide) rfl (qaa (qas qaP (qaA qaQ (pv 0) qae (fun _ _=>rfl)) (qaA qaQ (pv 1) qae (fun _ _=>rfl))) (qaa (qas qaP (qaA qaQ (pv 0) qae (fun _ _=>rfl)) (qaA qaQ (pv 1) qae (fun _ _=>rfl))) qad))))),qoj h⟩
theorem sc_poly:FnScope ["row", "many"] ["row"] (qaj ql7):=⟨rfl,rfl,rfl,by decide +kernel,rfl,by decide +kernel,by decide +kernel⟩
theorem qpT (F:Fun K "poly" "poly" ql7 f fd) (B:Bl K mg)  : FnOk P w K mg base CX0 1 f fd ["row"] (qd9 K):=by
  refine F.ok sc_poly (fun vs H Q E h=>?_) (fun cdv A outer s H vs Q E hr h=>?_)
  · obtain ⟨_,_,_,rfl,_⟩:=h
    rfl
  have nd:=sc_poly.nd
  have hu:=hr.units0
  have hu64:=hr.units
  exact ⟨qmU K,(qac (qan (i:=1) nd rfl (Or.inl rfl) (qav qaI rfl B.len qbl (qaa (pv 0) qad)))
    (qac (qbJ PassesOwn.never (PW.pt (qeX (qaG qgr (pv 1) qae (nomark _)) (qdT (qaG qfZ (qaA qaQ (qaA qap (pv 0) (qas qbF (pv 1) qae) (fun _ _=>rfl)) qae (fun _ _=>rfl)) qae (nomark _))))) (qah (qhF (i:=1) nd rfl (Or.inl rfl) qae qgq)))
    (qah (qaC (qbM qd5 rfl B.tuple qeZ (qaa (qcA qeH (pv 0) qdt (qdu (pv 1))) qad)))))),qpr h⟩
theorem sc_cleared:FnScope ["P", "bottom", "number"] ["P"] (qaj qgy):=⟨rfl,rfl,rfl,by decide +kernel,rfl,by decide +kernel,by decide +kernel⟩
theorem qlC (F:Fun K "cleared" "cleared" qgy f fd) (B:Bl K mg) (c_common_divisor:Cal P w K mg base 1 "common_divisor" ["one", "other"] (qar K)):FnOk P w K mg base CX0 2 f fd ["P"] (qbc K):=by
  refine F.ok sc_cleared (fun vs H Q E h=>?_) (fun cdv A outer s H vs Q E hr h=>?_)
  · obtain ⟨_,_,_,_,rfl,_⟩:=h
    rfl
  have nd:=sc_cleared.nd
  have hu:=hr.units0
  have hu64:=hr.units
  exact ⟨qgR K,(qac (qan (i:=1) nd rfl (Or.inr rfl) qae)
    (qac (qbK PassesOwn.never rfl (qlQ (pv 0)) (qaF (i:=2) nd rfl (Or.inl rfl)) (qah (qhF (i:=1) nd rfl (Or.inr rfl) (qas qgc (qaA qaQ (pv 2) qae (fun _ _=>rfl)) (c_common_divisor.pe hr (by decide) rfl (qaa (pv 1) (qaa (qaA qaQ (pv 2) qae (fun _ _=>rfl)) qad)))) qid)))
    (qah (qaC (qcx (qaa (qcu (N:=["number", "bottom"]) (capt:=[none,some 1]) rfl (BlkOk.of rfl rfl rfl rfl (List.forall_mem_singleton.mpr rfl) rfl rfl rfl) (qlQ (pv 0)) (fun _ _ _ _=>(qaF (i:=0) (show (["number", "bottom"]:List PySem.Str).Nodup by decide +kernel) rfl (Or.inl rfl))) (fun _ _ _ _=>(qas qaP (qaA qaQ (pv 0) qae (fun _ _=>rfl)) (qas qgc (pv 1) (qaA qaQ (pv 0) qae (fun _ _=>rfl)))))) (qaa (pv 1) qad))))))),qls h⟩
theorem sc_uncleared:FnScope ["row", "bottom"] ["row", "bottom"] (qaj qeB):=⟨rfl,rfl,rfl,by decide +kernel,rfl,by decide +kernel,by decide +kernel⟩
theorem qjz (F:Fun K "uncleared" "uncleared" qeB f fd) (B:Bl K mg) (c_ratio:Cal P w K mg base 2 "ratio" ["top", "bottom"] (qb9 K)) (c_poly:Cal P w K mg base 1 "poly" ["row"] (qd9 K)):FnOk P w K mg base CX0 3 f fd ["row", "bottom"] (qbf K):=by
  refine F.ok sc_uncleared (fun vs H Q E h=>?_) (fun cdv A outer s H vs Q E hr h=>?_)
  · obtain ⟨_,_,_,rfl,_⟩:=h
    rfl
  have nd:=sc_uncleared.nd
  have hu:=hr.units0
  have hu64:=hr.units
  exact ⟨qeO K,(qah (qaC (c_poly.pe hr (by decide) rfl (qaa (qcu (N:=["whole", "bottom"]) (capt:=[none,some 1]) rfl (BlkOk.of rfl rfl rfl rfl (List.forall_mem_singleton.mpr rfl) rfl rfl rfl) (qbV (pv 0)) (fun _ _ _ _=>(qaF (i:=0) (show (["whole", "bottom"]:List PySem.Str).Nodup by decide +kernel) rfl (Or.inl rfl))) (fun _ _ _ _=>(c_ratio.pe hr (by decide) rfl (qaa (pv 0) (qaa (pv 1) qad))))) qad)))),qjn h⟩
theorem sc_common:FnScope ["P", "Q", "row"] ["P", "Q"] (qaj qh8):=⟨rfl,rfl,rfl,by decide +kernel,rfl,by decide +kernel,by decide +kernel⟩
theorem qnw (F:Fun K "common" "common" qh8 f fd) (B:Bl K mg) (c_cleared:Cal P w K mg base 2 "cleared" ["P"] (qbc K)) (c_row_common:Cal P w K mg base 7 "row_common" ["row", "other"] (qaN K)) (c_uncleared:Cal P w K mg base 3 "uncleared" ["row", "bottom"] (qbf K)):FnOk P w K mg base CX0 8 f fd ["P", "Q"] (qce K):=by
  refine F.ok sc_common (fun vs H Q E h=>?_) (fun cdv A outer s H vs Q E hr h=>?_)
  · obtain ⟨_,_,_,_,_,_,_,_,_,_,rfl,_⟩:=h
    rfl
  have nd:=sc_common.nd
  have hu:=hr.units0
  have hu64:=hr.units
  exact ⟨qir K,(qac (qan (i:=2) nd rfl (Or.inl rfl) (c_row_common.pe hr (by decide) rfl (qaa (qaA qaQ (c_cleared.pe hr (by decide) rfl (qaa (pv 0) qad)) qae (fun _ _=>rfl)) (qaa (qaA qaQ (c_cleared.pe hr (by decide) rfl (qaa (pv 1) qad)) qae (fun _ _=>rfl)) qad))))
    (qah (qaC (qf9 (qfu (pv 2) (fun _=>rfl)) (c_uncleared.pe hr (by decide) rfl (qaa (pv 2) (qaa (qaA qap (pv 2) (qcE qbA qae) (fun _ _=>rfl)) qad))) (qcx qad))))),qnf h⟩
theorem sc_p_slope:FnScope ["P"] ["P"] (qaj qgz):=⟨rfl,rfl,rfl,by decide +kernel,rfl,by decide +kernel,by decide +kernel⟩
theorem qlD (F:Fun K "p_slope" "p_slope" qgz f fd) (B:Bl K mg) (c_times:Cal P w K mg base 3 "times" ["one", "other"] (qe5 K)):FnOk P w K mg base CX0 4 f fd ["P"] (qb1 K):=by
  refine F.ok sc_p_slope (fun vs H Q E h=>?_) (fun cdv A outer s H vs Q E hr h=>?_)
  · obtain ⟨_,_,_,_,_,rfl,_⟩:=h
    rfl
  have nd:=sc_p_slope.nd
  have hu:=hr.units0
  have hu64:=hr.units
  exact ⟨qgS K,(qah (qaC (qbM qd5 rfl B.tuple qeZ (qaa (qcu (N:=["place", "P"]) (capt:=[none,some 0]) rfl (BlkOk.of rfl rfl rfl rfl (List.forall_mem_singleton.mpr rfl) rfl rfl rfl) (qiY rfl B.range (qaa qae (qaa (qav qe0 rfl B.len qbl (qaa (pv 0) qad)) qad))) (fun _ _ _ _=>(qaF (i:=0) (show (["place", "P"]:List PySem.Str).Nodup by decide +kernel) rfl (Or.inl rfl))) (fun _ _ _ _=>(c_times.pe hr (by decide) rfl (qaa (qaA qaQ (pv 1) (pv 0) (fun _ _=>rfl)) (qaa (qcx (qaa (pv 0) (qaa qae qad))) qad))))) qad)))),qly h⟩
theorem sc_simple_parts:FnScope ["P", "row", "spare", "left", "parts", "kept"] ["P"] (qaj qdf):=⟨rfl,rfl,rfl,by decide +kernel,rfl,by decide +kernel,by decide +kernel⟩
theorem qhh (F:Fun K "simple_parts" "simple_parts" qdf f fd) (B:Bl K mg) (c_cleared:Cal P w K mg base 2 "cleared" ["P"] (qbc K)) (c_row_shortened:Cal P w K mg base 4 "row_shortened" ["row"] (qay K)) (c_row_slope:Cal P w K mg base 1 "row_slope" ["row"] (qbh K)) (c_row_common:Cal P w K mg base 7 "row_common" ["row", "other"] (qaN K)) (c_row_over:Cal P w K mg base 1 "row_over" ["row", "divisor"] (qaR K)) (c_made_monic:Cal P w K mg base 4 "made_monic" ["row"] (qa3 K)):FnOk P w K mg base CX0 8 f fd ["P"] (qa8 K):=by
  refine F.ok sc_simple_parts (fun vs H Q E h=>?_) (fun cdv A outer s H vs Q E hr h=>?_)
  · obtain ⟨_,_,_,rfl,_⟩:=h
    rfl
  have nd:=sc_simple_parts.nd
  have hu:=hr.units0
  have hu64:=hr.units
  exact ⟨qdl K,(qac (qan (i:=1) nd rfl (Or.inl rfl) (c_row_shortened.pe hr (by decide) rfl (qaa (qaA qaQ (c_cleared.pe hr (by decide) rfl (qaa (pv 0) qad)) qae (fun _ _=>rfl)) qad)))
    (qac (qan (i:=2) nd rfl (Or.inl rfl) (c_row_common.pe hr (by decide) rfl (qaa (pv 1) (qaa (c_row_slope.pe hr (by decide) rfl (qaa (pv 1) qad)) qad))))
    (qac (qan (i:=3) nd rfl (Or.inl rfl) (c_row_over.pe hr (by decide) rfl (qaa (pv 1) (qaa (pv 2) qad))))
    (qac (qan (i:=4) nd rfl (Or.inl rfl) (qbL qad))
    (qac (qbJ PassesOwn.never (qaG qgr (qav qaI rfl B.len qbl (qaa (pv 3) qad)) qae (nomark _)) (qac (qan (i:=5) nd rfl (Or.inl rfl) (c_row_common.pe hr (by decide) rfl (qaa (pv 3) (qaa (pv 2) qad))))
    (qac (qjJ (qpa PySem.F.plainAttrs_list PySem.F.slot_list_append PySem.F.type_list_append qi6 (pv 4) (qaa (c_made_monic.pe hr (by decide) rfl (qaa (c_row_over.pe hr (by decide) rfl (qaa (pv 3) (qaa (pv 5) qad))) qad)) qad)))
    (qac (qan (i:=3) nd rfl (Or.inl rfl) (pv 5))
    (qah (qan (i:=2) nd rfl (Or.inl rfl) (c_row_over.pe hr (by decide) rfl (qaa (pv 2) (qaa (pv 5) qad)))))))))
    (qah (qaC (pv 4)))))))),qhd h⟩
theorem sc_made_monic:FnScope ["row"] ["row"] (qaj qd2):=⟨rfl,rfl,rfl,by decide +kernel,rfl,by decide +kernel,by decide +kernel⟩
theorem qiR (F:Fun K "made_monic" "made_monic" qd2 f fd) (B:Bl K mg) (c_uncleared:Cal P w K mg base 3 "uncleared" ["row", "bottom"] (qbf K)):FnOk P w K mg base CX0 4 f fd ["row"] (qa3 K):=by
  refine F.ok sc_made_monic (fun vs H Q E h=>?_) (fun cdv A outer s H vs Q E hr h=>?_)
  · obtain ⟨_,_,rfl,_⟩:=h
    rfl
  have nd:=sc_made_monic.nd
  have hu:=hr.units0
  have hu64:=hr.units
  exact ⟨qej K,(qah (qaC (c_uncleared.pe hr (by decide) rfl (qaa (pv 0) (qaa (qaA qap (pv 0) (qcE qbA qae) (fun _ _=>rfl)) qad))))),qiJ h⟩
theorem sc_radical:FnScope ["P"] ["P"] (qaj qgA):=⟨rfl,rfl,rfl,by decide +kernel,rfl,by decide +kernel,by decide +kernel⟩
theorem qlE (F:Fun K "radical" "radical" qgA f fd) (B:Bl K mg) (c_cleared:Cal P w K mg base 2 "cleared" ["P"] (qbc K)) (c_simple_row:Cal P w K mg base 8 "simple_row" ["row"] (qbr K)) (c_made_monic:Cal P w K mg base 4 "made_monic" ["row"] (qa3 K)):FnOk P w K mg base CX0 9 f fd ["P"] (qb4 K):=by
  refine F.ok sc_radical (fun vs H Q E h=>?_) (fun cdv A outer s H vs Q E hr h=>?_)
  · obtain ⟨_,_,_,rfl,_⟩:=h
    rfl
  have nd:=sc_radical.nd
  have hu:=hr.units0
  have hu64:=hr.units
  exact ⟨qgT K,(qah (qaC (c_made_monic.pe hr (by decide) rfl (qaa (c_simple_row.pe hr (by decide) rfl (qaa (qaA qaQ (c_cleared.pe hr (by decide) rfl (qaa (pv 0) qad)) qae (fun _ _=>rfl)) qad)) qad)))),qlx h⟩
theorem sc_l_hand:FnScope ["_law_script", "_law_first"] ["_law_script"] (qaj qh9):=⟨rfl,rfl,rfl,by decide +kernel,rfl,by decide +kernel,by decide +kernel⟩
theorem qnx (F:Fun K "_law_hand" "_law_hand" qh9 f fd) (B:Bl K mg)  : FnOk P w K mg base CX0 1 f fd ["_law_script"] (qcM K):=by
  refine F.ok sc_l_hand (fun vs H Q E h=>?_) (fun cdv A outer s H vs Q E hr h=>?_)
  · obtain ⟨_,_,rfl,_⟩:=h
    rfl
  have nd:=sc_l_hand.nd
  have hu:=hr.units0
  have hu64:=hr.units
  exact ⟨qis K,(qac (qan (i:=1) nd rfl (Or.inl rfl) (qav (qjg rfl) rfl B.sum qoF (qaa (qcA qjf (pv 0) qdt (qdu qae)) qad)))
    (qah (qaC (qbL (qaa (qbM qfv rfl B.list qjT (qaa (qcA qjf (pv 0) qdt (qdu qae)) qad)) (qaa qae (qaa (qas qie (qav qdo rfl B.abs qhN (qaa (pv 1) qad)) qae) (qaa (qas qca (pv 1) qae) qad)))))))),qnl h⟩
theorem sc_l_draw:FnScope ["_law_hand_here", "_law_many", "_law_found", "_law_cell", "_law_once", "_law_twice"] ["_law_hand_here", "_law_many"] (qaj qia):=⟨rfl,rfl,rfl,by decide +kernel,rfl,by decide +kernel,by decide +kernel⟩
theorem qny (F:Fun K "_law_draw" "_law_draw" qia f fd) (B:Bl K mg)  : FnOk P w K mg base CX0 1 f fd ["_law_hand_here", "_law_many"] (qaU K):=by
  refine F.ok sc_l_draw (fun vs H Q E h=>?_) (fun cdv A outer s H vs Q E hr h=>?_)
  · obtain ⟨_,_,_,_,rfl,_⟩:=h
    rfl
  have nd:=sc_l_draw.nd
  have hu:=hr.units0
  have hu64:=hr.units
  exact ⟨qit K,(qac (qdm (PW.pt (qeX (qaG qfZ (qaA qap (pv 0) qae (fun _ _=>rfl)) qae (nomark _)) (qeX (qaG qfZ (qaA qap (pv 0) qae (fun _ _=>rfl)) qae (nomark _)) (qdT (qaG qnO (qas qbb (qaA qap (pv 0) qae (fun _ _=>rfl)) qae) (qav qaI rfl B.len qbl (qaa (qaA qap (pv 0) qae (fun _ _=>rfl)) qad)) (nomark _)))))) (qac (qfN (qas qbb (qaA qap (pv 0) qae (fun _ _=>rfl)) qae) (qfM (pv 0) qae qbN))
    (qah (qfN (qav qdo rfl B.abs qhN (qaa (qaA qap (qaA qap (pv 0) qae (fun _ _=>rfl)) (qaA qap (pv 0) qae (fun _ _=>rfl)) (fun _ _=>rfl)) qad)) (qfM (pv 0) qae qbN)))) qbm)
    (qac (qdm (PW.pt (qeX (qaG qfZ (qaA qap (pv 0) qae (fun _ _=>rfl)) qae (nomark _)) (qdT (qaG qgr (qaA qap (pv 0) qae (fun _ _=>rfl)) qae (nomark _))))) (qac (qan (i:=2) nd rfl (Or.inl rfl) (qas qca (qaA qap (pv 0) qae (fun _ _=>rfl)) (pv 1)))
    (qac (qfN (qas qie (qaA qap (pv 0) qae (fun _ _=>rfl)) (pv 1)) (qfM (pv 0) qae qbN))
    (qah (qaC (pv 2))))) qbm)
    (qac (qfN (qas qbb (qaA qap (pv 0) qae (fun _ _=>rfl)) qae) (qfM (pv 0) qae qbN))
    (qac (qan (i:=3) nd rfl (Or.inl rfl) (qav (qjg rfl) rfl B.sum qoF (qaa (qcA qeH (qcA qeH (qaA qap (pv 0) qae (fun _ _=>rfl)) (qdu (qas qca (qaA qap (pv 0) qae (fun _ _=>rfl)) (qav (qgE rfl) rfl B.max qme (qaa qae (qaa (qav qaI rfl B.len qbl (qaa (qaA qap (pv 0) qae (fun _ _=>rfl)) qad)) qad))))) qdt) qdt (qdu qae)) qad)))
    (qac (qan (i:=4) nd rfl (Or.inl rfl) (qas qca (qas qaP (qas qbb (qas qbb (qas qca (pv 3) qae) (qas qaP qae (qaA qap (pv 0) qae (fun _ _=>rfl)))) qae) (qas qbb qae (qas qaP qae (qaA qap (pv 0) qae (fun _ _=>rfl))))) qae))
    (qac (qan (i:=5) nd rfl (Or.inl rfl) (qas qca (qas qbb (qas qaP (pv 4) (qas qbb (qas qca (pv 4) qae) (qaA qap (pv 0) qae (fun _ _=>rfl)))) (qas qaP qae (qaA qap (pv 0) qae (fun _ _=>rfl)))) qae))
    (qah (qaC (qas qca (qas qie (pv 5) qae) (pv 1)))))))))),qnm h⟩
theorem sc_l_lowest:FnScope ["_law_top", "_law_bottom", "_law_one", "_law_other"] ["_law_top", "_law_bottom"] (qaj qfs):=⟨rfl,rfl,rfl,by decide +kernel,rfl,by decide +kernel,by decide +kernel⟩
theorem qkm (F:Fun K "_law_lowest" "_law_lowest" qfs f fd) (B:Bl K mg)  : FnOk P w K mg base CX0 1 f fd ["_law_top", "_law_bottom"] (qaY K):=by
  refine F.ok sc_l_lowest (fun vs H Q E h=>?_) (fun cdv A outer s H vs Q E hr h=>?_)
  · obtain ⟨_,_,rfl,_⟩:=h
    rfl
  have nd:=sc_l_lowest.nd
  have hu:=hr.units0
  have hu64:=hr.units
  exact ⟨qfB K,(qac (qox (i:=2) (j:=3) rfl nd rfl rfl (by decide) rfl rfl (qaa (qav qdo rfl B.abs qhN (qaa (pv 0) qad)) (qaa (qav qdo rfl B.abs qhN (qaa (pv 1) qad)) qad)) rfl)
    (qac (qbJ PassesOwn.never (qaG qgr (pv 3) qae (nomark _)) (qah (qox (i:=2) (j:=3) rfl nd rfl rfl (by decide) rfl rfl (qaa (pv 3) (qaa (qas qca (pv 2) (pv 3)) qad)) rfl)))
    (qac (qdm (qaG qnO (pv 1) qae (nomark _)) (qah (qan (i:=2) nd rfl (Or.inl rfl) (qcE qbA (pv 2)))) qbm)
    (qah (qaC (qcx (qaa (qas qc1 (pv 0) (pv 2)) (qaa (qas qc1 (pv 1) (pv 2)) qad)))))))),qki h⟩
theorem sc_l_row_times:FnScope ["_law_one", "_law_other", "_law_made", "_law_k", "_law_a", "_law_j", "_law_b"] ["_law_one", "_law_other"] (qaj qdy):=⟨rfl,rfl,rfl,by decide +kernel,rfl,by decide +kernel,by decide +kernel⟩
theorem qhA (F:Fun K "_law_row_times" "_law_row_times" qdy f fd) (B:Bl K mg)  : FnOk P w K mg base CX0 1 f fd ["_law_one", "_law_other"] (qbk K):=by
  refine F.ok sc_l_row_times (fun vs H Q E h=>?_) (fun cdv A outer s H vs Q E hr h=>?_)
  · obtain ⟨_,_,_,_,_,_,rfl,_⟩:=h
    rfl
  have nd:=sc_l_row_times.nd
  have hu:=hr.units0
  have hu64:=hr.units
  exact ⟨qdH K,(qac (qan (i:=2) nd rfl (Or.inl rfl) (qas qi7 (qbL (qaa qae qad)) (qas qbF (qas qbb (qav qaI rfl B.len qbl (qaa (pv 0) qad)) (qav qaI rfl B.len qbl (qaa (pv 1) qad))) qae)))
    (qac (qbK PassesOwn.never rfl (qgb rfl B.enumerate (qaa (pv 0) qad)) (qeI rfl (qbx (qaF (i:=3) nd rfl (Or.inl rfl)) (qbx (qaF (i:=4) nd rfl (Or.inl rfl)) qey))) (qah (qbK PassesOwn.never rfl (qgb rfl B.enumerate (qaa (pv 1) qad)) (qeI rfl (qbx (qaF (i:=5) nd rfl (Or.inl rfl)) (qbx (qaF (i:=6) nd rfl (Or.inl rfl)) qey))) (qah (qfN (qas qbb (qaA qap (pv 2) (qas qbb (pv 3) (pv 5)) (fun _ _=>rfl)) (qas qaP (pv 4) (pv 6))) (qfM (pv 2) (qas qbb (pv 3) (pv 5)) qbN))))))
    (qah (qaC (pv 2))))),qhw h⟩
theorem sc_l_poly_of:FnScope ["_law_row", "_law_scale_here"] ["_law_row", "_law_scale_here"] (qaj qeC):=⟨rfl,rfl,rfl,by decide +kernel,rfl,by decide +kernel,by decide +kernel⟩
theorem qjA (F:Fun K "_law_poly_of" "_law_poly_of" qeC f fd) (B:Bl K mg) (c_l_lowest:Cal P w K mg base 1 "_law_lowest" ["_law_top", "_law_bottom"] (qaY K)):FnOk P w K mg base CX0 2 f fd ["_law_row", "_law_scale_here"] (qbB K):=by
  refine F.ok sc_l_poly_of (fun vs H Q E h=>?_) (fun cdv A outer s H vs Q E hr h=>?_)
  · obtain ⟨_,_,_,_,_,rfl,_⟩:=h
    rfl
  have nd:=sc_l_poly_of.nd
  have hu:=hr.units0
  have hu64:=hr.units
  exact ⟨qeP K,(qah (qaC (qbM qd5 rfl B.tuple qeZ (qaa (qcu (N:=["_law_one", "_law_scale_here"]) (capt:=[none,some 1]) rfl (BlkOk.of rfl rfl rfl rfl (List.forall_mem_singleton.mpr rfl) rfl rfl rfl) (qbV (pv 0)) (fun _ _ _ _=>(qaF (i:=0) (show (["_law_one", "_law_scale_here"]:List PySem.Str).Nodup by decide +kernel) rfl (Or.inl rfl))) (fun _ _ _ _=>(c_l_lowest.pe hr (by decide) rfl (qaa (qas qaP (pv 0) (qaA qaQ (pv 1) qae (fun _ _=>rfl))) (qaa (qaA qaQ (pv 1) qae (fun _ _=>rfl)) qad))))) qad)))),qjt h⟩
theorem sc_l_scale:FnScope ["_law_hand_here"] ["_law_hand_here"] (qaj qgB):=⟨rfl,rfl,rfl,by decide +kernel,rfl,by decide +kernel,by decide +kernel⟩
theorem qlF (F:Fun K "_law_scale" "_law_scale" qgB f fd) (B:Bl K mg) (c_l_draw:Cal P w K mg base 1 "_law_draw" ["_law_hand_here", "_law_many"] (qaU K)) (c_l_lowest:Cal P w K mg base 1 "_law_lowest" ["_law_top", "_law_bottom"] (qaY K)):FnOk P w K mg base CX0 2 f fd ["_law_hand_here"] (qb2 K):=by
  refine F.ok sc_l_scale (fun vs H Q E h=>?_) (fun cdv A outer s H vs Q E hr h=>?_)
  · obtain ⟨_,_,_,rfl,_⟩:=h
    rfl
  have nd:=sc_l_scale.nd
  have hu:=hr.units0
  have hu64:=hr.units
  exact ⟨qgU K,(qah (qaC (c_l_lowest.pe hr (by decide) rfl (qaa (qas qaP (qaA qap (qbL (qaa qae (qaa (qcE qbA qae) qad))) (c_l_draw.pe hr (by decide) rfl (qaa (pv 0) (qaa qae qad))) (fun _ _=>rfl)) (qas qbb qae (c_l_draw.pe hr (by decide) rfl (qaa (pv 0) (qaa qae qad))))) (qaa (qas qbb qae (c_l_draw.pe hr (by decide) rfl (qaa (pv 0) (qaa qae qad)))) qad))))),qlw h⟩
theorem sc_l_any_row:FnScope ["_law_hand_here", "_law_most", "_law_size", "_law_row", "_law_k"] ["_law_hand_here", "_law_most", "_law_size"] (qaj qeD):=⟨rfl,rfl,rfl,by decide +kernel,rfl,by decide +kernel,by decide +kernel⟩
theorem qjB (F:Fun K "_law_any_row" "_law_any_row" qeD f fd) (B:Bl K mg) (c_l_draw:Cal P w K mg base 1 "_law_draw" ["_law_hand_here", "_law_many"] (qaU K)):FnOk P w K mg base CX0 2 f fd ["_law_hand_here", "_law_most", "_law_size"] (qbg K):=by
  refine F.ok sc_l_any_row (fun vs H Q E h=>?_) (fun cdv A outer s H vs Q E hr h=>?_)
  · obtain ⟨_,_,_,_,_,rfl,_⟩:=h
    rfl
  have nd:=sc_l_any_row.nd
  have hu:=hr.units0
  have hu64:=hr.units
  exact ⟨qeQ K,(qac (qan (i:=3) nd rfl (Or.inl rfl) (qbL qad))
    (qac (qbK PassesOwn.never rfl (qcD rfl B.range (qaa (c_l_draw.pe hr (by decide) rfl (qaa (pv 0) (qaa (qas qbb (pv 1) qae) qad))) qad)) (qaF (i:=4) nd rfl (Or.inl rfl)) (qah (qjJ (qpa PySem.F.plainAttrs_list PySem.F.slot_list_append PySem.F.type_list_append qi6 (pv 3) (qaa (qaA qap (qbL (qaa qae (qaa qae (qaa (qcE qbA qae) (qaa (qas qbF (c_l_draw.pe hr (by decide) rfl (qaa (pv 0) (qaa (qas qbb (qas qaP qae (pv 2)) qae) qad))) (pv 2)) qad))))) (c_l_draw.pe hr (by decide) rfl (qaa (pv 0) (qaa qae qad))) (fun _ _=>rfl)) qad)))))
    (qah (qaC (qas qqh (pv 3) (qbL (qaa (qas qaP (qaA qap (qbL (qaa qae (qaa (qcE qbA qae) qad))) (c_l_draw.pe hr (by decide) rfl (qaa (pv 0) (qaa qae qad))) (fun _ _=>rfl)) (qas qbb qae (c_l_draw.pe hr (by decide) rfl (qaa (pv 0) (qaa (pv 2) qad))))) qad))))))),qju h⟩
theorem sc_l_monic_of:FnScope ["_law_row"] ["_law_row"] (qaj qd3):=⟨rfl,rfl,rfl,by decide +kernel,rfl,by decide +kernel,by decide +kernel⟩
theorem qiS (F:Fun K "_law_monic_of" "_law_monic_of" qd3 f fd) (B:Bl K mg) (c_l_lowest:Cal P w K mg base 1 "_law_lowest" ["_law_top", "_law_bottom"] (qaY K)):FnOk P w K mg base CX0 2 f fd ["_law_row"] (qbq K):=by
  refine F.ok sc_l_monic_of (fun vs H Q E h=>?_) (fun cdv A outer s H vs Q E hr h=>?_)
  · obtain ⟨_,_,rfl,_⟩:=h
    rfl
  have nd:=sc_l_monic_of.nd
  have hu:=hr.units0
  have hu64:=hr.units
  exact ⟨qek K,(qah (qaC (qbM qd5 rfl B.tuple qeZ (qaa (qcu (N:=["_law_one", "_law_row"]) (capt:=[none,some 0]) rfl (BlkOk.of rfl rfl rfl rfl (List.forall_mem_singleton.mpr rfl) rfl rfl rfl) (qbV (pv 0)) (fun _ _ _ _=>(qaF (i:=0) (show (["_law_one", "_law_row"]:List PySem.Str).Nodup by decide +kernel) rfl (Or.inl rfl))) (fun _ _ _ _=>(c_l_lowest.pe hr (by decide) rfl (qaa (pv 0) (qaa (qaA qap (pv 1) (qcE qbA qae) (fun _ _=>rfl)) qad))))) qad)))),qiH h⟩
theorem sc_l_sum:FnScope ["_law_one", "_law_other"] ["_law_one", "_law_other"] (qaj qjR):=⟨rfl,rfl,rfl,by decide +kernel,rfl,by decide +kernel,by decide +kernel⟩
theorem qos (F:Fun K "_law_sum" "_law_sum" qjR f fd) (B:Bl K mg) (c_l_lowest:Cal P w K mg base 1 "_law_lowest" ["_law_top", "_law_bottom"] (qaY K)):FnOk P w K mg base CX0 2 f fd ["_law_one", "_law_other"] (qe6 K):=by
  refine F.ok sc_l_sum (fun vs H Q E h=>?_) (fun cdv A outer s H vs Q E hr h=>?_)
  · obtain ⟨_,_,_,_,_,_,rfl,_⟩:=h
    rfl
  have nd:=sc_l_sum.nd
  have hu:=hr.units0
  have hu64:=hr.units
  exact ⟨qj7 K,(qah (qaC (c_l_lowest.pe hr (by decide) rfl (qaa (qas qbb (qas qaP (qaA qaQ (pv 0) qae (fun _ _=>rfl)) (qaA qaQ (pv 1) qae (fun _ _=>rfl))) (qas qaP (qaA qaQ (pv 1) qae (fun _ _=>rfl)) (qaA qaQ (pv 0) qae (fun _ _=>rfl)))) (qaa (qas qaP (qaA qaQ (pv 0) qae (fun _ _=>rfl)) (qaA qaQ (pv 1) qae (fun _ _=>rfl))) qad))))),qok h⟩
theorem sc_l_product:FnScope ["_law_one", "_law_other"] ["_law_one", "_law_other"] (qaj qeE):=⟨rfl,rfl,rfl,by decide +kernel,rfl,by decide +kernel,by decide +kernel⟩
theorem qjC (F:Fun K "_law_product" "_law_product" qeE f fd) (B:Bl K mg) (c_l_lowest:Cal P w K mg base 1 "_law_lowest" ["_law_top", "_law_bottom"] (qaY K)):FnOk P w K mg base CX0 2 f fd ["_law_one", "_law_other"] (qcg K):=by
  refine F.ok sc_l_product (fun vs H Q E h=>?_) (fun cdv A outer s H vs Q E hr h=>?_)
  · obtain ⟨_,_,_,_,_,_,rfl,_⟩:=h
    rfl
  have nd:=sc_l_product.nd
  have hu:=hr.units0
  have hu64:=hr.units
  exact ⟨qeR K,(qah (qaC (c_l_lowest.pe hr (by decide) rfl (qaa (qas qaP (qaA qaQ (pv 0) qae (fun _ _=>rfl)) (qaA qaQ (pv 1) qae (fun _ _=>rfl))) (qaa (qas qaP (qaA qaQ (pv 0) qae (fun _ _=>rfl)) (qaA qaQ (pv 1) qae (fun _ _=>rfl))) qad))))),qjr h⟩
theorem sc_l_trimmed:FnScope ["_law_row", "_law_many"] ["_law_row"] (qaj qeF):=⟨rfl,rfl,rfl,by decide +kernel,rfl,by decide +kernel,by decide +kernel⟩
theorem qjD (F:Fun K "_law_trimmed" "_law_trimmed" qeF f fd) (B:Bl K mg)  : FnOk P w K mg base CX0 1 f fd ["_law_row"] (qch K):=by
  refine F.ok sc_l_trimmed (fun vs H Q E h=>?_) (fun cdv A outer s H vs Q E hr h=>?_)
  · obtain ⟨_,_,_,rfl,_⟩:=h
    rfl
  have nd:=sc_l_trimmed.nd
  have hu:=hr.units0
  have hu64:=hr.units
  exact ⟨qeS K,(qac (qan (i:=1) nd rfl (Or.inl rfl) (qav qaI rfl B.len qbl (qaa (pv 0) qad)))
    (qac (qbJ PassesOwn.never (PW.pt (qeX (qaG qgr (pv 1) qae (nomark _)) (qdT (qaG qfZ (qaA qaQ (qaA qap (pv 0) (qas qbF (pv 1) qae) (fun _ _=>rfl)) qae (fun _ _=>rfl)) qae (nomark _))))) (qah (qan (i:=1) nd rfl (Or.inl rfl) (qas qbF (pv 1) qae))))
    (qah (qaC (qbM qd5 rfl B.tuple qeZ (qaa (qcA qeH (pv 0) qdt (qdu (pv 1))) qad)))))),qjs h⟩
theorem sc_l_times:FnScope ["_law_kp", "_law_kq", "_law_row", "_law_k", "_law_one", "_law_j", "_law_other"] ["_law_kp", "_law_kq"] (qaj qgC):=⟨rfl,rfl,rfl,by decide +kernel,rfl,by decide +kernel,by decide +kernel⟩
theorem qlG (F:Fun K "_law_times" "_law_times" qgC f fd) (B:Bl K mg) (c_l_product:Cal P w K mg base 2 "_law_product" ["_law_one", "_law_other"] (qcg K)) (c_l_sum:Cal P w K mg base 2 "_law_sum" ["_law_one", "_law_other"] (qe6 K)) (c_l_trimmed:Cal P w K mg base 1 "_law_trimmed" ["_law_row"] (qch K)):FnOk P w K mg base CX0 3 f fd ["_law_kp", "_law_kq"] (qb3 K):=by
  refine F.ok sc_l_times (fun vs H Q E h=>?_) (fun cdv A outer s H vs Q E hr h=>?_)
  · obtain ⟨_,_,_,_,_,_,_,_,_,_,rfl,_⟩:=h
    rfl
  have nd:=sc_l_times.nd
  have hu:=hr.units0
  have hu64:=hr.units
  exact ⟨qgV K,(qac (qan (i:=2) nd rfl (Or.inl rfl) (qas qi7 (qbL (qaa (qcx (qaa qae (qaa qae qad))) qad)) (qas qbb (qav qe0 rfl B.len qbl (qaa (pv 0) qad)) (qav qe0 rfl B.len qbl (qaa (pv 1) qad)))))
    (qac (qbK PassesOwn.never rfl (qkE rfl B.enumerate (qaa (pv 0) qad)) (qeI rfl (qbx (qaF (i:=3) nd rfl (Or.inl rfl)) (qbx (qaF (i:=4) nd rfl (Or.inl rfl)) qey))) (qah (qbK PassesOwn.never rfl (qkE rfl B.enumerate (qaa (pv 1) qad)) (qeI rfl (qbx (qaF (i:=5) nd rfl (Or.inl rfl)) (qbx (qaF (i:=6) nd rfl (Or.inl rfl)) qey))) (qah (qfN (c_l_sum.pe hr (by decide) rfl (qaa (qaA qap (pv 2) (qas qbb (pv 3) (pv 5)) (fun _ _=>rfl)) (qaa (c_l_product.pe hr (by decide) rfl (qaa (pv 4) (qaa (pv 6) qad))) qad))) (qfM (pv 2) (qas qbb (pv 3) (pv 5)) qbN))))))
    (qah (qaC (c_l_trimmed.pe hr (by decide) rfl (qaa (pv 2) qad)))))),qlv h⟩
theorem sc_l_apart:FnScope ["_law_parts", "_law_k", "_law_j"] ["_law_parts"] (qaj qgD):=⟨rfl,rfl,rfl,by decide +kernel,rfl,by decide +kernel,by decide +kernel⟩
theorem qlH (F:Fun K "_law_apart" "_law_apart" qgD f fd) (B:Bl K mg) (c_p_slope:Cal P w K mg base 4 "p_slope" ["P"] (qb1 K)) (c_common:Cal P w K mg base 8 "common" ["P", "Q"] (qce K)):FnOk P w K mg base CX0 9 f fd ["_law_parts"] (qb5 K):=by
  refine F.ok sc_l_apart (fun vs H Q E h=>?_) (fun cdv A outer s H vs Q E hr h=>?_)
  · obtain ⟨_,_,_,rfl,_⟩:=h
    rfl
  have nd:=sc_l_apart.nd
  have hu:=hr.units0
  have hu64:=hr.units
  exact ⟨qgX K,(qac (qbK PassesOwn.never rfl (qcD rfl B.range (qaa (qav qaI rfl B.len qbl (qaa (pv 0) qad)) qad)) (qaF (i:=1) nd rfl (Or.inl rfl)) (qac (qdm (PW.pt (qo3 (qaG (qkF hu64) (qaA qaQ (qaA qap (pv 0) (pv 1) (fun _ _=>rfl)) (qcE qbA qae) (fun _ _=>rfl)) (qcx (qaa qae (qaa qae qad))) (nomark _)) (qlM (qaG (qkF hu64) (c_common.pe hr (by decide) rfl (qaa (qaA qap (pv 0) (pv 1) (fun _ _=>rfl)) (qaa (c_p_slope.pe hr (by decide) rfl (qaa (qaA qap (pv 0) (pv 1) (fun _ _=>rfl)) qad)) qad))) (qcx (qaa (qcx (qaa qae (qaa qae qad))) qad)) (nomark _))))) (qah (qaC qnK)) qbm)
    (qah (qbK PassesOwn.never rfl (qcD rfl B.range (qaa (pv 1) qad)) (qaF (i:=2) nd rfl (Or.inl rfl)) (qah (qdm (qaG (qkF hu64) (c_common.pe hr (by decide) rfl (qaa (qaA qap (pv 0) (pv 1) (fun _ _=>rfl)) (qaa (qaA qap (pv 0) (pv 2) (fun _ _=>rfl)) qad))) (qcx (qaa (qcx (qaa qae (qaa qae qad))) qad)) (nomark _)) (qah (qaC qnK)) qbm))))))
    (qah (qaC qnK))),qlz h⟩
theorem sc_law:FnScope ["_law_script", "_law_hand_here", "_law_row", "_law_other", "_law_turn", "_law_kp", "_law_found", "_law_full", "_law_simple", "_law_k", "_law_part"] ["_law_script"] (qaj qlf):=⟨rfl,rfl,rfl,by decide +kernel,rfl,by decide +kernel,by decide +kernel⟩
theorem qq3 (F:Fun K "law" "law" qlf f fd) (B:Bl K mg) (c_l_hand:Cal P w K mg base 1 "_law_hand" ["_law_script"] (qcM K)) (c_l_draw:Cal P w K mg base 1 "_law_draw" ["_law_hand_here", "_law_many"] (qaU K)) (c_l_any_row:Cal P w K mg base 2 "_law_any_row" ["_law_hand_here", "_law_most", "_law_size"] (qbg K)) (c_l_row_times:Cal P w K mg base 1 "_law_row_times" ["_law_one", "_law_other"] (qbk K)) (c_l_scale:Cal P w K mg base 2 "_law_scale" ["_law_hand_here"] (qb2 K)) (c_l_poly_of:Cal P w K mg base 2 "_law_poly_of" ["_law_row", "_law_scale_here"] (qbB K)) (c_simple_parts:Cal P w K mg base 8 "simple_parts" ["P"] (qa8 K)) (c_l_times:Cal P w K mg base 3 "_law_times" ["_law_kp", "_law_kq"] (qb3 K)) (c_l_monic_of:Cal P w K mg base 2 "_law_monic_of" ["_law_row"] (qbq K)) (c_radical:Cal P w K mg base 9 "radical" ["P"] (qb4 K)) (c_l_apart:Cal P w K mg base 9 "_law_apart" ["_law_parts"] (qb5 K)):FnOk P w K mg base CX0 10 f fd ["_law_script"] (qjk K):=by
  refine F.ok sc_law (fun vs H Q E h=>?_) (fun cdv A outer s H vs Q E hr h=>?_)
  · obtain ⟨_,_,rfl,_⟩:=h
    rfl
  have nd:=sc_law.nd
  have hu:=hr.units0
  have hu64:=hr.units
  exact ⟨qpq K,(qac (qan (i:=1) nd rfl (Or.inl rfl) (c_l_hand.pe hr (by decide) rfl (qaa (pv 0) qad)))
    (qac (qan (i:=2) nd rfl (Or.inl rfl) (c_l_any_row.pe hr (by decide) rfl (qaa (pv 1) (qaa (qaA qap (qbL (qaa qae (qaa qae qad))) (qbM qmg rfl B.int qqm (qaa (qjM qfZ (c_l_draw.pe hr (by decide) rfl (qaa (pv 1) (qaa qae qad))) qae (nomark _)) qad)) (fun _ _=>rfl)) (qaa qae qad)))))
    (qac (qdm (qaG qfZ (c_l_draw.pe hr (by decide) rfl (qaa (pv 1) (qaa qae qad))) qae (nomark _)) (qac (qan (i:=2) nd rfl (Or.inl rfl) (c_l_any_row.pe hr (by decide) rfl (qaa (pv 1) (qaa qae (qaa qae qad)))))
    (qac (qan (i:=3) nd rfl (Or.inl rfl) (c_l_any_row.pe hr (by decide) rfl (qaa (pv 1) (qaa qae (qaa qae qad)))))
    (qah (qbK PassesOwn.never rfl (qcD rfl B.range (qaa (qas qbb qae (c_l_draw.pe hr (by decide) rfl (qaa (pv 1) (qaa qae qad)))) qad)) (qaF (i:=4) nd rfl (Or.inl rfl)) (qah (qan (i:=2) nd rfl (Or.inl rfl) (c_l_row_times.pe hr (by decide) rfl (qaa (pv 2) (qaa (pv 3) qad))))))))) qbm)
    (qac (qan (i:=5) nd rfl (Or.inl rfl) (c_l_poly_of.pe hr (by decide) rfl (qaa (pv 2) (qaa (c_l_scale.pe hr (by decide) rfl (qaa (pv 1) qad)) qad))))
    (qac (qan (i:=6) nd rfl (Or.inl rfl) (c_simple_parts.pe hr (by decide) rfl (qaa (pv 5) qad)))
    (qac (qan (i:=7) nd rfl (Or.inl rfl) (qcx (qaa (qcx (qaa qae (qaa qae qad))) qad)))
    (qac (qan (i:=8) nd rfl (Or.inl rfl) (qcx (qaa (qcx (qaa qae (qaa qae qad))) qad)))
    (qac (qbK PassesOwn.never rfl (qgb rfl B.enumerate (qaa (pv 6) qad)) (qeI rfl (qbx (qaF (i:=9) nd rfl (Or.inl rfl)) (qbx (qaF (i:=10) nd rfl (Or.inl rfl)) qey))) (qac (qan (i:=8) nd rfl (Or.inl rfl) (c_l_times.pe hr (by decide) rfl (qaa (pv 8) (qaa (pv 10) qad))))
    (qah (qbK PassesOwn.never rfl (qcD rfl B.range (qaa (qas qbb (pv 9) qae) qad)) (qaF (i:=4) nd rfl (Or.inl rfl)) (qah (qan (i:=7) nd rfl (Or.inl rfl) (c_l_times.pe hr (by decide) rfl (qaa (pv 7) (qaa (pv 10) qad)))))))))
    (qac (qdm (PW.pt (qo3 (PW.pt (qeX (qaG (qkF hu64) (pv 6) (qbL qad) (nomark _)) (qdT (qaG qnO (qav qe0 rfl B.len qbl (qaa (qaA qap (pv 6) (qcE qbA qae) (fun _ _=>rfl)) qad)) qae (nomark _))))) (qlM (PW.pt (qeX (qaG (qmq hu64) (pv 6) (qbL qad) (nomark _)) (qdT (qaG qgr (qav qaI rfl B.len qbl (qaa (pv 2) qad)) qae (nomark _)))))))) (qah (qaC qnK)) qbm)
    (qah (qaC (qow (qjM (qmq hu64) (pv 7) (c_l_monic_of.pe hr (by decide) rfl (qaa (pv 2) qad)) (nomark _)) (qow (qjM (qmq hu64) (pv 8) (c_radical.pe hr (by decide) rfl (qaa (pv 5) qad)) (nomark _)) (qp9 (c_l_apart.pe hr (by decide) rfl (qaa (pv 6) qad)))))))))))))))),qq2 h⟩
end
end Bs
namespace Bs
open PySem PySem.Spec PyProof.Rows L2
set_option maxHeartbeats 4000000
open Hd
theorem qa9 {K:W.Frag} {st:Stmt} {f c:Addr} {n:Str} {pm:Value} (l:K.lookup f=some (fnO n st pm c)) (e:PySem.W.codeIn K (.ref c) n=true) (k:PySem.W.keepIn K (.ref f)=true):Fun K n n st f (PySem.W.fnOf n n (qez st) (qdX st) (qaj st) .none .none .none pm none (.ref c) .none):=qqi (st:=st) l e k
theorem qaK {P:Program} {K:W.Frag} {w:World} {h base:Heap} {mg:Str→Option Value} {k:Nat} {f:Addr} {fd:FuncData} {n:Str} {ps:List Str} {sp:Sp} (X:K.In h) (G:h.Ns mainGlobals mg) (ok:FnOk P w K mg base CX0 k f fd ps sp) (b:Binds K fd ps []) (e:PySem.W.keepIn K (.ref f)=true) (a:PySem.W.nsIn K mainGlobals n=some (some (.ref f))):Cal P w K mg base k n ps sp:=⟨f,fd,ok,b,e,PySem.W.mg_of X G a⟩
theorem qjH:∀ us:List Value,us.length=1→∃ x0,us=[x0]
  | [x0],_=>⟨x0,rfl⟩
theorem qgn:∀ us:List Value,us.length=2→∃ x0 x1,us=[x0,x1]
  | [x0,x1],_=>⟨x0,x1,rfl⟩
theorem qq4:∀ us:List Value,us.length=3→∃ x0 x1 x2,us=[x0,x1,x2]
  | [x0,x1,x2],_=>⟨x0,x1,x2,rfl⟩
theorem qse:∀ us:List Value,us.length=5→∃ x0 x1 x2 x3 x4,us=[x0,x1,x2,x3,x4]
  | [x0,x1,x2,x3,x4],_=>⟨x0,x1,x2,x3,x4,rfl⟩
section
variable {P:Program} {w:World} {mg:Str→Option Value} {base h:Heap}
theorem qbw (X:(hp w.params).In h) (G:h.Ns mainGlobals mg) (B:Bl (hp w.params) mg):Cal P w (hp w.params) mg base 1 "common_divisor" ["one", "other"] (qar (hp w.params)):=by
  have F:=qa9 (K:=hp w.params) (st:=qcs) (f:=22) (c:=21) (n := "common_divisor") (pm:=mo0) (by kernel_rfl) (by kernel_rfl) (by kernel_rfl)
  exact qaK X G (qfI F B ) (F.binds fun _ _ _ _ _ _ us hl=>by obtain ⟨_,_,rfl⟩:=qgn us hl;rfl) (by kernel_rfl) (by kernel_rfl)
theorem qot (X:(hp w.params).In h) (G:h.Ns mainGlobals mg) (B:Bl (hp w.params) mg):Cal P w (hp w.params) mg base 1 "raised" ["whole", "n"] (qcL (hp w.params)):=by
  have F:=qa9 (K:=hp w.params) (st:=qh7) (f:=29) (c:=28) (n := "raised") (pm:=mo0) (by kernel_rfl) (by kernel_rfl) (by kernel_rfl)
  exact qaK X G (qnv F B ) (F.binds fun _ _ _ _ _ _ us hl=>by obtain ⟨_,_,rfl⟩:=qgn us hl;rfl) (by kernel_rfl) (by kernel_rfl)
theorem qdI (X:(hp w.params).In h) (G:h.Ns mainGlobals mg) (B:Bl (hp w.params) mg):Cal P w (hp w.params) mg base 1 "row_trimmed" ["row"] (qaM (hp w.params)):=by
  have F:=qa9 (K:=hp w.params) (st:=qdv) (f:=41) (c:=40) (n := "row_trimmed") (pm:=mo0) (by kernel_rfl) (by kernel_rfl) (by kernel_rfl)
  exact qaK X G (qhx F B ) (F.binds fun _ _ _ _ _ _ us hl=>by obtain ⟨_,rfl⟩:=qjH us hl;rfl) (by kernel_rfl) (by kernel_rfl)
theorem qjE (X:(hp w.params).In h) (G:h.Ns mainGlobals mg) (B:Bl (hp w.params) mg):Cal P w (hp w.params) mg base 1 "row_parted" ["row", "divisor"] (qbp (hp w.params)):=by
  have F:=qa9 (K:=hp w.params) (st:=qdY) (f:=46) (c:=45) (n := "row_parted") (pm:=mo0) (by kernel_rfl) (by kernel_rfl) (by kernel_rfl)
  exact qaK X G (qiN F B ) (F.binds fun _ _ _ _ _ _ us hl=>by obtain ⟨_,_,rfl⟩:=qgn us hl;rfl) (by kernel_rfl) (by kernel_rfl)
theorem qhi (X:(hp w.params).In h) (G:h.Ns mainGlobals mg) (B:Bl (hp w.params) mg):Cal P w (hp w.params) mg base 1 "row_slope" ["row"] (qbh (hp w.params)):=by
  have F:=qa9 (K:=hp w.params) (st:=qeA) (f:=51) (c:=50) (n := "row_slope") (pm:=mo0) (by kernel_rfl) (by kernel_rfl) (by kernel_rfl)
  exact qaK X G (qjy F B ) (F.binds fun _ _ _ _ _ _ us hl=>by obtain ⟨_,rfl⟩:=qjH us hl;rfl) (by kernel_rfl) (by kernel_rfl)
theorem qfK (X:(hp w.params).In h) (G:h.Ns mainGlobals mg) (B:Bl (hp w.params) mg):Cal P w (hp w.params) mg base 1 "row_over" ["row", "divisor"] (qaR (hp w.params)):=by
  have F:=qa9 (K:=hp w.params) (st:=qfq) (f:=58) (c:=57) (n := "row_over") (pm:=mo0) (by kernel_rfl) (by kernel_rfl) (by kernel_rfl)
  exact qaK X G (qkk F B ) (F.binds fun _ _ _ _ _ _ us hl=>by obtain ⟨_,_,rfl⟩:=qgn us hl;rfl) (by kernel_rfl) (by kernel_rfl)
theorem qf8 (X:(hp w.params).In h) (G:h.Ns mainGlobals mg) (B:Bl (hp w.params) mg):Cal P w (hp w.params) mg base 1 "inverse_modulo" ["whole", "prime"] (qaX (hp w.params)):=by
  have F:=qa9 (K:=hp w.params) (st:=qct) (f:=94) (c:=93) (n := "inverse_modulo") (pm:=mo0) (by kernel_rfl) (by kernel_rfl) (by kernel_rfl)
  exact qaK X G (qfJ F B ) (F.binds fun _ _ _ _ _ _ us hl=>by obtain ⟨_,_,rfl⟩:=qgn us hl;rfl) (by kernel_rfl) (by kernel_rfl)
theorem qhB (X:(hp w.params).In h) (G:h.Ns mainGlobals mg) (B:Bl (hp w.params) mg):Cal P w (hp w.params) mg base 1 "rests_modulo" ["row", "prime"] (qa6 (hp w.params)):=by
  have F:=qa9 (K:=hp w.params) (st:=qdc) (f:=99) (c:=98) (n := "rests_modulo") (pm:=mo0) (by kernel_rfl) (by kernel_rfl) (by kernel_rfl)
  exact qaK X G (qhe F B ) (F.binds fun _ _ _ _ _ _ us hl=>by obtain ⟨_,_,rfl⟩:=qgn us hl;rfl) (by kernel_rfl) (by kernel_rfl)
theorem qnz (X:(hp w.params).In h) (G:h.Ns mainGlobals mg) (B:Bl (hp w.params) mg):Cal P w (hp w.params) mg base 1 "nearest" ["whole", "prime"] (qb0 (hp w.params)):=by
  have F:=qa9 (K:=hp w.params) (st:=qgx) (f:=139) (c:=138) (n := "nearest") (pm:=mo0) (by kernel_rfl) (by kernel_rfl) (by kernel_rfl)
  exact qaK X G (qlB F B ) (F.binds fun _ _ _ _ _ _ us hl=>by obtain ⟨_,_,rfl⟩:=qgn us hl;rfl) (by kernel_rfl) (by kernel_rfl)
theorem qq5 (X:(hp w.params).In h) (G:h.Ns mainGlobals mg) (B:Bl (hp w.params) mg):Cal P w (hp w.params) mg base 1 "poly" ["row"] (qd9 (hp w.params)):=by
  have F:=qa9 (K:=hp w.params) (st:=ql7) (f:=177) (c:=176) (n := "poly") (pm:=mo2) (by kernel_rfl) (by kernel_rfl) (by kernel_rfl)
  exact qaK X G (qpT F B ) (F.binds fun _ _ _ _ _ _ us hl=>by obtain ⟨_,rfl⟩:=qjH us hl;rfl) (by kernel_rfl) (by kernel_rfl)
theorem qou (X:(hp w.params).In h) (G:h.Ns mainGlobals mg) (B:Bl (hp w.params) mg):Cal P w (hp w.params) mg base 1 "_law_hand" ["_law_script"] (qcM (hp w.params)):=by
  have F:=qa9 (K:=hp w.params) (st:=qh9) (f:=227) (c:=226) (n := "_law_hand") (pm:=mo4) (by kernel_rfl) (by kernel_rfl) (by kernel_rfl)
  exact qaK X G (qnx F B ) (F.binds fun _ _ _ _ _ _ us hl=>by obtain ⟨_,rfl⟩:=qjH us hl;rfl) (by kernel_rfl) (by kernel_rfl)
theorem qiT (X:(hp w.params).In h) (G:h.Ns mainGlobals mg) (B:Bl (hp w.params) mg):Cal P w (hp w.params) mg base 1 "_law_draw" ["_law_hand_here", "_law_many"] (qaU (hp w.params)):=by
  have F:=qa9 (K:=hp w.params) (st:=qia) (f:=234) (c:=233) (n := "_law_draw") (pm:=mo4) (by kernel_rfl) (by kernel_rfl) (by kernel_rfl)
  exact qaK X G (qny F B ) (F.binds fun _ _ _ _ _ _ us hl=>by obtain ⟨_,_,rfl⟩:=qgn us hl;rfl) (by kernel_rfl) (by kernel_rfl)
theorem qds (X:(hp w.params).In h) (G:h.Ns mainGlobals mg) (B:Bl (hp w.params) mg):Cal P w (hp w.params) mg base 1 "_law_lowest" ["_law_top", "_law_bottom"] (qaY (hp w.params)):=by
  have F:=qa9 (K:=hp w.params) (st:=qfs) (f:=241) (c:=240) (n := "_law_lowest") (pm:=mo4) (by kernel_rfl) (by kernel_rfl) (by kernel_rfl)
  exact qaK X G (qkm F B ) (F.binds fun _ _ _ _ _ _ us hl=>by obtain ⟨_,_,rfl⟩:=qgn us hl;rfl) (by kernel_rfl) (by kernel_rfl)
theorem qiU (X:(hp w.params).In h) (G:h.Ns mainGlobals mg) (B:Bl (hp w.params) mg):Cal P w (hp w.params) mg base 1 "_law_row_times" ["_law_one", "_law_other"] (qbk (hp w.params)):=by
  have F:=qa9 (K:=hp w.params) (st:=qdy) (f:=248) (c:=247) (n := "_law_row_times") (pm:=mo4) (by kernel_rfl) (by kernel_rfl) (by kernel_rfl)
  exact qaK X G (qhA F B ) (F.binds fun _ _ _ _ _ _ us hl=>by obtain ⟨_,_,rfl⟩:=qgn us hl;rfl) (by kernel_rfl) (by kernel_rfl)
theorem qkn (X:(hp w.params).In h) (G:h.Ns mainGlobals mg) (B:Bl (hp w.params) mg):Cal P w (hp w.params) mg base 1 "_law_trimmed" ["_law_row"] (qch (hp w.params)):=by
  have F:=qa9 (K:=hp w.params) (st:=qeF) (f:=293) (c:=292) (n := "_law_trimmed") (pm:=mo4) (by kernel_rfl) (by kernel_rfl) (by kernel_rfl)
  exact qaK X G (qjD F B ) (F.binds fun _ _ _ _ _ _ us hl=>by obtain ⟨_,rfl⟩:=qjH us hl;rfl) (by kernel_rfl) (by kernel_rfl)
theorem qnA (X:(hp w.params).In h) (G:h.Ns mainGlobals mg) (B:Bl (hp w.params) mg):Cal P w (hp w.params) mg base 2 "content" ["row", "start"] (qbZ (hp w.params)):=by
  have F:=qa9 (K:=hp w.params) (st:=qgw) (f:=34) (c:=33) (n := "content") (pm:=mo0) (by kernel_rfl) (by kernel_rfl) (by kernel_rfl)
  exact qaK X G (qlA F B (qbw X G B)) (F.binds fun _ _ _ _ _ _ us hl=>by obtain ⟨_,_,rfl⟩:=qgn us hl;rfl) (by kernel_rfl) (by kernel_rfl)
theorem qlI (X:(hp w.params).In h) (G:h.Ns mainGlobals mg) (B:Bl (hp w.params) mg):Cal P w (hp w.params) mg base 2 "row_less" ["row", "factor", "other", "weight", "shift"] (qbD (hp w.params)):=by
  have F:=qa9 (K:=hp w.params) (st:=qfr) (f:=63) (c:=62) (n := "row_less") (pm:=mo0) (by kernel_rfl) (by kernel_rfl) (by kernel_rfl)
  exact qaK X G (qkl F B (qdI X G B)) (F.binds fun _ _ _ _ _ _ us hl=>by obtain ⟨_,_,_,_,_,rfl⟩:=qse us hl;rfl) (by kernel_rfl) (by kernel_rfl)
theorem qfX (X:(hp w.params).In h) (G:h.Ns mainGlobals mg) (B:Bl (hp w.params) mg):Cal P w (hp w.params) mg base 2 "row_modulo" ["row", "prime"] (qaZ (hp w.params)):=by
  have F:=qa9 (K:=hp w.params) (st:=qdZ) (f:=106) (c:=105) (n := "row_modulo") (pm:=mo0) (by kernel_rfl) (by kernel_rfl) (by kernel_rfl)
  exact qaK X G (qiO F B (qhB X G B) (qdI X G B)) (F.binds fun _ _ _ _ _ _ us hl=>by obtain ⟨_,_,rfl⟩:=qgn us hl;rfl) (by kernel_rfl) (by kernel_rfl)
theorem qhC (X:(hp w.params).In h) (G:h.Ns mainGlobals mg) (B:Bl (hp w.params) mg):Cal P w (hp w.params) mg base 2 "monic_modulo" ["row", "prime"] (qaS (hp w.params)):=by
  have F:=qa9 (K:=hp w.params) (st:=qdd) (f:=111) (c:=110) (n := "monic_modulo") (pm:=mo0) (by kernel_rfl) (by kernel_rfl) (by kernel_rfl)
  exact qaK X G (qhf F B (qf8 X G B)) (F.binds fun _ _ _ _ _ _ us hl=>by obtain ⟨_,_,rfl⟩:=qgn us hl;rfl) (by kernel_rfl) (by kernel_rfl)
theorem qnB (X:(hp w.params).In h) (G:h.Ns mainGlobals mg) (B:Bl (hp w.params) mg):Cal P w (hp w.params) mg base 2 "ratio" ["top", "bottom"] (qb9 (hp w.params)):=by
  have F:=qa9 (K:=hp w.params) (st:=qjP) (f:=163) (c:=162) (n := "ratio") (pm:=mo1) (by kernel_rfl) (by kernel_rfl) (by kernel_rfl)
  exact qaK X G (qoq F B (qbw X G B)) (F.binds fun _ _ _ _ _ _ us hl=>by obtain ⟨_,_,rfl⟩:=qgn us hl;rfl) (by kernel_rfl) (by kernel_rfl)
theorem qhj (X:(hp w.params).In h) (G:h.Ns mainGlobals mg) (B:Bl (hp w.params) mg):Cal P w (hp w.params) mg base 2 "cleared" ["P"] (qbc (hp w.params)):=by
  have F:=qa9 (K:=hp w.params) (st:=qgy) (f:=182) (c:=181) (n := "cleared") (pm:=mo2) (by kernel_rfl) (by kernel_rfl) (by kernel_rfl)
  exact qaK X G (qlC F B (qbw X G B)) (F.binds fun _ _ _ _ _ _ us hl=>by obtain ⟨_,rfl⟩:=qjH us hl;rfl) (by kernel_rfl) (by kernel_rfl)
theorem qko (X:(hp w.params).In h) (G:h.Ns mainGlobals mg) (B:Bl (hp w.params) mg):Cal P w (hp w.params) mg base 2 "_law_poly_of" ["_law_row", "_law_scale_here"] (qbB (hp w.params)):=by
  have F:=qa9 (K:=hp w.params) (st:=qeC) (f:=253) (c:=252) (n := "_law_poly_of") (pm:=mo4) (by kernel_rfl) (by kernel_rfl) (by kernel_rfl)
  exact qaK X G (qjA F B (qds X G B)) (F.binds fun _ _ _ _ _ _ us hl=>by obtain ⟨_,_,rfl⟩:=qgn us hl;rfl) (by kernel_rfl) (by kernel_rfl)
theorem qnC (X:(hp w.params).In h) (G:h.Ns mainGlobals mg) (B:Bl (hp w.params) mg):Cal P w (hp w.params) mg base 2 "_law_scale" ["_law_hand_here"] (qb2 (hp w.params)):=by
  have F:=qa9 (K:=hp w.params) (st:=qgB) (f:=260) (c:=259) (n := "_law_scale") (pm:=mo4) (by kernel_rfl) (by kernel_rfl) (by kernel_rfl)
  exact qaK X G (qlF F B (qiT X G B) (qds X G B)) (F.binds fun _ _ _ _ _ _ us hl=>by obtain ⟨_,rfl⟩:=qjH us hl;rfl) (by kernel_rfl) (by kernel_rfl)
theorem qkp (X:(hp w.params).In h) (G:h.Ns mainGlobals mg) (B:Bl (hp w.params) mg):Cal P w (hp w.params) mg base 2 "_law_any_row" ["_law_hand_here", "_law_most", "_law_size"] (qbg (hp w.params)):=by
  have F:=qa9 (K:=hp w.params) (st:=qeD) (f:=267) (c:=266) (n := "_law_any_row") (pm:=mo4) (by kernel_rfl) (by kernel_rfl) (by kernel_rfl)
  exact qaK X G (qjB F B (qiT X G B)) (F.binds fun _ _ _ _ _ _ us hl=>by obtain ⟨_,_,_,rfl⟩:=qq4 us hl;rfl) (by kernel_rfl) (by kernel_rfl)
theorem qjF (X:(hp w.params).In h) (G:h.Ns mainGlobals mg) (B:Bl (hp w.params) mg):Cal P w (hp w.params) mg base 2 "_law_monic_of" ["_law_row"] (qbq (hp w.params)):=by
  have F:=qa9 (K:=hp w.params) (st:=qd3) (f:=272) (c:=271) (n := "_law_monic_of") (pm:=mo4) (by kernel_rfl) (by kernel_rfl) (by kernel_rfl)
  exact qaK X G (qiS F B (qds X G B)) (F.binds fun _ _ _ _ _ _ us hl=>by obtain ⟨_,rfl⟩:=qjH us hl;rfl) (by kernel_rfl) (by kernel_rfl)
theorem qpU (X:(hp w.params).In h) (G:h.Ns mainGlobals mg) (B:Bl (hp w.params) mg):Cal P w (hp w.params) mg base 2 "_law_sum" ["_law_one", "_law_other"] (qe6 (hp w.params)):=by
  have F:=qa9 (K:=hp w.params) (st:=qjR) (f:=279) (c:=278) (n := "_law_sum") (pm:=mo4) (by kernel_rfl) (by kernel_rfl) (by kernel_rfl)
  exact qaK X G (qos F B (qds X G B)) (F.binds fun _ _ _ _ _ _ us hl=>by obtain ⟨_,_,rfl⟩:=qgn us hl;rfl) (by kernel_rfl) (by kernel_rfl)
theorem qkq (X:(hp w.params).In h) (G:h.Ns mainGlobals mg) (B:Bl (hp w.params) mg):Cal P w (hp w.params) mg base 2 "_law_product" ["_law_one", "_law_other"] (qcg (hp w.params)):=by
  have F:=qa9 (K:=hp w.params) (st:=qeE) (f:=286) (c:=285) (n := "_law_product") (pm:=mo4) (by kernel_rfl) (by kernel_rfl) (by kernel_rfl)
  exact qaK X G (qjC F B (qds X G B)) (F.binds fun _ _ _ _ _ _ us hl=>by obtain ⟨_,_,rfl⟩:=qgn us hl;rfl) (by kernel_rfl) (by kernel_rfl)
theorem qdb (X:(hp w.params).In h) (G:h.Ns mainGlobals mg) (B:Bl (hp w.params) mg):Cal P w (hp w.params) mg base 3 "strand_shortened" ["strand"] (qaH (hp w.params)):=by
  have F:=qa9 (K:=hp w.params) (st:=qbO) (f:=73) (c:=72) (n := "strand_shortened") (pm:=mo0) (by kernel_rfl) (by kernel_rfl) (by kernel_rfl)
  exact qaK X G (qeU F B (qnA X G B) (qjE X G B)) (F.binds fun _ _ _ _ _ _ us hl=>by obtain ⟨_,rfl⟩:=qjH us hl;rfl) (by kernel_rfl) (by kernel_rfl)
theorem qhD (X:(hp w.params).In h) (G:h.Ns mainGlobals mg) (B:Bl (hp w.params) mg):Cal P w (hp w.params) mg base 3 "split_modulo" ["row", "divisor", "modulus"] (qa7 (hp w.params)):=by
  have F:=qa9 (K:=hp w.params) (st:=qde) (f:=118) (c:=117) (n := "split_modulo") (pm:=mo0) (by kernel_rfl) (by kernel_rfl) (by kernel_rfl)
  exact qaK X G (qhg F B (qdI X G B) (qfX X G B)) (F.binds fun _ _ _ _ _ _ us hl=>by obtain ⟨_,_,_,rfl⟩:=qq4 us hl;rfl) (by kernel_rfl) (by kernel_rfl)
theorem qpV (X:(hp w.params).In h) (G:h.Ns mainGlobals mg) (B:Bl (hp w.params) mg):Cal P w (hp w.params) mg base 3 "times" ["one", "other"] (qe5 (hp w.params)):=by
  have F:=qa9 (K:=hp w.params) (st:=qjQ) (f:=170) (c:=169) (n := "times") (pm:=mo1) (by kernel_rfl) (by kernel_rfl) (by kernel_rfl)
  exact qaK X G (qor F B (qnB X G B)) (F.binds fun _ _ _ _ _ _ us hl=>by obtain ⟨_,_,rfl⟩:=qgn us hl;rfl) (by kernel_rfl) (by kernel_rfl)
theorem qhk (X:(hp w.params).In h) (G:h.Ns mainGlobals mg) (B:Bl (hp w.params) mg):Cal P w (hp w.params) mg base 3 "uncleared" ["row", "bottom"] (qbf (hp w.params)):=by
  have F:=qa9 (K:=hp w.params) (st:=qeB) (f:=187) (c:=186) (n := "uncleared") (pm:=mo2) (by kernel_rfl) (by kernel_rfl) (by kernel_rfl)
  exact qaK X G (qjz F B (qnB X G B) (qq5 X G B)) (F.binds fun _ _ _ _ _ _ us hl=>by obtain ⟨_,_,rfl⟩:=qgn us hl;rfl) (by kernel_rfl) (by kernel_rfl)
theorem qnD (X:(hp w.params).In h) (G:h.Ns mainGlobals mg) (B:Bl (hp w.params) mg):Cal P w (hp w.params) mg base 3 "_law_times" ["_law_kp", "_law_kq"] (qb3 (hp w.params)):=by
  have F:=qa9 (K:=hp w.params) (st:=qgC) (f:=300) (c:=299) (n := "_law_times") (pm:=mo4) (by kernel_rfl) (by kernel_rfl) (by kernel_rfl)
  exact qaK X G (qlG F B (qkq X G B) (qpU X G B) (qkn X G B)) (F.binds fun _ _ _ _ _ _ us hl=>by obtain ⟨_,_,rfl⟩:=qgn us hl;rfl) (by kernel_rfl) (by kernel_rfl)
theorem qiV (X:(hp w.params).In h) (G:h.Ns mainGlobals mg) (B:Bl (hp w.params) mg):Cal P w (hp w.params) mg base 4 "strand_rest" ["strand", "other"] (qbi (hp w.params)):=by
  have F:=qa9 (K:=hp w.params) (st:=qdw) (f:=68) (c:=67) (n := "strand_rest") (pm:=mo0) (by kernel_rfl) (by kernel_rfl) (by kernel_rfl)
  exact qaK X G (qhy F B (qbw X G B) (qlI X G B) (qdb X G B)) (F.binds fun _ _ _ _ _ _ us hl=>by obtain ⟨_,_,rfl⟩:=qgn us hl;rfl) (by kernel_rfl) (by kernel_rfl)
theorem qbS (X:(hp w.params).In h) (G:h.Ns mainGlobals mg) (B:Bl (hp w.params) mg):Cal P w (hp w.params) mg base 4 "row_shortened" ["row"] (qay (hp w.params)):=by
  have F:=qa9 (K:=hp w.params) (st:=qcF) (f:=80) (c:=79) (n := "row_shortened") (pm:=mo0) (by kernel_rfl) (by kernel_rfl) (by kernel_rfl)
  exact qaK X G (qf5 F B (qdb X G B)) (F.binds fun _ _ _ _ _ _ us hl=>by obtain ⟨_,rfl⟩:=qjH us hl;rfl) (by kernel_rfl) (by kernel_rfl)
theorem qiW (X:(hp w.params).In h) (G:h.Ns mainGlobals mg) (B:Bl (hp w.params) mg):Cal P w (hp w.params) mg base 4 "rest_modulo" ["row", "divisor", "modulus"] (qbj (hp w.params)):=by
  have F:=qa9 (K:=hp w.params) (st:=qdx) (f:=125) (c:=124) (n := "rest_modulo") (pm:=mo0) (by kernel_rfl) (by kernel_rfl) (by kernel_rfl)
  exact qaK X G (qhz F B (qhD X G B)) (F.binds fun _ _ _ _ _ _ us hl=>by obtain ⟨_,_,_,rfl⟩:=qq4 us hl;rfl) (by kernel_rfl) (by kernel_rfl)
theorem qnE (X:(hp w.params).In h) (G:h.Ns mainGlobals mg) (B:Bl (hp w.params) mg):Cal P w (hp w.params) mg base 4 "p_slope" ["P"] (qb1 (hp w.params)):=by
  have F:=qa9 (K:=hp w.params) (st:=qgz) (f:=199) (c:=198) (n := "p_slope") (pm:=mo2) (by kernel_rfl) (by kernel_rfl) (by kernel_rfl)
  exact qaK X G (qlD F B (qpV X G B)) (F.binds fun _ _ _ _ _ _ us hl=>by obtain ⟨_,rfl⟩:=qjH us hl;rfl) (by kernel_rfl) (by kernel_rfl)
theorem qfY (X:(hp w.params).In h) (G:h.Ns mainGlobals mg) (B:Bl (hp w.params) mg):Cal P w (hp w.params) mg base 4 "made_monic" ["row"] (qa3 (hp w.params)):=by
  have F:=qa9 (K:=hp w.params) (st:=qd2) (f:=213) (c:=212) (n := "made_monic") (pm:=mo3) (by kernel_rfl) (by kernel_rfl) (by kernel_rfl)
  exact qaK X G (qiR F B (qhk X G B)) (F.binds fun _ _ _ _ _ _ us hl=>by obtain ⟨_,rfl⟩:=qjH us hl;rfl) (by kernel_rfl) (by kernel_rfl)
theorem qhl (X:(hp w.params).In h) (G:h.Ns mainGlobals mg) (B:Bl (hp w.params) mg):Cal P w (hp w.params) mg base 5 "strand_euclid" ["strand", "other"] (qaV (hp w.params)):=by
  have F:=qa9 (K:=hp w.params) (st:=qcG) (f:=87) (c:=86) (n := "strand_euclid") (pm:=mo0) (by kernel_rfl) (by kernel_rfl) (by kernel_rfl)
  exact qaK X G (qf6 F B (qiV X G B)) (F.binds fun _ _ _ _ _ _ us hl=>by obtain ⟨_,_,rfl⟩:=qgn us hl;rfl) (by kernel_rfl) (by kernel_rfl)
theorem qhm (X:(hp w.params).In h) (G:h.Ns mainGlobals mg) (B:Bl (hp w.params) mg):Cal P w (hp w.params) mg base 5 "euclid_modulo" ["row", "other", "prime"] (qa0 (hp w.params)):=by
  have F:=qa9 (K:=hp w.params) (st:=qcH) (f:=132) (c:=131) (n := "euclid_modulo") (pm:=mo0) (by kernel_rfl) (by kernel_rfl) (by kernel_rfl)
  exact qaK X G (qf7 F B (qfX X G B) (qhC X G B) (qiW X G B)) (F.binds fun _ _ _ _ _ _ us hl=>by obtain ⟨_,_,_,rfl⟩:=qq4 us hl;rfl) (by kernel_rfl) (by kernel_rfl)
theorem qfL (X:(hp w.params).In h) (G:h.Ns mainGlobals mg) (B:Bl (hp w.params) mg):Cal P w (hp w.params) mg base 6 "common_by_prime" ["row", "other", "prime"] (qaT (hp w.params)):=by
  have F:=qa9 (K:=hp w.params) (st:=qbW) (f:=144) (c:=143) (n := "common_by_prime") (pm:=mo0) (by kernel_rfl) (by kernel_rfl) (by kernel_rfl)
  exact qaK X G (qfn F B (qbw X G B) (qhm X G B) (qnz X G B) (qbS X G B) (qfK X G B)) (F.binds fun _ _ _ _ _ _ us hl=>by obtain ⟨_,_,_,rfl⟩:=qq4 us hl;rfl) (by kernel_rfl) (by kernel_rfl)
theorem qem (X:(hp w.params).In h) (G:h.Ns mainGlobals mg) (B:Bl (hp w.params) mg):Cal P w (hp w.params) mg base 7 "row_common" ["row", "other"] (qaN (hp w.params)):=by
  have F:=qa9 (K:=hp w.params) (st:=qd0) (f:=151) (c:=150) (n := "row_common") (pm:=mo0) (by kernel_rfl) (by kernel_rfl) (by kernel_rfl)
  exact qaK X G (qiP F B (qbS X G B) (qot X G B) (qfL X G B) (qhl X G B)) (F.binds fun _ _ _ _ _ _ us hl=>by obtain ⟨_,_,rfl⟩:=qgn us hl;rfl) (by kernel_rfl) (by kernel_rfl)
theorem qjG (X:(hp w.params).In h) (G:h.Ns mainGlobals mg) (B:Bl (hp w.params) mg):Cal P w (hp w.params) mg base 8 "simple_row" ["row"] (qbr (hp w.params)):=by
  have F:=qa9 (K:=hp w.params) (st:=qd1) (f:=156) (c:=155) (n := "simple_row") (pm:=mo0) (by kernel_rfl) (by kernel_rfl) (by kernel_rfl)
  exact qaK X G (qiQ F B (qbS X G B) (qhi X G B) (qem X G B) (qfK X G B)) (F.binds fun _ _ _ _ _ _ us hl=>by obtain ⟨_,rfl⟩:=qjH us hl;rfl) (by kernel_rfl) (by kernel_rfl)
theorem qov (X:(hp w.params).In h) (G:h.Ns mainGlobals mg) (B:Bl (hp w.params) mg):Cal P w (hp w.params) mg base 8 "common" ["P", "Q"] (qce (hp w.params)):=by
  have F:=qa9 (K:=hp w.params) (st:=qh8) (f:=194) (c:=193) (n := "common") (pm:=mo2) (by kernel_rfl) (by kernel_rfl) (by kernel_rfl)
  exact qaK X G (qnw F B (qhj X G B) (qem X G B) (qhk X G B)) (F.binds fun _ _ _ _ _ _ us hl=>by obtain ⟨_,_,rfl⟩:=qgn us hl;rfl) (by kernel_rfl) (by kernel_rfl)
theorem qhE (X:(hp w.params).In h) (G:h.Ns mainGlobals mg) (B:Bl (hp w.params) mg):Cal P w (hp w.params) mg base 8 "simple_parts" ["P"] (qa8 (hp w.params)):=by
  have F:=qa9 (K:=hp w.params) (st:=qdf) (f:=206) (c:=205) (n := "simple_parts") (pm:=mo3) (by kernel_rfl) (by kernel_rfl) (by kernel_rfl)
  exact qaK X G (qhh F B (qhj X G B) (qbS X G B) (qhi X G B) (qem X G B) (qfK X G B) (qfY X G B)) (F.binds fun _ _ _ _ _ _ us hl=>by obtain ⟨_,rfl⟩:=qjH us hl;rfl) (by kernel_rfl) (by kernel_rfl)
theorem qnF (X:(hp w.params).In h) (G:h.Ns mainGlobals mg) (B:Bl (hp w.params) mg):Cal P w (hp w.params) mg base 9 "radical" ["P"] (qb4 (hp w.params)):=by
  have F:=qa9 (K:=hp w.params) (st:=qgA) (f:=220) (c:=219) (n := "radical") (pm:=mo3) (by kernel_rfl) (by kernel_rfl) (by kernel_rfl)
  exact qaK X G (qlE F B (qhj X G B) (qjG X G B) (qfY X G B)) (F.binds fun _ _ _ _ _ _ us hl=>by obtain ⟨_,rfl⟩:=qjH us hl;rfl) (by kernel_rfl) (by kernel_rfl)
theorem qnG (X:(hp w.params).In h) (G:h.Ns mainGlobals mg) (B:Bl (hp w.params) mg):Cal P w (hp w.params) mg base 9 "_law_apart" ["_law_parts"] (qb5 (hp w.params)):=by
  have F:=qa9 (K:=hp w.params) (st:=qgD) (f:=307) (c:=306) (n := "_law_apart") (pm:=mo4) (by kernel_rfl) (by kernel_rfl) (by kernel_rfl)
  exact qaK X G (qlH F B (qnE X G B) (qov X G B)) (F.binds fun _ _ _ _ _ _ us hl=>by obtain ⟨_,rfl⟩:=qjH us hl;rfl) (by kernel_rfl) (by kernel_rfl)
end
theorem all_mk {l:PySem.W.OpenLaw} {w:World} {h:Heap} {mg:Str→Option Value} {fa:Addr} (X:(hp w.params).In h) (G:h.Ns mainGlobals mg) (hfa:mg "law" = some (.ref fa))
    : ∃ fd:FuncData,(∀ (s:Shared) (v:Value),BindsTo s fd ⟨[v],[]⟩ [("_law_script", v)])∧∀ base:Heap,(hp w.params).In base→base.Ns mainGlobals mg→FnOk l.prog w (hp w.params) mg base CX0 10 fa fd ["_law_script"] (qjk (hp w.params)):=by
  have e:=hfa.symm.trans (PySem.W.mg_of X G (n := "law") (v:=.ref 314) (by kernel_rfl))
  cases e
  have qEXPONENTS:qbY (hp w.params)=15:=by kernel_rfl
  have xEXPONENTS:∀ H:Hp,SqT (hp w.params) H (qbY (hp w.params)) (exps.map fun e:Nat=>V.int (e:Int)):=fun H=>.inr ⟨_,_,_,(show (hp w.params).lookup (qbY (hp w.params))=some ⟨.type "tuple", none,.seq #[(.int 61 189),(.int 127 190),(.int 521 191),(.int 1279 192),(.int 4423 193),(.int 9941 194),(.int 21701 195),(.int 44497 196)] 0,#[]⟩ by rw [qEXPONENTS];kernel_rfl),rfl,rfl,by show 8≤sizeLine;rw [sizeLine_eq];decide,.cons ⟨_,rfl⟩ (.cons ⟨_,rfl⟩ (.cons ⟨_,rfl⟩ (.cons ⟨_,rfl⟩ (.cons ⟨_,rfl⟩ (.cons ⟨_,rfl⟩ (.cons ⟨_,rfl⟩ (.cons ⟨_,rfl⟩ (.nil))))))))⟩
  have B:Bl (hp w.params) mg:=⟨PySem.W.mg_none_of X G (by kernel_rfl),PySem.W.mg_none_of X G (by kernel_rfl),PySem.W.mg_none_of X G (by kernel_rfl),PySem.W.mg_none_of X G (by kernel_rfl),PySem.W.mg_none_of X G (by kernel_rfl),PySem.W.mg_none_of X G (by kernel_rfl),PySem.W.mg_none_of X G (by kernel_rfl),PySem.W.mg_none_of X G (by kernel_rfl),PySem.W.mg_none_of X G (by kernel_rfl),by rw [qEXPONENTS];exact PySem.W.mg_of X G (by kernel_rfl),PySem.W.mg_none_of X G (by kernel_rfl),PySem.W.mg_none_of X G (by kernel_rfl),PySem.W.mg_none_of X G (by kernel_rfl),xEXPONENTS⟩
  have FL:=qa9 (K:=hp w.params) (st:=qlf) (f:=314) (c:=313) (n := "law") (pm:=mo4) (by kernel_rfl) (by kernel_rfl) (by kernel_rfl)
  refine ⟨PySem.W.fnOf "law" "law" (qez qlf) (qdX qlf) (qaj qlf) .none .none .none mo4 none (.ref 313) .none,fun s v=>.of_eq rfl,fun base _ _=>?_⟩
  exact qq3 FL B (qou X G B) (qiT X G B) (qkp X G B) (qiU X G B) (qnC X G B) (qko X G B) (qhE X G B) (qnD X G B) (qjF X G B) (qnF X G B) (qnG X G B)
theorem walk {l:PySem.W.OpenLaw} {q:Program} {loose:List Str} {XP:(Str→Option Value)→Heap→Prop} {YP:World→Heap→Prop} {d:DefRec} {K:Params→W.Frag} (hn:l.most=some 63) (hdf:d.params.defaults=[]) (hq:importsNone q=true) (ht:∀ w,(model l.prog w).prog.given.tree=none)
    (hY:∀ (w:World) (h:Heap),YP w h→(K w.params).In h)
    (F:∀ (w:World) (mg:Str→Option Value) (fa:Addr) (h:Heap),(K w.params).In h→h.Ns mainGlobals mg→mg d.name=some (.ref fa)→
      ∃ fd:FuncData,(∀ (s:Shared) (u:Value),BindsTo s fd ⟨[u],[]⟩ [("_law_script", u)])∧∀ base:Heap,(K w.params).In base→base.Ns mainGlobals mg→FnOk l.prog w (K w.params) mg base CX0 10 fa fd ["_law_script"] (qjk (K w.params))) :
    PySem.W.WalkO q loose XP YP l.row.toRowW d [] (fun f vs=>PySem.call f vs):=
  L2.walk_of (n:=63) (k:=10) (x := "_law_script") (CX:=fun _=>CX0) (sp:=fun w=>qjk (K w.params)) hn (by decide) hdf hq ht ⟨rfl,by decide,by decide⟩ hY F (fun _ _ a ns hl _ hS=>⟨a,ns,rfl,hS,hl,fun _=>rfl⟩) fun _ _ _ _ _ z=>z
end Bs
open PySem PySem.W PyProof.Rows
set_option maxRecDepth 100000 in
set_option maxHeartbeats 0 in
theorem PySem.Challenge.cw_backslope_k16_parts_of_any_holds : PySem.Challenge.rw_backslope_k16_parts_of_any.Holds := by
  w_on; o_law
  refine PySem.W.holds_open (q := Bs.Hd.vw) (loose := []) (Xt := fun s => PySem.W.xlAt Bs.Hd.vw [] s && PySem.W.recOk (PySem.W.RowW.records (PySem.W.OpenRow.toRowW (PySem.W.OpenLaw.row PySem.Challenge.rw_backslope_k16_parts_of_any))) s) (XP := PySem.W.XL Bs.Hd.vw []) (Yf := Bs.Hd.hk.obs) (Ya := Bs.Hd.hk.val) (YP := Bs.Hd.hk.says) (N := 3076) Bs.Hd.left Bs.Hd.hk.of Bs.Hd.hk.keeps (fun s e => PySem.W.xl_of s (Bool.and_eq_true_iff.mp e).1) PySem.W.XL.keeps (by rfl) (by rfl) (by rfl) (fun s e => PySem.W.recFacts_of (Bool.and_eq_true_iff.mp e).2) (by rfl) (by first | assumption | decide +kernel) (by decide +kernel) ⟨rfl, rfl, rfl, rfl, rfl, by decide +kernel⟩ ?hw ?hc
  case hw => w_witness2
  case hc => exact Bs.walk (l := PySem.Challenge.rw_backslope_k16_parts_of_any) (K := Bs.Hd.hp) rfl rfl (by decide +kernel) (fun _ => rfl) (fun w h Y => Y) (fun w mg fa h KX G hmg => Bs.all_mk KX G hmg)
#print axioms PySem.Challenge.cw_backslope_k16_parts_of_any_holds
