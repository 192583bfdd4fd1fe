import PyProof.Rows.All
import Wide.All
import OpenK.AllK
import Wide.FinOn
import Lean
import PyProof.EqAt
import PyProof.EqKinds
import PyProof.TupleCall
import PySem.Challenge.RW_backslope_k73_held
set_option Elab.async false
set_option linter.all false
set_option maxRecDepth 100000
namespace L2
open PySem PySem.Spec PyProof.Rows
noncomputable abbrev Key := Sum Int Str
noncomputable def qmt : Key → Value → Bool
  | .inl k, v => Value.isInt k v
  | .inr x, v => Value.isStrOf x v
noncomputable def qoz (w : World) : Key → Int
  | .inl k => hashInt k
  | .inr x => hashStr w x
theorem qaK : ∀ {k : Key} {v : Value}, qmt k v = true → (∃ i t, k = Sum.inl i ∧ v = Value.int i t) ∨ (∃ x t, k = Sum.inr x ∧ v = Value.str x t)
  | .inl i, v, h => by
    obtain ⟨t, e⟩ := Value.isInt_shape (k := i) (v := v) h
    exact .inl ⟨i, t, rfl, e⟩
  | .inr x, v, h => by
    obtain ⟨t, e⟩ := Value.isStrOf_shape (x := x) (v := v) h
    exact .inr ⟨x, t, rfl, e⟩
theorem qmu (a b : Int) : decide ((Sum.inl a : Key) = Sum.inl b) = (a == b) := by
  by_cases e : a = b
  · subst e; simp
  · have h : ¬ (Sum.inl a : Key) = Sum.inl b := fun q => e (Sum.inl.inj q)
    rw [decide_eq_false h]
    exact (beq_eq_false_iff_ne.mpr e).symm
theorem qmv (a b : Str) : decide ((Sum.inr a : Key) = Sum.inr b) = decide (a = b) := by
  by_cases e : a = b
  · subst e; simp
  · have h : ¬ (Sum.inr a : Key) = Sum.inr b := fun q => e (Sum.inr.inj q)
    rw [decide_eq_false h, decide_eq_false e]
theorem qmw (a : Int) (b : Str) : decide ((Sum.inl a : Key) = Sum.inr b) = false := decide_eq_false (fun q => nomatch q)
theorem qmx (a : Str) (b : Int) : decide ((Sum.inr a : Key) = Sum.inl b) = false := decide_eq_false (fun q => nomatch q)
noncomputable def qeW (prog : Program) (w : World) : PySem.KeyKind prog w Key where
  is := qmt
  hash := qoz w
  inj := fun v a b ha hb => by
    rcases qaK ha with ⟨i, t, rfl, rfl⟩ | ⟨x, t, rfl, rfl⟩
    · rcases qaK hb with ⟨j, u, rfl, e⟩ | ⟨y, u, rfl, e⟩
      · injection e with e1 _; rw [e1]
      · exact nomatch e
    · rcases qaK hb with ⟨j, u, rfl, e⟩ | ⟨y, u, rfl, e⟩
      · exact nomatch e
      · injection e with e1 _; rw [e1]
  byValue := fun k v h => by
    rcases qaK h with ⟨i, t, rfl, rfl⟩ | ⟨x, t, rfl, rfl⟩ <;> rfl
  pyHash := fun hv h => by
    rcases qaK hv with ⟨i, t, rfl, rfl⟩ | ⟨x, t, rfl, rfl⟩
    · exact wpAny_pyHash_int h
    · exact wpAny_pyHash_str h
  eqBool := fun hu hv h => by
    rcases qaK hu with ⟨i, t, rfl, rfl⟩ | ⟨x, t, rfl, rfl⟩
    · rcases qaK hv with ⟨j, u, rfl, rfl⟩ | ⟨y, u, rfl, rfl⟩
      · rw [qmu] at h; exact wpAny_eqBool_int h
      · rw [qmw] at h; exact SeqAt.EqAt.int_str i t y u _ _ _ _ h
    · rcases qaK hv with ⟨j, u, rfl, rfl⟩ | ⟨y, u, rfl, rfl⟩
      · rw [qmx] at h; exact SeqAt.EqAt.str_int x t j u _ _ _ _ h
      · rw [qmv] at h; exact wpAny_eqBool_str h
  «strs» := fun k x t v h => by
    rcases qaK h with ⟨i, u, rfl, e⟩ | ⟨y, u, rfl, e⟩
    · exact nomatch e
    · injection e with e1 _
      subst e1
      cases v <;> rfl
end L2
namespace L2
open PySem PySem.Spec PyProof.Rows
inductive V where
  | non | bl (b : Bool) | int (i : Int) | str (x : Str) | byt (b : Array UInt8) | flt (b : UInt64) | ref (a : Addr) | ty (n : String)
  deriving DecidableEq
noncomputable def RelV : V → Value → Prop
  | .non, u => u = Value.none
  | .bl b, u => u = Value.bool b
  | .int i, u => ∃ t, u = Value.int i t
  | .str x, u => ∃ t, u = Value.str x t
  | .byt b, u => ∃ t, u = Value.bytes b t
  | .flt b, u => ∃ t, u = Value.float b t
  | .ref a, u => u = Value.ref a
  | .ty n, u => u = Value.type n
noncomputable abbrev Vals : List V → List Value → Prop := Paired RelV
theorem Vals.length {xs : List V} {us : List Value} (r : Vals xs us) : xs.length = us.length := Paired.length r
theorem Vals.get : ∀ {xs : List V} {us : List Value} {i : Nat} {x : V}, Vals xs us → xs[i]? = some x → ∃ u, us[i]? = some u ∧ RelV x u
  | _, _, _, _, .nil, e => by simp at e
  | _, _, 0, _, .cons r _, e => by simp at e; subst e; exact ⟨_, rfl, r⟩
  | _, _, i + 1, x, .cons _ t, e => by
    obtain ⟨u, h1, h2⟩ := Vals.get (i := i) (x := x) t (by simpa using e)
    exact ⟨u, by simpa using h1, h2⟩
theorem Vals.set {x : V} {u : Value} (r : RelV x u) : ∀ {xs : List V} {us : List Value} (i : Nat), Vals xs us → Vals (xs.set i x) (us.set i u)
  | _, _, _, .nil => .nil
  | _, _, 0, .cons _ t => .cons r t
  | _, _, i + 1, .cons q t => .cons q (Vals.set r i t)
theorem Vals.append : ∀ {xs ys : List V} {us ws : List Value}, Vals xs us → Vals ys ws → Vals (xs ++ ys) (us ++ ws)
  | _, _, _, _, .nil, s => s
  | _, _, _, _, .cons r t, s => .cons r (Vals.append t s)
theorem Vals.take : ∀ {xs : List V} {us : List Value} (n : Nat), Vals xs us → Vals (xs.take n) (us.take n)
  | _, _, 0, _ => .nil
  | _, _, _ + 1, .nil => .nil
  | _, _, n + 1, .cons r t => .cons r (Vals.take n t)
theorem Vals.drop : ∀ {xs : List V} {us : List Value} (n : Nat), Vals xs us → Vals (xs.drop n) (us.drop n)
  | _, _, 0, r => r
  | _, _, _ + 1, .nil => .nil
  | _, _, n + 1, .cons _ t => Vals.drop n t
noncomputable def qnV : Option V → Option Value → Prop
  | some v, some u => RelV v u
  | none, none => True
  | _, _ => False
noncomputable def KV {κ : Type} : List (κ × V) → List (κ × Value) → Prop := Paired fun (p : κ × V) (q : κ × Value) => p.1 = q.1 ∧ RelV p.2 q.2
noncomputable def kV : Key → V
  | .inl i => .int i
  | .inr x => .str x
inductive HO where

  | lst (xs : List V)

  | tup (xs : List V)

  | dK (kvs : List (Key × V)) | dT (kvs : List (List Key × V))

  | set (S : Int → Bool) (n : Nat)

  | ins (C dx : Addr) (fs : List (Str × V))

  | own (x : Addr)

  | xd (fs : List (Str × V))

  | met (f x : Addr)

  | rng (lo hi : Int)

  | frz (o : Obj) (u : HO)

  | tbl (ps : Array Value)

  | ext (φ : Heap → Prop)
noncomputable abbrev Hp := Addr → Option HO
noncomputable def upd (H : Hp) (a : Addr) (o : HO) : Hp := fun b => if b = a then some o else H b
theorem qad {H : Hp} {a : Addr} {o : HO} : upd H a o a = some o := by unfold upd; rw [if_pos rfl]
theorem qak {H : Hp} {a b : Addr} {o : HO} (h : b ≠ a) : upd H a o b = H b := by unfold upd; rw [if_neg h]
theorem qeq {H : Hp} {a b : Addr} {o u : HO} (h : H a = some o) (h' : H b = some u) (d : o ≠ u) : a ≠ b := by
  intro e; subst e; rw [h] at h'; exact d (Option.some.inj h')
theorem qam {H : Hp} {a b : Addr} {o : HO} (h : H a = some o) (h' : H b = none) : a ≠ b := by
  intro e; subst e; rw [h] at h'; cases h'
section
variable (P : Program) (w : World)
noncomputable def ObjOk (H : Hp) (h : Heap) (a : Addr) : HO → Prop
  | .lst xs => xs.length ≤ sizeLine ∧ ∃ (its : List Value) (n : Nat), Vals xs its ∧ h.get? a = some { cls := .type "list", data := .seq its.toArray n }
  | .tup xs => xs.length ≤ sizeLine ∧ ∃ its : List Value, Vals xs its ∧ IsTup h a its.toArray
  | .dK kvs => kvs.length ≤ sizeLine ∧ (a == sysModules) = false ∧ ∃ vs, KV kvs vs ∧ h.DictOf (qeW P w) a vs
  | .dT kvs => kvs.length ≤ sizeLine ∧ (a == sysModules) = false ∧ ∃ xs : List (List Key × Addr × Value),
      Paired (fun (p : List Key × V) (q : List Key × Addr × Value) => p.1 = q.1 ∧ H q.2.1 = some (.tup (p.1.map kV)) ∧ RelV p.2 q.2.2) kvs xs ∧
      ∃ o es ep, h.get? a = some o ∧ o.ExactDict ∧ o.data = .dict es ep ∧ es.toList = xs.map (entryOfKey (tupleKind (qeW P w))) ∧ (xs.map (·.1)).Nodup
  | .set S n => h.SetOf (intKind P w) a S n
  | .ins C dx fs => H dx = some (.own a) ∧ fs.length ≤ 1000 ∧ dx ≠ a ∧ h.get? a = some (PySem.W.instObj C dx) ∧
      ∃ mA, h.Ns1 dx mA ∧ (∀ f, qnV (fs.lookup f) (mA f)) ∧ PySem.Within mA (fs.map (·.1))
  | .own _ => ∃ o, h.get? a = some o
  | .xd fs => ∃ mA, h.Ns1 a mA ∧ ∀ f, qnV (fs.lookup f) (mA f)
  | .rng lo hi => ∃ t u v, h.get? a = some { cls := .type "range", data := .fields #[.int lo t, .int hi u, .int 1 v] }
  | .frz o u => h.get? a = some o ∧ ObjOk H h a u
  | .tbl ps => h.get? a = some { cls := .none, data := .fields ps }
  | .met f x => h.get? a = some (PySem.W.methodObj (.ref f) (.ref x))
  | .ext φ => φ h ∧ (∃ o, h.get? a = some o) ∧ ∀ h1 h2 : Heap, φ h1 → (∀ o, h1.get? a = some o → h2.get? a = some o) → φ h2
noncomputable def HOk (H : Hp) (h : Heap) : Prop := ∀ a o, H a = some o → ObjOk P w H h a o
end
section
variable {P : Program} {w : World} {H H' : Hp} {h h' : Heap} {a : Addr} {o : HO}
theorem ObjOk.lt (x : ObjOk P w H h a o) : a < h.objs.size := by
  cases o with
  | lst xs => obtain ⟨_, _, _, _, e⟩ := x; exact Heap.lt_size e
  | tup xs => obtain ⟨_, _, _, p⟩ := x; exact p.lt
  | dK kvs => obtain ⟨_, _, _, _, o, _, _, e, _⟩ := x; exact Heap.lt_size e
  | dT kvs => obtain ⟨_, _, _, _, o, _, _, e, _⟩ := x; exact Heap.lt_size e
  | set S n => obtain ⟨o, _, _, _, e, _⟩ := x; exact Heap.lt_size e
  | ins C dx fs => obtain ⟨_, _, _, e, _⟩ := x; exact Heap.lt_size e
  | own y => obtain ⟨_, e⟩ := x; exact Heap.lt_size e
  | xd fs => obtain ⟨_, ⟨_, _, _, e, _⟩, _⟩ := x; exact Heap.lt_size e
  | rng lo hi => obtain ⟨_, _, _, e⟩ := x; exact Heap.lt_size e
  | frz ob u => obtain ⟨e, _⟩ := x; exact Heap.lt_size e
  | tbl ps => exact Heap.lt_size (show h.get? a = some _ from x)
  | met f y => exact Heap.lt_size (show h.get? a = some _ from x)
  | ext φ => obtain ⟨_, ⟨_, e⟩, _⟩ := x; exact Heap.lt_size e
theorem Paired.mapP {α β : Type} {F G : α → β → Prop} : ∀ {l₁ : List α} {l₂ : List β}, Paired F l₁ l₂ → (∀ a b, F a b → G a b) → Paired G l₁ l₂
  | _, _, .nil, _ => .nil
  | _, _, .cons r t, f => .cons (f _ _ r) (Paired.mapP t f)
theorem ObjOk.stay (x : ObjOk P w H h a o) (k : ∀ b u, (b = a ∨ H b = some (.own a)) → h.get? b = some u → h'.get? b = some u)
    (ho : ∀ b, H b = some (.own a) → H' b = some (.own a)) (ht : ∀ b xs, H b = some (.tup xs) → H' b = some (.tup xs)) : ObjOk P w H' h' a o := by
  induction o with
  | lst xs => obtain ⟨z, its, n, r, e⟩ := x; exact ⟨z, its, n, r, k _ _ (.inl rfl) e⟩
  | tup xs => obtain ⟨z, its, r, ob, e, c⟩ := x; exact ⟨z, its, r, ob, k _ _ (.inl rfl) e, c⟩
  | dK kvs => obtain ⟨z, y, vs, r, ob, es, ep, e, c⟩ := x; exact ⟨z, y, vs, r, ob, es, ep, k _ _ (.inl rfl) e, c⟩
  | dT kvs =>
    obtain ⟨z, y, xs, r, ob, es, ep, e, c⟩ := x
    exact ⟨z, y, xs, Paired.mapP r fun p q z => ⟨z.1, ht _ _ z.2.1, z.2.2⟩, ob, es, ep, k _ _ (.inl rfl) e, c⟩
  | set S n => obtain ⟨ob, es, ep, t, e, c⟩ := x; exact ⟨ob, es, ep, t, k _ _ (.inl rfl) e, c⟩
  | ins C dx fs =>
    obtain ⟨d, z, ne, e, mA, ⟨od, es, ep, e2, c⟩, r⟩ := x
    exact ⟨ho _ d, z, ne, k _ _ (.inl rfl) e, mA, ⟨od, es, ep, k _ _ (.inr d) e2, c⟩, r⟩
  | own y => obtain ⟨ob, e⟩ := x; exact ⟨ob, k _ _ (.inl rfl) e⟩
  | xd fs => obtain ⟨mA, ⟨od, es, ep, e, c⟩, r⟩ := x; exact ⟨mA, ⟨od, es, ep, k _ _ (.inl rfl) e, c⟩, r⟩
  | rng lo hi => obtain ⟨t, u, v, e⟩ := x; exact ⟨t, u, v, k _ _ (.inl rfl) e⟩
  | frz ob u ih => obtain ⟨e, q⟩ := x; exact ⟨k _ _ (.inl rfl) e, ih q⟩
  | tbl ps =>
    have e : h.get? a = some { cls := .none, data := .fields ps } := x
    show h'.get? a = some { cls := .none, data := .fields ps }
    exact k a _ (.inl rfl) e
  | met f y =>
    have e : h.get? a = some (PySem.W.methodObj (.ref f) (.ref y)) := x
    show h'.get? a = some (PySem.W.methodObj (.ref f) (.ref y))
    exact k a _ (.inl rfl) e
  | ext φ => obtain ⟨p, ⟨o, e⟩, st⟩ := x; exact ⟨st _ _ p fun o q => k _ _ (.inl rfl) q, ⟨o, k _ _ (.inl rfl) e⟩, st⟩
theorem HOk.lt (x : HOk P w H h) (e : H a = some o) : a < h.objs.size := (x a o e).lt
theorem HOk.fresh (x : HOk P w H h) (e : h.objs.size ≤ a) : H a = none := by
  cases q : H a with
  | none => rfl
  | some u => exact absurd (Nat.lt_of_lt_of_le (x.lt q) e) (Nat.lt_irrefl _)
theorem HOk.kept (x : HOk P w H h) (k : ∀ b u, h.get? b = some u → h'.get? b = some u) : HOk P w H h' := fun a o e =>
  (x a o e).stay (fun b u _ q => k b u q) (fun _ q => q) fun _ _ q => q
theorem HOk.laid (x : HOk P w H h) (k : ∀ b u, h.get? b = some u → h'.get? b = some u) (hp : h.objs.size ≤ a) (new : ObjOk P w (upd H a o) h' a o) : HOk P w (upd H a o) h' := fun b u e => by
  have hn := x.fresh hp
  by_cases hb : b = a
  · subst hb; rw [qad] at e; cases e; exact new
  · rw [qak hb] at e
    exact (x b u e).stay (fun c v _ q => k c v q) (fun c q => by rw [qak (qam q hn)]; exact q) fun c xs q => by rw [qak (qam q hn)]; exact q
end
noncomputable def Rd (H : Hp) (a : Addr) (u : HO) : Prop := H a = some u ∨ ∃ o, H a = some (.frz o u)
theorem Rd.of {H : Hp} {a : Addr} {u : HO} (h : H a = some u) : Rd H a u := .inl h
theorem Rd.ok {P : Program} {w : World} {H : Hp} {h : Heap} {a : Addr} {u : HO} (r : Rd H a u) (x : HOk P w H h) : ObjOk P w H h a u := by
  rcases r with r | ⟨o, r⟩
  · exact x a u r
  · obtain ⟨_, q⟩ := x a _ r
    exact q
noncomputable def Mut : Option HO → Prop
  | some (.lst _) => True
  | some (.dK _) => True
  | some (.dT _) => True
  | some (.set _ _) => True
  | some (.ins _ _ _) => True
  | some (.ext _) => True
  | _ => False
section
variable {P : Program} {w : World} {H : Hp} {h h' : Heap} {x e : Addr} {o' : HO}
theorem HOk.write (ok : HOk P w H h) (mu : Mut (H x)) (he : e = x ∨ H e = some (.own x)) (k : ∀ b u, b ≠ e → h.get? b = some u → h'.get? b = some u) (heo : ∃ u, h'.get? e = some u)
    (new : ObjOk P w (upd H x o') h' x o') : HOk P w (upd H x o') h' := fun b u q => by
  have nown : ∀ c y, H c = some (.own y) → c ≠ x := fun c y r z => by subst z; rw [r] at mu; exact mu
  have ntup : ∀ c xs, H c = some (.tup xs) → c ≠ x := fun c xs r z => by subst z; rw [r] at mu; exact mu
  by_cases hb : b = x
  · subst hb; rw [qad] at q; cases q; exact new
  · rw [qak hb] at q
    by_cases hbe : b = e
    · have q' : H b = some (.own x) := by
        rcases he with z | z
        · exact absurd (hbe.trans z) hb
        · rw [hbe]; exact z
      rw [q] at q'; cases q'
      obtain ⟨v, hv⟩ := heo
      exact ⟨v, by rw [hbe]; exact hv⟩
    · refine (ok b u q).stay (fun c v hc r => k c v ?_ r) (fun c r => by rw [qak (nown c b r)]; exact r) fun c xs r => by rw [qak (ntup c xs r)]; exact r
      rcases hc with rfl | hc
      · exact hbe
      · rintro rfl
        rcases he with z | z
        · exact nown c b hc z
        · rw [hc] at z; cases z; exact hb rfl
end
structure Un (fs ex : List Addr) (H H' : Hp) (h h' : Heap) : Prop where
  keep : ∀ b o, h.get? b = some o → H b = none → b ∉ fs → b ∉ ex → h'.get? b = some o
  slot : ∀ b o, h.get? b = some o → H b = none → b ∈ fs → b ∉ ex → ∃ sl, h'.get? b = some { o with slots := sl }
  free : ∀ b o, h.get? b = some o → H b = none → b ∉ ex → H' b = none
  there : ∀ b o, h.get? b = some o → b ∉ ex → ∃ o', h'.get? b = some o'
  tups : ∀ b xs, H b = some (.tup xs) → H' b = some (.tup xs)
  frzs : ∀ b o u, H b = some (.frz o u) → H' b = some (.frz o u)
  tbls : ∀ b ps, H b = some (.tbl ps) → ∃ more, H' b = some (.tbl (ps ++ more))
section
variable {fs fs' ex ex' : List Addr} {H H1 H2 : Hp} {h h1 h2 h' : Heap} {a x e : Addr} {o : HO}
theorem Un.any (u : Un fs ex H H1 h h1) {b : Addr} {ob : Obj} (q : h.get? b = some ob) (n : H b = none) (hx : b ∉ ex) : ∃ sl, h1.get? b = some { ob with slots := sl } := by
  by_cases hb : b ∈ fs
  · exact u.slot b ob q n hb hx
  · exact ⟨ob.slots, u.keep b ob q n hb hx⟩
theorem Un.trans (a : Un fs ex H H1 h h1) (b : Un fs ex H1 H2 h1 h2) : Un fs ex H H2 h h2 where
  keep := fun c ob q n hc hx => b.keep c ob (a.keep c ob q n hc hx) (a.free c ob q n hx) hc hx
  slot := fun c ob q n hc hx => by
    obtain ⟨sl, e1⟩ := a.slot c ob q n hc hx
    obtain ⟨sl', e2⟩ := b.slot c _ e1 (a.free c ob q n hx) hc hx
    exact ⟨sl', e2⟩
  free := fun c ob q n hx => by
    obtain ⟨o', e1⟩ := a.there c ob q hx
    exact b.free c o' e1 (a.free c ob q n hx) hx
  there := fun c ob q hx => by
    obtain ⟨o', e1⟩ := a.there c ob q hx
    exact b.there c o' e1 hx
  tups := fun c xs q => b.tups c xs (a.tups c xs q)
  frzs := fun c ob xs q => b.frzs c ob xs (a.frzs c ob xs q)
  tbls := fun c ps q => by
    obtain ⟨m1, e1⟩ := a.tbls c ps q
    obtain ⟨m2, e2⟩ := b.tbls c _ e1
    exact ⟨m1 ++ m2, by rw [e2, Array.append_assoc]⟩
theorem Un.kept (k : ∀ b u, h.get? b = some u → h'.get? b = some u) : Un fs ex H H h h' :=
  ⟨fun b ob q _ _ _ => k b ob q, fun b ob q _ _ _ => ⟨ob.slots, k b ob q⟩, fun _ _ _ n _ => n, fun b ob q _ => ⟨ob, k b ob q⟩, fun _ _ q => q, fun _ _ _ q => q, fun _ ps q => ⟨#[], by rw [q]; simp⟩⟩
theorem Un.refl : Un fs ex H H h h := Un.kept fun _ _ q => q
theorem Un.laid (k : ∀ b u, h.get? b = some u → h'.get? b = some u) (hp : h.objs.size ≤ a) (hn : H a = none) : Un fs ex H (upd H a o) h h' where
  keep := fun b u q _ _ _ => k b u q
  slot := fun b u q _ _ _ => ⟨u.slots, k b u q⟩
  free := fun b u q n _ => by rw [qak (Nat.ne_of_lt (Nat.lt_of_lt_of_le (Heap.lt_size q) hp))]; exact n
  there := fun b u q _ => ⟨u, k b u q⟩
  tups := fun b xs q => by rw [qak (qam q hn)]; exact q
  frzs := fun b u xs q => by rw [qak (qam q hn)]; exact q
  tbls := fun b ps q => ⟨#[], by rw [qak (qam q hn), q]; simp⟩
theorem Un.write (mu : Mut (H x)) (he : e = x ∨ H e = some (.own x)) (k : ∀ b u, b ≠ e → h.get? b = some u → h'.get? b = some u) (heo : ∃ u, h'.get? e = some u) : Un fs ex H (upd H x o) h h' := by
  have hx : ∀ b, H b = none → b ≠ x := fun b n z => by subst z; rw [n] at mu; exact mu
  have hb : ∀ b, H b = none → b ≠ e := fun b n z => by
    subst z
    rcases he with r | r
    · exact hx b n r
    · rw [n] at r; cases r
  have hm : ∀ b u, H b = some u → ¬ Mut (some u) → b ≠ x := fun b u q nm z => by subst z; rw [q] at mu; exact nm mu
  refine ⟨fun b u q n _ _ => k b u (hb b n) q, fun b u q n _ _ => ⟨u.slots, k b u (hb b n) q⟩, fun b u q n _ => by rw [qak (hx b n)]; exact n, fun b u q _ => ?_,
    fun b xs q => by rw [qak (hm b _ q fun z => z)]; exact q, fun b u xs q => by rw [qak (hm b _ q fun z => z)]; exact q, fun b ps q => ⟨#[], by rw [qak (hm b _ q fun z => z), q]; simp⟩⟩
  by_cases hbe : b = e
  · subst hbe; exact heo
  · exact ⟨u, k b u hbe q⟩
theorem Un.mono (u : Un fs ex H H1 h h1) (hs : ∀ b ∈ fs, b ∈ fs') (hx : ∀ b ∈ ex, b ∈ ex') : Un fs' ex' H H1 h h1 :=
  ⟨fun b ob q n hb he => u.keep b ob q n (fun z => hb (hs b z)) fun z => he (hx b z), fun _ _ q n _ he => u.any q n fun z => he (hx _ z), fun b ob q n he => u.free b ob q n fun z => he (hx b z), fun b ob q he => u.there b ob q fun z => he (hx b z), u.tups, u.frzs, u.tbls⟩
end
noncomputable def trk (h : Heap) (H : Hp) : List Addr := (List.range h.objs.size).filter fun a => (H a).isSome
noncomputable def qjE (h : Heap) (H : Hp) : Heap := PySem.W.hideAll h (trk h H)
theorem qh2 (h : Heap) (H : Hp) : (qjE h H).objs.size = h.objs.size := PySem.W.hideAll_size _ _
theorem qjH {h : Heap} {H : Hp} {b : Addr} {o : Obj} (e : h.get? b = some o) (n : H b = none) : (qjE h H).get? b = some o :=
  PySem.W.hideAll_get _ e fun hm => by
    have q : (H b).isSome = true := (List.mem_filter.mp hm).2
    rw [n] at q; simp at q
theorem qlf {h : Heap} {H : Hp} {b : Addr} {o : Obj} (e : (qjE h H).get? b = some o) : h.get? b = some o ∧ H b = none := by
  have e' : h.get? b = some o := PySem.W.of_hideAll (trk h H) e
  refine ⟨e', ?_⟩
  cases q : H b with
  | none => rfl
  | some x =>
    have hm : b ∈ trk h H := List.mem_filter.mpr ⟨List.mem_range.mpr (Heap.lt_size e'), by simp [q]⟩
    have z : (qjE h H).get? b = none := PySem.W.hideAll_none (trk h H) hm
    rw [z] at e; cases e
noncomputable def qlg (g h : Heap) (L : Addr) : List (Addr × Obj) := (List.range h.objs.size).filterMap fun a => if a = L ∨ (g.get? a).isSome = true then none else (h.get? a).map fun o => (a, o)
noncomputable def rest (g h : Heap) (L d : Addr) : List (Addr × Obj) := (qlg g h L).filter fun p => decide (p.1 ≠ d)
end L2
namespace L2
open PySem PySem.Spec PyProof.Rows
structure Mod (K : PySem.W.Frag) (mg : Str → Option Value) (base : Heap) : Prop where
  kin : K.In base
  glob : base.Ns mainGlobals mg
  blt : ∃ mb, base.Ns builtinsNs mb ∧ ∀ x : Str, x ≠ "__name__" → mb x = bootBuiltins x
  nolimit : base.NoLimit
structure Cx where
  prog : Program
  w : World
  K : PySem.W.Frag
  mg : Str → Option Value
  base : Heap
  A : Around
  N : List Str
  s₀ : Shared
  H₀ : Hp
  env : Env
  outer : List Env
  stack : List Env
  ex : List Addr
  fn : Str → Bool
  calm : Bool
  pn : List (Addr × Obj)
  xe : Value → Shared → Prop
noncomputable def frs (l : List Env) : List Addr := l.filterMap (·.frame)
noncomputable abbrev Cx.fs (X : Cx) : List Addr := frs X.outer
noncomputable def Vis (sc : Scope) (x : Str) : Prop := sc.names.lookup x = some .local ∨ sc.names.lookup x = some .cell ∨ sc.names.lookup x = some .free
noncomputable def Loc (sc : Scope) (x : Str) : Prop := sc.names.lookup x = some .local ∨ sc.names.lookup x = some .cell
noncomputable def Look (env : Env) (h : Heap) (m : Str → Option Value) (x : Str) (u : Value) : Prop :=
  (env.kindOf x = some .local ∧ m x = some u) ∨ ((env.kindOf x = some .cell ∨ env.kindOf x = some .free) ∧ ∃ c, env.cells.lookup x = some c ∧ h.IsCell c (some u))
structure Cx.Ok (X : Cx) : Prop where
  mod : Mod X.K X.mg X.base
  kind : X.env.scope.kind = .function
  glob : X.env.globals = mainGlobals
  blt : X.env.builtins = builtinsNs
  above : X.s₀.heap.objs.size ≤ X.env.locals
  inj : ∀ x y c, X.env.cells.lookup x = some c → X.env.cells.lookup y = some c → x = y
  has : ∀ x, (X.env.kindOf x = some .cell ∨ X.env.kindOf x = some .free) → ∃ c, X.env.cells.lookup x = some c
  cab : ∀ x c, X.fn x = true → X.env.cells.lookup x = some c → X.s₀.heap.objs.size ≤ c
  hd : X.calm = true → X.A.handled = none
  frames : X.A.frames = some X.stack
  stk : X.stack = X.outer ∨ (X.stack = X.env :: X.outer ∧ X.env.frame = some X.env.locals)
  exf : ∀ b ∈ X.ex, b ≠ X.env.locals ∧ ∀ x c, X.env.cells.lookup x = some c → c ≠ b
  bs : ∀ b o, X.base.get? b = some o → X.s₀.heap.get? b = some o ∧ X.H₀ b = none
  bsz : X.base.objs.size ≤ X.s₀.heap.objs.size
  noex : ∀ b o, X.base.get? b = some o → b ∉ X.ex
  exfs : ∀ b ∈ X.ex, b ∉ X.fs
  funs : X.s₀.heap.FunFrames X.base X.outer
  frf : ∀ b ∈ X.fs, X.H₀ b = none
  seer : X.base.NoSeer
  tree : (model X.prog X.w).prog.given.tree = none
  plr : ∀ s : Shared, (∀ b o, X.base.get? b = some o → s.heap.get? b = some o) → PySem.PylongRoom (model X.prog X.w) X.A s
structure Inv (X : Cx) (pins : List (Addr × Obj)) (σ : List (Option V)) (H : Hp) (s : Shared) : Prop where
  ok : X.Ok
  os : s.os = X.s₀.os
  bare : AllBare s.gens
  base : Un X.fs X.ex X.H₀ H X.s₀.heap s.heap
  loc : ∃ m, s.heap.Ns X.env.locals m ∧ ∀ (i : Nat) (x : Str) (v : V), X.N[i]? = some x → σ[i]? = some (some v) → Vis X.env.scope x → ∃ u, RelV v u ∧ Look X.env s.heap m x u
  cell : ∀ x c, X.env.cells.lookup x = some c → ∃ v, s.heap.IsCell c v
  free : H X.env.locals = none
  freeC : ∀ x c, X.env.cells.lookup x = some c → H c = none
  pin : ∀ p ∈ X.pn ++ pins, s.heap.get? p.1 = some p.2 ∧ H p.1 = none ∧ p.1 ≠ X.env.locals ∧ p.1 ∉ X.fs ∧ ∀ v, p.2.data ≠ .cell v
  hok : HOk X.prog X.w H s.heap
  len : σ.length = X.N.length
section
variable {X : Cx} {pins : List (Addr × Obj)} {σ : List (Option V)} {H H' : Hp} {s : Shared} {h' : Heap}
theorem Cx.Ok.nofr (ok : X.Ok) {b : Addr} {o : Obj} (e : X.base.get? b = some o) : b ∉ X.fs := fun hb => by
  have := (ok.funs.mem hb).1
  rw [e] at this; cases this
theorem Inv.bs (I : Inv X pins σ H s) : ∀ b o, X.base.get? b = some o → s.heap.get? b = some o ∧ H b = none := fun b o e =>
  ⟨I.base.keep b o (I.ok.bs b o e).1 (I.ok.bs b o e).2 (I.ok.nofr e) (I.ok.noex b o e), I.base.free b o (I.ok.bs b o e).1 (I.ok.bs b o e).2 (I.ok.noex b o e)⟩
theorem Inv.bk (I : Inv X pins σ H s) : ∀ b o, X.base.get? b = some o → s.heap.get? b = some o := fun b o e => (I.bs b o e).1
theorem Inv.mod (I : Inv X pins σ H s) : Mod X.K X.mg X.base := I.ok.mod
theorem Inv.kIn (I : Inv X pins σ H s) : X.K.In s.heap := I.ok.mod.kin.keeps I.bk
theorem Inv.nolimit (I : Inv X pins σ H s) : s.heap.NoLimit := I.ok.mod.nolimit.keeps I.bk
theorem Inv.fr (I : Inv X pins σ H s) : ∃ m, Fr X.base X.env.locals s.heap m :=
  let ⟨m, hn, _⟩ := I.loc
  ⟨m, hn, I.bk, Nat.le_trans I.ok.bsz I.ok.above⟩
theorem Inv.lt (I : Inv X pins σ H s) : X.env.locals < s.heap.objs.size := let ⟨_, hn, _⟩ := I.loc; hn.lt
theorem Inv.sz (I : Inv X pins σ H s) : X.s₀.heap.objs.size ≤ s.heap.objs.size := Nat.le_trans I.ok.above (Nat.le_of_lt I.lt)
theorem Inv.nofs (I : Inv X pins σ H s) {a : Addr} (h : s.heap.objs.size ≤ a) : a ∉ X.fs := fun hb => by
  obtain ⟨_, o, ho, _⟩ := I.ok.funs.mem hb
  exact absurd (Nat.lt_of_lt_of_le (Heap.lt_size ho) (Nat.le_trans I.sz h)) (Nat.lt_irrefl _)
theorem Inv.cne (I : Inv X pins σ H s) : ∀ x c, X.env.cells.lookup x = some c → c ≠ X.env.locals := fun x c e z => by
  obtain ⟨v, o, ho, hd⟩ := I.cell x c e
  obtain ⟨m, ⟨o', es, ep, ho', hd', _⟩, _⟩ := I.loc
  rw [z, ho'] at ho; cases ho; rw [hd'] at hd; cases hd
theorem Inv.funs (I : Inv X pins σ H s) : s.heap.FunFrames X.base X.outer := by
  have all : ∀ (l : List Env), (∀ b ∈ frs l, b ∈ X.fs) → X.s₀.heap.FunFrames X.base l → s.heap.FunFrames X.base l := by
    intro l
    induction l with
    | nil => intro _ _; trivial
    | cons env r ih =>
      intro hs hl
      obtain ⟨hk, ⟨L, o, hf, hn, ho, hd⟩, hr⟩ := hl
      have hL : L ∈ X.fs := hs L (by unfold frs; rw [List.filterMap_cons, hf]; exact List.mem_cons_self)
      obtain ⟨sl, e⟩ := I.base.slot L o ho (I.ok.frf L hL) hL fun z => I.ok.exfs L z hL
      exact ⟨hk, ⟨L, _, hf, hn, e, hd⟩, ih (fun b hb => hs b (by unfold frs; rw [List.filterMap_cons, hf]; exact List.mem_cons_of_mem _ hb)) hr⟩
  exact all X.outer (fun _ hb => hb) I.ok.funs
theorem Inv.stack (I : Inv X pins σ H s) : s.heap.FunFrames X.base X.stack := by
  rcases I.ok.stk with e | ⟨e, hf⟩
  · rw [e]; exact I.funs
  · rw [e]
    obtain ⟨m, hn, _⟩ := I.loc
    refine .cons (by rw [I.ok.kind]; decide) hf hn ?_ I.funs
    exact Heap.get?_none_of_le (Nat.le_trans I.ok.bsz I.ok.above)
theorem Inv.stkSub (I : Inv X pins σ H s) : ∀ b ∈ frs X.stack, b ∈ X.env.locals :: X.fs := fun b hb => by
  rcases I.ok.stk with e | ⟨e, hf⟩
  · rw [e] at hb; exact List.mem_cons_of_mem _ hb
  · rw [e] at hb
    unfold frs at hb
    rw [List.filterMap_cons, hf] at hb
    exact hb
theorem Inv.stkFree (I : Inv X pins σ H s) : ∀ b ∈ frs X.stack, H b = none := fun b hb => by
  rcases List.mem_cons.mp (I.stkSub b hb) with e | hb
  · rw [e]; exact I.free
  · obtain ⟨_, o, ho, _⟩ := I.ok.funs.mem hb
    exact I.base.free b o ho (I.ok.frf b hb) fun z => I.ok.exfs b z hb
theorem Inv.step {g' : Array GenState} {t' : Nat} {d' : Drawn} {ch : List Addr} (I : Inv X pins σ H s)
    (hch : ∀ b ∈ ch, (b ∈ X.ex ∨ X.s₀.heap.objs.size ≤ b) ∧ b ≠ X.env.locals ∧ (∀ x c, X.env.cells.lookup x = some c → c ≠ b) ∧ ∀ p ∈ X.pn ++ pins, p.1 ≠ b)
    (keep : ∀ b o, b ≠ X.env.locals → b ∉ X.fs → b ∉ ch → s.heap.get? b = some o → H b = none → h'.get? b = some o)
    (slot : ∀ b o, b ≠ X.env.locals → b ∈ X.fs → b ∉ ch → s.heap.get? b = some o → H b = none → ∃ sl, h'.get? b = some { o with slots := sl }) (free : ∀ b o, b ∉ ch → s.heap.get? b = some o → H b = none → H' b = none)
    (there : ∀ b o, b ∉ ch → s.heap.get? b = some o → ∃ o', h'.get? b = some o')
    (tups : ∀ b xs, H b = some (.tup xs) → H' b = some (.tup xs)) (frzs : ∀ b o u, H b = some (.frz o u) → H' b = some (.frz o u)) (tbls : ∀ b ps, H b = some (.tbl ps) → ∃ more, H' b = some (.tbl (ps ++ more)))
    (ns : ∀ m, s.heap.Ns X.env.locals m → h'.Ns X.env.locals m) (hok : HOk X.prog X.w H' h') (hg : AllBare g') :
    Inv X pins σ H' { s with heap := h', gens := g', drawn := d', toks := t' } := by
  have neL : ∀ b o, X.s₀.heap.get? b = some o → b ≠ X.env.locals := fun b o e => Nat.ne_of_lt (Nat.lt_of_lt_of_le (Heap.lt_size e) I.ok.above)
  have neC : ∀ b o, X.s₀.heap.get? b = some o → b ∉ X.ex → b ∉ ch := fun b o e hx hb => by
    rcases (hch b hb).1 with z | z
    · exact hx z
    · exact absurd (Nat.lt_of_lt_of_le (Heap.lt_size e) z) (Nat.lt_irrefl _)
  have cellK : ∀ x c, X.env.cells.lookup x = some c → ∀ v, s.heap.IsCell c v → h'.IsCell c v := fun x c e v ⟨o, ho, hd⟩ => by
    have nch : c ∉ ch := fun z => (hch c z).2.2.1 x c e rfl
    by_cases hc : c ∈ X.fs
    · obtain ⟨sl, q⟩ := slot c o (I.cne x c e) hc nch ho (I.freeC x c e)
      exact ⟨_, q, hd⟩
    · exact ⟨o, keep c o (I.cne x c e) hc nch ho (I.freeC x c e), hd⟩
  refine ⟨I.ok, I.os, hg, ⟨fun b o e n hb hx => ?_, fun b o e n hb hx => ?_, fun b o e n hx => ?_, fun b o e hx => ?_, fun b xs e => tups b xs (I.base.tups b xs e), fun b o xs e => frzs b o xs (I.base.frzs b o xs e), fun b ps e => ?_⟩, ?_, fun x c e => ?_, ?_, fun x c e => ?_, fun p hp => ?_, hok, I.len⟩
  · exact keep b o (neL b o e) hb (neC b o e hx) (I.base.keep b o e n hb hx) (I.base.free b o e n hx)
  · obtain ⟨sl, e1⟩ := I.base.slot b o e n hb hx
    obtain ⟨sl', e2⟩ := slot b _ (neL b o e) hb (neC b o e hx) e1 (I.base.free b o e n hx)
    exact ⟨sl', e2⟩
  · obtain ⟨o', e1⟩ := I.base.there b o e hx
    exact free b o' (neC b o e hx) e1 (I.base.free b o e n hx)
  · obtain ⟨o', e1⟩ := I.base.there b o e hx
    exact there b o' (neC b o e hx) e1
  · obtain ⟨m1, e1⟩ := I.base.tbls b ps e
    obtain ⟨m2, e2⟩ := tbls b _ e1
    exact ⟨m1 ++ m2, by rw [e2, Array.append_assoc]⟩
  · obtain ⟨m, hn, hl⟩ := I.loc
    refine ⟨m, ns m hn, fun i x v e1 e2 e3 => ?_⟩
    obtain ⟨u, r, l⟩ := hl i x v e1 e2 e3
    refine ⟨u, r, ?_⟩
    rcases l with l | ⟨k, c, e, z⟩
    · exact .inl l
    · exact .inr ⟨k, c, e, cellK x c e _ z⟩
  · obtain ⟨v, z⟩ := I.cell x c e
    exact ⟨v, cellK x c e v z⟩
  · obtain ⟨m, ⟨o, _, _, ho, _⟩, _⟩ := I.loc
    exact free _ o (fun z => (hch _ z).2.1 rfl) ho I.free
  · obtain ⟨v, o, ho, hd⟩ := I.cell x c e
    exact free c o (fun z => (hch c z).2.2.1 x c e rfl) ho (I.freeC x c e)
  · obtain ⟨e, n, ne, nf, d⟩ := I.pin p hp
    have nch : p.1 ∉ ch := fun z => (hch p.1 z).2.2.2 p hp rfl
    exact ⟨keep p.1 p.2 ne nf nch e n, free p.1 p.2 nch e n, ne, nf, d⟩
theorem Inv.un {t' : Nat} (I : Inv X pins σ H s) (u : Un X.fs [] H H' s.heap h') (hok : HOk X.prog X.w H' h') : Inv X pins σ H' { s with heap := h', toks := t' } := by
  obtain ⟨m, ⟨o, es, ep, ho, r⟩, _⟩ := id I.loc
  obtain ⟨sl, hL⟩ := u.any ho I.free (by simp)
  exact I.step (g' := s.gens) (d' := s.drawn) (ch := []) (fun _ z => nomatch z) (fun b o _ hb _ e n => u.keep b o e n hb (by simp)) (fun b o _ hb _ e n => u.slot b o e n hb (by simp)) (fun b o _ e n => u.free b o e n (by simp)) (fun b o _ e => u.there b o e (by simp)) u.tups u.frzs u.tbls (fun m' hm => by
    obtain ⟨o', es', ep', ho', r'⟩ := hm
    rw [ho] at ho'; cases ho'
    exact ⟨_, es', ep', hL, r'⟩) hok I.bare
theorem Inv.call {g' : Array GenState} {t' : Nat} {d' : Drawn} {ch : List Addr} (I : Inv X pins σ H s) (u : Un (frs X.stack) ch H H' s.heap h') (hok : HOk X.prog X.w H' h') (hg : AllBare g')
    (hch : ∀ b ∈ ch, (b ∈ X.ex ∨ X.s₀.heap.objs.size ≤ b) ∧ b ≠ X.env.locals ∧ (∀ x c, X.env.cells.lookup x = some c → c ≠ b) ∧ ∀ p ∈ X.pn ++ pins, p.1 ≠ b) :
    Inv X pins σ H' { s with heap := h', gens := g', drawn := d', toks := t' } := by
  obtain ⟨m, ⟨o, es, ep, ho, r⟩, _⟩ := id I.loc
  obtain ⟨sl, hL⟩ := u.any ho I.free fun z => (hch _ z).2.1 rfl
  exact I.step (ch := ch) hch (fun b o hL hb hc e n => u.keep b o e n (fun z => (List.mem_cons.mp (I.stkSub b z)).elim hL hb) hc) (fun b o _ _ hc e n => u.any e n hc) (fun b o hc e n => u.free b o e n hc) (fun b o hc e => u.there b o e hc) u.tups u.frzs u.tbls (fun m' hm => by
    obtain ⟨o', es', ep', ho', r'⟩ := hm
    rw [ho] at ho'; cases ho'
    exact ⟨_, es', ep', hL, r'⟩) hok hg
theorem Inv.turned {t' : Nat} {it : Addr} (I : Inv X pins σ H s) (k : ∀ b o, b ≠ it → s.heap.get? b = some o → h'.get? b = some o) (hn : H it = none) (hL : it ≠ X.env.locals)
    (h1 : it ∈ X.ex ∨ X.s₀.heap.objs.size ≤ it) (h2 : ∀ x c, X.env.cells.lookup x = some c → c ≠ it) (h3 : ∀ p ∈ X.pn ++ pins, p.1 ≠ it) : Inv X pins σ H { s with heap := h', toks := t' } := by
  have nit : ∀ b u, H b = some u → b ≠ it := fun b u e z => by rw [z, hn] at e; cases e
  refine I.step (g' := s.gens) (d' := s.drawn) (ch := [it]) (fun b hb => ?_) (fun b o _ _ hc e _ => k b o (fun z => hc (by simp [z])) e) (fun b o _ _ hc e _ => ⟨o.slots, k b o (fun z => hc (by simp [z])) e⟩) (fun _ _ _ _ n => n)
    (fun b o hc e => ⟨o, k b o (fun z => hc (by simp [z])) e⟩) (fun _ _ e => e) (fun _ _ _ e => e) (fun b ps e => ⟨#[], by rw [e]; simp⟩) (fun m hm => ?_) (fun b u e => ?_) I.bare
  · have e : b = it := by simpa using hb
    subst e
    exact ⟨h1, hL, h2, h3⟩
  · obtain ⟨o, es, ep, ho, r⟩ := hm
    exact ⟨o, es, ep, k _ o (Ne.symm hL) ho, r⟩
  · refine (I.hok b u e).stay (fun c v hc q => k c v ?_ q) (fun _ q => q) fun _ _ q => q
    rcases hc with z | z
    · rw [z]; exact nit b u e
    · exact nit c _ z
theorem Inv.tok (I : Inv X pins σ H s) (t : Nat) : Inv X pins σ H { s with toks := t } := I.un (h' := s.heap) (t' := t) Un.refl I.hok
theorem Inv.kept {t' : Nat} (I : Inv X pins σ H s) (k : ∀ b u, s.heap.get? b = some u → h'.get? b = some u) : Inv X pins σ H { s with heap := h', toks := t' } := I.un (Un.kept k) (I.hok.kept k)
theorem Inv.laid {a : Addr} {o : HO} {t' : Nat} (I : Inv X pins σ H s) (k : ∀ b u, s.heap.get? b = some u → h'.get? b = some u) (hp : s.heap.objs.size ≤ a) (new : ObjOk X.prog X.w (upd H a o) h' a o) :
    Inv X pins σ (upd H a o) { s with heap := h', toks := t' } := I.un (Un.laid k hp (I.hok.fresh hp)) (I.hok.laid k hp new)
theorem Inv.write {x e : Addr} {o : HO} {t' : Nat} (I : Inv X pins σ H s) (mu : Mut (H x)) (he : e = x ∨ H e = some (.own x)) (k : ∀ b u, b ≠ e → s.heap.get? b = some u → h'.get? b = some u) (heo : ∃ u, h'.get? e = some u)
    (new : ObjOk X.prog X.w (upd H x o) h' x o) : Inv X pins σ (upd H x o) { s with heap := h', toks := t' } := I.un (Un.write mu he k heo) (I.hok.write mu he k heo new)
theorem Inv.pins_of {pins' : List (Addr × Obj)} (I : Inv X pins σ H s) (h : ∀ p ∈ pins', s.heap.get? p.1 = some p.2 ∧ H p.1 = none ∧ p.1 ≠ X.env.locals ∧ p.1 ∉ X.fs ∧ ∀ v, p.2.data ≠ .cell v) : Inv X pins' σ H s :=
  ⟨I.ok, I.os, I.bare, I.base, I.loc, I.cell, I.free, I.freeC, fun p hp => (List.mem_append.mp hp).elim (fun z => I.pin p (List.mem_append_left _ z)) (h p), I.hok, I.len⟩
theorem qgD {N : List Str} (hN : N.Nodup) {i j : Nat} {x : Str} (a : N[i]? = some x) (b : N[j]? = some x) : i = j := by
  obtain ⟨h1, e1⟩ := List.getElem?_eq_some_iff.mp a
  obtain ⟨h2, e2⟩ := List.getElem?_eq_some_iff.mp b
  exact (List.getElem_inj hN).mp (e1.trans e2.symm)
theorem qdX {M : Model} {A : Around} {E : Value → Shared → Prop} {i : Nat} {x : Str} {v : V} {u : Value} {Q : Unit → Shared → Prop} (I : Inv X pins σ H s) (hN : X.N.Nodup) (hi : X.N[i]? = some x) (hx : Loc X.env.scope x) (r : RelV v u)
    (h : ∀ s', Inv X pins (σ.set i (some v)) H s' → (∃ a, Heap.SameBut a s.heap s'.heap ∧ (a = X.env.locals ∨ X.env.cells.lookup x = some a)) → Q () s') (hf : X.fn x = true ∨ X.env.scope.names.lookup x = some .local := by first | exact .inl rfl | exact .inr rfl | assumption) : wpAny M A (storeName X.env x u) Q E s := by
  obtain ⟨m, hn, hl⟩ := id I.loc
  have hcls : (X.env.scope.kind == .class || (X.env.scope.kind == .module && X.env.locals != X.env.globals)) = false := by rw [I.ok.kind]; rfl
  have hiσ : i < σ.length := by rw [I.len]; exact (List.getElem?_eq_some_iff.mp hi).1
  have cne := I.cne
  have tracked : ∀ {a : Addr} {h' : Heap}, (∃ o, s.heap.get? a = some o ∧ H a = none) → Heap.SameBut a s.heap h' → HOk X.prog X.w H h' := fun {a h'} ha hs b ob e => by
    obtain ⟨_, _, hfree⟩ := ha
    refine (I.hok b ob e).stay (fun c w' hc q => (hs.2 c ?_).trans q) (fun _ q => q) fun _ _ q => q
    rintro rfl
    rcases hc with rfl | hc
    · rw [hfree] at e; cases e
    · rw [hfree] at hc; cases hc
  rcases hx with hk | hk
  · refine wpAny_storeName_local hk hn (fun h' hn' hs => ?_) hcls
    obtain ⟨oL, _, _, hoL, _⟩ := id hn
    refine h _ ⟨I.ok, I.os, I.bare, ⟨fun b o e n hb hx => ?_, fun b o e n hb hx => ?_, I.base.free, fun b o e hx => ?_, I.base.tups, I.base.frzs, I.base.tbls⟩, ⟨_, hn', fun j y v' e1 e2 e3 => ?_⟩, fun y c e => ?_, I.free, I.freeC, fun p hp => ?_, tracked ⟨oL, hoL, I.free⟩ hs, by simpa using I.len⟩ ⟨_, hs, .inl rfl⟩
    · exact (hs.2 b (Nat.ne_of_lt (Nat.lt_of_lt_of_le (Heap.lt_size e) I.ok.above))).trans (I.base.keep b o e n hb hx)
    · obtain ⟨sl, e1⟩ := I.base.slot b o e n hb hx
      exact ⟨sl, (hs.2 b (Nat.ne_of_lt (Nat.lt_of_lt_of_le (Heap.lt_size e) I.ok.above))).trans e1⟩
    · obtain ⟨o', e1⟩ := I.base.there b o e hx
      exact ⟨o', (hs.2 b (Nat.ne_of_lt (Nat.lt_of_lt_of_le (Heap.lt_size e) I.ok.above))).trans e1⟩
    · by_cases hj : j = i
      · subst hj
        rw [hi] at e1; cases e1
        rw [List.getElem?_set_self hiσ] at e2
        cases e2
        exact ⟨u, r, .inl ⟨hk, by simp⟩⟩
      · rw [List.getElem?_set_ne (Ne.symm hj)] at e2
        obtain ⟨u', r', q⟩ := hl j y v' e1 e2 e3
        refine ⟨u', r', ?_⟩
        rcases q with ⟨k, e⟩ | ⟨k, c, e, z⟩
        · refine .inl ⟨k, ?_⟩
          have : y ≠ x := fun e => hj (qgD hN e1 (e ▸ hi))
          simp [this, e]
        · exact .inr ⟨k, c, e, z.sameBut hs (cne y c e)⟩
    · obtain ⟨w', z⟩ := I.cell y c e
      exact ⟨w', z.sameBut hs (cne y c e)⟩
    · obtain ⟨e, n, ne, nf, d⟩ := I.pin p hp
      exact ⟨(hs.2 p.1 ne).trans e, n, ne, nf, d⟩
  · have hfn : X.fn x = true := by
      rcases hf with z | z
      · exact z
      · rw [z] at hk; cases hk
    obtain ⟨c, hc⟩ := I.ok.has x (.inl hk)
    obtain ⟨w', z⟩ := I.cell x c hc
    refine wpAny_storeName_cell I.ok.kind hk hc z (fun h' hc' hs => ?_)
    obtain ⟨oc, hoc, hocd⟩ := id z
    refine h { s with heap := h' } ⟨I.ok, I.os, I.bare, ⟨fun b o e n hb hx => ?_, fun b o e n hb hx => ?_, I.base.free, fun b o e hx => ?_, I.base.tups, I.base.frzs, I.base.tbls⟩, ⟨m, hn.sameBut hs (Ne.symm (cne x c hc)), fun j y v' e1 e2 e3 => ?_⟩, fun y c' e => ?_, I.free, I.freeC, fun p hp => ?_, tracked ⟨oc, hoc, I.freeC x c hc⟩ hs, by simpa using I.len⟩ ⟨c, hs, .inr hc⟩
    · exact (hs.2 b (Nat.ne_of_lt (Nat.lt_of_lt_of_le (Heap.lt_size e) (I.ok.cab x c hfn hc)))).trans (I.base.keep b o e n hb hx)
    · obtain ⟨sl, e1⟩ := I.base.slot b o e n hb hx
      exact ⟨sl, (hs.2 b (Nat.ne_of_lt (Nat.lt_of_lt_of_le (Heap.lt_size e) (I.ok.cab x c hfn hc)))).trans e1⟩
    · obtain ⟨o', e1⟩ := I.base.there b o e hx
      exact ⟨o', (hs.2 b (Nat.ne_of_lt (Nat.lt_of_lt_of_le (Heap.lt_size e) (I.ok.cab x c hfn hc)))).trans e1⟩
    · by_cases hj : j = i
      · subst hj
        rw [hi] at e1; cases e1
        rw [List.getElem?_set_self hiσ] at e2
        cases e2
        exact ⟨u, r, .inr ⟨.inl hk, c, hc, hc'⟩⟩
      · rw [List.getElem?_set_ne (Ne.symm hj)] at e2
        obtain ⟨u', r', q⟩ := hl j y v' e1 e2 e3
        refine ⟨u', r', ?_⟩
        rcases q with q | ⟨k, c', e, z'⟩
        · exact .inl q
        · refine .inr ⟨k, c', e, z'.sameBut hs ?_⟩
          rintro rfl
          exact hj (qgD hN e1 (I.ok.inj _ _ _ e hc ▸ hi))
    · by_cases hcc : c' = c
      · subst hcc; exact ⟨_, hc'⟩
      · obtain ⟨w2, z2⟩ := I.cell y c' e
        exact ⟨w2, z2.sameBut hs hcc⟩
    · obtain ⟨e, n, ne, nf, d⟩ := I.pin p hp
      refine ⟨(hs.2 p.1 ?_).trans e, n, ne, nf, d⟩
      intro q
      rw [q, hoc] at e
      have q' : oc = p.2 := Option.some.inj e
      exact d w' (by rw [← q']; exact hocd)
theorem qcF {M : Model} {A : Around} {E : Value → Shared → Prop} {i : Nat} {x : Str} {v : V} {u : Value} {Q : Unit → Shared → Prop} (I : Inv X pins σ H s) (hN : X.N.Nodup) (hi : X.N[i]? = some x) (hx : Loc X.env.scope x) (r : RelV v u)
    (h : ∀ s', Inv X pins (σ.set i (some v)) H s' → Q () s') (hf : X.fn x = true ∨ X.env.scope.names.lookup x = some .local := by first | exact .inl rfl | exact .inr rfl | assumption) : wpAny M A (storeName X.env x u) Q E s :=
  qdX I hN hi hx r (fun s' I' _ => h s' I') hf
theorem Inv.call' {s' : Shared} {ch : List Addr} (I : Inv X pins σ H s) (ho : s'.os = s.os) (u : Un (frs X.stack) ch H H' s.heap s'.heap) (hok : HOk X.prog X.w H' s'.heap) (hg : AllBare s'.gens)
    (hch : ∀ b ∈ ch, (b ∈ X.ex ∨ X.s₀.heap.objs.size ≤ b) ∧ b ≠ X.env.locals ∧ (∀ x c, X.env.cells.lookup x = some c → c ≠ b) ∧ ∀ p ∈ X.pn ++ pins, p.1 ≠ b) : Inv X pins σ H' s' := by
  obtain ⟨h', g', d', t', o'⟩ := s'
  have e : o' = s.os := ho
  subst e
  exact I.call (g' := g') (t' := t') (d' := d') u hok hg hch
end
noncomputable abbrev XK := Value → Option Addr → Hp → Prop
noncomputable abbrev St := List (Option V)
noncomputable abbrev VK := V → Hp → Prop
noncomputable abbrev TE := St → Hp → VK → Prop
noncomputable abbrev TT := St → Hp → (Bool → Hp → Prop) → Prop
noncomputable abbrev TA := St → Hp → (List V → Hp → Prop) → Prop
structure Ends where
  nx : St → Hp → Prop
  rt : VK
  bk : St → Hp → Prop := fun _ _ => False
  ct : St → Hp → Prop := fun _ _ => False
noncomputable abbrev TS := Ends → St → Hp → Prop
noncomputable def EP (X : Cx) (pins : List (Addr × Obj)) (σ : St) (Q : VK) (u : Value) (s' : Shared) : Prop := ∃ v H', Inv X pins σ H' s' ∧ RelV v u ∧ Q v H'
noncomputable def TP (X : Cx) (pins : List (Addr × Obj)) (σ : St) (Q : Bool → Hp → Prop) (b : Bool) (s' : Shared) : Prop := ∃ H', Inv X pins σ H' s' ∧ Q b H'
noncomputable def AP (X : Cx) (pins : List (Addr × Obj)) (σ : St) (Q : List V → Hp → Prop) (us : List Value) (s' : Shared) : Prop := ∃ vs H', Inv X pins σ H' s' ∧ Vals vs us ∧ Q vs H'
noncomputable def SP (X : Cx) (pins : List (Addr × Obj)) (D : Ends) (f : Flow) (s' : Shared) : Prop :=
  match f with
  | .next => ∃ σ' H', Inv X pins σ' H' s' ∧ D.nx σ' H'
  | .brk => ∃ σ' H', Inv X pins σ' H' s' ∧ D.bk σ' H'
  | .cont => ∃ σ' H', Inv X pins σ' H' s' ∧ D.ct σ' H'
  | .ret u => ∃ v σ' H', Inv X pins σ' H' s' ∧ RelV v u ∧ D.rt v H'
noncomputable def PE (X : Cx) (e : Expr) (t : TE) : Prop :=
  ∀ (pins : List (Addr × Obj)) (s : Shared) (σ : St) (H : Hp) (Q : VK), Inv X pins σ H s → t σ H Q → wpAny (model X.prog X.w) X.A (eval e X.env) (EP X pins σ Q) X.xe s
noncomputable def PT (X : Cx) (e : Expr) (t : TT) : Prop :=
  ∀ (pins : List (Addr × Obj)) (s : Shared) (σ : St) (H : Hp) (Q : Bool → Hp → Prop), Inv X pins σ H s → t σ H Q → wpAny (model X.prog X.w) X.A (isTrue e X.env (eval e X.env)) (TP X pins σ Q) X.xe s
noncomputable def PW (X : Cx) (e : Expr) (t : TT) : Prop :=
  ∀ (whole : Sem Value) (pins : List (Addr × Obj)) (s : Shared) (σ : St) (H : Hp) (Q : Bool → Hp → Prop), Inv X pins σ H s → t σ H Q → wpAny (model X.prog X.w) X.A (isTrue e X.env whole) (TP X pins σ Q) X.xe s
theorem PW.pt {X : Cx} {e : Expr} {t : TT} (h : PW X e t) : PT X e t := h _
noncomputable def PA (X : Cx) (es : List Expr) (t : TA) : Prop :=
  ∀ (pos : Pos) (pins : List (Addr × Obj)) (s : Shared) (σ : St) (H : Hp) (Q : List V → Hp → Prop), Inv X pins σ H s → t σ H Q → wpAny (model X.prog X.w) X.A (spliced (backTo pos (starEach es X.env))) (AP X pins σ Q) X.xe s
noncomputable def PS (X : Cx) (st : Stmt) (t : TS) : Prop :=
  ∀ (pins : List (Addr × Obj)) (s : Shared) (σ : St) (H : Hp) (D : Ends), Inv X pins σ H s → t D σ H → wpAny (model X.prog X.w) X.A (exec st X.env) (SP X pins D) X.xe s
noncomputable def PSs (X : Cx) (st : List Stmt) (t : TS) : Prop :=
  ∀ (pins : List (Addr × Obj)) (s : Shared) (σ : St) (H : Hp) (D : Ends), Inv X pins σ H s → t D σ H → wpAny (model X.prog X.w) X.A (execs st X.env) (SP X pins D) X.xe s
theorem thn {α : Type} {t : Sem α} {Q Q' : α → Shared → Prop} {M : Model} {A : Around} {E : Value → Shared → Prop} {s : Shared} (h : wpAny M A t Q E s) (hQ : ∀ a s, Q a s → Q' a s) : wpAny M A t Q' E s := wpAny_mono h hQ fun _ _ x => x
end L2
namespace L2
open PySem PySem.Spec PyProof.Rows
section
variable {X : Cx}
noncomputable def qai (i : Nat) : TE := fun σ H Q => ∃ v, σ[i]? = some (some v) ∧ Q v H
noncomputable def tC (v : V) : TE := fun _ H Q => Q v H
theorem qmy {i : Nat} {x : Str} {pos : Pos} (hN : X.N[i]? = some x) (hv : Vis X.env.scope x) (hd : (x == ("__debug__" : Str)) = false := by decide) (hcd : (x == ("__classdict__" : Str)) = false := by decide) : PE X (.Name x pos) (qai i) := by
  intro pins s σ H Q I h
  obtain ⟨v, e, h⟩ := h
  obtain ⟨m, hn, hl⟩ := I.loc
  obtain ⟨u, r, l⟩ := hl i x v hN e hv
  have fin : EP X pins σ Q u s := ⟨v, H, I, r, h⟩
  rcases l with ⟨hk, hm⟩ | ⟨hk, c, hc, hcell⟩
  · exact wpAny_Name (wpAny_loadName_local I.ok.kind hk hn hm fin) hd
  · rcases hk with hk | hk
    · exact wpAny_Name (wpAny_loadName_cell I.ok.kind hk hc hcell fin) hd
    · exact wpAny_Name (wpAny_loadName_free I.ok.kind hk hc hcell fin hcd) hd
theorem qab {i j pos} : PE X (.Constant (.int i) j pos) (tC (.int i)) := fun _ _ _ H _ I h => wpAny_Constant_int ⟨.int i, H, I.tok _, ⟨_, rfl⟩, h⟩
theorem qjI {b j pos} : PE X (.Constant (.bool b) j pos) (tC (.bl b)) := fun _ _ _ H _ I h => Constant_bool ⟨.bl b, H, I, rfl, h⟩
noncomputable def Gl (X : Cx) (x : Str) : Prop := X.env.kindOf x = some .globalImplicit
theorem qf7 {E : Value → Shared → Prop} {pins : List (Addr × Obj)} {s : Shared} {σ : St} {H : Hp} {x : Str} {u : Value} {pos : Pos} {Q : Value → Shared → Prop} (I : Inv X pins σ H s) (hg : Gl X x) (hm : X.mg x = some u) (h : Q u s)
    (hd : (x == ("__debug__" : Str)) = false := by decide) : wpAny (model X.prog X.w) X.A (eval (.Name x pos) X.env) Q E s :=
  Calls.Name_function_global I.ok.kind hg (Calls.loadGlobal_global (by rw [I.ok.glob]; exact I.mod.glob.keeps I.bk) hm h) hd
theorem qdY {E : Value → Shared → Prop} {pins : List (Addr × Obj)} {s : Shared} {σ : St} {H : Hp} {x : Str} {u : Value} {pos : Pos} {Q : Value → Shared → Prop} (I : Inv X pins σ H s) (hg : Gl X x) (hm : X.mg x = none) (hv : bootBuiltins x = some u) (h : Q u s)
    (hn : x ≠ "__name__" := by decide) (hd : (x == ("__debug__" : Str)) = false := by decide) : wpAny (model X.prog X.w) X.A (eval (.Name x pos) X.env) Q E s := by
  obtain ⟨mb, h1, h2⟩ := I.mod.blt
  exact Calls.Name_function_global I.ok.kind hg (Calls.loadGlobal_builtin (by rw [I.ok.glob]; exact I.mod.glob.keeps I.bk) hm (by rw [I.ok.blt]; exact h1.keeps I.bk) ((h2 x hn).trans hv) h) hd
theorem qlh {x : Str} {v : V} {u : Value} {pos : Pos} (hg : Gl X x) (hm : X.mg x = some u) (r : RelV v u) (hd : (x == ("__debug__" : Str)) = false := by decide) : PE X (.Name x pos) (tC v) :=
  fun _ _ _ H _ I h => qf7 I hg hm ⟨v, H, I, r, h⟩ hd
theorem qeX {x : Str} {v : V} {u : Value} {pos : Pos} (hg : Gl X x) (hm : X.mg x = none) (hv : bootBuiltins x = some u) (r : RelV v u) (hn : x ≠ "__name__" := by decide) (hd : (x == ("__debug__" : Str)) = false := by decide) : PE X (.Name x pos) (tC v) :=
  fun _ _ _ H _ I h => qdY I hg hm hv ⟨v, H, I, r, h⟩ hn hd
variable {a b : Expr} {ta tb : TE} {pos : Pos}
noncomputable def tB (t : TE) : TT := fun σ H Q => t σ H fun x H1 => ∃ c, x = .bl c ∧ Q c H1
theorem qcG {e : Expr} {t : TE} (h : PE X e t) (he : ∀ whole, isTrue e X.env whole = (do let v ← whole; standAt e.pos; holding [v] (truthy v)) := by intro _; rfl) : PT X e (tB t) := by
  intro pins s σ H Q I hw
  refine isTrue_plain (thn (h pins s σ H _ I hw) fun v s1 ⟨x, H1, I1, r1, q1⟩ => ?_) (he _)
  obtain ⟨d, rfl, q⟩ := q1
  cases r1
  exact wpAny_truthy_bool ⟨H1, I1, q⟩
variable {tA tB' : TT} {rest : List Expr}
noncomputable def qnR (t u : TT) : TT := fun σ H Q => t σ H fun c H1 => if c = true then u σ H1 Q else Q false H1
noncomputable def tOr (t u : TT) : TT := fun σ H Q => t σ H fun c H1 => if c = true then Q true H1 else u σ H1 Q
noncomputable def qjJ (t : TT) : TT := fun σ H Q => t σ H fun c H1 => Q (!c) H1
theorem qh3 (ha : PT X a tA) : PW X (.BoolOp .And [a] pos) tA := by
  intro wh pins s σ H Q I h
  refine isTrue_and (thn (ha pins s σ H Q I h) fun c s1 e => ?_)
  cases c with
  | true => exact isTrue_and_nil e
  | false => exact e
theorem qgE (ha : PT X a tA) : PW X (.BoolOp .Or [a] pos) tA := by
  intro wh pins s σ H Q I h
  refine isTrue_or (thn (ha pins s σ H Q I h) fun c s1 e => ?_)
  cases c with
  | false => exact isTrue_or_nil e
  | true => exact e
theorem qkL (ha : PT X a tA) (hb : PW X (.BoolOp .And (b :: rest) pos) tB') : PW X (.BoolOp .And (a :: b :: rest) pos) (qnR tA tB') := by
  intro wh pins s σ H Q I h
  refine isTrue_and (thn (ha pins s σ H _ I h) fun c s1 ⟨H1, I1, q1⟩ => ?_)
  cases c with
  | true => exact hb wh pins s1 σ H1 Q I1 q1
  | false => exact ⟨H1, I1, q1⟩
theorem qhn (ha : PT X a tA) (hb : PW X (.BoolOp .Or (b :: rest) pos) tB') : PW X (.BoolOp .Or (a :: b :: rest) pos) (tOr tA tB') := by
  intro wh pins s σ H Q I h
  refine isTrue_or (thn (ha pins s σ H _ I h) fun c s1 ⟨H1, I1, q1⟩ => ?_)
  cases c with
  | true => exact ⟨H1, I1, q1⟩
  | false => exact hb wh pins s1 σ H1 Q I1 q1
theorem qdZ (ha : PT X a tA) : PT X (.UnaryOp .Not a pos) (qjJ tA) := by
  intro pins s σ H Q I h
  exact isTrue_not (ha pins s σ H (fun c H1 => Q (!c) H1) I h)
noncomputable def qjK (ta tb : TE) : TE := fun σ H Q => ta σ H fun x H1 => ∃ c, x = .bl c ∧ if c = true then tb σ H1 Q else Q (.bl false) H1
noncomputable def qoA (ta tb : TE) : TE := fun σ H Q => ta σ H fun x H1 => ∃ c, x = .bl c ∧ if c = true then Q (.bl true) H1 else tb σ H1 Q
noncomputable def qnW (ta : TE) : TE := fun σ H Q => ta σ H fun x H1 => ∃ c, x = .bl c ∧ Q (.bl (!c)) H1
theorem qkM {op} {t : TE} (h : PE X a t) : PE X (.BoolOp op [a] pos) t := fun pins s σ H Q I hw => BoolOp_one (h pins s σ H Q I hw)
theorem qkN (ha : PE X a ta) (hb : PE X (.BoolOp .And (b :: rest) pos) tb) : PE X (.BoolOp .And (a :: b :: rest) pos) (qjK ta tb) := by
  intro pins s σ H Q I h
  refine BoolOp_and (thn (ha pins s σ H _ I h) fun v s1 ⟨x, H1, I1, r1, q1⟩ => ?_)
  obtain ⟨c, rfl, q1⟩ := q1
  cases r1
  refine wpAny_truthy_bool ?_
  cases c with
  | true => exact hb pins s1 σ H1 Q I1 q1
  | false => exact ⟨.bl false, H1, I1, rfl, q1⟩
noncomputable def tIf (t : TT) (ta tb : TE) : TE := fun σ H Q => t σ H fun c H1 => if c = true then ta σ H1 Q else tb σ H1 Q
end
end L2
namespace L2
open PySem PySem.Spec PyProof.Rows
noncomputable def SqL (K : PySem.W.Frag) (H : Hp) (a : Addr) (xs : List V) : Prop :=
  Rd H a (.lst xs) ∨
    ∃ (o : Obj) (its : Array Value) (n : Nat), K.lookup a = some o ∧ o.cls = .type "list" ∧ o.dict = none ∧ o.data = .seq its n ∧ its.size ≤ sizeLine ∧ Vals xs its.toList
noncomputable def SqT (K : PySem.W.Frag) (H : Hp) (a : Addr) (xs : List V) : Prop :=
  Rd H a (.tup xs) ∨
    ∃ (o : Obj) (its : Array Value) (n : Nat), K.lookup a = some o ∧ o.cls = .type "tuple" ∧ o.data = .seq its n ∧ its.size ≤ sizeLine ∧ Vals xs its.toList
noncomputable def qoB : Value → Option V
  | .none => some .non
  | .bool b => some (.bl b)
  | .int i _ => some (.int i)
  | .str x _ => some (.str x)
  | .bytes b _ => some (.byt b)
  | .float b _ => some (.flt b)
  | .ref a => some (.ref a)
  | .type n => some (.ty n)
  | _ => none
theorem RelV.abs {x : V} {u : Value} (r : RelV x u) : qoB u = some x := by
  cases x with
  | non => cases r; rfl
  | bl _ => cases r; rfl
  | int _ => obtain ⟨t, rfl⟩ := r; rfl
  | str _ => obtain ⟨t, rfl⟩ := r; rfl
  | byt _ => obtain ⟨t, rfl⟩ := r; rfl
  | flt _ => obtain ⟨t, rfl⟩ := r; rfl
  | ref _ => cases r; rfl
  | ty _ => cases r; rfl
theorem RelV.inj {x y : V} {u : Value} (r : RelV x u) (q : RelV y u) : x = y := Option.some.inj (r.abs.symm.trans q.abs)
theorem Vals.inj : ∀ {xs ys : List V} {us : List Value}, Vals xs us → Vals ys us → xs = ys
  | _, _, _, .nil, .nil => rfl
  | _, _, _, .cons r t, .cons r' t' => by rw [r.inj r', Vals.inj t t']
section
variable {X : Cx} {pins : List (Addr × Obj)} {σ : St} {H : Hp} {s : Shared} {a : Addr} {xs ys : List V}
theorem SqL.of {K : PySem.W.Frag} (h : H a = some (.lst xs)) : SqL K H a xs := .inl (.inl h)
theorem SqT.of {K : PySem.W.Frag} (h : H a = some (.tup xs)) : SqT K H a xs := .inl (.inl h)
theorem Inv.list (I : Inv X pins σ H s) (h : SqL X.K H a xs) : ∃ its : List Value, Vals xs its ∧ PlainL s.heap a its.toArray ∧ xs.length ≤ sizeLine := by
  rcases h with h | ⟨o, its, n, hk, hc, hd, hs, hz, r⟩
  · obtain ⟨z, its, n, r, e⟩ := h.ok I.hok
    exact ⟨its, r, ⟨_, n, e, rfl, rfl, rfl⟩, z⟩
  · refine ⟨its.toList, r, ⟨o, n, I.kIn a o hk, hc, hd, by simpa using hs⟩, ?_⟩
    have e := r.length
    simp only [Array.length_toList] at e
    omega
theorem Inv.tuple (I : Inv X pins σ H s) (h : SqT X.K H a xs) : ∃ its : List Value, Vals xs its ∧ IsTup s.heap a its.toArray ∧ xs.length ≤ sizeLine := by
  rcases h with h | ⟨o, its, n, hk, hc, hs, hz, r⟩
  · obtain ⟨z, its, r, p⟩ := h.ok I.hok
    exact ⟨its, r, p, z⟩
  · refine ⟨its.toList, r, ⟨o, I.kIn a o hk, hc, n, by simpa using hs⟩, ?_⟩
    have e := r.length
    simp only [Array.length_toList] at e
    omega
theorem Inv.list_inj (I : Inv X pins σ H s) (h : SqL X.K H a xs) (h' : SqL X.K H a ys) : xs = ys := by
  obtain ⟨its, r, ⟨o, n, e, _, _, d⟩, _⟩ := I.list h
  obtain ⟨its', r', ⟨o', n', e', _, _, d'⟩, _⟩ := I.list h'
  rw [e] at e'; cases e'
  rw [d] at d'
  injection d' with d1 _
  have : its = its' := by simpa using congrArg Array.toList d1
  subst this
  exact r.inj r'
theorem Inv.tuple_inj (I : Inv X pins σ H s) (h : SqT X.K H a xs) (h' : SqT X.K H a ys) : xs = ys := by
  obtain ⟨its, r, ⟨o, e, _, n, d⟩, _⟩ := I.tuple h
  obtain ⟨its', r', ⟨o', e', _, n', d'⟩, _⟩ := I.tuple h'
  rw [e] at e'; cases e'
  rw [d] at d'
  injection d' with d1 _
  have : its = its' := by simpa using congrArg Array.toList d1
  subst this
  exact r.inj r'
end
noncomputable abbrev Cx.wish (X : Cx) (E : Value → Shared → Prop) : Cx := { X with xe := E }
noncomputable abbrev Cx.nox (X : Cx) : Cx := X.wish fun _ _ => False
theorem Cx.Ok.wish {X : Cx} (ok : X.Ok) (E : Value → Shared → Prop) : (X.wish E).Ok :=
  ⟨ok.mod, ok.kind, ok.glob, ok.blt, ok.above, ok.inj, ok.has, ok.cab, ok.hd, ok.frames, ok.stk, ok.exf, ok.bs, ok.bsz, ok.noex, ok.exfs, ok.funs, ok.frf, ok.seer, ok.tree, ok.plr⟩
theorem Cx.Ok.unwish {X : Cx} {E : Value → Shared → Prop} (ok : (X.wish E).Ok) : X.Ok :=
  ⟨ok.mod, ok.kind, ok.glob, ok.blt, ok.above, ok.inj, ok.has, ok.cab, ok.hd, ok.frames, ok.stk, ok.exf, ok.bs, ok.bsz, ok.noex, ok.exfs, ok.funs, ok.frf, ok.seer, ok.tree, ok.plr⟩
section
variable {X : Cx} {pins : List (Addr × Obj)} {σ : St} {H : Hp} {s : Shared} {E : Value → Shared → Prop}
theorem Inv.wish (I : Inv X pins σ H s) (E : Value → Shared → Prop) : Inv (X.wish E) pins σ H s := ⟨I.ok.wish E, I.os, I.bare, I.base, I.loc, I.cell, I.free, I.freeC, I.pin, I.hok, I.len⟩
theorem Inv.unwish (I : Inv (X.wish E) pins σ H s) : Inv X pins σ H s := ⟨I.ok.unwish, I.os, I.bare, I.base, I.loc, I.cell, I.free, I.freeC, I.pin, I.hok, I.len⟩
theorem SP.unwish {D : Ends} {f : Flow} {s' : Shared} (h : SP (X.wish E) pins D f s') : SP X pins D f s' := by
  cases f with
  | next => obtain ⟨σ', H', I, q⟩ := h; exact ⟨σ', H', I.unwish, q⟩
  | brk => obtain ⟨σ', H', I, q⟩ := h; exact ⟨σ', H', I.unwish, q⟩
  | cont => obtain ⟨σ', H', I, q⟩ := h; exact ⟨σ', H', I.unwish, q⟩
  | ret u => obtain ⟨v, σ', H', I, r, q⟩ := h; exact ⟨v, σ', H', I.unwish, r, q⟩
theorem PE.nox {e : Expr} {t : TE} (h : PE X.nox e t) : PE X e t := fun pins s σ H Q I hw =>
  wpAny_mono (h pins s σ H Q (I.wish _) hw) (fun _ _ ⟨v, H', I', r, q⟩ => ⟨v, H', I'.unwish, r, q⟩) fun _ _ z => False.elim z
theorem PT.nox {e : Expr} {t : TT} (h : PT X.nox e t) : PT X e t := fun pins s σ H Q I hw =>
  wpAny_mono (h pins s σ H Q (I.wish _) hw) (fun _ _ ⟨H', I', q⟩ => ⟨H', I'.unwish, q⟩) fun _ _ z => False.elim z
theorem PSs.nox {st : List Stmt} {t : TS} (h : PSs X.nox st t) : PSs X st t := fun pins s σ H D I hw =>
  wpAny_mono (h pins s σ H D (I.wish _) hw) (fun _ _ q => q.unwish) fun _ _ z => False.elim z
end
section
variable {X : Cx} {st : Stmt} {rest : List Stmt} {t u : TS} {e : Expr} {te : TE} {pos : Pos}
noncomputable def qcs : TS := fun D σ H => D.nx σ H
noncomputable def qaA (t u : TS) : TS := fun D σ H => t { D with nx := u D } σ H
theorem qaW : PSs X [] qcs := fun _ _ σ H _ I h => wpAny_execs_nil ⟨σ, H, I, h⟩
theorem qae (h1 : PS X st t) (h2 : PSs X rest u) : PSs X (st :: rest) (qaA t u) := by
  intro pins s σ H D I h
  refine wpAny_execs_cons (thn (h1 pins s σ H { D with nx := u D } I h) fun f s1 q => ?_)
  cases f with
  | next =>
    obtain ⟨σ', H', I', q⟩ := q
    exact h2 pins s1 σ' H' D I' q
  | ret v => exact q
  | brk => exact q
  | cont => exact q
theorem qaj (h1 : PS X st t) : PSs X [st] t := by
  intro pins s σ H D I h
  refine wpAny_execs_cons (thn (h1 pins s σ H D I h) fun f s1 q => ?_)
  cases f with
  | next => exact wpAny_execs_nil q
  | ret v => exact q
  | brk => exact q
  | cont => exact q
theorem Inv.quiet {pins : List (Addr × Obj)} {σ : St} {H : Hp} {s : Shared} (I : Inv X pins σ H s) : interactive X.env = false := by simp [interactive, I.ok.kind]
noncomputable def qde (te : TE) : TS := fun D σ H => te σ H fun _ H1 => D.nx σ H1
theorem qbC (he : PE X e te) (hs : swapsWith e none pos.line X.env = pure false := by rfl) : PS X (.Expr e pos) (qde te) := by
  intro pins s σ H D I h
  exact wpAny_Expr_any (thn (he pins s σ H _ I h) fun v s1 ⟨x, H1, I1, r1, q1⟩ => ⟨σ, H1, I1, q1⟩) I.quiet hs
noncomputable def qbH (te : TE) : TS := fun D σ H => te σ H D.rt
theorem qay (he : PE X e te) : PS X (.Return (some e) pos) (qbH te) := by
  intro pins s σ H D I h
  exact wpAny_Return_some (thn (he pins s σ H _ I h) fun v s1 ⟨x, H1, I1, r1, q1⟩ => ⟨x, σ, H1, I1, r1, q1⟩)
noncomputable def qeC (c : TT) (t u : TS) : TS := fun D σ H => c σ H fun b H1 => if b = true then t D σ H1 else u D σ H1
theorem qct {c : Expr} {a b : List Stmt} {tc : TT} (hc : PT X c tc) (ha : PSs X a t) (hb : PSs X b u) : PS X (.If c a b pos) (qeC tc t u) := by
  intro pins s σ H D I h
  refine wpAny_If (thn (hc pins s σ H _ I h) fun d s1 ⟨H1, I1, q1⟩ => ?_)
  cases d with
  | true => exact ha pins s1 σ H1 D I1 q1
  | false => exact hb pins s1 σ H1 D I1 q1
end
noncomputable abbrev TG := V → St → Hp → (St → Hp → Prop) → Prop
noncomputable abbrev TGs := List V → St → Hp → (St → Hp → Prop) → Prop
noncomputable def PG (X : Cx) (target : Expr) (t : TG) : Prop :=
  ∀ (pins : List (Addr × Obj)) (s : Shared) (σ : St) (H : Hp) (v : V) (u : Value) (Q : St → Hp → Prop), Inv X pins σ H s → RelV v u → t v σ H Q →
    wpAny (model X.prog X.w) X.A (assign target X.env u) (fun _ s' => ∃ σ' H', Inv X pins σ' H' s' ∧ Q σ' H') X.xe s
noncomputable def PGs (X : Cx) (ts : List Expr) (t : TGs) : Prop :=
  ∀ (pins : List (Addr × Obj)) (s : Shared) (σ : St) (H : Hp) (vs : List V) (us : List Value) (Q : St → Hp → Prop), Inv X pins σ H s → Vals vs us → t vs σ H Q →
    wpAny (model X.prog X.w) X.A (assignInOrder ((assignEach ts X.env).map (·.2)) us) (fun _ s' => ∃ σ' H', Inv X pins σ' H' s' ∧ Q σ' H') X.xe s
noncomputable abbrev TSet := V → V → V → Hp → (Hp → Prop) → Prop
noncomputable abbrev TIp := V → V → Hp → VK → Prop
noncomputable def PIp (X : Cx) (op : Operator) (t : TIp) : Prop :=
  ∀ (pins : List (Addr × Obj)) (s : Shared) (σ : St) (H : Hp) (x y : V) (v u : Value) (Q : VK), Inv X pins σ H s → RelV x v → RelV y u → t x y H Q →
    wpAny (model X.prog X.w) X.A (inplaceOp op v u) (EP X pins σ Q) X.xe s
section
variable {X : Cx} {pos : Pos}
noncomputable def qal (i : Nat) : TG := fun v σ H Q => Q (σ.set i (some v)) H
theorem qau {i : Nat} {x : Str} (hN : X.N.Nodup) (hi : X.N[i]? = some x) (hx : Loc X.env.scope x) (hf : X.fn x = true ∨ X.env.scope.names.lookup x = some .local := by first | exact .inl rfl | exact .inr rfl | assumption) : PG X (.Name x pos) (qal i) := by
  intro pins s σ H v u Q I r h
  exact wpAny_assign_Name (qcF I hN hi hx r (fun s' I' => ⟨_, H, I', h⟩) hf)
noncomputable def qf8 : TGs := fun vs σ H Q => vs = [] ∧ Q σ H
noncomputable def qa1 (t : TG) (u : TGs) : TGs := fun vs σ H Q => ∃ v r, vs = v :: r ∧ t v σ H fun σ' H' => u r σ' H' Q
theorem qa2 : PGs X [] qf8 := by
  intro pins s σ H vs us Q I r h
  obtain ⟨e, h⟩ := h
  subst e
  cases r
  exact assignInOrder_nil ⟨σ, H, I, h⟩
theorem qav {e : Expr} {es : List Expr} {t : TG} {u : TGs} (h1 : PG X e t) (h2 : PGs X es u)
    (hs : (assignEach (e :: es) X.env).map (·.2) = assign e X.env :: (assignEach es X.env).map (·.2) := by rfl) : PGs X (e :: es) (qa1 t u) := by
  intro pins s σ H vs us Q I r h
  obtain ⟨v, vr, e1, h⟩ := h
  subst e1
  cases r with
  | cons r rr =>
    rw [hs]
    refine assignInOrder_cons (thn (h1 pins s σ H _ _ _ I r h) fun _ s1 ⟨σ1, H1, I1, q1⟩ => ?_)
    exact h2 pins s1 σ1 H1 _ _ Q I1 rr q1
noncomputable def qoC (K : PySem.W.Frag) (n : Nat) (t : TGs) : TG := fun v σ H Q => ∃ a xs, v = .ref a ∧ SqT K H a xs ∧ xs.length = n ∧ t xs σ H Q
theorem qmz {es : List Expr} {k : Nat} {t : TGs} {n : Nat} (hc : X.calm = true) (h : PGs X es t)
    (hn : (assignEach es X.env).length = n := by rfl) (hst : (assignEach es X.env).findIdx? (·.1) = none := by rfl) : PG X (.Tuple es k pos) (qoC X.K n t) := by
  intro pins s σ H v u Q I r hw
  obtain ⟨a, xs, e1, hq, hl, hw⟩ := hw
  subst e1
  cases r
  obtain ⟨its, rv, ht, hz⟩ := I.tuple hq
  refine assign_Tuple_tuple (I.ok.hd hc) ht (by simp [hn, ← hl, rv.length]) hst fun h' hx => ?_
  have I1 : Inv X pins σ H { s with heap := h' } := I.kept (t' := s.toks) fun b o e => hx b o (Nat.ne_of_lt (Heap.lt_size e)) e
  exact h pins _ σ H xs _ Q I1 (by simpa using rv) hw
noncomputable def qoD (to ti : TE) (t : TSet) : TG := fun v σ H Q => to σ H fun o H1 => ti σ H1 fun i H2 => t o i v H2 fun H3 => Q σ H3
noncomputable def qaH (te : TE) (g : TG) : TS := fun D σ H => te σ H fun x H1 => g x σ H1 D.nx
theorem qgF {tg e : Expr} {te : TE} {g : TG} (he : PE X e te) (hg : PG X tg g) (hs : swapsWithSole [tg] e pos.line X.env = pure false := by rfl) (hw : swappedStores [tg] e X.env = pure none := by rfl)
    (h1 : (assignEach [tg] X.env).map (·.2) = [assign tg X.env] := by rfl) : PS X (.Assign [tg] e pos) (qaH te g) := by
  intro pins s σ H D I h
  refine wpAny_Assign_stores (thn (he pins s σ H _ I h) fun v s1 ⟨x, H1, I1, r1, q1⟩ => ?_) hs hw
  rw [h1]
  exact thn (hg pins s1 σ H1 x v _ I1 r1 q1) fun _ s2 q => q
theorem qao {i : Nat} {x : Str} {e : Expr} {te : TE} {pos' : Pos} (hN : X.N.Nodup) (hi : X.N[i]? = some x) (hx : Loc X.env.scope x) (he : PE X e te) (hs : swapsWith e (some (.Name x pos')) pos.line X.env = pure false := by rfl) (hf : X.fn x = true ∨ X.env.scope.names.lookup x = some .local := by first | exact .inl rfl | exact .inr rfl | assumption) :
    PS X (.Assign [.Name x pos'] e pos) (qaH te (qal i)) := by
  intro pins s σ H D I h
  refine wpAny_Assign_Name (thn (he pins s σ H _ I h) fun v s1 ⟨y, H1, I1, r1, q1⟩ => ?_) hs
  exact qcF I1 hN hi hx r1 (fun s2 I2 => ⟨_, H1, I2, q1⟩) hf
noncomputable def qmA (i j : Nat) (ta : TA) : TS := fun D σ H => ta σ H fun vs H1 => ∃ v w, vs = [v, w] ∧ D.nx ((σ.set i (some v)).set j (some w)) H1
theorem qh4 {i j : Nat} {x y : Str} {a b : Expr} {ta : TA} {px py pt : Pos} {kt k2 pt2} (hc : X.calm = true) (hN : X.N.Nodup) (hi : X.N[i]? = some x) (hj : X.N[j]? = some y) (hij : i ≠ j)
    (hx : X.env.scope.names.lookup x = some .local) (hy : X.env.scope.names.lookup y = some .local) (ha : PA X [a, b] ta)
    (hw : swappedStores [.Tuple [.Name x px, .Name y py] kt pt] (.Tuple [a, b] k2 pt2) X.env = pure (some [x, y]))
    (hs : swapsWithSole [.Tuple [.Name x px, .Name y py] kt pt] (.Tuple [a, b] k2 pt2) pos.line X.env = pure false := by rfl) :
    PS X (.Assign [.Tuple [.Name x px, .Name y py] kt pt] (.Tuple [a, b] k2 pt2) pos) (qmA i j ta) := by
  intro pins s σ H D I h
  rw [exec_Assign_arm]
  refine wpAny_bind (wpAny_standAt ?_)
  rw [hs]
  refine wpAny_bind (wpAny_pure ?_)
  rw [if_neg (by decide)]
  refine wpAny_bind (Tuple_ (thn (ha _ pins s σ H _ I h) fun us s1 ⟨vs, H1, I1, r1, q1⟩ => ?_))
  obtain ⟨v, w, e1, q1⟩ := q1
  subst e1
  obtain ⟨u1, u2, rfl, rv, rw'⟩ : ∃ u1 u2, us = [u1, u2] ∧ RelV v u1 ∧ RelV w u2 := by
    cases r1 with
    | cons p q =>
      cases q with
      | cons p' q' =>
        cases q'
        exact ⟨_, _, rfl, p, p'⟩
  refine wpAny_newObj_type ?_ (by show 2 ≤ sizeLine; decide)
  have I2 : Inv X pins σ H1 { s1 with heap := s1.heap.push { cls := .type "tuple", data := .seq [u1, u2].toArray } } := I1.kept (t' := s1.toks) fun b o e => Heap.get?_push_of_some _ e
  rw [hw]
  refine wpAny_bind (wpAny_pure ?_)
  show wpAny (model X.prog X.w) X.A (do rule "assign.swapped-stores"; let items ← unpackItems (.ref s1.heap.objs.size) 2 none; assignInOrder [fun v => bindName X.env y v, fun v => bindName X.env x v] items.reverse; pure Flow.next) _ _ _
  refine wpAny_bind (wpAny_rule (wpAny_bind (unpackItems_tuple (items := #[u1, u2]) (I.ok.hd hc) (IsTup.new s1.heap _) fun h' hx' => ?_)))
  have I3 := I2.kept (h' := h') (t' := s1.toks) fun b o e => hx' b o (Nat.ne_of_lt (Heap.lt_size e)) e
  show wpAny _ _ (assignInOrder [fun v => bindName X.env y v, fun v => bindName X.env x v] [u2, u1] >>= fun _ => pure Flow.next) _ _ _
  refine wpAny_bind (assignInOrder_cons (wpAny_bindName (qcF I3 hN hj (.inl hy) rw' (fun s2 I4 => ?_) (.inr hy))))
  refine assignInOrder_cons (wpAny_bindName (qcF I4 hN hi (.inl hx) rv (fun s3 I5 => assignInOrder_nil (wpAny_pure ?_)) (.inr hx)))
  rw [List.set_comm _ _ (Ne.symm hij)] at I5
  exact ⟨_, H1, I5, q1⟩
noncomputable def qmB (i : Nat) (te : TE) (ti : TIp) : TS := fun D σ H => ∃ x, σ[i]? = some (some x) ∧ te σ H fun y H1 => ti x y H1 fun z H2 => D.nx (σ.set i (some z)) H2
theorem qh5 {i : Nat} {x : Str} {e : Expr} {te : TE} {op : Operator} {ti : TIp} {pos' : Pos} (hN : X.N.Nodup) (hi : X.N[i]? = some x) (hx : Loc X.env.scope x) (he : PE X e te) (ho : PIp X op ti) (hf : X.fn x = true ∨ X.env.scope.names.lookup x = some .local := by first | exact .inl rfl | exact .inr rfl | assumption) :
    PS X (.AugAssign (.Name x pos') op e pos) (qmB i te ti) := by
  intro pins s σ H D I h
  obtain ⟨v, e1, h⟩ := h
  obtain ⟨m, hn, hl⟩ := I.loc
  have vis : Vis X.env.scope x := by rcases hx with k | k; exact .inl k; exact .inr (.inl k)
  obtain ⟨u, r, l⟩ := hl i x v hi e1 vis
  refine wpAny_AugAssign_Name ?_
  have go : wpAny (model X.prog X.w) X.A (eval e X.env) (fun w s₂ => wpAny (model X.prog X.w) X.A (inplaceOp op u w) (fun r s₃ => wpAny (model X.prog X.w) X.A (storeName X.env x r) (fun _ => SP X pins D .next) X.xe s₃) X.xe s₂) X.xe s := by
    refine thn (he pins s σ H _ I h) fun w s1 ⟨y, H1, I1, r1, q1⟩ => ?_
    refine thn (ho pins s1 σ H1 v y u w _ I1 r r1 q1) fun z s2 ⟨zv, H2, I2, r2, q2⟩ => ?_
    exact qcF I2 hN hi hx r2 (fun s3 I3 => ⟨_, H2, I3, q2⟩) hf
  rcases l with ⟨hk, hm⟩ | ⟨hk, c, hc, hcell⟩
  · exact wpAny_loadName_local I.ok.kind hk hn hm go
  · rcases hk with hk | hk
    · exact wpAny_loadName_cell I.ok.kind hk hc hcell go
    · rcases hx with k | k
      · have : X.env.scope.names.lookup x = some .free := hk
        rw [k] at this; cases this
      · have : X.env.scope.names.lookup x = some .free := hk
        rw [k] at this; cases this
noncomputable def qnX (to ti te : TE) (tget : V → V → Hp → VK → Prop) (tip : TIp) (tset : TSet) : TS := fun D σ H => to σ H fun o H1 => ti σ H1 fun i H2 => tget o i H2 fun x H3 => te σ H3 fun y H4 => tip x y H4 fun z H5 => tset o i z H5 fun H6 => D.nx σ H6
end
section
variable {X : Cx} {pos : Pos}
noncomputable def qcw (c : TT) (tb : TS) : TS := fun D σ H => ∃ W : Nat → St → Hp → Prop, (∃ m, W m σ H) ∧ ∀ m σ H, W m σ H →
  c σ H fun b H1 => if b = true then ∃ N : St → Hp → Prop, (∀ σ' H', N σ' H' → ∃ m', m' < m ∧ W m' σ' H') ∧ tb { D with nx := N, ct := N, bk := D.nx } σ H1 else D.nx σ H1
theorem qbI {c : Expr} {body : List Stmt} {tc : TT} {tb : TS} (hp : PassesOwn (model X.prog X.w) X.A X.env X.xe) (hc : PT X c tc) (hb : PSs X body tb) : PS X (.While c body [] pos) (qcw tc tb) := by
  intro pins s σ H D I h
  obtain ⟨W, ⟨m0, w0⟩, turn⟩ := h
  refine wpAny_While (codeAny_whileLoop (fun n s' => ∃ σ' H', Inv X pins σ' H' s' ∧ W n σ' H') ?_ m0 ⟨σ, H, I, w0⟩)
  rintro n s1 ⟨σ1, H1, I1, w1⟩
  refine wpAny_passesOwn hp (thn (hc pins s1 σ1 H1 _ I1 (turn n σ1 H1 w1)) fun b s2 ⟨H2, I2, q2⟩ => ?_)
  cases b with
  | true =>
    obtain ⟨N, hN, q2⟩ := q2
    rw [if_pos rfl]
    refine wpAny_passesOwn hp (thn (hb pins s2 σ1 H2 _ I2 q2) fun f s3 q3 => ?_)
    cases f with
    | next =>
      obtain ⟨σ3, H3, I3, n3⟩ := q3
      obtain ⟨m', hm, w3⟩ := hN σ3 H3 n3
      exact ⟨m', hm, σ3, H3, I3, w3⟩
    | cont =>
      obtain ⟨σ3, H3, I3, n3⟩ := q3
      obtain ⟨m', hm, w3⟩ := hN σ3 H3 n3
      exact ⟨m', hm, σ3, H3, I3, w3⟩
    | brk => exact q3
    | ret v => exact q3
  | false =>
    rw [if_neg Bool.false_ne_true]
    exact wpAny_execs_nil ⟨σ1, H2, I2, q2⟩
end
structure It where
  go : Nat → Hp → Prop
  yld : Nat → Hp → V → Hp → Prop
  stop : Nat → Hp → Prop
noncomputable def qf9 (X : Cx) (pins : List (Addr × Obj)) (H : Hp) (b : Addr) : Prop :=
  H b = none ∧ b ≠ X.env.locals ∧ b ∉ X.fs ∧ (b ∈ X.ex ∨ X.s₀.heap.objs.size ≤ b) ∧ (∀ x c, X.env.cells.lookup x = some c → c ≠ b) ∧ ∀ p ∈ X.pn ++ pins, p.1 ≠ b
theorem Inv.fpOk {X : Cx} {pins : List (Addr × Obj)} {σ : St} {H H' : Hp} {s : Shared} {b : Addr} (I : Inv X pins σ H s) (hb : s.heap.objs.size ≤ b) (hn : H' b = none) : qf9 X pins H' b := by
  refine ⟨hn, Nat.ne_of_gt (Nat.lt_of_lt_of_le I.lt hb), I.nofs hb, .inr (Nat.le_trans I.sz hb), fun x c e z => ?_, fun p hp z => ?_⟩
  · obtain ⟨v, q⟩ := I.cell x c e
    exact absurd (Nat.lt_of_lt_of_le q.lt (by rw [z]; exact hb)) (Nat.lt_irrefl _)
  · exact absurd (Nat.lt_of_lt_of_le (Heap.lt_size (I.pin p hp).1) (by rw [z]; exact hb)) (Nat.lt_irrefl _)
structure Turn (P : Program) (w : World) (K : PySem.W.Frag) (tg : Expr) (J : It) (fp : List Addr) (it : Addr) (tn : Nat → Heap → Prop) : Prop where
  mem : it ∈ fp
  obj : ∀ i h, tn i h → ∀ b ∈ fp, ∃ o, h.get? b = some o ∧ ∀ v, o.data ≠ .cell v
  keep : ∀ i h h', tn i h → (∀ b ∈ fp, ∀ o, h.get? b = some o → h'.get? b = some o) → tn i h'
  item : ∀ (X : Cx), X.prog = P → X.w = w → X.K = K → X.calm = true → ∀ (i : Nat) (pins : List (Addr × Obj)) (s : Shared) (σ : St) (H : Hp) (E : Value → Shared → Prop), Inv X pins σ H s → (∀ b ∈ fp, qf9 X pins H b) → tn i s.heap → J.go i H →
    wpAny (model P w) X.A (pyNext (.ref it)) (fun r s1 => ∃ u, r = some u ∧
      wpAny (model P w) X.A (letOwnedTupleGo tg (.ref it) u) (fun _ s2 => ∃ x H', Inv X pins σ H' s2 ∧ RelV x u ∧ J.yld i H x H' ∧ tn (i + 1) s2.heap ∧ ∀ b ∈ fp, H' b = none) E s1) E s
  done : ∀ (X : Cx), X.prog = P → X.w = w → X.K = K → X.calm = true → ∀ (i : Nat) (pins : List (Addr × Obj)) (s : Shared) (σ : St) (H : Hp) (E : Value → Shared → Prop), Inv X pins σ H s → (∀ b ∈ fp, qf9 X pins H b) → tn i s.heap → J.stop i H →
    wpAny (model P w) X.A (pyNext (.ref it)) (fun r s1 => r = none ∧ Inv X pins σ H s1) E s
  self : ∀ (A : Around) (i : Nat) (s : Shared) (Q : Value → Shared → Prop) (E : Value → Shared → Prop), tn i s.heap → Q (.ref it) s → wpAny (model P w) A (pyIter (.ref it)) Q E s
noncomputable abbrev TI := St → Hp → (It → Hp → Prop) → Prop
noncomputable def PIE (X : Cx) (pins : List (Addr × Obj)) (σ : St) (tg : Expr) (R : It → Hp → Prop) (itv : Value) (s2 : Shared) : Prop :=
  ∃ (it : Addr) (fp : List Addr) (tn : Nat → Heap → Prop) (J : It) (H' : Hp), itv = .ref it ∧ Inv X pins σ H' s2 ∧ Turn X.prog X.w X.K tg J fp it tn ∧ tn 0 s2.heap ∧ (∀ b ∈ fp, qf9 X pins H' b) ∧ R J H'
noncomputable def PI (X : Cx) (tg iter : Expr) (wi : TI) : Prop :=
  ∀ (pins : List (Addr × Obj)) (s : Shared) (σ : St) (H : Hp) (R : It → Hp → Prop), Inv X pins σ H s → wi σ H R →
    wpAny (model X.prog X.w) X.A (eval iter X.env) (fun v s1 => wpAny (model X.prog X.w) X.A (pyIter v) (PIE X pins σ tg R) X.xe s1) X.xe s
theorem qli {M : Model} {A : Around} {E : Value → Shared → Prop} {s : Shared} {tg : Expr} {it : Addr} {u : Value} {o : Obj} {n : String} {vs : Array Value} {Q : Unit → Shared → Prop} (ho : s.heap.get? it = some o) (hc : o.cls = .type n) (hd : o.data = .fields vs)
    (hn : ["enumerate", "zip", "dict_itemiterator", "dict_reverseitemiterator", "odict_iterator", "itertools.zip_longest", "itertools.pairwise"].contains n = false) (hQ : Q () s) : wpAny M A (letOwnedTupleGo tg (.ref it) u) Q E s := by
  unfold letOwnedTupleGo
  cases tg <;> first
    | exact wpAny_pure hQ
    | (cases u <;> first
        | exact wpAny_pure hQ
        | (refine wpAny_bind (wpAny_load ho ?_)
           rw [hc, hd]
           show wpAny M A (if (["enumerate", "zip", "dict_itemiterator", "dict_reverseitemiterator", "odict_iterator", "itertools.zip_longest", "itertools.pairwise"].contains n && vs[0]? == some (rawInt _)) = true then _ else _) Q E s
           rw [if_neg (by intro h; rw [hn, Bool.false_and] at h; cases h)]
           exact wpAny_pure hQ))
noncomputable def Itl (K : PySem.W.Frag) (a : Addr) : It :=
  ⟨fun i H => ∃ xs x, SqL K H a xs ∧ xs[i]? = some x, fun i H x H' => H' = H ∧ ∀ xs, SqL K H a xs → xs[i]? = some x, fun i H => ∃ xs, SqL K H a xs ∧ xs.length ≤ i⟩
noncomputable def Itt (K : PySem.W.Frag) (a : Addr) : It :=
  ⟨fun i H => ∃ xs x, SqT K H a xs ∧ xs[i]? = some x, fun i H x H' => H' = H ∧ ∀ xs, SqT K H a xs → xs[i]? = some x, fun i H => ∃ xs, SqT K H a xs ∧ xs.length ≤ i⟩
noncomputable def Itr (lo : Int) (n : Nat) : It := ⟨fun i _ => i < n, fun i H x H' => H' = H ∧ x = .int (lo + i), fun i _ => n ≤ i⟩
theorem qh6 {P : Program} {w : World} {K : PySem.W.Frag} {tg : Expr} (a it : Addr) : Turn P w K tg (Itl K a) [it] it (fun i h => h.IsListIter it a i) where
  mem := by simp
  obj := fun i h st b hb => by
    have e : b = it := by simpa using hb
    subst e
    obtain ⟨o, e, c, d⟩ := st
    exact ⟨o, e, fun v z => by rw [d] at z; cases z⟩
  keep := fun i h h' st k => st.at fun o e => k it (by simp) o e
  item := by
    intro X hP hw hK hc i pins s σ H E I hf st hg
    subst hP hw hK
    obtain ⟨xs, x, hq, hx⟩ := hg
    obtain ⟨its, rv, p, hz⟩ := I.list hq
    obtain ⟨u, hu, ru⟩ := rv.get hx
    obtain ⟨f0, f1, f2, f3, f4, f5⟩ := hf it (by simp)
    refine wpAny_pyNext_list_item st p.isList (x := u) (by simpa using hu) fun h' st' sb => ?_
    have I1 : Inv X pins σ H { s with heap := h' } := I.turned (t' := s.toks) (fun b o hb e => (sb.2 b hb).trans e) f0 f1 f3 f4 f5
    obtain ⟨o, e, c, d⟩ := id st'
    exact ⟨u, rfl, qli (s := { s with heap := h' }) e c d (by decide) ⟨x, H, I1, ru, ⟨rfl, fun ys hy => by rw [I.list_inj hy hq]; exact hx⟩, st', fun b hb => (hf b hb).1⟩⟩
  done := by
    intro X hP hw hK hc i pins s σ H E I hf st hg
    subst hP hw hK
    obtain ⟨xs, hq, hx⟩ := hg
    obtain ⟨its, rv, p, hz⟩ := I.list hq
    obtain ⟨f0, f1, f2, f3, f4, f5⟩ := hf it (by simp)
    have hl := rv.length
    exact wpAny_pyNext_list_end (I.ok.hd hc) st p.isList (by simp; omega) fun h' eb => ⟨rfl, I.turned (t' := s.toks) (fun b o hb e => eb b o hb e) f0 f1 f3 f4 f5⟩
  self := fun _ _ _ _ _ st h => wpAny_pyIter_listiter st h
theorem qho {P : Program} {w : World} {K : PySem.W.Frag} {tg : Expr} (a it : Addr) : Turn P w K tg (Itt K a) [it] it (fun i h => h.IsTupleIter it a i) where
  mem := by simp
  obj := fun i h st b hb => by
    have e : b = it := by simpa using hb
    subst e
    obtain ⟨o, e, c, d⟩ := st
    exact ⟨o, e, fun v z => by rw [d] at z; cases z⟩
  keep := fun i h h' st k => st.at fun o e => k it (by simp) o e
  item := by
    intro X hP hw hK hc i pins s σ H E I hf st hg
    subst hP hw hK
    obtain ⟨xs, x, hq, hx⟩ := hg
    obtain ⟨its, rv, p, hz⟩ := I.tuple hq
    obtain ⟨u, hu, ru⟩ := rv.get hx
    obtain ⟨f0, f1, f2, f3, f4, f5⟩ := hf it (by simp)
    refine wpAny_pyNext_tuple_item st (show s.heap.IsTuple a its.toArray from p) (x := u) (by simpa using hu) fun h' st' sb => ?_
    have I1 : Inv X pins σ H { s with heap := h' } := I.turned (t' := s.toks) (fun b o hb e => (sb.2 b hb).trans e) f0 f1 f3 f4 f5
    obtain ⟨o, e, c, d⟩ := id st'
    exact ⟨u, rfl, qli (s := { s with heap := h' }) e c d (by decide) ⟨x, H, I1, ru, ⟨rfl, fun ys hy => by rw [I.tuple_inj hy hq]; exact hx⟩, st', fun b hb => (hf b hb).1⟩⟩
  done := by
    intro X hP hw hK hc i pins s σ H E I hf st hg
    subst hP hw hK
    obtain ⟨xs, hq, hx⟩ := hg
    obtain ⟨its, rv, p, hz⟩ := I.tuple hq
    obtain ⟨f0, f1, f2, f3, f4, f5⟩ := hf it (by simp)
    have hl := rv.length
    exact wpAny_pyNext_tuple_end (I.ok.hd hc) st (show s.heap.IsTuple a its.toArray from p) (by simp; omega) fun h' eb => ⟨rfl, I.turned (t' := s.toks) (fun b o hb e => eb b o hb e) f0 f1 f3 f4 f5⟩
  self := fun _ _ _ _ _ st h => wpAny_pyIter_tupleiter st h
theorem qhp {P : Program} {w : World} {K : PySem.W.Frag} {tg : Expr} (it : Addr) (lo : Int) (n : Nat) : Turn P w K tg (Itr lo n) [it] it (fun i h => IsRangeIter h it (lo + (i : Nat) * 1) ((n : Int) - (i : Nat)) 1) where
  mem := by simp
  obj := fun i h st b hb => by
    have e : b = it := by simpa using hb
    subst e
    exact ⟨_, st, fun v z => by
      have z' : Data.fields _ = Data.cell v := z
      cases z'⟩
  keep := fun i h h' st k => k it (by simp) _ st
  item := by
    intro X hP hw hK hc i pins s σ H E I hf st hg
    subst hP hw hK
    obtain ⟨f0, f1, f2, f3, f4, f5⟩ := hf it (by simp)
    have W := Walks.range (prog := X.prog) (w := X.w) (I.ok.hd hc) it lo 1 n
    refine W.item i s _ _ hg st fun v h' tk hv st' kk => ?_
    obtain ⟨t, rfl⟩ := hv
    have I1 : Inv X pins σ H { s with heap := h', toks := tk } := I.turned (fun b o hb e => kk b o (by simpa using hb) e) f0 f1 f3 f4 f5
    refine ⟨_, rfl, qli (s := { s with heap := h', toks := tk }) (n := "range_iterator") st' rfl rfl (by decide) ⟨.int (lo + i), H, I1, ⟨t, ?_⟩, ⟨rfl, rfl⟩, st', fun b hb => (hf b hb).1⟩⟩
    rw [Int.mul_one]
  done := by
    intro X hP hw hK hc i pins s σ H E I hf st hg
    subst hP hw hK
    obtain ⟨f0, f1, f2, f3, f4, f5⟩ := hf it (by simp)
    exact wpAny_pyNext_range_end (I.ok.hd hc) st (by have : n ≤ i := hg; omega) fun h' eb => ⟨rfl, I.turned (t' := s.toks) (fun b o hb e => eb b o hb e) f0 f1 f3 f4 f5⟩
  self := fun _ _ _ _ _ st h => wpAny_pyIter_rangeiter st h
end L2
namespace L2
open PySem PySem.Spec PyProof.Rows
section
variable {X : Cx} {tg : Expr}
noncomputable def qcu (K : PySem.W.Frag) (tl : TE) : TI := fun σ H R => tl σ H fun x H1 => ∃ a, x = .ref a ∧ (∃ xs, SqL K H1 a xs) ∧ R (Itl K a) H1
noncomputable def qjL (K : PySem.W.Frag) (tl : TE) : TI := fun σ H R => tl σ H fun x H1 => ∃ a, x = .ref a ∧ (∃ xs, SqT K H1 a xs) ∧ R (Itt K a) H1
theorem qbJ {l : Expr} {tl : TE} (hl : PE X l tl) : PI X tg l (qcu X.K tl) := by
  intro pins s σ H R I h
  refine thn (hl pins s σ H _ I h) fun v s1 ⟨x, H1, I1, r1, q1⟩ => ?_
  obtain ⟨a, e, ⟨xs, hq⟩, q⟩ := q1
  subst e
  cases r1
  obtain ⟨its, rv, p, hz⟩ := I1.list hq
  refine wpAny_pyIter_list p.isList ?_
  refine ⟨s1.heap.objs.size, [s1.heap.objs.size], _, _, H1, rfl, I1.kept (t' := s1.toks) fun b o e => Heap.get?_push_of_some _ e, qh6 a _, ⟨_, Heap.get?_push_size _ rfl, rfl, rfl⟩, fun b hb => ?_, q⟩
  have e : b = s1.heap.objs.size := by simpa using hb
  subst e
  exact I1.fpOk (Nat.le_refl _) (I1.hok.fresh (Nat.le_refl _))
theorem qgG {l : Expr} {tl : TE} (hl : PE X l tl) : PI X tg l (qjL X.K tl) := by
  intro pins s σ H R I h
  refine thn (hl pins s σ H _ I h) fun v s1 ⟨x, H1, I1, r1, q1⟩ => ?_
  obtain ⟨a, e, ⟨xs, hq⟩, q⟩ := q1
  subst e
  cases r1
  obtain ⟨its, rv, p, hz⟩ := I1.tuple hq
  refine wpAny_pyIter_tuple (show s1.heap.IsTuple a its.toArray from p) ?_
  refine ⟨s1.heap.objs.size, [s1.heap.objs.size], _, _, H1, rfl, I1.kept (t' := s1.toks) fun b o e => Heap.get?_push_of_some _ e, qho a _, ⟨_, Heap.get?_push_size _ rfl, rfl, rfl⟩, fun b hb => ?_, q⟩
  have e : b = s1.heap.objs.size := by simpa using hb
  subst e
  exact I1.fpOk (Nat.le_refl _) (I1.hok.fresh (Nat.le_refl _))
theorem qjM {pins : List (Addr × Obj)} {σ : St} {H : Hp} {s : Shared} {R : It → Hp → Prop} {E : Value → Shared → Prop} {lo hi : Int} {t u v : Tok} {tk : Nat} (I : Inv X pins σ H s) (h1 : -(2 ^ 62) ≤ lo) (h2 : lo < 2 ^ 62) (h3 : -(2 ^ 62) ≤ hi) (h4 : hi < 2 ^ 62)
    (q : R (Itr lo (hi - lo).toNat) H) : wpAny (model X.prog X.w) X.A (pyIter (.ref s.heap.objs.size)) (PIE X pins σ tg R) E { s with heap := s.heap.push { cls := .type "range", data := .fields #[.int lo t, .int hi u, .int 1 v] }, toks := tk } := by
  refine wpAny_pyIter_range (IsRange.new ..) (small_one h1 h2 h3 h4) ?_
  have I1 : Inv X pins σ H { s with heap := s.heap.push { cls := .type "range", data := .fields #[.int lo t, .int hi u, .int 1 v] }, toks := tk } := I.kept fun b o e => Heap.get?_push_of_some _ e
  refine ⟨(s.heap.push { cls := .type "range", data := .fields #[.int lo t, .int hi u, .int 1 v] }).objs.size, [(s.heap.push { cls := .type "range", data := .fields #[.int lo t, .int hi u, .int 1 v] }).objs.size], _, _, H, rfl,
    I1.kept (t' := tk) fun b o e => Heap.get?_push_of_some _ e, qhp _ lo (hi - lo).toNat, ?_, fun b hb => ?_, q⟩
  · have e1 : lo + ((0 : Nat) : Int) * 1 = lo := by simp
    have e2 : (((hi - lo).toNat : Nat) : Int) - ((0 : Nat) : Int) = Builtin.Range.rangeSize lo hi 1 := by rw [rangeSize_one]; split <;> omega
    show IsRangeIter _ _ (lo + ((0 : Nat) : Int) * 1) ((((hi - lo).toNat : Nat) : Int) - ((0 : Nat) : Int)) 1
    rw [e1, e2]
    exact Heap.get?_push_size _ rfl
  · have e : b = (s.heap.push { cls := .type "range", data := .fields #[.int lo t, .int hi u, .int 1 v] }).objs.size := by simpa using hb
    subst e
    exact I1.fpOk (Nat.le_refl _) (I1.hok.fresh (Nat.le_refl _))
noncomputable def qhq (ta : TA) : TI := fun σ H R => ta σ H fun vs H1 => ∃ j : Int, vs = [.int j] ∧ -(2 ^ 62) ≤ j ∧ j < 2 ^ 62 ∧ R (Itr 0 j.toNat) H1
noncomputable def qmC (ta : TA) : TI := fun σ H R => ta σ H fun vs H1 => ∃ i j : Int, vs = [.int i, .int j] ∧ (-(2 ^ 62) ≤ i ∧ i < 2 ^ 62 ∧ -(2 ^ 62) ≤ j ∧ j < 2 ^ 62) ∧ R (Itr i (j - i).toNat) H1
theorem qd0 {a : Expr} {ta : TA} {p pos : Pos} (hg : Gl X "range") (hm : X.mg "range" = none) (ha : PA X [a] ta) (hs : starEach [a] X.env = [(false, eval a X.env)] := by rfl) : PI X tg (.Call (.Name "range" p) [a] [] pos) (qhq ta) := by
  intro pins s σ H R I h
  refine Call_ (qdY I hg hm boot_range (PyProof.Rows.callWith_type1 (thn (ha pos pins s σ H _ I h) fun us s1 ⟨vs, H1, I1, r1, q1⟩ => ?_) hs rfl))
  obtain ⟨j, e, q1, q2, q⟩ := q1
  subst e
  cases r1 with
  | cons r rr =>
    cases rr
    obtain ⟨t, rfl⟩ := r
    exact call_range_1 (qjM I1 (by omega) (by omega) q1 q2 (by simpa using q))
noncomputable def qep (wi : TI) (g : TG) (tb : TS) : TS := fun D σ H => wi σ H fun J H1 => ∃ W : Nat → Nat → St → Hp → Prop, (∃ m, W 0 m σ H1) ∧ ∀ i m σ H, W i m σ H →
  (J.stop i H ∧ D.nx σ H) ∨ (J.go i H ∧ ∃ N : St → Hp → Prop, (∀ σ' H', N σ' H' → ∃ m', m' < m ∧ W (i + 1) m' σ' H') ∧ ∀ x H', J.yld i H x H' → g x σ H' fun σ2 H2 => tb { D with nx := N, ct := N, bk := D.nx } σ2 H2)
noncomputable def qgH (fp : List Addr) (h : Heap) : List (Addr × Obj) := fp.filterMap fun b => (h.get? b).map fun o => (b, o)
theorem qbD {fp : List Addr} {h : Heap} {b : Addr} {o : Obj} (hb : b ∈ fp) (e : h.get? b = some o) : (b, o) ∈ qgH fp h := List.mem_filterMap.mpr ⟨b, hb, by rw [e]; rfl⟩
theorem qh7 {fp : List Addr} {h : Heap} {p : Addr × Obj} (hp : p ∈ qgH fp h) : p.1 ∈ fp ∧ h.get? p.1 = some p.2 := by
  obtain ⟨b, hb, e⟩ := List.mem_filterMap.mp hp
  cases q : h.get? b with
  | none => rw [q] at e; cases e
  | some o =>
    rw [q] at e
    have e' : (b, o) = p := Option.some.inj e
    subst e'
    exact ⟨hb, q⟩
theorem Inv.pinned {pins : List (Addr × Obj)} {σ : St} {H : Hp} {s : Shared} {fp : List Addr} (I : Inv X pins σ H s) (hf : ∀ b ∈ fp, qf9 X pins H b) (ho : ∀ b ∈ fp, ∃ o, s.heap.get? b = some o ∧ ∀ v, o.data ≠ .cell v) : Inv X (pins ++ qgH fp s.heap) σ H s :=
  I.pins_of fun p hp => (List.mem_append.mp hp).elim (fun z => I.pin p (List.mem_append_right _ z)) fun z => by
    obtain ⟨hb, e⟩ := qh7 z
    obtain ⟨f0, f1, f2, _⟩ := hf p.1 hb
    obtain ⟨o, e', d⟩ := ho p.1 hb
    rw [e] at e'; cases e'
    exact ⟨e, f0, f1, f2, d⟩
theorem Inv.unpinned {pins pl : List (Addr × Obj)} {σ : St} {H : Hp} {s : Shared} (I : Inv X (pins ++ pl) σ H s) : Inv X pins σ H s := I.pins_of fun p hp => I.pin p (List.mem_append_right _ (List.mem_append_left _ hp))
theorem qcH {iter : Expr} {body : List Stmt} {wi : TI} {g : TG} {tb : TS} {pos : Pos} (hp : PassesOwn (model X.prog X.w) X.A X.env X.xe) (hc : X.calm = true) (hi : PI X tg iter wi) (hg : PG X tg g) (hb : PSs X body tb)
    (hs : ∀ x, foldedSetIterable iter X.env x = pure x := by intro _; rfl) : PS X (.For tg iter body [] pos) (qep wi g tb) := by
  intro pins s σ H D I h
  refine wpAny_For (thn (hi pins s σ H _ I h) fun v s1 h1 => thn h1 fun itv s2 h2 => ?_) hs
  obtain ⟨it, fp, tn, J, H2, e, I2, T, st2, f2, W, ⟨m0, w0⟩, turn⟩ := h2
  subst e
  have stat : ∀ {H' : Hp}, (∀ b ∈ fp, H' b = none) → ∀ b ∈ fp, qf9 X pins H' b := fun hn b hb => ⟨hn b hb, (f2 b hb).2⟩
  refine codeAny_forLoop_any (fun n s' => ∃ i σ' H', Inv X pins σ' H' s' ∧ tn i s'.heap ∧ (∀ b ∈ fp, H' b = none) ∧ W i n σ' H') ?_ m0 ⟨0, σ, H2, I2, st2, fun b hb => (f2 b hb).1, w0⟩
  rintro n s3 ⟨i, σ3, H3, I3, st3, fr3, w3⟩
  rcases turn i n σ3 H3 w3 with ⟨stop, qn⟩ | ⟨go, N, hN, step⟩
  · refine wpAny_passesOwn hp (thn (T.done X rfl rfl rfl hc i pins s3 σ3 H3 X.xe I3 (stat fr3) st3 stop) fun r s4 ⟨hr, I4⟩ => ?_)
    subst hr
    exact wpAny_execs_nil ⟨σ3, H3, I4, qn⟩
  · refine wpAny_passesOwn hp (thn (T.item X rfl rfl rfl hc i pins s3 σ3 H3 X.xe I3 (stat fr3) st3 go) fun r s4 ⟨u, hr, h4⟩ => ?_)
    subst hr
    refine wpAny_passesOwn hp (thn h4 fun _ s5 ⟨x, H5, I5, r5, y5, st5, fr5⟩ => ?_)
    have I5' := I5.pinned (stat fr5) (T.obj _ _ st5)
    refine wpAny_passesOwn hp (thn (hg _ s5 σ3 H5 x u _ I5' r5 (step x H5 y5)) fun _ s6 ⟨σ6, H6, I6, q6⟩ => ?_)
    refine wpAny_passesOwn hp (thn (hb _ s6 σ6 H6 _ I6 q6) fun f s7 q7 => ?_)
    have again : ∀ {σ7 : St} {H7 : Hp}, Inv X (pins ++ qgH fp s5.heap) σ7 H7 s7 → N σ7 H7 → ∃ m, m < n ∧ ∃ i σ' H', Inv X pins σ' H' s7 ∧ tn i s7.heap ∧ (∀ b ∈ fp, H' b = none) ∧ W i m σ' H' := fun {σ7 H7} I7 n7 => by
      obtain ⟨m', hm, w7⟩ := hN σ7 H7 n7
      refine ⟨m', hm, i + 1, σ7, H7, I7.unpinned, T.keep _ _ _ st5 fun b hb o e => (I7.pin (b, o) (List.mem_append_right _ (List.mem_append_right _ (qbD hb e)))).1, fun b hb => ?_, w7⟩
      obtain ⟨o, e, d⟩ := T.obj _ _ st5 b hb
      exact (I7.pin (b, o) (List.mem_append_right _ (List.mem_append_right _ (qbD hb e)))).2.1
    cases f with
    | next => obtain ⟨σ7, H7, I7, n7⟩ := q7; exact again I7 n7
    | cont => obtain ⟨σ7, H7, I7, n7⟩ := q7; exact again I7 n7
    | brk => obtain ⟨σ7, H7, I7, q7⟩ := q7; exact ⟨σ7, H7, I7.unpinned, q7⟩
    | ret v => obtain ⟨x7, σ7, H7, I7, r7, q7⟩ := q7; exact ⟨x7, σ7, H7, I7.unpinned, r7, q7⟩
end
theorem qjN {K : PySem.W.Frag} {a : Addr} {xs : List V} {g : TG} {tb : TS} {D : Ends} {σ : St} {H : Hp} (Pv : Nat → St → Hp → Prop) (h0 : Pv 0 σ H) (hl : ∀ i σ H, i ≤ xs.length → Pv i σ H → SqL K H a xs)
    (hs : ∀ i x σ H, xs[i]? = some x → Pv i σ H → g x σ H fun σ2 H2 => tb { D with nx := Pv (i + 1), ct := Pv (i + 1), bk := D.nx } σ2 H2) (hd : ∀ σ H, Pv xs.length σ H → D.nx σ H) :
    ∃ W : Nat → Nat → St → Hp → Prop, (∃ m, W 0 m σ H) ∧ ∀ i m σ H, W i m σ H →
      ((Itl K a).stop i H ∧ D.nx σ H) ∨ ((Itl K a).go i H ∧ ∃ N : St → Hp → Prop, (∀ σ' H', N σ' H' → ∃ m', m' < m ∧ W (i + 1) m' σ' H') ∧ ∀ x H', (Itl K a).yld i H x H' → g x σ H' fun σ2 H2 => tb { D with nx := N, ct := N, bk := D.nx } σ2 H2) := by
  refine ⟨fun i m σ H => m = xs.length - i ∧ i ≤ xs.length ∧ Pv i σ H, ⟨xs.length, by simp, Nat.zero_le _, h0⟩, ?_⟩
  rintro i m σ H ⟨rfl, hi, p⟩
  have q := hl i σ H hi p
  by_cases hlt : i < xs.length
  · refine .inr ⟨⟨xs, xs[i], q, by simp [hlt]⟩, Pv (i + 1), fun σ' H' p' => ⟨xs.length - (i + 1), by omega, rfl, hlt, p'⟩, fun x H' y => ?_⟩
    obtain ⟨e, y⟩ := y
    subst e
    exact hs i x σ _ (y xs q) p
  · have e : i = xs.length := by omega
    subst e
    exact .inl ⟨⟨xs, q, Nat.le_refl _⟩, hd σ H p⟩
theorem qlj {K : PySem.W.Frag} {a : Addr} {xs : List V} {g : TG} {tb : TS} {D : Ends} {σ : St} {H : Hp} (Pv : Nat → St → Hp → Prop) (h0 : Pv 0 σ H) (hl : ∀ i σ H, i ≤ xs.length → Pv i σ H → SqT K H a xs)
    (hs : ∀ i x σ H, xs[i]? = some x → Pv i σ H → g x σ H fun σ2 H2 => tb { D with nx := Pv (i + 1), ct := Pv (i + 1), bk := D.nx } σ2 H2) (hd : ∀ σ H, Pv xs.length σ H → D.nx σ H) :
    ∃ W : Nat → Nat → St → Hp → Prop, (∃ m, W 0 m σ H) ∧ ∀ i m σ H, W i m σ H →
      ((Itt K a).stop i H ∧ D.nx σ H) ∨ ((Itt K a).go i H ∧ ∃ N : St → Hp → Prop, (∀ σ' H', N σ' H' → ∃ m', m' < m ∧ W (i + 1) m' σ' H') ∧ ∀ x H', (Itt K a).yld i H x H' → g x σ H' fun σ2 H2 => tb { D with nx := N, ct := N, bk := D.nx } σ2 H2) := by
  refine ⟨fun i m σ H => m = xs.length - i ∧ i ≤ xs.length ∧ Pv i σ H, ⟨xs.length, by simp, Nat.zero_le _, h0⟩, ?_⟩
  rintro i m σ H ⟨rfl, hi, p⟩
  have q := hl i σ H hi p
  by_cases hlt : i < xs.length
  · refine .inr ⟨⟨xs, xs[i], q, by simp [hlt]⟩, Pv (i + 1), fun σ' H' p' => ⟨xs.length - (i + 1), by omega, rfl, hlt, p'⟩, fun x H' y => ?_⟩
    obtain ⟨e, y⟩ := y
    subst e
    exact hs i x σ _ (y xs q) p
  · have e : i = xs.length := by omega
    subst e
    exact .inl ⟨⟨xs, q, Nat.le_refl _⟩, hd σ H p⟩
theorem qh8 {lo : Int} {n : Nat} {g : TG} {tb : TS} {D : Ends} {σ : St} {H : Hp} (Pv : Nat → St → Hp → Prop) (h0 : Pv 0 σ H)
    (hs : ∀ i σ H, i < n → Pv i σ H → g (.int (lo + i)) σ H fun σ2 H2 => tb { D with nx := Pv (i + 1), ct := Pv (i + 1), bk := D.nx } σ2 H2) (hd : ∀ σ H, Pv n σ H → D.nx σ H) :
    ∃ W : Nat → Nat → St → Hp → Prop, (∃ m, W 0 m σ H) ∧ ∀ i m σ H, W i m σ H →
      ((Itr lo n).stop i H ∧ D.nx σ H) ∨ ((Itr lo n).go i H ∧ ∃ N : St → Hp → Prop, (∀ σ' H', N σ' H' → ∃ m', m' < m ∧ W (i + 1) m' σ' H') ∧ ∀ x H', (Itr lo n).yld i H x H' → g x σ H' fun σ2 H2 => tb { D with nx := N, ct := N, bk := D.nx } σ2 H2) := by
  refine ⟨fun i m σ H => m = n - i ∧ i ≤ n ∧ Pv i σ H, ⟨n, by simp, Nat.zero_le _, h0⟩, ?_⟩
  rintro i m σ H ⟨rfl, hi, p⟩
  by_cases hlt : i < n
  · refine .inr ⟨hlt, Pv (i + 1), fun σ' H' p' => ⟨n - (i + 1), by omega, rfl, hlt, p'⟩, fun x H' y => ?_⟩
    obtain ⟨e, y⟩ := y
    subst e y
    exact hs i σ _ hlt p
  · have e : i = n := by omega
    subst e
    exact .inl ⟨Nat.le_refl _, hd σ H p⟩
theorem while_by {c : TT} {tb : TS} {D : Ends} {σ : St} {H : Hp} (Pv : St → Hp → Prop) (μ : St → Hp → Nat) (h0 : Pv σ H)
    (hs : ∀ σ H, Pv σ H → c σ H fun b H1 => if b = true then tb { D with nx := fun σ' H' => Pv σ' H' ∧ μ σ' H' < μ σ H, ct := fun σ' H' => Pv σ' H' ∧ μ σ' H' < μ σ H, bk := D.nx } σ H1 else D.nx σ H1)
    (mono : ∀ σ H Q Q', (∀ b H1, Q b H1 → Q' b H1) → c σ H Q → c σ H Q') : qcw c tb D σ H := by
  refine ⟨fun m σ H => m = μ σ H ∧ Pv σ H, ⟨_, rfl, h0⟩, ?_⟩
  rintro m σ H ⟨rfl, p⟩
  refine mono σ H _ _ (fun b H1 q => ?_) (hs σ H p)
  cases b with
  | true => exact ⟨_, fun σ' H' ⟨p', l⟩ => ⟨_, l, rfl, p'⟩, q⟩
  | false => exact q
end L2
namespace L2
open PySem PySem.Spec PyProof.Rows
noncomputable abbrev R2 := V → V → Hp → VK → Prop
noncomputable def OpR (X : Cx) (f : Value → Value → Sem Value) (r : R2) : Prop :=
  ∀ (pins : List (Addr × Obj)) (s : Shared) (σ : St) (H : Hp) (x y : V) (v u : Value) (Q : VK), Inv X pins σ H s → RelV x v → RelV y u → r x y H Q →
    wpAny (model X.prog X.w) X.A (f v u) (EP X pins σ Q) X.xe s
noncomputable def UnR (X : Cx) (f : Value → Sem Value) (r : V → Hp → VK → Prop) : Prop :=
  ∀ (pins : List (Addr × Obj)) (s : Shared) (σ : St) (H : Hp) (x : V) (v : Value) (Q : VK), Inv X pins σ H s → RelV x v → r x H Q →
    wpAny (model X.prog X.w) X.A (f v) (EP X pins σ Q) X.xe s
noncomputable def qdf (X : Cx) (f : Value) (r : List V → Hp → VK → Prop) : Prop :=
  ∀ (pins : List (Addr × Obj)) (s : Shared) (σ : St) (H : Hp) (xs : List V) (us : List Value) (Q : VK), Inv X pins σ H s → Vals xs us → r xs H Q →
    wpAny (model X.prog X.w) X.A (call f us) (EP X pins σ Q) X.xe s
noncomputable def qoE (X : Cx) (r : V → Hp → (Bool → Hp → Prop) → Prop) : Prop :=
  ∀ (pins : List (Addr × Obj)) (s : Shared) (σ : St) (H : Hp) (x : V) (v : Value) (Q : Bool → Hp → Prop), Inv X pins σ H s → RelV x v → r x H Q →
    wpAny (model X.prog X.w) X.A (truthy v) (TP X pins σ Q) X.xe s
noncomputable def tOp (r : R2) (ta tb : TE) : TE := fun σ H Q => ta σ H fun x H1 => tb σ H1 fun y H2 => r x y H2 Q
noncomputable def tUn (r : V → Hp → VK → Prop) (ta : TE) : TE := fun σ H Q => ta σ H fun x H1 => r x H1 Q
noncomputable def rI (C : Int → Int → Prop) (g : Int → Int → V) : R2 := fun x y H Q => ∃ i j, x = .int i ∧ y = .int j ∧ C i j ∧ Q (g i j) H
noncomputable def rI0 (g : Int → Int → V) : R2 := fun x y H Q => ∃ i j, x = .int i ∧ y = .int j ∧ Q (g i j) H
noncomputable def rU (g : Int → V) : V → Hp → VK → Prop := fun x H Q => ∃ i, x = .int i ∧ Q (g i) H
section
variable {X : Cx} {a b c : Expr} {ta tb tc : TE} {pos : Pos}
theorem qnY (ha : PE X a ta) (hb : PE X b tb) {pins : List (Addr × Obj)} {s : Shared} {σ : St} {H : Hp} {R : V → V → Hp → Prop} (I : Inv X pins σ H s)
    (h : ta σ H fun x H1 => tb σ H1 fun y H2 => R x y H2) {Q : Value → Shared → Prop} {f : Value → Value → Sem Value}
    (hf : ∀ v u s2 x y H2, Inv X pins σ H2 s2 → RelV x v → RelV y u → R x y H2 → wpAny (model X.prog X.w) X.A (f v u) Q X.xe s2) :
    wpAny (model X.prog X.w) X.A (eval a X.env) (fun v s₁ => wpAny (model X.prog X.w) X.A (eval b X.env) (fun u s₂ => wpAny (model X.prog X.w) X.A (f v u) Q X.xe s₂) X.xe s₁) X.xe s := by
  refine thn (ha pins s σ H _ I h) fun v s1 ⟨x, H1, I1, r1, q1⟩ => ?_
  refine thn (hb pins s1 σ H1 _ I1 q1) fun u s2 ⟨y, H2, I2, r2, q2⟩ => ?_
  exact hf v u s2 x y H2 I2 r1 r2 q2
theorem qan {op : Operator} {r : R2} (ho : OpR X (binaryOp op) r) (ha : PE X a ta) (hb : PE X b tb) : PE X (.BinOp a op b pos) (tOp r ta tb) := by
  intro pins s σ H Q I h
  exact wpAny_BinOp (qnY ha hb I h fun v u s2 x y H2 I2 rx ry q => ho pins s2 σ H2 x y v u Q I2 rx ry q)
theorem qfA {op : UnaryOp} {r : V → Hp → VK → Prop} (ho : UnR X (unaryOp op) r) (ha : PE X a ta) : PE X (.UnaryOp op a pos) (tUn r ta) := by
  intro pins s σ H Q I h
  exact UnaryOp_ (thn (ha pins s σ H _ I h) fun v s1 ⟨x, H1, I1, r1, q1⟩ => ho pins s1 σ H1 x v Q I1 r1 q1)
theorem opI {f : Value → Value → Sem Value} {C : Int → Int → Prop} {g : Int → Int → Int}
    (rule : ∀ (i j : Int) (t u : Tok) (s : Shared) (Q : Value → Shared → Prop) (E : Value → Shared → Prop), C i j → Q (.int (g i j) s.toks) { s with toks := s.toks + 1 } → wpAny (model X.prog X.w) X.A (f (.int i t) (.int j u)) Q E s) :
    OpR X f (rI C fun i j => .int (g i j)) := by
  intro pins s σ H x y v u Q I rx ry h
  obtain ⟨i, j, rfl, rfl, hc, q⟩ := h
  obtain ⟨t, rfl⟩ := rx
  obtain ⟨t', rfl⟩ := ry
  exact rule i j t t' s _ _ hc ⟨.int (g i j), H, I.tok _, ⟨_, rfl⟩, q⟩
theorem qnZ {f : Value → Value → Sem Value} {g : Int → Int → Int}
    (rule : ∀ (i j : Int) (t u : Tok) (s : Shared) (Q : Value → Shared → Prop) (E : Value → Shared → Prop), Q (.int (g i j) s.toks) { s with toks := s.toks + 1 } → wpAny (model X.prog X.w) X.A (f (.int i t) (.int j u)) Q E s) :
    OpR X f (rI0 fun i j => .int (g i j)) := by
  intro pins s σ H x y v u Q I rx ry h
  obtain ⟨i, j, rfl, rfl, q⟩ := h
  obtain ⟨t, rfl⟩ := rx
  obtain ⟨t', rfl⟩ := ry
  exact rule i j t t' s _ _ ⟨.int (g i j), H, I.tok _, ⟨_, rfl⟩, q⟩
theorem qn0 {f : Value → Value → Sem Value} {g : Int → Int → Bool}
    (rule : ∀ (i j : Int) (t u : Tok) (s : Shared) (Q : Value → Shared → Prop) (E : Value → Shared → Prop), Q (.bool (g i j)) s → wpAny (model X.prog X.w) X.A (f (.int i t) (.int j u)) Q E s) :
    OpR X f (rI0 fun i j => .bl (g i j)) := by
  intro pins s σ H x y v u Q I rx ry h
  obtain ⟨i, j, rfl, rfl, q⟩ := h
  obtain ⟨t, rfl⟩ := rx
  obtain ⟨t', rfl⟩ := ry
  exact rule i j t t' s _ _ ⟨.bl (g i j), H, I, rfl, q⟩
noncomputable def CPow (i j : Int) : Prop := 0 ≤ j ∧ j ≤ 1000000 ∧ i.natAbs < 2 ^ 64
noncomputable def CMul (i j : Int) : Prop := (-(2 ^ 64) < i ∧ i < 2 ^ 64) ∨ (-(2 ^ 64) < j ∧ j < 2 ^ 64)
theorem CMul.ok {i j : Int} (h : CMul i j) : IntMulOk i j := by
  rcases h with ⟨h1, h2⟩ | ⟨h1, h2⟩
  · exact .of_left (intBits_le_64 h1 h2)
  · exact .of_right (intBits_le_64 h1 h2)
theorem qhr (k : Nat) : (0 : Int) ≤ 2 ^ k := by
  rw [two_pow_cast]
  exact Int.natCast_nonneg _
theorem qaP : OpR X (binaryOp .Add) (rI0 fun i j => .int (i + j)) := qnZ fun _ _ _ _ _ _ _ q => add_int q
theorem qfB : OpR X (binaryOp .Sub) (rI0 fun i j => .int (i - j)) := qnZ fun _ _ _ _ _ _ _ q => sub_int q
theorem qdp : OpR X (binaryOp .Mod) (rI (fun _ j => 0 < j) fun i j => .int (i % j)) := opI fun i j _ _ _ _ _ hc q => by
  have h1 : (0 : Int) < j := hc
  exact mod_int' (by omega) (by rw [Int.fmod_eq_emod_of_nonneg i (by omega)]; exact q)
theorem qlk : OpR X (binaryOp .Mod) (rI (fun _ j => j ≠ 0) fun i j => .int (i.fmod j)) := opI fun _ _ _ _ _ _ _ hc q => mod_int' hc q
theorem op_shl : OpR X (binaryOp .LShift) (rI CPow fun i j => .int (i * 2 ^ j.toNat)) := opI fun _ _ _ _ _ _ _ hc q => lshift_int_small hc.1 hc.2.1 hc.2.2 q
theorem op_shr : OpR X (binaryOp .RShift) (rI (fun _ j => 0 ≤ j) fun i j => .int (i / 2 ^ j.toNat)) := opI fun i j _ _ _ _ _ hc q =>
  rshift_int hc (by rw [Int.fdiv_eq_ediv_of_nonneg i (qhr _)]; exact q)
theorem qh9 : OpR X (inplaceOp .Add) (rI0 fun i j => .int (i + j)) := qnZ fun _ _ _ _ _ _ _ q => iadd_int q
theorem unI {f : Value → Sem Value} {g : Int → Int}
    (rule : ∀ (i : Int) (t : Tok) (s : Shared) (Q : Value → Shared → Prop) (E : Value → Shared → Prop), Q (.int (g i) s.toks) { s with toks := s.toks + 1 } → wpAny (model X.prog X.w) X.A (f (.int i t)) Q E s) :
    UnR X f (rU fun i => .int (g i)) := by
  intro pins s σ H x v Q I rx h
  obtain ⟨i, rfl, q⟩ := h
  obtain ⟨t, rfl⟩ := rx
  exact rule i t s _ _ ⟨.int (g i), H, I.tok _, ⟨_, rfl⟩, q⟩
theorem qdq : UnR X (unaryOp .USub) (rU fun i => .int (-i)) := unI fun _ _ _ _ _ q => neg_int q
end
noncomputable def scal : V → V → Bool
  | .non, .non => true | .non, .int _ => true | .int _, .non => true | .non, .bl _ => true | .bl _, .non => true | .non, .str _ => true | .str _, .non => true
  | .int _, .int _ => true | .bl _, .bl _ => true | .str _, .str _ => true | .byt _, .byt _ => true
  | .int _, .str _ => true | .str _, .int _ => true | .bl _, .str _ => true | .str _, .bl _ => true
  | _, _ => false
noncomputable def rEq : R2 := fun x y H Q => scal x y = true ∧ Q (.bl (decide (x = y))) H
noncomputable def rNe : R2 := fun x y H Q => scal x y = true ∧ Q (.bl (!decide (x = y))) H
theorem qia {i j : Int} : decide (V.int i = V.int j) = (i == j) := by
  rw [Bool.eq_iff_iff]
  simp
theorem qkO {i j : Bool} : decide (V.bl i = V.bl j) = (i == j) := by
  rw [Bool.eq_iff_iff]
  simp
theorem qib {i j : Str} : decide (V.str i = V.str j) = (i == j) := by
  rw [Bool.eq_iff_iff]
  simp
theorem qic {i j : Array UInt8} : decide (V.byt i = V.byt j) = (i.toList == j.toList) := by
  rw [Bool.eq_iff_iff]
  cases i
  cases j
  simp
section
variable {X : Cx} {a b c : Expr} {ta tb tc : TE} {pos : Pos}
theorem qaE {pins : List (Addr × Obj)} {σ : St} {H : Hp} {s : Shared} {Q : VK} {k k' : Bool} (I : Inv X pins σ H s) (q : Q (.bl k) H) (e : k = k') : EP X pins σ Q (.bool k') s := by
  subst e
  exact ⟨.bl k, H, I, rfl, q⟩
theorem qmD : OpR X (compareOp .Eq) rEq := by
  intro pins s σ H x y v u Q I rx ry h
  obtain ⟨hs, q⟩ := h
  cases x with
  | non =>
    cases rx
    cases y with
    | non => cases ry; exact PySem.EqNone.eq_none_none (qaE I q (by simp))
    | bl j => cases ry; exact PySem.EqNone.eq_none_bool (qaE I q (by simp))
    | int j => obtain ⟨t', rfl⟩ := ry; exact PySem.EqNone.eq_none_int (qaE I q (by simp))
    | str j => obtain ⟨t', rfl⟩ := ry; exact PySem.EqNone.eq_none_str (qaE I q (by simp))
    | _ => exact absurd (show false = true from hs) Bool.false_ne_true
  | bl i =>
    cases rx
    cases y with
    | non => cases ry; exact PySem.EqNone.eq_bool_none (qaE I q (by simp))
    | bl j => cases ry; exact eq_bool (qaE I q qkO)
    | str j => obtain ⟨t', rfl⟩ := ry; exact PySem.EqMixed.eq_bool_str (qaE I q (by simp))
    | _ => exact absurd (show false = true from hs) Bool.false_ne_true
  | int i =>
    obtain ⟨t, rfl⟩ := rx
    cases y with
    | non => cases ry; exact PySem.EqNone.eq_int_none (qaE I q (by simp))
    | int j => obtain ⟨t', rfl⟩ := ry; exact eq_int (qaE I q qia)
    | str j => obtain ⟨t', rfl⟩ := ry; exact PySem.EqMixed.eq_int_str (qaE I q (by simp))
    | _ => exact absurd (show false = true from hs) Bool.false_ne_true
  | str i =>
    obtain ⟨t, rfl⟩ := rx
    cases y with
    | non => cases ry; exact PySem.EqNone.eq_str_none (qaE I q (by simp))
    | bl j => cases ry; exact PySem.EqMixed.eq_str_bool (qaE I q (by simp))
    | int j => obtain ⟨t', rfl⟩ := ry; exact PySem.EqMixed.eq_str_int (qaE I q (by simp))
    | str j => obtain ⟨t', rfl⟩ := ry; exact eq_str (qaE I q qib)
    | _ => exact absurd (show false = true from hs) Bool.false_ne_true
  | byt i =>
    obtain ⟨t, rfl⟩ := rx
    cases y with
    | byt j => obtain ⟨t', rfl⟩ := ry; exact PySem.W.eq_bytes (qaE I q qic)
    | _ => exact absurd (show false = true from hs) Bool.false_ne_true
  | _ => cases y <;> exact absurd (show false = true from hs) Bool.false_ne_true
theorem qjO : OpR X (compareOp .NotEq) rNe := by
  intro pins s σ H x y v u Q I rx ry h
  obtain ⟨hs, q⟩ := h
  cases x with
  | non =>
    cases rx
    cases y with
    | non => cases ry; exact PySem.EqNone.ne_none_none (qaE I q (by simp))
    | bl j => cases ry; exact PySem.EqNone.ne_none_bool (qaE I q (by simp))
    | int j => obtain ⟨t', rfl⟩ := ry; exact PySem.EqNone.ne_none_int (qaE I q (by simp))
    | str j => obtain ⟨t', rfl⟩ := ry; exact PySem.EqNone.ne_none_str (qaE I q (by simp))
    | _ => exact absurd (show false = true from hs) Bool.false_ne_true
  | bl i =>
    cases rx
    cases y with
    | non => cases ry; exact PySem.EqNone.ne_bool_none (qaE I q (by simp))
    | bl j => cases ry; exact ne_bool (qaE I q (congrArg not qkO))
    | str j => obtain ⟨t', rfl⟩ := ry; exact PySem.EqMixed.ne_bool_str (qaE I q (by simp))
    | _ => exact absurd (show false = true from hs) Bool.false_ne_true
  | int i =>
    obtain ⟨t, rfl⟩ := rx
    cases y with
    | non => cases ry; exact PySem.EqNone.ne_int_none (qaE I q (by simp))
    | int j => obtain ⟨t', rfl⟩ := ry; exact ne_int (qaE I q (congrArg not qia))
    | str j => obtain ⟨t', rfl⟩ := ry; exact PySem.EqMixed.ne_int_str (qaE I q (by simp))
    | _ => exact absurd (show false = true from hs) Bool.false_ne_true
  | str i =>
    obtain ⟨t, rfl⟩ := rx
    cases y with
    | non => cases ry; exact PySem.EqNone.ne_str_none (qaE I q (by simp))
    | bl j => cases ry; exact PySem.EqMixed.ne_str_bool (qaE I q (by simp))
    | int j => obtain ⟨t', rfl⟩ := ry; exact PySem.EqMixed.ne_str_int (qaE I q (by simp))
    | str j => obtain ⟨t', rfl⟩ := ry; exact ne_str (qaE I q (congrArg not qib))
    | _ => exact absurd (show false = true from hs) Bool.false_ne_true
  | byt i =>
    obtain ⟨t, rfl⟩ := rx
    cases y with
    | byt j => obtain ⟨t', rfl⟩ := ry; exact PySem.W.ne_bytes (qaE I q (congrArg not qic))
    | _ => exact absurd (show false = true from hs) Bool.false_ne_true
  | _ => cases y <;> exact absurd (show false = true from hs) Bool.false_ne_true
theorem qga : OpR X (compareOp .Lt) (rI0 fun i j => .bl (decide (i < j))) := qn0 fun _ _ _ _ _ _ _ q => lt_int q
theorem qll : OpR X (compareOp .LtE) (rI0 fun i j => .bl (decide (i ≤ j))) := qn0 fun _ _ _ _ _ _ _ q => le_int q
theorem qfC : OpR X (compareOp .Gt) (rI0 fun i j => .bl (decide (j < i))) := qn0 fun _ _ _ _ _ _ _ q => gt_int q
theorem nomark (b : Expr) {op : CmpOp} (h : op ≠ .In := by decide) (h2 : op ≠ .NotIn := by decide) : behindInMarks op b = false := by
  have e1 : (op == CmpOp.In) = false := by cases op <;> first | rfl | exact absurd rfl h
  have e2 : (op == CmpOp.NotIn) = false := by cases op <;> first | rfl | exact absurd rfl h2
  cases b <;> simp [behindInMarks, e1, e2]
theorem qeY {op : CmpOp} {r : R2} (ho : OpR X (compareOp op) r) (ha : PE X a ta) (hb : PE X b tb) (hm : behindInMarks op b = false) : PE X (.Compare a [op] [b] pos) (tOp r ta tb) := by
  intro pins s σ H Q I h
  exact wpAny_Compare1 (qnY ha hb I h fun v u s2 x y H2 I2 rx ry q => ho pins s2 σ H2 x y v u Q I2 rx ry q) hm
noncomputable def qa5 (t : TE) : TT := fun σ H Q => t σ H fun x H' => ∃ k, x = .bl k ∧ Q k H'
theorem qaF {op : CmpOp} {r : R2} (ho : OpR X (compareOp op) r) (ha : PE X a ta) (hb : PE X b tb) (hm : behindInMarks op b = false) : PT X (.Compare a [op] [b] pos) (qa5 (tOp r ta tb)) := by
  intro pins s σ H Q I h
  refine wpAny_isTrue_Compare1 (thn (ha pins s σ H _ I h) fun v s1 ⟨x, H1, I1, r1, q1⟩ => thn (hb pins s1 σ H1 _ I1 q1) fun u s2 ⟨y, H2, I2, r2, q2⟩ =>
    thn (ho pins s2 σ H2 x y v u _ I2 r1 r2 q2) fun c s3 ⟨z, H3, I3, r3, k, e, q3⟩ => ?_) hm
  subst e
  cases r3
  exact wpAny_truthy_bool ⟨H3, I3, q3⟩
noncomputable def qid (r r' : R2) (ta tb tc : TE) : TE := fun σ H Q => ta σ H fun x H1 => tb σ H1 fun y H2 => r x y H2 fun z H3 => ∃ k, z = .bl k ∧
  (if k = true then tc σ H3 fun w' H4 => r' y w' H4 Q else Q (.bl false) H3)
theorem qjP {op op' : CmpOp} {r r' : R2} (ho : OpR X (compareOp op) r) (ho' : OpR X (compareOp op') r') (ha : PE X a ta) (hb : PE X b tb) (hc : PE X c tc)
    (hm : lastMarks [op, op'] [b, c] = false := by with_unfolding_all rfl) : PT X (.Compare a [op, op'] [b, c] pos) (qa5 (qid r r' ta tb tc)) := by
  intro pins s σ H Q I h
  refine isTrue_chain (thn (ha pins s σ H _ I h) fun v s1 ⟨x, H1, I1, r1, q1⟩ => test_link (thn (hb pins s1 σ H1 _ I1 q1) fun u s2 ⟨y, H2, I2, r2, q2⟩ =>
    thn (ho pins s2 σ H2 x y v u _ I2 r1 r2 q2) fun d s3 ⟨z, H3, I3, r3, k, e, q3⟩ => ?_)) hm
  subst e
  cases r3
  refine wpAny_truthy_bool ?_
  cases k with
  | false =>
    obtain ⟨k', e', q'⟩ := q3
    cases e'
    exact ite_ff ⟨H3, I3, q'⟩
  | true =>
    refine ite_tt (test_last (thn (hc pins s3 σ H3 _ I3 q3) fun w' s4 ⟨z', H4, I4, r4, q4⟩ => thn (ho' pins s4 σ H4 y z' u w' _ I4 r2 r4 q4) fun d' s5 ⟨z2, H5, I5, r5, k2, e2, q5⟩ => ?_))
    subst e2
    cases r5
    exact wpAny_truthy_bool ⟨H5, I5, q5⟩
noncomputable def qoF (K : PySem.W.Frag) (x : V) (H : Hp) (k : Bool) : Prop :=
  match x with
  | .non => k = false
  | .bl b => k = b
  | .int i => k = (i != 0)
  | .str y => y.length ≤ sizeLine ∧ k = ((y.length : Int) != 0)
  | .byt y => y.size ≤ sizeLine ∧ k = ((y.size : Int) != 0)
  | .ref p => (∃ xs, SqL K H p xs ∧ k = !xs.isEmpty) ∨ (∃ xs, SqT K H p xs ∧ k = !xs.isEmpty) ∨ ∃ kvs, H p = some (.dK kvs) ∧ k = !kvs.isEmpty
  | _ => False
theorem qhs {κ : Type} {kvs : List (κ × V)} {vs : List (κ × Value)} (r : KV kvs vs) : (!vs.isEmpty) = !kvs.isEmpty := by
  cases r <;> rfl
theorem qeD {xs : List V} {its : List Value} (r : Vals xs its) : (!its.toArray.isEmpty) = !xs.isEmpty := by
  cases r <;> simp
theorem qgI : (sizeLine : Nat) < 2 ^ 63 := by rw [sizeLine_eq]; decide
theorem qmE : qoE X (fun x H Q => ∃ k, qoF X.K x H k ∧ Q k H) := by
  intro pins s σ H x v Q I rx h
  obtain ⟨k, e, q⟩ := h
  have hl := qgI
  have hs : sizeLine = 16777216 := sizeLine_eq
  cases x with
  | non =>
    cases rx
    have e' : k = false := e
    subst e'
    exact truthy_none ⟨H, I, q⟩
  | bl b =>
    cases rx
    have e' : k = b := e
    subst e'
    exact wpAny_truthy_bool ⟨H, I, q⟩
  | int i =>
    obtain ⟨t, rfl⟩ := rx
    have e' : k = (i != 0) := e
    subst e'
    exact PySem.P.truthy_int ⟨H, I, q⟩
  | str y =>
    obtain ⟨t, rfl⟩ := rx
    obtain ⟨hy, e'⟩ : y.length ≤ sizeLine ∧ k = ((y.length : Int) != 0) := e
    subst e'
    exact PySem.P.truthy_str (by omega) ⟨H, I.tok _, q⟩
  | byt y =>
    obtain ⟨t, rfl⟩ := rx
    obtain ⟨hy, e'⟩ : y.size ≤ sizeLine ∧ k = ((y.size : Int) != 0) := e
    subst e'
    exact PySem.W.truthy_bytes (by omega) ⟨H, I.tok _, q⟩
  | ref p =>
    cases rx
    have e' : (∃ xs, SqL X.K H p xs ∧ k = !xs.isEmpty) ∨ (∃ xs, SqT X.K H p xs ∧ k = !xs.isEmpty) ∨ ∃ kvs, H p = some (.dK kvs) ∧ k = !kvs.isEmpty := e
    rcases e' with ⟨xs, hx, e'⟩ | ⟨xs, hx, e'⟩ | ⟨kvs, hx, e'⟩
    · subst e'
      obtain ⟨its, r, pl, hz⟩ := I.list hx
      have hlen := r.length
      exact wpAny_truthy_list pl.isList (by simp only [List.size_toArray]; omega) ⟨H, I.tok _, by rw [qeD r]; exact q⟩
    · subst e'
      obtain ⟨its, r, pl, hz⟩ := I.tuple hx
      have hlen := r.length
      exact truthy_tuple pl (by simp only [List.size_toArray]; omega) ⟨H, I.tok _, by rw [qeD r]; exact q⟩
    · subst e'
      obtain ⟨hz, hS, vs, r, m⟩ : kvs.length ≤ sizeLine ∧ (p == sysModules) = false ∧ ∃ vs, KV kvs vs ∧ s.heap.DictOf (qeW X.prog X.w) p vs := I.hok p _ hx
      have hlen : kvs.length = vs.length := Paired.length r
      exact wpAny_truthy_dict hS m (by omega) ⟨H, I.tok _, by rw [qhs r]; exact q⟩
  | _ => exact (show False from e).elim
theorem qie {x : V} {us : List Value} (r : Vals [x] us) : ∃ u, us = [u] ∧ RelV x u := by
  cases r with
  | cons r1 r2 => cases r2; exact ⟨_, rfl, r1⟩
theorem vals2 {x y : V} {us : List Value} (r : Vals [x, y] us) : ∃ u w', us = [u, w'] ∧ RelV x u ∧ RelV y w' := by
  cases r with
  | cons r1 r2 =>
    cases r2 with
    | cons r3 r4 => cases r4; exact ⟨_, _, rfl, r1, r3⟩
theorem qjQ : qdf X (.builtin "abs") (fun xs H Q => ∃ i, xs = [.int i] ∧ Q (.int (if i < 0 then -i else i)) H) := by
  intro pins s σ H xs us Q I r h
  obtain ⟨i, rfl, q⟩ := h
  obtain ⟨u, rfl, t, rfl⟩ := qie r
  exact call_abs_int fun u tk => ⟨.int (if i < 0 then -i else i), H, I.tok _, ⟨_, rfl⟩, q⟩
end
end L2
namespace L2
open PySem PySem.Spec PyProof.Rows
structure ObjM (h : Heap) (x dx C : Addr) (mA : Str → Option Value) : Prop where
  obj : h.get? x = some (PySem.W.instObj C dx)
  ns : h.Ns1 dx mA
  ne : dx ≠ x
theorem qif {h : Heap} {dx : Addr} {mA : Str → Option Value} (n : h.Ns1 dx mA) : ∃ od, h.get? dx = some od ∧ ∀ name, PySem.W.lookIn name od = some (mA name) := by
  obtain ⟨o, es, ep, ho, hd, hk, _, hm⟩ := n
  refine ⟨o, ho, fun name => ?_⟩
  have e := hm name
  unfold nsFind findBy at e
  rw [← Array.find?_toList] at e
  unfold PySem.W.lookIn
  rw [hd]
  dsimp only
  split
  · rename_i y q
    rw [q] at e
    exact congrArg some e
  · rename_i q
    rw [q] at e
    have a : es.toList.any (·.refKey) = false := by
      rw [List.any_eq_false]
      intro y hy
      obtain ⟨z, t, hkey⟩ := hk y (Array.mem_toList_iff.mp hy)
      simp [DictEntry.refKey, hkey]
    have a' : ¬ es.toList.any (·.refKey) = true := by rw [a]; exact Bool.false_ne_true
    rw [if_neg a']
    exact congrArg some e
theorem ObjM.look {h : Heap} {x dx C : Addr} {mA : Str → Option Value} (I : ObjM h x dx C mA) : ∃ od, PySem.W.InstAt h x (PySem.W.instObj C dx) C (some od) ∧ ∀ name, PySem.W.lookIn name od = some (mA name) :=
  let ⟨od, ho, hl⟩ := qif I.ns
  ⟨od, ⟨I.obj, rfl, rfl, ho⟩, hl⟩
section
variable {prog : Program} {w : World} {A : Around} {E : Value → Shared → Prop} {s : Shared} {K : PySem.W.Frag} {x dx C f : Addr} {mA : Str → Option Value} {name : Str} {v : Value}
end
section
variable {P : Program} {w : World} {H H' : Hp} {h h' : Heap} {a C dx : Addr} {fs fs' : List (Str × V)}
theorem qlm (hok : HOk P w H h) (e : H a = some (.ins C dx fs)) : ∃ mA, ObjM h a dx C mA ∧ (∀ f, qnV (fs.lookup f) (mA f)) ∧ PySem.Within mA (fs.map (·.1)) ∧ fs.length ≤ 1000 ∧ H dx = some (.own a) := by
  obtain ⟨d, z, ne, ob, mA, n, r, q⟩ := (show ObjOk P w H h a (.ins C dx fs) from hok a _ e)
  exact ⟨mA, ⟨ob, n, ne⟩, r, q, z, d⟩
end
structure Cls (K : PySem.W.Frag) (C : Addr) : Prop where
  pg : PySem.W.plainGet K C Str.empty = true
  hd : PySem.W.hasDictIn K C = true
  po : PySem.W.plainOver K C = true
  sa : PySem.W.findIn K (.ref C) "__setattr__" = some (some (.builtin "object.__setattr__"))
theorem Cls.get {K : PySem.W.Frag} {C : Addr} (c : Cls K C) (f : Str) : PySem.W.plainGet K C f = true := c.pg
structure Con (K : PySem.W.Frag) (C : Addr) (f : Str) (v : V) (u : Value) : Prop where
  at_ : PySem.W.findIn K (.ref C) f = some (some u)
  rel : RelV v u
  get : PySem.W.specialIn K u "__get__" = some none
  cp : PySem.W.copiedNames.contains f = false
structure Meth (K : PySem.W.Frag) (C : Addr) (m : Str) (f : Addr) : Prop where
  at_ : PySem.W.findIn K (.ref C) m = some (some (.ref f))
  fn : PySem.W.isFn K (.ref f) = true
  kp : PySem.W.keepIn K (.ref f) = true
section
variable {X : Cx} {pins : List (Addr × Obj)} {σ : St} {H : Hp} {s : Shared} {a C dx : Addr} {fs : List (Str × V)} {f : Str} {v : V} {A : Around} {E : Value → Shared → Prop}
end
section
variable {X : Cx} {o e value : Expr} {f : Str} {pos pos' tpos : Pos} {ta tv : TE}
end
section
variable {X : Cx} {pins : List (Addr × Obj)} {σ : St} {H : Hp} {s : Shared} {A : Around} {E : Value → Shared → Prop} {Q : Value → Shared → Prop} {c : Value} {b : Bool}
inductive TyOf (K : PySem.W.Frag) (H : Hp) : V → Value → Prop where
  | non : TyOf K H .non (.type "NoneType")
  | bl (x : Bool) : TyOf K H (.bl x) (.type "bool")
  | int (i : Int) : TyOf K H (.int i) (.type "int")
  | str (x : Str) : TyOf K H (.str x) (.type "str")
  | flt (x : UInt64) : TyOf K H (.flt x) (.type "float")
  | lst {a : Addr} {xs : List V} (e : H a = some (.lst xs)) : TyOf K H (.ref a) (.type "list")
  | frz {a : Addr} {o : Obj} {xs : List V} (e : H a = some (.frz o (.lst xs))) : TyOf K H (.ref a) (.type "list")
  | tup {a : Addr} {xs : List V} (e : H a = some (.tup xs)) : TyOf K H (.ref a) (.type "tuple")
  | dK {a : Addr} {kvs : List (Key × V)} (e : H a = some (.dK kvs)) : TyOf K H (.ref a) (.type "dict")
  | dT {a : Addr} {kvs : List (List Key × V)} (e : H a = some (.dT kvs)) : TyOf K H (.ref a) (.type "dict")
  | ins {a C dx : Addr} {fs : List (Str × V)} (e : H a = some (.ins C dx fs)) (cl : Cls K C) (ha : PySem.W.findIn K (.ref C) "__class__" = some (some (.builtin "object.__class__")))
      (hn : PySem.W.specialIn K (.builtin "object.__class__") "__get__" = some (some (.builtin "getset_descriptor.__get__"))) (htk : PySem.W.takesIn K (.builtin "object.__class__") = some true)
      (hm : PySem.W.mroIn K C (.type "object") = some true) : TyOf K H (.ref a) (.ref C)
theorem qig {x : V} {u t : Value} (I : Inv X pins σ H s) (rx : RelV x u) (ty : TyOf X.K H x t) (e : PySem.W.kitOne X.K t c = some b) (h : ∀ tk, Q (.bool b) { s with toks := tk }) :
    wpAny (model X.prog X.w) A (call (.builtin "isinstance") [u, c]) Q E s := by
  cases ty with
  | non => cases (show u = Value.none from rx); exact PySem.W.kia_one PySem.W.kitx_none I.kIn True.intro e (fun z => nomatch z) h
  | bl y => cases (show u = Value.bool y from rx); exact PySem.W.kia_one PySem.W.kitx_bool I.kIn True.intro e (fun z => nomatch z) h
  | int i => obtain ⟨t, q⟩ := (show ∃ t, u = Value.int i t from rx); cases q; exact PySem.W.kia_one PySem.W.kitx_int I.kIn True.intro e (fun z => nomatch z) h
  | str y => obtain ⟨t, q⟩ := (show ∃ t, u = Value.str y t from rx); cases q; exact PySem.W.kia_one PySem.W.kitx_str I.kIn True.intro e (fun z => nomatch z) h
  | flt y => obtain ⟨t, q⟩ := (show ∃ t, u = Value.float y t from rx); cases q; exact PySem.W.kia_one PySem.W.kitx_float I.kIn True.intro e (fun z => nomatch z) h
  | @lst a xs ea =>
    cases (show u = Value.ref a from rx)
    obtain ⟨_, _, n, _, h1⟩ := (show ObjOk X.prog X.w H s.heap a (.lst xs) from I.hok a _ ea)
    exact PySem.W.kia_one PySem.W.kitx_list I.kIn ⟨_, h1, rfl⟩ e (fun z => nomatch z) h
  | @frz a ob xs ea =>
    cases (show u = Value.ref a from rx)
    obtain ⟨_, _, _, n, _, h1⟩ := (show ObjOk X.prog X.w H s.heap a (.frz ob (.lst xs)) from I.hok a _ ea)
    exact PySem.W.kia_one PySem.W.kitx_list I.kIn ⟨_, h1, rfl⟩ e (fun z => nomatch z) h
  | @tup a xs ea =>
    cases (show u = Value.ref a from rx)
    obtain ⟨_, _, _, p⟩ := (show ObjOk X.prog X.w H s.heap a (.tup xs) from I.hok a _ ea)
    obtain ⟨o, h1, h2, _⟩ := p
    exact PySem.W.kia_one PySem.W.kitx_tuple I.kIn ⟨o, h1, h2⟩ e (fun z => nomatch z) h
  | @dK a kvs ea =>
    cases (show u = Value.ref a from rx)
    obtain ⟨_, _, vs, _, p⟩ := (show ObjOk X.prog X.w H s.heap a (.dK kvs) from I.hok a _ ea)
    obtain ⟨o, es, ep, h1, h2, _⟩ := p
    exact PySem.W.kia_one PySem.W.kitx_dict I.kIn ⟨o, h1, h2.1⟩ e (fun z => nomatch z) h
  | @dT a kvs ea =>
    cases (show u = Value.ref a from rx)
    obtain ⟨_, _, xs, _, o, es, ep, h1, h2, _⟩ := (show ObjOk X.prog X.w H s.heap a (.dT kvs) from I.hok a _ ea)
    exact PySem.W.kia_one PySem.W.kitx_dict I.kIn ⟨o, h1, h2.1⟩ e (fun z => nomatch z) h
  | @ins a C dx fs ea cl ha hn htk hm =>
    cases (show u = Value.ref a from rx)
    obtain ⟨mA, O, _⟩ := qlm I.hok ea
    obtain ⟨od, J, _⟩ := O.look
    exact PySem.W.kia_one (PySem.W.kitx_own (cl.get _) cl.hd ha hn htk hm) I.kIn J e (fun z => nomatch z) h
end
end L2
namespace L2
open PySem PySem.Spec PyProof.Rows
structure Room (k : Nat) (A : Around) : Prop where
  hd : A.handled = none
  dp : A.depth + 3 * k + 105 < recursionLimit
  un : A.units + 16 * k + 200 < cLine
theorem Room.mono {j k : Nat} {A : Around} (r : Room k A) (h : j ≤ k) : Room j A := ⟨r.hd, by have := r.dp; omega, by have := r.un; omega⟩
theorem Room.deeper {k : Nat} {A : Around} (r : Room (k + 1) A) (env : Env) : Room k (A.deeper env) :=
  ⟨r.hd, by have := r.dp; show A.depth + 1 + 3 * k + 105 < _; omega, by have := r.un; show A.units + 3 + 16 * k + 200 < _; omega⟩
theorem Room.in1 {k : Nat} {A : Around} (r : Room (k + 1) A) : Room k A.in1 :=
  ⟨r.hd, by have := r.dp; show A.depth + 3 * k + 105 < _; omega, by have := r.un; show A.units + 1 + 16 * k + 200 < _; omega⟩
theorem Room.depth {k : Nat} {A : Around} (r : Room k A) : A.depth < recursionLimit := by have := r.dp; omega
theorem Room.units {k : Nat} {A : Around} (r : Room k A) : A.units + 64 < cLine := by have := r.un; omega
theorem Room.units0 {k : Nat} {A : Around} (r : Room k A) : A.units < cLine := by have := r.un; omega
noncomputable def qar : TA := fun _ H Q => Q [] H
noncomputable def qac (ta : TE) (tr : TA) : TA := fun σ H Q => ta σ H fun x H1 => tr σ H1 fun xs H2 => Q (x :: xs) H2
section
variable {X : Cx} {e : Expr} {es : List Expr} {te : TE} {t : TA} {pos : Pos}
theorem qag : PA X [] qar := fun _ _ _ _ H Q I h => Calls.spliced_nil ⟨[], H, I, .nil, h⟩
theorem qaa (ha : PE X e te) (hr : PA X es t) (hs : starEach (e :: es) X.env = (false, eval e X.env) :: starEach es X.env := by rfl) : PA X (e :: es) (qac te t) := by
  intro pos pins s σ H Q I h
  rw [hs]
  show wpAny _ _ (spliced ((false, eval e X.env) :: backTo pos (starEach es X.env))) _ _ s
  refine Calls.spliced_cons (thn (ha pins s σ H _ I h) fun u s1 ⟨x, H1, I1, r1, q1⟩ => ?_)
  exact thn (hr pos pins s1 σ H1 _ I1 q1) fun us s2 ⟨xs, H2, I2, r2, q2⟩ => ⟨x :: xs, H2, I2, .cons r1 r2, q2⟩
noncomputable def qbf (t : TA) : TE := fun σ H Q => t σ H fun xs H1 => xs.length ≤ sizeLine ∧ ∀ p, H1 p = none → Q (.ref p) (upd H1 p (.tup xs))
noncomputable def qjR (t : TA) : TE := fun σ H Q => t σ H fun xs H1 => xs.length ≤ sizeLine ∧ ∀ p, H1 p = none → Q (.ref p) (upd H1 p (.lst xs))
theorem qaw {x1} (h : PA X es t) : PE X (.Tuple es x1 pos) (qbf t) := by
  intro pins s σ H Q I hq
  refine wpAny_Tuple_spliced (thn (h pos pins s σ H _ I hq) fun us s1 ⟨xs, H1, I1, r, z, q⟩ => ⟨by rw [← r.length]; exact z, ?_⟩)
  have hf : H1 s1.heap.objs.size = none := I1.hok.fresh (Nat.le_refl _)
  refine ⟨.ref s1.heap.objs.size, upd H1 s1.heap.objs.size (.tup xs), I1.laid (t' := s1.toks) (fun b u e => Heap.get?_push_of_some _ e) (Nat.le_refl _) ?_, rfl, q _ hf⟩
  exact ⟨z, us, r, ⟨_, Heap.get?_push_size _ rfl, rfl, _, rfl⟩⟩
theorem qeE (h : PA X es t) : PE X (.List es pos) (qjR t) := by
  intro pins s σ H Q I hq
  refine wpAny_List_spliced (thn (h pos pins s σ H _ I hq) fun us s1 ⟨xs, H1, I1, r, z, q⟩ => ⟨by rw [← r.length]; exact z, ?_⟩)
  have hf : H1 s1.heap.objs.size = none := I1.hok.fresh (Nat.le_refl _)
  refine ⟨.ref s1.heap.objs.size, upd H1 s1.heap.objs.size (.lst xs), I1.laid (t' := s1.toks) (fun b u e => Heap.get?_push_of_some _ e) (Nat.le_refl _) ?_, rfl, q _ hf⟩
  exact ⟨z, us, 0, r, Heap.get?_push_size _ rfl⟩
end
noncomputable abbrev Sp := List V → Hp → VK → XK → Prop
noncomputable abbrev CXT := List Env → Hp → Shared → XK → Value → Shared → Prop
structure Env0 (P : Program) (w : World) (K : PySem.W.Frag) (mg : Str → Option Value) (base : Heap) (A : Around) (outer : List Env) (s : Shared) (H : Hp) : Prop where
  frames : A.frames = some outer
  mod : Mod K mg base
  bs : ∀ b o, base.get? b = some o → s.heap.get? b = some o ∧ H b = none
  bsz : base.objs.size ≤ s.heap.objs.size
  funs : s.heap.FunFrames base outer
  frf : ∀ b ∈ frs outer, H b = none
  hok : HOk P w H s.heap
  bare : AllBare s.gens
  seer : base.NoSeer
  tree : (model P w).prog.given.tree = none
noncomputable def CE (outer : List Env) (P : Program) (w : World) (H : Hp) (s : Shared) (Q : VK) (u : Value) (s' : Shared) : Prop :=
  ∃ v H', s'.os = s.os ∧ AllBare s'.gens ∧ Un (frs outer) [] H H' s.heap s'.heap ∧ HOk P w H' s'.heap ∧ RelV v u ∧ Q v H'
noncomputable def CR (CX : CXT) (outer : List Env) (P : Program) (w : World) (H : Hp) (s : Shared) (Q : VK) (E : XK) (r : Result) (s' : Shared) : Prop :=
  match r with
  | .ok (.ret u) => CE outer P w H s Q u s'
  | .ok _ => False
  | .error e => CX outer H s E e s'
structure FnOk (P : Program) (w : World) (K : PySem.W.Frag) (mg : Str → Option Value) (base : Heap) (CX : CXT) (k : Nat) (f : Addr) (fd : FuncData) (ps : List Str) (sp : Sp) : Prop where
  len : ∀ vs H Q E, sp vs H Q E → vs.length = ps.length
  run : ∀ (A : Around) (outer : List Env) (s : Shared) (H : Hp) (args : Args) (us : List Value) (vs : List V) (Q : VK) (E : XK), Room k A → Env0 P w K mg base A outer s H → BindsTo s fd args (ps.zip us) → Vals vs us → sp vs H Q E →
    codeAny (model P w) A (.call (.ref f) args) (CR CX outer P w H s Q E) s
theorem FnOk.mono {P : Program} {w : World} {K : PySem.W.Frag} {mg : Str → Option Value} {base : Heap} {CX : CXT} {j k : Nat} {f : Addr} {fd : FuncData} {ps : List Str} {sp : Sp} (F : FnOk P w K mg base CX j f fd ps sp) (h : j ≤ k) :
    FnOk P w K mg base CX k f fd ps sp := ⟨F.len, fun A outer s H args us vs Q E hr => F.run A outer s H args us vs Q E (hr.mono h)⟩
theorem FnOk.imp {P : Program} {w : World} {K : PySem.W.Frag} {mg : Str → Option Value} {base : Heap} {CX : CXT} {k : Nat} {f : Addr} {fd : FuncData} {ps : List Str} {sp sp' : Sp} (F : FnOk P w K mg base CX k f fd ps sp)
    (h : ∀ vs H Q E, sp' vs H Q E → sp vs H Q E) : FnOk P w K mg base CX k f fd ps sp' :=
  ⟨fun vs H Q E q => F.len vs H Q E (h _ _ _ _ q), fun A outer s H args us vs Q E hr he hb hv hs => F.run A outer s H args us vs Q E hr he hb hv (h _ _ _ _ hs)⟩
theorem Env0.in1 {P : Program} {w : World} {K : PySem.W.Frag} {mg : Str → Option Value} {base : Heap} {A : Around} {outer : List Env} {s : Shared} {H : Hp} (e : Env0 P w K mg base A outer s H) :
    Env0 P w K mg base A.in1 outer s H := ⟨e.frames, e.mod, e.bs, e.bsz, e.funs, e.frf, e.hok, e.bare, e.seer, e.tree⟩
section
variable {X : Cx} {pins : List (Addr × Obj)} {σ : St} {H : Hp} {s s' : Shared}
theorem Inv.env0 (I : Inv X pins σ H s) : Env0 X.prog X.w X.K X.mg X.base X.A X.stack s H :=
  ⟨I.ok.frames, I.ok.mod, I.bs, Nat.le_trans I.ok.bsz I.sz, I.stack, I.stkFree, I.hok, I.bare, I.ok.seer, I.ok.tree⟩
theorem Inv.after {Q : VK} {u : Value} (I : Inv X pins σ H s) (h : CE X.stack X.prog X.w H s Q u s') : EP X pins σ Q u s' := by
  obtain ⟨v, H', os, bare, un, hok, r, q⟩ := h
  obtain ⟨hh, g, d, t, os'⟩ := s'
  obtain rfl : os' = s.os := os
  exact ⟨v, H', I.call (h' := hh) (g' := g) (d' := d) (t' := t) (ch := []) un hok bare (fun b z => absurd z (by simp)), r, q⟩
end
noncomputable def qas (sp : Sp) (dvs : List V) (E : XK) (t : TA) : TE := fun σ H Q => t σ H fun vs H1 => sp (vs ++ dvs) H1 Q E
noncomputable def Binds (K : PySem.W.Frag) (fd : FuncData) (ps : List Str) (ds : List Value) : Prop :=
  ∀ (s : Shared) (us : List Value), K.In s.heap → (us ++ ds).length = ps.length → BindsTo s fd ⟨us, []⟩ (ps.zip (us ++ ds))
theorem Binds.all {K : PySem.W.Frag} {fd : FuncData} {ps : List Str} (h : ∀ us : List Value, us.length = ps.length → bindArgs fd ⟨us, []⟩ = pure (ps.zip us)) : Binds K fd ps [] := fun s us _ hl => by
  rw [List.append_nil] at hl ⊢
  exact .of_eq (h us hl)
noncomputable def Passes (CX : CXT) (X : Cx) (E : XK) : Prop := ∀ (pins : List (Addr × Obj)) (σ : St) (H : Hp) (s : Shared) (e : Value) (s' : Shared), Inv X pins σ H s → CX X.stack H s E e s' → X.xe e s'
section
variable {X : Cx} {CX : CXT} {k : Nat} {f C : Addr} {fd : FuncData} {ps : List Str} {sp : Sp} {dvs : List V} {ds : List Value} {E : XK} {x m : Str} {p pos apos : Pos} {e o : Expr} {es : List Expr} {ta : TE} {t : TA}
theorem qkP {pins : List (Addr × Obj)} {σ : St} {H : Hp} {s : Shared} {Q : VK} {us : List Value} {vs : List V} (F : FnOk X.prog X.w X.K X.mg X.base CX k f fd ps sp) (hr : Room k X.A) (hb : Binds X.K fd ps ds) (hd : Vals dvs ds) (hx : Passes CX X E)
    (I : Inv X pins σ H s) (r : Vals vs us) (h : sp (vs ++ dvs) H Q E) : wpAny (model X.prog X.w) X.A (call (.ref f) us) (EP X pins σ Q) X.xe s := by
  have r2 : Vals (vs ++ dvs) (us ++ ds) := r.append hd
  have hl : (us ++ ds).length = ps.length := by rw [← r2.length]; exact F.len _ _ _ _ h
  refine wpAny_call (codeAny_mono (F.run X.A X.stack s H ⟨us, []⟩ (us ++ ds) (vs ++ dvs) Q E hr I.env0 (hb s us I.kIn hl) r2 h) fun r s' hq => ?_)
  cases r with
  | error e => exact hx pins σ H s e s' I hq
  | ok fl =>
    cases fl with
    | ret u => exact I.after hq
    | next => exact False.elim hq
    | brk => exact False.elim hq
    | cont => exact False.elim hq
theorem qln (F : FnOk X.prog X.w X.K X.mg X.base CX k f fd ps sp) (hr : Room k X.A) (hg : Gl X x) (hm : X.mg x = some (.ref f)) (hk : PySem.W.keepIn X.K (.ref f) = true) (hb : Binds X.K fd ps ds) (hd : Vals dvs ds) (hx : Passes CX X E)
    (ha : PA X (e :: es) t) (hdb : (x == ("__debug__" : Str)) = false := by decide) (he : starEach (e :: es) X.env = (false, eval e X.env) :: starEach es X.env := by rfl) (hpl : (backTo pos (starEach es X.env)).any (·.1) = false := by rfl) :
    PE X (.Call (.Name x p) (e :: es) [] pos) (qas sp dvs E t) := by
  intro pins s σ H Q I h
  refine wpAny_Call_Name_kw (qf7 I hg hm ?_ hdb)
  refine PySem.W.callWith_K (h₀ := X.base) I.ok.mod.kin hk (thn (ha pos pins s σ H _ I h) fun us s1 ⟨vs, H1, I1, r, q⟩ => ⟨I1.kIn, ?_⟩) he hpl
  exact qkP F hr hb hd hx I1 r q
theorem qjS (F : FnOk X.prog X.w X.K X.mg X.base CX k f fd ps sp) (hr : Room k X.A) (hg : Gl X x) (hm : X.mg x = some (.ref f)) (hk : PySem.W.keepIn X.K (.ref f) = true) (hb : Binds X.K fd ps ds) (hd : Vals dvs ds) (hx : Passes CX X E)
    (hdb : (x == ("__debug__" : Str)) = false := by decide) : PE X (.Call (.Name x p) [] [] pos) (qas sp dvs E qar) := by
  intro pins s σ H Q I h
  refine wpAny_Call_Name_kw (qf7 I hg hm ?_ hdb)
  exact PySem.W.callWith_K0 I.kIn hk (qkP (us := []) F hr hb hd hx I .nil h)
structure Mk (K : PySem.W.Frag) (C f : Addr) : Prop where
  makes : PySem.W.makesIn K C = true
  init : PySem.W.findIn K (.ref C) "__init__" = some (some (.ref f))
  fn : PySem.W.isFn K (.ref f) = true
  kp : PySem.W.keepIn K (.ref C) = true
end
section
variable {X : Cx} {CX : CXT} {k : Nat} {f C : Addr} {fd : FuncData} {ps ks : List Str} {sp : Sp} {E : XK} {x m : Str} {p pos apos kpos : Pos} {e o : Expr} {es : List Expr} {kws : List Keyword} {te ta : TE} {t tk : TA} {nm : Option Str}
structure KBinds (K : PySem.W.Frag) (fd : FuncData) (ps ks : List Str) (g : List Value → List Value → List Value) (gV : List V → List V → List V) : Prop where
  to : ∀ (s : Shared) (us ws : List Value), K.In s.heap → (g us ws).length = ps.length → BindsTo s fd ⟨us, ks.zip ws⟩ (ps.zip (g us ws))
  rel : ∀ {vs : List V} {us : List Value} {zs : List V} {ws : List Value}, Vals vs us → Vals zs ws → Vals (gV vs zs) (g us ws)
variable {g : List Value → List Value → List Value} {gV : List V → List V → List V}
end
structure FnScope (N P : List Str) (sc : Scope) : Prop where
  kind : sc.kind = .function
  co : sc.isCoroutine = false
  gen : sc.isGenerator = false
  nd : N.Nodup
  pre : N.take P.length = P
  par : ∀ x ∈ P, sc.names.lookup x = some .local ∨ sc.names.lookup x = some .cell
  nofree : ∀ y ∈ sc.names, y.2 ≠ .free
theorem qfD {kindOf : Str → Option NameKind} {x : Str} : ∀ {binds : List (Str × Value)} {m : Str → Option Value}, (∀ v, (x, v) ∉ binds) → bindL kindOf binds m x = m x
  | [], _, _ => rfl
  | (n, v) :: r, m, h => by
    unfold bindL
    rw [qfD fun w hw => h w (List.mem_cons_of_mem _ hw)]
    split
    · have : x ≠ n := by rintro rfl; exact h v List.mem_cons_self
      simp [this]
    · rfl
theorem qfE {kindOf : Str → Option NameKind} {x : Str} : ∀ {binds : List (Str × Value)} {m : Str → Option Value}, (∀ v, (x, v) ∉ binds) → bindC kindOf binds m x = m x
  | [], _, _ => rfl
  | (n, v) :: r, m, h => by
    unfold bindC
    rw [qfE fun w hw => h w (List.mem_cons_of_mem _ hw)]
    split
    · rfl
    · have : x ≠ n := by rintro rfl; exact h v List.mem_cons_self
      simp [this]
theorem qfF {kindOf : Str → Option NameKind} {x : Str} {v : Value} : ∀ {P : List Str} {vs : List Value} {i : Nat} {m : Str → Option Value}, P.Nodup → P[i]? = some x → vs[i]? = some v → kindOf x = some .local →
    bindL kindOf (P.zip vs) m x = some v
  | [], _, _, _, _, h, _, _ => by simp at h
  | _ :: _, [], _, _, _, _, h, _ => by simp at h
  | p :: P, w :: vs, 0, m, nd, h1, h2, hk => by
    simp at h1 h2; subst h1; subst h2
    show bindL kindOf ((p, w) :: P.zip vs) m p = _
    unfold bindL
    rw [qfD fun v hv => (List.nodup_cons.mp nd).1 (List.of_mem_zip hv).1, if_pos hk]
    simp
  | p :: P, w :: vs, i + 1, m, nd, h1, h2, hk => by
    show bindL kindOf ((p, w) :: P.zip vs) m x = _
    unfold bindL
    exact qfF (i := i) (List.nodup_cons.mp nd).2 (by simpa using h1) (by simpa using h2) hk
theorem qfG {kindOf : Str → Option NameKind} {x : Str} {v : Value} : ∀ {P : List Str} {vs : List Value} {i : Nat} {m : Str → Option Value}, P.Nodup → P[i]? = some x → vs[i]? = some v → kindOf x ≠ some .local →
    bindC kindOf (P.zip vs) m x = some v
  | [], _, _, _, _, h, _, _ => by simp at h
  | _ :: _, [], _, _, _, _, h, _ => by simp at h
  | p :: P, w :: vs, 0, m, nd, h1, h2, hk => by
    simp at h1 h2; subst h1; subst h2
    show bindC kindOf ((p, w) :: P.zip vs) m p = _
    unfold bindC
    rw [qfE fun v hv => (List.nodup_cons.mp nd).1 (List.of_mem_zip hv).1, if_neg hk]
    simp
  | p :: P, w :: vs, i + 1, m, nd, h1, h2, hk => by
    show bindC kindOf ((p, w) :: P.zip vs) m x = _
    unfold bindC
    exact qfG (i := i) (List.nodup_cons.mp nd).2 (by simpa using h1) (by simpa using h2) hk
noncomputable def start (N : List Str) (vs : List V) : St := vs.map some ++ List.replicate (N.length - vs.length) none
noncomputable def qjT (CX : CXT) (P : Program) (w : World) (K : PySem.W.Frag) (mg : Str → Option Value) (base : Heap) (N : List Str) (qual : Str) (scope : Scope) (f : Addr) (cd : Value) (A : Around) (outer : List Env) (s : Shared) (H : Hp) (E : XK) : Cx where
  prog := P
  w := w
  K := K
  mg := mg
  base := base
  A := A.deeper (envOfC qual scope s.heap.objs.size f cd)
  N := N
  s₀ := s
  H₀ := H
  env := envOfC qual scope s.heap.objs.size f cd
  outer := outer
  stack := envOfC qual scope s.heap.objs.size f cd :: outer
  ex := []
  calm := true
  fn := fun _ => true
  pn := []
  xe := fun e s' => wpAny (model P w) (A.deeper (envOfC qual scope s.heap.objs.size f cd)) (leaving (envOfC qual scope s.heap.objs.size f cd) e) (fun _ s'' => CX outer H s E e s'') (fun e' s'' => CX outer H s E e' s'') s'
theorem qgJ {sc : Scope} {n : Nat} {x : Str} (h : sc.names.lookup x = some .cell) : ∃ c, (cellsFrom n sc.names []).lookup x = some c := by
  have q := PySem.W.cellsFrom_some sc.names n [] (.inl h)
  exact Option.isSome_iff_exists.mp q
theorem qih {CX : CXT} {P : Program} {w : World} {K : PySem.W.Frag} {mg : Str → Option Value} {base : Heap} {N ps : List Str} {qual : Str} {scope : Scope} {f : Addr} {cd : Value} {A : Around} {outer : List Env} {s s1 : Shared} {H : Hp} {E : XK} {us : List Value} {vs : List V}
    (S : FnScope N ps scope) (hd : A.handled = none) (hdp : (A.deeper (envOfC qual scope s.heap.objs.size f cd)).depth + Builtin.pylongFrames < recursionLimit) (e0 : Env0 P w K mg base A outer s H) (hl : vs.length = ps.length) (r : Vals vs us)
    (x : InCallC s s.heap.objs.size (bindL (envOfC qual scope s.heap.objs.size f cd).kindOf (ps.zip us) fun _ => none) (cellsFrom (s.heap.objs.size + 1) scope.names []) (bindC (envOfC qual scope s.heap.objs.size f cd).kindOf (ps.zip us) fun _ => none) s1) :
    Inv (qjT CX P w K mg base N qual scope f cd A outer s H E) [] (start N vs) H s1 := by
  have hpl : ps.length ≤ N.length := by have := congrArg List.length S.pre; rw [List.length_take] at this; omega
  obtain ⟨h1, tk, rfl, hk⟩ := x.done
  have noA : ∀ b : Addr, b ∉ (qjT CX P w K mg base N qual scope f cd A outer s H E).ex := fun b z => absurd (show b ∈ ([] : List Addr) from z) (by simp)
  refine ⟨⟨e0.mod, S.kind, rfl, rfl, Nat.le_refl _, fun y z c h1 h2 => ?_, fun y hy => ?_, fun y c _ h => ?_, fun _ => hd, Around.frames_deeper e0.frames, .inr ⟨rfl, rfl⟩, fun b z => absurd z (noA b), e0.bs, e0.bsz, fun b _ _ => noA b, fun b z => absurd z (noA b), e0.funs, e0.frf, e0.seer, e0.tree, fun s' hk' => PySem.PylongRoom.of (e0.mod.nolimit.keeps hk') hdp (PySem.SeerAt.of (e0.seer.keeps hk') e0.tree (Around.frames_deeper e0.frames) S.gen S.co rfl rfl)⟩,
    rfl, e0.bare, Un.kept hk, ⟨_, x.toInCall.ns, fun i y v h1 h2 h3 => ?_⟩, fun y c h => ⟨_, x.cell y c h⟩, e0.hok.fresh (Nat.le_refl _), fun y c h => ?_, fun p hp => absurd (show p ∈ ([] : List (Addr × Obj)) from hp) (by simp), e0.hok.kept hk, ?_⟩
  · exact name_of_addr x.apart (PySem.mem_of_lookup h1) (PySem.mem_of_lookup h2)
  · have hy : scope.names.lookup y = some .cell ∨ scope.names.lookup y = some .free := hy
    rcases hy with hy | hy
    · exact qgJ hy
    · exact absurd rfl (S.nofree _ (PySem.mem_of_lookup hy))
  · exact Nat.le_of_lt (x.above y c (PySem.mem_of_lookup h))
  · have hi : i < vs.length := by
      unfold start at h2
      by_cases hi : i < vs.length
      · exact hi
      · rw [List.getElem?_append_right (by simpa using hi)] at h2
        rw [List.getElem?_replicate] at h2
        split at h2 <;> cases h2
    have ha : vs[i]? = some v := by
      unfold start at h2
      rw [List.getElem?_append_left (by simpa using hi), List.getElem?_map] at h2
      cases e : vs[i]? with
      | none => rw [e] at h2; cases h2
      | some a => rw [e] at h2; cases h2; rfl
    obtain ⟨u, hu, rv⟩ := r.get ha
    have hp : ps[i]? = some y := by
      rw [← S.pre, List.getElem?_take_of_lt (by omega)]; exact h1
    have ndP : ps.Nodup := by rw [← S.pre]; exact S.nd.sublist (List.take_sublist _ _)
    refine ⟨u, rv, ?_⟩
    rcases S.par y (List.mem_of_getElem? hp) with k | k
    · exact .inl ⟨k, qfF ndP hp hu k⟩
    · obtain ⟨c, e⟩ := qgJ (n := s.heap.objs.size + 1) k
      refine .inr ⟨.inl k, c, e, ?_⟩
      have q := x.cell y c e
      rw [qfG ndP hp hu (by show scope.names.lookup y ≠ _; rw [k]; decide)] at q
      exact q
  · exact e0.hok.fresh (Nat.le_of_lt (x.above y c (PySem.mem_of_lookup h)))
  · unfold start
    show _ = N.length
    rw [List.length_append, List.length_map, List.length_replicate]
    omega
theorem qmF {CX : CXT} {P : Program} {w : World} {K : PySem.W.Frag} {mg : Str → Option Value} {base : Heap} {k : Nat} {f : Addr} {name qual : Str} {params : Arguments} {body : List Stmt} {scope : Scope} {dV kV doc pm cdv ct oc : Value} {an od : Option Addr}
    {osl : Array (Option Value)} {N ps : List Str} {sp : Sp} (lk : K.lookup f = some ⟨oc, od, .func (PySem.W.fnOf name qual params body scope dV kV doc pm an cdv ct), osl⟩) (hcd : PySem.W.codeIn K cdv qual = true) (S : FnScope N ps scope)
    (len : ∀ vs H Q E, sp vs H Q E → vs.length = ps.length)
    (hbody : ∀ (A : Around) (outer : List Env) (s : Shared) (H : Hp) (vs : List V) (Q : VK) (E : XK), Room k (A.deeper (envOfC qual scope s.heap.objs.size f cdv)) → sp vs H Q E →
      ∃ t, PSs (qjT CX P w K mg base N qual scope f cdv A outer s H E) body t ∧ t { nx := fun _ H' => Q .non H', rt := Q } (start N vs) H) :
    FnOk P w K mg base CX (k + 1) f (PySem.W.fnOf name qual params body scope dV kV doc pm an cdv ct) ps sp := by
  refine ⟨len, fun A outer s H args us vs Q E hr e0 hb r hsp => ?_⟩
  have hl := len _ _ _ _ hsp
  have KX : K.In s.heap := e0.mod.kin.keeps fun b o e => (e0.bs b o e).1
  have lim : s.heap.NoLimit := e0.mod.nolimit.keeps fun b o e => (e0.bs b o e).1
  have hkind : ∀ y ∈ ps.zip us, scope.names.lookup y.1 = some .local ∨ (scope.names.lookup y.1 = some .cell ∧ ((cellsFrom (s.heap.objs.size + 1) scope.names []).lookup y.1).isSome = true) := fun ⟨n, v⟩ hy => by
    rcases S.par n (List.of_mem_zip hy).1 with q | q
    · exact .inl q
    · exact .inr ⟨q, PySem.W.cellsFrom_some _ _ _ (.inl q)⟩
  refine codeAny_call_function hr.depth (KX _ _ lk) rfl S.co S.gen rfl (PySem.W.codeRec_of KX hcd) (hb _ _ _ _ ?_)
  refine wpAny_newFunctionEnv_cells S.kind hkind fun env he s1 x => ?_
  subst he
  refine ⟨lim.keeps x.toInCall.keep, codeAny_func ?_⟩
  obtain ⟨t, ht, hq⟩ := hbody A outer s H vs Q E (hr.deeper _) hsp
  have I : Inv (qjT CX P w K mg base N qual scope f cdv A outer s H E) [] (start N vs) H s1 := qih S hr.hd (by have := (hr.deeper (envOfC qual scope s.heap.objs.size f cdv)).dp; show _ + 100 < _; omega) e0 hl r x
  refine wpAny_mono (ht [] s1 (start N vs) H _ I hq) (fun fl s' hs => ?_) fun e s' hs => hs
  have fin : ∀ {σ' : St} {H' : Hp} {v : V} {u : Value}, Inv (qjT CX P w K mg base N qual scope f cdv A outer s H E) [] σ' H' s' → RelV v u → Q v H' → CE outer P w H s Q u s' :=
    fun {σ' H' v u} J rv q => ⟨v, H', J.os, J.bare, J.base, J.hok, rv, q⟩
  cases fl with
  | ret u =>
    obtain ⟨v, σ', H', J, rv, q⟩ := hs
    exact fin J rv q
  | next =>
    obtain ⟨σ', H', J, q⟩ := hs
    exact fin (v := V.non) (u := Value.none) J rfl q
  | brk =>
    obtain ⟨_, _, _, q⟩ := hs
    exact False.elim q
  | cont =>
    obtain ⟨_, _, _, q⟩ := hs
    exact False.elim q
end L2
namespace L2
open PySem PySem.Spec PyProof.Rows
section
variable {X : Cx} {x : Str} {p pos : Pos} {e : Expr} {es : List Expr} {t : TA} {id T : String} {r : List V → Hp → VK → Prop}
noncomputable def tCB (r : List V → Hp → VK → Prop) (t : TA) : TE := fun σ H Q => t σ H fun vs H1 => r vs H1 Q
theorem qaX (hc : qdf X (.builtin id) r) (hg : Gl X x) (hm : X.mg x = none) (hv : bootBuiltins x = some (.builtin id)) (ha : PA X (e :: es) t) (hn : x ≠ "__name__" := by decide) (hdb : (x == ("__debug__" : Str)) = false := by decide)
    (he : starEach (e :: es) X.env = (false, eval e X.env) :: starEach es X.env := by rfl) (hpl : (backTo pos (starEach es X.env)).any (·.1) = false := by rfl) : PE X (.Call (.Name x p) (e :: es) [] pos) (tCB r t) := by
  intro pins s σ H Q I h
  refine wpAny_Call_Name_kw (qdY I hg hm hv ?_ hn hdb)
  exact PyProof.Rows.callWith_builtin1 (thn (ha pos pins s σ H _ I h) fun us s1 ⟨vs, H1, I1, r1, q1⟩ => hc pins s1 σ H1 vs us Q I1 r1 q1) he hpl
theorem qcI (hc : qdf X (.type T) r) (hg : Gl X x) (hm : X.mg x = none) (hv : bootBuiltins x = some (.type T)) (ha : PA X (e :: es) t) (hn : x ≠ "__name__" := by decide) (hdb : (x == ("__debug__" : Str)) = false := by decide)
    (he : starEach (e :: es) X.env = (false, eval e X.env) :: starEach es X.env := by rfl) (hpl : (backTo pos (starEach es X.env)).any (·.1) = false := by rfl) : PE X (.Call (.Name x p) (e :: es) [] pos) (tCB r t) := by
  intro pins s σ H Q I h
  refine wpAny_Call_Name_kw (qdY I hg hm hv ?_ hn hdb)
  exact PyProof.Rows.callWith_type1 (thn (ha pos pins s σ H _ I h) fun us s1 ⟨vs, H1, I1, r1, q1⟩ => hc pins s1 σ H1 vs us Q I1 r1 q1) he hpl
end
end L2
namespace HT
open PySem PyProof.Rows
section
open PySem.SeqAt
open PySem.AutoSeq1 (wpAny_loadPart')
open PySem.MeetsSeq PySem.MeetsSeq2 PySem.MeetsSeq3
end
section
variable {prog : Program} {w : World} {A : Around} {E : Value → Shared → Prop} {s : Shared}
noncomputable def sIx (n d : Nat) : Option Int → Nat
  | none => d
  | some v => if v < 0 then (v + (n : Int)).toNat else min v.toNat n
end
end HT
namespace L2
open PySem PySem.Spec PyProof.Rows
noncomputable abbrev TO := St → Hp → (Option Int → Hp → Prop) → Prop
noncomputable def PO (X : Cx) (e : Option Expr) (t : TO) : Prop :=
  ∀ (pins : List (Addr × Obj)) (s : Shared) (σ : St) (H : Hp) (Q : Option Int → Hp → Prop), Inv X pins σ H s → t σ H Q →
    wpAny (model X.prog X.w) X.A (evalPart e X.env) (fun u s' => ∃ o H', Inv X pins σ H' s' ∧ IsPart u o ∧ Q o H') X.xe s
noncomputable def qlo : TO := fun _ H Q => Q none H
noncomputable def qjU (t : TE) : TO := fun σ H Q => t σ H fun x H1 => ∃ i, x = .int i ∧ Q (some i) H1
section
variable {X : Cx} {e : Expr} {te : TE} {lo hi : Option Expr} {tl th : TO} {pos p2 : Pos}
theorem qgb (h : PE X e te) : PO X (some e) (qjU te) := by
  intro pins s σ H Q I hw
  rw [evalPart_some]
  refine thn (h pins s σ H _ I hw) fun u s1 ⟨x, H1, I1, r1, q1⟩ => ?_
  obtain ⟨i, rfl, q⟩ := q1
  obtain ⟨t, rfl⟩ := r1
  exact ⟨some i, H1, I1, .int i t, q⟩
noncomputable def SlR (X : Cx) (r : V → Option Int → Option Int → Hp → VK → Prop) : Prop :=
  ∀ (pins : List (Addr × Obj)) (s : Shared) (σ : St) (H : Hp) (x : V) (v vl vu : Value) (lo hi : Option Int) (sl : Addr) (Q : VK), Inv X pins σ H s → RelV x v → s.heap.IsSliceOf sl vl vu .none → IsPart vl lo → IsPart vu hi → r x lo hi H Q →
    ∃ T id, typeLookup (.type T) "__getitem__" = pure (some (.builtin id)) ∧ s.TypeIs v T ∧ wpAny (model X.prog X.w) X.A (getItem v (.ref sl)) (EP X pins σ Q) X.xe s
noncomputable def tSl (r : V → Option Int → Option Int → Hp → VK → Prop) (te : TE) (tl th : TO) : TE := fun σ H Q => te σ H fun x H1 => tl σ H1 fun l H2 => th σ H2 fun u H3 => r x l u H3 Q
theorem qjV {r : V → Option Int → Option Int → Hp → VK → Prop} (hr : SlR X r) (he : PE X e te) (hl : PO X lo tl) (hu : PO X hi th) : PE X (.Subscript e (.Slice lo hi none p2) pos) (tSl r te tl th) := by
  intro pins s σ H Q I h
  refine Subscript_ (thn (he pins s σ H _ I h) fun v s1 ⟨x, H1, I1, r1, q1⟩ => ?_)
  refine wpAny_Slice (thn (hl pins s1 σ H1 _ I1 q1) fun vl s2 ⟨l, H2, I2, pl, q2⟩ => thn (hu pins s2 σ H2 _ I2 q2) fun vu s3 ⟨u, H3, I3, pu, q3⟩ => ?_)
  rw [evalPart_none]
  refine wpAny_pure ?_
  have I4 : Inv X pins σ H3 { s3 with heap := s3.heap.push { cls := .type "slice", data := .fields #[vl, vu, .none] } } := I3.kept (t' := s3.toks) fun b ob q => Heap.get?_push_of_some _ q
  obtain ⟨T, id, hT, ht, hg⟩ := hr pins { s3 with heap := s3.heap.push { cls := .type "slice", data := .fields #[vl, vu, .none] } } σ H3 x v vl vu l u s3.heap.objs.size Q I4 r1 (Heap.IsSliceOf.new ..) pl pu q3
  show wpAny (model X.prog X.w) X.A (subscriptTail e (.Slice lo hi none p2) v (.ref s3.heap.objs.size)) (EP X pins σ Q) X.xe { s3 with heap := s3.heap.push { cls := .type "slice", data := .fields #[vl, vu, .none] } }
  exact tail_any (ops := [.ref s3.heap.objs.size, v]) ht hT hg (by with_unfolding_all rfl)
noncomputable def qjF (xs : List V) (lo hi : Option Int) : List V := (xs.drop (HT.sIx xs.length 0 lo)).take (HT.sIx xs.length xs.length hi - HT.sIx xs.length 0 lo)
theorem qgc (xs : List V) (lo hi : Option Int) : (qjF xs lo hi).length ≤ xs.length := by
  unfold qjF
  rw [List.length_take, List.length_drop]
  omega
end
end L2
namespace L2
open PySem PySem.Spec PyProof.Rows
noncomputable def ixN (n : Nat) (i : Int) : Option Nat := if 0 ≤ i then (if i < n then some i.toNat else none) else if -(n : Int) ≤ i then some (i + n).toNat else none
noncomputable def atI {α : Type} (xs : List α) (i : Int) : Option α := (ixN xs.length i).bind fun j => xs[j]?
theorem qlp {n : Nat} {i : Int} {j : Nat} (h : ixN n i = some j) : seqIndex? i n = some j ∧ j < n ∧ -(n : Int) ≤ i ∧ i < n := by
  unfold ixN at h
  by_cases h0 : 0 ≤ i
  · rw [if_pos h0] at h
    by_cases h1 : i < n
    · rw [if_pos h1] at h
      have e : i.toNat = j := Option.some.inj h
      exact ⟨by rw [seqIndex_of h0 h1, e], by omega, by omega, h1⟩
    · rw [if_neg h1] at h; cases h
  · rw [if_neg h0] at h
    by_cases h1 : -(n : Int) ≤ i
    · rw [if_pos h1] at h
      have e : (i + n).toNat = j := Option.some.inj h
      exact ⟨by rw [seqIndex_neg (by omega) h1, e], by omega, h1, by omega⟩
    · rw [if_neg h1] at h; cases h
theorem qii {α : Type} {xs : List α} {i : Int} {v : α} (h : atI xs i = some v) : ∃ j, seqIndex? i xs.length = some j ∧ xs[j]? = some v ∧ j < xs.length ∧ -(xs.length : Int) ≤ i ∧ i < xs.length := by
  unfold atI at h
  cases e : ixN xs.length i with
  | none => rw [e] at h; cases h
  | some j =>
    rw [e] at h
    obtain ⟨h1, h2, h3, h4⟩ := qlp e
    exact ⟨j, h1, h, h2, h3, h4⟩
theorem qlq {α : Type} {xs : List α} {j : Nat} {v : α} (h : xs[j]? = some v) : atI xs (j : Int) = some v := by
  have hj : j < xs.length := (List.getElem?_eq_some_iff.mp h).1
  have e : ixN xs.length (j : Int) = some j := by
    unfold ixN
    rw [if_pos (by omega), if_pos (by omega)]; simp
  unfold atI; rw [e]; exact h
noncomputable def qlr (b : Expr) : Prop := ∀ o i, subscripted b false o i = operate [o, i] (getItem o i)
noncomputable def IxR (X : Cx) (r : R2) : Prop :=
  ∀ (value slice : Expr) (pins : List (Addr × Obj)) (s : Shared) (σ : St) (H : Hp) (x y : V) (v u : Value) (Q : VK), Inv X pins σ H s → RelV x v → RelV y u → r x y H Q →
    subscripted slice false v u = operate [v, u] (getItem v u) → wpAny (model X.prog X.w) X.A (subscriptTail value slice v u) (EP X pins σ Q) X.xe s
noncomputable def MtR (X : Cx) (id : String) (r : V → List V → Hp → VK → Prop) : Prop :=
  ∀ (pins : List (Addr × Obj)) (s : Shared) (σ : St) (H : Hp) (x : V) (xs : List V) (v : Value) (us : List Value) (Q : VK), Inv X pins σ H s → RelV x v → Vals xs us → r x xs H Q →
    wpAny (model X.prog X.w) X.A (call (.builtin id) (v :: us)) (EP X pins σ Q) X.xe s
section
variable {X : Cx} {a b : Expr} {ta tb : TE} {pos : Pos}
theorem qap {r : R2} (hr : IxR X r) (ha : PE X a ta) (hb : PE X b tb) (hs : qlr b) : PE X (.Subscript a b pos) (tOp r ta tb) := by
  intro pins s σ H Q I h
  exact Subscript_ (qnY ha hb I h fun v u s2 x y H2 I2 rx ry q => hr a b pins s2 σ H2 x y v u Q I2 rx ry q (hs _ _))
noncomputable def qoG (K : PySem.W.Frag) : R2 := fun x y H Q => ∃ p xs i v, x = .ref p ∧ y = .int i ∧ SqL K H p xs ∧ atI xs i = some v ∧ Q v H
noncomputable def qoH (K : PySem.W.Frag) : R2 := fun x y H Q => ∃ p xs i v, x = .ref p ∧ y = .int i ∧ SqT K H p xs ∧ atI xs i = some v ∧ Q v H
theorem qij : IxR X (qoG X.K) := by
  intro value slice pins s σ H x y v u Q I rx ry h hs
  obtain ⟨p, xs, i, z, rfl, rfl, hq, he, q⟩ := h
  cases rx
  obtain ⟨t, rfl⟩ := ry
  obtain ⟨its, r, pl, hz⟩ := I.list hq
  obtain ⟨j, h1, h2, h3, h4, h5⟩ := qii he
  obtain ⟨w, ew, rw'⟩ := r.get h2
  have hl := r.length
  have hn := qgI
  have fin : EP X pins σ Q w s := ⟨z, H, I, rw', q⟩
  by_cases h0 : 0 ≤ i
  · have hj : i.toNat = j := by
      rw [seqIndex_of h0 h5] at h1
      exact Option.some.inj h1
    exact item_listR pl.isList h0 (by omega) (by rw [hj]; simpa using ew) fin hs
  · have hj : (i + (its.toArray.size : Int)).toNat = j := by
      rw [seqIndex_neg (by omega) h4] at h1
      rw [List.size_toArray, ← hl]
      exact Option.some.inj h1
    exact subscriptTail_builtinR (x := w) pl.isList.typeIs slot_list_getitem.lookup
      (wpAny_getItem_list_neg (Q := fun r s' => r = w ∧ EP X pins σ Q r s') pl.isList (by omega) (by rw [List.size_toArray] <;> omega) (by omega) (by rw [hj]; simpa using ew) ⟨rfl, fin⟩) hs
theorem qmG : IxR X (qoH X.K) := by
  intro value slice pins s σ H x y v u Q I rx ry h hs
  obtain ⟨p, xs, i, z, rfl, rfl, hq, he, q⟩ := h
  cases rx
  obtain ⟨t, rfl⟩ := ry
  obtain ⟨its, r, pl, hz⟩ := I.tuple hq
  obtain ⟨j, h1, h2, h3, h4, h5⟩ := qii he
  obtain ⟨w, ew, rw'⟩ := r.get h2
  have hl := r.length
  have hn := qgI
  have fin : EP X pins σ Q w s := ⟨z, H, I, rw', q⟩
  exact subscriptTail_builtinR (x := w) pl.typeIs slot_tuple_getitem.lookup
    (getItem_tuple (j := j) (Q := fun r s' => r = w ∧ EP X pins σ Q r s') pl (by omega) (by omega) (by rw [List.size_toArray, ← hl]; exact h1) (by simpa using ew) ⟨rfl, fin⟩) hs
theorem Inv.lst {pins : List (Addr × Obj)} {σ : St} {H : Hp} {s : Shared} {p : Addr} {xs : List V} (I : Inv X pins σ H s) (h : H p = some (.lst xs)) :
    ∃ (its : List Value) (n : Nat), Vals xs its ∧ s.heap.get? p = some { cls := .type "list", data := .seq its.toArray n } ∧ xs.length ≤ sizeLine := by
  obtain ⟨z, its, n, r, e⟩ := I.hok p _ h
  exact ⟨its, n, r, e, z⟩
noncomputable def qn1 : V → V → V → Hp → (Hp → Prop) → Prop := fun o i v H Q => ∃ p xs k j, o = .ref p ∧ i = .int k ∧ H p = some (.lst xs) ∧ ixN xs.length k = some j ∧ Q (upd H p (.lst (xs.set j v)))
theorem qfH (lo hi : Option Int) (n : Nat) : (sliceBounds lo hi none n).1 = ((HT.sIx n 0 lo : Nat) : Int) ∧ (sliceBounds lo hi none n).2.1 = ((HT.sIx n n hi : Nat) : Int) ∧ (sliceBounds lo hi none n).2.2 = 1 := by
  refine ⟨?_, ?_, rfl⟩
  · cases lo with
    | none => simp [sliceBounds, HT.sIx]
    | some i =>
      simp only [sliceBounds, HT.sIx, Option.getD_none, show (1 : Int) > 0 by decide, if_true]
      by_cases h : i < 0
      · simp only [h, if_true] <;> omega
      · simp only [h, if_false] <;> omega
  · cases hi with
    | none => simp [sliceBounds, HT.sIx]
    | some i =>
      simp only [sliceBounds, HT.sIx, Option.getD_none, show (1 : Int) > 0 by decide, if_true]
      by_cases h : i < 0
      · simp only [h, if_true] <;> omega
      · simp only [h, if_false] <;> omega
theorem qeZ (its : List Value) (lo hi : Option Int) : slicePick its.toArray lo hi none = ((its.drop (HT.sIx its.length 0 lo)).take (HT.sIx its.length its.length hi - HT.sIx its.length 0 lo)).toArray := by
  obtain ⟨h1, h2, h3⟩ := qfH lo hi its.toArray.size
  unfold slicePick
  rw [h1, h2, h3]
  simp only [sliceRange_one, pick_run, List.size_toArray] <;> rfl
noncomputable def qoI (K : PySem.W.Frag) : V → Option Int → Option Int → Hp → VK → Prop := fun x lo hi H Q => ∃ a xs, x = .ref a ∧ SqL K H a xs ∧ ∀ p, H p = none → Q (.ref p) (upd H p (.lst (qjF xs lo hi)))
theorem qls : SlR X (qoI X.K) := by
  intro pins s σ H x v vl vu lo hi sl Q I rx hs pl pu h
  obtain ⟨a, xs, rfl, hx, q⟩ := h
  cases rx
  obtain ⟨its, r, ht, hz⟩ := I.list hx
  have hlen := r.length
  refine ⟨"list", _, slot_list_getitem.lookup, ht.isList.typeIs, ?_⟩
  refine wpAny_getItem_list_slice ht.isList hs pl pu .none (by simp) ?_ (by rw [List.size_toArray] <;> omega)
  rw [qeZ, ← hlen]
  refine ⟨.ref s.heap.objs.size, _, I.laid (t' := s.toks) (o := .lst (qjF xs lo hi)) (fun b ob q => Heap.get?_push_of_some _ q) (Nat.le_refl _) ?_, rfl, q _ (I.hok.fresh (Nat.le_refl _))⟩
  exact ⟨Nat.le_trans (qgc xs lo hi) hz, _, 0, (r.drop (HT.sIx xs.length 0 lo)).take (HT.sIx xs.length xs.length hi - HT.sIx xs.length 0 lo), Heap.get?_push_size _ rfl⟩
theorem qdr : qdf X (.builtin "len") (fun xs H Q => ∃ p ys, xs = [.ref p] ∧ (SqL X.K H p ys ∨ SqT X.K H p ys) ∧ Q (.int ys.length) H) := by
  intro pins s σ H xs us Q I r h
  obtain ⟨p, ys, rfl, hq, q⟩ := h
  obtain ⟨u, rfl, rx⟩ := qie r
  cases rx
  have hn := qgI
  rcases hq with hq | hq
  · obtain ⟨its, r', pl, hz⟩ := I.list hq
    have hlen := r'.length
    exact Calls.call_len_list pl.isList (by simp only [List.size_toArray] <;> omega) ⟨.int ys.length, H, I.tok _, ⟨s.toks + 1, by rw [List.size_toArray, hlen]⟩, q⟩
  · obtain ⟨its, r', pl, hz⟩ := I.tuple hq
    have hlen := r'.length
    exact len_tuple pl (by simp only [List.size_toArray] <;> omega) ⟨.int ys.length, H, I.tok _, ⟨s.toks + 1, by rw [List.size_toArray, hlen]⟩, q⟩
theorem qds : qdf X (.type "list") (fun xs H Q => ∃ p ys, xs = [.ref p] ∧ (SqL X.K H p ys ∨ SqT X.K H p ys) ∧ ∀ l, H l = none → Q (.ref l) (upd H l (.lst ys))) := by
  intro pins s σ H xs us Q I r h
  obtain ⟨p, ys, rfl, hq, q⟩ := h
  obtain ⟨u, rfl, rx⟩ := qie r
  cases rx
  have fin : ∀ (its : List Value), Vals ys its → ys.length ≤ sizeLine → ∀ (h' : Heap) (c' : Nat), (∀ b o', s.heap.get? b = some o' → h'.get? b = some o') →
      h'.get? s.heap.objs.size = some { cls := .type "list", dict := none, data := .seq its.toArray c', slots := #[] } → EP X pins σ Q (.ref s.heap.objs.size) { s with heap := h' } := fun its r' hz h' c' kp e =>
    ⟨.ref s.heap.objs.size, _, I.laid (t' := s.toks) kp (Nat.le_refl _) (show ObjOk X.prog X.w _ h' _ (.lst ys) from ⟨hz, its, c', r', e⟩), rfl, q _ (I.hok.fresh (Nat.le_refl _))⟩
  rcases hq with hq | hq
  · obtain ⟨its, r', pl, hz⟩ := I.list hq
    have hlen := r'.length
    obtain ⟨o, ho, hc, n, hd⟩ := pl.isList
    exact call_list_seq p (.inl rfl) ho hc hd (fun h' c' kp e => fin its r' hz h' c' kp e) (by simp only [List.size_toArray] <;> omega)
  · obtain ⟨its, r', pl, hz⟩ := I.tuple hq
    have hlen := r'.length
    obtain ⟨o, ho, hc, n, hd⟩ := pl
    exact call_list_seq p (.inr rfl) ho hc hd (fun h' c' kp e => fin its r' hz h' c' kp e) (by simp only [List.size_toArray] <;> omega)
theorem qe0 : qdf X (.type "tuple") (fun xs H Q => ∃ p ys, xs = [.ref p] ∧ ((SqL X.K H p ys ∧ ∀ l, H l = none → Q (.ref l) (upd H l (.tup ys))) ∨ (SqT X.K H p ys ∧ Q (.ref p) H))) := by
  intro pins s σ H xs us Q I r h
  obtain ⟨p, ys, rfl, h⟩ := h
  obtain ⟨u, rfl, rx⟩ := qie r
  cases rx
  rcases h with ⟨hq, q⟩ | ⟨hq, q⟩
  · obtain ⟨its, r', pl, hz⟩ := I.list hq
    have hlen := r'.length
    refine call_tuple_list pl.isList (fun h' kp => ?_) (by simp only [List.size_toArray] <;> omega)
    have I1 : Inv X pins σ H { s with heap := h' } := I.kept (t' := s.toks) kp
    have I2 : Inv X pins σ (upd H h'.objs.size (.tup ys)) { s with heap := h'.push { cls := .type "tuple", data := .seq its.toArray } } :=
      I1.laid (t' := s.toks) (fun b o e => Heap.get?_push_of_some _ e) (Nat.le_refl _) (show ObjOk X.prog X.w _ _ _ (.tup ys) from ⟨hz, its, r', IsTup.new _ _⟩)
    exact ⟨.ref h'.objs.size, _, I2, rfl, q _ (I1.hok.fresh (Nat.le_refl _))⟩
  · obtain ⟨its, r', pl, hz⟩ := I.tuple hq
    exact call_tuple_same pl ⟨.ref p, H, I, rfl, q⟩
noncomputable def tyV (K : PySem.W.Frag) (T : String) (x : V) (H : Hp) : Prop := match x with
  | .str _ => T = "str"
  | .int _ => T = "int"
  | .ref p => (T = "list" ∧ ∃ xs, SqL K H p xs) ∨ (T = "tuple" ∧ ∃ o, K.lookup p = some o ∧ o.cls = .type "tuple" ∧ o.dict = none) ∨
      (T = "dict" ∧ ((∃ kvs, H p = some (.dK kvs)) ∨ ∃ kvs, H p = some (.dT kvs))) ∨ (T = "set" ∧ ∃ S n, H p = some (.set S n))
  | _ => False
theorem qkQ {pins : List (Addr × Obj)} {σ : St} {H : Hp} {s : Shared} {T : String} {x : V} {v : Value} (I : Inv X pins σ H s) (r : RelV x v) (ty : tyV X.K T x H) :
    s.TypeIs v T ∧ ∀ a, v = .ref a → ∃ ob, s.heap.get? a = some ob ∧ ob.dict = none := by
  cases x with
  | str z =>
    obtain ⟨t, rfl⟩ := r
    cases (show T = "str" from ty)
    exact ⟨typeIs_str s z t, fun _ e => nomatch e⟩
  | int i =>
    obtain ⟨t, rfl⟩ := r
    cases (show T = "int" from ty)
    exact ⟨typeIs_int s i t, fun _ e => nomatch e⟩
  | ref p =>
    cases r
    rcases ty with ⟨rfl, xs, hq⟩ | ⟨rfl, o, hk, hc, hd⟩ | ⟨rfl, hk⟩ | ⟨rfl, S, n, hk⟩
    · obtain ⟨its, _, pl, _⟩ := I.list hq
      refine ⟨pl.isList.typeIs, fun a e => ?_⟩
      cases e
      obtain ⟨o, n, e, c, hd, _⟩ := pl
      exact ⟨o, e, hd⟩
    · refine ⟨⟨o, I.kIn p o hk, hc⟩, fun a e => ?_⟩
      cases e
      exact ⟨o, I.kIn _ o hk, hd⟩
    · have z : ∃ o, s.heap.get? p = some o ∧ o.ExactDict := by
        rcases hk with ⟨kvs, hk⟩ | ⟨kvs, hk⟩
        · obtain ⟨_, _, _, _, o, _, _, e, ex, _⟩ := I.hok p _ hk
          exact ⟨o, e, ex⟩
        · obtain ⟨_, _, _, _, o, _, _, e, ex, _⟩ := I.hok p _ hk
          exact ⟨o, e, ex⟩
      obtain ⟨o, e, ex⟩ := z
      refine ⟨⟨o, e, ex.1⟩, fun a e2 => ?_⟩
      cases e2
      exact ⟨o, e, ex.2.1⟩
    · obtain ⟨o, _, _, _, e, ex, _⟩ := I.hok p _ hk
      refine ⟨⟨o, e, ex.1⟩, fun a e2 => ?_⟩
      cases e2
      exact ⟨o, e, ex.2.1⟩
  | _ => exact False.elim ty
noncomputable def qmH (K : PySem.W.Frag) (T : String) (r : V → List V → Hp → VK → Prop) (to : TE) : TE := fun σ H Q => to σ H fun x H1 => tyV K T x H1 ∧ r x [] H1 Q
noncomputable def tBM (K : PySem.W.Frag) (T : String) (r : V → List V → Hp → VK → Prop) (to : TE) (t : TA) : TE := fun σ H Q => to σ H fun x H1 => tyV K T x H1 ∧ t σ H1 fun xs H2 => r x xs H2 Q
variable {o e : Expr} {es : List Expr} {to : TE} {t : TA} {name : Str} {apos cpos : Pos} {T id : String} {r : V → List V → Hp → VK → Prop}
theorem qik (pa : PlainAttrs T) (slot : Slot T name id) (hty : typeOf (.builtin id) = pure (.type "method_descriptor")) (hm : MtR X id r) (ho : PE X o to)
    (hbase : attributeBase o name X.env (eval o X.env) = eval o X.env := by rfl) (hline : (apos.endLine == cpos.line) = true := by rfl) : PE X (.Call (.Attribute o name apos) [] [] cpos) (qmH X.K T r to) := by
  intro pins s σ H Q I h
  refine wpAny_Call_method0_late hbase hline (thn (ho pins s σ H _ I h) fun v s1 ⟨x, H1, I1, r1, ty, q1⟩ => ?_)
  obtain ⟨h1, h2⟩ := qkQ I1 r1 ty
  exact ⟨T, id, pa, slot, hty, h1, h2, Calls.callWith_builtin rfl (PySem.evalArgs_none (hm pins s1 σ H1 x [] v [] Q I1 r1 .nil q1))⟩
theorem qe1 (pa : PlainAttrs T) (slot : Slot T name id) (hty : typeOf (.builtin id) = pure (.type "method_descriptor")) (hm : MtR X id r) (ho : PE X o to) (ha : PA X (e :: es) t)
    (hbase : attributeBase o name X.env (eval o X.env) = eval o X.env := by rfl)
    (hfew : ((backTo cpos (starEach (e :: es) X.env)).all (fun x => !x.1) && (backToKw cpos (keywordEach [] X.env)).all (fun x => x.1.isSome)
      && decide ((e :: es).length + ([] : List Keyword).length + (if ([] : List Keyword).isEmpty then 0 else 1) < 30)) = true := by rfl)
    (hline : (apos.endLine == cpos.line) = true := by rfl) (hs : starEach (e :: es) X.env = (false, eval e X.env) :: starEach es X.env := by rfl) (hplain : (backTo cpos (starEach es X.env)).any (·.1) = false := by rfl) :
    PE X (.Call (.Attribute o name apos) (e :: es) [] cpos) (tBM X.K T r to t) := by
  intro pins s σ H Q I h
  refine wpAny_Call_method_late hbase hfew hline rfl (thn (ho pins s σ H _ I h) fun v s1 ⟨x, H1, I1, r1, ty, q1⟩ => ?_)
  obtain ⟨h1, h2⟩ := qkQ I1 r1 ty
  refine ⟨T, id, pa, slot, hty, h1, h2, ?_⟩
  have hA := ha cpos pins s1 σ H1 _ I1 q1
  rw [hs] at hA ⊢
  refine Calls.callWith_builtin (by show (false || (backTo cpos (starEach es X.env)).any (·.1)) = false; rw [hplain] <;> rfl) (Calls.evalArgs_plain ?_)
  exact thn hA fun us s2 ⟨vs, H2, I2, r2, q2⟩ => hm pins s2 σ H2 x vs v us Q I2 r1 r2 q2
end
end L2
namespace L2
open PySem PySem.Spec PyProof.Rows
noncomputable def MtM (X : Cx) (id : String) (r : V → List V → Hp → VK → Prop) : Prop :=
  ∀ (pins : List (Addr × Obj)) (s : Shared) (σ : St) (H : Hp) (x : V) (xs : List V) (v : Value) (us : List Value) (Q : VK), Inv X pins σ H s → RelV x v → Vals xs us → r x xs H Q →
    wpAny (model X.prog X.w) X.A (call (.builtin id) (v :: us)) (EP X pins σ Q) X.xe s
theorem Vals.zero {us : List Value} (h : Vals [] us) : us = [] := by cases h; rfl
theorem Vals.inv {x : V} {xs : List V} {us : List Value} (h : Vals (x :: xs) us) : ∃ u t, us = u :: t ∧ RelV x u ∧ Vals xs t := by cases h with | cons r t => exact ⟨_, _, rfl, r, t⟩
theorem Vals.one {x : V} {us : List Value} (h : Vals [x] us) : ∃ u, us = [u] ∧ RelV x u := by obtain ⟨u, t, rfl, r, h⟩ := h.inv; exact ⟨u, by rw [h.zero], r⟩
theorem Vals.two {x y : V} {us : List Value} (h : Vals [x, y] us) : ∃ u v, us = [u, v] ∧ RelV x u ∧ RelV y v := by obtain ⟨u, t, rfl, r, h⟩ := h.inv; obtain ⟨v, rfl, q⟩ := h.one; exact ⟨u, v, rfl, r, q⟩
theorem Vals.dropLast {xs : List V} {us : List Value} (h : Vals xs us) : Vals xs.dropLast us.dropLast := by
  induction h with
  | nil => exact .nil
  | cons r t ih =>
    cases t with
    | nil => exact .nil
    | cons q t' => exact .cons r ih
theorem Vals.eraseIdx : ∀ {xs : List V} {us : List Value} (i : Nat), Vals xs us → Vals (xs.eraseIdx i) (us.eraseIdx i)
  | _, _, _, .nil => .nil
  | _, _, 0, .cons _ t => t
  | _, _, i + 1, .cons r t => .cons r (Vals.eraseIdx i t)
theorem Vals.reverse {xs : List V} {us : List Value} (h : Vals xs us) : Vals xs.reverse us.reverse := by
  induction h with
  | nil => exact .nil
  | cons r t ih => rw [List.reverse_cons, List.reverse_cons]; exact Vals.append ih (.cons r .nil)
theorem qht {α : Type} (l : List α) : l.eraseIdx (l.length - 1) = l.dropLast := by
  induction l with
  | nil => rfl
  | cons a r ih =>
    cases r with
    | nil => rfl
    | cons b r =>
      have e : (a :: b :: r).length - 1 = ((b :: r).length - 1) + 1 := by
        have h1 : (a :: b :: r).length = r.length + 2 := rfl
        have h2 : (b :: r).length = r.length + 1 := rfl
        omega
      rw [e, List.eraseIdx_cons_succ, ih]
      all_goals rfl
section
variable {X : Cx} {pins : List (Addr × Obj)} {σ : St} {H : Hp} {s : Shared} {l b : Addr} {xs ys zs : List V}
theorem Inv.lset {its its' : List Value} {n : Nat} {f : Array Value → Array Value} {t' : Nat} (I : Inv X pins σ H s) (hH : H l = some (.lst xs))
    (e : s.heap.get? l = some { cls := .type "list", data := .seq its.toArray n }) (hf : f its.toArray = its'.toArray) (hv : Vals ys its') (hz : ys.length ≤ sizeLine) :
    Inv X pins σ (upd H l (.lst ys)) { s with heap := s.heap.update l (Obj.mapSeq f), toks := t' } := by
  have q := PySem.IsL.update e f
  rw [hf] at q
  refine I.write (x := l) (e := l) (by rw [hH]; exact trivial) (.inl rfl) (fun b' u hb hu => (Heap.get?_update_other s.heap (Obj.mapSeq f) (Ne.symm hb)).trans hu) ⟨_, q⟩ ?_
  exact ⟨hz, its', _, hv, q⟩
theorem Inv.lnew {its : List Value} {t' : Nat} (I : Inv X pins σ H s) (hv : Vals ys its) (hz : ys.length ≤ sizeLine) :
    Inv X pins σ (upd H s.heap.objs.size (.lst ys)) { s with heap := s.heap.push { cls := .type "list", data := .seq its.toArray }, toks := t' } :=
  I.laid (fun _ _ q => Heap.get?_push_of_some _ q) (Nat.le_refl _) ⟨hz, its, 0, hv, Heap.get?_push_size _ rfl⟩
theorem Inv.fresh (I : Inv X pins σ H s) : H s.heap.objs.size = none := I.hok.fresh (Nat.le_refl _)
theorem Inv.lstM (I : Inv X pins σ H s) (hH : H l = some (.lst xs)) : xs.length ≤ sizeLine ∧ ∃ (its : List Value) (n : Nat), Vals xs its ∧ xs.length = its.length ∧ s.heap.get? l = some { cls := .type "list", data := .seq its.toArray n } := by
  obtain ⟨z, its, n, r, e⟩ := I.hok l _ hH
  exact ⟨z, its, n, r, r.length, e⟩
theorem qjW {n : Nat} (h : n ≤ sizeLine) : Builtin.List.listTooLong n = false := by
  unfold Builtin.List.listTooLong
  exact decide_eq_false (by omega)
end
section
variable {X : Cx}
noncomputable def qbK : V → List V → Hp → VK → Prop := fun x vs H Q => ∃ l xs y, x = .ref l ∧ vs = [y] ∧ H l = some (.lst xs) ∧ xs.length < sizeLine ∧ Q .non (upd H l (.lst (xs ++ [y])))
theorem qbl : MtM X "list.append" qbK := by
  intro pins s σ H x vs v us Q I rx rv h
  obtain ⟨l, xs, y, rfl, rfl, hH, hz, q⟩ := h
  cases rx
  obtain ⟨u, rfl, ru⟩ := rv.one
  obtain ⟨z, its, n, r, hl, e⟩ := I.lstM hH
  refine call_meets F.slot_list_append ⟨_, e, rfl⟩ F.entry_list_append (F.args_list_append_2 _ _) (PySem.list_append l its.toArray n u (by rw [List.size_toArray]; omega)) ⟨e, ?_⟩
  refine ⟨.non, _, I.lset (its' := its ++ [u]) hH e (by simp) (r.append (.cons ru .nil)) ?_, rfl, q⟩
  rw [List.length_append, List.length_singleton]
  omega
noncomputable def qgd : V → List V → Hp → VK → Prop := fun x vs H Q => ∃ l b xs zs, x = .ref l ∧ vs = [.ref b] ∧ H l = some (.lst xs) ∧ H b = some (.lst zs) ∧ xs.length + zs.length ≤ sizeLine ∧ Q .non (upd H l (.lst (xs ++ zs)))
theorem qil : MtM X "list.extend" qgd := by
  intro pins s σ H x vs v us Q I rx rv h
  obtain ⟨l, b, xs, zs, rfl, rfl, hH, hB, hz, q⟩ := h
  cases rx
  obtain ⟨u, rfl, ru⟩ := rv.one
  cases ru
  obtain ⟨z, its, n, r, hl, e⟩ := I.lstM hH
  obtain ⟨z2, its2, n2, r2, hl2, e2⟩ := I.lstM hB
  have hsz : its.toArray.size + its2.toArray.size ≤ sizeLine := by rw [List.size_toArray, List.size_toArray]; omega
  have hlong : ¬ (!its.toArray.isEmpty && Builtin.List.listTooLong (its.toArray.size + its2.toArray.size)) = true := by
    rw [qjW hsz, Bool.and_false]
    exact Bool.false_ne_true
  refine call_meets F.slot_list_extend ⟨_, e, rfl⟩ F.entry_list_extend (F.args_list_extend_2 _ _)
    (AutoSeq1.list_extend_list_list_0 l its.toArray n b its2.toArray n2 hlong (by rw [List.size_toArray]; omega) (by omega)) ⟨e, e2, ?_⟩
  refine ⟨.non, _, I.lset (its' := its ++ its2) hH e (by simp) (r.append r2) ?_, rfl, q⟩
  rw [List.length_append]
  omega
noncomputable def qn2 : V → List V → Hp → VK → Prop := fun x vs H Q => ∃ l xs y, x = .ref l ∧ vs = [] ∧ H l = some (.lst xs) ∧ xs[xs.length - 1]? = some y ∧ Q y (upd H l (.lst xs.dropLast))
theorem qmI : MtM X "list.pop" qn2 := by
  intro pins s σ H x vs v us Q I rx rv h
  obtain ⟨l, xs, y, rfl, rfl, hH, hy, q⟩ := h
  cases rx
  have hus := rv.zero
  subst hus
  obtain ⟨z, its, n, r, hl, e⟩ := I.lstM hH
  obtain ⟨u, hu, ru⟩ := r.get hy
  have hy' : its.toArray[its.toArray.size - 1]? = some u := by
    show its.toArray[its.length - 1]? = some u
    rw [← Array.getElem?_toList, ← hl]
    exact hu
  refine call_meets F.slot_list_pop ⟨_, e, rfl⟩ F.entry_list_pop (F.args_list_pop_1 _) (MeetsSeq.list_pop_last l its.toArray n u hy' (by rw [List.size_toArray]; omega)) ⟨e, ?_⟩
  refine ⟨y, _, I.lset (its' := its.dropLast) hH e ?_ r.dropLast ?_, ru, q⟩
  · show its.toArray.eraseIdxIfInBounds (its.toArray.size - 1) = its.dropLast.toArray
    rw [List.size_toArray, List.eraseIdxIfInBounds_toArray, qht]
  · rw [List.length_dropLast]
    omega
noncomputable def qgK : V → List V → Hp → VK → Prop := fun x vs H Q => ∃ l xs, x = .ref l ∧ vs = [] ∧ H l = some (.lst xs) ∧ Q .non (upd H l (.lst xs.reverse))
theorem qhu : MtM X "list.reverse" qgK := by
  intro pins s σ H x vs v us Q I rx rv h
  obtain ⟨l, xs, rfl, rfl, hH, q⟩ := h
  cases rx
  have hus := rv.zero
  subst hus
  obtain ⟨z, its, n, r, hl, e⟩ := I.lstM hH
  refine call_meets F.slot_list_reverse ⟨_, e, rfl⟩ F.entry_list_reverse (F.args_list_reverse_1 _) (AutoSeq1.list_reverse_list_0 l its.toArray n (by rw [List.size_toArray]; omega)) ⟨e, ?_⟩
  refine ⟨.non, _, I.lset (its' := its.reverse) hH e (by simp) r.reverse ?_, rfl, q⟩
  rw [List.length_reverse]
  omega
noncomputable def qnS : R2 := fun x y H Q => ∃ l b xs zs, x = .ref l ∧ y = .ref b ∧ H l = some (.lst xs) ∧ H b = some (.lst zs) ∧ xs.length + zs.length ≤ sizeLine ∧ ∀ p, H p = none → Q (.ref p) (upd H p (.lst (xs ++ zs)))
theorem qmJ : OpR X (binaryOp .Add) qnS := by
  intro pins s σ H x y v u Q I rx ry h
  obtain ⟨l, b, xs, zs, rfl, rfl, hH, hB, hz, q⟩ := h
  cases rx
  cases ry
  obtain ⟨z, its, n, r, hl, e⟩ := I.lstM hH
  obtain ⟨z2, its2, n2, r2, hl2, e2⟩ := I.lstM hB
  refine PySem.P.add_list e e2 ?_ (by rw [List.size_toArray, List.size_toArray]; omega)
  have ea : its.toArray ++ its2.toArray = (its ++ its2).toArray := by simp
  rw [ea]
  exact ⟨.ref _, _, I.lnew (t' := s.toks) (r.append r2) (by rw [List.length_append]; omega), rfl, q _ I.fresh⟩
noncomputable def qoJ : R2 := fun x y H Q => ∃ l k xs, x = .ref l ∧ y = .int k ∧ H l = some (.lst xs) ∧ -(2 ^ 63) ≤ k ∧ k < 2 ^ 63 ∧ xs.length * k.toNat ≤ sizeLine ∧
  ∀ p, H p = none → Q (.ref p) (upd H p (.lst (List.replicate k.toNat xs).flatten))
end
section
variable {prog : Program} {w : World} {A : Around} {E : Value → Shared → Prop} {s : Shared}
end
section
variable {X : Cx}
end
end L2
namespace Att
open PySem PySem.W PySem.Calls PyProof.Rows
theorem qd1 {P : Params} {h : Heap} : ∀ (ns : List Int) (vs : List Value), WellAll P h vs (ns.map WData.int) → IntsAre vs ns := by
  intro ns
  induction ns with
  | nil =>
    intro vs w
    rw [List.map_nil] at w
    cases w
    exact .nil
  | cons n ns ih =>
    intro vs w
    rw [List.map_cons] at w
    cases w with
    | cons a b =>
      cases a
      exact .cons _ _ (ih _ b)
theorem qim {l : OpenLaw} {n : Nat} (hn : l.most = some n) {P : Params} {h : Heap} {args : List WData} {vals : List Value}
    (hpre : l.row.toRowW.claim.pre args = true) (hwl : WellAll P h vals args) :
    ∃ a vs ns, vals = [Value.ref a] ∧ args = [WData.list (ns.map WData.int)] ∧ h.get? a = some { cls := .type "list", data := .seq vs.toArray } ∧ IntsAre vs ns ∧ ns.length ≤ n := by
  have hsh : WShape.hasAll [] args [.list .int] = true := (pre_splitW hpre).1
  have hc : l.pre.holds [] { args := args } = true := (pre_splitW hpre).2
  obtain ⟨d, r, rfl, h1, h2⟩ := hasAllW_cons hsh
  obtain rfl := hasAllW_nil h2
  obtain ⟨xs, rfl, h3⟩ := hasW_list h1
  obtain ⟨ns, rfl⟩ := items_int h3
  have hlen : ns.length ≤ n := by
    unfold OpenLaw.pre at hc
    have h4 : (WTm.not (.lt (.lit (.int (n : Int))) (.len (.arg 0)))).holds [] { args := [.list (ns.map .int)] } = true := by
      have h4 := (holds_andW hc).1
      rw [hn] at h4
      exact h4
    have h5 := condW_of h4 (w_not (w_lt w_lit (w_len_list (w_arg rfl))))
    rw [List.length_map] at h5
    refine Nat.le_of_not_lt fun q => ?_
    have q' : (n : Int) < ((ns.length : Nat) : Int) := by omega
    first
      | (rw [decide_eq_true q'] at h5; exact absurd h5 (by decide))
      | (simp at h5; omega)
  cases hwl with
  | cons w1 w2 =>
    cases w2
    cases w1 with
    | list ho hall => exact ⟨_, _, ns, rfl, rfl, ho, qd1 ns _ hall, hlen⟩
theorem qin (l : OpenLaw) (args : List WData) : l.row.toRowW.claim.post args (.bool true) args = true :=
  postW_of (r := l.row.toRowW) (X := (true == true))
    (show WShape.has [] (.bool true) .bool = true by first | rfl | decide | simp [WShape.has, WShape.arms, WShape.armsAll])
    (show (WTm.eq .res (.lit (.bool true))).value [] { args := args, res := some (.bool true), after := args } = some (.bool (true == true)) from w_eq_bool (w_res rfl) w_lit) rfl
theorem attach_call {l : OpenLaw} {n : Nat} {q : Program} {loose : List Str} {XP : (Str → Option Value) → Heap → Prop} {YP : World → Heap → Prop} {d : DefRec}
    (hn : l.most = some n) (hdf : d.params.defaults = [])
    (call : ∀ (w : World) (s₀ s₁ : Shared) (mg mb : Str → Option Value) (fa : Addr) (o : Obj) (pm cd doc : Value) (a : Addr) (vs : List Value) (ns : List Int),
      Ground q loose [] XP w s₀ mg mb s₁.heap → YP w s₁.heap →
      s₁.heap.get? fa = some o → o.data = .func (docDef d.name d.params d.body d.scope pm cd doc) → s₁.heap.CodeRec cd d.name → mg d.name = some (.ref fa) →
      s₁.heap.get? a = some { cls := .type "list", data := .seq vs.toArray } → IntsAre vs ns → ns.length ≤ n → s₁.gens = #[] →
      codeAny (model l.prog w) callerA (.call (.ref fa) ⟨[.ref a], []⟩) (fun r s' => r = .ok (.ret (.bool true)) ∧ OldK s₁.heap s'.heap ∧ s'.os = s₁.os ∧ AllBare s'.gens) s₁) :
    WalkO q loose XP YP l.row.toRowW d [] (fun f vs => PySem.call f vs) := by
  intro w s₀ s₁ mg mb G Y fa o pm cd doc dV kV ho hd hcd hD hmg hg args vals as hpre hlay hrd hwl hlo
  obtain rfl : dV = .none := Dflts.none hD hdf
  obtain rfl : kV = .none := Dflts.noKw hD
  obtain ⟨a, vs, ns, rfl, rfl, hobj, hints, hlen⟩ := qim hn hpre hwl
  refine enter_call (codeAny_mono (call w s₀ s₁ mg mb fa o pm cd doc a vs ns G Y ho (fd_plain hd) hcd hmg hobj hints hlen hg) fun r s' hq => ?_)
  obtain ⟨rfl, h2, h3, h4⟩ := hq
  exact ⟨.inl ⟨.bool true, .bool true, [], rfl, fun _ => rfl, .bool true, qin l _, fun _ => ⟨List.Pairwise.nil, fun _ hm => (nomatch hm)⟩⟩, h2, h3, h4⟩
section
variable {prog : Program} {w : World} {A : Around} {E : Value → Shared → Prop} {s : Shared} {K : Frag}
noncomputable def noObjs (h : Heap) : Heap := { h with objs := #[] }
theorem noObjs_get (h : Heap) (b : Addr) : (noObjs h).get? b = none := by
  cases e : (noObjs h).get? b with
  | none => rfl
  | some o => exact absurd (Heap.lt_size e) (Nat.not_lt_zero _)
noncomputable def ledger (h : Heap) (L d : Addr) : List (Addr × Obj) := (List.range h.objs.size).filterMap fun a => if a = L ∨ a = d then none else (h.get? a).map fun o => (a, o)
theorem mem_ledger {h : Heap} {L d a : Addr} {o : Obj} : (a, o) ∈ ledger h L d ↔ a ≠ L ∧ a ≠ d ∧ h.get? a = some o := by
  unfold ledger
  rw [List.mem_filterMap]
  constructor
  · rintro ⟨b, _, e⟩
    split at e
    · cases e
    · rename_i hb
      obtain ⟨o', ho, e'⟩ := Option.map_eq_some_iff.mp e
      cases e'
      exact ⟨fun q => hb (.inl q), fun q => hb (.inr q), ho⟩
  · rintro ⟨n1, n2, ho⟩
    refine ⟨a, List.mem_range.mpr (Heap.lt_size ho), ?_⟩
    rw [if_neg (show ¬ (a = L ∨ a = d) from fun q => q.elim n1 n2), ho] <;> rfl
theorem fr_all {h : Heap} {L : Addr} {m : Str → Option Value} (n : h.Ns L m) : Fr (noObjs h) L h m :=
  ⟨n, fun b o e => (by rw [noObjs_get] at e; cases e), Nat.zero_le _⟩
end
end Att
namespace L2
open PySem PySem.Spec PyProof.Rows
theorem qfI : ∀ {vs : List Value} {ns : List Int}, IntsAre vs ns → Vals (ns.map V.int) vs
  | _, _, .nil => .nil
  | _, _, .cons n t h => .cons ⟨t, rfl⟩ (qfI h)
end L2
namespace L2
open PySem PySem.Spec PyProof.Rows
end L2
namespace L2
open PySem PySem.Spec PyProof.Rows
noncomputable def qaY (s : Stmt) : Arguments := match s with
  | .FunctionDef _ a _ _ _ _ _ _ _ _ => a
  | _ => { posonlyargs := [], args := [], vararg := none, kwonlyargs := [], kw_defaults := [], kwarg := none, defaults := [] }
noncomputable def qaL (s : Stmt) : List Stmt := match s with
  | .FunctionDef _ _ b _ _ _ _ _ _ _ => b
  | _ => []
noncomputable def qat (s : Stmt) : Scope := match s with
  | .FunctionDef _ _ _ _ _ _ sc _ _ _ => sc
  | _ => { kind := .function, names := [], isGenerator := false, isCoroutine := false }
noncomputable abbrev CX0 : CXT := fun _ _ _ _ _ _ => False
noncomputable abbrev E0 : XK := fun _ _ _ => False
theorem qmK {X : Cx} : Passes CX0 X E0 := fun _ _ _ _ _ _ _ h => h.elim
structure Fun (K : PySem.W.Frag) (x qual : Str) (st : Stmt) (f : Addr) (fd : FuncData) : Prop where
  ex : ∃ (oc : Value) (od : Option Addr) (kV doc pm : Value) (an : Option Addr) (cdv ct : Value) (osl : Array (Option Value)),
    fd = PySem.W.fnOf x qual (qaY st) (qaL st) (qat st) .none kV doc pm an cdv ct ∧ K.lookup f = some ⟨oc, od, .func fd, osl⟩ ∧ PySem.W.codeIn K cdv qual = true
  kp : PySem.W.keepIn K (.ref f) = true
section
variable {P : Program} {w : World} {K : PySem.W.Frag} {mg : Str → Option Value} {base : Heap}
theorem Fun.ok {x qual : Str} {st : Stmt} {f : Addr} {fd : FuncData} {N ps : List Str} {k : Nat} {sp : Sp} (F : Fun K x qual st f fd) (S : FnScope N ps (qat st)) (len : ∀ vs H Q E, sp vs H Q E → vs.length = ps.length)
    (hbody : ∀ (cdv : Value) (A : Around) (outer : List Env) (s : Shared) (H : Hp) (vs : List V) (Q : VK) (E : XK), Room k (A.deeper (envOfC qual (qat st) s.heap.objs.size f cdv)) → sp vs H Q E →
      ∃ t, PSs (qjT CX0 P w K mg base N qual (qat st) f cdv A outer s H E).nox (qaL st) t ∧ t { nx := fun _ H' => Q .non H', rt := Q } (start N vs) H) : FnOk P w K mg base CX0 (k + 1) f fd ps sp := by
  obtain ⟨oc, od, kV, doc, pm, an, cdv, ct, osl, rfl, lk, hcd⟩ := F.ex
  refine qmF lk hcd S len fun A outer s H vs Q E hr hsp => ?_
  obtain ⟨t, h, q⟩ := hbody cdv A outer s H vs Q E hr hsp
  exact ⟨t, h.nox, q⟩
theorem Fun.binds {x qual : Str} {st : Stmt} {f : Addr} {fd : FuncData} {ps : List Str} (F : Fun K x qual st f fd)
    (h : ∀ (kV doc pm : Value) (an : Option Addr) (cdv ct : Value) (us : List Value), us.length = ps.length → bindArgs (PySem.W.fnOf x qual (qaY st) (qaL st) (qat st) .none kV doc pm an cdv ct) ⟨us, []⟩ = pure (ps.zip us)) : Binds K fd ps [] := by
  obtain ⟨oc, od, kV, doc, pm, an, cdv, ct, osl, rfl, lk, hcd⟩ := F.ex
  exact .all (h kV doc pm an cdv ct)
theorem qmL {x qual : Str} {st : Stmt} {f : Addr} {oc : Value} {od an : Option Addr} {osl : Array (Option Value)} {kV doc pm cdv ct : Value} (l : K.lookup f = some ⟨oc, od, .func (PySem.W.fnOf x qual (qaY st) (qaL st) (qat st) .none kV doc pm an cdv ct), osl⟩)
    (c : PySem.W.codeIn K cdv qual = true) (k : PySem.W.keepIn K (.ref f) = true) : Fun K x qual st f (PySem.W.fnOf x qual (qaY st) (qaL st) (qat st) .none kV doc pm an cdv ct) := ⟨⟨oc, od, kV, doc, pm, an, cdv, ct, osl, rfl, l, c⟩, k⟩
end
section
variable {X : Cx}
theorem pv (i : Nat) {x : Str} {pos : Pos} (hN : X.N[i]? = some x := by rfl) (hv : Vis X.env.scope x := by first | exact Or.inl rfl | exact Or.inr (Or.inl rfl) | exact Or.inr (Or.inr rfl)) (hd : (x == ("__debug__" : Str)) = false := by decide)
    (hcd : (x == ("__classdict__" : Str)) = false := by decide) : PE X (.Name x pos) (qai i) := qmy hN hv hd hcd
end
theorem qcn {c A B : Prop} [Decidable c] (h1 : c → A) (h2 : ¬ c → B) : if c then A else B := by
  by_cases h : c
  · rw [if_pos h]
    exact h1 h
  · rw [if_neg h]
    exact h2 h
noncomputable def Same (H H' : Hp) : Prop := ∀ b o, H b = some o → H' b = some o
theorem Same.refl (H : Hp) : Same H H := fun _ _ h => h
theorem Same.trans {H H1 H2 : Hp} (a : Same H H1) (b : Same H1 H2) : Same H H2 := fun c o h => b c o (a c o h)
theorem Same.free {H H' : Hp} (e : Same H H') {l : Addr} (h : H' l = Option.none) : H l = Option.none := by
  cases q : H l with
  | none => rfl
  | some o =>
    rw [e l o q] at h
    cases h
theorem Same.seq {K : PySem.W.Frag} {H H' : Hp} {a : Addr} {xs : List V} (e : Same H H') (h : SqL K H a xs) : SqL K H' a xs := by
  rcases h with (h | ⟨o, h⟩) | h
  · exact .inl (.inl (e _ _ h))
  · exact .inl (.inr ⟨o, e _ _ h⟩)
  · exact .inr h
end L2
local macro_rules | `(tactic| omega) => `(tactic| lia)
namespace Bs.Hd
open PySem PySem.Spec PyProof.Rows L2
set_option maxRecDepth 100000
set_option maxHeartbeats 4000000
noncomputable def top (i:Nat):Stmt:=PySem.Challenge.pw_backslope_k73_held.main.body.getD i (.Pass ⟨0,0,0,0⟩)
noncomputable abbrev qdC:Stmt:=top 1
noncomputable abbrev qlt:Stmt:=top 3
noncomputable abbrev qmM:Stmt:=top 4
noncomputable abbrev qlu:Stmt:=top 5
noncomputable abbrev qlv:Stmt:=top 6
noncomputable abbrev qjX:Stmt:=top 7
noncomputable abbrev qaC:Stmt:=top 10
noncomputable abbrev qdD:Stmt:=top 11
noncomputable abbrev qd2:Stmt:=top 12
noncomputable abbrev qmN:Stmt:=top 13
noncomputable abbrev qio:Stmt:=top 14
noncomputable abbrev qhv:Stmt:=top 15
noncomputable abbrev qe2:Stmt:=top 16
noncomputable abbrev qmO:Stmt:=top 18
noncomputable abbrev qjY:Stmt:=top 19
noncomputable abbrev qhw:Stmt:=top 20
noncomputable abbrev qjZ:Stmt:=top 21
noncomputable abbrev qip:Stmt:=top 22
noncomputable abbrev qe3:Stmt:=top 23
noncomputable abbrev qe4:Stmt:=top 24
noncomputable abbrev qhx:Stmt:=top 25
noncomputable abbrev qhy:Stmt:=top 26
noncomputable abbrev qge:Stmt:=top 27
noncomputable abbrev qn3:Stmt:=top 31
noncomputable abbrev qj0:Stmt:=top 32
noncomputable abbrev qgf:Stmt:=top 33
noncomputable abbrev qe5:Stmt:=top 34
noncomputable abbrev qj1:Stmt:=top 35
noncomputable abbrev qiq:Stmt:=top 36
noncomputable abbrev qir:Stmt:=top 37
noncomputable abbrev N:Value:=.none
noncomputable abbrev S (x:Str) (t:Tok):Value:=.str x t
noncomputable abbrev I (i:Int):Value:=.int i 0
noncomputable abbrev R (a:Addr):Value:=.ref a
noncomputable def en (P:Params) (k:Str) (t:Tok) (v:Value):DictEntry:=⟨PyData.keyHash P k,.str k t,v⟩
noncomputable def cdO (n:Str) (t:Tok) (l c u:Int) (a:Addr) (b g d e f:Value) (x:Int) (y:Tok):Obj:=⟨.type "code", none,.fields #[S n t,S n (t+1),S "/claim/cut.py" (t+2),I l,I c,I 0,I 0,I u,R a,.bool true,I 181,b,g,d,e,f,I x,I l,S "/claim/cut.py" y],#[]⟩
noncomputable def fnO (n:Str) (s:Stmt) (pm:Value) (c:Addr):Obj:=⟨.type "function", none,.func (PySem.W.fnOf n n (qaY s) (qaL s) (qat s) .none .none .none pm none (.ref c) .none),#[]⟩
noncomputable abbrev mo0:Value:=S "backslope.wholes" 187
noncomputable abbrev mo1:Value:=S "backslope.numbers" 198
noncomputable abbrev mo2:Value:=S "backslope.lognumbers" 241
noncomputable abbrev mo3:Value:=S "law_backslope_k73_held" 308
noncomputable def hp (P:Params):W.Frag:=[
  (3,⟨.type "dict", none,.dict #[en P "__name__" 165 (S "law_backslope_k73_held" 308),en P "__doc__" 166 N,en P "__package__" 167 N,en P "__loader__" 168 (.builtin "__main__.__loader__#opaque"),en P "__spec__" 169 N,en P "__annotations__" 170 (R 6),en P "__builtins__" 171 (R 4),en P "__file__" 173 (S "/claim/cut.py" 172),en P "__cached__" 174 N,en P "common_divisor" 197 (R 21),en P "ratio" 208 (R 28),en P "plus" 216 (R 35),en P "minus" 224 (R 42),en P "times" 232 (R 49),en P "before" 240 (R 56),en P "FIRST_BITS" 244 (.int 64 243),en P "settled_number" 250 (R 61),en P "without_common" 256 (R 66),en P "pieces_of_two" 265 (R 73),en P "held" 276 (R 80),en P "ends_of" 282 (R 85),en P "log_ends" 294 (R 92),en P "series_ends" 307 (R 99),en P "_law_at" 317 (R 106),en P "_law_draw" 327 (R 113),en P "_law_number" 337 (R 120),en P "_law_plus" 345 (R 127),en P "_law_times" 353 (R 134),en P "_law_not_above" 361 (R 141),en P "_law_is_number" 369 (R 148),en P "_law_primes" 375 (R 155),en P "_law_smooth" 389 (R 162),en P "_law_weights" 402 (R 169),en P "_law_powers" 412 (R 176),en P "_law_no_common" 424 (R 183),en P "_law_is_settled" 437 (R 190),en P "_law_c" 445 (R 197),en P "_law_rows" 458 (R 204),en P "_law_log_two" 469 (R 211),en P "_law_prime_log" 482 (R 218),en P "_law_span" 488 (R 223),en P "_law_width" 497 (R 230),en P "law" 503 (R 235)] 43,#[]⟩),
  (20,cdO "common_divisor" 189 2 2 3 15 (R 16) N (R 17) (R 18) (R 19) 195 196),
  (21,fnO "common_divisor" (top 1) mo0 20),
  (27,cdO "ratio" 200 9 2 3 22 (R 23) N (R 24) (R 25) (R 26) 206 207),
  (28,fnO "ratio" (top 3) mo1 27),
  (34,cdO "plus" 209 14 2 3 29 (R 30) N (R 31) (R 32) (R 33) 214 215),
  (35,fnO "plus" (top 4) mo1 34),
  (41,cdO "minus" 217 16 2 3 36 (R 37) N (R 38) (R 39) (R 40) 222 223),
  (42,fnO "minus" (top 5) mo1 41),
  (48,cdO "times" 225 18 2 3 43 (R 44) N (R 45) (R 46) (R 47) 230 231),
  (49,fnO "times" (top 6) mo1 48),
  (55,cdO "before" 233 20 2 3 50 (R 51) N (R 52) (R 53) (R 54) 238 239),
  (56,fnO "before" (top 7) mo1 55),
  (60,cdO "settled_number" 245 24 2 3 57 (R 58) N N N (R 59) 248 249),
  (61,fnO "settled_number" (top 10) mo2 60),
  (65,cdO "without_common" 251 28 1 3 62 (R 63) N N N (R 64) 254 255),
  (66,fnO "without_common" (top 11) mo2 65),
  (72,cdO "pieces_of_two" 257 41 2 3 67 (R 68) N (R 69) (R 70) (R 71) 263 264),
  (73,fnO "pieces_of_two" (top 12) mo2 72),
  (79,cdO "held" 266 44 2 3 74 (R 75) N (R 76) (R 77) (R 78) 274 275),
  (80,fnO "held" (top 13) mo2 79),
  (84,cdO "ends_of" 277 52 2 3 81 (R 82) N N N (R 83) 280 281),
  (85,fnO "ends_of" (top 14) mo2 84),
  (91,cdO "log_ends" 283 62 2 3 86 (R 87) N (R 88) (R 89) (R 90) 292 293),
  (92,fnO "log_ends" (top 15) mo2 91),
  (98,cdO "series_ends" 295 68 3 3 93 (R 94) N (R 95) (R 96) (R 97) 305 306),
  (99,fnO "series_ends" (top 16) mo2 98),
  (105,cdO "_law_at" 310 79 2 3 100 (R 101) N (R 102) (R 103) (R 104) 315 316),
  (106,fnO "_law_at" (top 18) mo3 105),
  (112,cdO "_law_draw" 318 83 3 3 107 (R 108) N (R 109) (R 110) (R 111) 325 326),
  (113,fnO "_law_draw" (top 19) mo3 112),
  (119,cdO "_law_number" 328 88 2 3 114 (R 115) N (R 116) (R 117) (R 118) 335 336),
  (120,fnO "_law_number" (top 20) mo3 119),
  (126,cdO "_law_plus" 338 95 2 3 121 (R 122) N (R 123) (R 124) (R 125) 343 344),
  (127,fnO "_law_plus" (top 21) mo3 126),
  (133,cdO "_law_times" 346 97 2 3 128 (R 129) N (R 130) (R 131) (R 132) 351 352),
  (134,fnO "_law_times" (top 22) mo3 133),
  (140,cdO "_law_not_above" 354 99 2 3 135 (R 136) N (R 137) (R 138) (R 139) 359 360),
  (141,fnO "_law_not_above" (top 23) mo3 140),
  (147,cdO "_law_is_number" 362 101 1 3 142 (R 143) N (R 144) (R 145) (R 146) 367 368),
  (148,fnO "_law_is_number" (top 24) mo3 147),
  (154,cdO "_law_primes" 370 108 0 3 149 (R 150) N (R 151) (R 152) (R 153) 373 374),
  (155,fnO "_law_primes" (top 25) mo3 154),
  (161,cdO "_law_smooth" 376 110 1 3 156 (R 157) N (R 158) (R 159) (R 160) 387 388),
  (162,fnO "_law_smooth" (top 26) mo3 161),
  (168,cdO "_law_weights" 390 123 2 3 163 (R 164) N (R 165) (R 166) (R 167) 400 401),
  (169,fnO "_law_weights" (top 27) mo3 168),
  (196,cdO "_law_c" 438 171 2 3 191 (R 192) N (R 193) (R 194) (R 195) 443 444),
  (197,fnO "_law_c" (top 31) mo3 196),
  (203,cdO "_law_rows" 446 173 1 3 198 (R 199) N (R 200) (R 201) (R 202) 456 457),
  (204,fnO "_law_rows" (top 32) mo3 203),
  (210,cdO "_law_log_two" 459 185 2 3 205 (R 206) N (R 207) (R 208) (R 209) 467 468),
  (211,fnO "_law_log_two" (top 33) mo3 210),
  (217,cdO "_law_prime_log" 470 194 2 3 212 (R 213) N (R 214) (R 215) (R 216) 480 481),
  (218,fnO "_law_prime_log" (top 34) mo3 217),
  (222,cdO "_law_span" 483 203 3 3 219 (R 220) N N N (R 221) 486 487),
  (223,fnO "_law_span" (top 35) mo3 222),
  (229,cdO "_law_width" 489 213 1 3 224 (R 225) N (R 226) (R 227) (R 228) 495 496),
  (230,fnO "_law_width" (top 36) mo3 229),
  (234,cdO "law" 498 218 1 3 231 (R 232) N N N (R 233) 501 502),
  (235,fnO "law" (top 37) mo3 234),
  (4,⟨.type "module", some builtinsNs,.plain,#[]⟩)]
noncomputable def as:List Addr:=[3,20,21,27,28,34,35,41,42,48,49,55,56,60,61,65,66,72,73,79,80,84,85,91,92,98,99,105,106,112,113,119,120,126,127,133,134,140,141,147,148,154,155,161,162,168,169,196,197,203,204,210,211,217,218,222,223,229,230,234,235,4]
noncomputable def vw:Program:=PySem.W.view PySem.Challenge.pw_backslope_k73_held [1,3,4,5,6,7,9,10,11,12,13,14,15,16,18,19,20,21,22,23,24,25,26,27,28,29,30,31,32,33,34,35,36,37]
noncomputable def hk:PySem.W.Hook:=PySem.W.kmHook hp as (fun _=>by kernel_rfl) [58]
theorem left:PySem.W.LeftO PySem.Challenge.pw_backslope_k73_held vw [] (fun s=>PySem.W.xlAt vw [] s && PySem.W.recOk (PySem.W.RowW.records (PySem.W.OpenRow.toRowW (PySem.W.OpenLaw.row PySem.Challenge.rw_backslope_k73_held))) s) hk.obs hk.val 2262:=fun w=>by kernel_rfl
end Bs.Hd
namespace Bs
noncomputable def Bd (n:Nat) (x:Int):Prop:=x.natAbs<2 ^ n
theorem Bd.mono {m n:Nat} {x:Int} (h:Bd m x) (hn:m≤n):Bd n x:=Nat.lt_of_lt_of_le h (Nat.pow_le_pow_right (by decide) hn)
theorem Bd.le {n:Nat} {x y:Int} (h:Bd n x) (hy:y.natAbs≤x.natAbs):Bd n y:=Nat.lt_of_le_of_lt hy h
theorem Bd.neg {n:Nat} {x:Int} (h:Bd n x):Bd n (-x):=by unfold Bd at *;rw [Int.natAbs_neg];exact h
theorem Bd.add {n:Nat} {x y:Int} (h:Bd n x) (h':Bd n y):Bd (n+1) (x+y):=by
  unfold Bd at *
  have:=Int.natAbs_add_le x y
  rw [Nat.pow_succ]
  omega
theorem Bd.sub {n:Nat} {x y:Int} (h:Bd n x) (h':Bd n y):Bd (n+1) (x - y):=by
  rw [Int.sub_eq_add_neg];exact h.add h'.neg
theorem Bd.mul {m n:Nat} {x y:Int} (h:Bd m x) (h':Bd n y):Bd (m+n) (x*y):=by
  unfold Bd at *
  rw [Int.natAbs_mul,Nat.pow_add]
  exact Nat.mul_lt_mul'' h h'
theorem Bd.log2 {n:Nat} {x:Int} (h:Bd n x) (hn:0<n):x.natAbs.log2<n:=by
  unfold Bd at h
  rcases Nat.eq_zero_or_pos x.natAbs with h0 | hp
  · rw [h0];simpa using hn
  · exact (Nat.log2_lt (Nat.ne_of_gt hp)).mpr h
structure Low (t d:Int):Prop where
  pos:0<d
  one:Int.gcd t d=1
theorem qgL (a b:Int):Int.gcd b (a.fmod b)=Int.gcd a b:=by
  have e:a.fmod b=a - b*a.fdiv b:=Int.fmod_def a b
  rw [e]
  apply Nat.dvd_antisymm
  · apply Int.dvd_gcd
    · have h1:=Int.gcd_dvd_left b (a - b*a.fdiv b)
      have h2:=Int.gcd_dvd_right b (a - b*a.fdiv b)
      have h3:=Int.dvd_add h2 (Int.dvd_mul_of_dvd_left (c:=a.fdiv b) h1)
      rw [Int.sub_add_cancel] at h3
      exact h3
    · exact Int.gcd_dvd_left b _
  · apply Int.dvd_gcd
    · exact Int.gcd_dvd_right a b
    · exact Int.dvd_sub (Int.gcd_dvd_left a b) (Int.dvd_mul_of_dvd_left (Int.gcd_dvd_right a b))
theorem qj2 (a:Int) {b:Int} (h:0≤b):Int.gcd b (a % b)=Int.gcd a b:=by
  rw [← Int.fmod_eq_emod_of_nonneg a h,qgL]
theorem qis (a:Int) {b:Int} (h:b≠0):(a.fmod b).natAbs<b.natAbs:=by
  rcases Int.lt_or_gt_of_ne h with hb | hb
  · rw [Int.fmod_eq_emod]
    have h1:=Int.emod_nonneg a h
    have h2:=Int.emod_lt a h
    split
    · rename_i h'
      rcases h' with h' | h'
      · omega
      · have:a % b=0:=Int.emod_eq_zero_of_dvd h'
        omega
    · rename_i h'
      have:a % b≠0:=fun z=>h' (.inr (Int.dvd_of_emod_eq_zero z))
      omega
  · rw [Int.fmod_eq_emod_of_nonneg a (Int.le_of_lt hb)]
    have h1:=Int.emod_nonneg a h
    have h2:=Int.emod_lt_of_pos a hb
    omega
theorem qco {a b s:Int} (hb:b≠0) (hs:s=if b<0 then -((Int.gcd a b:Nat):Int) else ((Int.gcd a b:Nat):Int)) :
    s≠0∧s.natAbs≤b.natAbs∧Low (a.fdiv s) (b.fdiv s)∧a.fdiv s*b=a*b.fdiv s∧(a.fdiv s).natAbs≤a.natAbs∧(b.fdiv s).natAbs≤b.natAbs:=by
  have g0:0<Int.gcd a b:=Int.gcd_pos_of_ne_zero_right a hb
  have sn:s.natAbs=Int.gcd a b:=by rw [hs];split <;> simp
  have s0:s≠0:=by intro z;rw [z] at sn;simp at sn;omega
  have da:s∣a:=by
    rw [← Int.natAbs_dvd,sn];exact Int.gcd_dvd_left a b
  have db:s∣b:=by
    rw [← Int.natAbs_dvd,sn];exact Int.gcd_dvd_right a b
  obtain ⟨t,rfl⟩:=da
  obtain ⟨d,rfl⟩:=db
  rw [Int.mul_fdiv_cancel_left _ s0,Int.mul_fdiv_cancel_left _ s0]
  have d0:d≠0:=by rintro rfl;simp at hb
  have sp:1≤s.natAbs:=by omega
  have gd:Int.gcd t d=1:=by
    rw [Int.gcd_mul_left] at sn
    have h2:s.natAbs*Int.gcd t d=s.natAbs*1:=by omega
    exact Nat.eq_of_mul_eq_mul_left sp h2
  have dp:0<d:=by
    by_cases h:s*d<0
    · rw [if_pos h] at hs
      have sneg:s<0:=by omega
      rcases Int.lt_or_gt_of_ne d0 with h' | h'
      · have:=Int.mul_pos_of_neg_of_neg sneg h';omega
      · exact h'
    · rw [if_neg h] at hs
      have spos:0<s:=by omega
      rcases Int.lt_or_gt_of_ne d0 with h' | h'
      · have:=Int.mul_neg_of_pos_of_neg spos h';omega
      · exact h'
  have le1:∀ y:Int,y.natAbs≤(s*y).natAbs:=fun y=>by
    rw [Int.natAbs_mul];exact Nat.le_mul_of_pos_left _ sp
  refine ⟨s0,?_,⟨dp,gd⟩,?_,le1 t,le1 d⟩
  · rw [Int.natAbs_mul];exact Nat.le_mul_of_pos_right _ (by omega)
  · grind
theorem qgg {a b:Int} (hb:0<b):Low (a / ((Int.gcd a b:Nat):Int)) (b / ((Int.gcd a b:Nat):Int))∧(a / ((Int.gcd a b:Nat):Int)).natAbs≤a.natAbs∧(b / ((Int.gcd a b:Nat):Int)).natAbs≤b.natAbs∧0<((Int.gcd a b:Nat):Int)∧((Int.gcd a b:Nat):Int)≤b:=by
  have g0:0<Int.gcd a b:=Int.gcd_pos_of_ne_zero_right a (by omega)
  obtain ⟨_,h1,h2,h3,h4,h5⟩:=qco (a:=a) (b:=b) (s:=((Int.gcd a b:Nat):Int)) (by omega) (by rw [if_neg (by omega)])
  rw [Int.fdiv_eq_ediv_of_nonneg _ (by omega),Int.fdiv_eq_ediv_of_nonneg _ (by omega)] at h2
  rw [Int.fdiv_eq_ediv_of_nonneg _ (by omega)] at h4 h5
  exact ⟨h2,h4,h5,by omega,by omega⟩
end Bs
namespace Bs
open PySem L2
noncomputable def qoK (_ j:Int):Prop:=0<j∧Bd 9000 j
noncomputable def qoL (_ j:Int):Prop:=j≠0∧Bd 9000 j
noncomputable def qn4 (i j:Int):Prop:=0≤j∧j≤1000000∧i.natAbs<2 ^ 64
noncomputable abbrev qdE:R2:=rI0 fun i j=>.int (i+j)
noncomputable abbrev qmn:R2:=rI0 fun i j=>.int (i - j)
noncomputable abbrev qbi:R2:=rI IntMulOk fun i j=>.int (i*j)
noncomputable abbrev qlw:R2:=rI qoK fun i j=>.int (i / j)
noncomputable abbrev qn5:R2:=rI qoL fun i j=>.int (i.fdiv j)
noncomputable abbrev qj3:R2:=rI (fun _ j=>0<j) fun i j=>.int (i % j)
noncomputable abbrev qmP:R2:=rI (fun _ j=>j≠0) fun i j=>.int (i.fmod j)
noncomputable abbrev qmo:R2:=rI qn4 fun i j=>.int (i ^ j.toNat)
noncomputable abbrev iLt:R2:=rI0 fun i j=>.bl (decide (i<j))
noncomputable abbrev iLe:R2:=rI0 fun i j=>.bl (decide (i≤j))
noncomputable abbrev iGt:R2:=rI0 fun i j=>.bl (decide (j<i))
noncomputable abbrev iGe:R2:=rI0 fun i j=>.bl (decide (j≤i))
noncomputable abbrev qj4:V→Hp→VK→Prop:=rU fun i=>.int (-i)
noncomputable def gT:R2:=fun x y H Q=>∃ p i xs v,x=.ref p∧y=.int i∧H p=some (.tup xs)∧atI xs i=some v∧Q v H
noncomputable def gL:R2:=fun x y H Q=>∃ p i xs v,x=.ref p∧y=.int i∧H p=some (.lst xs)∧atI xs i=some v∧Q v H
noncomputable def gS (K:W.Frag):R2:=fun x y H Q=>∃ p i xs v,x=.ref p∧y=.int i∧SqL K H p xs∧atI xs i=some v∧Q v H
noncomputable def qmp:List V→Hp→VK→Prop:=fun xs H Q=>∃ i,xs=[.int i]∧Q (.int (if i<0 then -i else i)) H
noncomputable def qoM:List V→Hp→VK→Prop:=fun xs H Q=>∃ i j,xs=[.int i,.int j]∧Q (.int (if j > i then j else i)) H
noncomputable def qoN:List V→Hp→VK→Prop:=fun xs H Q=>∃ i j,xs=[.int i,.int j]∧Q (.int (if j<i then j else i)) H
noncomputable def qn6:List V→Hp→VK→Prop:=fun xs H Q=>∃ k,xs=[.bl k]∧Q (.int (if k=true then 1 else 0)) H
noncomputable def qj5:List V→Hp→VK→Prop:=fun xs H Q=>∃ p ys,xs=[.ref p]∧H p=some (.tup ys)∧Q (.int ys.length) H
noncomputable def qn7:List V→Hp→VK→Prop:=fun xs H Q=>∃ p ys,xs=[.ref p]∧H p=some (.lst ys)∧Q (.int ys.length) H
noncomputable def qlx (K:W.Frag):List V→Hp→VK→Prop:=fun xs H Q=>∃ p ys,xs=[.ref p]∧SqL K H p ys∧Q (.int ys.length) H
noncomputable def qmQ:Option HO→String→Option Bool
  | some (.tup _),n=>if n = "tuple" then some true else if n = "bool" ∨ n = "int" ∨ n = "list" then some false else none
  | some (.lst _),n=>if n = "list" then some true else if n = "bool" ∨ n = "int" ∨ n = "tuple" then some false else none
  | _,_=>none
noncomputable def qkR (H:Hp):V→String→Option Bool
  | .int _,n=>if n = "int" then some true else if n = "bool" ∨ n = "tuple" ∨ n = "list" then some false else none
  | .bl _,n=>if n = "int" ∨ n = "bool" then some true else if n = "tuple" ∨ n = "list" then some false else none
  | .ref p,n=>qmQ (H p) n
  | _,_=>none
noncomputable def qmq:List V→Hp→VK→Prop:=fun xs H Q=>∃ x n b,xs=[x,.ty n]∧qkR H x n=some b∧Q (.bl b) H
theorem qly (H:Hp) (i:Int):qkR H (.int i) "int" = some true:=rfl
theorem qfJ (H:Hp) (i:Int):qkR H (.int i) "bool" = some false:=rfl
theorem qmR (H:Hp) (b:Bool):qkR H (.bl b) "bool" = some true:=rfl
theorem qit {H:Hp} {p:Addr} {xs:List V} (h:H p=some (.tup xs)):qkR H (.ref p) "tuple" = some true:=by
  show qmQ (H p) "tuple" = _
  rw [h];rfl
noncomputable def qmS:V→Bool
  | .int _=>true
  | _=>false
noncomputable def eqJ (xs ys:List V) (j:Nat):Bool:=match xs[j]?,ys[j]? with
  | some (.int a),some (.int b)=>a == b
  | _,_=>false
theorem qd3 {xs:List V} {j:Nat} (h:xs.all qmS=true) (hj:j<xs.length):∃ a,xs[j]?=some (.int a):=by
  have m:=List.all_eq_true.mp h xs[j] (List.getElem_mem hj)
  rw [List.getElem?_eq_getElem hj]
  generalize xs[j]=v at m
  cases v with
  | int a=>exact ⟨a,rfl⟩
  | _=>exact absurd m Bool.false_ne_true
theorem qlz {xs ys:List V} (hx:xs.all qmS=true) (hy:ys.all qmS=true):((List.range (min xs.length ys.length)).all (eqJ xs ys) && xs.length == ys.length)=decide (xs=ys):=by
  rw [Bool.eq_iff_iff]
  simp only [Bool.and_eq_true,List.all_eq_true,List.mem_range,beq_iff_eq,decide_eq_true_eq]
  constructor
  · rintro ⟨h1,h2⟩
    apply List.ext_getElem?
    intro j
    by_cases hj:j<xs.length
    · obtain ⟨a,ea⟩:=qd3 hx hj
      obtain ⟨b,eb⟩:=qd3 hy (by omega:j<ys.length)
      have h:=h1 j (by omega)
      unfold eqJ at h
      rw [ea,eb] at h
      rw [ea,eb,eq_of_beq h]
    · rw [List.getElem?_eq_none (by omega),List.getElem?_eq_none (by omega)]
  · rintro rfl
    refine ⟨fun j hj=>?_,rfl⟩
    obtain ⟨a,ea⟩:=qd3 hx (by omega:j<xs.length)
    unfold eqJ
    rw [ea]
    exact beq_self_eq_true a
noncomputable def eqT:R2:=fun x y H Q=>∃ a b xs ys,x=.ref a∧y=.ref b∧H a=some (.tup xs)∧H b=some (.tup ys)∧xs.all qmS=true∧ys.all qmS=true∧Q (.bl (decide (xs=ys))) H
noncomputable def ForR (lo:Int) (n:Nat) (g:TG) (tb:TS) (D:Ends) (σ:St) (H:Hp):Prop:=∃ W:Nat→Nat→St→Hp→Prop,(∃ m,W 0 m σ H)∧∀ i m σ H,W i m σ H→
  ((Itr lo n).stop i H∧D.nx σ H)∨((Itr lo n).go i H∧∃ N:St→Hp→Prop,(∀ σ' H',N σ' H'→∃ m',m'<m∧W (i+1) m' σ' H')∧∀ x H',(Itr lo n).yld i H x H'→g x σ H' fun σ2 H2=>tb { D with nx:=N,ct:=N,bk:=D.nx } σ2 H2)
theorem qlA {ta:TA} {g:TG} {tb:TS} {D:Ends} {σ:St} {H:Hp}:qep (qhq ta) g tb D σ H=ta σ H (fun vs H1=>∃ j:Int,vs=[.int j]∧-(2 ^ 62)≤j∧j<2 ^ 62∧ForR 0 j.toNat g tb D σ H1):=rfl
theorem qlB {ta:TA} {g:TG} {tb:TS} {D:Ends} {σ:St} {H:Hp}:qep (qmC ta) g tb D σ H=ta σ H (fun vs H1=>∃ i j:Int,vs=[.int i,.int j]∧(-(2 ^ 62)≤i∧i<2 ^ 62∧-(2 ^ 62)≤j∧j<2 ^ 62)∧ForR i (j - i).toNat g tb D σ H1):=rfl
theorem ForR.by {lo:Int} {n:Nat} {g:TG} {tb:TS} {D:Ends} {σ:St} {H:Hp} (Pv:Nat→St→Hp→Prop) (h0:Pv 0 σ H)
    (hs:∀ i σ H,i<n→Pv i σ H→g (.int (lo+i)) σ H fun σ2 H2=>tb { D with nx:=Pv (i+1),ct:=Pv (i+1),bk:=D.nx } σ2 H2) (hd:∀ σ H,Pv n σ H→D.nx σ H):ForR lo n g tb D σ H:=qh8 Pv h0 hs hd
noncomputable def ForT (K:W.Frag) (a:Addr) (g:TG) (tb:TS) (D:Ends) (σ:St) (H:Hp):Prop:=∃ W:Nat→Nat→St→Hp→Prop,(∃ m,W 0 m σ H)∧∀ i m σ H,W i m σ H→
  ((Itt K a).stop i H∧D.nx σ H)∨((Itt K a).go i H∧∃ N:St→Hp→Prop,(∀ σ' H',N σ' H'→∃ m',m'<m∧W (i+1) m' σ' H')∧∀ x H',(Itt K a).yld i H x H'→g x σ H' fun σ2 H2=>tb { D with nx:=N,ct:=N,bk:=D.nx } σ2 H2)
noncomputable def ForL (K:W.Frag) (a:Addr) (g:TG) (tb:TS) (D:Ends) (σ:St) (H:Hp):Prop:=∃ W:Nat→Nat→St→Hp→Prop,(∃ m,W 0 m σ H)∧∀ i m σ H,W i m σ H→
  ((Itl K a).stop i H∧D.nx σ H)∨((Itl K a).go i H∧∃ N:St→Hp→Prop,(∀ σ' H',N σ' H'→∃ m',m'<m∧W (i+1) m' σ' H')∧∀ x H',(Itl K a).yld i H x H'→g x σ H' fun σ2 H2=>tb { D with nx:=N,ct:=N,bk:=D.nx } σ2 H2)
theorem qmT {K:W.Frag} {tl:TE} {g:TG} {tb:TS} {D:Ends} {σ:St} {H:Hp}:qep (qjL K tl) g tb D σ H=tl σ H (fun x H1=>∃ a,x=.ref a∧(∃ xs,SqT K H1 a xs)∧ForT K a g tb D σ H1):=rfl
theorem qmU {K:W.Frag} {tl:TE} {g:TG} {tb:TS} {D:Ends} {σ:St} {H:Hp}:qep (qcu K tl) g tb D σ H=tl σ H (fun x H1=>∃ a,x=.ref a∧(∃ xs,SqL K H1 a xs)∧ForL K a g tb D σ H1):=rfl
theorem ForT.by {K:W.Frag} {a:Addr} {xs:List V} {g:TG} {tb:TS} {D:Ends} {σ:St} {H:Hp} (Pv:Nat→St→Hp→Prop) (h0:Pv 0 σ H) (hl:∀ i σ H,i≤xs.length→Pv i σ H→H a=some (.tup xs))
    (hs:∀ i x σ H,xs[i]?=some x→Pv i σ H→g x σ H fun σ2 H2=>tb { D with nx:=Pv (i+1),ct:=Pv (i+1),bk:=D.nx } σ2 H2) (hd:∀ σ H,Pv xs.length σ H→D.nx σ H):ForT K a g tb D σ H:=
  qlj Pv h0 (fun i σ H h p=>SqT.of (hl i σ H h p)) hs hd
theorem ForL.by {K:W.Frag} {a:Addr} {xs:List V} {g:TG} {tb:TS} {D:Ends} {σ:St} {H:Hp} (Pv:Nat→St→Hp→Prop) (h0:Pv 0 σ H) (hl:∀ i σ H,i≤xs.length→Pv i σ H→SqL K H a xs)
    (hs:∀ i x σ H,xs[i]?=some x→Pv i σ H→g x σ H fun σ2 H2=>tb { D with nx:=Pv (i+1),ct:=Pv (i+1),bk:=D.nx } σ2 H2) (hd:∀ σ H,Pv xs.length σ H→D.nx σ H):ForL K a g tb D σ H:=
  qjN Pv h0 hl hs hd
theorem while_by {c:TT} {tb:TS} {D:Ends} {σ:St} {H:Hp} (W:Nat→St→Hp→Prop) (m:Nat) (h0:W m σ H)
    (hs:∀ m σ H,W m σ H→c σ H fun b H1=>if b=true then ∃ N:St→Hp→Prop,(∀ σ' H',N σ' H'→∃ m',m'<m∧W m' σ' H')∧tb { D with nx:=N,ct:=N,bk:=D.nx } σ H1 else D.nx σ H1):qcw c tb D σ H:=⟨W,⟨m,h0⟩,hs⟩
noncomputable def Kp (p:Addr) (H H':Hp):Prop:=∀ b o,b≠p→H b=some o→H' b=some o
theorem Kp.trans {p:Addr} {H H1 H2:Hp} (a:Kp p H H1) (b:Kp p H1 H2):Kp p H H2:=fun c o n h=>b c o n (a c o n h)
theorem Kp.same {p:Addr} {H H1 H2:Hp} (a:Kp p H H1) (b:Same H1 H2):Kp p H H2:=fun c o n h=>b c o (a c o n h)
theorem Kp.upd {p:Addr} {H:Hp} {o:HO}:Kp p H (upd H p o):=fun b u n h=>by rw [qak n];exact h
theorem qaf {H:Hp} {p:Addr} (h:H p=none) (o:HO):Same H (upd H p o):=fun b u q=>by rw [qak (qam q h)];exact q
theorem Kp.new {p:Addr} {H H1:Hp} (a:Kp p H H1) (h:H p=none):Same H H1:=fun b o q=>a b o (qam q h) q
theorem Kp.seq {K:W.Frag} {p:Addr} {H H':Hp} {a:Addr} {xs:List V} (e:Kp p H H') (n:a≠p) (h:SqL K H a xs):SqL K H' a xs:=by
  rcases h with (h | ⟨o,h⟩) | h
  · exact .inl (.inl (e _ _ n h))
  · exact .inl (.inr ⟨o,e _ _ n h⟩)
  · exact .inr h
theorem sz {n:Nat} (h:n≤1000000):n≤sizeLine:=by rw [sizeLine_eq];omega
end Bs
namespace Bs
open PySem L2
theorem qj6 {α:Type} (a b:α):atI [a,b] 0=some a:=rfl
theorem qj7 {α:Type} (a b:α):atI [a,b] 1=some b:=rfl
theorem qhz {α:Type} (a b c:α):atI [a,b,c] 0=some a:=rfl
theorem qhA {α:Type} (a b c:α):atI [a,b,c] 1=some b:=rfl
theorem qhB {α:Type} (a b c:α):atI [a,b,c] 2=some c:=rfl
theorem qlC (a b:Int):scal (.int a) (.int b)=true:=rfl
theorem qlD (a b:Bool):scal (.bl a) (.bl b)=true:=rfl
theorem qhC:ixN 3 0=some 0:=rfl
theorem qhD:ixN 3 2=some 2:=rfl
end Bs
namespace Bs
open PySem PySem.Spec PyProof.Rows L2
theorem qgM:bootBuiltins "abs" = some (.builtin "abs"):=by decide +kernel
theorem qiu:bootBuiltins "len" = some (.builtin "len"):=by decide +kernel
theorem qbg:bootBuiltins "isinstance" = some (.builtin "isinstance"):=by decide +kernel
theorem qmV:bootBuiltins "int" = some (.type "int"):=by decide +kernel
theorem qlE:bootBuiltins "bool" = some (.type "bool"):=by decide +kernel
theorem qdM:bootBuiltins "tuple" = some (.type "tuple"):=by decide +kernel
theorem qiv:bootBuiltins "list" = some (.type "list"):=by decide +kernel
theorem qfK:bootBuiltins "enumerate" = some (.type "enumerate"):=by decide +kernel
theorem qmW:bootBuiltins "zip" = some (.type "zip"):=by decide +kernel
section
variable {X:Cx}
theorem qiw {n:Nat} {x:Int} (h:Bd n x):Builtin.Int.intBits x≤n:=by
  unfold Builtin.Int.intBits
  split
  · exact Nat.zero_le _
  · rename_i h0
    have hn:x.natAbs≠0:=fun z=>h0 (by have e:x=0:=by omega
                                      subst e;rfl)
    have:=(Nat.log2_lt hn).mpr h
    omega
theorem qaq:OpR X (binaryOp .Mult) qbi:=opI fun _ _ _ _ _ _ _ hc q=>mul_int q hc
theorem qj8:OpR X (inplaceOp .Mult) qbi:=opI fun _ _ _ _ _ _ _ hc q=>imul_int q hc
theorem qj9:OpR X (binaryOp .FloorDiv) qlw:=opI fun i j _ _ _ _ _ hc q=>by
  refine floordiv_int (Int.ne_of_gt hc.1) ?_ (.inl (PyProof.noPylong_of_log2 (hc.2.log2 (by decide))))
  rw [Int.fdiv_eq_ediv_of_nonneg i (Int.le_of_lt hc.1)]
  exact q
theorem qe6:OpR X (binaryOp .Pow) qmo:=opI fun _ _ _ _ _ _ _ hc q=>pow_int_small hc.1 hc.2.1 hc.2.2 q
theorem qah:IxR X gT:=by
  intro value slice pins s σ H x y v u Q I rx ry h hs
  obtain ⟨p,i,xs,w,e1,e2,hp,ha,q⟩:=h
  exact qmG value slice pins s σ H x y v u Q I rx ry ⟨p,xs,i,w,e1,e2,SqT.of hp,ha,q⟩ hs
theorem qcB:IxR X gL:=by
  intro value slice pins s σ H x y v u Q I rx ry h hs
  obtain ⟨p,i,xs,w,e1,e2,hp,ha,q⟩:=h
  exact qij value slice pins s σ H x y v u Q I rx ry ⟨p,xs,i,w,e1,e2,SqL.of hp,ha,q⟩ hs
theorem qix:IxR X (gS X.K):=by
  intro value slice pins s σ H x y v u Q I rx ry h hs
  obtain ⟨p,i,xs,w,e1,e2,hp,ha,q⟩:=h
  exact qij value slice pins s σ H x y v u Q I rx ry ⟨p,xs,i,w,e1,e2,hp,ha,q⟩ hs
theorem qcJ:qdf X (.builtin "abs") qmp:=qjQ
theorem qfL:qdf X (.builtin "len") qj5:=fun pins s σ H xs us Q I r h=>by
  obtain ⟨p,ys,e,hp,q⟩:=h
  exact qdr pins s σ H xs us Q I r ⟨p,ys,e,.inr (SqT.of hp),q⟩
theorem qiy:qdf X (.builtin "len") (qlx X.K):=fun pins s σ H xs us Q I r h=>by
  obtain ⟨p,ys,e,hp,q⟩:=h
  exact qdr pins s σ H xs us Q I r ⟨p,ys,e,.inl hp,q⟩
theorem qmX (K:W.Frag):PySem.W.kitOne K (.type "int") (.type "bool")=some false:=by kernel_rfl
theorem qmY (K:W.Frag):PySem.W.kitOne K (.type "int") (.type "tuple")=some false:=by kernel_rfl
theorem qmZ (K:W.Frag):PySem.W.kitOne K (.type "int") (.type "list")=some false:=by kernel_rfl
theorem qm0 (K:W.Frag):PySem.W.kitOne K (.type "bool") (.type "int")=some true:=by kernel_rfl
theorem qm1 (K:W.Frag):PySem.W.kitOne K (.type "bool") (.type "tuple")=some false:=by kernel_rfl
theorem qm2 (K:W.Frag):PySem.W.kitOne K (.type "bool") (.type "list")=some false:=by kernel_rfl
theorem qm3 (K:W.Frag):PySem.W.kitOne K (.type "tuple") (.type "bool")=some false:=by kernel_rfl
theorem qm4 (K:W.Frag):PySem.W.kitOne K (.type "tuple") (.type "int")=some false:=by kernel_rfl
theorem qm5 (K:W.Frag):PySem.W.kitOne K (.type "tuple") (.type "list")=some false:=by kernel_rfl
theorem qm6 (K:W.Frag):PySem.W.kitOne K (.type "list") (.type "bool")=some false:=by kernel_rfl
theorem qm7 (K:W.Frag):PySem.W.kitOne K (.type "list") (.type "int")=some false:=by kernel_rfl
theorem qm8 (K:W.Frag):PySem.W.kitOne K (.type "list") (.type "tuple")=some false:=by kernel_rfl
theorem qdN (K:W.Frag) (n:String):PySem.W.kitOne K (.type n) (.type n)=some true:=by
  unfold PySem.W.kitOne
  rw [if_pos (beq_self_eq_true _)]
theorem qlF {H:Hp} {x:V} {n:String} {b:Bool} (K:W.Frag) (h:qkR H x n=some b):∃ t,TyOf K H x t∧PySem.W.kitOne K t (.type n)=some b:=by
  cases x with
  | int i=>
    refine ⟨_,.int i,?_⟩
    unfold qkR at h
    dsimp only at h
    split at h
    · rename_i e;cases h;subst e;exact qdN K _
    · split at h
      · rename_i e;cases h
        rcases e with rfl | rfl | rfl
        · exact qmX K
        · exact qmY K
        · exact qmZ K
      · cases h
  | bl i=>
    refine ⟨_,.bl i,?_⟩
    unfold qkR at h
    dsimp only at h
    split at h
    · rename_i e;cases h
      rcases e with rfl | rfl
      · exact qm0 K
      · exact qdN K _
    · split at h
      · rename_i e;cases h
        rcases e with rfl | rfl
        · exact qm1 K
        · exact qm2 K
      · cases h
  | ref p=>
    have h':qmQ (H p) n=some b:=h
    cases e:H p with
    | none=>rw [e] at h';cases h'
    | some o=>
      rw [e] at h'
      cases o with
      | tup xs=>
        refine ⟨_,.tup e,?_⟩
        unfold qmQ at h'
        dsimp only at h'
        split at h'
        · rename_i e;cases h';subst e;exact qdN K _
        · split at h'
          · rename_i e;cases h'
            rcases e with rfl | rfl | rfl
            · exact qm3 K
            · exact qm4 K
            · exact qm5 K
          · cases h'
      | lst xs=>
        refine ⟨_,.lst e,?_⟩
        unfold qmQ at h'
        dsimp only at h'
        split at h'
        · rename_i e;cases h';subst e;exact qdN K _
        · split at h'
          · rename_i e;cases h'
            rcases e with rfl | rfl | rfl
            · exact qm6 K
            · exact qm7 K
            · exact qm8 K
          · cases h'
      | _=>cases h'
  | _=>cases h
theorem qdO:qdf X (.builtin "isinstance") qmq:=fun pins s σ H xs us Q I r h=>by
  obtain ⟨x,n,b,rfl,e,q⟩:=h
  obtain ⟨u,w',rfl,rx,rn⟩:=vals2 r
  have rn':w'=Value.type n:=rn
  subst rn'
  obtain ⟨t,ty,k⟩:=qlF X.K e
  exact qig I rx ty k fun tk=>⟨.bl b,H,I.tok tk,rfl,q⟩
theorem qm9 (hu:X.A.units<cLine):OpR X (compareOp .Eq) eqT:=by
  intro pins s σ H x y v u Q I rx ry h
  obtain ⟨a,b,xs,ys,rfl,rfl,ha,hb,ix,iy,q⟩:=h
  cases rx
  cases ry
  obtain ⟨its,r1,p1,_⟩:=I.tuple (SqT.of ha)
  obtain ⟨its2,r2,p2,_⟩:=I.tuple (SqT.of hb)
  have l1:its.toArray.size=xs.length:=by rw [List.size_toArray];exact r1.length.symm
  have l2:its2.toArray.size=ys.length:=by rw [List.size_toArray];exact r2.length.symm
  refine SeqAt.eq_tupleAt (e:=eqJ xs ys) p1 p2 hu (fun j h1 h2=>?_) ?_
  · rw [l1] at h1
    rw [l2] at h2
    obtain ⟨i,ei⟩:=qd3 ix h1
    obtain ⟨k,ek⟩:=qd3 iy h2
    obtain ⟨u1,g1,⟨t1,z1⟩⟩:=r1.get ei
    obtain ⟨u2,g2,⟨t2,z2⟩⟩:=r2.get ek
    have a1:its.toArray[j]=.int i t1:=by
      have z:=(List.getElem?_eq_some_iff.mp g1).2
      simpa [z1] using z
    have a2:its2.toArray[j]=.int k t2:=by
      have z:=(List.getElem?_eq_some_iff.mp g2).2
      simpa [z2] using z
    have e:eqJ xs ys j=(i == k):=by unfold eqJ;rw [ei,ek]
    rw [a1,a2,e]
    exact SeqAt.EqAt.int_int i t1 k t2
  · rw [l1,l2,qlz ix iy]
    exact ⟨.bl (decide (xs=ys)),H,I,rfl,q⟩
end
structure Cal (P:Program) (w:World) (K:W.Frag) (mg:Str→Option Value) (base:Heap) (n:Nat) (x:Str) (ps:List Str) (sp:Sp):Prop where
  ex:∃ (f:Addr) (fd:FuncData),FnOk P w K mg base CX0 n f fd ps sp∧Binds K fd ps []∧PySem.W.keepIn K (.ref f)=true∧mg x=some (.ref f)
theorem Cal.pe {X:Cx} {n m:Nat} {x:Str} {ps:List Str} {sp:Sp} {e:Expr} {es:List Expr} {t:TA} {p pos:Pos} (C:Cal X.prog X.w X.K X.mg X.base n x ps sp) (hr:Room m X.A) (hn:n≤m) (hg:Gl X x) (ha:PA X (e::es) t)
    (hdb:(x == ("__debug__" : Str))=false:=by decide) (he:starEach (e::es) X.env=(false,eval e X.env)::starEach es X.env:=by rfl) (hpl:(backTo pos (starEach es X.env)).any (·.1)=false:=by rfl) :
    PE X (.Call (.Name x p) (e::es) [] pos) (qas sp [] E0 t):=by
  obtain ⟨f,fd,F,b,k,m⟩:=C.ex
  exact qln F (hr.mono hn) hg m k b .nil qmK ha hdb he hpl
end Bs
namespace Bs
open PySem L2
noncomputable def qb2 (capt:List (Option Nat)) (σ:L2.St):L2.St:=capt.map fun o=>o.bind fun j=>(σ[j]?).join
noncomputable def qbL (wi:TI) (capt:List (Option Nat)) (g:TG) (te:TE):TE:=fun σ H Q=>wi σ H fun J H1=>∃ (n:Nat) (W:Nat→List V→Hp→Prop),W 0 [] H1∧∀ i ys H,W i ys H→i≤n∧ys.length≤sizeLine∧
  ((J.stop i H∧∀ p,H p=none→Q (.ref p) (upd H p (.lst ys)))∨(i<n∧J.go i H∧∀ x H',J.yld i H x H'→g x (qb2 capt σ) H' fun σ2 H2=>te σ2 H2 fun y H3=>W (i+1) (ys++[y]) H3))
noncomputable def CompJ (J:It) (capt:List (Option Nat)) (g:TG) (te:TE) (σ:L2.St) (Q:VK) (H1:Hp):Prop:=∃ (n:Nat) (W:Nat→List V→Hp→Prop),W 0 [] H1∧∀ i ys H,W i ys H→i≤n∧ys.length≤sizeLine∧
  ((J.stop i H∧∀ p,H p=none→Q (.ref p) (upd H p (.lst ys)))∨(i<n∧J.go i H∧∀ x H',J.yld i H x H'→g x (qb2 capt σ) H' fun σ2 H2=>te σ2 H2 fun y H3=>W (i+1) (ys++[y]) H3))
section
variable {K:W.Frag} {ta:TA} {tl:TE} {capt:List (Option Nat)} {g:TG} {te:TE} {σ:L2.St} {H:Hp} {Q:VK}
theorem qka:qbL (qhq ta) capt g te σ H Q=ta σ H (fun vs H1=>∃ j:Int,vs=[.int j]∧-(2 ^ 62)≤j∧j<2 ^ 62∧CompJ (Itr 0 j.toNat) capt g te σ Q H1):=rfl
theorem qkb:qbL (qmC ta) capt g te σ H Q=ta σ H (fun vs H1=>∃ i j:Int,vs=[.int i,.int j]∧(-(2 ^ 62)≤i∧i<2 ^ 62∧-(2 ^ 62)≤j∧j<2 ^ 62)∧CompJ (Itr i (j - i).toNat) capt g te σ Q H1):=rfl
theorem qlG:qbL (qjL K tl) capt g te σ H Q=tl σ H (fun x H1=>∃ a,x=.ref a∧(∃ xs,SqT K H1 a xs)∧CompJ (Itt K a) capt g te σ Q H1):=rfl
theorem qlH:qbL (qcu K tl) capt g te σ H Q=tl σ H (fun x H1=>∃ a,x=.ref a∧(∃ xs,SqL K H1 a xs)∧CompJ (Itl K a) capt g te σ Q H1):=rfl
theorem CompJ.range {lo:Int} {n:Nat} (W:Nat→List V→Hp→Prop) (h0:W 0 [] H) (hb:∀ i ys H,W i ys H→i≤n∧ys.length≤sizeLine)
    (hs:∀ i ys H,i<n→W i ys H→g (.int (lo+i)) (qb2 capt σ) H fun σ2 H2=>te σ2 H2 fun y H3=>W (i+1) (ys++[y]) H3) (hd:∀ ys H,W n ys H→∀ p,H p=none→Q (.ref p) (upd H p (.lst ys))):CompJ (Itr lo n) capt g te σ Q H:=by
  refine ⟨n,W,h0,fun i ys H w=>⟨(hb i ys H w).1,(hb i ys H w).2,?_⟩⟩
  by_cases h:i<n
  · refine .inr ⟨h,h,fun x H' y=>?_⟩
    obtain ⟨e,y⟩:=y
    subst e y
    exact hs i ys _ h w
  · have e:i=n:=Nat.le_antisymm (hb i ys H w).1 (Nat.not_lt.mp h)
    subst e
    exact .inl ⟨Nat.le_refl _,hd ys H w⟩
theorem CompJ.tup {a:Addr} {xs:List V} (W:Nat→List V→Hp→Prop) (h0:W 0 [] H) (hb:∀ i ys H,W i ys H→i≤xs.length∧ys.length≤sizeLine∧H a=some (.tup xs))
    (hs:∀ i x ys H,xs[i]?=some x→W i ys H→g x (qb2 capt σ) H fun σ2 H2=>te σ2 H2 fun y H3=>W (i+1) (ys++[y]) H3) (hd:∀ ys H,W xs.length ys H→∀ p,H p=none→Q (.ref p) (upd H p (.lst ys))):CompJ (Itt K a) capt g te σ Q H:=by
  refine ⟨xs.length,W,h0,fun i ys H w=>⟨(hb i ys H w).1,(hb i ys H w).2.1,?_⟩⟩
  have q:SqT K H a xs:=SqT.of (hb i ys H w).2.2
  by_cases h:i<xs.length
  · refine .inr ⟨h,⟨xs,xs[i],q,by simp [h]⟩,fun x H' y=>?_⟩
    obtain ⟨e,y⟩:=y
    subst e
    exact hs i x ys _ (y xs q) w
  · have e:i=xs.length:=Nat.le_antisymm (hb i ys H w).1 (Nat.not_lt.mp h)
    subst e
    exact .inl ⟨⟨xs,q,Nat.le_refl _⟩,hd ys H w⟩
theorem CompJ.lst {a:Addr} {xs:List V} (W:Nat→List V→Hp→Prop) (h0:W 0 [] H) (hb:∀ i ys H,W i ys H→i≤xs.length∧ys.length≤sizeLine∧SqL K H a xs)
    (hs:∀ i x ys H,xs[i]?=some x→W i ys H→g x (qb2 capt σ) H fun σ2 H2=>te σ2 H2 fun y H3=>W (i+1) (ys++[y]) H3) (hd:∀ ys H,W xs.length ys H→∀ p,H p=none→Q (.ref p) (upd H p (.lst ys))):CompJ (Itl K a) capt g te σ Q H:=by
  refine ⟨xs.length,W,h0,fun i ys H w=>⟨(hb i ys H w).1,(hb i ys H w).2.1,?_⟩⟩
  have q:SqL K H a xs:=(hb i ys H w).2.2
  by_cases h:i<xs.length
  · refine .inr ⟨h,⟨xs,xs[i],q,by simp [h]⟩,fun x H' y=>?_⟩
    obtain ⟨e,y⟩:=y
    subst e
    exact hs i x ys _ (y xs q) w
  · have e:i=xs.length:=Nat.le_antisymm (hb i ys H w).1 (Nat.not_lt.mp h)
    subst e
    exact .inl ⟨⟨xs,q,Nat.le_refl _⟩,hd ys H w⟩
end
noncomputable def qn8 (K:W.Frag) (a:Addr):It:=
  ⟨fun i H=>∃ xs x,SqL K H a xs∧xs[i]?=some x,fun i H v H'=>∃ p x,H p=none∧v=.ref p∧H'=upd H p (.tup [.int i,x])∧∀ xs,SqL K H a xs→xs[i]?=some x,fun i H=>∃ xs,SqL K H a xs∧xs.length≤i⟩
noncomputable def qna (K:W.Frag) (a:Addr):It:=
  ⟨fun i H=>∃ xs x,SqT K H a xs∧xs[i]?=some x,fun i H v H'=>∃ p x,H p=none∧v=.ref p∧H'=upd H p (.tup [.int i,x])∧∀ xs,SqT K H a xs→xs[i]?=some x,fun i H=>∃ xs,SqT K H a xs∧xs.length≤i⟩
noncomputable def qkS (K:W.Frag) (ta:TA):TI:=fun σ H R=>ta σ H fun vs H1=>∃ a,vs=[.ref a]∧(∃ xs,SqL K H1 a xs)∧R (qn8 K a) H1
noncomputable def qgN (K:W.Frag) (ta:TA):TI:=fun σ H R=>ta σ H fun vs H1=>∃ a,vs=[.ref a]∧(∃ xs,SqT K H1 a xs)∧R (qna K a) H1
noncomputable def ForJ (J:It) (g:TG) (tb:TS) (D:Ends) (σ:L2.St) (H:Hp):Prop:=∃ W:Nat→Nat→L2.St→Hp→Prop,(∃ m,W 0 m σ H)∧∀ i m σ H,W i m σ H→
  (J.stop i H∧D.nx σ H)∨(J.go i H∧∃ N:L2.St→Hp→Prop,(∀ σ' H',N σ' H'→∃ m',m'<m∧W (i+1) m' σ' H')∧∀ x H',J.yld i H x H'→g x σ H' fun σ2 H2=>tb { D with nx:=N,ct:=N,bk:=D.nx } σ2 H2)
section
variable {K:W.Frag} {ta:TA} {g:TG} {tb:TS} {D:Ends} {σ:L2.St} {H:Hp} {a:Addr} {xs:List V}
theorem qlI:qep (qkS K ta) g tb D σ H=ta σ H (fun vs H1=>∃ a,vs=[.ref a]∧(∃ xs,SqL K H1 a xs)∧ForJ (qn8 K a) g tb D σ H1):=rfl
theorem qlJ:qep (qgN K ta) g tb D σ H=ta σ H (fun vs H1=>∃ a,vs=[.ref a]∧(∃ xs,SqT K H1 a xs)∧ForJ (qna K a) g tb D σ H1):=rfl
theorem qkc {capt:List (Option Nat)} {te:TE} {Q:VK}:qbL (qkS K ta) capt g te σ H Q=ta σ H (fun vs H1=>∃ a,vs=[.ref a]∧(∃ xs,SqL K H1 a xs)∧CompJ (qn8 K a) capt g te σ Q H1):=rfl
theorem ForJ.enumT (Pv:Nat→L2.St→Hp→Prop) (h0:Pv 0 σ H) (hl:∀ i σ H,i≤xs.length→Pv i σ H→H a=some (.tup xs))
    (hs:∀ i x p σ H,xs[i]?=some x→Pv i σ H→H p=none→g (.ref p) σ (upd H p (.tup [.int i,x])) fun σ2 H2=>tb { D with nx:=Pv (i+1),ct:=Pv (i+1),bk:=D.nx } σ2 H2) (hd:∀ σ H,Pv xs.length σ H→D.nx σ H):ForJ (qna K a) g tb D σ H:=by
  refine ⟨fun i m σ H=>m=xs.length - i∧i≤xs.length∧Pv i σ H,⟨xs.length,by simp,Nat.zero_le _,h0⟩,?_⟩
  rintro i m σ H ⟨rfl,hi,pv⟩
  have q:SqT K H a xs:=SqT.of (hl i σ H hi pv)
  by_cases lt:i<xs.length
  · refine .inr ⟨⟨xs,xs[i],q,by simp [lt]⟩,Pv (i+1),fun σ' H' p'=>⟨xs.length - (i+1),by omega,rfl,lt,p'⟩,fun x H' y=>?_⟩
    obtain ⟨p,x',hp,rfl,rfl,y⟩:=y
    exact hs i x' p σ _ (y xs q) pv hp
  · have e:i=xs.length:=by omega
    subst e
    exact .inl ⟨⟨xs,q,Nat.le_refl _⟩,hd σ H pv⟩
end
end Bs
namespace Bs
open PySem PySem.Spec PyProof.Rows L2
noncomputable def blk (X:Cx) (N:List Str) (scope:Scope) (cl:List (Str×Addr)) (C:Addr) (s:Shared) (H:Hp) (fp:List Addr):Cx:=
  { X with N:=N,s₀:=s,H₀:=H,env:=compEnvC scope cl C X.env,outer:=X.stack,stack:=X.stack,ex:=fp,fn:=fun _=>false,pn:=[],xe:=fun _ _=>False }
structure BlkOk (X:Cx) (N:List Str) (capt:List (Option Nat)) (scope:Scope) (cl:List (Str×Addr)):Prop where
  kind:scope.kind=.function
  clos:closureFor scope X.env=pure cl
  nocell:∀ y∈scope.names,y.2≠.cell
  names:∀ y∈scope.names,y.2=.local→scope.names.lookup y.1=some .local
  cells:∀ y c,cl.lookup y=some c→X.env.cells.lookup y=some c
  has:∀ y,((relabel scope X.env).names.lookup y=some .cell∨(relabel scope X.env).names.lookup y=some .free)→∃ c,cl.lookup y=some c
  cap:∀ (i:Nat) (x:Str) (j:Nat),N[i]?=some x→capt[i]?=some (some j)→X.N[j]?=some x∧Vis X.env.scope x∧X.env.kindOf x≠some .local∧((relabel scope X.env).names.lookup x=some .cell∨(relabel scope X.env).names.lookup x=some .free)
  len:capt.length=N.length
section
variable {X:Cx} {pins:List (Addr×Obj)} {σ:L2.St} {H:Hp} {s:Shared} {N:List Str} {capt:List (Option Nat)} {scope:Scope} {cl:List (Str×Addr)} {C:Addr} {fp:List Addr}
theorem qiz (B:BlkOk X N capt scope cl) (I:Inv X pins σ H s) (fo:∀ b∈fp,qf9 X pins H b) (fl:∀ b∈fp,b<s.heap.objs.size) (hC:s.heap.objs.size≤C):(blk X N scope cl C s H fp).Ok where
  mod:=I.ok.mod
  kind:=B.kind
  glob:=I.ok.glob
  blt:=I.ok.blt
  above:=hC
  inj:=fun x y c h1 h2=>I.ok.inj x y c (B.cells x c h1) (B.cells y c h2)
  has:=fun x h=>B.has x h
  cab:=fun _ _ h=>nomatch h
  hd:=I.ok.hd
  frames:=I.ok.frames
  stk:=.inl rfl
  exf:=fun b hb=>⟨fun e=>absurd (Nat.lt_of_lt_of_le (fl b hb) hC) (by rw [show b=C from e];exact Nat.lt_irrefl _),fun x c e=>(fo b hb).2.2.2.2.1 x c (B.cells x c e)⟩
  bs:=I.bs
  bsz:=Nat.le_trans I.ok.bsz I.sz
  noex:=fun b o e hb=>by
    rcases (fo b hb).2.2.2.1 with z | z
    · exact I.ok.noex b o e z
    · exact absurd (Nat.lt_of_lt_of_le (Heap.lt_size e) (Nat.le_trans I.ok.bsz z)) (Nat.lt_irrefl _)
  exfs:=fun b hb hf=>by
    rcases List.mem_cons.mp (I.stkSub b hf) with z | z
    · exact (fo b hb).2.1 z
    · exact (fo b hb).2.2.1 z
  funs:=I.stack
  frf:=I.stkFree
  seer:=I.ok.seer
  tree:=I.ok.tree
  plr:=I.ok.plr
theorem qiA (B:BlkOk X N capt scope cl) (I:Inv X pins σ H s) (fo:∀ b∈fp,qf9 X pins H b) (fl:∀ b∈fp,b<s.heap.objs.size) (hC:s.heap.objs.size≤C) {h1:Heap} {m:Str→Option Value} {tk:Nat}
    (hn:h1.Ns C m) (hk:∀ b o,s.heap.get? b=some o→h1.get? b=some o):Inv (blk X N scope cl C s H fp) [] (qb2 capt σ) H { s with heap:=h1,toks:=tk } where
  ok:=qiz B I fo fl hC
  os:=rfl
  bare:=I.bare
  base:=Un.kept hk
  loc:=by
    refine ⟨m,hn,fun i x v e1 e2 e3=>?_⟩
    have e2':(capt.map fun o=>o.bind fun j=>(σ[j]?).join)[i]?=some (some v):=e2
    rw [List.getElem?_map] at e2'
    cases ec:capt[i]? with
    | none=>rw [ec] at e2';cases e2'
    | some o=>
      rw [ec] at e2'
      cases o with
      | none=>cases e2'
      | some j=>
        have e4:(σ[j]?).join=some v:=Option.some.inj e2'
        obtain ⟨c1,c2,c3,c4⟩:=B.cap i x j e1 ec
        have e5:σ[j]?=some (some v):=by
          cases q:σ[j]? with
          | none=>rw [q] at e4;cases e4
          | some w=>rw [q] at e4;exact congrArg some e4
        obtain ⟨m',_,hl⟩:=I.loc
        obtain ⟨u,r,l⟩:=hl j x v c1 e5 c2
        refine ⟨u,r,.inr ⟨c4,?_⟩⟩
        rcases l with ⟨l,_⟩ | ⟨_,c,lc,ic⟩
        · exact absurd l c3
        · obtain ⟨c',hc'⟩:=B.has x c4
          have:=B.cells x c' hc'
          rw [lc] at this
          cases this
          obtain ⟨o,ho,hd⟩:=ic
          exact ⟨c,hc',o,hk c o ho,hd⟩
  cell:=fun x c e=>by
    obtain ⟨v,o,ho,hd⟩:=I.cell x c (B.cells x c e)
    exact ⟨v,o,hk c o ho,hd⟩
  free:=I.hok.fresh hC
  freeC:=fun x c e=>I.freeC x c (B.cells x c e)
  pin:=fun p hp=>nomatch hp
  hok:=I.hok.kept hk
  len:=by show (capt.map _).length=N.length;rw [List.length_map];exact B.len
theorem qd4 {σ6:L2.St} {H7:Hp} {s7:Shared} {pins':List (Addr×Obj)} (B:BlkOk X N capt scope cl) (I:Inv X pins σ H s) (fo:∀ b∈fp,qf9 X pins H b) (I7:Inv (blk X N scope cl C s H fp) pins' σ6 H7 s7):Inv (blk X N scope cl C s H fp) pins' (qb2 capt σ) H7 s7:=
  ⟨I7.ok,I7.os,I7.bare,I7.base,by
    obtain ⟨m,hn,_⟩:=I7.loc
    refine ⟨m,hn,fun i x v e1 e2 e3=>?_⟩
    have e2':(capt.map fun o=>o.bind fun j=>(σ[j]?).join)[i]?=some (some v):=e2
    rw [List.getElem?_map] at e2'
    cases ec:capt[i]? with
    | none=>rw [ec] at e2';cases e2'
    | some o=>
      rw [ec] at e2'
      cases o with
      | none=>cases e2'
      | some j=>
        have e4:(σ[j]?).join=some v:=Option.some.inj e2'
        obtain ⟨c1,c2,c3,c4⟩:=B.cap i x j e1 ec
        have e5:σ[j]?=some (some v):=by
          cases q:σ[j]? with
          | none=>rw [q] at e4;cases e4
          | some w=>rw [q] at e4;exact congrArg some e4
        obtain ⟨m',_,hl⟩:=I.loc
        obtain ⟨u,r,l⟩:=hl j x v c1 e5 c2
        refine ⟨u,r,.inr ⟨c4,?_⟩⟩
        rcases l with ⟨l,_⟩ | ⟨_,c,lc,ic⟩
        · exact absurd l c3
        · obtain ⟨c',hc'⟩:=B.has x c4
          have:=B.cells x c' hc'
          rw [lc] at this
          cases this
          obtain ⟨o,ho,hd⟩:=ic
          obtain ⟨sl,hk⟩:=I7.base.any ho (I.freeC x c lc) fun hb=>(fo c hb).2.2.2.2.1 x c lc rfl
          exact ⟨c,hc',_,hk,hd⟩,I7.cell,I7.free,I7.freeC,I7.pin,I7.hok,by show (capt.map _).length=N.length;rw [List.length_map];exact B.len⟩
theorem qcp {κ β:Type} [BEq κ] [LawfulBEq κ]:∀ {l:List (κ×β)} {y:κ} {c:β},l.lookup y=some c→(y,c)∈l
  | (k,v)::l,y,c,h=>by
    rw [List.lookup_cons] at h
    cases e:y == k with
    | true=>
      rw [e] at h
      cases h
      rw [eq_of_beq e]
      exact List.mem_cons_self ..
    | false=>
      rw [e] at h
      exact List.mem_cons_of_mem _ (qcp h)
theorem BlkOk.of (k:scope.kind=.function) (c:closureFor scope X.env=pure cl) (n1:(scope.names.all fun y=>y.2 != .cell)=true) (n2:(scope.names.all fun y=>y.2 != .local || scope.names.lookup y.1 == some .local)=true)
    (cs:∀ pr∈cl,X.env.cells.lookup pr.1=some pr.2) (hs:((relabel scope X.env).names.all fun pr=>(pr.2 != .cell && pr.2 != .free) || (cl.lookup pr.1).isSome)=true)
    (cp:((List.range N.length).all fun i=>match N[i]?,capt[i]? with
      | some x,some (some j)=>X.N[j]? == some x && (X.env.scope.names.lookup x == some .cell || X.env.scope.names.lookup x == some .free) && ((relabel scope X.env).names.lookup x == some .cell || (relabel scope X.env).names.lookup x == some .free)
      | _,_=>true)=true) (ln:capt.length=N.length):BlkOk X N capt scope cl where
  kind:=k
  clos:=c
  nocell:=fun y hy e=>by
    have z:=List.all_eq_true.mp n1 y hy
    rw [e] at z
    exact absurd z (by decide)
  names:=fun y hy e=>by
    have z:=List.all_eq_true.mp n2 y hy
    rw [e] at z
    simpa using z
  cells:=fun y c h=>cs (y,c) (qcp h)
  has:=fun y h=>by
    have m:∃ kd,(y,kd)∈(relabel scope X.env).names∧(kd=.cell∨kd=.free):=by
      rcases h with h | h
      · exact ⟨_,qcp h,.inl rfl⟩
      · exact ⟨_,qcp h,.inr rfl⟩
    obtain ⟨kd,m,e⟩:=m
    have z:=List.all_eq_true.mp hs _ m
    have z2:(cl.lookup y).isSome=true:=by
      rcases e with rfl | rfl
      · simpa using z
      · simpa using z
    exact Option.isSome_iff_exists.mp z2
  cap:=fun i x j e1 e2=>by
    have li:i<N.length:=(List.getElem?_eq_some_iff.mp e1).1
    have z:=List.all_eq_true.mp cp i (List.mem_range.mpr li)
    rw [e1,e2] at z
    simp only [Bool.and_eq_true,Bool.or_eq_true,beq_iff_eq] at z
    obtain ⟨⟨z1,z2⟩,z3⟩:=z
    refine ⟨z1,.inr z2,fun q=>?_,z3⟩
    have q':X.env.scope.names.lookup x=some .local:=q
    rcases z2 with z2 | z2 <;> (rw [z2] at q';cases q')
  len:=ln
theorem qgh {prog:Program} {w:World} {A:Around} {R:Result→Shared→Prop} {s:Shared} {elt target iter:Expr} {scope:Scope} {pos:Pos} {it acc:Value} {env:Env} (I:Nat→Shared→Prop)
    (turn:∀ n s,I n s→wpAny (model prog w) A (pyNext it) (fun r s₁=>match r with
      | none=>R (.ok .next) s₁
      | some v=>wpAny (model prog w) A (letOwnedTupleGo target it v) (fun _ s₂=>wpAny (model prog w) A (assign target env v) (fun _ s₃=>wpAny (model prog w) A (eval elt env) (fun x s₄=>
          wpAny (model prog w) A (call (.builtin "list.append") [acc,x]) (fun _ s₅=>∃ m,m<n∧I m s₅) (fun _ _=>False) s₄) (fun _ _=>False) s₃) (fun _ _=>False) s₂) (fun _ _=>False) s₁) (fun _ _=>False) s)
    (n:Nat) (h:I n s):codeAny (model prog w) A (.compLoop (.ListComp elt [⟨target,iter,[],0⟩] scope pos) 0 it acc env) R s:=by
  refine codeAny_loop rfl I (fun n s hI=>?_) n h
  show wpAny _ A ((compTurn (.ListComp elt [⟨target,iter,[],0⟩] scope pos) 0 it acc env).onRaise (fun x=>do noteFrame x env;theTreesLotGoes x)) _ _ s
  refine wpAny_noted ?_
  rw [compTurn_list]
  have no:∀ {E':Value→Shared→Prop} (e:Value) (s':Shared),(fun (_:Value) (_:Shared)=>False) e s'→E' e s':=fun _ _ f=>f.elim
  refine wpAny_bind (wpAny_standAt (wpAny_bind (wpAny_mono (turn n s hI) (fun r s₁ h₁=>?_) no)))
  cases r with
  | none=>exact wpAny_pure h₁
  | some v=>
    refine wpAny_bind (wpAny_mono h₁ (fun _ s₂ h₂=>?_) no)
    refine wpAny_bind (wpAny_mono h₂ (fun _ s₃ h₃=>wpAny_bind (wpAny_tests_nil ?_)) no)
    exact wpAny_bind (wpAny_bind (wpAny_mono h₃ (fun x s₄ h₄=>wpAny_bind (wpAny_mono h₄ (fun _ s₅ h₅=>wpAny_pure (wpAny_pure ⟨rfl,h₅⟩)) no)) no))
theorem qfM {elt iter tg:Expr} {pos:Pos} {wi:TI} {g:TG} {te:TE} {pins:List (Addr×Obj)} {s:Shared} {σ:L2.St} {H:Hp} {Q:VK} (RR:Value→Addr→Result→Shared→Prop) (hc:X.calm=true) (B:BlkOk X N capt scope cl) (hi:PI X tg iter wi)
    (hg:∀ C s H fp,PG (blk X N scope cl C s H fp) tg g) (he:∀ C s H fp,PE (blk X N scope cl C s H fp) elt te) (I:Inv X pins σ H s) (h:qbL wi capt g te σ H Q)
    (fin:∀ (D C:Addr) (s4:Shared) (Hq:Hp) (m:Str→Option Value),Inv X pins σ Hq s4→Q (.ref D) Hq→s4.heap.Ns C m→Hq C=none→C≠X.env.locals→X.s₀.heap.objs.size≤C→(∀ x c,X.env.cells.lookup x=some c→c≠C)→(∀ p∈X.pn++pins,p.1≠C)→RR (.ref D) C (.ok .next) s4) :
    wpAny (model X.prog X.w) X.A (eval iter X.env) (fun x s₁=>wpAny (model X.prog X.w) X.A (pyIter x) (fun it s₂=>wpAny (model X.prog X.w) X.A (newList []) (fun acc s₃=>
      wpAny (model X.prog X.w) X.A (newFunctionEnv scope X.env.globals cl [] X.env.qual none .none (some X.env)) (fun cenv s₄=>
        codeAny (model X.prog X.w) X.A (.compStart (.ListComp elt [⟨tg,iter,[],0⟩] scope pos) 0 it acc { cenv with scope:=relabel scope X.env }) (RR acc cenv.locals) s₄) X.xe s₃) X.xe s₂) X.xe s₁) X.xe s:=by
  refine thn (hi pins s σ H _ I h) fun v s1 h1=>thn h1 fun itv s2 h2=>?_
  obtain ⟨it,fp,tn,J,H2,e,I2,T,st2,f2,n0,W,w0,turn⟩:=h2
  subst e
  have fl:∀ b∈fp,b<s2.heap.objs.size:=fun b hb=>by obtain ⟨o,e,_⟩:=T.obj _ _ st2 b hb;exact Heap.lt_size e
  refine wpAny_newObj_type (wpAny_newFunctionEnv B.nocell (by intro y hy;simp at hy) (fun h₁ hns₁ hsb₁=>?_) B.kind)
  dsimp only at hns₁ hsb₁ ⊢
  generalize hG:s2.heap.push { cls:=.type "list", dict:=none,data:=.seq ([]:List Value).toArray }=G at hns₁ hsb₁ ⊢
  have hC:G.objs.size=s2.heap.objs.size+1:=by rw [← hG,Heap.size_push]
  have hCle:s2.heap.objs.size≤G.objs.size:=by rw [hC];exact Nat.le_succ _
  have hDC:s2.heap.objs.size≠G.objs.size:=by rw [hC];exact Nat.ne_of_lt (Nat.lt_succ_self _)
  have old:∀ b o,s2.heap.get? b=some o→h₁.get? b=some o:=fun b o e=>hsb₁.extBut b o (by rw [hC];exact Nat.ne_of_lt (Nat.lt_succ_of_lt (Heap.lt_size e))) (Heap.get?_push_of_some _ (hG ▸ Heap.get?_push_of_some _ e))
  have hacc:h₁.get? s2.heap.objs.size=some { cls:=.type "list", data:=.seq ([]:List Value).toArray }:=hsb₁.extBut _ _ hDC (Heap.get?_push_of_some _ (hG ▸ Heap.get?_push_size _ rfl))
  have ok':=qiz B I2 f2 fl hCle
  have nsD:s2.heap.objs.size∉frs X.stack:=fun hb=>by
    rcases List.mem_cons.mp (I2.stkSub _ hb) with z | z
    · exact absurd I2.lt (by rw [← z];exact Nat.lt_irrefl _)
    · exact I2.nofs (Nat.le_refl _) z
  have ncD:∀ x c,cl.lookup x=some c→c≠s2.heap.objs.size:=fun x c e z=>by
    obtain ⟨v,q⟩:=I2.cell x c (B.cells x c e)
    exact absurd q.lt (by rw [z];exact Nat.lt_irrefl _)
  have nfD:∀ b∈fp,s2.heap.objs.size≠b:=fun b hb z=>absurd (fl b hb) (by rw [← z];exact Nat.lt_irrefl _)
  have I₁:Inv (blk X N scope cl G.objs.size s2 H2 fp) [] (qb2 capt σ) H2 { s2 with heap:=h₁,toks:=s2.toks+([]:List (Str×Value)).length }:=qiA B I2 f2 fl hCle hns₁ old
  have loop:codeAny (model X.prog X.w) X.A (.compLoop (.ListComp elt [⟨tg,iter,[],0⟩] scope pos) 0 (.ref it) (.ref s2.heap.objs.size) (compEnvC scope cl G.objs.size X.env))
      (RR (.ref s2.heap.objs.size) G.objs.size) { s2 with heap:=h₁,toks:=s2.toks+([]:List (Str×Value)).length }:=by
    refine qgh (fun n s'=>∃ (i:Nat) (ys:List V) (its:List Value) (k:Nat) (Hc:Hp),Inv (blk X N scope cl G.objs.size s2 H2 fp) [] (qb2 capt σ) Hc s'∧s'.heap.get? s2.heap.objs.size=some { cls:=.type "list", data:=.seq its.toArray k }∧Vals ys its∧
      Hc s2.heap.objs.size=none∧tn i s'.heap∧(∀ b∈fp,Hc b=none)∧W i ys Hc∧n=n0 - i) ?_ n0 ⟨0,[],[],0,H2,I₁,hacc,.nil,I2.hok.fresh (Nat.le_refl _),T.keep _ _ _ st2 (fun b _ o e=>old b o e),fun b hb=>(f2 b hb).1,w0,rfl⟩
    rintro n s3 ⟨i,ys,its,k,Hc,I3,hD,hv,nD,st3,fr3,w3,en⟩
    obtain ⟨_,hl,step⟩:=turn i ys Hc w3
    have hz:its.toArray.size≤sizeLine:=by rw [List.size_toArray,← hv.length];exact hl
    have I3p:Inv (blk X N scope cl G.objs.size s2 H2 fp) [(s2.heap.objs.size,{ cls:=.type "list", data:=.seq its.toArray k })] (qb2 capt σ) Hc s3:=I3.pins_of fun p hp=>by
      rw [List.mem_singleton] at hp
      subst hp
      exact ⟨hD,nD,hDC,nsD,fun v z=>nomatch z⟩
    have fo3:∀ {Hx:Hp} (_:∀ b∈fp,Hx b=none),∀ b∈fp,qf9 (blk X N scope cl G.objs.size s2 H2 fp) [(s2.heap.objs.size,{ cls:=.type "list", data:=.seq its.toArray k })] Hx b:=fun hx b hb=>
      ⟨hx b hb,(ok'.exf b hb).1,ok'.exfs b hb,.inl hb,(ok'.exf b hb).2,fun p hp=>by
        have hp':p∈[((s2.heap.objs.size,{ cls:=.type "list", data:=.seq its.toArray k }):Addr×Obj)]:=hp
        rw [List.mem_singleton] at hp'
        subst hp'
        exact nfD b hb⟩
    rcases step with ⟨stop,q⟩ | ⟨ltn,go,nxt⟩
    · refine thn (T.done (blk X N scope cl G.objs.size s2 H2 fp) rfl rfl rfl hc i _ s3 _ Hc _ I3p (fo3 fr3) st3 stop) fun r s4 ⟨hr,I4⟩=>?_
      subst hr
      have hD4:=(I4.pin (s2.heap.objs.size,{ cls:=.type "list", data:=.seq its.toArray k }) (List.mem_append_right _ (List.mem_singleton.mpr rfl))).1
      obtain ⟨m,hn,_⟩:=I4.loc
      have nDt:∀ b u,Hc b=some u→b≠s2.heap.objs.size:=fun b u e z=>by rw [z,nD] at e;cases e
      have oldC:∀ b o,s2.heap.get? b=some o→b≠s2.heap.objs.size:=fun b o e=>Nat.ne_of_lt (Heap.lt_size e)
      have ub:Un (frs X.stack) fp H2 Hc s2.heap s4.heap:=I4.base
      have cC:∀ b,b<s2.heap.objs.size→b≠G.objs.size:=fun b hb z=>absurd (Nat.lt_of_lt_of_le hb hCle) (by rw [z];exact Nat.lt_irrefl _)
      refine fin _ G.objs.size s4 (upd Hc s2.heap.objs.size (.lst ys)) m ?_ (q _ nD) hn (by rw [qak (fun z=>hDC z.symm)];exact I4.free) (fun z=>cC _ I2.lt z.symm) (Nat.le_trans I2.sz hCle)
        (fun x c e=>by obtain ⟨v,q⟩:=I2.cell x c e;exact cC _ q.lt) fun p hp=>cC _ (Heap.lt_size (I2.pin p hp).1)
      refine I2.call' (ch:=fp) (s':=s4) I4.os ?_ ?_ I4.bare fun b hb=>⟨(f2 b hb).2.2.2.1,(f2 b hb).2.1,(f2 b hb).2.2.2.2.1,(f2 b hb).2.2.2.2.2⟩
      · refine ⟨ub.keep,ub.slot,fun b o e n hx=>?_,ub.there,fun b xs e=>?_,fun b o u e=>?_,fun b ps e=>?_⟩
        · rw [qak (oldC b o e)];exact ub.free b o e n hx
        · have z:=ub.tups b xs e
          rw [qak (nDt b _ z)];exact z
        · have z:=ub.frzs b o u e
          rw [qak (nDt b _ z)];exact z
        · obtain ⟨more,z⟩:=ub.tbls b ps e
          exact ⟨more,by rw [qak (nDt b _ z)];exact z⟩
      · intro b u e
        by_cases hb:b=s2.heap.objs.size
        · subst hb
          rw [qad] at e
          cases e
          exact ⟨hl,its,k,hv,hD4⟩
        · rw [qak hb] at e
          exact (I4.hok b u e).stay (fun c v _ q=>q) (fun c q=>by rw [qak (nDt c _ q)];exact q) fun c xs q=>by rw [qak (nDt c _ q)];exact q
    · refine thn (T.item (blk X N scope cl G.objs.size s2 H2 fp) rfl rfl rfl hc i _ s3 _ Hc _ I3p (fo3 fr3) st3 go) fun r s4 ⟨u,hr,h4⟩=>?_
      subst hr
      refine thn h4 fun _ s5 ⟨x,H5,I5,r5,y5,st5,fr5⟩=>?_
      have I5':=I5.pinned (fo3 fr5) (T.obj _ _ st5)
      refine thn (hg _ _ _ _ _ s5 _ H5 x u _ I5' r5 (nxt x H5 y5)) fun _ s6 ⟨σ6,H6,I6,q6⟩=>?_
      refine thn (he _ _ _ _ _ s6 σ6 H6 _ I6 q6) fun uy s7 ⟨y,H7,I7,r7,w7⟩=>?_
      have pD:=I7.pin (s2.heap.objs.size,{ cls:=.type "list", data:=.seq its.toArray k }) (List.mem_append_right _ (List.mem_append_left _ (List.mem_singleton.mpr rfl)))
      have pF:∀ b∈fp,∀ o,s5.heap.get? b=some o→s7.heap.get? b=some o∧H7 b=none:=fun b hb o e=>by
        have z:=I7.pin (b,o) (List.mem_append_right _ (List.mem_append_right _ (qbD hb e)))
        exact ⟨z.1,z.2.1⟩
      refine append_at (hsz:=hz) pD.1 fun h8 sb8 hD8=>?_
      have I7n:Inv (blk X N scope cl G.objs.size s2 H2 fp) [] σ6 H7 s7:=I7.pins_of fun p hp=>nomatch hp
      have I8:Inv (blk X N scope cl G.objs.size s2 H2 fp) [] σ6 H7 { s7 with heap:=h8,toks:=s7.toks }:=I7n.turned (fun b o hb e=>sb8.extBut b o hb e) pD.2.1 hDC (.inr (Nat.le_refl _)) ncD (fun p hp=>nomatch hp)
      refine ⟨n0 - (i+1),by omega,i+1,ys++[y],its++[uy],k+1,H7,qd4 B I2 f2 I8,?_,Paired.snoc hv r7,pD.2.1,T.keep _ _ _ st5 (fun b hb o e=>sb8.extBut b o (nfD b hb).symm (pF b hb o e).1),fun b hb=>?_,w7,rfl⟩
      · show h8.get? _=_
        rw [hD8,List.push_toArray]
      · obtain ⟨o,e,_⟩:=T.obj _ _ st5 b hb
        exact (pF b hb o e).2
  exact codeAny_compStart_list loop (T.self X.A 0 _ _ _ (T.keep _ _ _ st2 (fun b _ o e=>old b o e)) loop)
theorem qgi {elt iter tg:Expr} {pos:Pos} {wi:TI} {g:TG} {te:TE} (hc:X.calm=true) (B:BlkOk X N capt scope cl) (hi:PI X tg iter wi)
    (hg:∀ C s H fp,PG (blk X N scope cl C s H fp) tg g) (he:∀ C s H fp,PE (blk X N scope cl C s H fp) elt te)
    (hs:∀ x,foldedSetIterable iter X.env x=pure x:=by intro _;rfl):PE X (.ListComp elt [⟨tg,iter,[],0⟩] scope pos) (qbL wi capt g te):=by
  intro pins s σ H Q I h
  rw [eval_ListComp]
  refine wpAny_comprehension_free (use:=none) rfl hs B.clos B.kind B.names (qfM (fun acc C=>compPost (model X.prog X.w) X.A X.xe none (EP X pins σ Q) acc C) hc B hi hg he I h fun D C s4 Hq m I4 q hn hf h1 h2 h3 h4=>?_)
  exact ⟨m,hn,fun h' sb=>⟨.ref D,Hq,I4.turned (fun b o hb e=>sb.extBut b o hb e) hf h1 (.inr h2) h3 h4,rfl,q⟩⟩
theorem qe7 {i:Nat} {x:Str} {pos' spos:Pos} {elt iter tg:Expr} {pos:Pos} {wi:TI} {g:TG} {te:TE} (hN:X.N.Nodup) (hi':X.N[i]?=some x) (hx:Loc X.env.scope x) (hc:X.calm=true) (B:BlkOk X N capt scope cl) (hi:PI X tg iter wi)
    (hg:∀ C s H fp,PG (blk X N scope cl C s H fp) tg g) (he:∀ C s H fp,PE (blk X N scope cl C s H fp) elt te)
    (hsw:swapsWith (.ListComp elt [⟨tg,iter,[],0⟩] scope pos) (some (.Name x pos')) spos.line X.env=pure true:=by rfl)
    (hs:∀ x,foldedSetIterable iter X.env x=pure x:=by intro _;rfl) (hf:X.fn x=true∨X.env.scope.names.lookup x=some .local:=by first | exact .inl rfl | exact .inr rfl | assumption) :
    PS X (.Assign [.Name x pos'] (.ListComp elt [⟨tg,iter,[],0⟩] scope pos) spos) (qaH (qbL wi capt g te) (qal i)):=by
  intro pins s σ H D I h
  rw [exec_Assign_Name_used _ _ _ _ hsw]
  refine wpAny_bind (wpAny_standAt (wpAny_bind ?_))
  show wpAny _ X.A (do let _ ← comprehension (.ListComp elt [⟨tg,iter,[],0⟩] scope pos) scope X.env _ (newList []) false (eval iter X.env) (some (assign (.Name x pos') X.env))) _ _ s
  refine wpAny_bind (wpAny_mono (wpAny_comprehension_free (use:=some (assign (.Name x pos') X.env)) (Q:=fun _ s'=>SP X pins D .next s') rfl hs B.clos B.kind B.names
    (qfM (fun acc C=>compPost (model X.prog X.w) X.A X.xe (some (assign (.Name x pos') X.env)) (fun _ s'=>SP X pins D .next s') acc C) hc B hi hg he I h fun Da C s4 Hq m I4 q hn hfr h1 h2 h3 h4=>?_)) (fun _ s' hq=>wpAny_pure (wpAny_pure hq)) fun _ _ e=>e)
  show wpAny _ X.A (assign (.Name x pos') X.env (.ref Da)) _ _ _
  refine wpAny_assign_Name (qdX I4 hN hi' hx (v:=.ref Da) rfl (fun s5 I5 ⟨a,sb5,ha⟩=>⟨m,hn.sameBut sb5 ?_,fun h' sb=>⟨_,_,I5.turned (fun b o hb e=>sb.extBut b o hb e) hfr h1 (.inr h2) h3 h4,q⟩⟩) hf)
  rcases ha with z | z
  · rw [z];exact h1
  · exact fun e=>h3 x a z e.symm
end
end Bs
namespace Bs
open PySem PySem.Spec PyProof.Rows L2
open PySem.AutoSeq1 (wpAny_loadPart')
section
variable {prog:Program} {w:World} {A:Around} {E:Value→Shared→Prop} {s:Shared} {e it t:Addr} {i:Nat} {zs:Array Value}
theorem qdg {x:Value} {Q:Value→Shared→Prop} (si:s.heap.IsTupleIter it t i) (st:s.heap.IsTuple t zs) (hx:zs[i]?=some x)
    (hQ:∀ g,g.IsTupleIter it t (i+1)→Heap.SameBut it s.heap g→Q x { s with heap:=g }):wpAny (model prog w) A (Builtin.SmallTypes.nextOf (.ref it)) Q E s:=by
  obtain ⟨oi,gi,ci,di⟩:=id si
  obtain ⟨ot,gt,_,kt,dt⟩:=st
  unfold Builtin.SmallTypes.nextOf
  refine wpAny_bind (wpAny_callSpecial?_slot (name:=Str.ofString "__next__") si.typeIs F.slot_tuple_iterator_next (wpAny_call_entry F.slot_tuple_iterator_next si.typeIs F.entry_tuple_iterator_next ?_ (F.args_tuple_iterator_next_1 _)))
  show wpAny _ _ (field (.ref it) 0 >>= _) _ _ s
  refine wpAny_bind (wpAny_field gi di (x:=.ref t) rfl ?_)
  show wpAny _ _ (if (Value.ref t == Value.none)=true then _ else _) _ _ s
  rw [if_neg (fun q:(Value.ref t == Value.none)=true=>Bool.false_ne_true q)]
  show wpAny _ _ (field (.ref it) 1 >>= _) _ _ s
  refine wpAny_bind (wpAny_field gi di (x:=.int i 0) rfl ?_)
  show wpAny _ _ (seqItems? (.ref t) >>= _) _ _ s
  refine wpAny_bind (wpAny_seqItems gt dt ?_)
  simp only [Int.toNat_natCast,hx]
  refine wpAny_bind (wpAny_setField gi di (by simp) (wpAny_pure ⟨x,rfl,wpAny_pure (hQ _ ⟨_,Heap.get?_update_self _ gi (Obj.isFreed_of_fields (Obj.data_mapFields di _)),(Obj.cls_mapFields ..).trans ci,?_⟩ (Heap.SameBut.update ..))⟩))
  rw [Obj.data_mapFields di]
  simp [rawInt]
theorem qfN {Q:Value→Shared→Prop} (hh:A.handled=none) (si:s.heap.IsTupleIter it t i) (st:s.heap.IsTuple t zs) (hx:zs[i]?=none)
    (hE:∀ g x,Heap.ExtBut it s.heap g→(∃ o,g.get? x=some o∧o.cls=.type "StopIteration")→E (.ref x) { s with heap:=g }):wpAny (model prog w) A (Builtin.SmallTypes.nextOf (.ref it)) Q E s:=by
  obtain ⟨oi,gi,ci,di⟩:=id si
  obtain ⟨ot,gt,_,kt,dt⟩:=st
  unfold Builtin.SmallTypes.nextOf
  refine wpAny_bind (wpAny_callSpecial?_slot (name:=Str.ofString "__next__") si.typeIs F.slot_tuple_iterator_next (wpAny_call_entry F.slot_tuple_iterator_next si.typeIs F.entry_tuple_iterator_next ?_ (F.args_tuple_iterator_next_1 _)))
  show wpAny _ _ (field (.ref it) 0 >>= _) _ _ s
  refine wpAny_bind (wpAny_field gi di (x:=.ref t) rfl ?_)
  show wpAny _ _ (if (Value.ref t == Value.none)=true then _ else _) _ _ s
  rw [if_neg (fun q:(Value.ref t == Value.none)=true=>Bool.false_ne_true q)]
  show wpAny _ _ (field (.ref it) 1 >>= _) _ _ s
  refine wpAny_bind (wpAny_field gi di (x:=.int i 0) rfl ?_)
  show wpAny _ _ (seqItems? (.ref t) >>= _) _ _ s
  refine wpAny_bind (wpAny_seqItems gt dt ?_)
  simp only [Int.toNat_natCast,hx]
  refine wpAny_bind (wpAny_rule (wpAny_bind (wpAny_setField gi di (by simp) (wpAny_bind ?_))))
  simp only [newExc,newTuple]
  refine wpAny_bind (wpAny_newObj_type (wpAny_bind (m:=firstArgMember _ _) (wpAny_of_eq (a:=Value.none) (by first | rfl | (simp only [firstArgMember];rfl)) (wpAny_newObj_type ?_ (by size_fits)))) (by size_fits))
  simp only [raiseNew]
  refine wpAny_bind (wpAny_handled ?_)
  first
    | rw [show A.in1.handled=none from hh]
    | rw [hh]
  exact wpAny_bind (wpAny_pure (wpAny_throw (hE _ _ (((Heap.SameBut.update ..).extBut.push _).push _) ⟨_,Heap.get?_push_size _ rfl,rfl⟩)))
theorem qhE {x old:Value} {Q:Value→Shared→Prop} (se:IsEnum s.heap e it i old) (si:s.heap.IsTupleIter it t i) (st:s.heap.IsTuple t zs) (hx:zs[i]?=some x) (ne:e≠it)
    (hQ:∀ g,IsEnumOut g e it ((i:Int)+1) x s.heap.objs.size→g.IsTupleIter it t (i+1)→g.get? s.heap.objs.size=some { cls:=.type "tuple", data:=.seq #[.int i s.toks,x] }→
      (∀ b o,b≠e→b≠it→s.heap.get? b=some o→g.get? b=some o)→Q (.ref s.heap.objs.size) { s with heap:=g,toks:=s.toks+1 }) :
    wpAny (model prog w) A (Builtin.«enumerate.__next__» ⟨[.ref e],[]⟩) (fun fin s'=>∃ v,fin=.done (.ret v)∧Q v s') E s:=by
  obtain ⟨g0,gn,dr,tk,os⟩:=s
  show wpAny _ _ (field (.ref e) 2 >>= _) _ _ _
  refine wpAny_bind (wpAny_field se rfl (x:=.ref it) rfl ?_)
  refine wpAny_bind (qdg si st hx fun g1 i1 b1=>?_)
  replace b1:Heap.SameBut it g0 g1:=b1
  have e1:IsEnum g1 e it i old:=(b1.2 e ne).trans se
  show wpAny _ _ (field (.ref e) 3 >>= _) _ _ ⟨g1,gn,dr,tk,os⟩
  refine wpAny_bind (wpAny_field e1 rfl (x:=rawInt i) rfl ?_)
  show wpAny _ _ (field (.ref e) 4 >>= _) _ _ ⟨g1,gn,dr,tk,os⟩
  refine wpAny_bind (wpAny_field e1 rfl (x:=.none) rfl ?_)
  show wpAny _ _ (mkInt i >>= _) _ _ ⟨g1,gn,dr,tk,os⟩
  refine wpAny_bind (wpAny_mkInt ?_)
  show wpAny _ _ (setField (.ref e) 3 (rawInt ((i:Int)+1)) >>= _) _ _ ⟨g1,gn,dr,tk+1,os⟩
  refine wpAny_bind (wpAny_setField_rec e1 (by simp) fun g2 e2 b2=>?_)
  replace b2:Heap.SameBut e g1 g2:=b2
  replace e2:IsEnum g2 e it ((i:Int)+1) old:=e2
  show wpAny _ _ (setField (.ref e) 4 .none >>= _) _ _ ⟨g2,gn,dr,tk+1,os⟩
  refine wpAny_bind (wpAny_setField_rec e2 (by simp) fun g3 e3 b3=>?_)
  replace b3:Heap.SameBut e g2 g3:=b3
  replace e3:IsEnum g3 e it ((i:Int)+1) old:=e3
  show wpAny _ _ (newTuple [.int i tk,x] >>= _) _ _ ⟨g3,gn,dr,tk+1,os⟩
  refine wpAny_bind (wpAny_newTuple ?_)
  have e4:IsEnum (g3.push { cls:=.type "tuple", data:=.seq #[.int i tk,x] }) e it ((i:Int)+1) old:=Heap.get?_push_of_some _ e3
  generalize q4:g3.push { cls:=.type "tuple", data:=.seq #[.int i tk,x] }=g4 at e4
  have z3:g3.objs.size=g0.objs.size:=by rw [b3.1,b2.1,b1.1]
  have le:e<g0.objs.size:=Heap.lt_size se
  have t4:g4.get? g0.objs.size=some { cls:=.type "tuple", data:=.seq #[.int i tk,x] }:=by rw [← q4,← z3];exact Heap.get?_push_size _ rfl
  have k4:∀ b o,b≠e→b≠it→g0.get? b=some o→g4.get? b=some o:=fun b o h1 h2 h3=>by
    rw [← q4];exact Heap.get?_push_of_some _ (b3.extBut b o h1 (b2.extBut b o h1 (b1.extBut b o h2 h3)))
  have i4:g4.IsTupleIter it t (i+1):=by
    obtain ⟨o,ho,hr⟩:=i1
    exact ⟨o,by rw [← q4];exact Heap.get?_push_of_some _ (b3.extBut it o ne.symm (b2.extBut it o ne.symm ho)),hr⟩
  show wpAny _ _ (Builtin.SmallTypes.ownedTupleIsFree (.ref e) >>= _) _ _ ⟨g4,gn,dr,tk+1,os⟩
  rw [z3]
  clear q4 e3 b3 e2 b2 e1 b1 i1 z3 g3 g2 g1
  refine wpAny_bind ?_
  unfold Builtin.SmallTypes.ownedTupleIsFree
  refine wpAny_bind (wpAny_field e4 rfl (x:=.none) rfl (wpAny_pure ?_))
  simp only [if_true]
  refine wpAny_bind (wpAny_rule (wpAny_bind (wpAny_field e4 rfl (x:=old) rfl (wpAny_bind (wpAny_setField_rec e4 (by simp) fun g5 e5 b5=>?_)))))
  replace b5:Heap.SameBut e g4 g5:=b5
  replace e5:IsEnum g5 e it ((i:Int)+1) x:=e5
  show wpAny _ _ (Builtin.SmallTypes.ownedTupleHandOut (.ref e) (.ref g0.objs.size) >>= _) _ _ ⟨g5,gn,dr,tk+1,os⟩
  refine wpAny_bind ?_
  unfold Builtin.SmallTypes.ownedTupleHandOut
  refine wpAny_bind (wpAny_setField_rec e5 (by simp) fun g6 e6 b6=>?_)
  replace b6:Heap.SameBut e g5 g6:=b6
  replace e6:IsEnumOut g6 e it ((i:Int)+1) x g0.objs.size:=e6
  refine wpAny_setField_rec e6 (by simp) fun g7 e7 b7=>?_
  replace b7:Heap.SameBut e g6 g7:=b7
  replace e7:IsEnumOut g7 e it ((i:Int)+1) x g0.objs.size:=e7
  have up:∀ b o,b≠e→g4.get? b=some o→g7.get? b=some o:=fun b o h1 h2=>b7.extBut b o h1 (b6.extBut b o h1 (b5.extBut b o h1 h2))
  refine wpAny_bind (wpAny_letGo (wpAny_pure ⟨_,rfl,hQ g7 e7 ?_ (up _ _ (Nat.ne_of_gt le) t4) fun b o h1 h2 h3=>up b o h1 (k4 b o h1 h2 h3)⟩))
  obtain ⟨o,ho,hr⟩:=i4
  exact ⟨o,up it o ne.symm ho,hr⟩
theorem qhF {x old:Value} {Q:Option Value→Shared→Prop} (se:IsEnum s.heap e it i old) (si:s.heap.IsTupleIter it t i) (st:s.heap.IsTuple t zs) (hx:zs[i]?=some x) (ne:e≠it)
    (hQ:∀ g,IsEnumOut g e it ((i:Int)+1) x s.heap.objs.size→g.IsTupleIter it t (i+1)→g.get? s.heap.objs.size=some { cls:=.type "tuple", data:=.seq #[.int i s.toks,x] }→
      (∀ b o,b≠e→b≠it→s.heap.get? b=some o→g.get? b=some o)→Q (some (.ref s.heap.objs.size)) { s with heap:=g,toks:=s.toks+1 }):wpAny (model prog w) A (pyNext (.ref e)) Q E s:=by
  have ty:s.TypeIs (.ref e) "enumerate" := ⟨_,se,rfl⟩
  unfold pyNext
  exact wpAny_bind (wpAny_attempt (wpAny_callSpecial?_slot (name:=Str.ofString "__next__") ty F.slot_enumerate_next (wpAny_call_entry F.slot_enumerate_next ty F.entry_enumerate_next (qhE se si st hx ne fun g a b c k=>wpAny_pure (hQ g a b c k)) (F.args_enumerate_next_1 _))))
theorem qiB {old:Value} {Q:Option Value→Shared→Prop} (hh:A.handled=none) (se:IsEnum s.heap e it i old) (si:s.heap.IsTupleIter it t i) (st:s.heap.IsTuple t zs) (hx:zs[i]?=none)
    (hQ:∀ g,Heap.ExtBut it s.heap g→Q none { s with heap:=g }):wpAny (model prog w) A (pyNext (.ref e)) Q E s:=by
  have ty:s.TypeIs (.ref e) "enumerate" := ⟨_,se,rfl⟩
  unfold pyNext
  refine wpAny_bind (wpAny_attempt (wpAny_callSpecial?_slot (name:=Str.ofString "__next__") ty F.slot_enumerate_next (wpAny_call_entry F.slot_enumerate_next ty F.entry_enumerate_next ?_ (F.args_enumerate_next_1 _))))
  show wpAny _ _ (field (.ref e) 2 >>= _) _ _ _
  refine wpAny_bind (wpAny_field se rfl (x:=.ref it) rfl (wpAny_bind (qfN hh si st hx fun g x eb ⟨o,ho,hc⟩=>?_)))
  exact wpAny_bind (wpAny_isInstance (T := "StopIteration") (b:=true) ⟨o,ho,hc⟩ isSubtype_stop (wpAny_pure (hQ _ eb)))
theorem qgj (n:Nat) (dct:Option Addr) (sl:Array (Option Value)) :
    Meets (Builtin.«enumerate.__new__» ⟨[.type "enumerate", .ref t],[]⟩) (fun _ R s=>s.heap.get? t=some { cls:=.type "tuple", dict:=dct,data:=.seq zs n,slots:=sl }∧
      R (.ok (.ret (.ref (s.heap.push { cls:=.type "tuple_iterator", data:=.fields #[.ref t,.int 0 0] }).objs.size)))
        { s with heap:=(s.heap.push { cls:=.type "tuple_iterator", data:=.fields #[.ref t,.int 0 0] }).push { cls:=.type "enumerate", data:=.fields #[.none,.bool false,.ref s.heap.objs.size,rawInt 0,.none,.none] } }):=
  .of_wp fun prog w A R s h=>by
    obtain ⟨g0,gn,dr,tk,os⟩:=s
    obtain ⟨ht,h⟩:=h
    have hsub:=sub_enumerate
    have hT:Heap.IsTuple (Shared.heap ⟨g0,gn,dr,tk,os⟩) t zs:=⟨_,ht,rfl,n,rfl⟩
    wp_walk using wpAny_loadPart' ht
    refine wpAny_stack_any fun st=>wpAny_pure ?_
    split
    · rename_i c _ _ _ _ _
      cases (c == Value.type "enumerate") <;> (wp_walk using wpAny_loadPart' ht,wpAny_pyIter_tuple hT;exact ⟨_,rfl,h⟩)
    · wp_walk using wpAny_loadPart' ht,wpAny_pyIter_tuple hT
      exact ⟨_,rfl,h⟩
theorem qhG {Q:Value→Shared→Prop} (hT:s.heap.IsTuple t zs)
    (h:∀ g,IsEnum g (s.heap.objs.size+1) s.heap.objs.size 0 .none→g.IsTupleIter s.heap.objs.size t 0→(∀ b o,s.heap.get? b=some o→g.get? b=some o)→Q (.ref (s.heap.objs.size+1)) { s with heap:=g }) :
    wpAny (model prog w) A (call (.type "enumerate") [.ref t]) Q E s:=by
  obtain ⟨⟨c,dct,da,sl⟩,ht,hc,n,hd⟩:=hT
  replace hc:c=.type "tuple" := hc
  replace hd:da=.seq zs n:=hd
  subst hc hd
  refine callType_new F.called_enumerate (by decide) (F.typeCall_enumerate_1 _) (F.newCall_enumerate_1 _) (fun obj=>F.args_object_init_2 obj _) F.entry_enumerate_new (qgj n dct sl) ⟨ht,?_⟩
  have z1:(s.heap.push { cls:=.type "tuple_iterator", data:=.fields #[.ref t,.int 0 0] }).objs.size=s.heap.objs.size+1:=Heap.size_push ..
  show _∧_
  rw [z1]
  have se:IsEnum ((s.heap.push { cls:=.type "tuple_iterator", data:=.fields #[.ref t,.int 0 0] }).push { cls:=.type "enumerate", data:=.fields #[.none,.bool false,.ref s.heap.objs.size,rawInt 0,.none,.none] }) (s.heap.objs.size+1) s.heap.objs.size 0 .none:=by
    have z:=Heap.get?_push_size (s.heap.push { cls:=.type "tuple_iterator", data:=.fields #[.ref t,.int 0 0] }) (o:={ cls:=.type "enumerate", data:=.fields #[.none,.bool false,.ref s.heap.objs.size,rawInt 0,.none,.none] }) rfl
    rw [z1] at z
    exact z
  exact ⟨⟨_,se,rfl⟩,h _ se ⟨_,Heap.get?_push_of_some _ (Heap.get?_push_size _ rfl),rfl,rfl⟩ fun b o x=>Heap.get?_push_of_some _ (Heap.get?_push_of_some _ x)⟩
end
section
variable {X:Cx} {pins:List (Addr×Obj)} {σ:L2.St} {H:Hp} {s:Shared}
theorem qkd {e it:Addr} {g:Heap} {tk:Nat} {xs:List V} {its:List Value} (I:Inv X pins σ H s) (fe:qf9 X pins H e) (fi:qf9 X pins H it) (k:∀ b o,b≠e→b≠it→s.heap.get? b=some o→g.get? b=some o)
    (hz:xs.length≤sizeLine) (rv:Vals xs its) (ht:g.get? s.heap.objs.size=some { cls:=.type "tuple", data:=.seq its.toArray }):Inv X pins σ (upd H s.heap.objs.size (.tup xs)) { s with heap:=g,toks:=tk }:=by
  have nT:H s.heap.objs.size=none:=I.hok.fresh (Nat.le_refl _)
  have old:∀ b o,s.heap.get? b=some o→b≠s.heap.objs.size:=fun b o q=>Nat.ne_of_lt (Heap.lt_size q)
  have tr:∀ b u,H b=some u→b≠s.heap.objs.size∧b≠e∧b≠it:=fun b u q=>⟨qam q nT,qam q fe.1,qam q fi.1⟩
  have off:∀ b,b∉[e,it]→b≠e∧b≠it:=fun b hb=>⟨fun z=>hb (by simp [z]),fun z=>hb (by simp [z])⟩
  refine I.step (g':=s.gens) (d':=s.drawn) (ch:=[e,it]) (fun b hb=>?_) (fun b o _ _ hc q _=>k b o (off b hc).1 (off b hc).2 q) (fun b o _ _ hc q _=>⟨o.slots,k b o (off b hc).1 (off b hc).2 q⟩) (fun b o _ q n=>?_) (fun b o hc q=>⟨o,k b o (off b hc).1 (off b hc).2 q⟩)
    (fun b ys q=>?_) (fun b o u q=>?_) (fun b ps q=>⟨#[],?_⟩) (fun m hm=>?_) (fun b u q=>?_) I.bare
  · have z:b=e∨b=it:=by simpa using hb
    rcases z with rfl | rfl
    · exact ⟨fe.2.2.2.1,fe.2.1,fe.2.2.2.2.1,fe.2.2.2.2.2⟩
    · exact ⟨fi.2.2.2.1,fi.2.1,fi.2.2.2.2.1,fi.2.2.2.2.2⟩
  · rw [qak (old b o q)];exact n
  · rw [qak (tr b _ q).1];exact q
  · rw [qak (tr b _ q).1];exact q
  · rw [qak (tr b _ q).1,q];simp
  · obtain ⟨o,es,ep,ho,hr⟩:=hm
    exact ⟨o,es,ep,k _ o fe.2.1.symm fi.2.1.symm ho,hr⟩
  · by_cases hb:b=s.heap.objs.size
    · subst hb
      rw [qad] at q
      cases q
      exact ⟨hz,its,rv,⟨_,ht,rfl,_,rfl⟩⟩
    · rw [qak hb] at q
      refine (I.hok b u q).stay (fun c v hc z=>?_) (fun c z=>by rw [qak (tr c _ z).1];exact z) fun c ys z=>by rw [qak (tr c _ z).1];exact z
      rcases hc with y | y
      · subst y;exact k _ v (tr _ u q).2.1 (tr _ u q).2.2 z
      · exact k c v (tr c _ y).2.1 (tr c _ y).2.2 z
end
theorem qhH {P:Program} {w:World} {K:W.Frag} {elts:List Expr} {k:Nat} {pos:Pos} (a e it:Addr) (ne:e≠it):Turn P w K (.Tuple elts k pos) (qna K a) [e,it] e (fun i h=>(∃ old,IsEnum h e it i old)∧h.IsTupleIter it a i) where
  mem:=by simp
  obj:=fun i h st b hb=>by
    obtain ⟨⟨old,se⟩,o,ho,c,d⟩:=st
    have z:b=e∨b=it:=by simpa using hb
    rcases z with rfl | rfl
    · exact ⟨_,se,fun v z=>nomatch z⟩
    · exact ⟨o,ho,fun v z=>by rw [d] at z;cases z⟩
  keep:=fun i h h' st kk=>⟨let ⟨old,se⟩:=st.1;⟨old,kk e (by simp) _ se⟩,st.2.at fun o q=>kk it (by simp) o q⟩
  item:=by
    intro X hP hw hK hc i pins s σ H E I hf st hg
    subst hP hw hK
    obtain ⟨xs,x,hq,hx⟩:=hg
    obtain ⟨⟨old,se⟩,si⟩:=st
    obtain ⟨its,rv,p,hz⟩:=I.tuple hq
    obtain ⟨u,hu,ru⟩:=rv.get hx
    refine qhF se si (show s.heap.IsTuple a its.toArray from p) (x:=u) (by simpa using hu) ne fun g eo gi gt gk=>?_
    refine ⟨_,rfl,wpAny_letOwnedTupleGo_enum eo fun g' se' sb=>?_⟩
    have I1:=qkd (g:=g') (tk:=s.toks+1) (xs:=[.int i,x]) (its:=[.int i s.toks,u]) I (hf e (by simp)) (hf it (by simp)) (fun b o h1 h2 q=>sb.extBut b o h1 (gk b o h1 h2 q)) (sz (by simp)) (.cons ⟨_,rfl⟩ (.cons ru .nil)) (sb.extBut _ _ (Nat.ne_of_gt (Heap.lt_size se)) gt)
    refine ⟨.ref s.heap.objs.size,_,I1,rfl,⟨_,x,I.hok.fresh (Nat.le_refl _),rfl,rfl,fun ys hy=>by rw [I.tuple_inj hy hq];exact hx⟩,⟨⟨_,by simpa using se'⟩,gi.at fun o q=>sb.extBut it o ne.symm q⟩,fun b hb=>?_⟩
    rw [qak]
    · exact (hf b hb).1
    · have z:b=e∨b=it:=by simpa using hb
      rcases z with rfl | rfl
      · exact Nat.ne_of_lt (Heap.lt_size se)
      · obtain ⟨o,ho,_⟩:=si;exact Nat.ne_of_lt (Heap.lt_size ho)
  done:=by
    intro X hP hw hK hc i pins s σ H E I hf st hg
    subst hP hw hK
    obtain ⟨xs,hq,hx⟩:=hg
    obtain ⟨⟨old,se⟩,si⟩:=st
    obtain ⟨its,rv,p,hz⟩:=I.tuple hq
    obtain ⟨f0,f1,f2,f3,f4,f5⟩:=hf it (by simp)
    have hl:=rv.length
    exact qiB (I.ok.hd hc) se si (show s.heap.IsTuple a its.toArray from p) (by simp;omega) fun g eb=>⟨rfl,I.turned (t':=s.toks) (fun b o hb q=>eb b o hb q) f0 f1 f3 f4 f5⟩
  self:=fun _ _ _ _ _ st h=>let ⟨_,se⟩:=st.1;wpAny_pyIter_enum se h
section
variable {X:Cx} {elts:List Expr} {k:Nat} {tpos:Pos} {a:Expr} {ta:TA} {p pos:Pos}
theorem qke (hg:Gl X "enumerate") (hm:X.mg "enumerate" = none) (ha:PA X [a] ta) (hs:starEach [a] X.env=[(false,eval a X.env)]:=by rfl):PI X (.Tuple elts k tpos) (.Call (.Name "enumerate" p) [a] [] pos) (qgN X.K ta):=by
  intro pins s σ H R I h
  refine Call_ (qdY I hg hm qfK (PyProof.Rows.callWith_type1 (thn (ha pos pins s σ H _ I h) fun us s1 ⟨vs,H1,I1,r1,q1⟩=>?_) hs rfl))
  obtain ⟨b,rfl,⟨xs,hq⟩,q⟩:=q1
  obtain ⟨u,rfl,ru⟩:=qie r1
  cases ru
  obtain ⟨its,rv,pl,hz⟩:=I1.tuple hq
  refine qhG (show s1.heap.IsTuple b its.toArray from pl) fun g se si gk=>?_
  have I2:Inv X pins σ H1 { s1 with heap:=g }:=I1.kept (t':=s1.toks) gk
  refine wpAny_pyIter_enum se ⟨_,[s1.heap.objs.size+1,s1.heap.objs.size],_,_,H1,rfl,I2,qhH b _ _ (Nat.succ_ne_self _),⟨⟨_,se⟩,si⟩,fun c hc=>?_,q⟩
  have z:c=s1.heap.objs.size+1∨c=s1.heap.objs.size:=by simpa using hc
  rcases z with rfl | rfl
  · exact I1.fpOk (Nat.le_succ _) (I1.hok.fresh (Nat.le_succ _))
  · exact I1.fpOk (Nat.le_refl _) (I1.hok.fresh (Nat.le_refl _))
end
end Bs
namespace Bs
open PySem L2
mutual
inductive RepD (H:Hp):V→PySem.W.Dat→Prop
  | non:RepD H .non .none
  | int (i:Int):RepD H (.int i) (.int i)
  | tup {p:Addr} {xs:List V} {ds:List PySem.W.Dat} (h:H p=some (.tup xs)) (r:RepA H xs ds):RepD H (.ref p) (.tuple ds)
  | lst {p:Addr} {xs:List V} {ds:List PySem.W.Dat} (h:H p=some (.lst xs)) (r:RepA H xs ds):RepD H (.ref p) (.list ds)
inductive RepA (H:Hp):List V→List PySem.W.Dat→Prop
  | nil:RepA H [] []
  | cons {x:V} {xs:List V} {d:PySem.W.Dat} {ds:List PySem.W.Dat} (h:RepD H x d) (r:RepA H xs ds):RepA H (x::xs) (d::ds)
end
noncomputable def neD:R2:=fun x y H Q=>∃ (d e:PySem.W.Dat) (b:Bool),RepD H x d∧RepD H y e∧PySem.W.kqdOk 8 d=true∧PySem.W.kqdOk 8 e=true∧(b=true↔d=e)∧Q (.bl (!b)) H
noncomputable def qkf (te:TE):TT:=fun σ H Q=>te σ H fun x H'=>∃ p xs,x=.ref p∧H' p=some (.lst xs)∧Q (!xs.isEmpty) H'
noncomputable def qn9 (te:TE):TT:=fun σ H Q=>te σ H fun x H'=>∃ p xs,x=.ref p∧H' p=some (.tup xs)∧Q (!xs.isEmpty) H'
noncomputable def sL:V→Option Int→Option Int→Hp→VK→Prop:=fun x lo hi H Q=>∃ a xs,x=.ref a∧H a=some (.lst xs)∧∀ p,H p=none→Q (.ref p) (upd H p (.lst (qjF xs lo hi)))
noncomputable def qiC:List V→Hp→VK→Prop:=fun xs H Q=>∃ p ys,xs=[.ref p]∧H p=some (.lst ys)∧∀ l,H l=none→Q (.ref l) (upd H l (.tup ys))
noncomputable def qiD:List V→Hp→VK→Prop:=fun xs H Q=>∃ p ys,xs=[.ref p]∧H p=some (.tup ys)∧∀ l,H l=none→Q (.ref l) (upd H l (.lst ys))
noncomputable def qiE:List V→Hp→VK→Prop:=fun xs H Q=>∃ p ys,xs=[.ref p]∧H p=some (.lst ys)∧∀ l,H l=none→Q (.ref l) (upd H l (.lst ys))
end Bs
namespace Bs
open PySem PySem.Spec PyProof.Rows L2
section
variable {X:Cx} {pins:List (Addr×Obj)} {σ:L2.St} {H:Hp} {s:Shared}
mutual
theorem qcK (I:Inv X pins σ H s):∀ {x:V} {d:PySem.W.Dat} {u:Value},RepD H x d→RelV x u→∃ as,Reads s.heap u (PySem.W.kqdP d) as
  | _,_,_,.non,e=>by cases e;rw [PySem.W.kqdP];exact ⟨_,Reads.none⟩
  | _,_,_,.int i,⟨t,e⟩=>by subst e;rw [PySem.W.kqdP];exact ⟨_,Reads.int i t⟩
  | _,_,_,.tup h r,e=>by
    cases e
    obtain ⟨its,rv,p,_⟩:=I.tuple (SqT.of h)
    obtain ⟨as,q⟩:=qe8 I r rv
    obtain ⟨o,ho,hc,n,hd⟩:=p
    rw [PySem.W.kqdP]
    exact ⟨as,reads_tuple_at ho hc hd (by simpa using q)⟩
  | _,_,_,.lst h r,e=>by
    cases e
    obtain ⟨its,rv,p,_⟩:=I.list (SqL.of h)
    obtain ⟨as,q⟩:=qe8 I r rv
    obtain ⟨o,n,ho,hc,_,hd⟩:=p
    rw [PySem.W.kqdP]
    exact ⟨_,reads_list_at ho hc hd (by simpa using q)⟩
theorem qe8 (I:Inv X pins σ H s):∀ {xs:List V} {ds:List PySem.W.Dat} {us:List Value},RepA H xs ds→Vals xs us→∃ as,ReadsAll s.heap us (PySem.W.kqdPs ds) as
  | _,_,_,.nil,.nil=>by rw [PySem.W.kqdPs];exact ⟨_,ReadsAll.nil⟩
  | _,_,_,.cons h r,.cons e es=>by
    obtain ⟨as,q⟩:=qcK I h e
    obtain ⟨bs,q2⟩:=qe8 I r es
    rw [PySem.W.kqdPs]
    exact ⟨_,ReadsAll.cons q q2⟩
end
theorem qfO {d:PySem.W.Dat} (h:PySem.W.kqdOk 8 d=true):SeqAt.shaped (PySem.W.kqdP d)=true:=by
  have z:=PySem.W.kqd_lay 8 d h
  unfold SeqAt.shaped
  rw [z.1,Bool.true_and]
  exact decide_eq_true (Nat.le_trans z.2 (by decide))
theorem qnb {d e:PySem.W.Dat} {b:Bool} (h1:PySem.W.kqdOk 8 d=true) (h2:PySem.W.kqdOk 8 e=true) (hb:b=true↔d=e):PyData.eqv (PySem.W.kqdP d) (PySem.W.kqdP e)=b:=by
  rw [Bool.eq_iff_iff,hb]
  exact PySem.W.kqd_eqv 8 d e 8 h1 h2
theorem qkT (hu:X.A.units+64<cLine):OpR X (compareOp .NotEq) neD:=by
  intro pins s σ H x y v u Q I rx ry h
  obtain ⟨d,e,b,r1,r2,k1,k2,hb,q⟩:=h
  obtain ⟨as,q1⟩:=qcK I r1 rx
  obtain ⟨bs,q2⟩:=qcK I r2 ry
  exact ne_dataH q1 q2 (qfO k1) (qfO k2) hu (by rw [qnb k1 k2 hb];exact ⟨.bl (!b),H,I,rfl,q⟩)
theorem qiF {a:Expr} {ta:TE} (ha:PE X a ta) (he:∀ whole,isTrue a X.env whole=(do let v ← whole;standAt a.pos;holding [v] (truthy v))):PT X a (qkf ta):=fun pins s σ H Q I h=>
  isTrue_plain (thn (ha pins s σ H _ I h) fun v s1 ⟨x,H1,I1,r1,q1⟩=>by
    obtain ⟨p,xs,e,hp,q⟩:=q1
    subst e
    exact qmE pins s1 σ H1 _ v Q I1 r1 ⟨_,.inl ⟨xs,SqL.of hp,rfl⟩,q⟩) (he _)
theorem qfP:qdf X (.type "tuple") qiC:=fun pins s σ H xs us Q I r h=>by
  obtain ⟨p,ys,e,hp,q⟩:=h
  exact qe0 pins s σ H xs us Q I r ⟨p,ys,e,.inl ⟨SqL.of hp,q⟩⟩
theorem qhI:qdf X (.type "list") qiD:=fun pins s σ H xs us Q I r h=>by
  obtain ⟨p,ys,e,hp,q⟩:=h
  exact qds pins s σ H xs us Q I r ⟨p,ys,e,.inr (SqT.of hp),q⟩
theorem qhJ:qdf X (.type "list") qiE:=fun pins s σ H xs us Q I r h=>by
  obtain ⟨p,ys,e,hp,q⟩:=h
  exact qds pins s σ H xs us Q I r ⟨p,ys,e,.inl (SqL.of hp),q⟩
theorem qbm {K:W.Frag} {p:Addr} {xs:List V} (h:H p=some (.lst xs)):tyV K "list" (.ref p) H:=.inl ⟨rfl,xs,SqL.of h⟩
end
end Bs
namespace Bs
open PySem L2
noncomputable def qcC (n:Nat) (t:TGs):TG:=fun v σ H Q=>∃ a xs,v=.ref a∧H a=some (.tup xs)∧xs.length=n∧t xs σ H Q
end Bs
namespace Bs
open PySem PySem.Spec PyProof.Rows L2
theorem qa3 {X:Cx} {es:List Expr} {k:Nat} {pos:Pos} {t:TGs} {n:Nat} (hc:X.calm=true) (h:PGs X es t)
    (hn:(assignEach es X.env).length=n:=by rfl) (hst:(assignEach es X.env).findIdx? (·.1)=none:=by rfl):PG X (.Tuple es k pos) (qcC n t):=fun pins s σ H v u Q I r q=>by
  obtain ⟨a,xs,e,ha,hl,q⟩:=q
  exact qmz hc h hn hst pins s σ H v u Q I r ⟨a,xs,e,SqT.of ha,hl,q⟩
end Bs
namespace Bs
open PySem L2
noncomputable def sT:V→Option Int→Option Int→Hp→VK→Prop:=fun x lo hi H Q=>∃ a xs,x=.ref a∧H a=some (.tup xs)∧∀ p H',(H'=H∧p=a∧qjF xs lo hi=xs)∨(H p=none∧H'=upd H p (.tup (qjF xs lo hi)))→Q (.ref p) H'
end Bs
namespace HT
open PySem PySem.Spec PyProof.Rows
end HT
namespace Bs
open PySem PySem.Spec PyProof.Rows L2
end Bs
namespace Bs
open PySem L2
noncomputable def Itd (lo:Int) (n:Nat):It:=⟨fun i _=>i<n,fun i H x H'=>H'=H∧x=.int (lo - i),fun i _=>n≤i⟩
noncomputable def Itv (K:W.Frag) (a:Addr) (n:Nat):It:=⟨fun i H=>i<n∧∃ xs,SqL K H a xs∧xs.length=n,fun i H x H'=>H'=H∧∀ xs,SqL K H a xs→xs[n - 1 - i]?=some x,fun i _=>n=i⟩
noncomputable def qoa (ta:TA):TI:=fun σ H R=>ta σ H fun vs H1=>∃ i j:Int,vs=[.int i,.int j,.int (-1)]∧(-(2 ^ 62)≤i∧i<2 ^ 62∧-(2 ^ 62)≤j∧j<2 ^ 62)∧R (Itd i (i - j).toNat) H1
noncomputable def qoO (K:W.Frag) (ta:TA):TI:=fun σ H R=>ta σ H fun vs H1=>∃ a xs,vs=[.ref a]∧SqL K H1 a xs∧R (Itv K a xs.length) H1
section
variable {K:W.Frag} {ta:TA} {g:TG} {tb:TS} {D:Ends} {σ:L2.St} {H:Hp} {a:Addr} {xs:List V}
theorem qlK:qep (qoa ta) g tb D σ H=ta σ H (fun vs H1=>∃ i j:Int,vs=[.int i,.int j,.int (-1)]∧(-(2 ^ 62)≤i∧i<2 ^ 62∧-(2 ^ 62)≤j∧j<2 ^ 62)∧ForJ (Itd i (i - j).toNat) g tb D σ H1):=rfl
theorem qlL:qep (qoO K ta) g tb D σ H=ta σ H (fun vs H1=>∃ a xs,vs=[.ref a]∧SqL K H1 a xs∧ForJ (Itv K a xs.length) g tb D σ H1):=rfl
end
end Bs
namespace Bs
open PySem PySem.Spec PyProof.Rows L2
end Bs
namespace Bs
open PySem L2
noncomputable def qoP:R2:=fun x y H Q=>y=.non∧Q (.bl (decide (x=.non))) H
noncomputable def qob:R2:=fun x y H Q=>y=.non∧Q (.bl (!decide (x=.non))) H
noncomputable def qou (_ j:Int):Prop:=0<j
noncomputable def qmr (_ j:Int):Prop:=j≠0
noncomputable abbrev qe9:R2:=rI qou fun i j=>.int (i / j)
noncomputable abbrev qhK:R2:=rI qmr fun i j=>.int (i.fdiv j)
noncomputable def Itz (K:W.Frag) (a b:Addr):It:=
  ⟨fun i H=>∃ xs ys x y,SqL K H a xs∧SqL K H b ys∧xs[i]?=some x∧ys[i]?=some y,fun i H v H'=>∃ p x y,H p=none∧v=.ref p∧H'=upd H p (.tup [x,y])∧(∀ xs,SqL K H a xs→xs[i]?=some x)∧∀ ys,SqL K H b ys→ys[i]?=some y,fun i H=>∃ xs ys,SqL K H a xs∧SqL K H b ys∧xs.length≤i⟩
noncomputable def qoQ (K:W.Frag) (ta:TA):TI:=fun σ H R=>ta σ H fun vs H1=>∃ a b,vs=[.ref a,.ref b]∧(∃ xs,SqL K H1 a xs)∧(∃ ys,SqL K H1 b ys)∧R (Itz K a b) H1
noncomputable def qd5 (wi:TI) (capt:List (Option Nat)) (g:TG) (tc:TT) (te:TE):TE:=fun σ H Q=>wi σ H fun J H1=>∃ (n:Nat) (W:Nat→List V→Hp→Prop),W 0 [] H1∧∀ i ys H,W i ys H→i≤n∧ys.length≤sizeLine∧
  ((J.stop i H∧∀ p,H p=none→Q (.ref p) (upd H p (.lst ys)))∨(i<n∧J.go i H∧∀ x H',J.yld i H x H'→g x (qb2 capt σ) H' fun σ2 H2=>tc σ2 H2 fun b H3=>if b=true then te σ2 H3 fun y H4=>W (i+1) (ys++[y]) H4 else W (i+1) ys H3))
noncomputable def CompF (J:It) (capt:List (Option Nat)) (g:TG) (tc:TT) (te:TE) (σ:L2.St) (Q:VK) (H1:Hp):Prop:=∃ (n:Nat) (W:Nat→List V→Hp→Prop),W 0 [] H1∧∀ i ys H,W i ys H→i≤n∧ys.length≤sizeLine∧
  ((J.stop i H∧∀ p,H p=none→Q (.ref p) (upd H p (.lst ys)))∨(i<n∧J.go i H∧∀ x H',J.yld i H x H'→g x (qb2 capt σ) H' fun σ2 H2=>tc σ2 H2 fun b H3=>if b=true then te σ2 H3 fun y H4=>W (i+1) (ys++[y]) H4 else W (i+1) ys H3))
section
variable {K:W.Frag} {ta:TA} {tl:TE} {capt:List (Option Nat)} {g:TG} {tc:TT} {te:TE} {tb:TS} {D:Ends} {σ:L2.St} {H:Hp} {Q:VK} {a b:Addr} {xs ys:List V}
theorem qkg:qd5 (qcu K tl) capt g tc te σ H Q=tl σ H (fun x H1=>∃ a,x=.ref a∧(∃ xs,SqL K H1 a xs)∧CompF (Itl K a) capt g tc te σ Q H1):=rfl
theorem qlM:qbL (qoQ K ta) capt g te σ H Q=ta σ H (fun vs H1=>∃ a b,vs=[.ref a,.ref b]∧(∃ xs,SqL K H1 a xs)∧(∃ ys,SqL K H1 b ys)∧CompJ (Itz K a b) capt g te σ Q H1):=rfl
theorem CompF.lst (W:Nat→List V→Hp→Prop) (h0:W 0 [] H) (hb:∀ i ys H,W i ys H→i≤xs.length∧ys.length≤sizeLine∧SqL K H a xs)
    (hs:∀ i x ys H,xs[i]?=some x→W i ys H→g x (qb2 capt σ) H fun σ2 H2=>tc σ2 H2 fun b H3=>if b=true then te σ2 H3 fun y H4=>W (i+1) (ys++[y]) H4 else W (i+1) ys H3) (hd:∀ ys H,W xs.length ys H→∀ p,H p=none→Q (.ref p) (upd H p (.lst ys))):CompF (Itl K a) capt g tc te σ Q H:=by
  refine ⟨xs.length,W,h0,fun i ys H w=>⟨(hb i ys H w).1,(hb i ys H w).2.1,?_⟩⟩
  have q:SqL K H a xs:=(hb i ys H w).2.2
  by_cases h:i<xs.length
  · refine .inr ⟨h,⟨xs,xs[i],q,by simp [h]⟩,fun x H' y=>?_⟩
    obtain ⟨e,y⟩:=y
    subst e
    exact hs i x ys _ (y xs q) w
  · have e:i=xs.length:=Nat.le_antisymm (hb i ys H w).1 (Nat.not_lt.mp h)
    subst e
    exact .inl ⟨⟨xs,q,Nat.le_refl _⟩,hd ys H w⟩
theorem CompJ.zip (hl:xs.length=ys.length) (W:Nat→List V→Hp→Prop) (h0:W 0 [] H) (hb:∀ i zs H,W i zs H→i≤xs.length∧zs.length≤sizeLine∧SqL K H a xs∧SqL K H b ys)
    (hs:∀ i x y zs H p,xs[i]?=some x→ys[i]?=some y→W i zs H→H p=none→g (.ref p) (qb2 capt σ) (upd H p (.tup [x,y])) fun σ2 H2=>te σ2 H2 fun z H3=>W (i+1) (zs++[z]) H3) (hd:∀ zs H,W xs.length zs H→∀ p,H p=none→Q (.ref p) (upd H p (.lst zs))):CompJ (Itz K a b) capt g te σ Q H:=by
  refine ⟨xs.length,W,h0,fun i zs H w=>⟨(hb i zs H w).1,(hb i zs H w).2.1,?_⟩⟩
  obtain ⟨_,_,q,q2⟩:=hb i zs H w
  by_cases h:i<xs.length
  · refine .inr ⟨h,⟨xs,ys,xs[i],ys[i],q,q2,by simp [h],by simp [hl ▸ h]⟩,fun v H' y=>?_⟩
    obtain ⟨p,x,y,hp,e1,e2,h1,h2⟩:=y
    subst e1 e2
    exact hs i x y zs _ p (h1 xs q) (h2 ys q2) w hp
  · have e:i=xs.length:=Nat.le_antisymm (hb i zs H w).1 (Nat.not_lt.mp h)
    subst e
    exact .inl ⟨⟨xs,ys,q,q2,Nat.le_refl _⟩,hd zs H w⟩
end
noncomputable def qnc:V→Hp→VK→Prop:=fun x H Q=>∃ (p:Addr) (ns:List Int),x=.ref p∧H p=some (.lst (ns.map V.int))∧∀ m:Int,(ns=[]∧m=0∨m∈ns)→Q (.int m) H
noncomputable def qoc (te:TE):TE:=fun σ H Q=>te σ H fun x H1=>qnc x H1 Q
noncomputable def qod:List V→Hp→VK→Prop:=fun xs H Q=>∃ (p:Addr) (ns:List Int),xs=[.ref p]∧H p=some (.lst (ns.map V.int))∧Q (.bl (ns.any fun z=>!decide (z=0))) H
end Bs
namespace Bs
open PySem PySem.Spec PyProof.Rows L2
section
variable {X:Cx} {pins:List (Addr×Obj)} {σ:L2.St} {H:Hp} {s:Shared}
theorem qcL:OpR X (binaryOp .FloorDiv) qhK:=by
  intro pins s σ H x y v u Q I rx ry ⟨i,j,ex,ey,hc,q⟩
  subst ex ey
  obtain ⟨t,rfl⟩:=rx
  obtain ⟨t2,rfl⟩:=ry
  exact floordiv_int hc ⟨.int (i.fdiv j),H,I.tok _,⟨_,rfl⟩,q⟩ (Or.inr (I.ok.plr s I.bk))
theorem qbM:OpR X (binaryOp .FloorDiv) qe9:=by
  intro pins s σ H x y v u Q I rx ry ⟨i,j,ex,ey,hc,q⟩
  have hc':0<j:=hc
  replace q:Q (.int (i / j)) H:=q
  rw [← Int.fdiv_eq_ediv_of_nonneg i (Int.le_of_lt hc')] at q
  exact qcL pins s σ H x y v u Q I rx ry ⟨i,j,ex,ey,Int.ne_of_gt hc',q⟩
theorem qiG {fp:List Addr} {g:Heap} {tk:Nat} (I:Inv X pins σ H s) (ff:∀ b∈fp,qf9 X pins H b) (k:∀ b o,b∉fp→s.heap.get? b=some o→g.get? b=some o):Inv X pins σ H { s with heap:=g,toks:=tk }:=by
  have tr:∀ b u,H b=some u→b∉fp:=fun b u q hb=>by rw [(ff b hb).1] at q;cases q
  refine I.step (g':=s.gens) (d':=s.drawn) (ch:=fp) (fun b hb=>⟨(ff b hb).2.2.2.1,(ff b hb).2.1,(ff b hb).2.2.2.2.1,(ff b hb).2.2.2.2.2⟩) (fun b o _ _ hc q _=>k b o hc q) (fun b o _ _ hc q _=>⟨o.slots,k b o hc q⟩) (fun _ _ _ _ n=>n)
    (fun b o hc q=>⟨o,k b o hc q⟩) (fun _ _ q=>q) (fun _ _ _ q=>q) (fun b ps q=>⟨#[],by rw [q];simp⟩) (fun m hm=>?_) (fun b u q=>?_) I.bare
  · obtain ⟨o,es,ep,ho,hr⟩:=hm
    exact ⟨o,es,ep,k _ o (fun hb=>(ff _ hb).2.1 rfl) ho,hr⟩
  · refine (I.hok b u q).stay (fun c v hc z=>?_) (fun _ z=>z) fun _ _ z=>z
    rcases hc with y | y
    · subst y;exact k _ v (tr _ u q) z
    · exact k c v (tr c _ y) z
theorem qiH {fp:List Addr} {g:Heap} {tk:Nat} {xs:List V} {its:List Value} (I:Inv X pins σ H s) (ff:∀ b∈fp,qf9 X pins H b) (k:∀ b o,b∉fp→s.heap.get? b=some o→g.get? b=some o)
    (hz:xs.length≤sizeLine) (rv:Vals xs its) (ht:g.get? s.heap.objs.size=some { cls:=.type "tuple", data:=.seq its.toArray }):Inv X pins σ (upd H s.heap.objs.size (.tup xs)) { s with heap:=g,toks:=tk }:=by
  have nT:H s.heap.objs.size=none:=I.hok.fresh (Nat.le_refl _)
  have tn:∀ b u,H b=some u→b≠s.heap.objs.size:=fun b u q=>qam q nT
  have tr:∀ b u,H b=some u→b∉fp:=fun b u q hb=>by rw [(ff b hb).1] at q;cases q
  refine I.step (g':=s.gens) (d':=s.drawn) (ch:=fp) (fun b hb=>⟨(ff b hb).2.2.2.1,(ff b hb).2.1,(ff b hb).2.2.2.2.1,(ff b hb).2.2.2.2.2⟩) (fun b o _ _ hc q _=>k b o hc q) (fun b o _ _ hc q _=>⟨o.slots,k b o hc q⟩) (fun b o _ q n=>?_)
    (fun b o hc q=>⟨o,k b o hc q⟩) (fun b ys q=>?_) (fun b o u q=>?_) (fun b ps q=>⟨#[],?_⟩) (fun m hm=>?_) (fun b u q=>?_) I.bare
  · rw [qak (Nat.ne_of_lt (Heap.lt_size q))];exact n
  · rw [qak (tn b _ q)];exact q
  · rw [qak (tn b _ q)];exact q
  · rw [qak (tn b _ q),q];simp
  · obtain ⟨o,es,ep,ho,hr⟩:=hm
    exact ⟨o,es,ep,k _ o (fun hb=>(ff _ hb).2.1 rfl) ho,hr⟩
  · by_cases hb:b=s.heap.objs.size
    · subst hb
      rw [qad] at q
      cases q
      exact ⟨hz,its,rv,⟨_,ht,rfl,_,rfl⟩⟩
    · rw [qak hb] at q
      refine (I.hok b u q).stay (fun c v hc z=>?_) (fun c z=>by rw [qak (tn c _ z)];exact z) fun c ys z=>by rw [qak (tn c _ z)];exact z
      rcases hc with y | y
      · subst y;exact k _ v (tr _ u q) z
      · exact k c v (tr c _ y) z
end
section
variable {X:Cx} {elts:List Expr} {k:Nat} {tpos:Pos} {a b:Expr} {ta:TA} {p pos:Pos}
theorem vals2 {x y:V} {us:List Value} (r:Vals [x,y] us):∃ u v,us=[u,v]∧RelV x u∧RelV y v:=r.two
end
section
variable {X:Cx}
end
section
variable {prog:Program} {w:World} {A:Around} {R:Result→Shared→Prop} {I:Addr} {fp wr:List Addr} {n:Nat} {P:Nat→Value→Prop} {St:Nat→Heap→Prop} {d:Value}
end
section
variable {X:Cx} {e:Expr} {te:TE} {p pos kp1 kp2:Pos} {kk:Nat}
end
end Bs
namespace Bs
open PySem PySem.Spec PyProof.Rows L2
section
variable {X:Cx} {pins:List (Addr×Obj)} {σ:L2.St} {H:Hp} {s:Shared} {N:List Str} {capt:List (Option Nat)} {scope:Scope} {cl:List (Str×Addr)} {C:Addr} {fp:List Addr}
theorem qfQ {prog:Program} {w:World} {A:Around} {R:Result→Shared→Prop} {s:Shared} {elt target iter c:Expr} {scope:Scope} {pos:Pos} {it acc:Value} {env:Env} (I:Nat→Shared→Prop)
    (turn:∀ n s,I n s→wpAny (model prog w) A (pyNext it) (fun r s₁=>match r with
      | none=>R (.ok .next) s₁
      | some v=>wpAny (model prog w) A (letOwnedTupleGo target it v) (fun _ s₂=>wpAny (model prog w) A (assign target env v) (fun _ s₃=>wpAny (model prog w) A (isTrue c env (eval c env)) (fun okb s₆=>if okb=true then wpAny (model prog w) A (eval elt env) (fun x s₄=>
          wpAny (model prog w) A (call (.builtin "list.append") [acc,x]) (fun _ s₅=>∃ m,m<n∧I m s₅) (fun _ _=>False) s₄) (fun _ _=>False) s₆ else ∃ m,m<n∧I m s₆) (fun _ _=>False) s₃) (fun _ _=>False) s₂) (fun _ _=>False) s₁) (fun _ _=>False) s)
    (n:Nat) (h:I n s):codeAny (model prog w) A (.compLoop (.ListComp elt [⟨target,iter,[c],0⟩] scope pos) 0 it acc env) R s:=by
  refine codeAny_loop rfl I (fun n s hI=>?_) n h
  show wpAny _ A ((compTurn (.ListComp elt [⟨target,iter,[c],0⟩] scope pos) 0 it acc env).onRaise (fun x=>do noteFrame x env;theTreesLotGoes x)) _ _ s
  refine wpAny_noted ?_
  rw [compTurn_list]
  have no:∀ {E':Value→Shared→Prop} (e:Value) (s':Shared),(fun (_:Value) (_:Shared)=>False) e s'→E' e s':=fun _ _ f=>f.elim
  refine wpAny_bind (wpAny_standAt (wpAny_bind (wpAny_mono (turn n s hI) (fun r s₁ h₁=>?_) no)))
  cases r with
  | none=>exact wpAny_pure h₁
  | some v=>
    refine wpAny_bind (wpAny_mono h₁ (fun _ s₂ h₂=>?_) no)
    refine wpAny_bind (wpAny_mono h₂ (fun _ s₆ h₆=>wpAny_bind (wpAny_tests_one (wpAny_mono h₆ (fun okb s₃ h₃=>?_) no))) no)
    cases okb with
    | false=>exact wpAny_pure ⟨rfl,h₃⟩
    | true=>exact wpAny_bind (wpAny_bind (wpAny_mono h₃ (fun x s₄ h₄=>wpAny_bind (wpAny_mono h₄ (fun _ s₅ h₅=>wpAny_pure (wpAny_pure ⟨rfl,h₅⟩)) no)) no))
theorem qeF {elt iter tg c:Expr} {tc:TT} {pos:Pos} {wi:TI} {g:TG} {te:TE} {pins:List (Addr×Obj)} {s:Shared} {σ:L2.St} {H:Hp} {Q:VK} (RR:Value→Addr→Result→Shared→Prop) (hc:X.calm=true) (B:BlkOk X N capt scope cl) (hi:PI X tg iter wi)
    (hg:∀ C s H fp,PG (blk X N scope cl C s H fp) tg g) (ht:∀ C s H fp,PT (blk X N scope cl C s H fp) c tc) (he:∀ C s H fp,PE (blk X N scope cl C s H fp) elt te) (I:Inv X pins σ H s) (h:qd5 wi capt g tc te σ H Q)
    (fin:∀ (D C:Addr) (s4:Shared) (Hq:Hp) (m:Str→Option Value),Inv X pins σ Hq s4→Q (.ref D) Hq→s4.heap.Ns C m→Hq C=none→C≠X.env.locals→X.s₀.heap.objs.size≤C→(∀ x c,X.env.cells.lookup x=some c→c≠C)→(∀ p∈X.pn++pins,p.1≠C)→RR (.ref D) C (.ok .next) s4) :
    wpAny (model X.prog X.w) X.A (eval iter X.env) (fun x s₁=>wpAny (model X.prog X.w) X.A (pyIter x) (fun it s₂=>wpAny (model X.prog X.w) X.A (newList []) (fun acc s₃=>
      wpAny (model X.prog X.w) X.A (newFunctionEnv scope X.env.globals cl [] X.env.qual none .none (some X.env)) (fun cenv s₄=>
        codeAny (model X.prog X.w) X.A (.compStart (.ListComp elt [⟨tg,iter,[c],0⟩] scope pos) 0 it acc { cenv with scope:=relabel scope X.env }) (RR acc cenv.locals) s₄) X.xe s₃) X.xe s₂) X.xe s₁) X.xe s:=by
  refine thn (hi pins s σ H _ I h) fun v s1 h1=>thn h1 fun itv s2 h2=>?_
  obtain ⟨it,fp,tn,J,H2,e,I2,T,st2,f2,n0,W,w0,turn⟩:=h2
  subst e
  have fl:∀ b∈fp,b<s2.heap.objs.size:=fun b hb=>by obtain ⟨o,e,_⟩:=T.obj _ _ st2 b hb;exact Heap.lt_size e
  refine wpAny_newObj_type (wpAny_newFunctionEnv B.nocell (by intro y hy;simp at hy) (fun h₁ hns₁ hsb₁=>?_) B.kind)
  dsimp only at hns₁ hsb₁ ⊢
  generalize hG:s2.heap.push { cls:=.type "list", dict:=none,data:=.seq ([]:List Value).toArray }=G at hns₁ hsb₁ ⊢
  have hC:G.objs.size=s2.heap.objs.size+1:=by rw [← hG,Heap.size_push]
  have hCle:s2.heap.objs.size≤G.objs.size:=by rw [hC];exact Nat.le_succ _
  have hDC:s2.heap.objs.size≠G.objs.size:=by rw [hC];exact Nat.ne_of_lt (Nat.lt_succ_self _)
  have old:∀ b o,s2.heap.get? b=some o→h₁.get? b=some o:=fun b o e=>hsb₁.extBut b o (by rw [hC];exact Nat.ne_of_lt (Nat.lt_succ_of_lt (Heap.lt_size e))) (Heap.get?_push_of_some _ (hG ▸ Heap.get?_push_of_some _ e))
  have hacc:h₁.get? s2.heap.objs.size=some { cls:=.type "list", data:=.seq ([]:List Value).toArray }:=hsb₁.extBut _ _ hDC (Heap.get?_push_of_some _ (hG ▸ Heap.get?_push_size _ rfl))
  have ok':=qiz B I2 f2 fl hCle
  have nsD:s2.heap.objs.size∉frs X.stack:=fun hb=>by
    rcases List.mem_cons.mp (I2.stkSub _ hb) with z | z
    · exact absurd I2.lt (by rw [← z];exact Nat.lt_irrefl _)
    · exact I2.nofs (Nat.le_refl _) z
  have ncD:∀ x c,cl.lookup x=some c→c≠s2.heap.objs.size:=fun x c e z=>by
    obtain ⟨v,q⟩:=I2.cell x c (B.cells x c e)
    exact absurd q.lt (by rw [z];exact Nat.lt_irrefl _)
  have nfD:∀ b∈fp,s2.heap.objs.size≠b:=fun b hb z=>absurd (fl b hb) (by rw [← z];exact Nat.lt_irrefl _)
  have I₁:Inv (blk X N scope cl G.objs.size s2 H2 fp) [] (qb2 capt σ) H2 { s2 with heap:=h₁,toks:=s2.toks+([]:List (Str×Value)).length }:=qiA B I2 f2 fl hCle hns₁ old
  have loop:codeAny (model X.prog X.w) X.A (.compLoop (.ListComp elt [⟨tg,iter,[c],0⟩] scope pos) 0 (.ref it) (.ref s2.heap.objs.size) (compEnvC scope cl G.objs.size X.env))
      (RR (.ref s2.heap.objs.size) G.objs.size) { s2 with heap:=h₁,toks:=s2.toks+([]:List (Str×Value)).length }:=by
    refine qfQ (fun n s'=>∃ (i:Nat) (ys:List V) (its:List Value) (k:Nat) (Hc:Hp),Inv (blk X N scope cl G.objs.size s2 H2 fp) [] (qb2 capt σ) Hc s'∧s'.heap.get? s2.heap.objs.size=some { cls:=.type "list", data:=.seq its.toArray k }∧Vals ys its∧
      Hc s2.heap.objs.size=none∧tn i s'.heap∧(∀ b∈fp,Hc b=none)∧W i ys Hc∧n=n0 - i) ?_ n0 ⟨0,[],[],0,H2,I₁,hacc,.nil,I2.hok.fresh (Nat.le_refl _),T.keep _ _ _ st2 (fun b _ o e=>old b o e),fun b hb=>(f2 b hb).1,w0,rfl⟩
    rintro n s3 ⟨i,ys,its,k,Hc,I3,hD,hv,nD,st3,fr3,w3,en⟩
    obtain ⟨_,hl,step⟩:=turn i ys Hc w3
    have hz:its.toArray.size≤sizeLine:=by rw [List.size_toArray,← hv.length];exact hl
    have I3p:Inv (blk X N scope cl G.objs.size s2 H2 fp) [(s2.heap.objs.size,{ cls:=.type "list", data:=.seq its.toArray k })] (qb2 capt σ) Hc s3:=I3.pins_of fun p hp=>by
      rw [List.mem_singleton] at hp
      subst hp
      exact ⟨hD,nD,hDC,nsD,fun v z=>nomatch z⟩
    have fo3:∀ {Hx:Hp} (_:∀ b∈fp,Hx b=none),∀ b∈fp,qf9 (blk X N scope cl G.objs.size s2 H2 fp) [(s2.heap.objs.size,{ cls:=.type "list", data:=.seq its.toArray k })] Hx b:=fun hx b hb=>
      ⟨hx b hb,(ok'.exf b hb).1,ok'.exfs b hb,.inl hb,(ok'.exf b hb).2,fun p hp=>by
        have hp':p∈[((s2.heap.objs.size,{ cls:=.type "list", data:=.seq its.toArray k }):Addr×Obj)]:=hp
        rw [List.mem_singleton] at hp'
        subst hp'
        exact nfD b hb⟩
    rcases step with ⟨stop,q⟩ | ⟨ltn,go,nxt⟩
    · refine thn (T.done (blk X N scope cl G.objs.size s2 H2 fp) rfl rfl rfl hc i _ s3 _ Hc _ I3p (fo3 fr3) st3 stop) fun r s4 ⟨hr,I4⟩=>?_
      subst hr
      have hD4:=(I4.pin (s2.heap.objs.size,{ cls:=.type "list", data:=.seq its.toArray k }) (List.mem_append_right _ (List.mem_singleton.mpr rfl))).1
      obtain ⟨m,hn,_⟩:=I4.loc
      have nDt:∀ b u,Hc b=some u→b≠s2.heap.objs.size:=fun b u e z=>by rw [z,nD] at e;cases e
      have oldC:∀ b o,s2.heap.get? b=some o→b≠s2.heap.objs.size:=fun b o e=>Nat.ne_of_lt (Heap.lt_size e)
      have ub:Un (frs X.stack) fp H2 Hc s2.heap s4.heap:=I4.base
      have cC:∀ b,b<s2.heap.objs.size→b≠G.objs.size:=fun b hb z=>absurd (Nat.lt_of_lt_of_le hb hCle) (by rw [z];exact Nat.lt_irrefl _)
      refine fin _ G.objs.size s4 (upd Hc s2.heap.objs.size (.lst ys)) m ?_ (q _ nD) hn (by rw [qak (fun z=>hDC z.symm)];exact I4.free) (fun z=>cC _ I2.lt z.symm) (Nat.le_trans I2.sz hCle)
        (fun x c e=>by obtain ⟨v,q⟩:=I2.cell x c e;exact cC _ q.lt) fun p hp=>cC _ (Heap.lt_size (I2.pin p hp).1)
      refine I2.call' (ch:=fp) (s':=s4) I4.os ?_ ?_ I4.bare fun b hb=>⟨(f2 b hb).2.2.2.1,(f2 b hb).2.1,(f2 b hb).2.2.2.2.1,(f2 b hb).2.2.2.2.2⟩
      · refine ⟨ub.keep,ub.slot,fun b o e n hx=>?_,ub.there,fun b xs e=>?_,fun b o u e=>?_,fun b ps e=>?_⟩
        · rw [qak (oldC b o e)];exact ub.free b o e n hx
        · have z:=ub.tups b xs e
          rw [qak (nDt b _ z)];exact z
        · have z:=ub.frzs b o u e
          rw [qak (nDt b _ z)];exact z
        · obtain ⟨more,z⟩:=ub.tbls b ps e
          exact ⟨more,by rw [qak (nDt b _ z)];exact z⟩
      · intro b u e
        by_cases hb:b=s2.heap.objs.size
        · subst hb
          rw [qad] at e
          cases e
          exact ⟨hl,its,k,hv,hD4⟩
        · rw [qak hb] at e
          exact (I4.hok b u e).stay (fun c v _ q=>q) (fun c q=>by rw [qak (nDt c _ q)];exact q) fun c xs q=>by rw [qak (nDt c _ q)];exact q
    · refine thn (T.item (blk X N scope cl G.objs.size s2 H2 fp) rfl rfl rfl hc i _ s3 _ Hc _ I3p (fo3 fr3) st3 go) fun r s4 ⟨u,hr,h4⟩=>?_
      subst hr
      refine thn h4 fun _ s5 ⟨x,H5,I5,r5,y5,st5,fr5⟩=>?_
      have I5':=I5.pinned (fo3 fr5) (T.obj _ _ st5)
      refine thn (hg _ _ _ _ _ s5 _ H5 x u _ I5' r5 (nxt x H5 y5)) fun _ s6 ⟨σ6,H6,I6,q6⟩=>?_
      refine thn (ht _ _ _ _ _ s6 σ6 H6 _ I6 q6) fun okb s9 ⟨H9,I9,q9⟩=>?_
      have pF9:∀ b∈fp,∀ o,s5.heap.get? b=some o→s9.heap.get? b=some o∧H9 b=none:=fun b hb o e=>by
        have z:=I9.pin (b,o) (List.mem_append_right _ (List.mem_append_right _ (qbD hb e)))
        exact ⟨z.1,z.2.1⟩
      cases okb with
      | false=>
        have w9:W (i+1) ys H9:=q9
        have pD9:=I9.pin (s2.heap.objs.size,{ cls:=.type "list", data:=.seq its.toArray k }) (List.mem_append_right _ (List.mem_append_left _ (List.mem_singleton.mpr rfl)))
        have I9n:Inv (blk X N scope cl G.objs.size s2 H2 fp) [] σ6 H9 s9:=I9.pins_of fun p hp=>nomatch hp
        exact ⟨n0 - (i+1),by omega,i+1,ys,its,k,H9,qd4 B I2 f2 I9n,pD9.1,hv,pD9.2.1,T.keep _ _ _ st5 (fun b hb o e=>(pF9 b hb o e).1),(fun b hb=>by
          obtain ⟨o,e,_⟩:=T.obj _ _ st5 b hb
          exact (pF9 b hb o e).2),w9,rfl⟩
      | true=>
      replace q9:te σ6 H9 fun y H4=>W (i+1) (ys++[y]) H4:=q9
      refine thn (he _ _ _ _ _ s9 σ6 H9 _ I9 q9) fun uy s7 ⟨y,H7,I7,r7,w7⟩=>?_
      have pD:=I7.pin (s2.heap.objs.size,{ cls:=.type "list", data:=.seq its.toArray k }) (List.mem_append_right _ (List.mem_append_left _ (List.mem_singleton.mpr rfl)))
      have pF:∀ b∈fp,∀ o,s5.heap.get? b=some o→s7.heap.get? b=some o∧H7 b=none:=fun b hb o e=>by
        have z:=I7.pin (b,o) (List.mem_append_right _ (List.mem_append_right _ (qbD hb e)))
        exact ⟨z.1,z.2.1⟩
      refine append_at (hsz:=hz) pD.1 fun h8 sb8 hD8=>?_
      have I7n:Inv (blk X N scope cl G.objs.size s2 H2 fp) [] σ6 H7 s7:=I7.pins_of fun p hp=>nomatch hp
      have I8:Inv (blk X N scope cl G.objs.size s2 H2 fp) [] σ6 H7 { s7 with heap:=h8,toks:=s7.toks }:=I7n.turned (fun b o hb e=>sb8.extBut b o hb e) pD.2.1 hDC (.inr (Nat.le_refl _)) ncD (fun p hp=>nomatch hp)
      refine ⟨n0 - (i+1),by omega,i+1,ys++[y],its++[uy],k+1,H7,qd4 B I2 f2 I8,?_,Paired.snoc hv r7,pD.2.1,T.keep _ _ _ st5 (fun b hb o e=>sb8.extBut b o (nfD b hb).symm (pF b hb o e).1),fun b hb=>?_,w7,rfl⟩
      · show h8.get? _=_
        rw [hD8,List.push_toArray]
      · obtain ⟨o,e,_⟩:=T.obj _ _ st5 b hb
        exact (pF b hb o e).2
  exact codeAny_compStart_list loop (T.self X.A 0 _ _ _ (T.keep _ _ _ st2 (fun b _ o e=>old b o e)) loop)
theorem qkh {elt iter tg c:Expr} {tc:TT} {pos:Pos} {wi:TI} {g:TG} {te:TE} (hc:X.calm=true) (B:BlkOk X N capt scope cl) (hi:PI X tg iter wi)
    (hg:∀ C s H fp,PG (blk X N scope cl C s H fp) tg g) (ht:∀ C s H fp,PT (blk X N scope cl C s H fp) c tc) (he:∀ C s H fp,PE (blk X N scope cl C s H fp) elt te)
    (hs:∀ x,foldedSetIterable iter X.env x=pure x:=by intro _;rfl):PE X (.ListComp elt [⟨tg,iter,[c],0⟩] scope pos) (qd5 wi capt g tc te):=by
  intro pins s σ H Q I h
  rw [eval_ListComp]
  refine wpAny_comprehension_free (use:=none) rfl hs B.clos B.kind B.names (qeF (fun acc C=>compPost (model X.prog X.w) X.A X.xe none (EP X pins σ Q) acc C) hc B hi hg ht he I h fun D C s4 Hq m I4 q hn hf h1 h2 h3 h4=>?_)
  exact ⟨m,hn,fun h' sb=>⟨.ref D,Hq,I4.turned (fun b o hb e=>sb.extBut b o hb e) hf h1 (.inr h2) h3 h4,rfl,q⟩⟩
end
end Bs
namespace Bs
open PySem L2
noncomputable def sS (K:W.Frag):V→Option Int→Option Int→Hp→VK→Prop:=fun x lo hi H Q=>∃ a xs,x=.ref a∧SqL K H a xs∧∀ p,H p=none→Q (.ref p) (upd H p (.lst (qjF xs lo hi)))
noncomputable def qoe:List V→Hp→VK→Prop:=fun xs H Q=>∃ (p:Addr) (ns:List Int),xs=[.ref p]∧H p=some (.lst (ns.map V.int))∧Q (.int ns.sum) H
end Bs
namespace Bs
open PySem PySem.Spec PyProof.Rows L2
section
variable {X:Cx}
theorem qiI:SlR X (sS X.K):=qls
end
end Bs
namespace Bs
open PySem L2
noncomputable def qof (n:Nat) (t:TGs):TG:=fun v σ H Q=>∃ a xs,v=.ref a∧H a=some (.lst xs)∧xs.length=n∧t xs σ H Q
end Bs
namespace Bs
open PySem PySem.Spec PyProof.Rows L2
theorem qnd {m n:Nat} {a b:Int} (ha:Bd m a) (hb:Bd n b) (h:m+n≤134217728):IntMulOk a b:=IntMulOk.of_le (qiw ha) (qiw hb) h
end Bs
namespace Bs
open PySem L2
end Bs
namespace Bs
open PySem PySem.Spec PyProof.Rows L2
end Bs
namespace Bs
open PySem L2
end Bs
namespace Bs
open PySem PySem.Spec PyProof.Rows L2
end Bs
namespace Bs
open PySem L2
end Bs
namespace Bs
open PySem PySem.Spec PySem.Calls PyProof.Rows L2
section
variable {X:Cx}
theorem Inv.dK {pins:List (Addr×Obj)} {σ:L2.St} {H:Hp} {s:Shared} {p:Addr} {kvs:List (Key×V)} (I:Inv X pins σ H s) (h:H p=some (.dK kvs)) :
    kvs.length≤sizeLine∧(p == sysModules)=false∧∃ vs,KV kvs vs∧s.heap.DictOf (qeW X.prog X.w) p vs:=I.hok p _ h
end
end Bs
namespace Bs
open PySem PySem.Spec PySem.Calls PyProof.Rows L2
section
variable {X:Cx} {pos:Pos}
end
end Bs
namespace Bs
open PySem L2
end Bs
namespace Bs
open PySem PySem.Spec PySem.Calls PyProof.Rows L2
section
variable {X:Cx}
end
end Bs
namespace Bs
open PySem PySem.Spec PyProof.Rows L2
end Bs
namespace Bs
open PySem PySem.Spec PyProof.Rows L2
end Bs
namespace Bs
open PySem PySem.Spec PyProof.Rows L2
section
variable {X:Cx} {pins:List (Addr×Obj)} {σ:L2.St} {H:Hp} {s:Shared} {N:List Str} {capt:List (Option Nat)} {scope:Scope} {cl:List (Str×Addr)} {C:Addr} {fp:List Addr}
theorem qki {i:Nat} {x:Str} {pos' spos:Pos} {elt iter tg c:Expr} {tc:TT} {pos:Pos} {wi:TI} {g:TG} {te:TE} (hN:X.N.Nodup) (hi':X.N[i]?=some x) (hx:Loc X.env.scope x) (hc:X.calm=true) (B:BlkOk X N capt scope cl) (hi:PI X tg iter wi)
    (hg:∀ C s H fp,PG (blk X N scope cl C s H fp) tg g) (ht:∀ C s H fp,PT (blk X N scope cl C s H fp) c tc) (he:∀ C s H fp,PE (blk X N scope cl C s H fp) elt te)
    (hsw:swapsWith (.ListComp elt [⟨tg,iter,[c],0⟩] scope pos) (some (.Name x pos')) spos.line X.env=pure true:=by rfl)
    (hs:∀ x,foldedSetIterable iter X.env x=pure x:=by intro _;rfl) (hf:X.fn x=true∨X.env.scope.names.lookup x=some .local:=by first | exact .inl rfl | exact .inr rfl | assumption) :
    PS X (.Assign [.Name x pos'] (.ListComp elt [⟨tg,iter,[c],0⟩] scope pos) spos) (qaH (qd5 wi capt g tc te) (qal i)):=by
  intro pins s σ H D I h
  rw [exec_Assign_Name_used _ _ _ _ hsw]
  refine wpAny_bind (wpAny_standAt (wpAny_bind ?_))
  show wpAny _ X.A (do let _ ← comprehension (.ListComp elt [⟨tg,iter,[c],0⟩] scope pos) scope X.env _ (newList []) false (eval iter X.env) (some (assign (.Name x pos') X.env))) _ _ s
  refine wpAny_bind (wpAny_mono (wpAny_comprehension_free (use:=some (assign (.Name x pos') X.env)) (Q:=fun _ s'=>SP X pins D .next s') rfl hs B.clos B.kind B.names
    (qeF (fun acc C=>compPost (model X.prog X.w) X.A X.xe (some (assign (.Name x pos') X.env)) (fun _ s'=>SP X pins D .next s') acc C) hc B hi hg ht he I h fun Da C s4 Hq m I4 q hn hfr h1 h2 h3 h4=>?_)) (fun _ s' hq=>wpAny_pure (wpAny_pure hq)) fun _ _ e=>e)
  show wpAny _ X.A (assign (.Name x pos') X.env (.ref Da)) _ _ _
  refine wpAny_assign_Name (qdX I4 hN hi' hx (v:=.ref Da) rfl (fun s5 I5 ⟨a,sb5,ha⟩=>⟨m,hn.sameBut sb5 ?_,fun h' sb=>⟨_,_,I5.turned (fun b o hb e=>sb.extBut b o hb e) hfr h1 (.inr h2) h3 h4,q⟩⟩) hf)
  rcases ha with z | z
  · rw [z];exact h1
  · exact fun e=>h3 x a z e.symm
end
end Bs
namespace Bs
open PySem L2
noncomputable def blN (i:Int):Nat:=if i=0 then 0 else i.natAbs.log2+1
noncomputable def qnT:R2:=rI (fun i j=>0≤j∧(blN i:Int)+j≤134217728) fun i j=>.int (i*2 ^ j.toNat)
noncomputable def qne:V→List V→Hp→VK→Prop:=fun x xs H Q=>∃ i:Int,x=.int i∧xs=[]∧Q (.int (blN i)) H
end Bs
namespace Bs
open PySem PySem.Spec PyProof.Rows L2
section
variable {X:Cx}
theorem qiJ:bootBuiltins "sorted" = some (.builtin "sorted"):=by decide +kernel
theorem qgO (i:Int):Builtin.Int.intBits i=blN i:=by unfold Builtin.Int.intBits blN;by_cases h:i=0 <;> simp [h]
theorem op_shl:OpR X (binaryOp .LShift) qnT:=opI fun _ _ _ _ _ _ _ hc q=>lshift_int hc.1 (by rw [qgO];exact hc.2) q
theorem qlN:MtR X "int.bit_length" qne:=by
  intro pins s σ H x xs v us Q I rx rv h
  obtain ⟨i,rfl,rfl,q⟩:=h
  obtain ⟨t,rfl⟩:=rx
  cases rv
  exact call_int_bit_length ⟨.int (blN i),H,I.tok _,⟨_,by rw [qgO]⟩,q⟩
end
section
variable {prog:Program} {w:World} {A:Around} {R:Result→Shared→Prop} {I:Addr} {fp wr:List Addr} {n:Nat} {P:Nat→Value→Prop} {St:Nat→Heap→Prop} {d:Value}
end
section
variable {X:Cx} {e:Expr} {te:TE} {p pos kp1 kp2:Pos} {kk:Nat}
end
end Bs
namespace Bs
open PySem L2
noncomputable def qnf (H:Hp) (us:List V) (kz:List Int):Prop:=kz.length=us.length∧∀ (i:Nat) (u:V) (k:Int),us[i]?=some u→kz[i]?=some k→∃ a y,u=.ref a∧H a=some (.tup [y,.int k])
noncomputable def qgP (P:Addr) (te:TE):TE:=fun σ H Q=>te σ H fun x H1=>∃ (l:Addr) (us:List V) (kz:List Int),x=.ref l∧H1 l=some (.lst us)∧us.length<64∧qnf H1 us kz∧H1 P=some (.tbl #[])∧
  ∀ (r:Addr) (qs:List (Int×V)) (more:Array Value),H1 r=none→qs.Perm (kz.zip us)→qs.Pairwise (fun p q=>p.1≤q.1)→Q (.ref r) (upd (upd H1 P (.tbl more)) r (.lst (qs.map (·.2))))
theorem qgQ {α β:Type} {g:α→β}:∀ {ps l:List β},ps.Perm l→∀ T:List α,l=T.map g→∃ T':List α,T'.Perm T∧ps=T'.map g:=by
  intro ps l h
  induction h with
  | nil=>intro T e;exact ⟨T,.refl _,e⟩
  | cons x _ ih=>
    intro T e
    cases T with
    | nil=>cases e
    | cons t T=>
      injection e with e1 e2
      obtain ⟨T',p,q⟩:=ih T e2
      exact ⟨t::T',p.cons t,by rw [List.map_cons,e1,q]⟩
  | swap x y l=>
    intro T e
    match T,e with
    | t::u::T,e=>
      injection e with e1 e2
      injection e2 with e2 e3
      exact ⟨u::t::T,.swap t u T,by rw [List.map_cons,List.map_cons,e1,e2,e3]⟩
  | trans _ _ ih1 ih2=>
    intro T e
    obtain ⟨T1,p1,q1⟩:=ih2 T e
    obtain ⟨T2,p2,q2⟩:=ih1 T1 q1
    exact ⟨T2,p2.trans p1,q2⟩
end Bs
namespace Bs
open PySem PySem.Spec PyProof.Rows L2
section
variable {X:Cx} {c P:Addr} {lp:Pos} {params:Arguments} {body:Expr} {scope:Scope}
theorem qkj {pins:List (Addr×Obj)} {s:Shared} {σ:L2.St} {H:Hp} {Q:Value→Shared→Prop} {E:Value→Shared→Prop} {ps:Array Value} (I:Inv X pins σ H s) (hcode:X.env.code=.ref c) (hC:PySem.W.CodeHd X.base c P) (hbt:X.base.BuiltinsAt X.mg P)
    (hcl:closureFor scope X.env=pure []) (hdef:defaultsOf params X.env=([],[])) (hP:H P=some (.tbl ps)) (ht:TriplesOk ps.toList) (hnf:codeAmong lp ps.toList=none)
    (k:∀ (f c':Addr) (ctv:Value) (h':Heap) (tk:Nat),Inv X pins σ (upd H P (.tbl (ps++#[rawInt lp.line,rawInt lp.col,.ref c']))) { s with heap:=h',toks:=tk }→h'.get? f=some (PySem.W.kla_obj "<lambda>" (X.env.qual ++ "<lambda>") params body scope [] ((X.mg "__name__").getD .none) c' ctv)→h'.CodeRec (.ref c') (X.env.qual ++ "<lambda>")→s.heap.objs.size≤f→(∀ b o,b≠P→s.heap.get? b=some o→h'.get? b=some o)→h'.objs.size=f+1→Q (.ref f) { s with heap:=h',toks:=tk }) :
    wpAny (model X.prog X.w) X.A (eval (.Lambda params body scope lp) X.env) Q E s:=by
  refine PySem.W.kla_eval hdef ?_
  have hPh:s.heap.get? P=some (PySem.W.tabObj ps):=I.hok P _ hP
  have gP:mainGlobals≠P:=fun z=>by
    obtain ⟨o,es,ep,e,_⟩:=I.mod.glob
    have:=(I.bs _ o e).2
    rw [z,hP] at this;cases this
  refine PySem.W.kla_makeFunction (mg:=X.mg) hcl I.ok.glob (I.mod.glob.keeps I.bk) hcode (hC.keeps I.bk) hPh ht hnf gP (hbt.keeps I.bk) fun c' ctv h' tk hx hge hlt hrec htb=>?_
  have kk:∀ (o':Obj) b o,b≠P→s.heap.get? b=some o→(h'.push o').get? b=some o:=fun o' b o n e=>Heap.get?_push_of_some _ (hx b o n e)
  have hP':∀ o',(h'.push o').get? P=some (PySem.W.tabObj (ps++#[rawInt lp.line,rawInt lp.col,.ref c'])):=fun o'=>Heap.get?_push_of_some _ htb
  have LP:X.env.locals≠P:=fun z=>by have:=I.free;rw [z,hP] at this;cases this
  refine k h'.objs.size c' ctv _ tk ?_ (Heap.get?_push_size _ rfl) ?_ (Nat.le_of_lt (Nat.lt_of_le_of_lt hge hlt)) (kk _) (Heap.size_push ..)
  · refine I.step (g':=s.gens) (d':=s.drawn) (t':=tk) (ch:=[]) (fun _ z=>nomatch z) (fun b o n _ _ e hn=>kk _ b o (fun z=>by rw [z,hP] at hn;cases hn) e) (fun b o n _ _ e hn=>⟨o.slots,kk _ b o (fun z=>by rw [z,hP] at hn;cases hn) e⟩) (fun b o _ e n=>?_) (fun b o _ e=>?_) (fun b xs e=>?_) (fun b o u e=>?_) (fun b qs e=>?_) (fun m hm=>(hm.extBut hx LP).push _) (fun b o e=>?_) I.bare
    · rw [qak (fun z=>by rw [z,hP] at n;cases n)];exact n
    · by_cases hb:b=P
      · exact ⟨_,by rw [hb];exact hP' _⟩
      · exact ⟨o,kk _ b o hb e⟩
    · rw [qak (qeq e hP (by intro z;cases z))];exact e
    · rw [qak (qeq e hP (by intro z;cases z))];exact e
    · by_cases hb:b=P
      · subst hb
        rw [hP] at e;cases e
        exact ⟨_,qad⟩
      · exact ⟨#[],by rw [qak hb,e];simp⟩
    · by_cases hb:b=P
      · subst hb
        rw [qad] at e;cases e
        exact hP' _
      · rw [qak hb] at e
        refine (I.hok b o e).stay (fun d u hd e'=>kk _ d u ?_ e') (fun d e'=>?_) fun d xs e'=>?_
        · rintro rfl
          rcases hd with z | z
          · exact hb z.symm
          · rw [hP] at z;cases z
        · rw [qak (qeq e' hP (by intro z;cases z))];exact e'
        · rw [qak (qeq e' hP (by intro z;cases z))];exact e'
  · obtain ⟨c2,o,vs,t,e1,e2,e3,e4⟩:=hrec
    exact ⟨c2,o,vs,t,e1,Heap.get?_push_of_some _ e2,e3,e4⟩
end
section
variable {prog:Program} {w:World} {A:Around} {E:Value→Shared→Prop} {s:Shared}
theorem qkk {R:Value→Shared→Prop} {f c' a:Addr} {name qual x:Str} {params:Arguments} {scope:Scope} {pm ctv:Value} {its:List Value} {k:Int} {t:Tok} {px pk ps:Pos} {kk:Nat} (hroom:A.depth<recursionLimit)
    (hf:s.heap.get? f=some (PySem.W.kla_obj name qual params (.Subscript (.Name x px) (.Constant (.int 1) kk pk) ps) scope [] pm c' ctv)) (hrec:s.heap.CodeRec (.ref c') qual) (nl:s.heap.NoLimit)
    (hbind:bindArgs (PySem.W.kla_fn name qual params (.Subscript (.Name x px) (.Constant (.int 1) kk pk) ps) scope [] pm (.ref c') ctv) ⟨[.ref a],[]⟩=pure [(x,.ref a)])
    (hloc:scope.names.lookup x=some .local) (hco:scope.isCoroutine=false) (hgen:scope.isGenerator=false) (hk:scope.kind=.function) (hcell:∀ x∈scope.names,x.2≠.cell) (hd:(x == ("__debug__" : Str))=false)
    (ha:IsTup s.heap a its.toArray) (h2:its.length=2) (hi:its[1]?=some (.int k t))
    (h:∀ h' tk,(∀ b o,s.heap.get? b=some o→h'.get? b=some o)→R (.int k t) { s with heap:=h',toks:=tk }):wpAny (model prog w) A (call (.ref f) [.ref a]) R E s:=by
  refine wpAny_call (PySem.W.kla_callFunE hroom hf rfl hco hgen rfl hrec ?_)
  show wpAny _ _ (bindArgs (PySem.W.kla_fn name qual params (.Subscript (.Name x px) (.Constant (.int 1) kk pk) ps) scope [] pm (.ref c') ctv) ⟨[.ref a],[]⟩) _ _ _
  rw [hbind]
  refine wpAny_pure (wpAny_newFunctionEnv hcell (fun y hy=>by rw [List.mem_singleton.mp hy];exact hloc) (fun h₁ hns hsb=>⟨nl.fresh _ hsb,?_⟩) hk)
  have kp:∀ b o,s.heap.get? b=some o→h₁.get? b=some o:=fun b o e=>hsb.extBut b o (Nat.ne_of_lt (Heap.lt_size e)) (Heap.get?_push_of_some _ e)
  have ha1:IsTup h₁ a its.toArray:=by
    obtain ⟨o,e,r⟩:=ha
    exact ⟨o,kp _ _ e,r⟩
  refine PySem.W.kla_codeExpr ?_
  refine Subscript_ (wpAny_Name (wpAny_loadName_local hk ?_ hns (v:=.ref a) ?_ ?_) hd)
  · exact hloc
  · show [(x,Value.ref a)].reverse.lookup x=_
    simp
  · refine wpAny_Constant_int ?_
    refine subscriptTail_builtinR (x:=.int k t) ha1.typeIs slot_tuple_getitem.lookup (getItem_tuple (j:=1) ha1 (by decide) (by decide) (by rw [List.size_toArray,h2];rfl) (by simpa using hi) ⟨rfl,h h₁ _ kp⟩) rfl
end
theorem qkl {T:List (Int×V×Value)} (h:∀ t∈T,RelV t.2.1 t.2.2):Vals (T.map fun t=>t.2.1) (T.map fun t=>t.2.2):=by
  induction T with
  | nil=>exact .nil
  | cons t T ih=>exact .cons (h t (List.mem_cons_self ..)) (ih fun u hu=>h u (List.mem_cons_of_mem _ hu))
theorem qoR {us:List V} {its:List Value} (r:Vals us its):∀ kz:List Int,(∀ t∈kz.zip (us.zip its),RelV t.2.1 t.2.2)∧kz.zip its=(kz.zip (us.zip its)).map (fun t=>(t.1,t.2.2))∧kz.zip us=(kz.zip (us.zip its)).map fun t=>(t.1,t.2.1):=by
  induction r with
  | nil=>intro kz;cases kz <;> exact ⟨(fun _ h=>nomatch h),rfl,rfl⟩
  | cons h t ih=>
    intro kz
    cases kz with
    | nil=>exact ⟨(fun _ h=>nomatch h),rfl,rfl⟩
    | cons k kz=>
      obtain ⟨a,b,c⟩:=ih kz
      refine ⟨fun t ht=>?_,?_,?_⟩
      · rcases List.mem_cons.mp ht with rfl | ht
        · exact h
        · exact a t ht
      · rw [List.zip_cons_cons,List.zip_cons_cons,List.zip_cons_cons,List.map_cons,b]
      · rw [List.zip_cons_cons,List.zip_cons_cons,List.zip_cons_cons,List.map_cons,c]
section
variable {X:Cx} {c P:Addr} {e:Expr} {te:TE} {p pos kp lp px pk ps:Pos} {params:Arguments} {scope:Scope} {x:Str} {kk:Nat}
theorem qkm (hcode:X.env.code=.ref c) (hC:PySem.W.CodeHd X.base c P) (hbt:X.base.BuiltinsAt X.mg P) (hroom:X.A.in1.in1.depth<recursionLimit) (hm:X.mg "sorted" = none) (ha:PE X e te)
    (hcl:closureFor scope X.env=pure []:=by rfl) (hdef:defaultsOf params X.env=([],[]):=by rfl)
    (hbind:∀ (qual:Str) (pm:Value) (c' a:Addr) (ctv:Value),bindArgs (PySem.W.kla_fn "<lambda>" qual params (.Subscript (.Name x px) (.Constant (.int 1) kk pk) ps) scope [] pm (.ref c') ctv) ⟨[.ref a],[]⟩=pure [(x,.ref a)]:=by intros;rfl)
    (hloc:scope.names.lookup x=some .local:=by rfl) (hco:scope.isCoroutine=false:=by rfl) (hgen:scope.isGenerator=false:=by rfl) (hk:scope.kind=.function:=by rfl) (hcell:∀ x∈scope.names,x.2≠.cell:=by decide) (hd:(x == ("__debug__" : Str))=false:=by decide)
    (hg:Gl X "sorted" := by rfl) (hs:starEach [e] X.env=(false,eval e X.env)::starEach [] X.env:=by rfl) (hb:backTo pos (starEach [e] X.env)=(false,eval e X.env)::backTo pos (starEach [] X.env):=by rfl) :
    PE X (.Call (.Name "sorted" p) [e] [⟨some "key", .Lambda params (.Subscript (.Name x px) (.Constant (.int 1) kk pk) ps) scope lp,kp⟩] pos) (qgP P te):=by
  intro pins s σ H Q I h
  refine wpAny_Call_Name_kw (qdY I hg hm qiJ ?_ (by decide) (by decide))
  refine PyProof.Rows.callWith_kw ?_ hb (by rw [hb];rfl)
  rw [hb]
  refine Calls.spliced_cons (thn (ha pins s σ H _ I h) fun u s1 ⟨y,H1,I1,r1,q1⟩=>Calls.spliced_nil ?_)
  obtain ⟨l,us,kz,rfl,hl,l64,⟨kl,kof⟩,hP,q⟩:=q1
  cases r1
  show wpAny _ _ (evalAll ((do let v ← eval (.Lambda params (.Subscript (.Name x px) (.Constant (.int 1) kk pk) ps) scope lp) X.env;standAt pos;pure v)::[])) _ _ s1
  refine wpAny_evalAll_cons (wpAny_bind (qkj I1 hcode hC hbt hcl hdef hP trivial rfl fun f c' ctv h' tk I2 hf hrec fge kp' fsz=>wpAny_bind (wpAny_standAt (wpAny_pure (wpAny_evalAll_nil ?_)))))
  have lP:l≠P:=qeq hl hP (by intro z;cases z)
  have hl2:upd H1 P (.tbl (#[]++#[rawInt lp.line,rawInt lp.col,.ref c'])) l=some (.lst us):=(qak lP).trans hl
  obtain ⟨its,rv,pl,hz⟩:=I2.list (SqL.of hl2)
  have hle:us.length=its.length:=rv.length
  obtain ⟨m,hn,_⟩:=id I2.loc
  have fL:f≠X.env.locals:=fun z=>by
    obtain ⟨m1,hn1,_⟩:=I1.loc
    have:=hn1.lt
    rw [← z] at this
    exact absurd fge (Nat.not_le.mpr this)
  show wpAny _ _ (call (.builtin "sorted") [.ref l] [(Str.ofString "key", .ref f)]) _ _ _
  refine ksk_sorted (h₀:=Att.noObjs h') (L:=X.env.locals) (m:=m) (news:=Att.ledger h' X.env.locals X.env.locals) (b:=false) (kz:=kz) (f:=.ref f) (Att.fr_all hn) (fun p hp=>?_) pl.isList (by omega) (by omega) (ksk_s1 _ _) (fun _=>ksk_l1 _ _) (fun x=>ksk_t1 _ _) (fun i v k hv hki h2 tk2 own F N=>?_) fun D h3 tk3 out cc F N lt ko=>?_
  · obtain ⟨n1,_,e⟩:=Att.mem_ledger.mp hp
    exact ⟨e,n1,Att.noObjs_get _ _⟩
  · have kb:∀ b o,b≠X.env.locals→h'.get? b=some o→h2.get? b=some o:=fun b o n e=>(N (b,o) (List.mem_append_left _ (Att.mem_ledger.mpr ⟨n,n,e⟩))).1
    obtain ⟨iu,hiu⟩:∃ u,us[i]?=some u:=⟨us[i]'(by have:=(List.getElem?_eq_some_iff.mp hv).1;omega),List.getElem?_eq_getElem _⟩
    obtain ⟨a,y,rfl,hay⟩:=kof i iu k hiu hki
    obtain ⟨v',hv',rv'⟩:=rv.get hiu
    rw [hv] at hv';cases hv'
    cases rv'
    have aP:a≠P:=qeq hay hP (by intro z;cases z)
    have hay2:upd H1 P (.tbl (#[]++#[rawInt lp.line,rawInt lp.col,.ref c'])) a=some (.tup [y,.int k]):=(qak aP).trans hay
    obtain ⟨ats,ra,pa,_⟩:=I2.tuple (SqT.of hay2)
    obtain ⟨v0,v1,rfl,_,t1,rfl⟩:=vals2 ra
    have aL:a≠X.env.locals:=fun z=>by have:=I2.free;rw [← z,hay2] at this;cases this
    have pa2:IsTup h2 a [v0,Value.int k t1].toArray:=by
      obtain ⟨o,e,r⟩:=pa
      exact ⟨o,kb _ _ aL e,r⟩
    obtain ⟨c2,oc,vc,tc,ec,hoc,d1,d2⟩:=hrec
    cases ec
    have cL:c'≠X.env.locals:=fun z=>by
      obtain ⟨o,es,ep,eo,ed,_⟩:=hn
      rw [z,eo] at hoc;cases hoc
      rw [ed] at d1;cases d1
    have kbase:∀ b o,X.base.get? b=some o→h2.get? b=some o:=fun b o e=>kb b o (Nat.ne_of_lt (Nat.lt_of_lt_of_le (Heap.lt_size e) (Nat.le_trans I2.ok.bsz I2.ok.above))) (I2.bk b o e)
    refine qkk (s:={ s1 with heap:=h2,toks:=tk2 }) hroom (kb _ _ fL hf) ⟨_,oc,vc,tc,rfl,kb _ _ cL hoc,d1,d2⟩ (I2.mod.nolimit.keeps kbase) (hbind _ _ _ _ _) hloc hco hgen hk hcell hd pa2 rfl rfl fun h4 tk4 kp4=>?_
    exact KskEnd.intro (F.kept kp4) (N.grown kp4) fun _ hp=>hp
  · have k3:∀ b o,b≠X.env.locals→h'.get? b=some o→h3.get? b=some o:=fun b o n e=>(N (b,o) (List.mem_cons_of_mem _ (Att.mem_ledger.mpr ⟨n,n,e⟩))).1
    have hD:h3.get? D=some (seqObj "list" out cc):=(N _ (List.mem_cons_self ..)).1
    have Dge:h'.objs.size≤D:=by have:=lt (f,_) (Att.mem_ledger.mpr ⟨fL,fL,hf⟩);rw [fsz];exact this
    have fr:=I2.hok.fresh Dge
    have DP:D≠P:=fun z=>by rw [z,qad] at fr;cases fr
    have fr1:H1 D=none:=by rw [qak DP] at fr;exact fr
    obtain ⟨qs0,pm,eo,srt⟩:=ko
    obtain ⟨rel,z1,z2⟩:=qoR rv kz
    obtain ⟨T',pT,eT⟩:=qgQ pm _ z1
    have q:=q D (T'.map fun t=>(t.1,t.2.1)) (#[]++#[rawInt lp.line,rawInt lp.col,.ref c']) fr1 (by rw [z2];exact pT.map _) (by
      rw [List.pairwise_map]
      rw [eT,List.pairwise_map] at srt
      exact srt.imp fun h=>by simpa using h)
    refine ⟨.ref _,_,?_,rfl,q⟩
    have ov:Vals ((T'.map fun t=>(t.1,t.2.1)).map (·.2)) out.toList:=by
      rw [eo,eT,List.map_map,List.map_map]
      exact qkl fun t ht=>rel t (pT.mem_iff.mp ht)
    have on:((T'.map fun t=>(t.1,t.2.1)).map (·.2)).length=us.length:=by
      rw [List.length_map,List.length_map,pT.length_eq,List.length_zip,List.length_zip,← hle,kl,Nat.min_self,Nat.min_self]
    refine I2.step (g':=s1.gens) (d':=s1.drawn) (t':=tk3) (ch:=[]) (fun _ z=>nomatch z) (fun b o n _ _ e _=>k3 b o n e) (fun b o n _ _ e _=>⟨o.slots,k3 b o n e⟩) (fun b o _ e n=>?_) (fun b o _ e=>?_) (fun b xs e=>?_) (fun b o u e=>?_) (fun b ps e=>⟨#[],?_⟩) (fun m' hm=>?_) (fun b o e=>?_) I2.bare
    · rw [qak (Nat.ne_of_lt (Nat.lt_of_lt_of_le (Heap.lt_size e) Dge))];exact n
    · by_cases hb:b=X.env.locals
      · obtain ⟨o',_,_,e',_⟩:=F.ns
        exact ⟨o',by rw [hb];exact e'⟩
      · exact ⟨o,k3 b o hb e⟩
    · rw [qak (qam e fr)];exact e
    · rw [qak (qam e fr)];exact e
    · rw [qak (qam e fr),e];simp
    · rw [show m'=m from funext fun x=>hm.agree hn x];exact F.ns
    · by_cases hb:b=D
      · subst hb
        rw [qad] at e;cases e
        exact ⟨by rw [on];exact hz,out.toList,cc,ov,by simpa using hD⟩
      · rw [qak hb] at e
        refine (I2.hok b o e).stay (fun c u hc e'=>k3 c u ?_ e') (fun c e'=>?_) fun c xs e'=>?_
        · rintro rfl
          rcases hc with z | z
          · rw [← z,I2.free] at e;cases e
          · rw [I2.free] at z;cases z
        · rw [qak (qam e' fr)];exact e'
        · rw [qak (qam e' fr)];exact e'
end
end Bs
namespace Bs
open PySem L2
noncomputable def qiK:V→List V→Hp→VK→Prop:=fun x vs H Q=>∃ (l:Addr) (xs:List V) (y:V) (d:PySem.W.Dat) (ds:List PySem.W.Dat) (j:Nat),x=.ref l∧vs=[y]∧H l=some (.lst xs)∧RepD H y d∧RepA H xs ds∧PySem.W.kqdOk 8 d=true∧(∀ e∈ds,PySem.W.kqdOk 8 e=true)∧ds[j]?=some d∧(∀ i e,i<j→ds[i]?=some e→e≠d)∧Q .non (upd H l (.lst (xs.eraseIdx j)))
noncomputable abbrev qnU:R2:=rI (fun _ j=>0≤j) fun i j=>.int (i.fdiv (2 ^ j.toNat))
end Bs
namespace Bs
open PySem PySem.Spec PySem.Calls PySem.SeqAt PyProof.Rows L2
open AutoSeq1 (wpAny_loadPart')
theorem qfa (l:Addr) (items:Array Value) (n:Nat) (x:Value) (e:Value→Bool) (j:Nat) (hj:j<items.size) (hit:e items[j]=true) (k:Nat) (hs1:items.size≤sizeLine) :
    ∀ i:Nat,j - i=k→i≤j→(∀ m (hm:m<items.size),i≤m→m<j→e items[m]=false)→Meets (Builtin.«list.remove.loop» ⟨[.ref l,x,rawInt i],[]⟩)
      (fun A R s=>s.heap.get? l=some { cls:=.type "list", dict:=none,data:=.seq items n,slots:=#[] }∧(∀ y,y∈items→EqAt A.in1 s y x (e y))∧R (.ok (.ret .none)) { s with heap:=s.heap.update l (Obj.mapSeq fun xs=>xs.eraseIdxIfInBounds j) }):=by
  induction k with
  | zero=>
    intro i hk hij hno prog w A R s h
    obtain ⟨hp,g,d,tk,os⟩:=s;obtain ⟨hl,he,h⟩:=h
    have hij':i=j:=by omega
    subst hij'
    wp_walk using wpAny_loadPart' hl
    have hi:items[((i:Nat):Int).toNat]?=some items[i]:=by simp [hj]
    rw [hi]
    refine wpAny_bind (he _ (Array.getElem_mem hj) prog w _ _ ?_)
    rw [hit]
    have hz':(items.eraseIdxIfInBounds i).size≤sizeLine+1:=Nat.le_trans (MeetsSeq.size_erased items _) (Nat.le_succ_of_le hs1)
    wp_walk using (wpAny_updateSeq hl rfl (hz:=hs1) (_hz':=hz')),wpAny_loadPart' hl
    simpa using h
  | succ k ih=>
    intro i hk hij hno prog w A R s h
    obtain ⟨hp,g,d,tk,os⟩:=s;obtain ⟨hl,he,h⟩:=h
    have hlt:i<items.size:=by omega
    wp_walk using wpAny_loadPart' hl
    have hi:items[((i:Nat):Int).toNat]?=some items[i]:=by simp [hlt]
    have hc:((i:Int)+1)=((i+1:Nat):Int):=by push_cast;rfl
    rw [hi]
    refine wpAny_bind (he _ (Array.getElem_mem hlt) prog w _ _ ?_)
    rw [hno i hlt (Nat.le_refl _) (by omega)]
    wp_walk
    rw [hc]
    exact ⟨plainId_quiet MeetsSeq.plain_remove_loop _,codeAny_builtin MeetsSeq.entry_remove_loop (by
      rw [Around.under_plainId MeetsSeq.plain_remove_loop _]
      exact ih (i+1) (by omega) (by omega) (fun m hm h1 h2=>hno m hm (by omega) h2) prog w A R _ ⟨hl,he,h⟩)⟩
theorem qfb (l:Addr) (items:Array Value) (n:Nat) (x:Value) (e:Value→Bool) (j:Nat) (hj:j<items.size) (hit:e items[j]=true) (hno:∀ m (hm:m<items.size),m<j→e items[m]=false) (hs1:items.size≤sizeLine) :
    Meets (Builtin.«list.remove» ⟨[.ref l,x],[]⟩)
      (fun A R s=>s.heap.get? l=some { cls:=.type "list", dict:=none,data:=.seq items n,slots:=#[] }∧(∀ y,y∈items→EqAt A.in1 s y x (e y))∧R (.ok (.ret .none)) { s with heap:=s.heap.update l (Obj.mapSeq fun xs=>xs.eraseIdxIfInBounds j) }):=by
  intro prog w A R s h
  obtain ⟨hp,g,d,tk,os⟩:=s;obtain ⟨hl,he,h⟩:=h
  wp_walk using wpAny_loadPart' hl
  exact ⟨plainId_quiet MeetsSeq.plain_remove_loop _,codeAny_builtin MeetsSeq.entry_remove_loop (by
    rw [Around.under_plainId MeetsSeq.plain_remove_loop _]
    exact qfa l items n x e j hj hit _ hs1 0 rfl (Nat.zero_le _) (fun m hm _ h2=>hno m hm h2) prog w A R _ ⟨hl,he,h⟩)⟩
theorem qkU:∀ ds:List PySem.W.Dat,PySem.W.kqdPs ds=ds.map PySem.W.kqdP:=by
  intro ds
  induction ds with
  | nil=>rfl
  | cons d ds ih=>rw [PySem.W.kqdPs,ih];rfl
theorem qeG:∀ {xs:List V} {vs:List Value},Vals xs vs→∀ j:Nat,Vals (xs.eraseIdx j) (vs.eraseIdx j)
  | _,_,.nil,_=>.nil
  | _,_,.cons _ t,0=>t
  | _,_,.cons h t,j+1=>.cons h (qeG t j)
theorem qiL {X:Cx} (hu:X.A.units+64<cLine):MtM X "list.remove" qiK:=by
  intro pins s σ H x vs v us Q I rx rv h
  obtain ⟨l,xs,y,d,ds,j,rfl,rfl,hH,r1,r2,k1,k2,hj,hb,q⟩:=h
  cases rx
  obtain ⟨u,rfl,ru⟩:=rv.one
  obtain ⟨as,q1⟩:=qcK I r1 ru
  obtain ⟨z,its,n,r,hl,e⟩:=I.lstM hH
  obtain ⟨bs,q2⟩:=qe8 I r2 r
  have lL:=PySem.W.kqd_layL k2
  have ld:=PySem.W.kqd_lay 8 d k1
  have l2:=ld.2
  have zi:its.toArray.size≤sizeLine:=by rw [List.size_toArray,← hl];exact z
  have rd:its.map (readOf s.heap)=ds.map PySem.W.kqdP:=by rw [← qkU];exact readsAll_map _ _ _ lL.1 q2
  have ln:its.length=ds.length:=by have:=congrArg List.length rd;simpa using this
  have at_:∀ m (hm:m<its.length),readOf s.heap its[m]=PySem.W.kqdP (ds[m]'(by omega)):=fun m hm=>by
    have:=congrArg (fun t=>t[m]?) rd
    simp only [List.getElem?_map] at this
    rw [List.getElem?_eq_getElem hm,List.getElem?_eq_getElem (by omega)] at this
    exact Option.some.inj this
  have one:∀ f,f∈ds→(PyData.eqv (PySem.W.kqdP f) (PySem.W.kqdP d)=true↔f=d):=fun f hf=>by
    have:=PySem.W.kqd_any [f] d (fun e he=>by rw [List.mem_singleton.mp he];exact k2 f hf) k1
    rw [qkU] at this
    simp only [List.map_cons,List.map_nil,List.any_cons,List.any_nil,Bool.or_false,List.mem_singleton] at this
    rw [this];exact eq_comm
  have jl:j<ds.length:=(List.getElem?_eq_some_iff.mp hj).1
  have jd:ds[j]=d:=(List.getElem?_eq_some_iff.mp hj).2
  have jz:j<its.toArray.size:=by rw [List.size_toArray];omega
  have M:=qfb l its.toArray n u (fun y=>PyData.eqv (readOf s.heap y) (PySem.W.kqdP d)) j jz (by
    show PyData.eqv (readOf s.heap its.toArray[j]) _=true
    have:its.toArray[j]=its[j]'(by omega):=by simp
    rw [this,at_ j (by omega),one _ (List.getElem_mem _)];exact jd) (fun m hm hlt=>by
    show PyData.eqv (readOf s.heap its.toArray[m]) _=false
    have hm':m<its.length:=by rw [List.size_toArray] at hm;exact hm
    have:its.toArray[m]=its[m]:=by simp
    rw [this,at_ m hm',Bool.eq_false_iff]
    intro z
    rw [one _ (List.getElem_mem _)] at z
    exact hb m _ hlt (List.getElem?_eq_getElem (by omega)) z) zi
  refine call_meets F.slot_list_remove ⟨_,e,rfl⟩ F.entry_list_remove (F.args_list_remove_2 _ _) M ⟨e,items_eqAt (A:=X.A) (by simpa using q2) q1 lL.1 ld.1 ?_,?_⟩
  · have:=Nat.min_le_right (PyData.depthAll (PySem.W.kqdPs ds)) (PySem.W.kqdP d).depth
    omega
  · refine ⟨.non,_,I.lset (its':=its.eraseIdx j) hH e ?_ ?_ ?_,rfl,q⟩
    · apply Array.ext'
      simp [Array.toList_eraseIdxIfInBounds]
    · exact qeG r j
    · exact Nat.le_trans (List.length_eraseIdx_le ..) z
theorem op_shr {X:Cx}:OpR X (binaryOp .RShift) qnU:=opI fun _ _ _ _ _ _ _ hc q=>rshift_int hc q
end Bs
namespace Bs
open PySem PySem.Spec PyProof.Rows L2
theorem Cal.pe0 {X:Cx} {n m:Nat} {x:Str} {ps:List Str} {sp:Sp} {p pos:Pos} (C:Cal X.prog X.w X.K X.mg X.base n x ps sp) (hr:Room m X.A) (hn:n≤m) (hg:Gl X x) (hdb:(x == ("__debug__" : Str))=false:=by decide):PE X (.Call (.Name x p) [] [] pos) (qas sp [] E0 qar):=by
  obtain ⟨f,fd,F,b,k,m⟩:=C.ex
  exact qjS F (hr.mono hn) hg m k b .nil qmK hdb
end Bs
namespace L2
open PySem PySem.Spec PyProof.Rows
theorem qiM {T:Addr} {P:Program} {w:World} {K:W.Frag} {mg mb:Str→Option Value} {CX:CXT} {k:Nat} {fa a:Addr} {fd:FuncData} {x:Str} {sp:Sp} {s₁:Shared} {vs:List Value} {ns:List Int}
    (KX:K.In s₁.heap) (hns:s₁.heap.Ns mainGlobals mg) (hb:s₁.heap.Ns builtinsNs mb) (hbb:∀ x:Str,x ≠ "__name__" → mb x=bootBuiltins x) (hlim:s₁.heap.NoLimit) (hseer:s₁.heap.NoSeer) (htree:(model P w).prog.given.tree=none) (hg:s₁.gens=#[])
    (ha:s₁.heap.get? a=some { cls:=.type "list", data:=.seq vs.toArray }) (hi:IntsAre vs ns) (hl:ns.length≤sizeLine) (hr:Room k callerA)
    (F:∀ base:Heap,K.In base→base.Ns mainGlobals mg→FnOk P w K mg base CX k fa fd [x] sp) (hbind:∀ (s:Shared) (u:Value),BindsTo s fd ⟨[u],[]⟩ [(x,u)])
    (hKT:K.lookup T=none) (hT:s₁.heap.get? T=some { cls:=.none,data:=.fields #[] }) (hcT:isCodeTable s₁.heap T) (hsp:∀ H:Hp,H T=some (.tbl #[])→SqL K H a (ns.map V.int)→sp [.ref a] H (fun v _=>v=.bl true) fun _ _ _=>False)
    (hCX:∀ H e s',CX [] H s₁ (fun _ _ _=>False) e s'→False) :
    codeAny (model P w) callerA (.call (.ref fa) ⟨[.ref a],[]⟩) (fun r s'=>r=.ok (.ret (.bool true))∧OldK s₁.heap s'.heap∧s'.os=s₁.os∧AllBare s'.gens) s₁:=by
  have rv:=qfI hi
  have lenV:=hi.length
  have aT:a≠T:=fun z=>by rw [z,hT] at ha;cases ha
  have core:∀ H:Hp,(∀ b,b≠T→H b=none∨∃ o xs,H b=some (.frz o (.lst xs)))→H T=some (.tbl #[])→SqL K H a (ns.map V.int)→HOk P w H s₁.heap→(∀ b,H b≠none→b=a∨b=T)→(H a≠none→K.lookup a=none)→
      codeAny (model P w) callerA (.call (.ref fa) ⟨[.ref a],[]⟩) (fun r s'=>r=.ok (.ret (.bool true))∧OldK s₁.heap s'.heap∧s'.os=s₁.os∧AllBare s'.gens) s₁:=by
    intro H hO hHT hS hok hA hK
    have base_of:∀ {b:Addr} {o:Obj},s₁.heap.get? b=some o→H b=none→(qjE s₁.heap H).get? b=some o:=fun e n=>qjH e n
    have noA:∀ {b:Addr} {o:Obj} {es:Array DictEntry} {ep:Nat},s₁.heap.get? b=some o→o.data=.dict es ep→H b=none:=fun {b o es ep} e d=>by
      cases q:H b with
      | none=>rfl
      | some u=>
        rcases hA b (by rw [q];simp) with e' | e'
        · subst e'
          rw [ha] at e;cases e
          have d':Data.seq vs.toArray _=Data.dict es ep:=d
          cases d'
        · subst e'
          rw [hT] at e;cases e
          cases d
    have nsK:∀ {b:Addr} {m:Str→Option Value},s₁.heap.Ns b m→(qjE s₁.heap H).Ns b m:=fun {b m} ⟨o,es,ep,e,d,r⟩=>⟨o,es,ep,base_of e (noA e d),d,r⟩
    have hKb:K.In (qjE s₁.heap H):=fun b o e=>base_of (KX b o e) (by
      cases q:H b with
      | none=>rfl
      | some u=>
        rcases hA b (by rw [q];simp) with e' | e'
        · subst e'
          rw [hK (by rw [q];simp)] at e;cases e
        · subst e'
          rw [hKT] at e;cases e)
    have hM:Mod K mg (qjE s₁.heap H):=⟨hKb,nsK hns,⟨mb,nsK hb,hbb⟩,let ⟨mc,h1,h2⟩:=hlim;⟨mc,nsK h1,h2⟩⟩
    have hSe:(qjE s₁.heap H).NoSeer:=⟨let ⟨mc,a,b⟩:=hseer.statics;⟨mc,nsK a,b⟩,let ⟨mc,a,b⟩:=hseer.mods;⟨mc,nsK a,b⟩,let ⟨mc,a,b⟩:=hseer.imp;⟨mc,nsK a,b⟩,
      let ⟨mg',bm,ob,a',b',c',d',e'⟩:=hseer.main;⟨mg',bm,ob,nsK a',b',base_of c' (by
        cases q:H bm with
        | none=>rfl
        | some u=>
          rcases hA bm (by rw [q];simp) with z | z
          · subst z
            rw [ha] at c';cases c'
            simp at d'
          · subst z
            rw [hT] at c';cases c'
            simp at d'),d',e'⟩⟩
    have e0:Env0 P w K mg (qjE s₁.heap H) callerA [] s₁ H:=⟨rfl,hM,fun b o e=>qlf e,Nat.le_of_eq (qh2 _ _),trivial,fun b hb=>absurd (show b∈([]:List Addr) from hb) (by simp),hok,.of_eq hg,hSe,htree⟩
    refine codeAny_mono ((F _ hKb (nsK hns)).run callerA [] s₁ H ⟨[.ref a],[]⟩ [.ref a] [.ref a] _ _ hr e0 (hbind s₁ (.ref a)) (.cons rfl .nil) (hsp H hHT hS)) fun r s' h=>?_
    cases r with
    | error e=>exact (hCX H e s' h).elim
    | ok fl=>
      cases fl with
      | next=>exact False.elim h
      | brk=>exact False.elim h
      | cont=>exact False.elim h
      | ret u=>
        obtain ⟨v,H',os,bare,un,hok',r',q⟩:=h
        have q':v=.bl true:=q
        subst q'
        obtain rfl:u=Value.bool true:=r'
        have kpt:∀ b o,b≠T→s₁.heap.get? b=some o→s'.heap.get? b=some o:=fun b o bT e=>by
          cases q:H b with
          | none=>exact un.keep b o e q (by intro z;exact absurd (show b∈([]:List Addr) from z) (by simp)) (by simp)
          | some u=>
            rcases hO b bT with z | ⟨ob,xs,z⟩
            · rw [q] at z;cases z
            · have z2:=un.frzs b ob _ z
              obtain ⟨e1,_⟩:=hok b _ z
              obtain ⟨e2,_⟩:=hok' b _ z2
              rw [e] at e1;cases e1
              exact e2
        obtain ⟨more,hmore⟩:=un.tbls T _ hHT
        have hT':s'.heap.get? T=some { cls:=.none,data:=.fields (#[]++more) }:=hok' T _ hmore
        refine ⟨rfl,⟨fun b o e=>?_,fun b o e=>?_⟩,os,bare⟩
        · by_cases bT:b=T
          · subst bT
            rw [hT] at e;cases e
            exact .inr (.inl ⟨hcT,rfl,#[],more,rfl,hT'⟩)
          · exact .inl (kpt b o bT e)
        · by_cases bT:b=T
          · exact ⟨_,by rw [bT];exact hT'⟩
          · exact ⟨o,kpt b o bT e⟩
  cases hk:K.lookup a with
  | some o=>
    have e:=KX a o hk
    rw [ha] at e
    cases e
    refine core (fun b=>if b=T then some (.tbl #[]) else none) (fun b bT=>.inl (if_neg bT)) (if_pos rfl) (.inr ⟨_,vs.toArray,_,hk,rfl,rfl,rfl,by rw [List.size_toArray,lenV];exact hl,by simpa using rv⟩) (fun b u z=>?_) (fun b z=>?_) fun z=>absurd (if_neg aT) z
    · by_cases hb:b=T
      · have z':=(if_pos hb).symm.trans z
        cases z'
        rw [hb];exact hT
      · have z':=(if_neg hb).symm.trans z
        cases z'
    · by_cases hb:b=T
      · exact .inr hb
      · exact absurd (if_neg hb) z
  | none=>
    have fa':(fun b=>if b=T then some (HO.tbl #[]) else if b=a then some (.frz { cls:=.type "list", data:=.seq vs.toArray } (.lst (ns.map V.int))) else none) a=some (.frz { cls:=.type "list", data:=.seq vs.toArray } (.lst (ns.map V.int))):=by
      show (if a=T then _ else _)=_
      rw [if_neg aT,if_pos rfl]
    refine core (fun b=>if b=T then some (.tbl #[]) else if b=a then some (.frz { cls:=.type "list", data:=.seq vs.toArray } (.lst (ns.map V.int))) else none) (fun b bT=>?_) (if_pos rfl) (.inl (.inr ⟨{ cls:=.type "list", data:=.seq vs.toArray },fa'⟩)) (fun b u z=>?_) (fun b z=>?_) fun _=>hk
    · show (if b=T then _ else _)=none∨∃ o xs,(if b=T then _ else _)=some _
      rw [if_neg bT]
      by_cases hb:b=a
      · exact .inr ⟨_,_,if_pos hb⟩
      · exact .inl (if_neg hb)
    · have z:(if b=T then some (HO.tbl #[]) else if b=a then some (.frz { cls:=.type "list", data:=.seq vs.toArray } (.lst (ns.map V.int))) else none)=some u:=z
      by_cases hT2:b=T
      · rw [if_pos hT2] at z
        cases z
        rw [hT2];exact hT
      · rw [if_neg hT2] at z
        by_cases hb:b=a
        · rw [if_pos hb] at z
          cases z
          subst hb
          exact ⟨ha,by rw [List.length_map];exact hl,vs,_,rv,ha⟩
        · rw [if_neg hb] at z
          cases z
    · by_cases hT2:b=T
      · exact .inr hT2
      · by_cases hb:b=a
        · exact .inl hb
        · exact absurd ((if_neg hT2).trans (if_neg hb)) z
theorem walk_ofT {T:Addr} {l:PySem.W.OpenLaw} {n k:Nat} {q:Program} {loose:List Str} {XP:(Str→Option Value)→Heap→Prop} {YP:World→Heap→Prop} {d:DefRec} {K:Params→W.Frag} {CX:World→CXT} {sp:World→Sp} {x:Str}
    (hn:l.most=some n) (hn2:n≤sizeLine) (hdf:d.params.defaults=[]) (hq:importsNone q=true) (htree:∀ w,(model l.prog w).prog.given.tree=none) (hr:Room k callerA)
    (hY:∀ (w:World) (h:Heap),YP w h→(K w.params).In h)
    (F:∀ (w:World) (mg:Str→Option Value) (fa:Addr) (h:Heap),(K w.params).In h→h.Ns mainGlobals mg→mg d.name=some (.ref fa)→
      ∃ fd:FuncData,(∀ (s:Shared) (u:Value),BindsTo s fd ⟨[u],[]⟩ [(x,u)])∧
        ∀ base:Heap,(K w.params).In base→base.Ns mainGlobals mg→FnOk l.prog w (K w.params) mg base (CX w) k fa fd [x] (sp w))
    (hKT:∀ w:World,(K w.params).lookup T=none) (hT:∀ (w:World) (h:Heap),YP w h→h.get? T=some { cls:=.none,data:=.fields #[] }∧isCodeTable h T) (hsp:∀ (w:World) (H:Hp) (a:Addr) (ns:List Int),ns.length≤n→H T=some (.tbl #[])→SqL (K w.params) H a (ns.map V.int)→sp w [.ref a] H (fun v _=>v=.bl true) fun _ _ _=>False)
    (hCX:∀ (w:World) (H:Hp) (s:Shared) (e:Value) (s':Shared),CX w [] H s (fun _ _ _=>False) e s'→False) :
    PySem.W.WalkO q loose XP YP l.row.toRowW d [] (fun f vs=>PySem.call f vs):=by
  refine Att.attach_call hn hdf fun w s₀ s₁ mg mb fa o pm cd doc a vs ns G Y ho hd hcd hmg hobj hints hlen hg=>?_
  have KX:=hY w _ Y
  obtain ⟨fd,hb,hF⟩:=F w mg fa _ KX G.T.g hmg
  exact qiM (T:=T) KX G.T.g G.T.b G.T.builtins G.T.nolimit (G.T.seer hq) (htree w) hg hobj hints (Nat.le_trans hlen hn2) hr hF hb (hKT w) (hT w _ Y).1 (hT w _ Y).2 (fun H hO hS=>hsp w H a ns hlen hO hS) fun H e s'=>hCX w H s₁ e s'
end L2
namespace Bs
open PySem L2
noncomputable def Itzt (K:W.Frag) (a b:Addr):It:=
  ⟨fun i H=>∃ xs ys x y,SqT K H a xs∧SqL K H b ys∧xs[i]?=some x∧ys[i]?=some y,fun i H v H'=>∃ p x y,H p=none∧v=.ref p∧H'=upd H p (.tup [x,y])∧(∀ xs,SqT K H a xs→xs[i]?=some x)∧∀ ys,SqL K H b ys→ys[i]?=some y,fun i H=>∃ xs ys,SqT K H a xs∧SqL K H b ys∧xs.length≤i⟩
noncomputable def qlO (K:W.Frag) (ta:TA):TI:=fun σ H R=>ta σ H fun vs H1=>∃ a b,vs=[.ref a,.ref b]∧(∃ xs,SqT K H1 a xs)∧(∃ ys,SqL K H1 b ys)∧R (Itzt K a b) H1
noncomputable def qog (te:TE):TE:=fun σ H Q=>te σ H fun x H1=>∃ (a:Addr) (xs:List V),x=.ref a∧H1 a=some (.lst xs)∧∀ p,H1 p=none→Q (.ref p) (upd H1 p (.lst xs.reverse))
theorem ForJ.zipT {K:W.Frag} {g:TG} {tb:TS} {D:Ends} {σ:L2.St} {H:Hp} {a b:Addr} {xs ys:List V} (hl:xs.length=ys.length) (Pv:Nat→L2.St→Hp→Prop) (h0:Pv 0 σ H) (hq:∀ i σ H,i≤xs.length→Pv i σ H→H a=some (.tup xs)∧H b=some (.lst ys))
    (hs:∀ i x y p σ H,xs[i]?=some x→ys[i]?=some y→Pv i σ H→H p=none→g (.ref p) σ (upd H p (.tup [x,y])) fun σ2 H2=>tb { D with nx:=Pv (i+1),ct:=Pv (i+1),bk:=D.nx } σ2 H2) (hd:∀ σ H,Pv xs.length σ H→D.nx σ H):ForJ (Itzt K a b) g tb D σ H:=by
  refine ⟨fun i m σ H=>m=xs.length - i∧i≤xs.length∧Pv i σ H,⟨xs.length,by simp,Nat.zero_le _,h0⟩,?_⟩
  rintro i m σ H ⟨rfl,hi,pv⟩
  obtain ⟨q1,q2⟩:=hq i σ H hi pv
  have q:SqT K H a xs:=SqT.of q1
  have q2:SqL K H b ys:=SqL.of q2
  by_cases lt:i<xs.length
  · refine .inr ⟨⟨xs,ys,xs[i],ys[i],q,q2,by simp [lt],by simp [hl ▸ lt]⟩,Pv (i+1),fun σ' H' p'=>⟨xs.length - (i+1),by omega,rfl,lt,p'⟩,fun x H' y=>?_⟩
    obtain ⟨p,x',y',hp,rfl,rfl,h1,h2⟩:=y
    exact hs i x' y' p σ _ (h1 xs q) (h2 ys q2) pv hp
  · have e:i=xs.length:=by omega
    subst e
    exact .inl ⟨⟨xs,ys,q,q2,Nat.le_refl _⟩,hd σ H pv⟩
end Bs
namespace Bs
open PySem PySem.Spec PyProof.Rows L2
open PySem.AutoSeq1 (wpAny_loadPart')
section
variable {prog:Program} {w:World} {A:Around} {E:Value→Shared→Prop} {s:Shared}
theorem qer {z TI TO i1 i2 l1 l2:Addr} {k1 k2:Nat} {xs ys:Array Value} {x y a b:Value} {Q:Value→Shared→Prop} (D:ZipApart z TI TO i1 i2 l1 l2)
    (hz:IsZip s.heap z TI TO .none) (hTI:IsPair s.heap TI (.ref i1) (.ref i2)) (hTO:IsPair s.heap TO a b)
    (h1:s.heap.IsTupleIter i1 l1 k1) (h2:s.heap.IsListIter i2 l2 k2) (hl1:s.heap.IsTuple l1 xs) (hl2:s.heap.IsList l2 ys) (hx:xs[k1]?=some x) (hy:ys[k2]?=some y)
    (hQ:∀ h',IsZip h' z TI TO (rawInt s.heap.objs.size)→IsPair h' TO x y→h'.IsTupleIter i1 l1 (k1+1)→h'.IsListIter i2 l2 (k2+1)→IsPair h' s.heap.objs.size x y→h'.objs.size=s.heap.objs.size+1→
      (∀ c o,c≠z→c≠TO→c≠i1→c≠i2→s.heap.get? c=some o→h'.get? c=some o)→Q (.ref s.heap.objs.size) { s with heap:=h' }) :
    wpAny (model prog w) A (Builtin.«zip.__next__» ⟨[.ref z],[]⟩) (fun fin s'=>∃ v,fin=.done (.ret v)∧Q v s') E s:=by
  show wpAny _ _ (field (.ref z) 2 >>= _) _ _ _
  refine wpAny_bind (wpAny_field hz rfl (x:=.bool false) rfl ?_)
  show wpAny _ _ (field (.ref z) 3 >>= _) _ _ _
  refine wpAny_bind (wpAny_field hz rfl (x:=.ref TI) rfl ?_)
  refine wpAny_bind (wpAny_seqItems hTI rfl ?_)
  show wpAny _ _ (Builtin.SmallTypes.ownedTupleIsFree (.ref z) >>= _) _ _ _
  refine wpAny_bind ?_
  unfold Builtin.SmallTypes.ownedTupleIsFree
  refine wpAny_bind (wpAny_field hz rfl (x:=.none) rfl (wpAny_pure ?_))
  simp only [if_true]
  refine wpAny_bind (wpAny_rule ?_)
  refine wpAny_bind (wpAny_field hz rfl (x:=.ref TO) rfl ?_)
  refine wpAny_bind (wpAny_setField_rec hz (by simp) fun h₁ hz₁ hs₁=>?_)
  replace hz₁:IsZip h₁ z TI TO .ellipsis:=hz₁
  refine wpAny_bind ?_
  simp only [List.zipIdx_cons,List.zipIdx_nil,List.forIn_cons,List.forIn_nil]
  refine wpAny_bind (wpAny_bind (wpAny_onRaise ?_))
  show wpAny _ _ (Builtin.SmallTypes.nextOf (.ref i1) >>= _) _ _ _
  refine wpAny_bind (qdg (h1.extBut hs₁.extBut D.i1z) (hl1.extBut hs₁.extBut D.l1z) hx fun h₂ h1₂ hs₂=>wpAny_pure ?_)
  have hTO₂:IsPair h₂ TO a b:=hs₂.extBut _ _ D.TOi1 (hs₁.extBut _ _ D.TOz hTO)
  refine wpAny_bind (wpAny_seqItems hTO₂ rfl ?_)
  refine wpAny_bind (wpAny_updateSeq_pair hTO₂ fun h₃ hTO₃ hs₃=>?_)
  replace hTO₃:IsPair h₃ TO x b:=hTO₃
  refine wpAny_bind (wpAny_letGo (wpAny_pure ?_))
  refine wpAny_bind (wpAny_bind (wpAny_onRaise ?_))
  show wpAny _ _ (Builtin.SmallTypes.nextOf (.ref i2) >>= _) _ _ _
  refine wpAny_bind (wpAny_nextOf_list_item (((h2.extBut hs₁.extBut D.i2z).extBut hs₂.extBut D.i12.symm).extBut hs₃.extBut D.TOi2.symm)
    (((hl2.extBut hs₁.extBut D.l2z).extBut hs₂.extBut D.l2i1).extBut hs₃.extBut D.l2TO) hy fun h₄ h2₄ hs₄=>wpAny_pure ?_)
  have hTO₄:IsPair h₄ TO x b:=hs₄.extBut _ _ D.TOi2 hTO₃
  refine wpAny_bind (wpAny_seqItems hTO₄ rfl ?_)
  refine wpAny_bind (wpAny_updateSeq_pair hTO₄ fun h₅ hTO₅ hs₅=>?_)
  replace hTO₅:IsPair h₅ TO x y:=hTO₅
  refine wpAny_bind (wpAny_letGo (wpAny_pure (wpAny_pure ?_)))
  refine wpAny_bind (wpAny_seqItems hTO₅ rfl ?_)
  refine wpAny_bind (wpAny_newTuple ?_)
  have hsz:h₅.objs.size=s.heap.objs.size:=by rw [hs₅.1,hs₄.1,hs₃.1,hs₂.1,hs₁.1]
  have hz₅:IsZip h₅ z TI TO .ellipsis:=hs₅.extBut _ _ D.TOz.symm (hs₄.extBut _ _ D.i2z.symm (hs₃.extBut _ _ D.TOz.symm (hs₂.extBut _ _ D.i1z.symm hz₁)))
  have hk₅:∀ c o,c≠z→c≠TO→c≠i1→c≠i2→s.heap.get? c=some o→h₅.get? c=some o:=fun c o c1 c2 c3 c4 e=>
    hs₅.extBut _ _ c2 (hs₄.extBut _ _ c4 (hs₃.extBut _ _ c2 (hs₂.extBut _ _ c3 (hs₁.extBut _ _ c1 e))))
  have h1₅:h₅.IsTupleIter i1 l1 (k1+1):=((h1₂.extBut hs₃.extBut D.TOi1.symm).extBut hs₄.extBut D.i12).extBut hs₅.extBut D.TOi1.symm
  have h2₅:h₅.IsListIter i2 l2 (k2+1):=h2₄.extBut hs₅.extBut D.TOi2.symm
  have hzlt:z<h₅.objs.size:=Heap.lt_size hz₅
  have hTOlt:TO<h₅.objs.size:=Heap.lt_size hTO₅
  have hi1lt:i1<h₅.objs.size:=by obtain ⟨_,e,_⟩:=h1₅;exact Heap.lt_size e
  have hi2lt:i2<h₅.objs.size:=by obtain ⟨_,e,_⟩:=h2₅;exact Heap.lt_size e
  show wpAny _ _ (Builtin.SmallTypes.ownedTupleHandOut (.ref z) (.ref h₅.objs.size) >>= _) _ _ _
  refine wpAny_bind ?_
  unfold Builtin.SmallTypes.ownedTupleHandOut
  have hz₆:IsZip (h₅.push { cls:=.type "tuple", data:=.seq #[x,y] }) z TI TO .ellipsis:=Heap.get?_push_of_some _ hz₅
  refine wpAny_bind (wpAny_setField_rec hz₆ (by simp) fun h₇ hz₇ hs₇=>?_)
  replace hz₇:IsZip h₇ z TI TO (rawInt h₅.objs.size):=hz₇
  refine wpAny_setField_rec hz₇ (by simp) fun h₈ hz₈ hs₈=>?_
  replace hz₈:IsZip h₈ z TI TO (rawInt h₅.objs.size):=hz₈
  have up:∀ c o,c≠z→h₅.get? c=some o→h₈.get? c=some o:=fun c o c1 e=>hs₈.extBut _ _ c1 (hs₇.extBut _ _ c1 (Heap.get?_push_of_some _ e))
  have hT₈:IsPair h₈ h₅.objs.size x y:=hs₈.extBut _ _ (Nat.ne_of_gt hzlt) (hs₇.extBut _ _ (Nat.ne_of_gt hzlt) (Heap.get?_push_size _ rfl))
  have hz8:h₈.objs.size=h₅.objs.size+1:=by rw [hs₈.1,hs₇.1,Heap.size_push]
  rw [hsz] at hz₈ hT₈ hz8
  refine wpAny_pure ⟨_,rfl,?_⟩
  show Q (.ref h₅.objs.size) _
  rw [hsz]
  exact hQ h₈ hz₈ (up _ _ D.TOz hTO₅) (h1₅.at fun o e=>up _ o D.i1z e) (h2₅.at fun o e=>up _ o D.i2z e) hT₈ hz8 fun c o c1 c2 c3 c4 e=>up c o c1 (hk₅ c o c1 c2 c3 c4 e)
theorem qfc {z TI TO i1 i2 l1 l2:Addr} {k1 k2:Nat} {xs ys:Array Value} {a b:Value} {Q:Fin→Shared→Prop} (hh:A.handled=none) (D:ZipApart z TI TO i1 i2 l1 l2)
    (hz:IsZip s.heap z TI TO .none) (hTI:IsPair s.heap TI (.ref i1) (.ref i2)) (hTO:IsPair s.heap TO a b)
    (h1:s.heap.IsTupleIter i1 l1 k1) (h2:s.heap.IsListIter i2 l2 k2) (hl1:s.heap.IsTuple l1 xs) (hl2:s.heap.IsList l2 ys) (hend:xs[k1]?=none∨ys[k2]?=none)
    (hE:∀ h' e,(∀ c o,c≠z→c≠TO→c≠i1→c≠i2→s.heap.get? c=some o→h'.get? c=some o)→(∃ o,h'.get? e=some o∧o.cls=.type "StopIteration")→E (.ref e) { s with heap:=h' }) :
    wpAny (model prog w) A (Builtin.«zip.__next__» ⟨[.ref z],[]⟩) Q E s:=by
  show wpAny _ _ (field (.ref z) 2 >>= _) _ _ _
  refine wpAny_bind (wpAny_field hz rfl (x:=.bool false) rfl ?_)
  show wpAny _ _ (field (.ref z) 3 >>= _) _ _ _
  refine wpAny_bind (wpAny_field hz rfl (x:=.ref TI) rfl ?_)
  refine wpAny_bind (wpAny_seqItems hTI rfl ?_)
  show wpAny _ _ (Builtin.SmallTypes.ownedTupleIsFree (.ref z) >>= _) _ _ _
  refine wpAny_bind ?_
  unfold Builtin.SmallTypes.ownedTupleIsFree
  refine wpAny_bind (wpAny_field hz rfl (x:=.none) rfl (wpAny_pure ?_))
  simp only [if_true]
  refine wpAny_bind (wpAny_rule ?_)
  refine wpAny_bind (wpAny_field hz rfl (x:=.ref TO) rfl ?_)
  refine wpAny_bind (wpAny_setField_rec hz (by simp) fun h₁ hz₁ hs₁=>?_)
  replace hz₁:IsZip h₁ z TI TO .ellipsis:=hz₁
  refine wpAny_bind ?_
  simp only [List.zipIdx_cons,List.zipIdx_nil,List.forIn_cons,List.forIn_nil]
  refine wpAny_bind (wpAny_bind (wpAny_onRaise ?_))
  show wpAny _ _ (Builtin.SmallTypes.nextOf (.ref i1) >>= _) _ _ _
  cases hx:xs[k1]? with
  | none=>
    refine wpAny_bind (qfN hh (h1.extBut hs₁.extBut D.i1z) (hl1.extBut hs₁.extBut D.l1z) hx fun h₂ e hs₂ he=>?_)
    obtain ⟨oe,hoe,hce⟩:=he
    have hz₂:IsZip h₂ z TI TO .ellipsis:=hs₂ _ _ D.i1z.symm hz₁
    have hez:e≠z:=fun x=>by subst x;rw [hz₂] at hoe;cases hoe;simp at hce
    refine wpAny_setField_rec hz₂ (by simp) fun h₃ _ hs₃=>hE h₃ e (fun c o c1 _ c3 _ x=>hs₃.extBut _ _ c1 (hs₂ _ _ c3 (hs₁.extBut _ _ c1 x))) ⟨oe,hs₃.extBut _ _ hez hoe,hce⟩
  | some x=>
    have hy:ys[k2]?=none:=by rcases hend with h | h;rw [hx] at h;cases h;exact h
    refine wpAny_bind (qdg (h1.extBut hs₁.extBut D.i1z) (hl1.extBut hs₁.extBut D.l1z) hx fun h₂ h1₂ hs₂=>wpAny_pure ?_)
    have hTO₂:IsPair h₂ TO a b:=hs₂.extBut _ _ D.TOi1 (hs₁.extBut _ _ D.TOz hTO)
    refine wpAny_bind (wpAny_seqItems hTO₂ rfl ?_)
    refine wpAny_bind (wpAny_updateSeq_pair hTO₂ fun h₃ hTO₃ hs₃=>?_)
    refine wpAny_bind (wpAny_letGo (wpAny_pure ?_))
    refine wpAny_bind (wpAny_bind (wpAny_onRaise ?_))
    show wpAny _ _ (Builtin.SmallTypes.nextOf (.ref i2) >>= _) _ _ _
    refine wpAny_bind (wpAny_nextOf_list_end hh (((h2.extBut hs₁.extBut D.i2z).extBut hs₂.extBut D.i12.symm).extBut hs₃.extBut D.TOi2.symm)
      (((hl2.extBut hs₁.extBut D.l2z).extBut hs₂.extBut D.l2i1).extBut hs₃.extBut D.l2TO) hy fun h₄ e hs₄ he=>?_)
    obtain ⟨oe,hoe,hce⟩:=he
    have hz₄:IsZip h₄ z TI TO .ellipsis:=hs₄ _ _ D.i2z.symm (hs₃.extBut _ _ D.TOz.symm (hs₂.extBut _ _ D.i1z.symm hz₁))
    have hez:e≠z:=fun x=>by subst x;rw [hz₄] at hoe;cases hoe;simp at hce
    refine wpAny_setField_rec hz₄ (by simp) fun h₅ _ hs₅=>hE h₅ e (fun c o c1 c2 c3 c4 x=>hs₅.extBut _ _ c1 (hs₄ _ _ c4 (hs₃.extBut _ _ c2 (hs₂.extBut _ _ c3 (hs₁.extBut _ _ c1 x))))) ⟨oe,hs₅.extBut _ _ hez hoe,hce⟩
theorem qgk {z TI TO i1 i2 l1 l2:Addr} {k1 k2:Nat} {xs ys:Array Value} {x y a b:Value} {Q:Option Value→Shared→Prop} (D:ZipApart z TI TO i1 i2 l1 l2)
    (hz:IsZip s.heap z TI TO .none) (hTI:IsPair s.heap TI (.ref i1) (.ref i2)) (hTO:IsPair s.heap TO a b)
    (h1:s.heap.IsTupleIter i1 l1 k1) (h2:s.heap.IsListIter i2 l2 k2) (hl1:s.heap.IsTuple l1 xs) (hl2:s.heap.IsList l2 ys) (hx:xs[k1]?=some x) (hy:ys[k2]?=some y)
    (hQ:∀ h',IsZip h' z TI TO (rawInt s.heap.objs.size)→IsPair h' TO x y→h'.IsTupleIter i1 l1 (k1+1)→h'.IsListIter i2 l2 (k2+1)→IsPair h' s.heap.objs.size x y→h'.objs.size=s.heap.objs.size+1→
      (∀ c o,c≠z→c≠TO→c≠i1→c≠i2→s.heap.get? c=some o→h'.get? c=some o)→Q (some (.ref s.heap.objs.size)) { s with heap:=h' }) :
    wpAny (model prog w) A (pyNext (.ref z)) Q E s:=by
  have hT:s.TypeIs (.ref z) "zip" := ⟨_,hz,rfl⟩
  unfold pyNext
  exact wpAny_bind (wpAny_attempt (wpAny_callSpecial?_slot (name:=Str.ofString "__next__") hT F.slot_zip_next
    (wpAny_call_entry F.slot_zip_next hT F.entry_zip_next
      (qer D hz hTI hTO h1 h2 hl1 hl2 hx hy fun h' a1 a2 a3 a4 a5 a6 a7=>wpAny_pure (hQ h' a1 a2 a3 a4 a5 a6 a7)) (F.args_zip_next_1 _))))
theorem qhL {z TI TO i1 i2 l1 l2:Addr} {k1 k2:Nat} {xs ys:Array Value} {a b:Value} {Q:Option Value→Shared→Prop} (hh:A.handled=none) (D:ZipApart z TI TO i1 i2 l1 l2)
    (hz:IsZip s.heap z TI TO .none) (hTI:IsPair s.heap TI (.ref i1) (.ref i2)) (hTO:IsPair s.heap TO a b)
    (h1:s.heap.IsTupleIter i1 l1 k1) (h2:s.heap.IsListIter i2 l2 k2) (hl1:s.heap.IsTuple l1 xs) (hl2:s.heap.IsList l2 ys) (hend:xs[k1]?=none∨ys[k2]?=none)
    (hQ:∀ h',(∀ c o,c≠z→c≠TO→c≠i1→c≠i2→s.heap.get? c=some o→h'.get? c=some o)→Q none { s with heap:=h' }):wpAny (model prog w) A (pyNext (.ref z)) Q E s:=by
  have hT:s.TypeIs (.ref z) "zip" := ⟨_,hz,rfl⟩
  unfold pyNext
  refine wpAny_bind (wpAny_attempt (wpAny_callSpecial?_slot (name:=Str.ofString "__next__") hT F.slot_zip_next
    (wpAny_call_entry F.slot_zip_next hT F.entry_zip_next (qfc hh D hz hTI hTO h1 h2 hl1 hl2 hend fun h' e hk he=>?_) (F.args_zip_next_1 _))))
  obtain ⟨o,ho,hc⟩:=he
  refine wpAny_bind (wpAny_isInstance (T := "StopIteration") (b:=true) ⟨o,ho,hc⟩ isSubtype_stop ?_)
  exact wpAny_pure (hQ _ hk)
end
noncomputable abbrev qgR (h:Heap) (l1:Addr):Heap:=h.push { cls:=.type "tuple_iterator", data:=.fields #[.ref l1,.int 0 0] }
noncomputable abbrev qgS (h:Heap) (l1 l2:Addr):Heap:=(qgR h l1).push { cls:=.type "list_iterator", data:=.fields #[.ref l2,.int 0 0] }
noncomputable abbrev qgT (h:Heap) (l1 l2:Addr):Heap:=(qgS h l1 l2).push { cls:=.type "tuple", data:=.seq #[.ref h.objs.size,.ref (qgR h l1).objs.size] }
noncomputable abbrev qgU (h:Heap) (l1 l2:Addr):Heap:=(qgT h l1 l2).push { cls:=.type "tuple", data:=.seq #[.none,.none] }
noncomputable abbrev qd6 (h:Heap) (l1 l2:Addr):Heap:=(qgU h l1 l2).push { cls:=.type "zip", data:=.fields #[.none,.bool false,.bool false,.ref (qgS h l1 l2).objs.size,.ref (qgT h l1 l2).objs.size] }
theorem qhM (l1 l2:Addr) (xs ys:Array Value) :
    Meets (Builtin.«zip.__new__» ⟨[.type "zip", .ref l1,.ref l2],[]⟩) (fun _ R s=>s.heap.IsTuple l1 xs∧s.heap.IsList l2 ys∧
      R (.ok (.ret (.ref (qgU s.heap l1 l2).objs.size))) { s with heap:=qd6 s.heap l1 l2 }):=
  .of_wp fun prog w A R s h=>by
    obtain ⟨hp,g,d,tk,os⟩:=s;obtain ⟨hl1,hl2,h⟩:=h
    have hsub:=sub_zip
    have hL1:Heap.IsTuple (Shared.heap ⟨hp,g,d,tk,os⟩) l1 xs:=hl1
    have hL2:Heap.IsList (Shared.heap ⟨hp.push { cls:=.type "tuple_iterator", data:=.fields #[.ref l1,.int 0 0] },g,d,tk,os⟩) l2 ys:=Heap.IsList.push hl2 _
    wp_walk using wpAny_pyIter_tuple hL1,wpAny_pyIter_list hL2
    exact ⟨_,rfl,h⟩
section
variable {prog:Program} {w:World} {A:Around} {E:Value→Shared→Prop} {s:Shared}
theorem qiN {l1 l2:Addr} {xs ys:Array Value} {Q:Value→Shared→Prop} (hl1:s.heap.IsTuple l1 xs) (hl2:s.heap.IsList l2 ys)
    (h:∀ h',IsZip h' (s.heap.objs.size+4) (s.heap.objs.size+2) (s.heap.objs.size+3) .none→IsPair h' (s.heap.objs.size+2) (.ref s.heap.objs.size) (.ref (s.heap.objs.size+1))→
      IsPair h' (s.heap.objs.size+3) .none .none→h'.IsTupleIter s.heap.objs.size l1 0→h'.IsListIter (s.heap.objs.size+1) l2 0→h'.objs.size=s.heap.objs.size+5→
      (∀ c o,s.heap.get? c=some o→h'.get? c=some o)→Q (.ref (s.heap.objs.size+4)) { s with heap:=h' }) :
    wpAny (model prog w) A (call (.type "zip") [.ref l1,.ref l2]) Q E s:=by
  refine callType_new F.called_zip (by decide) (F.typeCall_zip_2 _ _) (F.newCall_zip_2 _ _) (fun obj=>F.args_object_init_3 obj _ _) F.entry_zip_new
    (qhM l1 l2 xs ys) ⟨hl1,hl2,?_⟩
  have z1:(qgR s.heap l1).objs.size=s.heap.objs.size+1:=Heap.size_push ..
  have z2:(qgS s.heap l1 l2).objs.size=s.heap.objs.size+2:=by rw [Heap.size_push,z1]
  have z3:(qgT s.heap l1 l2).objs.size=s.heap.objs.size+3:=by rw [Heap.size_push,z2]
  have z4:(qgU s.heap l1 l2).objs.size=s.heap.objs.size+4:=by rw [Heap.size_push,z3]
  have z5:(qd6 s.heap l1 l2).objs.size=s.heap.objs.size+5:=by rw [Heap.size_push,z4]
  have g5:(qd6 s.heap l1 l2).get? (qgU s.heap l1 l2).objs.size=some _:=Heap.get?_push_size _ rfl
  have g4:(qd6 s.heap l1 l2).get? (qgT s.heap l1 l2).objs.size=some _:=Heap.get?_push_of_some _ (Heap.get?_push_size _ rfl)
  have g3:(qd6 s.heap l1 l2).get? (qgS s.heap l1 l2).objs.size=some _:=Heap.get?_push_of_some _ (Heap.get?_push_of_some _ (Heap.get?_push_size _ rfl))
  have g2:(qd6 s.heap l1 l2).get? (qgR s.heap l1).objs.size=some _:=Heap.get?_push_of_some _ (Heap.get?_push_of_some _ (Heap.get?_push_of_some _ (Heap.get?_push_size _ rfl)))
  have g1:(qd6 s.heap l1 l2).get? s.heap.objs.size=some _:=Heap.get?_push_of_some _ (Heap.get?_push_of_some _ (Heap.get?_push_of_some _ (Heap.get?_push_of_some _ (Heap.get?_push_size _ rfl))))
  show _∧_
  rw [z2,z3,z4] at g5
  rw [z1,z2] at g3
  rw [z3] at g4
  rw [z1] at g2
  rw [z4]
  exact ⟨⟨_,g5,rfl⟩,h _ g5 g3 g4 ⟨_,g1,rfl,rfl⟩ ⟨_,g2,rfl,rfl⟩ z5 fun c o x=>
    Heap.get?_push_of_some _ (Heap.get?_push_of_some _ (Heap.get?_push_of_some _ (Heap.get?_push_of_some _ (Heap.get?_push_of_some _ x))))⟩
end
end Bs
namespace Bs
open PySem PySem.Spec PyProof.Rows L2
noncomputable def qng (a b z ti to i1 i2:Addr) (i:Nat) (h:Heap):Prop:=IsZip h z ti to .none∧IsPair h ti (.ref i1) (.ref i2)∧(∃ u v,IsPair h to u v)∧h.IsTupleIter i1 a i∧h.IsListIter i2 b i
theorem qiO {P:Program} {w:World} {K:W.Frag} {elts:List Expr} {k:Nat} {pos:Pos} {a b z ti to i1 i2:Addr} (D:ZipApart z ti to i1 i2 a b):Turn P w K (.Tuple elts k pos) (Itzt K a b) [z,ti,to,i1,i2] z (qng a b z ti to i1 i2) where
  mem:=by simp
  obj:=fun i h st c hc=>by
    obtain ⟨s1,s2,⟨u,v,s3⟩,⟨o4,s4,_,d4⟩,⟨o5,s5,_,d5⟩⟩:=st
    have hc':c=z∨c=ti∨c=to∨c=i1∨c=i2:=by simpa using hc
    rcases hc' with rfl | rfl | rfl | rfl | rfl
    · exact ⟨_,s1,fun v q=>nomatch q⟩
    · exact ⟨_,s2,fun v q=>nomatch q⟩
    · exact ⟨_,s3,fun v q=>nomatch q⟩
    · exact ⟨_,s4,fun v q=>by rw [d4] at q;cases q⟩
    · exact ⟨_,s5,fun v q=>by rw [d5] at q;cases q⟩
  keep:=fun i h h' st kk=>⟨kk z (by simp) _ st.1,kk ti (by simp) _ st.2.1,let ⟨u,v,q⟩:=st.2.2.1;⟨u,v,kk to (by simp) _ q⟩,st.2.2.2.1.at fun o q=>kk i1 (by simp) o q,st.2.2.2.2.at fun o q=>kk i2 (by simp) o q⟩
  item:=by
    intro X hP hw hK hc i pins s σ H E I hf st hg
    subst hP hw hK
    obtain ⟨xs,ys,x,y,hq,hq2,hx,hy⟩:=hg
    obtain ⟨s1,s2,⟨u0,v0,s3⟩,s4,s5⟩:=st
    obtain ⟨its,rv,p1,_⟩:=I.tuple hq
    obtain ⟨jts,rw',p2,_⟩:=I.list hq2
    obtain ⟨u,hu,ru⟩:=rv.get hx
    obtain ⟨v,hv,rw2⟩:=rw'.get hy
    refine qgk D s1 s2 s3 s4 s5 p1 p2.isList (x:=u) (y:=v) (by simpa using hu) (by simpa using hv) fun g g1 g2 g3 g4 g5 _ gk=>?_
    refine ⟨_,rfl,wpAny_letOwnedTupleGo_zip g1 fun g' z1 sb=>?_⟩
    have lz:z<s.heap.objs.size:=Heap.lt_size s1
    have kept:∀ c o,c∉[z,ti,to,i1,i2]→s.heap.get? c=some o→g'.get? c=some o:=fun c o hc q=>by
      have hc':¬ (c=z∨c=ti∨c=to∨c=i1∨c=i2):=by simpa using hc
      exact sb.extBut c o (fun e=>hc' (.inl e)) (gk c o (fun e=>hc' (.inl e)) (fun e=>hc' (.inr (.inr (.inl e)))) (fun e=>hc' (.inr (.inr (.inr (.inl e))))) (fun e=>hc' (.inr (.inr (.inr (.inr e))))) q)
    have I1:=qiH (g:=g') (tk:=s.toks) (xs:=[x,y]) (its:=[u,v]) I hf kept (sz (by simp)) (.cons ru (.cons rw2 .nil)) (sb.extBut _ _ (Nat.ne_of_gt lz) g5)
    refine ⟨.ref s.heap.objs.size,_,I1,rfl,⟨_,x,y,I.hok.fresh (Nat.le_refl _),rfl,rfl,fun zs hz=>by rw [I.tuple_inj hz hq];exact hx,fun zs hz=>by rw [I.list_inj hz hq2];exact hy⟩,⟨z1,?_,⟨u,v,sb.extBut _ _ D.TOz g2⟩,g3.at fun o q=>sb.extBut i1 o D.i1z q,g4.at fun o q=>sb.extBut i2 o D.i2z q⟩,fun c hc=>?_⟩
    · exact sb.extBut _ _ D.TIz (gk _ _ D.TIz D.TITO D.TIi1 D.TIi2 s2)
    · rw [qak]
      · exact (hf c hc).1
      · have hc':c=z∨c=ti∨c=to∨c=i1∨c=i2:=by simpa using hc
        obtain ⟨o4,s4,_⟩:=s4
        obtain ⟨o5,s5,_⟩:=s5
        rcases hc' with rfl | rfl | rfl | rfl | rfl
        · exact Nat.ne_of_lt lz
        · exact Nat.ne_of_lt (Heap.lt_size s2)
        · exact Nat.ne_of_lt (Heap.lt_size s3)
        · exact Nat.ne_of_lt (Heap.lt_size s4)
        · exact Nat.ne_of_lt (Heap.lt_size s5)
  done:=by
    intro X hP hw hK hc i pins s σ H E I hf st hg
    subst hP hw hK
    obtain ⟨xs,ys,hq,hq2,hx⟩:=hg
    obtain ⟨s1,s2,⟨u0,v0,s3⟩,s4,s5⟩:=st
    obtain ⟨its,rv,p1,_⟩:=I.tuple hq
    obtain ⟨jts,_,p2,_⟩:=I.list hq2
    have hl:=rv.length
    refine qhL (I.ok.hd hc) D s1 s2 s3 s4 s5 p1 p2.isList (.inl (by simp;omega)) fun g gk=>⟨rfl,qiG (tk:=s.toks) I hf fun c o hc q=>?_⟩
    have hc':¬ (c=z∨c=ti∨c=to∨c=i1∨c=i2):=by simpa using hc
    exact gk c o (fun e=>hc' (.inl e)) (fun e=>hc' (.inr (.inr (.inl e)))) (fun e=>hc' (.inr (.inr (.inr (.inl e))))) (fun e=>hc' (.inr (.inr (.inr (.inr e))))) q
  self:=fun _ _ _ _ _ st h=>wpAny_pyIter_zip st.1 h
section
variable {X:Cx} {elts:List Expr} {k:Nat} {tpos:Pos} {a b:Expr} {ta:TA} {p pos:Pos}
theorem qlP (hg:Gl X "zip") (hm:X.mg "zip" = none) (ha:PA X [a,b] ta) (hs:starEach [a,b] X.env=(false,eval a X.env)::starEach [b] X.env:=by rfl) (hpl:(backTo pos (starEach [b] X.env)).any (·.1)=false:=by rfl):PI X (.Tuple elts k tpos) (.Call (.Name "zip" p) [a,b] [] pos) (qlO X.K ta):=by
  intro pins s σ H R I h
  refine Call_ (qdY I hg hm qmW (PyProof.Rows.callWith_type1 (thn (ha pos pins s σ H _ I h) fun us s1 ⟨vs,H1,I1,r1,q1⟩=>?_) hs hpl))
  obtain ⟨l1,l2,rfl,⟨xs,hq⟩,⟨ys,hq2⟩,q⟩:=q1
  obtain ⟨u,v,rfl,ru,rv⟩:=vals2 r1
  cases ru
  cases rv
  obtain ⟨its,_,p1,_⟩:=I1.tuple hq
  obtain ⟨jts,_,p2,_⟩:=I1.list hq2
  refine qiN p1 p2.isList fun g z1 z2 z3 z4 z5 _ gk=>?_
  have I2:Inv X pins σ H1 { s1 with heap:=g }:=I1.kept (t':=s1.toks) gk
  have n1:@LT.lt Nat _ l1 s1.heap.objs.size:=p1.lt
  have n2:@LT.lt Nat _ l2 s1.heap.objs.size:=p2.lt
  have D:ZipApart (s1.heap.objs.size+4) (s1.heap.objs.size+2) (s1.heap.objs.size+3) s1.heap.objs.size (s1.heap.objs.size+1) l1 l2:=by
    constructor <;> (show (_:Nat)≠_;omega)
  refine wpAny_pyIter_zip z1 ⟨_,[s1.heap.objs.size+4,s1.heap.objs.size+2,s1.heap.objs.size+3,s1.heap.objs.size,s1.heap.objs.size+1],_,_,H1,rfl,I2,qiO D,⟨z1,z2,⟨_,_,z3⟩,z4,z5⟩,fun c hc=>?_,q⟩
  have hc':s1.heap.objs.size≤c:=by
    have z:c=s1.heap.objs.size+4∨c=s1.heap.objs.size+2∨c=s1.heap.objs.size+3∨c=s1.heap.objs.size∨c=s1.heap.objs.size+1:=by simpa using hc
    rcases z with z | z | z | z | z <;> rw [z] <;> first | exact Nat.le_add_right _ _ | exact Nat.le_refl _
  exact I1.fpOk hc' (I1.hok.fresh hc')
end
theorem qnh {X:Cx} {e st:Expr} {te:TE} {p2 pos:Pos} (he:PE X e te) (hst:PE X st (tUn qj4 (tC (.int 1)))):PE X (.Subscript e (.Slice none none (some st) p2) pos) (qog te):=by
  intro pins s σ H Q I h
  refine Subscript_ (thn (he pins s σ H _ I h) fun v s1 ⟨x,H1,I1,r1,q1⟩=>?_)
  refine wpAny_Slice ?_
  rw [evalPart_none]
  refine wpAny_pure (wpAny_pure (thn (qgb hst pins s1 σ H1 (fun o H2=>o=some (-1)∧H2=H1) I1 ⟨1,rfl,-1,rfl,rfl,rfl⟩) fun vk s3 ⟨o,H3,I3,pk,eo,eH⟩=>?_))
  subst eo eH
  have I4:Inv X pins σ H3 { s3 with heap:=s3.heap.push { cls:=.type "slice", data:=.fields #[.none,.none,vk] } }:=I3.kept (t':=s3.toks) fun b ob q=>Heap.get?_push_of_some _ q
  obtain ⟨a,xs,rfl,hx,q⟩:=q1
  cases r1
  obtain ⟨its,r,ht,hz⟩:=I4.list (SqL.of hx)
  have hlen:=r.length
  show wpAny (model X.prog X.w) X.A (subscriptTail e (.Slice none none (some st) p2) (.ref a) (.ref s3.heap.objs.size)) (EP X pins σ Q) X.xe { s3 with heap:=s3.heap.push { cls:=.type "slice", data:=.fields #[.none,.none,vk] } }
  refine tail_any (ops:=[.ref a,.ref s3.heap.objs.size]) ht.isList.typeIs slot_list_getitem.lookup ?_ (by with_unfolding_all rfl)
  refine wpAny_getItem_list_slice ht.isList (Heap.IsSliceOf.new ..) .none .none pk (by simp) ?_ (by rw [List.size_toArray] <;> omega)
  rw [PySem.W.krv_pick]
  refine ⟨.ref _,_,I4.laid (t':=s3.toks) (o:=.lst xs.reverse) (fun b ob q=>Heap.get?_push_of_some _ q) (Nat.le_refl _) ?_,rfl,q _ (I4.hok.fresh (Nat.le_refl _))⟩
  exact ⟨by rw [List.length_reverse];exact hz,its.reverse,0,r.reverse,Heap.get?_push_size _ rfl⟩
end Bs
namespace Bs
theorem Bd.one:Bd 1 1:=by unfold Bd;decide
theorem Bd.pow {b:Nat} {x:Int} (h:Bd b x) (k:Nat):Bd (b*k+1) (x ^ k):=by
  induction k with
  | zero=>rw [Int.pow_zero,Nat.mul_zero];exact Bd.one
  | succ k ih=>
    have e:b*(k+1)+1=(b*k+1)+b:=by rw [Nat.mul_add,Nat.mul_one];omega
    rw [Int.pow_succ,e]
    exact ih.mul h
theorem Low.swap {t d:Int} (h:Low t d) (ht:0<t):Low d t:=⟨ht,by rw [Int.gcd_comm];exact h.one⟩
end Bs
namespace Bs
noncomputable abbrev Nu:=Int×Int
noncomputable def red (n m:Int):Nu:=(n / ((Int.gcd n m:Nat):Int),m / ((Int.gcd n m:Nat):Int))
noncomputable def nadd (q r:Nu):Nu:=red (q.1*r.2+r.1*q.2) (q.2*r.2)
noncomputable def nsub (q r:Nu):Nu:=red (q.1*r.2 - r.1*q.2) (q.2*r.2)
noncomputable def nmul (q r:Nu):Nu:=red (q.1*r.1) (q.2*r.2)
noncomputable def Wo (q:Nu) (n m:Int):Prop:=q.1*m=n*q.2
theorem qbN {n m:Int} (hm:0<m):Low (red n m).1 (red n m).2:=(qgg (a:=n) hm).1
theorem qni {n m:Int} (hm:0<m):Wo (red n m) n m:=by
  have h:=(qco (a:=n) (b:=m) (s:=((Int.gcd n m:Nat):Int)) (by omega) (by rw [if_neg (by omega)])).2.2.2.1
  rw [Int.fdiv_eq_ediv_of_nonneg _ (by omega),Int.fdiv_eq_ediv_of_nonneg _ (by omega)] at h
  exact h
theorem qeH {a b d:Int} (h:Low a b) (hd:b∣a*d):b∣d:=by
  have c:Nat.Coprime b.natAbs a.natAbs:=by
    have:Nat.Coprime a.natAbs b.natAbs:=h.one
    exact this.symm
  have z:=Int.natAbs_dvd_natAbs.mpr hd
  rw [Int.natAbs_mul] at z
  exact Int.natAbs_dvd_natAbs.mp (c.dvd_of_dvd_mul_left z)
theorem qhN {a b c d:Int} (h1:Low a b) (h2:Low c d) (h:a*d=c*b):a=c∧b=d:=by
  have d1:b∣d:=qeH h1 ⟨c,by rw [h,Int.mul_comm]⟩
  have d2:d∣b:=qeH h2 ⟨a,by rw [← h,Int.mul_comm]⟩
  have e:b=d:=Int.dvd_antisymm (Int.le_of_lt h1.pos) (Int.le_of_lt h2.pos) d1 d2
  subst e
  exact ⟨Int.eq_of_mul_eq_mul_right (Int.ne_of_gt h1.pos) h,rfl⟩
theorem qdP {q r:Nu} (h1:0<q.2) (h2:0<r.2):Low (nadd q r).1 (nadd q r).2:=qbN (Int.mul_pos h1 h2)
theorem qkn {q r:Nu} (h1:0<q.2) (h2:0<r.2):Low (nsub q r).1 (nsub q r).2:=qbN (Int.mul_pos h1 h2)
theorem qdQ {q r:Nu} (h1:0<q.2) (h2:0<r.2):Low (nmul q r).1 (nmul q r).2:=qbN (Int.mul_pos h1 h2)
noncomputable def qkV (l:List Nu):Prop:=∀ q∈l,Low q.1 q.2
noncomputable def qov (l:List Nu) (i:Nat):Nu:=l.getD i (0,1)
end Bs
namespace Bs
noncomputable def ps (ns ms:List Int):Nat→Nat→Int
  | 0,_=>0
  | i+1,k=>ps ns ms i k+(if i≤k∧k - i<ms.length then ns.getD i 0*ms.getD (k - i) 0 else 0)
theorem qlQ (c:Nat):Bd c 0:=Nat.pow_pos (by decide)
end Bs
namespace Bs
noncomputable def val (q:Nu):Rat:=(q.1:Rat) / (q.2:Rat)
theorem qa6 {z:Int} (h:z≠0):(z:Rat)≠0:=by exact_mod_cast h
theorem qd7 {q:Nu} {n m:Int} (hq:q.2≠0) (hm:m≠0) (w:Wo q n m):val q=(n:Rat) / (m:Rat):=by
  have h1:=qa6 hq
  have h2:=qa6 hm
  have w':(q.1:Rat)*m=n*q.2:=by unfold Wo at w;exact_mod_cast w
  unfold val
  grind
theorem qfd {q r:Nu} (h1:Low q.1 q.2) (h2:Low r.1 r.2) (h:val q=val r):q=r:=by
  have a:=qa6 (Int.ne_of_gt h1.pos)
  have b:=qa6 (Int.ne_of_gt h2.pos)
  unfold val at h
  have z:(q.1:Rat)*r.2=r.1*q.2:=by grind
  have z':q.1*r.2=r.1*q.2:=by exact_mod_cast z
  obtain ⟨x,y⟩:=qhN h1 h2 z'
  exact Prod.ext x y
theorem qfe {n m:Int} (hm:0<m):val (red n m)=(n:Rat) / (m:Rat):=qd7 (Int.ne_of_gt (qbN hm).pos) (Int.ne_of_gt hm) (qni hm)
theorem qbO {q r:Nu} (h1:0<q.2) (h2:0<r.2):val (nadd q r)=val q+val r:=by
  unfold nadd
  rw [qfe (Int.mul_pos h1 h2)]
  have a:=qa6 (Int.ne_of_gt h1)
  have b:=qa6 (Int.ne_of_gt h2)
  unfold val
  push_cast
  grind
theorem qdR {q r:Nu} (h1:0<q.2) (h2:0<r.2):val (nmul q r)=val q*val r:=by
  unfold nmul
  rw [qfe (Int.mul_pos h1 h2)]
  have a:=qa6 (Int.ne_of_gt h1)
  have b:=qa6 (Int.ne_of_gt h2)
  unfold val
  push_cast
  grind
noncomputable def qdt (n m:Int):Nu:=if m<0 then red (-n) (-m) else red n m
theorem qdS {n m:Int} (hm:m≠0):Low (qdt n m).1 (qdt n m).2:=by
  unfold qdt
  split
  · exact qbN (by omega)
  · exact qbN (by omega)
theorem qbp {n m:Int} (hm:m≠0):val (qdt n m)=(n:Rat) / (m:Rat):=by
  unfold qdt
  split
  · rw [qfe (by omega)]
    have:=qa6 hm
    push_cast
    grind
  · exact qfe (by omega)
noncomputable def Ov (l:List Nu) (M:Int):Prop:=0<M∧∀ q∈l,q.2∣M
theorem Ov.get {l:List Nu} {M:Int} (h:Ov l M) (i:Nat):(qov l i).2∣M:=by
  unfold qov
  rw [List.getD_eq_getElem?_getD]
  cases e:l[i]? with
  | none=>exact Int.one_dvd M
  | some q=>exact h.2 q (List.mem_of_getElem? e)
end Bs
namespace Bs
section
variable {α:Type} [Lean.Grind.CommRing α]
noncomputable def cvL:List α→(Nat→α)→Nat→α
  | [],_,_=>0
  | x::a,b,k=>x*b k+(match k with | 0=>0 | k+1=>cvL a b k)
theorem qaZ (b:Nat→α) (k:Nat):cvL [] b k=0:=rfl
theorem qaD (x:α) (a:List α) (b:Nat→α):cvL (x::a) b 0=x*b 0+0:=rfl
theorem qaB (x:α) (a:List α) (b:Nat→α) (k:Nat):cvL (x::a) b (k+1)=x*b (k+1)+cvL a b k:=rfl
theorem qcM {b c:Nat→α} (h:∀ k,b k=c k):∀ (a:List α) (k:Nat),cvL a b k=cvL a c k
  | [],_=>rfl
  | x::a,0=>by rw [qaD,qaD,h 0]
  | x::a,k+1=>by rw [qaB,qaB,h (k+1),qcM h a k]
theorem qgl (b c:Nat→α):∀ (a:List α) (k:Nat),cvL a (fun k=>b k+c k) k=cvL a b k+cvL a c k
  | [],_=>by rw [qaZ,qaZ,qaZ];grind
  | x::a,0=>by rw [qaD,qaD,qaD];grind
  | x::a,k+1=>by rw [qaB,qaB,qaB,qgl b c a k];grind
theorem qdT (s:α) (b:Nat→α):∀ (a:List α) (k:Nat),cvL a (fun k=>s*b k) k=s*cvL a b k
  | [],_=>by rw [qaZ,qaZ];grind
  | x::a,0=>by rw [qaD,qaD];grind
  | x::a,k+1=>by rw [qaB,qaB,qdT s b a k];grind
noncomputable def up1 (b:Nat→α):Nat→α
  | 0=>0
  | k+1=>b k
theorem qff (x:α) (a:List α) (b:Nat→α) (k:Nat):cvL (x::a) b k=x*b k+up1 (cvL a b) k:=by
  cases k with
  | zero=>exact qaD x a b
  | succ k=>exact qaB x a b k
end
end Bs
namespace Bs
structure Pr (p:Nat):Prop where
  two:2≤p
  div:∀ d,d∣p→d=1∨d=p
theorem Pr.cop {p:Nat} (h:Pr p) {a:Nat} (ha:¬ p∣a):Nat.gcd a p=1:=by
  rcases h.div _ (Nat.gcd_dvd_right a p) with e | e
  · exact e
  · exact absurd (e ▸ Nat.gcd_dvd_left a p) ha
theorem Pr.mul {p:Nat} (h:Pr p) {a b:Nat} (hd:p∣a*b):p∣a∨p∣b:=by
  by_cases ha:p∣a
  · exact .inl ha
  · refine .inr (Nat.Coprime.dvd_of_dvd_mul_left (k:=p) (m:=a) ?_ hd)
    have:=h.cop ha
    rw [Nat.gcd_comm] at this
    exact this
theorem Pr.mulI {p:Nat} (h:Pr p) {a b:Int} (hd:(p:Int)∣a*b):(p:Int)∣a∨(p:Int)∣b:=by
  have z:=Int.natAbs_dvd_natAbs.mpr hd
  rw [Int.natAbs_mul,Int.natAbs_natCast] at z
  rcases h.mul z with e | e
  · exact .inl (Int.natAbs_dvd_natAbs.mp (by rw [Int.natAbs_natCast];exact e))
  · exact .inr (Int.natAbs_dvd_natAbs.mp (by rw [Int.natAbs_natCast];exact e))
noncomputable abbrev Rt:=Int×Int
theorem em {a q:Int}:∃ c,a % q=a - q*c:=⟨a / q,by have:=Int.emod_add_mul_ediv a q;omega⟩
noncomputable def rn (q:Int) (x:Rt):Prop:=x.1 % q=x.1∧x.2 % q=x.2
end Bs
namespace Bs
end Bs
namespace Bs
noncomputable def co (ns:List Int) (k:Nat):Int:=ns.getD k 0
section
variable {α:Type} [Lean.Grind.CommRing α]
noncomputable def qfg:List α→List α→List α
  | [],b=>b
  | a,[]=>a
  | x::a,y::b=>(x+y)::qfg a b
theorem qiP (a:List α):qfg a []=a:=by cases a <;> rfl
theorem qcN (g:Nat→α):∀ (a b:List α) (k:Nat),cvL (qfg a b) g k=cvL a g k+cvL b g k
  | [],b,k=>by show cvL b g k=0+cvL b g k;grind
  | x::a,[],k=>by rw [qiP,qaZ];grind
  | x::a,y::b,0=>by show cvL ((x+y)::qfg a b) g 0=_;rw [qaD,qaD,qaD];grind
  | x::a,y::b,k+1=>by show cvL ((x+y)::qfg a b) g (k+1)=_;rw [qaB,qaB,qaB,qcN g a b k];grind
theorem qbP (c:α) (g:Nat→α):∀ (a:List α) (k:Nat),cvL (a.map (c*·)) g k=c*cvL a g k
  | [],k=>by show (0:α)=c*0;grind
  | x::a,0=>by rw [List.map_cons,qaD,qaD];grind
  | x::a,k+1=>by rw [List.map_cons,qaB,qaB,qbP c g a k];grind
noncomputable def upS (s:Nat) (f:Nat→α) (k:Nat):α:=if s≤k then f (k - s) else 0
noncomputable def qcO:List α→List α→List α
  | [],_=>[]
  | x::a,b=>qfg (b.map (x*·)) (0::qcO a b)
theorem qbj (g:Nat→α):∀ (a b:List α) (k:Nat),cvL (qcO a b) g k=cvL a (cvL b g) k
  | [],b,k=>rfl
  | x::a,b,k=>by
    show cvL (qfg (b.map (x*·)) (0::qcO a b)) g k=_
    rw [qcN,qbP,qff,qff]
    have e:up1 (cvL (qcO a b) g) k=up1 (cvL a (cvL b g)) k:=by
      cases k with
      | zero=>rfl
      | succ k=>exact qbj g a b k
    rw [e]
    grind
theorem qd8 (g:Nat→α) (s:α):∀ (a:List α) (k:Nat),cvL (a++[s]) g k=cvL a g k+s*upS a.length g k
  | [],0=>by show cvL [s] g 0=0+s*g 0;rw [qaD];grind
  | [],k+1=>by show cvL [s] g (k+1)=0+s*g (k+1);rw [qaB,qaZ];grind
  | x::a,0=>by show cvL (x::(a++[s])) g 0=_;rw [qaD,qaD];unfold upS;rw [if_neg (by simp)];grind
  | x::a,k+1=>by
    show cvL (x::(a++[s])) g (k+1)=_
    rw [qaB,qaB,qd8 g s a k]
    have e:upS (x::a).length g (k+1)=upS a.length g k:=by
      unfold upS
      rw [List.length_cons]
      by_cases h:a.length≤k
      · rw [if_pos h,if_pos (by omega),show k+1 - (a.length+1)=k - a.length by omega]
      · rw [if_neg h,if_neg (by omega)]
    rw [e];grind
end
theorem qgV {a:List Int} {k:Nat} (h:a.length≤k):co a k=0:=by
  unfold co;rw [List.getD_eq_getElem?_getD,List.getElem?_eq_none h];rfl
theorem qgW {p:Int} {g:Nat→Int} {n:Nat} (h:∀ i,n<i→p∣g i):∀ (a:List Int) (k:Nat),a.length+n≤k→p∣cvL a g k
  | [],_,_=>Int.dvd_zero p
  | x::a,0,hk=>absurd hk (by rw [List.length_cons];omega)
  | x::a,k+1,hk=>by
    rw [List.length_cons] at hk
    rw [qaB]
    exact Int.dvd_add (Int.dvd_mul_of_dvd_right (h (k+1) (by omega))) (qgW h a k (by omega))
theorem qfR {p:Nat} (hp:Pr p) {g:Nat→Int} {n:Nat} (h0:¬ (p:Int)∣g n) (h:∀ i,n<i→(p:Int)∣g i) (S:List Int) :
    (∀ k,n≤k→(p:Int)∣cvL S g k)→∀ s∈S,(p:Int)∣s:=by
  induction hl:S.length generalizing S with
  | zero=>intro _ s hs;rw [List.length_eq_zero_iff.mp hl] at hs;exact nomatch hs
  | succ m ih=>
    intro hk
    have ne:S≠[]:=fun z=>by rw [z] at hl;simp at hl
    obtain ⟨T,t,rfl⟩:∃ T t,S=T++[t]:=⟨S.dropLast,S.getLast ne,(List.dropLast_concat_getLast ne).symm⟩
    have hT:T.length=m:=by simpa using hl
    have ht:(p:Int)∣t:=by
      have a:=hk (T.length+n) (by omega)
      rw [qd8] at a
      have b:=qgW h T (T.length+n) (Nat.le_refl _)
      have c:(p:Int)∣t*upS T.length g (T.length+n):=by
        have:=Int.dvd_sub a b
        rwa [show ∀ x y:Int,x+y - x=y by intro x y;omega] at this
      unfold upS at c
      rw [if_pos (by omega),show T.length+n - T.length=n by omega] at c
      rcases hp.mulI c with z | z
      · exact z
      · exact absurd z h0
    have hT2:=ih T hT (fun k hk2=>by
      have a:=hk k hk2
      rw [qd8] at a
      have:=Int.dvd_sub a (Int.dvd_mul_of_dvd_left (c:=upS T.length g k) ht)
      rwa [show ∀ x y:Int,x+y - y=x by intro x y;omega] at this)
    intro s hs
    rcases List.mem_append.mp hs with h | h
    · exact hT2 s h
    · rw [List.mem_singleton.mp h];exact ht
noncomputable def Lz (g:List Int):Prop:=0<g.length∧co g (g.length - 1)≠0
noncomputable def QI (r o f:Nat→Int):Prop:=∃ d:Int,d≠0∧∃ U V:List Int,∀ k,d*f k=cvL U r k+cvL V o k
noncomputable def MQ (g f:Nat→Int):Prop:=∃ c:Int,c≠0∧∃ A:List Int,∀ k,c*f k=cvL A g k
theorem QI.congr {r o f h:Nat→Int} (q:QI r o f) (e:∀ k,h k=f k):QI r o h:=by
  obtain ⟨d,d0,U,V,hU⟩:=q
  exact ⟨d,d0,U,V,fun k=>by rw [e k];exact hU k⟩
theorem QI.left (r o:Nat→Int):QI r o r:=⟨1,by decide,[1],[],fun k=>by
  rw [qaZ]
  cases k with
  | zero=>rw [qaD];omega
  | succ k=>rw [qaB,qaZ];omega⟩
theorem QI.right (r o:Nat→Int):QI r o o:=⟨1,by decide,[],[1],fun k=>by
  rw [qaZ]
  cases k with
  | zero=>rw [qaD];omega
  | succ k=>rw [qaB,qaZ];omega⟩
theorem QI.scal {r o f:Nat→Int} {c:Int} (c0:c≠0) (q:QI r o (fun k=>c*f k)):QI r o f:=by
  obtain ⟨d,d0,U,V,hU⟩:=q
  exact ⟨d*c,Int.mul_ne_zero d0 c0,U,V,fun k=>by rw [← hU k];grind⟩
theorem QI.trans {r o a b f:Nat→Int} (qa:QI r o a) (qb:QI r o b) (q:QI a b f):QI r o f:=by
  obtain ⟨d,d0,U,V,hU⟩:=q
  obtain ⟨d1,d10,U1,V1,h1⟩:=qa
  obtain ⟨d2,d20,U2,V2,h2⟩:=qb
  refine ⟨d1*d2*d,Int.mul_ne_zero (Int.mul_ne_zero d10 d20) d0,qfg ((qcO U U1).map (d2*·)) ((qcO V U2).map (d1*·)),qfg ((qcO U V1).map (d2*·)) ((qcO V V2).map (d1*·)),fun k=>?_⟩
  rw [qcN,qcN,qbP,qbP,qbP,qbP,qbj,qbj,qbj,qbj]
  have e1:d1*cvL U a k=cvL U (cvL U1 r) k+cvL U (cvL V1 o) k:=by
    rw [← qdT,← qgl];exact qcM h1 U k
  have e2:d2*cvL V b k=cvL V (cvL U2 r) k+cvL V (cvL V2 o) k:=by
    rw [← qdT,← qgl];exact qcM h2 V k
  have e3:=hU k
  grind
theorem MQ.refl (g:Nat→Int):MQ g g:=⟨1,by decide,[1],fun k=>by
  cases k with
  | zero=>rw [qaD];omega
  | succ k=>rw [qaB,qaZ];omega⟩
theorem MQ.zero (g:Nat→Int) {f:Nat→Int} (h:∀ k,f k=0):MQ g f:=⟨1,by decide,[],fun k=>by rw [qaZ,h k];rfl⟩
theorem MQ.congr {g f h:Nat→Int} (m:MQ g f) (e:∀ k,h k=f k):MQ g h:=by
  obtain ⟨c,c0,A,hA⟩:=m
  exact ⟨c,c0,A,fun k=>by rw [e k];exact hA k⟩
theorem MQ.scal {g f:Nat→Int} {c:Int} (c0:c≠0) (m:MQ g (fun k=>c*f k)):MQ g f:=by
  obtain ⟨d,d0,A,hA⟩:=m
  exact ⟨d*c,Int.mul_ne_zero d0 c0,A,fun k=>by rw [← hA k];grind⟩
theorem MQ.trans {g f h:Nat→Int} (m:MQ g f) (m':MQ f h):MQ g h:=by
  obtain ⟨c,c0,A,hA⟩:=m
  obtain ⟨d,d0,B,hB⟩:=m'
  refine ⟨c*d,Int.mul_ne_zero c0 d0,qcO B A,fun k=>?_⟩
  rw [qbj]
  have e:c*cvL B f k=cvL B (cvL A g) k:=by rw [← qdT];exact qcM hA B k
  rw [← e,← hB k];grind
end Bs
namespace Bs
structure Gen (r o:Nat→Int) (g:List Int):Prop where
  lz:Lz g
  qi:QI r o (co g)
  len:∀ h,Lz h→QI r o (co h)→g.length≤h.length
  last:∀ h,Lz h→QI r o (co h)→h.length=g.length→(co g (g.length - 1)).natAbs≤(co h (h.length - 1)).natAbs
theorem Gen.prim {r o:Nat→Int} {g:List Int} (G:Gen r o g) {p:Nat} (hp:2≤p):∃ n,¬ (p:Int)∣co g n∧∀ i,n<i→(p:Int)∣co g i:=by
  have key:∀ n,(∀ i,n≤i→(p:Int)∣co g i)→(∀ i,(p:Int)∣co g i)∨∃ n,¬ (p:Int)∣co g n∧∀ i,n<i→(p:Int)∣co g i:=by
    intro n
    induction n with
    | zero=>intro h;exact .inl fun i=>h i (Nat.zero_le i)
    | succ n ih=>
      intro h
      by_cases hd:(p:Int)∣co g n
      · exact ih fun i hi=>by
          by_cases e:i=n
          · rw [e];exact hd
          · exact h i (by omega)
      · exact .inr ⟨n,hd,fun i hi=>h i (by omega)⟩
  rcases key g.length (fun i hi=>by rw [qgV hi];exact Int.dvd_zero _) with h | h
  · exfalso
    let h1:List Int:=g.map (· / (p:Int))
    have e1:∀ k,(p:Int)*co h1 k=co g k:=fun k=>by
      have:co h1 k=co g k / (p:Int):=by
        show (g.map (· / (p:Int))).getD k 0=g.getD k 0 / (p:Int)
        rw [List.getD_eq_getElem?_getD,List.getD_eq_getElem?_getD,List.getElem?_map]
        cases g[k]? with
        | none=>exact (Int.zero_ediv _).symm
        | some z=>rfl
      rw [this,Int.mul_ediv_cancel' (h k)]
    have p0:(p:Int)≠0:=by omega
    have qlV:h1.length=g.length:=List.length_map ..
    have ne:co h1 (h1.length - 1)≠0:=fun z=>G.lz.2 (by rw [← e1,← qlV,z];omega)
    have l1:Lz h1:=⟨by rw [qlV];exact G.lz.1,ne⟩
    have q1:QI r o (co h1):=QI.scal (c:=(p:Int)) p0 (QI.congr G.qi e1)
    have lt:=G.last h1 l1 q1 qlV
    have e2:=e1 (g.length - 1)
    rw [← qlV] at e2
    rw [qlV] at e2 lt
    rw [← e2,Int.natAbs_mul,Int.natAbs_natCast] at lt
    rw [qlV] at ne
    have pos:0<(co h1 (g.length - 1)).natAbs:=by omega
    have:=Nat.mul_le_mul_right (co h1 (g.length - 1)).natAbs hp
    omega
  · exact h
theorem Gen.loc {r o:Nat→Int} {g:List Int} (G:Gen r o g) {p:Nat} (hp:Pr p) {f:Nat→Int} (m:MQ (co g) f) :
    ∃ (c:Int) (A:List Int),¬ (p:Int)∣c∧∀ k,c*f k=cvL A (co g) k:=by
  obtain ⟨n,n0,n1⟩:=G.prim hp.two
  obtain ⟨c,c0,A,hA⟩:=m
  have key:∀ (m:Nat) (c:Int) (A:List Int),c.natAbs≤m→c≠0→(∀ k,c*f k=cvL A (co g) k)→∃ (c:Int) (A:List Int),¬ (p:Int)∣c∧∀ k,c*f k=cvL A (co g) k:=by
    intro m
    induction m with
    | zero=>intro c A h h0;omega
    | succ m ih=>
      intro c A h h0 hA
      by_cases hd:(p:Int)∣c
      · have dA:∀ a∈A,(p:Int)∣a:=qfR hp n0 n1 A fun k _=>by rw [← hA k];exact Int.dvd_mul_of_dvd_left hd
        obtain ⟨c',rfl⟩:=hd
        have p2:=hp.two
        have c0':c'≠0:=fun z=>h0 (by rw [z];omega)
        have eA:A=(A.map (· / (p:Int))).map ((p:Int)*·):=by
          rw [List.map_map]
          conv=>lhs;rw [← List.map_id A]
          refine List.map_congr_left fun a ha=>?_
          show a=(p:Int)*(a / (p:Int))
          rw [Int.mul_ediv_cancel' (dA a ha)]
        refine ih c' (A.map (· / (p:Int))) ?_ c0' fun k=>?_
        · rw [Int.natAbs_mul,Int.natAbs_natCast] at h
          have pos:0<c'.natAbs:=by omega
          have:=Nat.mul_le_mul_right c'.natAbs p2
          omega
        · have e:=hA k
          rw [eA,qbP,Int.mul_assoc] at e
          exact Int.eq_of_mul_eq_mul_left (by omega) e
      · exact ⟨c,A,hd,hA⟩
  exact key _ c A (Nat.le_refl _) c0 hA
noncomputable def Dm (p:Int) (g f:Nat→Int):Prop:=∃ S:List Int,∀ k,p∣f k - cvL S g k
theorem Dm.congr {p:Int} {g f h:Nat→Int} (m:Dm p g f) (e:∀ k,p∣h k - f k):Dm p g h:=by
  obtain ⟨S,hS⟩:=m
  exact ⟨S,fun k=>by have:=Int.dvd_add (e k) (hS k);rwa [show ∀ x y z:Int,x - y+(y - z)=x - z by intro x y z;omega] at this⟩
theorem Dm.zero (p:Int) (g:Nat→Int) {f:Nat→Int} (h:∀ k,p∣f k):Dm p g f:=⟨[],fun k=>by rw [qaZ];simpa using h k⟩
theorem Dm.len {p:Nat} (hp:Pr p) {g f:List Int} (lg:0<g.length) (hl:¬ (p:Int)∣co g (g.length - 1)) (d:Dm (p:Int) (co g) (co f)) (h0:∃ k,¬ (p:Int)∣co f k):g.length≤f.length:=by
  rcases Nat.lt_or_ge f.length g.length with z | z
  · exfalso
    obtain ⟨S,hS⟩:=d
    have sS:=qfR hp hl (fun i hi=>by rw [qgV (by omega)];exact Int.dvd_zero _) S fun k hk=>by
      have:=hS k
      rw [qgV (by omega)] at this
      have e:=Int.dvd_neg.mpr this
      rwa [show ∀ x:Int,-(0 - x)=x by intro x;omega] at e
    obtain ⟨k,hk⟩:=h0
    apply hk
    have c:∀ (S:List Int),(∀ s∈S,(p:Int)∣s)→∀ k,(p:Int)∣cvL S (co g) k:=by
      intro S
      induction S with
      | nil=>intro _ k;exact Int.dvd_zero _
      | cons x S ih=>
        intro h k
        rw [qff]
        refine Int.dvd_add (Int.dvd_mul_of_dvd_left (h x (List.mem_cons_self ..))) ?_
        cases k with
        | zero=>exact Int.dvd_zero _
        | succ k=>exact ih (fun s hs=>h s (List.mem_cons_of_mem _ hs)) k
    have:=Int.dvd_add (hS k) (c S sS k)
    rwa [Int.sub_add_cancel] at this
  · exact z
structure RC (r o:Nat→Int) (g:List Int):Prop where
  lz:Lz g
  left:MQ (co g) r
  right:MQ (co g) o
  qi:QI r o (co g)
end Bs
namespace Bs
noncomputable def Prim (g:List Int):Prop:=∀ c:Int,(∀ k,c∣co g k)→c.natAbs=1
theorem Prim.top {g:List Int} (P:Prim g) {p:Nat} (hp:2≤p):∃ n,¬ (p:Int)∣co g n∧∀ i,n<i→(p:Int)∣co g i:=by
  have key:∀ n,(∀ i,n≤i→(p:Int)∣co g i)→(∀ i,(p:Int)∣co g i)∨∃ n,¬ (p:Int)∣co g n∧∀ i,n<i→(p:Int)∣co g i:=by
    intro n
    induction n with
    | zero=>intro h;exact .inl fun i=>h i (Nat.zero_le i)
    | succ n ih=>
      intro h
      by_cases hd:(p:Int)∣co g n
      · exact ih fun i hi=>by
          by_cases e:i=n
          · rw [e];exact hd
          · exact h i (by omega)
      · exact .inr ⟨n,hd,fun i hi=>h i (by omega)⟩
  rcases key g.length (fun i hi=>by rw [qgV hi];exact Int.dvd_zero _) with h | h
  · have:=P (p:Int) h
    omega
  · exact h
end Bs
namespace Bs
open PySem L2
noncomputable def isN (H:Hp) (v:V) (q:Nu):Prop:=∃ p,v=.ref p∧H p=some (.tup [.int q.1,.int q.2])
noncomputable def Nums (H:Hp):List V→List Nu→Prop
  | [],[]=>True
  | x::xs,q::l=>isN H x q∧Nums H xs l
  | _,_=>False
noncomputable def Tp (H H':Hp):Prop:=∀ b xs,H b=some (.tup xs)→H' b=some (.tup xs)
theorem tpS {H H':Hp} (s:Same H H'):Tp H H':=fun b xs h=>s b _ h
theorem Tp.trans {H H1 H2:Hp} (a:Tp H H1) (b:Tp H1 H2):Tp H H2:=fun c xs h=>b c xs (a c xs h)
theorem Kp.tp {p:Addr} {H H':Hp} {xs:List V} (k:Kp p H H') (h:H p=some (.lst xs)):Tp H H':=fun b ys q=>k b _ (qeq q h (by intro z;cases z)) q
theorem Tp.updL {p:Addr} {H:Hp} {xs ys:List V} (h:H p=some (.lst xs)):Tp H (upd H p (.lst ys)):=Kp.tp Kp.upd h
theorem isN.tp {H H':Hp} {v:V} {q:Nu} (h:isN H v q) (t:Tp H H'):isN H' v q:=let ⟨p,e,z⟩:=h;⟨p,e,t _ _ z⟩
theorem Nums.tp {H H':Hp} (t:Tp H H'):∀ {xs:List V} {l:List Nu},Nums H xs l→Nums H' xs l
  | [],[],_=>trivial
  | _::_,_::_,h=>⟨h.1.tp t,Nums.tp t h.2⟩
  | [],_::_,h=>h.elim
  | _::_,[],h=>h.elim
theorem Nums.length {H:Hp}:∀ {xs:List V} {l:List Nu},Nums H xs l→xs.length=l.length
  | [],[],_=>rfl
  | _::_,_::_,h=>congrArg (·+1) (Nums.length h.2)
  | [],_::_,h=>h.elim
  | _::_,[],h=>h.elim
theorem Nums.get {H:Hp}:∀ {xs:List V} {l:List Nu} {i:Nat} {v:V},Nums H xs l→xs[i]?=some v→∃ q,l[i]?=some q∧isN H v q
  | [],[],_,_,_,e=>by simp at e
  | _::_,q::_,0,_,h,e=>by simp at e;subst e;exact ⟨q,rfl,h.1⟩
  | _::_,_::_,i+1,_,h,e=>by
    obtain ⟨q,h1,h2⟩:=Nums.get (i:=i) h.2 (by simpa using e)
    exact ⟨q,by simpa using h1,h2⟩
  | [],_::_,_,_,h,_=>h.elim
  | _::_,[],_,_,h,_=>h.elim
theorem Nums.at {H:Hp} {xs:List V} {l:List Nu} {i:Nat} (h:Nums H xs l) (hi:i<l.length) (d:Nu):∃ v,xs[i]?=some v∧isN H v (l.getD i d):=by
  have hx:i<xs.length:=by rw [h.length];exact hi
  obtain ⟨q,h1,h2⟩:=h.get (List.getElem?_eq_getElem hx)
  refine ⟨_,List.getElem?_eq_getElem hx,?_⟩
  rw [List.getD_eq_getElem?_getD,h1]
  exact h2
theorem Nums.append {H:Hp}:∀ {xs ys:List V} {l m:List Nu},Nums H xs l→Nums H ys m→Nums H (xs++ys) (l++m)
  | [],_,[],_,_,h=>h
  | _::_,_,_::_,_,h,h2=>⟨h.1,Nums.append h.2 h2⟩
  | [],_,_::_,_,h,_=>h.elim
  | _::_,_,[],_,h,_=>h.elim
theorem Nums.one {H:Hp} {v:V} {q:Nu} (h:isN H v q):Nums H [v] [q]:=⟨h,trivial⟩
theorem Nums.take {H:Hp}:∀ {xs:List V} {l:List Nu} (n:Nat),Nums H xs l→Nums H (xs.take n) (l.take n)
  | [],[],n,_=>by simp [Nums]
  | _::_,_::_,0,_=>trivial
  | _::_,_::_,n+1,h=>⟨h.1,Nums.take n h.2⟩
  | [],_::_,_,h=>h.elim
  | _::_,[],_,h=>h.elim
theorem Nums.set {H:Hp} {v:V} {q:Nu} (hv:isN H v q):∀ {xs:List V} {l:List Nu} (i:Nat),Nums H xs l→Nums H (xs.set i v) (l.set i q)
  | [],[],_,_=>trivial
  | _::_,_::_,0,h=>⟨hv,h.2⟩
  | _::_,_::_,i+1,h=>⟨h.1,Nums.set hv i h.2⟩
  | [],_::_,_,h=>h.elim
  | _::_,[],_,h=>h.elim
theorem qgX {α:Type} {xs:List α} {i:Int} {j:Nat} {v:α} (e:i=(j:Int)) (h:xs[j]?=some v):atI xs i=some v:=by subst e;exact qlq h
noncomputable def qiQ (q:Nu):PySem.W.Dat:=.tuple [.int q.1,.int q.2]
theorem qnj {H:Hp} {v:V} {q:Nu} (h:isN H v q):RepD H v (qiQ q):=by
  obtain ⟨p,rfl,hp⟩:=h
  exact .tup hp (.cons (.int _) (.cons (.int _) .nil))
theorem okN (q:Nu) (n:Nat):PySem.W.kqdOk (n+1) (qiQ q)=true:=by simp [qiQ,PySem.W.kqdOk]
end Bs
namespace Bs
open PySem L2
section
variable {σ:L2.St} {H:Hp} {Q:VK} {D:Ends} {rest:TS} {sp:Sp} {E:XK}
theorem qlR {ta:TE} {k:Nat} (h:ta σ H fun x H1=>sp [x] H1 (fun v H'=>rest D (σ.set k (some v)) H') E):qaA (qaH (qas sp [] E (qac ta qar)) (qal k)) rest D σ H:=h
theorem qb3 {ta tb:TE} {k:Nat} (h:ta σ H fun x H1=>tb σ H1 fun y H2=>sp [x,y] H2 (fun v H'=>rest D (σ.set k (some v)) H') E):qaA (qaH (qas sp [] E (qac ta (qac tb qar))) (qal k)) rest D σ H:=h
theorem qiR {ta tb tc:TE} {k:Nat} (h:ta σ H fun x H1=>tb σ H1 fun y H2=>tc σ H2 fun z H3=>sp [x,y,z] H3 (fun v H'=>rest D (σ.set k (some v)) H') E):qaA (qaH (qas sp [] E (qac ta (qac tb (qac tc qar)))) (qal k)) rest D σ H:=h
theorem qlS {ta:TE} (h:ta σ H fun x H1=>sp [x] H1 Q E):qas sp [] E (qac ta qar) σ H Q:=h
theorem qaV {ta tb:TE} (h:ta σ H fun x H1=>tb σ H1 fun y H2=>sp [x,y] H2 Q E):qas sp [] E (qac ta (qac tb qar)) σ H Q:=h
theorem qfS {ta tb tc:TE} (h:ta σ H fun x H1=>tb σ H1 fun y H2=>tc σ H2 fun z H3=>sp [x,y,z] H3 Q E):qas sp [] E (qac ta (qac tb (qac tc qar))) σ H Q:=h
theorem qaJ {te:TE} {k:Nat} (h:te σ H fun x H1=>rest D (σ.set k (some x)) H1):qaA (qaH te (qal k)) rest D σ H:=h
theorem qcD {te:TE} (h:te σ H D.rt):qbH te D σ H:=h
theorem qaz {ta tb:TE} (h:ta σ H fun x H1=>tb σ H1 fun y H2=>[x,y].length≤sizeLine∧∀ p,H2 p=none→Q (.ref p) (upd H2 p (.tup [x,y]))):qbf (qac ta (qac tb qar)) σ H Q:=h
theorem r_c {v:V} (h:Q v H):tC v σ H Q:=h
theorem qjG {r:R2} {ta tb:TE} (h:ta σ H fun x H1=>tb σ H1 fun y H2=>r x y H2 Q):tOp r ta tb σ H Q:=h
theorem qko {b:List V→Hp→VK→Prop} {ta:TE} (h:ta σ H fun x H1=>b [x] H1 Q):tCB b (qac ta qar) σ H Q:=h
theorem qgY {te:TE} {g:TG} (h:te σ H fun x H1=>g x σ H1 (rest D)):qaA (qaH te g) rest D σ H:=h
theorem qlT {i:Nat} {v:V} {σ:L2.St} {H:Hp} {Q:L2.St→Hp→Prop} (h:Q (σ.set i (some v)) H):qal i v σ H Q:=h
theorem qiS {K:W.Frag} {tl:TE} {capt:List (Option Nat)} {g:TG} {te:TE} {σ:L2.St} {H:Hp} {Q:VK} (h:tl σ H (fun x H1=>∃ a,x=.ref a∧(∃ xs,SqT K H1 a xs)∧CompJ (Itt K a) capt g te σ Q H1)):qbL (qjL K tl) capt g te σ H Q:=h
theorem qd9 {K:W.Frag} {tl:TE} {capt:List (Option Nat)} {g:TG} {te:TE} {σ:L2.St} {H:Hp} {Q:VK} (h:tl σ H (fun x H1=>∃ a,x=.ref a∧(∃ xs,SqL K H1 a xs)∧CompJ (Itl K a) capt g te σ Q H1)):qbL (qcu K tl) capt g te σ H Q:=h
theorem qfT {te:TE} {k:Nat} {D:Ends} {σ:L2.St} {H:Hp} (h:te σ H fun x H1=>D.nx (σ.set k (some x)) H1):qaH te (qal k) D σ H:=h
theorem qlU {c:TT} {t u:TS} (h:c σ H fun b H1=>if b=true then t { D with nx:=rest D } σ H1 else u { D with nx:=rest D } σ H1):qaA (qeC c t u) rest D σ H:=h
theorem qkW {te:TE} {Q:Bool→Hp→Prop} (h:te σ H fun x H'=>∃ k,x=.bl k∧Q k H'):qa5 te σ H Q:=h
theorem qlV {x:V}:[x].length≤sizeLine:=by show 1≤_;exact sz (by decide)
theorem qb4 {x y:V}:[x,y].length≤sizeLine:=by show 2≤_;exact sz (by decide)
theorem qoS {x y z:V}:[x,y,z].length≤sizeLine:=by show 3≤_;exact sz (by decide)
end
end Bs
set_option maxHeartbeats 4000000
namespace Bs
open PySem L2
theorem qcv {a:Rat} (h:0≤a):∀ n:Nat,0≤a ^ n
  | 0=>by rw [Rat.pow_zero];decide
  | n+1=>by rw [Rat.pow_succ];exact Rat.mul_nonneg (qcv h n) h
theorem qes {a b c d:Rat} (h:a≤b) (h':c≤d) (a0:0≤a) (d0:0≤d):a*c≤b*d:=by
  have h1:=Rat.mul_le_mul_of_nonneg_left h' a0
  have h2:=Rat.mul_le_mul_of_nonneg_right h d0
  grind
theorem qfh {a b:Rat} (h0:0≤a) (h:a≤b):∀ n:Nat,a ^ n≤b ^ n
  | 0=>by rw [Rat.pow_zero,Rat.pow_zero];grind
  | n+1=>by
    rw [Rat.pow_succ,Rat.pow_succ]
    exact qes (qfh h0 h n) h (qcv h0 n) (by grind)
theorem qea (a b:Rat):∀ n:Nat,(a*b) ^ n=a ^ n*b ^ n
  | 0=>by rw [Rat.pow_zero,Rat.pow_zero,Rat.pow_zero];grind
  | n+1=>by rw [Rat.pow_succ,Rat.pow_succ,Rat.pow_succ,qea a b n];grind
theorem qgZ {a:Rat} (h0:0≤a) (h:a≤1) (n:Nat):a ^ n≤1:=by
  have:=qfh h0 h n
  have e:∀ n:Nat,(1:Rat) ^ n=1:=fun n=>by
    induction n with
    | zero=>rfl
    | succ n ih=>rw [Rat.pow_succ,ih];grind
  rw [e] at this;exact this
theorem bern {s:Rat} (h:-1≤s):∀ n:Nat,1+(n:Rat)*s≤(1+s) ^ n
  | 0=>by rw [Rat.pow_zero];grind
  | n+1=>by
    have ih:=Rat.mul_le_mul_of_nonneg_right (bern h n) (show 0≤1+s by grind)
    have sq:0≤(n:Rat)*(s*s):=by
      refine Rat.mul_nonneg (by exact_mod_cast Nat.zero_le n) ?_
      rcases (Rat.le_total:0≤s∨s≤0) with z | z
      · exact Rat.mul_nonneg z z
      · have:=Rat.mul_nonneg (show 0≤-s by grind) (show 0≤-s by grind)
        grind
    rw [Rat.pow_succ]
    push_cast
    grind
noncomputable def Lo (u x:Rat):Prop:=0≤u∧0<x∧∀ (n:Nat) (t:Rat),0<t→(n:Rat)*t=1→(1+u*t) ^ n≤x
noncomputable def Up (v x:Rat):Prop:=0≤v∧0<x∧∀ (n:Nat) (t:Rat),0<t→(n:Rat)*t=1→v*t<1→x*(1 - v*t) ^ n≤1
theorem qfi (r:Rat):∃ n:Nat,r<(n:Rat):=by
  refine ⟨(r.floor+1).toNat,?_⟩
  have h:=Rat.lt_floor_add_one r
  have:(r.floor+1:Int)≤(((r.floor+1).toNat:Nat):Int):=by omega
  have:((r.floor+1:Int):Rat)≤((((r.floor+1).toNat:Nat):Int):Rat):=by exact_mod_cast this
  have e:((((r.floor+1).toNat:Nat):Int):Rat)=(((r.floor+1).toNat:Nat):Rat):=by push_cast;rfl
  grind
theorem qg0 {n:Nat} (h:0<n):∃ t:Rat,0<t∧(n:Rat)*t=1:=by
  have h0:(0:Rat)<(n:Rat):=by exact_mod_cast h
  refine ⟨(n:Rat)⁻¹,Rat.inv_pos.mpr h0,Rat.mul_inv_cancel _ (by grind)⟩
theorem Lo.up {u v x:Rat} (a:Lo u x) (b:Up v x):u≤v:=by
  refine Rat.not_lt.mp fun c=>?_
  obtain ⟨u0,x0,ha⟩:=a
  obtain ⟨v0,_,hb⟩:=b
  have g:0<u - v:=by grind
  obtain ⟨n,hn⟩:=qfi (v+u*v*(u - v)⁻¹)
  have gi:(u - v)*(u - v)⁻¹=1:=Rat.mul_inv_cancel _ (by grind)
  have gp:0<(u - v)⁻¹:=Rat.inv_pos.mpr g
  have uv:=Rat.mul_nonneg u0 v0
  have q:=Rat.mul_nonneg uv (show 0≤(u - v)⁻¹ by grind)
  have n0:0<n:=by
    rcases Nat.eq_zero_or_pos n with z | z
    · subst z
      have:((0:Nat):Rat)=0:=rfl
      grind
    · exact z
  obtain ⟨t,t0,nt⟩:=qg0 n0
  have vt:v*t<1:=by
    have:0<((n:Rat) - v)*t:=Rat.mul_pos (by grind) t0
    grind
  have uvt:u*v*t<u - v:=by
    have h1:u*v*(u - v)⁻¹<(n:Rat):=by grind
    have h2:0<((n:Rat) - u*v*(u - v)⁻¹)*((u - v)*t):=Rat.mul_pos (by grind) (Rat.mul_pos g t0)
    have h3:((n:Rat) - u*v*(u - v)⁻¹)*((u - v)*t)=((n:Rat)*t)*(u - v) - u*v*t*((u - v)*(u - v)⁻¹):=by grind
    rw [h3,nt,gi] at h2
    grind
  have h1:=ha n t t0 nt
  have h2:=hb n t t0 nt vt
  have p0:=qcv (show 0≤1 - v*t by grind) n
  have h3:=Rat.mul_le_mul_of_nonneg_right h1 p0
  rw [← qea] at h3
  have e:(1+u*t)*(1 - v*t)=1+t*((u - v) - u*v*t):=by grind
  rw [e] at h3
  have s0:0<t*((u - v) - u*v*t):=Rat.mul_pos t0 (by grind)
  have h4:=bern (show -1≤t*((u - v) - u*v*t) by grind) n
  have nr:(0:Rat)<(n:Rat):=by exact_mod_cast n0
  have h5:=Rat.mul_pos nr s0
  grind
theorem Lo.mono {u v x:Rat} (a:Lo u x) (v0:0≤v) (h:v≤u):Lo v x:=by
  obtain ⟨u0,x0,ha⟩:=a
  refine ⟨v0,x0,fun n t t0 nt=>?_⟩
  have h1:=ha n t t0 nt
  have h2:=Rat.mul_le_mul_of_nonneg_right h (show 0≤t by grind)
  have h3:=Rat.mul_nonneg v0 (show 0≤t by grind)
  have:=qfh (show 0≤1+v*t by grind) (show 1+v*t≤1+u*t by grind) n
  grind
theorem Lo.mul {u v x y:Rat} (a:Lo u x) (b:Lo v y):Lo (u+v) (x*y):=by
  obtain ⟨u0,x0,ha⟩:=a
  obtain ⟨v0,y0,hb⟩:=b
  refine ⟨by grind,Rat.mul_pos x0 y0,fun n t t0 nt=>?_⟩
  have ut:=Rat.mul_nonneg u0 (show 0≤t by grind)
  have vt:=Rat.mul_nonneg v0 (show 0≤t by grind)
  have h:=Rat.mul_nonneg ut vt
  have h1:=qfh (show 0≤1+(u+v)*t by grind) (show 1+(u+v)*t≤(1+u*t)*(1+v*t) by grind) n
  rw [qea] at h1
  have h2:=qes (ha n t t0 nt) (hb n t t0 nt) (qcv (by grind) n) (by grind)
  grind
theorem Up.mul {u v x y:Rat} (a:Up u x) (b:Up v y):Up (u+v) (x*y):=by
  obtain ⟨u0,x0,ha⟩:=a
  obtain ⟨v0,y0,hb⟩:=b
  refine ⟨by grind,Rat.mul_pos x0 y0,fun n t t0 nt lt=>?_⟩
  have ut:=Rat.mul_nonneg u0 (show 0≤t by grind)
  have vt:=Rat.mul_nonneg v0 (show 0≤t by grind)
  have h:=Rat.mul_nonneg ut vt
  have h1:=qfh (show 0≤1 - (u+v)*t by grind) (show 1 - (u+v)*t≤(1 - u*t)*(1 - v*t) by grind) n
  rw [qea] at h1
  have a1:=ha n t t0 nt (by grind)
  have b1:=hb n t t0 nt (by grind)
  have h2:=qes a1 b1 (Rat.mul_nonneg (by grind) (qcv (show 0≤1 - u*t by grind) n)) (by decide)
  have h3:=Rat.mul_le_mul_of_nonneg_left h1 (show 0≤x*y from Rat.mul_nonneg (by grind) (by grind))
  grind
theorem qoT {n:Nat} {t:Rat} (t0:0<t) (nt:(n:Rat)*t=1):t≤1:=by
  rcases Nat.eq_zero_or_pos n with z | z
  · subst z
    have:((0:Nat):Rat)=0:=rfl
    grind
  · have:(1:Rat)≤(n:Rat):=by exact_mod_cast z
    have:=Rat.mul_le_mul_of_nonneg_right this (show 0≤t by grind)
    grind
theorem qnk {s:Rat} (h0:0≤s) (h1:s≤1) (n:Nat):(1+s) ^ n*(1 - s) ^ n≤1:=by
  rw [← qea]
  have h:=Rat.mul_nonneg h0 h0
  have h2:=Rat.mul_le_mul_of_nonneg_right h1 h0
  refine qgZ (by grind) (by grind) n
theorem Lo.one {d r:Rat} (d0:0≤d) (d1:d<1) (h:r*(1 - d)=1):Lo d r:=by
  have r0:0<r:=by
    refine Rat.not_le.mp fun z=>?_
    have:=Rat.mul_le_mul_of_nonneg_right z (show 0≤1 - d by grind)
    grind
  refine ⟨d0,r0,fun n t t0 nt=>?_⟩
  have tl:=qoT t0 nt
  have s0:=Rat.mul_nonneg d0 (show 0≤t by grind)
  have s1:d*t≤1:=by
    have:=qes (show d≤1 by grind) tl d0 (by decide)
    grind
  have b:=bern (show -1≤-(d*t) by grind) n
  have e:1+(n:Rat) * -(d*t)=1 - d:=by
    have:(n:Rat) * -(d*t) = -(d*((n:Rat)*t)):=by grind
    rw [this,nt];grind
  rw [e] at b
  have b:1 - d≤(1 - d*t) ^ n:=by have e2:1 + -(d*t)=1 - d*t:=by grind
                                 rw [e2] at b;exact b
  have q:=qnk s0 s1 n
  have p0:=qcv (show 0≤1+d*t by grind) n
  have q2:=Rat.mul_le_mul_of_nonneg_left b p0
  have q3:(1+d*t) ^ n*(1 - d)≤r*(1 - d):=by grind
  refine Rat.not_lt.mp fun z=>?_
  have:=Rat.mul_pos (show 0<(1+d*t) ^ n - r by grind) (show 0<1 - d by grind)
  grind
theorem Up.one {e:Rat} (e0:0≤e):Up e (1+e):=by
  refine ⟨e0,by grind,fun n t t0 nt lt=>?_⟩
  have s0:=Rat.mul_nonneg e0 (show 0≤t by grind)
  have b:=bern (show -1≤e*t by grind) n
  have e1:1+(n:Rat)*(e*t)=1+e:=by
    have:(n:Rat)*(e*t)=e*((n:Rat)*t):=by grind
    rw [this,nt];grind
  rw [e1] at b
  have q:=qnk s0 (by grind) n
  have p0:=qcv (show 0≤1 - e*t by grind) n
  have q2:=Rat.mul_le_mul_of_nonneg_right b p0
  grind
theorem Up.mono {u v x:Rat} (a:Up u x) (h:u≤v):Up v x:=by
  obtain ⟨u0,x0,ha⟩:=a
  refine ⟨by grind,x0,fun n t t0 nt lt=>?_⟩
  have h2:=Rat.mul_le_mul_of_nonneg_right h (show 0≤t by grind)
  have h1:=ha n t t0 nt (by grind)
  have:=qfh (show 0≤1 - v*t by grind) (show 1 - v*t≤1 - u*t by grind) n
  have:=Rat.mul_le_mul_of_nonneg_left this (show 0≤x by grind)
  grind
end Bs
namespace Bs
open PySem L2
noncomputable def SN (z:Rat):Nat→Rat
  | 0=>0
  | k+1=>SN z k+2*z ^ (2*k+1)*((2*k+1:Nat):Rat)⁻¹
noncomputable def GN (z:Rat):Nat→Rat
  | 0=>0
  | k+1=>GN z k+z ^ (2*k)
theorem qlW (z:Rat):∀ N:Nat,(1 - z*z)*GN z N=1 - z ^ (2*N)
  | 0=>by show (1 - z*z)*0=1 - z ^ 0;rw [Rat.pow_zero];grind
  | N+1=>by
    show (1 - z*z)*(GN z N+z ^ (2*N))=1 - z ^ (2*N+1+1)
    have:=qlW z N
    rw [Rat.pow_succ,Rat.pow_succ]
    grind
theorem qhO {z:Rat} (h:0≤z):∀ N:Nat,0≤GN z N
  | 0=>by show (0:Rat)≤0;grind
  | N+1=>by have h1:=qhO h N;have h2:=qcv h (2*N);show 0≤GN z N+z ^ (2*N);grind
theorem qnl {a b:Rat} (a0:0≤a) (h:a≤b):∀ m:Nat,b ^ (m+1) - a ^ (m+1)≤((m+1:Nat):Rat)*((b - a)*b ^ m)
  | 0=>by
    rw [Rat.pow_succ,Rat.pow_succ,Rat.pow_zero,Rat.pow_zero]
    have:((0+1:Nat):Rat)=1:=rfl
    rw [this];grind
  | m+1=>by
    have ih:=Rat.mul_le_mul_of_nonneg_left (qnl a0 h m) (show 0≤b by grind)
    have h1:=Rat.mul_le_mul_of_nonneg_right (qfh a0 h (m+1)) (show 0≤b - a by grind)
    have e:b ^ (m+1+1) - a ^ (m+1+1)=b*(b ^ (m+1) - a ^ (m+1))+a ^ (m+1)*(b - a):=by rw [Rat.pow_succ b (m+1),Rat.pow_succ a (m+1)];grind
    have e2:b*(((m+1:Nat):Rat)*((b - a)*b ^ m))=((m+1:Nat):Rat)*((b - a)*b ^ (m+1)):=by rw [Rat.pow_succ b m];grind
    rw [e]
    rw [e2] at ih
    push_cast at ih ⊢
    grind
theorem qnm {a b:Rat} (a0:0≤a) (h:a≤b):∀ m:Nat,((m+1:Nat):Rat)*((b - a)*a ^ m)≤b ^ (m+1) - a ^ (m+1)
  | 0=>by
    rw [Rat.pow_succ,Rat.pow_succ,Rat.pow_zero,Rat.pow_zero]
    have:((0+1:Nat):Rat)=1:=rfl
    rw [this];grind
  | m+1=>by
    have ih:=Rat.mul_le_mul_of_nonneg_left (qnm a0 h m) a0
    have h1:=Rat.mul_le_mul_of_nonneg_right (qfh a0 h (m+1)) (show 0≤b - a by grind)
    have e:b ^ (m+1+1) - a ^ (m+1+1)=a*(b ^ (m+1) - a ^ (m+1))+b ^ (m+1)*(b - a):=by rw [Rat.pow_succ b (m+1),Rat.pow_succ a (m+1)];grind
    have e2:a*(((m+1:Nat):Rat)*((b - a)*a ^ m))=((m+1:Nat):Rat)*((b - a)*a ^ (m+1)):=by rw [Rat.pow_succ a m];grind
    rw [e]
    rw [e2] at ih
    push_cast at ih ⊢
    grind
theorem qgm (k:Nat):((2*k+1:Nat):Rat)*((2*k+1:Nat):Rat)⁻¹=1∧0<((2*k+1:Nat):Rat)⁻¹:=by
  have h0:(0:Rat)<((2*k+1:Nat):Rat):=by exact_mod_cast (show 0<2*k+1 by omega)
  exact ⟨Rat.mul_inv_cancel _ (by grind),Rat.inv_pos.mpr h0⟩
theorem qnn {a b:Rat} (a0:0≤a) (h:a≤b):∀ N:Nat,SN b N - SN a N≤2*(b - a)*GN b N
  | 0=>by show (0:Rat) - 0≤2*(b - a)*0;grind
  | k+1=>by
    have ih:=qnn a0 h k
    obtain ⟨o1,o2⟩:=qgm k
    have p:=Rat.mul_le_mul_of_nonneg_right (qnl a0 h (2*k)) (show 0≤((2*k+1:Nat):Rat)⁻¹ by grind)
    show (SN b k+2*b ^ (2*k+1)*((2*k+1:Nat):Rat)⁻¹) - (SN a k+2*a ^ (2*k+1)*((2*k+1:Nat):Rat)⁻¹)≤2*(b - a)*(GN b k+b ^ (2*k))
    generalize ((2*k+1:Nat):Rat)⁻¹=i at o1 o2 p ⊢
    generalize ((2*k+1:Nat):Rat)=j at o1 p
    have e:j*((b - a)*b ^ (2*k))*i=(b - a)*b ^ (2*k):=by
      have:j*((b - a)*b ^ (2*k))*i=(j*i)*((b - a)*b ^ (2*k)):=by grind
      rw [this,o1];grind
    rw [e] at p
    grind
theorem qiT {a b:Rat} (a0:0≤a) (h:a≤b):∀ N:Nat,2*(b - a)*GN a N≤SN b N - SN a N
  | 0=>by show 2*(b - a)*0≤(0:Rat) - 0;grind
  | k+1=>by
    have ih:=qiT a0 h k
    obtain ⟨o1,o2⟩:=qgm k
    have p:=Rat.mul_le_mul_of_nonneg_right (qnm a0 h (2*k)) (show 0≤((2*k+1:Nat):Rat)⁻¹ by grind)
    show 2*(b - a)*(GN a k+a ^ (2*k))≤(SN b k+2*b ^ (2*k+1)*((2*k+1:Nat):Rat)⁻¹) - (SN a k+2*a ^ (2*k+1)*((2*k+1:Nat):Rat)⁻¹)
    generalize ((2*k+1:Nat):Rat)⁻¹=i at o1 o2 p ⊢
    generalize ((2*k+1:Nat):Rat)=j at o1 p
    have e:j*((b - a)*a ^ (2*k))*i=(b - a)*a ^ (2*k):=by
      have:j*((b - a)*a ^ (2*k))*i=(j*i)*((b - a)*a ^ (2*k)):=by grind
      rw [this,o1];grind
    rw [e] at p
    grind
theorem qeb:∀ N:Nat,SN 0 N=0
  | 0=>rfl
  | k+1=>by
    show SN 0 k+2*0 ^ (2*k+1)*_=0
    rw [qeb k,Rat.pow_succ];grind
noncomputable def ph (z:Rat):Rat:=(1+z)*(1 - z)⁻¹
theorem qiU {a b:Rat} (a0:0≤a) (h:a≤b) (b3:3*b≤1):∃ d e r:Rat,ph b=ph a*r∧Lo d r∧Up e r∧0≤d∧d*(1 - a)*(1+b)=2*(b - a)∧e*(1 - b)*(1+a)=2*(b - a):=by
  have ia:(1 - a)*(1 - a)⁻¹=1:=Rat.mul_inv_cancel _ (by grind)
  have ib:(1 - b)*(1 - b)⁻¹=1:=Rat.mul_inv_cancel _ (by grind)
  have ja:(1+a)*(1+a)⁻¹=1:=Rat.mul_inv_cancel _ (by grind)
  have jb:(1+b)*(1+b)⁻¹=1:=Rat.mul_inv_cancel _ (by grind)
  have pa:0<(1 - a)⁻¹:=Rat.inv_pos.mpr (by grind)
  have pb:0<(1 - b)⁻¹:=Rat.inv_pos.mpr (by grind)
  have qa:0<(1+a)⁻¹:=Rat.inv_pos.mpr (by grind)
  have qb:0<(1+b)⁻¹:=Rat.inv_pos.mpr (by grind)
  unfold ph
  generalize (1 - a)⁻¹=A at *
  generalize (1 - b)⁻¹=B at *
  generalize (1+a)⁻¹=C at *
  generalize (1+b)⁻¹=D at *
  have ba:0≤b - a:=by grind
  have d0:0≤2*(b - a)*(A*D):=Rat.mul_nonneg (by grind) (Rat.mul_nonneg (by grind) (by grind))
  have e0:0≤2*(b - a)*(B*C):=Rat.mul_nonneg (by grind) (Rat.mul_nonneg (by grind) (by grind))
  have d1:1 - 2*(b - a)*(A*D)=(1+a)*(1 - b)*(A*D):=by
    have:(1:Rat)=((1 - a)*A)*((1+b)*D):=by rw [ia,jb];grind
    have e:1 - 2*(b - a)*(A*D)=((1 - a)*A)*((1+b)*D) - 2*(b - a)*(A*D):=by rw [← this]
    rw [e];grind
  have r1:(1+b)*(1 - a)*(B*C)*(1 - 2*(b - a)*(A*D))=1:=by
    rw [d1]
    have:(1+b)*(1 - a)*(B*C)*((1+a)*(1 - b)*(A*D))=((1 - a)*A)*((1 - b)*B)*((1+a)*C)*((1+b)*D):=by grind
    rw [this,ia,ib,ja,jb];grind
  have r2:(1+b)*(1 - a)*(B*C)=1+2*(b - a)*(B*C):=by
    have:(1:Rat)=((1 - b)*B)*((1+a)*C):=by rw [ib,ja];grind
    have e:1+2*(b - a)*(B*C)=((1 - b)*B)*((1+a)*C)+2*(b - a)*(B*C):=by rw [← this]
    rw [e];grind
  refine ⟨2*(b - a)*(A*D),2*(b - a)*(B*C),(1+b)*(1 - a)*(B*C),?_,Lo.one d0 ?_ r1,?_,d0,?_,?_⟩
  · have:(1+a)*A*((1+b)*(1 - a)*(B*C))=(1+b)*B*((1 - a)*A)*((1+a)*C):=by grind
    rw [this,ia,ja];grind
  · have:0<(1+a)*(1 - b)*(A*D):=Rat.mul_pos (Rat.mul_pos (by grind) (by grind)) (Rat.mul_pos pa qb)
    grind
  · rw [r2];exact Up.one e0
  · have:2*(b - a)*(A*D)*(1 - a)*(1+b)=2*(b - a)*(((1 - a)*A)*((1+b)*D)):=by grind
    rw [this,ia,jb];grind
  · have:2*(b - a)*(B*C)*(1 - b)*(1+a)=2*(b - a)*(((1 - b)*B)*((1+a)*C)):=by grind
    rw [this,ib,ja];grind
theorem qiV:ph 0=1:=by unfold ph;grind
theorem Lo.triv:Lo 0 1:=Lo.one (by grind) (by grind) (by grind)
theorem Up.triv:Up 0 1:=by have:=Up.one (e:=0) (by grind);have e:(1:Rat)+0=1:=by grind
                           rw [e] at this;exact this
theorem qg1 {h:Rat} (h0:0≤h) (N:Nat) {κ:Rat} (k0:0≤κ) (hk:κ*(1+2*h)=1):∀ m:Nat,3*((m:Rat)*h)≤1→Lo (SN ((m:Rat)*h) N*κ) (ph ((m:Rat)*h))
  | 0=>fun _=>by
    have e:((0:Nat):Rat)*h=0:=by have:((0:Nat):Rat)=0:=rfl
                                 rw [this];grind
    rw [e,qeb,qiV]
    have:(0:Rat)*κ=0:=by grind
    rw [this];exact Lo.triv
  | m+1=>fun hb=>by
    have e:((m+1:Nat):Rat)*h=(m:Rat)*h+h:=by push_cast;grind
    rw [e] at hb ⊢
    have m0:(0:Rat)≤(m:Rat):=by exact_mod_cast Nat.zero_le m
    have a0:=Rat.mul_nonneg m0 h0
    have ih:=qg1 h0 N k0 hk m (by grind)
    generalize (m:Rat)*h=a at *
    obtain ⟨d,e,r,er,ld,_,d0,ed,_⟩:=qiU (a:=a) (b:=a+h) a0 (by grind) hb
    have su:=qnn (a:=a) (b:=a+h) a0 (by grind) N
    have sl:=qiT (a:=a) (b:=a+h) a0 (by grind) N
    have g0:=qhO a0 N
    have gb:=qhO (show 0≤a+h by grind) N
    have ge:=qlW (a+h) N
    have pz:=qcv (show 0≤a+h by grind) (2*N)
    rw [er]
    have b3:0<1 - (a+h):=by grind
    have k1:SN (a+h) N - SN a N≤d*(1+2*h):=by
      have q1:2*h*GN (a+h) N*((1 - (a+h))*(1+(a+h)))≤2*h:=by
        have:2*h*GN (a+h) N*((1 - (a+h))*(1+(a+h)))=2*h*((1 - (a+h)*(a+h))*GN (a+h) N):=by grind
        rw [this,ge]
        have:=Rat.mul_nonneg (show 0≤2*h by grind) pz
        grind
      have q2:d*(1 - a)*(1+(a+h))=2*h:=by rw [ed];grind
      have q3:2*h*GN (a+h) N*(1 - (a+h))≤d*(1 - a):=by
        refine Rat.not_lt.mp fun z=>?_
        have:=Rat.mul_pos (show 0<2*h*GN (a+h) N*(1 - (a+h)) - d*(1 - a) by grind) (show 0<1+(a+h) by grind)
        grind
      have q4:d*(1 - a)≤d*(1+2*h)*(1 - (a+h)):=by
        have:0≤d*(h*(1 - 2*(a+h))):=Rat.mul_nonneg d0 (Rat.mul_nonneg h0 (by grind))
        grind
      refine Rat.not_lt.mp fun z=>?_
      have z2:d*(1+2*h)<2*h*GN (a+h) N:=by
        have:2*(a+h - a)*GN (a+h) N=2*h*GN (a+h) N:=by grind
        rw [this] at su;grind
      have:=Rat.mul_pos (show 0<2*h*GN (a+h) N - d*(1+2*h) by grind) b3
      grind
    have k2:(SN (a+h) N - SN a N)*κ≤d:=by
      have:=Rat.mul_le_mul_of_nonneg_right k1 k0
      have e3:d*(1+2*h)*κ=d*(κ*(1+2*h)):=by grind
      rw [e3,hk] at this;grind
    have mono:SN a N≤SN (a+h) N:=by
      have:=Rat.mul_nonneg (show 0≤2*(a+h - a) by grind) g0
      grind
    refine (ih.mul ld).mono ?_ (by grind)
    exact Rat.mul_nonneg (by
      have s0:=qiT (a:=0) (b:=a+h) (by grind) (by grind) N
      rw [qeb] at s0
      have:=Rat.mul_nonneg (show 0≤2*(a+h - 0) by grind) (qhO (show (0:Rat)≤0 by grind) N)
      grind) k0
theorem qg2 {h z:Rat} (h0:0≤h) (z3:3*z≤1) (N:Nat) {c:Rat} (hc:c*(1 - z*z)=2*z ^ (2*N)) (c0:0≤c):∀ m:Nat,(m:Rat)*h≤z→Up ((SN ((m:Rat)*h) N+c*((m:Rat)*h))*(1+2*h)) (ph ((m:Rat)*h))
  | 0=>fun _=>by
    have e:((0:Nat):Rat)*h=0:=by have:((0:Nat):Rat)=0:=rfl
                                 rw [this];grind
    rw [e,qeb,qiV]
    have:((0:Rat)+c*0)*(1+2*h)=0:=by grind
    rw [this];exact Up.triv
  | m+1=>fun hb=>by
    have e:((m+1:Nat):Rat)*h=(m:Rat)*h+h:=by push_cast;grind
    rw [e] at hb ⊢
    have m0:(0:Rat)≤(m:Rat):=by exact_mod_cast Nat.zero_le m
    have a0:=Rat.mul_nonneg m0 h0
    have ih:=qg2 h0 z3 N hc c0 m (by grind)
    generalize (m:Rat)*h=a at *
    obtain ⟨d,e,r,er,_,ue,_,_,ee⟩:=qiU (a:=a) (b:=a+h) a0 (by grind) (by grind)
    have sl:=qiT (a:=a) (b:=a+h) a0 (by grind) N
    have ge:=qlW a N
    have pz:=qfh a0 (show a≤z by grind) (2*N)
    have p0:=qcv a0 (2*N)
    rw [er]
    refine (ih.mul ue).mono ?_
    have e0:0≤e:=ue.1
    have sl:2*h*GN a N≤SN (a+h) N - SN a N:=by
      have:2*(a+h - a)*GN a N=2*h*GN a N:=by grind
      rw [this] at sl;exact sl
    have aa:0<(1 - a)*(1+a):=Rat.mul_pos (by grind) (by grind)
    have ca:2*a ^ (2*N)≤c*((1 - a)*(1+a)):=by
      have zz:a*a≤z*z:=qes (by grind) (by grind) a0 (by grind)
      have:=Rat.mul_le_mul_of_nonneg_left (show 1 - z*z≤1 - a*a by grind) c0
      grind
    have q1:2*h≤(SN (a+h) N - SN a N+c*h)*((1 - a)*(1+a)):=by
      have g:2*h*GN a N*((1 - a)*(1+a))=2*h*(1 - a ^ (2*N)):=by
        have:2*h*GN a N*((1 - a)*(1+a))=2*h*((1 - a*a)*GN a N):=by grind
        rw [this,ge]
      have g1:=Rat.mul_le_mul_of_nonneg_right sl (show 0≤(1 - a)*(1+a) by grind)
      have g2:=Rat.mul_le_mul_of_nonneg_left ca h0
      grind
    have q2:e*(1 - (a+h))*(1+a)=2*h:=by rw [ee];grind
    have q3:e*(1 - (a+h))≤(SN (a+h) N - SN a N+c*h)*(1 - a):=by
      refine Rat.not_lt.mp fun y=>?_
      have:=Rat.mul_pos (show 0<e*(1 - (a+h)) - (SN (a+h) N - SN a N+c*h)*(1 - a) by grind) (show 0<1+a by grind)
      grind
    have w0:0≤SN (a+h) N - SN a N+c*h:=by
      have g1:=Rat.mul_nonneg (show 0≤2*h by grind) (qhO a0 N)
      have g2:=Rat.mul_nonneg c0 h0
      grind
    have q4:e≤(SN (a+h) N - SN a N+c*h)*(1+2*h):=by
      generalize SN (a+h) N - SN a N+c*h=W at *
      have:0≤W*(h*(1 - 2*(a+h))):=Rat.mul_nonneg w0 (Rat.mul_nonneg h0 (by grind))
      refine Rat.not_lt.mp fun y=>?_
      have:=Rat.mul_pos (show 0<e - W*(1+2*h) by grind) (show 0<1 - (a+h) by grind)
      grind
    grind
end Bs
namespace Bs
open PySem L2
noncomputable def LLe (u x:Rat):Prop:=0<x∧∀ ε:Rat,0<ε→∃ D,u≤D+ε∧Lo D x
noncomputable def LGe (v x:Rat):Prop:=0<x∧∀ ε:Rat,0<ε→∃ E,E≤v+ε∧Up E x
theorem qfU {a b:Rat} (h:∀ ε:Rat,0<ε→a≤b+ε):a≤b:=by
  refine Rat.not_lt.mp fun c=>?_
  have:=h ((a - b)*(1 / 2)) (Rat.mul_pos (by grind) (by grind))
  grind
theorem LLe.ge {u v x:Rat} (a:LLe u x) (b:LGe v x):u≤v:=by
  refine qfU fun ε e0=>?_
  obtain ⟨D,h1,l⟩:=a.2 (ε*(1 / 2)) (Rat.mul_pos e0 (by grind))
  obtain ⟨E,h2,p⟩:=b.2 (ε*(1 / 2)) (Rat.mul_pos e0 (by grind))
  have:=l.up p
  grind
theorem LLe.mono {u v x:Rat} (a:LLe u x) (h:v≤u):LLe v x:=⟨a.1,fun ε e0=>by
  obtain ⟨D,h1,l⟩:=a.2 ε e0
  exact ⟨D,by grind,l⟩⟩
theorem LGe.mono {u v x:Rat} (a:LGe u x) (h:u≤v):LGe v x:=⟨a.1,fun ε e0=>by
  obtain ⟨D,h1,l⟩:=a.2 ε e0
  exact ⟨D,by grind,l⟩⟩
theorem LLe.mul {u v x y:Rat} (a:LLe u x) (b:LLe v y):LLe (u+v) (x*y):=⟨Rat.mul_pos a.1 b.1,fun ε e0=>by
  obtain ⟨D,h1,l⟩:=a.2 (ε*(1 / 2)) (Rat.mul_pos e0 (by grind))
  obtain ⟨E,h2,p⟩:=b.2 (ε*(1 / 2)) (Rat.mul_pos e0 (by grind))
  exact ⟨D+E,by grind,l.mul p⟩⟩
theorem LGe.mul {u v x y:Rat} (a:LGe u x) (b:LGe v y):LGe (u+v) (x*y):=⟨Rat.mul_pos a.1 b.1,fun ε e0=>by
  obtain ⟨D,h1,l⟩:=a.2 (ε*(1 / 2)) (Rat.mul_pos e0 (by grind))
  obtain ⟨E,h2,p⟩:=b.2 (ε*(1 / 2)) (Rat.mul_pos e0 (by grind))
  exact ⟨D+E,by grind,l.mul p⟩⟩
theorem LLe.triv:LLe 0 1:=⟨by decide,fun ε e0=>⟨0,by grind,Lo.triv⟩⟩
theorem LGe.triv:LGe 0 1:=⟨by decide,fun ε e0=>⟨0,by grind,Up.triv⟩⟩
theorem LLe.pow {u x:Rat} (a:LLe u x):∀ k:Nat,LLe ((k:Rat)*u) (x ^ k)
  | 0=>by
    have e:((0:Nat):Rat)*u=0:=by have:((0:Nat):Rat)=0:=rfl
                                 rw [this];grind
    rw [e,Rat.pow_zero];exact LLe.triv
  | k+1=>by
    have e:((k+1:Nat):Rat)*u=(k:Rat)*u+u:=by push_cast;grind
    rw [e,Rat.pow_succ];exact (a.pow k).mul a
theorem LGe.pow {u x:Rat} (a:LGe u x):∀ k:Nat,LGe ((k:Rat)*u) (x ^ k)
  | 0=>by
    have e:((0:Nat):Rat)*u=0:=by have:((0:Nat):Rat)=0:=rfl
                                 rw [this];grind
    rw [e,Rat.pow_zero];exact LGe.triv
  | k+1=>by
    have e:((k+1:Nat):Rat)*u=(k:Rat)*u+u:=by push_cast;grind
    rw [e,Rat.pow_succ];exact (a.pow k).mul a
theorem qkX {z:Rat} (z0:0≤z) (z3:3*z≤1):0<ph z:=Rat.mul_pos (by grind) (Rat.inv_pos.mpr (by grind))
theorem qno {z:Rat} (z0:0≤z) (N:Nat):0≤SN z N:=by
  have s0:=qiT (a:=0) (b:=z) (by grind) z0 N
  rw [qeb] at s0
  have:=Rat.mul_nonneg (show 0≤2*(z - 0) by grind) (qhO (show (0:Rat)≤0 by grind) N)
  grind
theorem qiW {W z ε:Rat} (w0:0≤W) (z0:0≤z) (e0:0<ε):∃ (m:Nat) (h:Rat),0≤h∧(m:Rat)*h=z∧W*(2*h)≤ε:=by
  obtain ⟨m,hm⟩:=qfi (2*(W*z)*ε⁻¹)
  have ei:ε*ε⁻¹=1:=Rat.mul_inv_cancel _ (by grind)
  have ep:0<ε⁻¹:=Rat.inv_pos.mpr e0
  have wz:=Rat.mul_nonneg w0 z0
  have q:=Rat.mul_nonneg wz (show 0≤ε⁻¹ by grind)
  have m0:0<m:=by
    rcases Nat.eq_zero_or_pos m with y | y
    · subst y
      have:((0:Nat):Rat)=0:=rfl
      grind
    · exact y
  obtain ⟨t,t0,mt⟩:=qg0 m0
  refine ⟨m,z*t,Rat.mul_nonneg z0 (by grind),?_,?_⟩
  · have:(m:Rat)*(z*t)=z*((m:Rat)*t):=by grind
    rw [this,mt];grind
  · have h1:0<((m:Rat) - 2*(W*z)*ε⁻¹)*(ε*t):=Rat.mul_pos (by grind) (Rat.mul_pos e0 t0)
    have h2:((m:Rat) - 2*(W*z)*ε⁻¹)*(ε*t)=((m:Rat)*t)*ε - 2*(W*z)*t*(ε*ε⁻¹):=by grind
    rw [h2,mt,ei] at h1
    grind
theorem LLe.series {z:Rat} (z0:0≤z) (z3:3*z≤1) (N:Nat):LLe (SN z N) (ph z):=⟨qkX z0 z3,fun ε e0=>by
  have s0:=qno z0 N
  obtain ⟨m,h,h0,mh,hs⟩:=qiW s0 z0 e0
  have k1:(1+2*h)⁻¹*(1+2*h)=1:=by rw [Rat.mul_comm];exact Rat.mul_inv_cancel _ (by grind)
  have k0:0<(1+2*h)⁻¹:=Rat.inv_pos.mpr (by grind)
  have l:=qg1 h0 N (show 0≤(1+2*h)⁻¹ by grind) k1 m (by rw [mh];exact z3)
  rw [mh] at l
  refine ⟨_,?_,l⟩
  generalize (1+2*h)⁻¹=κ at *
  have kl:κ≤1:=by
    have:=Rat.mul_nonneg (show 0≤κ by grind) h0
    grind
  have w:=Rat.mul_nonneg s0 (show 0≤2*h by grind)
  have w2:=Rat.mul_le_mul_of_nonneg_left kl w
  have e1:SN z N=SN z N*κ+SN z N*(2*h)*κ:=by
    have:SN z N*κ+SN z N*(2*h)*κ=SN z N*(κ*(1+2*h)):=by grind
    rw [this,k1];grind
  grind⟩
theorem LGe.series {z c:Rat} (z0:0≤z) (z3:3*z≤1) (N:Nat) (hc:c*(1 - z*z)=2*z ^ (2*N)) (c0:0≤c):LGe (SN z N+c*z) (ph z):=⟨qkX z0 z3,fun ε e0=>by
  have s0:=qno z0 N
  have cz:=Rat.mul_nonneg c0 z0
  obtain ⟨m,h,h0,mh,hs⟩:=qiW (W:=SN z N+c*z) (by grind) z0 e0
  have l:=qg2 h0 z3 N hc c0 m (by rw [mh];exact Rat.le_refl)
  rw [mh] at l
  exact ⟨_,by grind,l⟩⟩
theorem qkp {z:Rat} (z0:0≤z) (z3:3*z≤1):9*(z*z)≤1:=by
  have:=qes z3 z3 (by grind) (by grind)
  grind
theorem qnp {z:Rat} (z0:0≤z) (z3:3*z≤1) (N:Nat):∃ c,c*(1 - z*z)=2*z ^ (2*N)∧0≤c∧8*(c*z)≤18*z ^ (2*N+1):=by
  have q:=qkp z0 z3
  have i:(1 - z*z)*(1 - z*z)⁻¹=1:=Rat.mul_inv_cancel _ (by grind)
  have p:0<(1 - z*z)⁻¹:=Rat.inv_pos.mpr (by grind)
  have g:=qcv z0 (2*N)
  generalize (1 - z*z)⁻¹=C at *
  have c9:8*C≤9:=by
    have:=Rat.mul_le_mul_of_nonneg_right q (show 0≤C by grind)
    grind
  refine ⟨2*z ^ (2*N)*C,?_,Rat.mul_nonneg (by grind) (by grind),?_⟩
  · have:2*z ^ (2*N)*C*(1 - z*z)=2*z ^ (2*N)*((1 - z*z)*C):=by grind
    rw [this,i];grind
  · rw [Rat.pow_succ]
    have:=Rat.mul_le_mul_of_nonneg_left c9 (Rat.mul_nonneg g z0)
    grind
structure Ser (z M:Rat) (k:Nat) (p tot:Int):Prop where
  p0:0≤p
  pu:(p:Rat)≤z ^ (2*k+1)*M
  pl:9*(z ^ (2*k+1)*M)≤9*(p:Rat)+16
  tu:2*(tot:Rat)≤SN z k*M
  tl:SN z k*M≤2*(tot:Rat)+4*(k:Rat)
theorem Ser.next {z M:Rat} {k:Nat} {p tot p':Int} (h:Ser z M k p tot) (p0:0≤p') (pu:(p':Rat)≤z ^ (2*(k+1)+1)*M) (pl:9*(z ^ (2*(k+1)+1)*M)≤9*(p':Rat)+16):Ser z M (k+1) p' (tot+p / ((2*k+1:Nat):Int)):=by
  refine ⟨p0,pu,pl,?_,?_⟩
  all_goals
    have i0:(0:Int)<((2*k+1:Nat):Int):=by omega
    have f1:((2*k+1:Nat):Int)*(p / ((2*k+1:Nat):Int))≤p:=Int.mul_ediv_self_le (by omega)
    have f2:p≤((2*k+1:Nat):Int)*(p / ((2*k+1:Nat):Int))+2*(k:Int):=by
      have:=Int.emod_lt_of_pos p i0
      have:=Int.mul_ediv_add_emod p ((2*k+1:Nat):Int)
      push_cast at *
      omega
    have g1:((2*k+1:Nat):Rat)*((p / ((2*k+1:Nat):Int):Int):Rat)≤(p:Rat):=by exact_mod_cast f1
    have g2:(p:Rat)≤((2*k+1:Nat):Rat)*((p / ((2*k+1:Nat):Int):Int):Rat)+2*(k:Rat):=by exact_mod_cast f2
    obtain ⟨o1,o2⟩:=qgm k
    have pu0:=h.pu
    have pl0:=h.pl
    have tu0:=h.tu
    have tl0:=h.tl
    have k0:(0:Rat)≤(k:Rat):=by exact_mod_cast Nat.zero_le k
    have ej:((2*k+1:Nat):Rat)=2*(k:Rat)+1:=by push_cast;grind
    have eS:SN z (k+1)=SN z k+2*z ^ (2*k+1)*((2*k+1:Nat):Rat)⁻¹:=rfl
    have ec:((tot+p / ((2*k+1:Nat):Int):Int):Rat)=(tot:Rat)+((p / ((2*k+1:Nat):Int):Int):Rat):=by push_cast;grind
    rw [eS,ec]
    have ek:((k+1:Nat):Rat)=(k:Rat)+1:=by push_cast;grind
    generalize ((p / ((2*k+1:Nat):Int):Int):Rat)=f at *
    generalize z ^ (2*k+1)=P at *
    generalize ((2*k+1:Nat):Rat)⁻¹=i at *
    generalize ((2*k+1:Nat):Rat)=j at *
  · have h1:=Rat.mul_le_mul_of_nonneg_right (show j*f≤P*M by grind) (show 0≤i by grind)
    have e:j*f*i=f:=by have:j*f*i=(j*i)*f:=by grind
                       rw [this,o1];grind
    rw [e] at h1
    grind
  · rw [ek]
    have h1:=Rat.mul_le_mul_of_nonneg_right (show P*M≤j*(f+2) by grind) (show 0≤i by grind)
    have e:j*(f+2)*i=f+2:=by have:j*(f+2)*i=(j*i)*(f+2):=by grind
                             rw [this,o1];grind
    rw [e] at h1
    grind
theorem Ser.ends {z M:Rat} {k:Nat} {tot:Int} (h:Ser z M k 0 tot) {m:Rat} (m0:0<M) (hm:M*m=1) (z0:0≤z) (z3:3*z≤1):LLe (2*(tot:Rat)*m) (ph z)∧LGe ((2*(tot:Rat)+4*(k:Rat)+4)*m) (ph z):=by
  have mp:0<m:=by
    refine Rat.not_le.mp fun c=>?_
    have:=Rat.mul_le_mul_of_nonneg_left c (show 0≤M by grind)
    grind
  obtain ⟨c,hc,c0,c9⟩:=qnp z0 z3 k
  constructor
  · refine (LLe.series z0 z3 k).mono ?_
    have:=Rat.mul_le_mul_of_nonneg_right h.tu (show 0≤m by grind)
    have e:SN z k*M*m=SN z k:=by have:SN z k*M*m=SN z k*(M*m):=by grind
                                 rw [this,hm];grind
    rw [e] at this;exact this
  · refine (LGe.series z0 z3 k hc c0).mono ?_
    have h1:=h.tl
    have h2:=h.pl
    have h2:9*(z ^ (2*k+1)*M)≤16:=by
      have e:((0:Int):Rat)=0:=rfl
      rw [e] at h2;grind
    have h3:=Rat.mul_le_mul_of_nonneg_right c9 (show 0≤M by grind)
    have h4:(SN z k+c*z)*M≤2*(tot:Rat)+4*(k:Rat)+4:=by grind
    have:=Rat.mul_le_mul_of_nonneg_right h4 (show 0≤m by grind)
    have e2:(SN z k+c*z)*M*m=(SN z k+c*z)*(M*m):=by grind
    rw [e2,hm] at this
    grind
end Bs
namespace Bs
open PySem L2
theorem qnq {z:Rat} (z0:0≤z) (z3:3*z≤1) (k:Nat):3*z ^ (2*k+1)≤1:=by
  have h:=qgZ z0 (by grind) (2*k)
  rw [Rat.pow_succ]
  have:=qes h (show z≤z by grind) (qcv z0 _) z0
  grind
theorem qfj (z:Rat) (k:Nat):z ^ (2*(k+1)+1)=z ^ (2*k+1)*(z*z):=by
  rw [show 2*(k+1)+1=2*k+1+1+1 by omega,Rat.pow_succ,Rat.pow_succ];grind
theorem qg3 {z M:Rat} {p:Int} (M0:0<M) (z0:0≤z) (z3:3*z≤1) (p0:0≤p) (pu:(p:Rat)≤z*M) (pl:z*M≤(p:Rat)+1):Ser z M 0 p 0:=by
  have e:z ^ (2*0+1)=z:=by show z ^ 1=z;rw [show (1:Nat)=0+1 from rfl,Rat.pow_succ,Rat.pow_zero];grind
  refine ⟨p0,by rw [e];exact pu,by rw [e];grind,?_,?_⟩
  · show 2*((0:Int):Rat)≤0*M
    have:((0:Int):Rat)=0:=rfl
    rw [this];grind
  · show 0*M≤2*((0:Int):Rat)+4*((0:Nat):Rat)
    have:((0:Int):Rat)=0:=rfl
    have h2:((0:Nat):Rat)=0:=rfl
    rw [this,h2];grind
theorem qfk {a:Int} {b:Int} (b0:0<b):(b:Rat)*((a / b:Int):Rat)≤(a:Rat)∧(a:Rat)≤(b:Rat)*((a / b:Int):Rat)+(b:Rat):=by
  have f1:b*(a / b)≤a:=Int.mul_ediv_self_le (by omega)
  have f2:a≤b*(a / b)+b:=by
    have:=Int.emod_lt_of_pos a b0
    have:=Int.mul_ediv_add_emod a b
    omega
  exact ⟨by exact_mod_cast f1,by exact_mod_cast f2⟩
theorem qiX {z:Rat} {M p:Int} (M0:0<M) (z0:0≤z) (z3:3*z≤1) (p0:0≤p) (pu:(p:Rat)≤z*M) (pl:z*M≤(p:Rat)+1):(((p*p / M:Int):Rat)≤z*z*M)∧3*(z*z*M)≤3*((p*p / M:Int):Rat)+5:=by
  obtain ⟨f1,f2⟩:=qfk (a:=p*p) M0
  have Mr:(0:Rat)<(M:Rat):=by exact_mod_cast M0
  have pr:(0:Rat)≤(p:Rat):=by exact_mod_cast p0
  have e:((p*p:Int):Rat)=(p:Rat)*(p:Rat):=by push_cast;rfl
  rw [e] at f1 f2
  have zM:=Rat.mul_nonneg z0 (show (0:Rat)≤(M:Rat) by grind)
  generalize ((p*p / M:Int):Rat)=s at *
  generalize (M:Rat)=m at *
  generalize (p:Rat)=q at *
  constructor
  · have h1:=qes pu pu pr zM
    refine Rat.not_lt.mp fun c=>?_
    have:=Rat.mul_pos Mr (show 0<s - z*z*m by grind)
    grind
  · have h1:=Rat.mul_le_mul_of_nonneg_left (show z*m - 1≤q by grind) pr
    have h2:=Rat.mul_le_mul_of_nonneg_left (show z*m - 1≤q by grind) zM
    have h3:m*(z*z*m)≤q*q+2*(z*m):=by grind
    refine Rat.not_lt.mp fun c=>?_
    have:=Rat.mul_pos Mr (show 0<3*(z*z*m) - (3*s+5) by grind)
    have z1:=Rat.mul_le_mul_of_nonneg_right z3 (show (0:Rat)≤m by grind)
    grind
theorem qkq {z:Rat} {M p s tot:Int} {k:Nat} (M0:0<M) (z0:0≤z) (z3:3*z≤1) (h:Ser z M k p tot) (s0:0≤s) (su:(s:Rat)≤z*z*M) (sl:3*(z*z*M)≤3*(s:Rat)+5):Ser z M (k+1) (p*s / M) (tot+p / ((2*k+1:Nat):Int)):=by
  obtain ⟨f1,f2⟩:=qfk (a:=p*s) M0
  have Mr:(0:Rat)<(M:Rat):=by exact_mod_cast M0
  have p0:=h.p0
  have pr:(0:Rat)≤(p:Rat):=by exact_mod_cast p0
  have sr:(0:Rat)≤(s:Rat):=by exact_mod_cast s0
  have e:((p*s:Int):Rat)=(p:Rat)*(s:Rat):=by push_cast;rfl
  rw [e] at f1 f2
  have pu:=h.pu
  have pl:=h.pl
  have zo:=qnq z0 z3 k
  have zz:=qkp z0 z3
  have zn:=qcv z0 (2*k+1)
  refine h.next (Int.ediv_nonneg (Int.mul_nonneg p0 s0) (by omega)) ?_ ?_
  · rw [qfj]
    generalize z ^ (2*k+1)=P at *
    generalize ((p*s / M:Int):Rat)=q at *
    generalize (M:Rat)=m at *
    generalize (p:Rat)=a at *
    generalize (s:Rat)=b at *
    have h1:=qes pu su pr (Rat.mul_nonneg (Rat.mul_nonneg z0 z0) (by grind))
    refine Rat.not_lt.mp fun c=>?_
    have:=Rat.mul_pos Mr (show 0<q - P*(z*z)*m by grind)
    grind
  · rw [qfj]
    generalize z ^ (2*k+1)=P at *
    generalize ((p*s / M:Int):Rat)=q at *
    generalize (M:Rat)=m at *
    generalize (p:Rat)=a at *
    generalize (s:Rat)=b at *
    have z2:=Rat.mul_nonneg z0 z0
    have h1:=Rat.mul_le_mul_of_nonneg_right pl (Rat.mul_nonneg z2 (show 0≤m by grind))
    have h2:=Rat.mul_le_mul_of_nonneg_left sl pr
    have h3:=Rat.mul_le_mul_of_nonneg_right zz (show 0≤m by grind)
    have h4:=Rat.mul_le_mul_of_nonneg_right zo (show 0≤m by grind)
    refine Rat.not_lt.mp fun c=>?_
    have:=Rat.mul_pos Mr (show 0<9*(P*(z*z)*m) - (9*q+16) by grind)
    grind
theorem qkr {z:Rat} {M p tot a b:Int} {k:Nat} (b0:0<b) (a0:0≤a) (hz:z*(b:Rat)=(a:Rat)) (M0:0<M) (z0:0≤z) (z3:3*z≤1) (h:Ser z M k p tot):Ser z M (k+1) (p*a*a / (b*b)) (tot+p / ((2*k+1:Nat):Int)):=by
  have bb:0<b*b:=Int.mul_pos b0 b0
  obtain ⟨f1,f2⟩:=qfk (a:=p*a*a) bb
  have br:(0:Rat)<((b*b:Int):Rat):=by exact_mod_cast bb
  have eb:((b*b:Int):Rat)=(b:Rat)*(b:Rat):=by push_cast;rfl
  have p0:=h.p0
  have pr:(0:Rat)≤(p:Rat):=by exact_mod_cast p0
  have e:((p*a*a:Int):Rat)=(p:Rat)*(z*z)*((b*b:Int):Rat):=by
    rw [eb];push_cast;rw [← hz];grind
  rw [e] at f1 f2
  have pu:=h.pu
  have pl:=h.pl
  have zz:=qkp z0 z3
  have z2:=Rat.mul_nonneg z0 z0
  refine h.next (Int.ediv_nonneg (Int.mul_nonneg (Int.mul_nonneg p0 a0) a0) (by omega)) ?_ ?_
  · rw [qfj]
    generalize z ^ (2*k+1)=P at *
    generalize ((p*a*a / (b*b):Int):Rat)=q at *
    generalize ((b*b:Int):Rat)=B at *
    have h1:=Rat.mul_le_mul_of_nonneg_right pu z2
    refine Rat.not_lt.mp fun c=>?_
    have:=Rat.mul_pos br (show 0<q - (p:Rat)*(z*z) by grind)
    grind
  · rw [qfj]
    generalize z ^ (2*k+1)=P at *
    generalize ((p*a*a / (b*b):Int):Rat)=q at *
    generalize ((b*b:Int):Rat)=B at *
    have h1:=Rat.mul_le_mul_of_nonneg_right pl z2
    have h2:(p:Rat)*(z*z)≤q+1:=by
      refine Rat.not_lt.mp fun c=>?_
      have:=Rat.mul_pos br (show 0<(p:Rat)*(z*z) - (q+1) by grind)
      grind
    grind
theorem Ser.few {z:Rat} {b:Nat} {k:Nat} {p tot:Int} (h:Ser z ((2 ^ b:Nat):Rat) k p tot) (z0:0≤z) (z3:3*z≤1) (p1:1≤p):k+1≤b:=by
  have pr:(1:Rat)≤(p:Rat):=by exact_mod_cast p1
  have q:∀ n:Nat,z ^ n*((2 ^ n:Nat):Rat)≤1:=fun n=>by
    have e:z ^ n*((2 ^ n:Nat):Rat)=(z*2) ^ n:=by
      rw [qea];push_cast;rfl
    rw [e]
    exact qgZ (by grind) (by grind) n
  have q:=q (2*k+1)
  have pu:=h.pu
  have zn:=qcv z0 (2*k+1)
  have lt:2 ^ (2*k+1)≤2 ^ b:=by
    refine Nat.not_lt.mp fun c=>?_
    have c:((2 ^ b:Nat):Rat)<((2 ^ (2*k+1):Nat):Rat):=by exact_mod_cast c
    generalize z ^ (2*k+1)=P at *
    have zp:0<P:=by
      rcases Rat.le_iff_lt_or_eq.mp zn with y | y
      · exact y
      · rw [← y] at pu;grind
    have:=Rat.mul_pos zp (show 0<((2 ^ (2*k+1):Nat):Rat) - ((2 ^ b:Nat):Rat) by grind)
    grind
  have:=(Nat.pow_le_pow_iff_right (by decide:1<2)).mp lt
  omega
end Bs
namespace Bs
open PySem
end Bs
namespace Bs
open PySem L2
noncomputable abbrev Nm (H:Hp) (p:Addr) (t d:Int):Prop:=H p=some (.tup [.int t,.int d])
noncomputable def qax (_:W.Frag):Sp:=fun vs H Q _=>∃ a b:Int,vs=[.int a,.int b]∧Q (.int ((Int.gcd a b:Nat):Int)) H
noncomputable def qbh (_:W.Frag):Sp:=fun vs H Q _=>∃ a b:Int,vs=[.int a,.int b]∧b≠0∧∀ (p:Addr),H p=none→Q (.ref p) (upd H p (.tup [.int (qdt a b).1,.int (qdt a b).2]))
noncomputable def qbE (f:Nu→Nu→Nu) (_:W.Frag):Sp:=fun vs H Q _=>∃ (p q:Addr) (a b c d:Int),vs=[.ref p,.ref q]∧Nm H p a b∧Nm H q c d∧0<b∧0<d∧Bd 60000000 a∧Bd 60000000 b∧Bd 60000000 c∧Bd 60000000 d∧
  ∀ (r:Addr),H r=none→Q (.ref r) (upd H r (.tup [.int (f (a,b) (c,d)).1,.int (f (a,b) (c,d)).2]))
noncomputable abbrev qdh:=qbE nadd
noncomputable abbrev qcP:=qbE nmul
noncomputable abbrev qdU:=qbE nsub
noncomputable abbrev qaM:=qbh
noncomputable abbrev qbn:=qbE nadd
noncomputable abbrev qaN:=qbE nmul
end Bs
namespace Bs
open PySem L2
noncomputable def qfl:Addr:=58
noncomputable def Al {α:Type} (R:V→α→Prop):List V→List α→Prop
  | [],[]=>True
  | u::us,x::xs=>R u x∧Al R us xs
  | _,_=>False
noncomputable def Cz (t:Nat) (q:Nu):Prop:=Low q.1 q.2∧∃ k:Int,val q=(k:Rat) / 60∧Bd t k
noncomputable abbrev Pce:=Nu×Int
noncomputable def Pc (H:Hp) (u:V) (x:Pce):Prop:=∃ a b,u=.ref a∧H a=some (.tup [.ref b,.int x.2])∧Nm H b x.1.1 x.1.2
noncomputable def Rw (H:Hp) (u:V) (x:Nu×Nu):Prop:=∃ a b d,u=.ref a∧H a=some (.tup [.ref b,.ref d])∧Nm H b x.1.1 x.1.2∧Nm H d x.2.1 x.2.2
noncomputable def vp (p:Nat):Nat→Nat→Nat
  | 0,_=>0
  | n+1,w=>if p∣w then vp p n (w / p)+1 else 0
noncomputable def vpI (p:Nat) (w:Int):Nat:=vp p w.natAbs w.natAbs
noncomputable def WP (p:Nat):List Pce→Rat
  | []=>0
  | x::xs=>val x.1*(vpI p x.2:Rat)+WP p xs
noncomputable def prs:List Nat:=[2,3,5,7,11,101,999983,1000000007]
noncomputable def MM:Int:=(((prs.foldr (·*·) 1) ^ 3:Nat):Int)
noncomputable def Sm (w:Int):Prop:=0<w∧w∣MM
noncomputable def Cp (x y:Pce):Prop:=Int.gcd x.2 y.2=1
noncomputable def qaT (_:W.Frag):Sp:=fun vs H Q _=>∃ (u v:V) (x y:Pce) (t:Nat),vs=[u,v]∧Pc H u x∧Pc H v y∧Cz t x.1∧Cz t y.1∧t≤400000∧0<x.2∧0<y.2∧
  ∀ (r:Addr) (us:List V) (H':Hp),Same H H'→H r=none→H' r=some (.lst us)→Al (Pc H') us [(x.1,x.2 / (Int.gcd x.2 y.2:Nat)),(y.1,y.2 / (Int.gcd x.2 y.2:Nat)),(nadd x.1 y.1,((Int.gcd x.2 y.2:Nat):Int))]→Q (.ref r) H'
noncomputable def qaO (_:W.Frag):Sp:=fun vs H Q _=>∃ (a:Addr) (us:List V) (xs:List Pce),vs=[.ref a]∧H a=some (.lst us)∧Al (Pc H) us xs∧(∀ x∈xs,Cz 61 x.1∧Sm x.2)∧xs.length≤48∧
  ∀ (r:Addr) (ws:List V) (ys:List Pce) (H':Hp),Same H H'→H' r=some (.lst ws)→Al (Pc H') ws ys→(∀ y∈ys,Cz 200000 y.1∧y.1.1≠0∧1<y.2∧Sm y.2)→ys.Pairwise Cp→(∀ p,Pr p→WP p ys=WP p xs)→Q (.ref r) H'
noncomputable def WR (p:Nat):List (Nu×Nu)→Rat
  | []=>0
  | x::xs=>val x.1*((vpI p x.2.1:Rat) - (vpI p x.2.2:Rat))+WR p xs
noncomputable def qaI (_:W.Frag):Sp:=fun vs H Q _=>∃ (v:V) (a:Addr) (us:List V) (xs:List (Nu×Nu)),vs=[v,.ref a]∧H a=some (.lst us)∧Al (Rw H) us xs∧(∀ x∈xs,Cz 60 x.1∧Sm x.2.1∧Sm x.2.2)∧xs.length≤24∧H qfl=some (.tbl #[])∧
  ∀ (r b:Addr) (ws:List V) (ys:List Pce) (H':Hp),Kp qfl H H'→H' r=some (.tup [v,.ref b])→H' b=some (.tup ws)→Al (Rw H') ws (ys.map fun y=>(y.1,(y.2,1)))→(∀ y∈ys,Cz 200000 y.1∧y.1.1≠0∧1<y.2∧Sm y.2)→ys.Pairwise Cp→ys.Pairwise (fun x y=>x.2≤y.2)→ys.length≤8→(∀ p,Pr p→WP p ys=WR p xs)→Q (.ref r) H'
end Bs
namespace Bs
open PySem L2
noncomputable def pj (j:Nat):Nat:=prs.getD j 0
noncomputable def Wn (H:Hp) (u:V) (x:Nu×List Int):Prop:=∃ a b w,u=.ref a∧H a=some (.tup [.ref b,.ref w])∧Nm H b x.1.1 x.1.2∧H w=some (.lst (x.2.map V.int))
noncomputable def WW (j:Nat):List (Nu×List Int)→Rat
  | []=>0
  | x::xs=>val x.1*((x.2.getD j 0:Int):Rat)+WW j xs
noncomputable def qcE (K:W.Frag):Sp:=fun vs H Q _=>∃ (a:Addr) (ns:List Int) (k:Int),vs=[.ref a,.int k]∧SqL K H a (ns.map V.int)∧0≤k∧∀ n:Int,Q (.int n) H
noncomputable def qaQ (_:W.Frag):Sp:=fun vs H Q _=>∃ c k m:Int,vs=[.int c,.int k,.int m]∧0≤k∧k≤100∧0<m∧∀ d:Int,0≤d→d<m→Q (.int d) H
noncomputable def qaR (_:W.Frag):Sp:=fun vs H Q _=>∃ (p:Addr) (t d:Int),vs=[.ref p]∧Nm H p t d∧Low t d∧∀ H',Same H H'→Q (.bl true) H'
noncomputable def qbo (_:W.Frag):Sp:=fun vs H Q _=>vs=[]∧∀ r,H r=none→Q (.ref r) (upd H r (.tup (prs.map fun p:Nat=>V.int (p:Int))))
noncomputable def qfV (_:W.Frag):Sp:=fun vs H Q _=>∃ c k:Int,vs=[.int c,.int k]∧0≤k∧k≤50∧∀ (r:Addr) (t d:Int),H r=none→Cz 9 (t,d)→Q (.ref r) (upd H r (.tup [.int t,.int d]))
noncomputable def qbQ (_:W.Frag):Sp:=fun vs H Q _=>∃ c:Int,vs=[.int c]∧∀ (r b w:Addr) (top bot:Int) (es:List Int) (H':Hp),Same H H'→H' r=some (.tup [.ref b,.ref w])→Nm H' b top bot→H' w=some (.lst (es.map V.int))→es.length=8→Sm top→Sm bot→(∀ e∈es,e.natAbs≤3)→(∀ j,j<8→((vpI (pj j) top:Nat):Int) - ((vpI (pj j) bot:Nat):Int)=es.getD j 0)→Q (.ref r) H'
noncomputable def Wz (t:Nat) (y:Nu×List Int):Prop:=Cz t y.1∧y.2.length=8∧∀ e∈y.2,e.natAbs≤700
noncomputable def qb5 (_:W.Frag):Sp:=fun vs H Q _=>∃ (a:Addr) (ns:List Int),vs=[.ref a]∧H a=some (.lst (ns.map V.int))∧ns.length≤12∧
  ∀ (r b d:Addr) (us ws:List V) (xs:List (Nu×Nu)) (ys:List (Nu×List Int)) (H':Hp),Same H H'→H' r=some (.tup [.ref b,.ref d])→H' b=some (.lst us)→Al (Rw H') us xs→H' d=some (.lst ws)→Al (Wn H') ws ys→xs.length≤24→ys.length≤24→(∀ x∈xs,Cz 9 x.1∧Sm x.2.1∧Sm x.2.2)→(∀ y∈ys,Wz 9 y)→(∀ j,j<8→WR (pj j) xs=WW j ys)→Q (.ref r) H'
noncomputable def qbq (_:W.Frag):Sp:=fun vs H Q _=>∃ (a:Addr) (us:List V) (ys:List (Nu×List Int)),vs=[.ref a,.int 8]∧H a=some (.lst us)∧Al (Wn H) us ys∧(∀ y∈ys,Wz 60 y)∧ys.length≤24∧
  ∀ (r:Addr) (ts:List V) (ls:List Nu) (H':Hp),Same H H'→H' r=some (.lst ts)→Nums H' ts ls→ls.length=8→qkV ls→(∀ q∈ls,Cz 100 q)→(∀ j q,ls[j]?=some q→val q=WW j ys)→Q (.ref r) H'
noncomputable def qfW (K:W.Frag):Sp:=fun vs H Q _=>∃ (a:Addr) (ns:List Int),vs=[.ref a]∧SqL K H a (ns.map V.int)∧ns.length≤63∧H qfl=some (.tbl #[])∧∀ H',Q (.bl true) H'
end Bs
namespace Bs
open PySem L2
noncomputable def OvD (D:Int) (t:Nat) (q:Nu):Prop:=Low q.1 q.2∧∃ k:Int,val q=(k:Rat) / (D:Rat)∧Bd t k
structure Lg (M g:Int) (x:Rat) (lo hi:Int):Prop where
  l0:0≤lo
  lh:lo≤hi
  wd:hi≤lo+g
  le:LLe ((lo:Rat) / (M:Rat)) x
  ge:LGe ((hi:Rat) / (M:Rat)) x
noncomputable def Sg (f:Nat→Rat):Nat→Rat
  | 0=>0
  | n+1=>Sg f n+f n
structure Adm (l:Nat→Rat) (ε:Rat):Prop where
  e0:0<ε
  lo:∀ j,j<8→LLe (l j) ((pj j:Nat):Rat)
  up:∀ j,j<8→LGe (l j+ε) ((pj j:Nat):Rat)
noncomputable def InL (lo hi:Rat) (X:(Nat→Rat)→Rat):Prop:=∃ C:Rat,∀ l ε,Adm l ε→lo≤X l+C*ε∧X l≤hi+C*ε
noncomputable def LW (l:Nat→Rat) (w:Int):Rat:=Sg (fun j=>((vpI (pj j) w:Nat):Rat)*l j) 8
noncomputable def XP (l:Nat→Rat):List Pce→Rat
  | []=>0
  | y::ys=>val y.1*LW l y.2+XP l ys
noncomputable def Rz (t:Nat) (x:Nu×Nu):Prop:=Cz t x.1∧Sm x.2.1∧Sm x.2.2
structure Sd (t:Nat) (ys:List Pce):Prop where
  sz:∀ y∈ys,Cz t y.1∧y.1.1≠0∧1<y.2∧Sm y.2
  cp:ys.Pairwise Cp
  so:ys.Pairwise (fun x y=>x.2≤y.2)
  l8:ys.length≤8
noncomputable def qb6 (_:W.Frag):Sp:=fun vs H Q _=>∃ (p q:Addr) (a b c d:Int),vs=[.ref p,.ref q]∧Nm H p a b∧Nm H q c d∧Bd 60000000 a∧Bd 60000000 b∧Bd 60000000 c∧Bd 60000000 d∧Q (.bl (decide (a*d<c*b))) H
noncomputable def qaG (_:W.Frag):Sp:=fun vs H Q _=>∃ (p q:Addr) (a b c d:Int),vs=[.ref p,.ref q]∧Nm H p a b∧Nm H q c d∧Bd 60000000 a∧Bd 60000000 b∧Bd 60000000 c∧Bd 60000000 d∧Q (.bl (decide (a*d≤c*b))) H
noncomputable def qaS (_:W.Frag):Sp:=fun vs H Q _=>∃ (top bot:Int) (b:Nat),vs=[.int top,.int bot,.int b]∧0≤top∧3*top≤bot∧0<bot∧Bd 400 top∧b≤256∧
  ∀ (r:Addr) (lo hi:Int),H r=none→(∀ x:Rat,x*((bot:Rat) - (top:Rat))=(bot:Rat)+(top:Rat)→Lg ((2:Int) ^ b) (4*b+4) x lo hi)→Q (.ref r) (upd H r (.tup [.int lo,.int hi]))
noncomputable def qbR (_:W.Frag):Sp:=fun vs H Q _=>∃ (w:Int) (b:Nat),vs=[.int w,.int b]∧0<w∧Bd 210 w∧b≤256∧
  ∀ (r:Addr) (lo hi:Int) (H':Hp),Same H H'→H' r=some (.tup [.int lo,.int hi])→Lg ((2:Int) ^ b) (211*(4*b+4)) (w:Rat) lo hi→Q (.ref r) H'
noncomputable def qbF (_:W.Frag):Sp:=fun vs H Q _=>∃ (o qa ta:Addr) (us:List V) (q:Nu) (ys:List Pce) (b:Nat),vs=[.ref o,.int b]∧H o=some (.tup [.ref qa,.ref ta])∧Nm H qa q.1 q.2∧H ta=some (.tup us)∧Al (Rw H) us (ys.map fun y=>(y.1,(y.2,1)))∧Cz 60 q∧Sd 73 ys∧b≤256∧
  ∀ (r a d:Addr) (lo hi:Nu) (H':Hp),Same H H'→H' r=some (.tup [.ref a,.ref d])→Nm H' a lo.1 lo.2→Nm H' d hi.1 hi.2→OvD (60*(2:Int) ^ b) 1000 lo→OvD (60*(2:Int) ^ b) 1000 hi→val lo≤val hi→(val hi - val lo)*(((2:Int) ^ b:Int):Rat)≤(((2:Int) ^ 94:Int):Rat)→InL (val lo) (val hi) (fun l=>val q+XP l ys)→Q (.ref r) H'
noncomputable def Sl (q:Nu):Prop:=Low q.1 q.2∧Bd 2000 q.1∧Bd 2000 q.2
noncomputable def qfm (_:W.Frag):Sp:=fun vs H Q _=>∃ (o w qa ta:Addr) (us:List V) (q wd:Nu) (xs:List (Nu×Nu)),vs=[.ref o,.ref w]∧H o=some (.tup [.ref qa,.ref ta])∧Nm H qa q.1 q.2∧H ta=some (.tup us)∧Al (Rw H) us xs∧Nm H w wd.1 wd.2∧Cz 60 q∧(∀ x∈xs,Rz 60 x)∧xs.length≤24∧Sl wd∧1≤val wd*(((10:Int) ^ 40:Int):Rat)∧H qfl=some (.tbl #[])∧
  ∀ (r a d:Addr) (lo hi:Nu) (H':Hp),Kp qfl H H'→H' r=some (.tup [.ref a,.ref d])→Nm H' a lo.1 lo.2→Nm H' d hi.1 hi.2→Sl lo→Sl hi→val lo≤val hi→val hi - val lo≤val wd→InL (val lo) (val hi) (fun l=>val q+Sg (fun j=>WR (pj j) xs*l j) 8)→Q (.ref r) H'
noncomputable def qa7 (_:W.Frag):Sp:=fun vs H Q _=>∃ (p:Addr) (a b S:Int),vs=[.ref p,.int S]∧Nm H p a b∧0≤a∧3*a≤b∧0<b∧Bd 64 b∧0<S∧Bd 300 S∧
  ∀ (r:Addr) (lo hi:Int),H r=none→(∀ x:Rat,x*((b:Rat) - (a:Rat))=(b:Rat)+(a:Rat)→Lg S (8*S+8) x lo hi)→Q (.ref r) (upd H r (.tup [.int lo,.int hi]))
noncomputable def qa4 (_:W.Frag):Sp:=fun vs H Q _=>∃ p S:Int,vs=[.int p,.int S]∧0<p∧Bd 60 p∧0<S∧Bd 300 S∧
  ∀ (r:Addr) (lo hi:Int) (H':Hp),Same H H'→H' r=some (.tup [.int lo,.int hi])→Lg S (61*(8*S+8)) (p:Rat) lo hi→Q (.ref r) H'
noncomputable def qcQ (_:W.Frag):Sp:=fun vs H Q _=>∃ (qa w:Addr) (S:Int) (q:Nu) (ts:List V) (ls:List Nu),vs=[.ref qa,.ref w,.int S]∧Nm H qa q.1 q.2∧Cz 60 q∧H w=some (.lst ts)∧Nums H ts ls∧ls.length=8∧(∀ z∈ls,Cz 100 z)∧0<S∧Bd 300 S∧
  ∀ (r a d:Addr) (lo hi:Nu) (H':Hp),Same H H'→H' r=some (.tup [.ref a,.ref d])→Nm H' a lo.1 lo.2→Nm H' d hi.1 hi.2→Sl lo→Sl hi→InL (val lo) (val hi) (fun l=>val q+Sg (fun j=>val (ls.getD j (0,1))*l j) 8)→Q (.ref r) H'
noncomputable def qcq (_:W.Frag):Sp:=fun vs H Q _=>∃ c:Int,vs=[.int c]∧∀ (r:Addr) (q:Nu) (H':Hp),Same H H'→Nm H' r q.1 q.2→Sl q→1≤val q*(((10:Int) ^ 40:Int):Rat)→Q (.ref r) H'
end Bs
namespace Bs
open PySem L2
section
variable (K:W.Frag)
set_option linter.unusedVariables false
noncomputable def qbU (_:W.Frag):TS:=
  (qaA (qcw (qa5 (tOp rNe (qai 1) (tC (.int 0)))) (qaA (qaH (tOp qmP (qai 0) (qai 1)) (qal 2))
    (qaA (qaH (qai 1) (qal 0))
    (qaH (qai 2) (qal 1)))))
    (qbH (tCB qmp (qac (qai 0) qar))))
noncomputable def qiY:TS:=
  (qaA (qaH (qas (qax K) [] E0 (qac (qai 0) (qac (qai 1) qar))) (qal 2))
    (qaA (qeC (qa5 (tOp iLt (qai 1) (tC (.int 0)))) (qaH (tUn qj4 (qai 2)) (qal 2)) qcs)
    (qbH (qbf (qac (tOp qhK (qai 0) (qai 2)) (qac (tOp qhK (qai 1) (qai 2)) qar))))))
noncomputable def qkY:TS:=
  (qbH (qas (qbh K) [] E0 (qac (tOp qdE (tOp qbi (tOp gT (qai 0) (tC (.int 0))) (tOp gT (qai 1) (tC (.int 1)))) (tOp qbi (tOp gT (qai 1) (tC (.int 0))) (tOp gT (qai 0) (tC (.int 1))))) (qac (tOp qbi (tOp gT (qai 0) (tC (.int 1))) (tOp gT (qai 1) (tC (.int 1)))) qar))))
noncomputable def qiZ:TS:=
  (qbH (qas (qbh K) [] E0 (qac (tOp qmn (tOp qbi (tOp gT (qai 0) (tC (.int 0))) (tOp gT (qai 1) (tC (.int 1)))) (tOp qbi (tOp gT (qai 1) (tC (.int 0))) (tOp gT (qai 0) (tC (.int 1))))) (qac (tOp qbi (tOp gT (qai 0) (tC (.int 1))) (tOp gT (qai 1) (tC (.int 1)))) qar))))
noncomputable def qi0:TS:=
  (qbH (qas (qbh K) [] E0 (qac (tOp qbi (tOp gT (qai 0) (tC (.int 0))) (tOp gT (qai 1) (tC (.int 0)))) (qac (tOp qbi (tOp gT (qai 0) (tC (.int 1))) (tOp gT (qai 1) (tC (.int 1)))) qar))))
noncomputable def qks (_:W.Frag):TS:=
  (qbH (tOp iLt (tOp qbi (tOp gT (qai 0) (tC (.int 0))) (tOp gT (qai 1) (tC (.int 1)))) (tOp qbi (tOp gT (qai 1) (tC (.int 0))) (tOp gT (qai 0) (tC (.int 1))))))
noncomputable def qbr:TS:=
  (qbH (qbf (qac (qai 0) (qac (tCB qiC (qac (qbL (qcu K (qai 3)) [none,none] (qcC 2 (qa1 (qal 0) (qa1 (qal 1) qf8))) (qbf (qac (qai 0) (qac (qbf (qac (qai 1) (qac (tC (.int 1)) qar))) qar)))) qar)) qar))))
noncomputable def qbs:TS:=
  (qaA (qaH (qgP qfl (qas (qaO K) [] E0 (qac (qai 2) qar))) (qal 3))
    (qbr K))
noncomputable def qdF:TS:=
  (qaA (qaH (tOp qnS (qbL (qcu K (qai 1)) [none,none] (qcC 2 (qa1 (qal 0) (qa1 (qal 1) qf8))) (qbf (qac (qai 0) (qac (tOp gT (qai 1) (tC (.int 0))) qar)))) (qbL (qcu K (qai 1)) [none,none] (qcC 2 (qa1 (qal 0) (qa1 (qal 1) qf8))) (qbf (qac (qas (qcP K) [] E0 (qac (qai 0) (qac (qbf (qac (tUn qj4 (tC (.int 1))) (qac (tC (.int 1)) qar))) qar))) (qac (tOp gT (qai 1) (tC (.int 1))) qar))))) (qal 2))
    (qbs K))
noncomputable def qa8:TS:=
  (qde (tBM K "list" qgd (qai 1) (qac (qas (qaT K) [] E0 (qac (qai 3) (qac (tOp gL (qai 4) (tC (.int 0))) qar))) qar)))
noncomputable def qa9:TS:=
  (qaA (qde (tBM K "list" qiK (qai 2) (qac (tOp gL (qai 4) (tC (.int 0))) qar)))
    (qa8 K))
noncomputable def qba:TS:=
  (qeC (qkf (qai 4)) (qa9 K) (qde (tBM K "list" qbK (qai 2) (qac (qai 3) qar))))
noncomputable def qbb:TS:=
  (qaA (qaH (qd5 (qcu K (qai 2)) [none,some 3] (qal 0) (qa5 (tOp iGt (qas (qax K) [] E0 (qac (tOp gT (qai 1) (tC (.int 1))) (qac (tOp gT (qai 0) (tC (.int 1))) qar))) (tC (.int 1)))) (qai 0)) (qal 4))
    (qba K))
noncomputable def qbc:TS:=
  (qeC (qnR (qa5 (tOp rNe (tOp gT (tOp gT (qai 3) (tC (.int 0))) (tC (.int 0))) (tC (.int 0)))) (qa5 (tOp iGt (tOp gT (qai 3) (tC (.int 1))) (tC (.int 1))))) (qbb K) qcs)
noncomputable def qbd:TS:=
  (qaA (qaH (qmH K "list" qn2 (qai 1)) (qal 3))
    (qbc K))
noncomputable def qcR (_:W.Frag):TS:=
  (qbH (qai 2))
noncomputable def qbt:TS:=
  (qaA (qcw (qkf (qai 1)) (qbd K))
    (qcR K))
noncomputable def qbu:TS:=
  (qaA (qaH (qjR qar) (qal 2))
    (qbt K))
noncomputable def qdG:TS:=
  (qaA (qaH (tCB qiE (qac (qai 0) qar)) (qal 1))
    (qbu K))
noncomputable def qec:TS:=
  (qaA (qaH (qas (qax K) [] E0 (qac (tOp gT (qai 0) (tC (.int 1))) (qac (tOp gT (qai 1) (tC (.int 1))) qar))) (qal 2))
    (qbH (qjR (qac (qbf (qac (tOp gT (qai 0) (tC (.int 0))) (qac (tOp qe9 (tOp gT (qai 0) (tC (.int 1))) (qai 2)) qar))) (qac (qbf (qac (tOp gT (qai 1) (tC (.int 0))) (qac (tOp qe9 (tOp gT (qai 1) (tC (.int 1))) (qai 2)) qar))) (qac (qbf (qac (qas (qdh K) [] E0 (qac (tOp gT (qai 0) (tC (.int 0))) (qac (tOp gT (qai 1) (tC (.int 0))) qar))) (qac (qai 2) qar))) qar))))))
noncomputable def qed:TS:=
  (qaH (qas (qbF K) [] E0 (qac (qai 2) (qac (qai 3) qar))) (qal 4))
noncomputable def qee:TS:=
  (qaA (qmB 3 (tC (.int 2)) qbi)
    (qed K))
noncomputable def qg4 (_:W.Frag):TS:=
  (qbH (qai 4))
noncomputable def qg5:TS:=
  (qaA (qcw (tB (qas (qb6 K) [] E0 (qac (qai 1) (qac (qas (qdU K) [] E0 (qac (tOp gT (qai 4) (tC (.int 1))) (qac (tOp gT (qai 4) (tC (.int 0))) qar))) qar)))) (qee K))
    (qg4 K))
noncomputable def qg6:TS:=
  (qaA (qaH (qas (qbF K) [] E0 (qac (qai 2) (qac (qai 3) qar))) (qal 4))
    (qg5 K))
noncomputable def qg7:TS:=
  (qaA (qaH (tC (.int 64)) (qal 3))
    (qg6 K))
noncomputable def qnr:TS:=
  (qaA (qaH (qas (qaI K) [] E0 (qac (tOp gT (qai 0) (tC (.int 0))) (qac (tCB qiD (qac (tOp gT (qai 0) (tC (.int 1))) qar)) qar))) (qal 2))
    (qg7 K))
noncomputable def qcx:TS:=
  (qaH (qas (qdh K) [] E0 (qac (qai 3) (qac (tOp gL (qai 6) (tC (.int 1))) qar))) (qal 3))
noncomputable def qcy:TS:=
  (qaA (qaH (qas (qdh K) [] E0 (qac (qai 2) (qac (tOp gL (qai 6) (tC (.int 0))) qar))) (qal 2))
    (qcx K))
noncomputable def qcz:TS:=
  (qaA (qeC (qa5 (tOp iLt (tOp gT (qai 4) (tC (.int 0))) (tC (.int 0)))) (qaH (qog (qai 6)) (qal 6)) qcs)
    (qcy K))
noncomputable def qcA:TS:=
  (qaA (qaH (qbL (qjL K (qas (qbR K) [] E0 (qac (tOp gT (qai 5) (tC (.int 0))) (qac (qai 1) qar)))) [none,some 4,some 1] (qal 0) (qas (qcP K) [] E0 (qac (qai 1) (qac (qas (qbh K) [] E0 (qac (qai 0) (qac (tOp qnT (tC (.int 1)) (qai 2)) qar))) qar)))) (qal 6))
    (qcz K))
noncomputable def qef (_:W.Frag):TS:=
  (qbH (qbf (qac (qai 2) (qac (qai 3) qar))))
noncomputable def qeg:TS:=
  (qaA (qep (qjL K (tOp gT (qai 0) (tC (.int 1)))) (qcC 2 (qa1 (qal 4) (qa1 (qal 5) qf8))) (qcA K))
    (qef K))
noncomputable def qeh:TS:=
  (qaA (qaH (tOp gT (qai 0) (tC (.int 0))) (qal 3))
    (qeg K))
noncomputable def qi1:TS:=
  (qaA (qaH (tOp gT (qai 0) (tC (.int 0))) (qal 2))
    (qeh K))
noncomputable def qdu (_:W.Frag):TS:=
  (qbH (qbf (qac (tOp qdE (tOp gT (qai 4) (tC (.int 0))) (tOp qbi (qai 2) (tOp gT (qai 5) (tC (.int 0))))) (qac (tOp qdE (tOp gT (qai 4) (tC (.int 1))) (tOp qbi (qai 2) (tOp gT (qai 5) (tC (.int 1))))) qar))))
noncomputable def qdv:TS:=
  (qaA (qaH (qas (qaS K) [] E0 (qac (tC (.int 1)) (qac (tC (.int 3)) (qac (qai 1) qar)))) (qal 5))
    (qdu K))
noncomputable def qdw:TS:=
  (qaA (qaH (qas (qaS K) [] E0 (qac (tOp qmn (qai 0) (qai 3)) (qac (tOp qdE (qai 0) (qai 3)) (qac (qai 1) qar)))) (qal 4))
    (qdv K))
noncomputable def qdx:TS:=
  (qaA (qaH (tOp qnT (tC (.int 1)) (qai 2)) (qal 3))
    (qdw K))
noncomputable def qhP:TS:=
  (qaA (qaH (tOp qmn (qmH K "int" qne (qai 0)) (tC (.int 1))) (qal 2))
    (qdx K))
noncomputable def qbv (_:W.Frag):TS:=
  (qmB 6 (tC (.int 2)) qdE)
noncomputable def qbw:TS:=
  (qaA (qaH (tOp qnU (tOp qbi (qai 3) (qai 4)) (qai 2)) (qal 3))
    (qbv K))
noncomputable def qbx:TS:=
  (qaA (qmB 5 (tOp qe9 (qai 3) (qai 6)) qdE)
    (qbw K))
noncomputable def qb7 (_:W.Frag):TS:=
  (qbH (qbf (qac (tOp qbi (tC (.int 2)) (qai 5)) (qac (tOp qbi (tC (.int 2)) (tOp qdE (tOp qdE (qai 5) (qai 6)) (tC (.int 1)))) qar))))
noncomputable def qb8:TS:=
  (qaA (qcw (qa5 (tOp iGt (qai 3) (tC (.int 0)))) (qbx K))
    (qb7 K))
noncomputable def qb9:TS:=
  (qaA (qaH (tC (.int 1)) (qal 6))
    (qb8 K))
noncomputable def qca:TS:=
  (qaA (qaH (tC (.int 0)) (qal 5))
    (qb9 K))
noncomputable def qcb:TS:=
  (qaA (qaH (tOp qnU (tOp qbi (qai 3) (qai 3)) (qai 2)) (qal 4))
    (qca K))
noncomputable def qfn:TS:=
  (qaA (qaH (tOp qe9 (tOp qnT (qai 0) (qai 2)) (qai 1)) (qal 3))
    (qcb K))
noncomputable def qns:TS:=
  (qaA (qeC (qa5 (qid iLe iLt (tC (.int 0)) (qai 1) (tCB (qlx K) (qac (qai 0) qar)))) (qbH (tOp (gS K) (qai 0) (qai 1))) qcs)
    (qbH (tC (.int 0))))
noncomputable def qeI (_:W.Frag):TS:=
  (qbH (tOp qj3 (tOp qlw (tOp qj3 (tOp qbi (qai 3) (qai 3)) (tC (.int 1999999973))) (tC (.int 7))) (qai 2)))
noncomputable def qeJ:TS:=
  (qaA (qaH (tOp qj3 (tOp qbi (tOp qdE (tOp qdE (tOp qj3 (qai 0) (tC (.int 2147483629))) (tOp qbi (tOp qbi (qai 1) (qai 1)) (tC (.int 7919)))) (tC (.int 11))) (tC (.int 48271))) (tC (.int 2147483647))) (qal 3))
    (qeI K))
noncomputable def qkt:TS:=
  (qaA (qeC (qnR (qa5 (tOp iGt (qai 0) (tOp qmo (tC (.int 2)) (tC (.int 60))))) (qa5 (tOp iLt (qai 2) (tC (.int 200))))) (qbH (tOp qj3 (tOp qj3 (tOp qnU (qai 0) (tOp qbi (tC (.int 8)) (qai 1))) (tC (.int 256))) (qai 2))) qcs)
    (qeJ K))
noncomputable def qeK (_:W.Frag):TS:=
  (qaA (qmA 2 3 (qac (tCB qmp (qac (qai 0) qar)) (qac (tCB qmp (qac (qai 1) qar)) qar)))
    (qaA (qcw (qa5 (tOp iGt (qai 3) (tC (.int 0)))) (qmA 2 3 (qac (qai 3) (qac (tOp qj3 (qai 2) (qai 3)) qar))))
    (qaA (qeC (qa5 (tOp iLt (qai 1) (tC (.int 0)))) (qaH (tUn qj4 (qai 2)) (qal 2)) qcs)
    (qbH (qbf (qac (tOp qhK (qai 0) (qai 2)) (qac (tOp qhK (qai 1) (qai 2)) qar)))))))
noncomputable def qg8:TS:=
  (qbH (qas (qaM K) [] E0 (qac (tOp qdE (tOp qbi (tOp gT (qai 0) (tC (.int 0))) (tOp gT (qai 1) (tC (.int 1)))) (tOp qbi (tOp gT (qai 1) (tC (.int 0))) (tOp gT (qai 0) (tC (.int 1))))) (qac (tOp qbi (tOp gT (qai 0) (tC (.int 1))) (tOp gT (qai 1) (tC (.int 1)))) qar))))
noncomputable def qfX:TS:=
  (qbH (qas (qaM K) [] E0 (qac (tOp qbi (tOp gT (qai 0) (tC (.int 0))) (tOp gT (qai 1) (tC (.int 0)))) (qac (tOp qbi (tOp gT (qai 0) (tC (.int 1))) (tOp gT (qai 1) (tC (.int 1)))) qar))))
noncomputable def qfo (_:W.Frag):TS:=
  (qbH (tOp iLe (tOp qbi (tOp gT (qai 0) (tC (.int 0))) (tOp gT (qai 1) (tC (.int 1)))) (tOp qbi (tOp gT (qai 1) (tC (.int 0))) (tOp gT (qai 0) (tC (.int 1))))))
noncomputable def qcS:TS:=
  (qaA (qeC (tOr (qjJ (tB (tCB qmq (qac (qai 0) (qac (tC (.ty "tuple")) qar))))) (qa5 (tOp rNe (tCB qj5 (qac (qai 0) qar)) (tC (.int 2))))) (qbH (tC (.bl false))) qcs)
    (qaA (qep (qjL K (qai 0)) (qal 1) (qeC (tOr (qjJ (tB (tCB qmq (qac (qai 1) (qac (tC (.ty "int")) qar))))) (tB (tCB qmq (qac (qai 1) (qac (tC (.ty "bool")) qar))))) (qbH (tC (.bl false))) qcs))
    (qbH (qjK (tOp iGt (tOp gT (qai 0) (tC (.int 1))) (tC (.int 0))) (tOp eqT (qai 0) (qas (qaM K) [] E0 (qac (tOp gT (qai 0) (tC (.int 0))) (qac (tOp gT (qai 0) (tC (.int 1))) qar))))))))
noncomputable def qhQ (_:W.Frag):TS:=
  (qbH (qbf (qac (tC (.int 2)) (qac (tC (.int 3)) (qac (tC (.int 5)) (qac (tC (.int 7)) (qac (tC (.int 11)) (qac (tC (.int 101)) (qac (tC (.int 999983)) (qac (tC (.int 1000000007)) qar))))))))))
noncomputable def qcc (_:W.Frag):TS:=
  (qep (qhq (qac (tCB qmp (qac (qai 6) qar)) qar)) (qal 7) (qeC (qa5 (tOp iGt (qai 6) (tC (.int 0)))) (qaH (tOp qbi (qai 1) (qai 5)) (qal 1)) (qaH (tOp qbi (qai 2) (qai 5)) (qal 2))))
noncomputable def qcd:TS:=
  (qaA (qde (tBM K "list" qbK (qai 3) (qac (qai 6) qar)))
    (qcc K))
noncomputable def qce:TS:=
  (qaA (qaH (tOp gT (qbf (qac (tC (.int 0)) (qac (tC (.int 0)) (qac (tC (.int 1)) (qac (tC (.int 2)) (qac (tUn qj4 (tC (.int 1))) (qac (tC (.int 0)) (qac (tUn qj4 (tC (.int 3))) (qac (tC (.int 1)) qar))))))))) (qas (qaQ K) [] E0 (qac (qai 0) (qac (qai 4) (qac (tC (.int 8)) qar))))) (qal 6))
    (qcd K))
noncomputable def qdy (_:W.Frag):TS:=
  (qbH (qbf (qac (qbf (qac (qai 1) (qac (qai 2) qar))) (qac (qai 3) qar))))
noncomputable def qdz:TS:=
  (qaA (qep (qgN K (qac (qas (qbo K) [] E0 qar) qar)) (qcC 2 (qa1 (qal 4) (qa1 (qal 5) qf8))) (qce K))
    (qdy K))
noncomputable def qdA:TS:=
  (qaA (qaH (qjR qar) (qal 3))
    (qdz K))
noncomputable def qdB:TS:=
  (qaA (qaH (tC (.int 1)) (qal 2))
    (qdA K))
noncomputable def qhR:TS:=
  (qaA (qaH (tC (.int 1)) (qal 1))
    (qdB K))
noncomputable def qbV:TS:=
  (qde (tBM K "list" qbK (qai 2) (qac (qai 4) qar)))
noncomputable def qbW:TS:=
  (qaA (qep (qcu K (qai 0)) (qcC 2 (qa1 (qal 5) (qa1 (qal 6) qf8))) (qaH (qas (qbn K) [] E0 (qac (qai 4) (qac (qas (qaN K) [] E0 (qac (qai 5) (qac (qbf (qac (tOp gL (qai 6) (qai 3)) (qac (tC (.int 1)) qar))) qar))) qar))) (qal 4)))
    (qbV K))
noncomputable def qbX:TS:=
  (qaA (qaH (qbf (qac (tC (.int 0)) (qac (tC (.int 1)) qar))) (qal 4))
    (qbW K))
noncomputable def qfp (_:W.Frag):TS:=
  (qbH (qai 2))
noncomputable def qcT:TS:=
  (qaA (qep (qhq (qac (qai 1) qar)) (qal 3) (qbX K))
    (qfp K))
noncomputable def qgn:TS:=
  (qaA (qaH (qjR qar) (qal 2))
    (qcT K))
noncomputable def qoh:TS:=
  (qbH (qas (qaM K) [] E0 (qac (tOp qmn (qas (qaQ K) [] E0 (qac (qai 0) (qac (qai 1) (qac (tC (.int 13)) qar)))) (tC (.int 6))) (qac (tOp qdE (tC (.int 1)) (qas (qaQ K) [] E0 (qac (qai 0) (qac (tOp qdE (qai 1) (tC (.int 1))) (qac (tC (.int 5)) qar))))) qar))))
noncomputable def qcU:TS:=
  (qde (tBM K "list" qbK (qai 2) (qac (qbf (qac (qas (qaN K) [] E0 (qac (qai 6) (qac (qbf (qac (tUn qj4 (tC (.int 1))) (qac (tC (.int 1)) qar))) qar))) (qac (qai 5) qar))) qar)))
noncomputable def qcV:TS:=
  (qaA (qde (tBM K "list" qbK (qai 1) (qac (qbf (qac (qas (qaN K) [] E0 (qac (qai 6) (qac (qbf (qac (tUn qj4 (tC (.int 1))) (qac (tC (.int 1)) qar))) qar))) (qac (qai 4) qar))) qar)))
    (qcU K))
noncomputable def qcW:TS:=
  (qeC (qa5 (tOp rEq (qas (qaQ K) [] E0 (qac (qai 3) (qac (tC (.int 12)) (qac (tC (.int 4)) qar)))) (tC (.int 0)))) (qcV K) qcs)
noncomputable def qcX:TS:=
  (qaA (qde (tBM K "list" qbK (qai 2) (qac (qbf (qac (qai 6) (qac (qai 5) qar))) qar)))
    (qcW K))
noncomputable def qcY:TS:=
  (qaA (qde (tBM K "list" qbK (qai 1) (qac (qbf (qac (qai 6) (qac (qai 4) qar))) qar)))
    (qcX K))
noncomputable def qcZ:TS:=
  (qaA (qaH (qas (qfV K) [] E0 (qac (qai 3) (qac (tC (.int 10)) qar))) (qal 6))
    (qcY K))
noncomputable def qc0:TS:=
  (qaA (qaH (qas (qbQ K) [] E0 (qac (qai 3) qar)) (qcC 2 (qa1 (qal 4) (qa1 (qal 5) qf8))))
    (qcZ K))
noncomputable def qeL (_:W.Frag):TS:=
  (qbH (qbf (qac (qai 1) (qac (qai 2) qar))))
noncomputable def qeM:TS:=
  (qaA (qep (qcu K (qai 0)) (qal 3) (qc0 K))
    (qeL K))
noncomputable def qeN:TS:=
  (qaA (qaH (qjR qar) (qal 2))
    (qeM K))
noncomputable def qku:TS:=
  (qaA (qaH (qjR qar) (qal 1))
    (qeN K))
noncomputable def qdH (_:W.Frag):TS:=
  (qaH (tOp qdE (qai 4) (tC (.int 1))) (qal 4))
noncomputable def qbY:TS:=
  (qaA (qaH (tOp qe9 (tOp qbi (tOp qbi (qai 2) (tOp gT (qai 0) (tC (.int 0)))) (tOp gT (qai 0) (tC (.int 0)))) (tOp qbi (tOp gT (qai 0) (tC (.int 1))) (tOp gT (qai 0) (tC (.int 1))))) (qal 2))
    (qdH K))
noncomputable def qbZ:TS:=
  (qaA (qaH (tOp qdE (qai 3) (tOp qe9 (qai 2) (tOp qdE (tOp qbi (tC (.int 2)) (qai 4)) (tC (.int 1))))) (qal 3))
    (qbY K))
noncomputable def qc1 (_:W.Frag):TS:=
  (qbH (qbf (qac (tOp qbi (tC (.int 2)) (qai 3)) (qac (tOp qdE (tOp qdE (tOp qbi (tC (.int 2)) (qai 3)) (tOp qbi (tC (.int 8)) (qai 4))) (tC (.int 8))) qar))))
noncomputable def qc2:TS:=
  (qaA (qcw (qa5 (tOp iGt (qai 2) (tC (.int 0)))) (qbZ K))
    (qc1 K))
noncomputable def qc3:TS:=
  (qaA (qaH (tC (.int 0)) (qal 4))
    (qc2 K))
noncomputable def qc4:TS:=
  (qaA (qaH (tC (.int 0)) (qal 3))
    (qc3 K))
noncomputable def qgo:TS:=
  (qaA (qaH (tOp qe9 (tOp qbi (qai 1) (tOp gT (qai 0) (tC (.int 0)))) (tOp gT (qai 0) (tC (.int 1)))) (qal 2))
    (qc4 K))
noncomputable def qby (_:W.Frag):TS:=
  (qaH (tOp qdE (qai 4) (tC (.int 1))) (qal 4))
noncomputable def qbz:TS:=
  (qaA (qaH (tOp qbi (tC (.int 2)) (qai 5)) (qal 5))
    (qby K))
noncomputable def qcf (_:W.Frag):TS:=
  (qbH (qbf (qac (tOp qdE (tOp qbi (qai 4) (qai 2)) (tOp gT (qai 6) (tC (.int 0)))) (qac (tOp qdE (tOp qbi (qai 4) (qai 3)) (tOp gT (qai 6) (tC (.int 1)))) qar))))
noncomputable def qcg:TS:=
  (qaA (qaH (qas (qa7 K) [] E0 (qac (qbf (qac (tOp qmn (qai 0) (qai 5)) (qac (tOp qdE (qai 0) (qai 5)) qar))) (qac (qai 1) qar))) (qal 6))
    (qcf K))
noncomputable def qch:TS:=
  (qaA (qcw (qa5 (tOp iLe (tOp qbi (tC (.int 2)) (qai 5)) (qai 0))) (qbz K))
    (qcg K))
noncomputable def qci:TS:=
  (qaA (qaH (tC (.int 1)) (qal 5))
    (qch K))
noncomputable def qcj:TS:=
  (qaA (qaH (tC (.int 0)) (qal 4))
    (qci K))
noncomputable def qfq:TS:=
  (qaA (qaH (qas (qa7 K) [] E0 (qac (qbf (qac (tC (.int 1)) (qac (tC (.int 3)) qar))) (qac (qai 1) qar))) (qcC 2 (qa1 (qal 2) (qa1 (qal 3) qf8))))
    (qcj K))
noncomputable def qc5:TS:=
  (qaH (qas (qbn K) [] E0 (qac (qai 4) (qac (tOp gL (qai 7) (tC (.int 1))) qar))) (qal 4))
noncomputable def qc6:TS:=
  (qaA (qaH (qas (qbn K) [] E0 (qac (qai 3) (qac (tOp gL (qai 7) (tC (.int 0))) qar))) (qal 3))
    (qc5 K))
noncomputable def qc7:TS:=
  (qaA (qeC (qa5 (tOp iLt (tOp gT (qai 6) (tC (.int 0))) (tC (.int 0)))) (qde (qmH K "list" qgK (qai 7))) qcs)
    (qc6 K))
noncomputable def qbS:TS:=
  (qaA (qaH (qbL (qjL K (qas (qa4 K) [] E0 (qac (qai 5) (qac (qai 2) qar)))) [none,some 6,some 2] (qal 0) (qas (qaN K) [] E0 (qac (qai 1) (qac (qbf (qac (qai 0) (qac (qai 2) qar))) qar)))) (qal 7))
    (qc7 K))
noncomputable def qeO (_:W.Frag):TS:=
  (qbH (qbf (qac (qai 3) (qac (qai 4) qar))))
noncomputable def qeP:TS:=
  (qaA (qep (qlO K (qac (qas (qbo K) [] E0 qar) (qac (qai 1) qar))) (qcC 2 (qa1 (qal 5) (qa1 (qal 6) qf8))) (qeC (qa5 (tOp neD (qai 6) (qbf (qac (tC (.int 0)) (qac (tC (.int 1)) qar))))) (qbS K) qcs))
    (qeO K))
noncomputable def qkv:TS:=
  (qaA (qmA 3 4 (qac (qai 0) (qac (qai 0) qar)))
    (qeP K))
noncomputable def qei:TS:=
  (qbH (qas (qaM K) [] E0 (qac (tOp qdE (tC (.int 1)) (qas (qaQ K) [] E0 (qac (qai 0) (qac (tC (.int 1)) (qac (tC (.int 9)) qar))))) (qac (qai 1) qar))))
noncomputable def qej:TS:=
  (qaA (qep (qhq (qac (tOp gT (qbf (qac (tC (.int 0)) (qac (tC (.int 1)) (qac (tC (.int 2)) (qac (tC (.int 3)) (qac (tC (.int 5)) (qac (tC (.int 10)) (qac (tC (.int 20)) (qac (tC (.int 30)) (qac (tC (.int 39)) (qac (tC (.int 40)) qar))))))))))) (qas (qaQ K) [] E0 (qac (qai 0) (qac (tC (.int 0)) (qac (tC (.int 10)) qar))))) qar)) (qal 2) (qaH (tOp qbi (qai 1) (tC (.int 10))) (qal 1)))
    (qei K))
noncomputable def qi2:TS:=
  (qaA (qaH (tC (.int 1)) (qal 1))
    (qej K))
noncomputable def qeQ:TS:=
  (qaH (qbL (qcu K (qai 2)) [none,none,some 4] (qcC 2 (qa1 (qal 0) (qa1 (qal 1) qf8))) (qbf (qac (qas (qaN K) [] E0 (qac (qai 0) (qac (qai 2) qar))) (qac (qai 1) qar)))) (qal 2))
noncomputable def qeR:TS:=
  (qaA (qaH (qbL (qcu K (qai 1)) [none,none,some 4] (qcC 2 (qa1 (qal 0) (qa1 (qal 1) qf8))) (qbf (qac (qas (qaN K) [] E0 (qac (qai 0) (qac (qai 2) qar))) (qac (qai 1) qar)))) (qal 1))
    (qeQ K))
noncomputable def qeS:TS:=
  (qaA (qaH (qbf (qac (tOp qdE (tC (.int 1)) (tOp qj3 (qas (qcE K) [] E0 (qac (qai 0) (qac (tC (.int 1)) qar))) (tOp qmo (tC (.int 10)) (tC (.int 11))))) (qac (tC (.int 1)) qar))) (qal 4))
    (qeR K))
noncomputable def qi3:TS:=
  (qbH (qjK (qas (qaG K) [] E0 (qac (tOp gT (qai 7) (tC (.int 0))) (qac (qai 9) qar))) (qas (qaG K) [] E0 (qac (qai 8) (qac (tOp gT (qai 7) (tC (.int 1))) qar)))))
noncomputable def qi4:TS:=
  (qaA (qaH (qas (qcQ K) [] E0 (qac (qai 3) (qac (qas (qbq K) [] E0 (qac (qai 2) (qac (tC (.int 8)) qar))) (qac (tOp qbi (tOp qmo (tC (.int 10)) (tC (.int 40))) (tOp qmo (tC (.int 10)) (tC (.int 40)))) qar)))) (qcC 2 (qa1 (qal 8) (qa1 (qal 9) qf8))))
    (qi3 K))
noncomputable def qi5:TS:=
  (qaA (qeC (tOr (qjJ (tB (qas (qaG K) [] E0 (qac (tOp gT (qai 7) (tC (.int 0))) (qac (tOp gT (qai 7) (tC (.int 1))) qar))))) (qjJ (tB (qas (qaG K) [] E0 (qac (tOp gT (qai 7) (tC (.int 1))) (qac (qas (qbn K) [] E0 (qac (tOp gT (qai 7) (tC (.int 0))) (qac (qai 6) qar))) qar)))))) (qbH (tC (.bl false))) qcs)
    (qi4 K))
noncomputable def qi6:TS:=
  (qaA (qeC (tOr (qjJ (tB (tCB qmq (qac (qai 7) (qac (tC (.ty "tuple")) qar))))) (tOr (qa5 (tOp rNe (tCB qj5 (qac (qai 7) qar)) (tC (.int 2)))) (tOr (qjJ (tB (qas (qaR K) [] E0 (qac (tOp gT (qai 7) (tC (.int 0))) qar)))) (qjJ (tB (qas (qaR K) [] E0 (qac (tOp gT (qai 7) (tC (.int 1))) qar))))))) (qbH (tC (.bl false))) qcs)
    (qi5 K))
noncomputable def qi7:TS:=
  (qaA (qaH (qas (qfm K) [] E0 (qac (qbf (qac (qai 3) (qac (qai 5) qar))) (qac (qai 6) qar))) (qal 7))
    (qi6 K))
noncomputable def qi8:TS:=
  (qaA (qaH (qas (qcq K) [] E0 (qac (qas (qcE K) [] E0 (qac (qai 0) (qac (tC (.int 1)) qar))) qar)) (qal 6))
    (qi7 K))
noncomputable def qi9:TS:=
  (qaA (qaH (tCB qiC (qac (qd5 (qcu K (qai 1)) [none] (qal 0) (qa5 (tOp neD (tOp gT (qai 0) (tC (.int 0))) (qbf (qac (tC (.int 0)) (qac (tC (.int 1)) qar))))) (qai 0)) qar)) (qal 5))
    (qi8 K))
noncomputable def qja:TS:=
  (qaA (qeC (qa5 (tOp rEq (qas (qaQ K) [] E0 (qac (qas (qcE K) [] E0 (qac (qai 0) (qac (tC (.int 0)) qar))) (qac (tC (.int 6)) (qac (tC (.int 4)) qar)))) (tC (.int 0)))) (qeS K) qcs)
    (qi9 K))
noncomputable def qjb:TS:=
  (qaA (qaH (qas (qfV K) [] E0 (qac (qas (qcE K) [] E0 (qac (qai 0) (qac (tC (.int 0)) qar))) (qac (tC (.int 3)) qar))) (qal 3))
    (qja K))
noncomputable def qoi:TS:=
  (qaA (qaH (qas (qb5 K) [] E0 (qac (tSl (sS K) (qai 0) (qjU (tC (.int 2))) (qjU (tC (.int 8)))) qar)) (qcC 2 (qa1 (qal 1) (qa1 (qal 2) qf8))))
    (qjb K))
end
end Bs
namespace Bs
open PySem L2
variable {K:W.Frag} {vs:List V} {H:Hp} {Q:VK} {E:XK}
local macro_rules | `(tactic| rwa [$[$t:term],*]) => do
  let l : Array Lean.Term := (("qaA qaH qas qac qai qar qal qoD L2.start qeC tIf qa5 L2.tB tOp rI0 rI L2.tC tUn rU qcs qbH qbf qjR qmA qmB qde tCB qid qnR tOr qjJ qjK qoA qnW rEq rNe qn1 qdE qmn qbi qlw qn5 qj3 qmP qmo iLt iLe iGt iGe qj4 gT gL gS qmp qoM qoN qn6 qj5 qn7 qlx qmq qly qfJ qmR eqT qlA qlB qmT qmU List.map_cons List.map_nil List.length_cons List.length_nil List.replicate List.cons_append List.nil_append List.append_nil List.getElem?_cons_zero List.getElem?_cons_succ Option.some.injEq exists_eq_left' exists_eq_left V.int.injEq V.bl.injEq V.ref.injEq V.ty.injEq HO.tup.injEq HO.lst.injEq List.cons.injEq and_true true_and and_assoc exists_and_left List.set_cons_zero List.set_cons_succ decide_eq_true_eq decide_eq_false_iff_not Bool.not_eq_true' Bool.true_eq_false Bool.false_eq_true Bool.not_true Bool.not_false if_true if_false ite_true ite_false qlC qlD qj6 qj7 qhz qhA qhB qhC qhD Nat.zero_add Nat.reduceAdd Nat.reduceSub qad Int.cast_ofNat_Int decide_true decide_false eq_self not_true_eq_false not_false_eq_true Int.natCast_add Int.natCast_zero reduceCtorEq Nm qcC qa1 qf8 qnX tSl qlo qjU sL sT qiC qiD qiE qkf qn9 qoJ qnS qbK qgd qn2 tBM qmH qka qkb qlG qlH qkc qlM qkg qlI qlJ qlK qlL qoc qnc qod qoP qob qe9 qhK qou qmr qb2 Option.bind_some Option.bind_none Option.bind Option.join id_eq sS qoe qof qax qbh qbE".splitOn " ").map fun s => (⟨(Lean.mkIdent s.toName).raw⟩ : Lean.Term)).toArray
  `(tactic| simp only [$[$(l ++ t):term],*])
theorem qbT {a b:Int} (ha:Bd 60000000 a) (hb:Bd 60000000 b):IntMulOk a b:=qnd ha hb (by decide)
theorem qms {a b:Int} (h1:-18446744073709551616<b) (h2:b<18446744073709551616):IntMulOk a b:=IntMulOk.of_right (intBits_le_64 (by omega) (by omega))
theorem qgp {a b:Int} (h1:-18446744073709551616<a) (h2:a<18446744073709551616):IntMulOk a b:=IntMulOk.of_left (intBits_le_64 (by omega) (by omega))
theorem qdi (h:qax K vs H Q E):qbU K { nx:=fun _ H'=>Q .non H',rt:=Q } (L2.start ["one", "other", "rest"] vs) H:=by
  obtain ⟨a,b,rfl,q⟩:=h
  unfold qbU
  rwa []
  refine while_by (fun m σ H'=>∃ (x y:Int) (r:Option V),σ=[some (.int x),some (.int y),r]∧H'=H∧Int.gcd x y=Int.gcd a b∧m=y.natAbs) b.natAbs ⟨a,b,none,rfl,rfl,rfl,rfl⟩ ?_
  rintro m σ H' ⟨x,y,r,rfl,rfl,hg,rfl⟩
  rwa []
  refine qcn (fun c=>?_) (fun c=>?_)
  · refine ⟨fun σ' H''=>∃ m',m'<y.natAbs∧_,fun _ _ h=>h,?_⟩
    refine ⟨c,_,qis x c,y,x.fmod y,_,rfl,rfl,?_,rfl⟩
    rw [qgL];exact hg
  · have y0:y=0:=Decidable.not_not.mp c
    subst y0
    have e:(if x<0 then -x else x)=((Int.gcd a b:Nat):Int):=by
      rw [← hg,Int.gcd_zero_right];split <;> omega
    rw [e];exact q
theorem qlX {m n:Nat} {x y:Int} (hx:Bd m x) (hy:Bd n y) (hm:m≤60000000:=by decide) (hn:n≤60000000:=by decide):IntMulOk x y:=qbT (hx.mono hm) (hy.mono hn)
theorem qbA {n m:Int} (h:0<m):qdt n m=red n m:=by unfold qdt;rw [if_neg (by omega)]
theorem qkw (h:qbh K vs H Q E):qiY K { nx:=fun _ H'=>Q .non H',rt:=Q } (L2.start ["top", "bottom", "shared"] vs) H:=by
  obtain ⟨a,b,rfl,hb,q⟩:=h
  unfold qiY
  rwa []
  have go:∀ s:Int,(s=if b<0 then -((Int.gcd a b:Nat):Int) else ((Int.gcd a b:Nat):Int))→qmr a s∧qmr b s∧2≤sizeLine∧∀ (p:Addr),H p=none→Q (V.ref p) (upd H p (HO.tup [V.int (a.fdiv s),V.int (b.fdiv s)])):=fun s hs=>by
    obtain ⟨h1,h2,h3,h4,h5,h6⟩:=qco hb hs
    have e:qdt a b=(a.fdiv s,b.fdiv s):=by
      refine qfd (qdS hb) h3 ?_
      rw [qbp hb,qd7 (q:=(a.fdiv s,b.fdiv s)) (Int.ne_of_gt h3.pos) hb h4]
    rw [e] at q
    exact ⟨h1,h1,sz (by decide),q⟩
  refine qcn (fun c=>?_) (fun c=>?_)
  · exact go _ (by rw [if_pos c])
  · exact go _ (by rw [if_neg c])
theorem php:∀ (m n:Nat) (f:Nat→Nat),(∀ i,i<n→f i<m)→m<n→∃ i j,i<j∧j<n∧f i=f j
  | 0,n,f,h,hn=>absurd (h 0 hn) (Nat.not_lt_zero _)
  | m+1,n,f,h,hn=>by
    obtain ⟨n,rfl⟩:∃ k,n=k+1:=⟨n - 1,by omega⟩
    by_cases c:∃ i,i<n∧f i=f n
    · obtain ⟨i,hi,e⟩:=c
      exact ⟨i,n,hi,by omega,e⟩
    · have c:∀ i,i<n→f i≠f n:=fun i hi e=>c ⟨i,hi,e⟩
      have hv:=h n (by omega)
      obtain ⟨i,j,hij,hj,e⟩:=php m n (fun i=>if f n<f i then f i - 1 else f i) (fun i hi=>by
        have h1:=h i (by omega)
        have h2:=c i hi
        show (if f n<f i then f i - 1 else f i)<m
        split <;> omega) (by omega)
      refine ⟨i,j,hij,by omega,?_⟩
      have c1:=c i (by omega)
      have c2:=c j hj
      have e:(if f n<f i then f i - 1 else f i)=(if f n<f j then f j - 1 else f j):=e
      split at e <;> split at e <;> omega
theorem mulM {m n:Nat} {x y:Int} (hx:Bd m x) (hy:Bd n y) (hm:m≤60000000:=by omega) (hn:n≤60000000:=by omega):IntMulOk x y:=qbT (hx.mono hm) (hy.mono hn)
theorem qkx (h:qcP K vs H Q E):qi0 K { nx:=fun _ H'=>Q .non H',rt:=Q } (L2.start ["one", "other"] vs) H:=by
  obtain ⟨p,q,a,b,c,d,rfl,hp,hq,b0,d0,ba,bb,bc,bd,k⟩:=h
  unfold qi0
  rwa [hp,hq]
  exact ⟨qbT ba bc,qbT bb bd,Int.ne_of_gt (Int.mul_pos b0 d0),fun r hr=>by rw [qbA (Int.mul_pos b0 d0)];exact k r hr⟩
theorem qhS (h:qaN K vs H Q E):qfX K { nx:=fun _ H'=>Q .non H',rt:=Q } (L2.start ["_law_one", "_law_other"] vs) H:=by
  obtain ⟨p,q,a,b,c,d,rfl,hp,hq,b0,d0,ba,bb,bc,bd,k⟩:=h
  unfold qfX
  rwa [hp,hq]
  exact ⟨qbT ba bc,qbT bb bd,Int.ne_of_gt (Int.mul_pos b0 d0),fun r hr=>by rw [qbA (Int.mul_pos b0 d0)];exact k r hr⟩
theorem qlY (h:qdh K vs H Q E):qkY K { nx:=fun _ H'=>Q .non H',rt:=Q } (L2.start ["one", "other"] vs) H:=by
  obtain ⟨p,q,a,b,c,d,rfl,hp,hq,b0,d0,ba,bb,bc,bd,k⟩:=h
  unfold qkY
  rwa [hp,hq]
  exact ⟨qbT ba bd,qbT bc bb,qbT bb bd,Int.ne_of_gt (Int.mul_pos b0 d0),fun r hr=>by rw [qbA (Int.mul_pos b0 d0)];exact k r hr⟩
theorem qky (h:qdU K vs H Q E):qiZ K { nx:=fun _ H'=>Q .non H',rt:=Q } (L2.start ["one", "other"] vs) H:=by
  obtain ⟨p,q,a,b,c,d,rfl,hp,hq,b0,d0,ba,bb,bc,bd,k⟩:=h
  unfold qiZ
  rwa [hp,hq]
  exact ⟨qbT ba bd,qbT bc bb,qbT bb bd,Int.ne_of_gt (Int.mul_pos b0 d0),fun r hr=>by rw [qbA (Int.mul_pos b0 d0)];exact k r hr⟩
theorem qgq (h:qaM K vs H Q E):qeK K { nx:=fun _ H'=>Q .non H',rt:=Q } (L2.start ["_law_top", "_law_bottom", "_law_one", "_law_other"] vs) H:=by
  obtain ⟨a,b,rfl,hb,q⟩:=h
  unfold qeK
  rwa []
  have go:∀ s:Int,(s=if b<0 then -((Int.gcd a b:Nat):Int) else ((Int.gcd a b:Nat):Int))→qmr a s∧qmr b s∧2≤sizeLine∧∀ (p:Addr),H p=none→Q (V.ref p) (upd H p (HO.tup [V.int (a.fdiv s),V.int (b.fdiv s)])):=fun s hs=>by
    obtain ⟨h1,h2,h3,h4,h5,h6⟩:=qco hb hs
    have e:qdt a b=(a.fdiv s,b.fdiv s):=by
      refine qfd (qdS hb) h3 ?_
      rw [qbp hb,qd7 (q:=(a.fdiv s,b.fdiv s)) (Int.ne_of_gt h3.pos) hb h4]
    rw [e] at q
    exact ⟨h1,h1,sz (by decide),q⟩
  refine while_by (fun m σ H'=>∃ x y:Int,σ=[some (.int a),some (.int b),some (.int x),some (.int y)]∧H'=H∧0≤x∧0≤y∧Int.gcd x y=Int.gcd a b∧m=y.natAbs) b.natAbs ⟨_,_,rfl,rfl,by split <;> omega,by split <;> omega,?_,by split <;> omega⟩ ?_
  · split <;> split <;> simp [Int.neg_gcd,Int.gcd_neg]
  rintro m σ H' ⟨x,y,rfl,rfl,x0,y0,hg,rfl⟩
  rwa []
  refine qcn (fun c=>?_) (fun c=>?_)
  · refine ⟨fun σ' H''=>∃ m',m'<y.natAbs∧_,fun _ _ h=>h,?_⟩
    have z1:=Int.emod_nonneg x (show y≠0 by omega)
    have z2:=Int.emod_lt_of_pos x c
    refine ⟨c,(x % y).natAbs,by omega,y,x % y,rfl,rfl,y0,z1,?_,rfl⟩
    rw [qj2 x y0];exact hg
  · have e:y=0:=by omega
    subst e
    have ex:x=((Int.gcd a b:Nat):Int):=by rw [← hg,Int.gcd_zero_right];omega
    refine qcn (fun c2=>?_) (fun c2=>?_)
    · exact go _ (by rw [if_pos c2,ex])
    · exact go _ (by rw [if_neg c2,ex])
theorem qjc (h:qbn K vs H Q E):qg8 K { nx:=fun _ H'=>Q .non H',rt:=Q } (L2.start ["_law_one", "_law_other"] vs) H:=by
  obtain ⟨p,q,a,b,c,d,rfl,hp,hq,b0,d0,ba,bb,bc,bd,k⟩:=h
  unfold qg8
  rwa [hp,hq]
  exact ⟨qbT ba bd,qbT bc bb,qbT bb bd,Int.ne_of_gt (Int.mul_pos b0 d0),fun r hr=>by rw [qbA (Int.mul_pos b0 d0)];exact k r hr⟩
theorem qgr {a b c:Int} (h:a∣b*c) (g:Int.gcd a c=1):a∣b:=by
  have h1:Nat.Coprime a.natAbs c.natAbs:=g
  refine Int.natAbs_dvd_natAbs.mp (h1.dvd_of_dvd_mul_right ?_)
  rw [← Int.natAbs_mul]
  exact Int.natAbs_dvd_natAbs.mpr h
theorem qnt {p:Nat} (hp:Pr p) {a:Int} (h:¬ (p:Int)∣a):Int.gcd (p:Int) a=1:=by
  rcases hp.div _ (Int.gcd_dvd_natAbs_left (p:Int) a) with z | z
  · exact z
  · exact absurd (z ▸ Int.gcd_dvd_right (p:Int) a) h
theorem qnu {p:Nat} (hp:Pr p) {a:Int} (h:¬ (p:Int)∣a) (j:Nat):Int.gcd ((p ^ j:Nat):Int) a=1:=by
  have h1:Nat.Coprime p a.natAbs:=qnt hp h
  exact Nat.Coprime.pow_left j h1
theorem qnv {p:Nat} (hp:Pr p) {a h:Int} (n:¬ (p:Int)∣a) (j:Nat) (d:((p ^ j:Nat):Int)∣h*a):((p ^ j:Nat):Int)∣h:=qgr d (qnu hp n j)
theorem qkZ {p:Nat} (hp:Pr p) {a b:Int} (h:(p:Int)∣a*b):(p:Int)∣a∨(p:Int)∣b:=by
  by_cases c:(p:Int)∣b
  · exact .inr c
  · have:=qnv hp c 1 (h:=a) (by rw [Nat.pow_one];exact h)
    rw [Nat.pow_one] at this
    exact .inl this
theorem qk0 {p:Nat} (hp:Pr p) {a:Int}:∀ n:Nat,(p:Int)∣a ^ n→(p:Int)∣a
  | 0,h=>by
    rw [Int.pow_zero] at h
    have:=Int.le_of_dvd (by decide) h
    have:=hp.two
    omega
  | n+1,h=>by
    rw [Int.pow_succ] at h
    rcases qkZ hp h with z | z
    · exact qk0 hp n z
    · exact z
theorem qlZ (q:Nu):val (-q.1,q.2) = - val q:=by
  unfold val
  show ((-q.1:Int):Rat) / _=_
  push_cast
  grind
theorem nadd_neg' (q r:Nu):nadd q (-r.1,r.2)=nsub q r:=by
  unfold nadd nsub
  congr 1
  show q.1*r.2 + -r.1*q.2=_
  grind
theorem qg9 {q r:Nu} (h1:0<q.2) (h2:0<r.2):val (nsub q r)=val q - val r:=by
  rw [← nadd_neg',qbO (r:=(-r.1,r.2)) h1 h2,qlZ];grind
theorem qnw:([]:List V).length≤sizeLine:=Nat.zero_le _
theorem qnx {σ:L2.St} {H:Hp} {Q:VK} {ta tb tc:TE} (h:ta σ H fun x H1=>tb σ H1 fun y H2=>tc σ H2 fun z H3=>[x,y,z].length≤sizeLine∧∀ p,H3 p=none→Q (.ref p) (upd H3 p (.lst [x,y,z]))):qjR (qac ta (qac tb (qac tc qar))) σ H Q:=h
theorem Al.ind {α:Type} {R:V→α→Prop} {M:List V→List α→Prop} (h0:M [] []) (h1:∀ u x us xs,R u x→Al R us xs→M us xs→M (u::us) (x::xs)):∀ {us:List V} {xs:List α},Al R us xs→M us xs:=by
  intro us
  induction us with
  | nil=>intro xs a;cases xs with
    | nil=>exact h0
    | cons _ _=>exact a.elim
  | cons u us ih=>intro xs a;cases xs with
    | nil=>exact a.elim
    | cons x xs=>exact h1 u x us xs a.1 a.2 (ih a.2)
theorem Al.mono {α:Type} {R R':V→α→Prop} (h:∀ u x,R u x→R' u x) {us:List V} {xs:List α} (a:Al R us xs):Al R' us xs:=
  Al.ind (M:=fun us xs=>Al R' us xs) trivial (fun u x _ _ r _ ih=>⟨h u x r,ih⟩) a
theorem Al.length {α:Type} {R:V→α→Prop} {us:List V} {xs:List α} (a:Al R us xs):us.length=xs.length:=
  Al.ind (M:=fun (us:List V) (xs:List α)=>us.length=xs.length) rfl (fun _ _ us xs _ _ (ih:us.length=xs.length)=>show us.length+1=xs.length+1 by rw [ih]) a
theorem Al.get {α:Type} {R:V→α→Prop} {us:List V} {xs:List α} (a:Al R us xs):∀ {i:Nat} {u:V},us[i]?=some u→∃ x,xs[i]?=some x∧R u x:=
  Al.ind (M:=fun us xs=>∀ {i:Nat} {u:V},us[i]?=some u→∃ x,xs[i]?=some x∧R u x) (fun e=>by cases e) (fun v x _ _ r _ ih=>fun {i u} e=>by
    cases i with
    | zero=>cases e;exact ⟨x,rfl,r⟩
    | succ i=>exact ih e) a
theorem Al.append {α:Type} {R:V→α→Prop} {us:List V} {xs:List α} {vs:List V} {ys:List α} (a:Al R us xs) (b:Al R vs ys):Al R (us++vs) (xs++ys):=
  Al.ind (M:=fun us xs=>Al R (us++vs) (xs++ys)) (by exact b) (fun u x us xs r _ ih=>show Al R (u::(us++vs)) (x::(xs++ys)) from ⟨r,ih⟩) a
theorem Al.erase {α:Type} {R:V→α→Prop} {us:List V} {xs:List α} (a:Al R us xs):∀ j:Nat,Al R (us.eraseIdx j) (xs.eraseIdx j):=
  Al.ind (M:=fun us xs=>∀ j:Nat,Al R (us.eraseIdx j) (xs.eraseIdx j)) (fun _=>trivial) (fun _ _ _ _ r t ih j=>by
    cases j with
    | zero=>exact t
    | succ j=>exact ⟨r,ih j⟩) a
theorem Al.take {α:Type} {R:V→α→Prop} {us:List V} {xs:List α} (a:Al R us xs):∀ j:Nat,Al R (us.take j) (xs.take j):=
  Al.ind (M:=fun us xs=>∀ j:Nat,Al R (us.take j) (xs.take j)) (fun j=>by rw [List.take_nil,List.take_nil];trivial) (fun _ _ _ _ r t ih j=>by
    cases j with
    | zero=>trivial
    | succ j=>exact ⟨r,ih j⟩) a
theorem Al.dropLast {α:Type} {R:V→α→Prop} {us:List V} {xs:List α} (a:Al R us xs):Al R us.dropLast xs.dropLast:=by
  rw [List.dropLast_eq_take,List.dropLast_eq_take,a.length]
  exact a.take _
theorem Al.snoc {α:Type} {R:V→α→Prop} {us:List V} {xs:List α} {u:V} {x:α} (a:Al R us xs) (h:R u x):Al R (us++[u]) (xs++[x]):=a.append ⟨h,trivial⟩
theorem Pc.tp {H H':Hp} {u:V} {x:Pce} (t:Tp H H') (h:Pc H u x):Pc H' u x:=by
  obtain ⟨a,b,rfl,h1,h2⟩:=h
  exact ⟨a,b,rfl,t _ _ h1,t _ _ h2⟩
theorem Rw.tp {H H':Hp} {u:V} {x:Nu×Nu} (t:Tp H H') (h:Rw H u x):Rw H' u x:=by
  obtain ⟨a,b,d,rfl,h1,h2,h3⟩:=h
  exact ⟨a,b,d,rfl,t _ _ h1,t _ _ h2,t _ _ h3⟩
theorem Cz.mono {s t:Nat} {q:Nu} (h:Cz s q) (l:s≤t):Cz t q:=by
  obtain ⟨lo,k,e,b⟩:=h
  exact ⟨lo,k,e,b.mono l⟩
theorem Cz.bd {t:Nat} {q:Nu} (h:Cz t q):Bd t q.1∧Bd 6 q.2:=by
  obtain ⟨lo,k,e,b⟩:=h
  have p:=lo.pos
  have e:q.1*60=k*q.2:=by
    unfold val at e
    have d1:(q.2:Rat)≠0:=qa6 (by omega)
    have h1:(q.1:Rat) / (q.2:Rat)*(q.2:Rat)=q.1:=Rat.div_mul_cancel d1
    have:(q.1:Rat)*60=k*q.2:=by rw [← h1,e];grind
    exact_mod_cast this
  have d60:q.2∣60:=qgr (c:=q.1) ⟨k,by rw [Int.mul_comm 60,e,Int.mul_comm]⟩ (by rw [Int.gcd_comm];exact lo.one)
  obtain ⟨m,hm⟩:=d60
  have m0:0<m:=by
    rcases Int.lt_trichotomy m 0 with y | y | y
    · have:q.2*m≤q.2*(-1):=Int.mul_le_mul_of_nonneg_left (by omega) (by omega)
      omega
    · rw [y] at hm;omega
    · exact y
  have e2:q.1*m=k:=by
    have:(q.1*m)*q.2=k*q.2:=by rw [← e,hm];grind
    exact Int.eq_of_mul_eq_mul_right (by omega) this
  constructor
  · refine b.le ?_
    rw [← e2,Int.natAbs_mul]
    exact Nat.le_mul_of_pos_right _ (by omega)
  · have:q.2≤60:=Int.le_of_dvd (by decide) ⟨m,hm⟩
    show q.2.natAbs<64
    omega
theorem Cz.add {t:Nat} {q r:Nu} (h:Cz t q) (h':Cz t r):Cz (t+1) (nadd q r):=by
  obtain ⟨lo,k,e,b⟩:=h
  obtain ⟨lo',k',e',b'⟩:=h'
  exact ⟨qdP lo.pos lo'.pos,k+k',by rw [qbO lo.pos lo'.pos,e,e'];push_cast;grind,b.add b'⟩
theorem Cz.neg {t:Nat} {q:Nu} (h:Cz t q):Cz t (nmul q (-1,1))∧val (nmul q (-1,1)) = - val q:=by
  obtain ⟨lo,k,e,b⟩:=h
  have v:val (nmul q (-1,1)) = - val q:=by
    rw [qdR lo.pos (by decide)]
    have:val (-1,1) = -1:=by show ((-1:Int):Rat) / ((1:Int):Rat) = -1;push_cast;grind
    rw [this];grind
  exact ⟨⟨qdQ lo.pos (by decide),-k,by rw [v,e];push_cast;grind,b.neg⟩,v⟩
theorem qdI (h:qaT K vs H Q E):qec K { nx:=fun _ H'=>Q .non H',rt:=Q } (L2.start ["one", "other", "shared"] vs) H:=by
  obtain ⟨u,v,x,y,t,rfl,hx,hy,cx,cy,t4,x0,y0,k⟩:=h
  obtain ⟨a,b,rfl,ha,hb⟩:=hx
  obtain ⟨c,d,rfl,hc,hd⟩:=hy
  have g0:(0:Int)<((Int.gcd x.2 y.2:Nat):Int):=by have:=Int.gcd_pos_of_ne_zero_left y.2 (show x.2≠0 by omega);omega
  refine qb3 ⟨_,rfl,_,_,_,_,rfl,rfl,ha,rfl,_,rfl,_,_,_,_,rfl,rfl,hc,rfl,x.2,y.2,rfl,?_⟩
  generalize ((Int.gcd x.2 y.2:Nat):Int)=g at g0 k ⊢
  refine qcD (qnx (qaz ⟨_,rfl,_,_,_,_,rfl,rfl,ha,rfl,_,rfl,_,_,_,_,rfl,rfl,ha,rfl,_,rfl,_,_,rfl,rfl,g0,qb4,fun p1 hp1=>?_⟩))
  have s1:=qaf hp1 (HO.tup [V.ref b,V.int (x.2 / g)])
  have h11:upd H p1 (HO.tup [V.ref b,V.int (x.2 / g)]) p1=_:=qad
  have ha1:=s1 _ _ ha
  have hc1:=s1 _ _ hc
  show qbf _ _ _ _
  generalize upd H p1 (HO.tup [V.ref b,V.int (x.2 / g)])=H1 at s1 h11 ha1 hc1 ⊢
  refine qaz ⟨_,rfl,_,_,_,_,rfl,rfl,hc1,rfl,_,rfl,_,_,_,_,rfl,rfl,hc1,rfl,_,rfl,_,_,rfl,rfl,g0,qb4,fun p2 hp2=>?_⟩
  have s2:=qaf hp2 (HO.tup [V.ref d,V.int (y.2 / g)])
  have h22:upd H1 p2 (HO.tup [V.ref d,V.int (y.2 / g)]) p2=_:=qad
  have ha2:=s2 _ _ ha1
  have hc2:=s2 _ _ hc1
  have s12:=s1.trans s2
  show qbf _ _ _ _
  generalize upd H1 p2 (HO.tup [V.ref d,V.int (y.2 / g)])=H2 at s2 h22 ha2 hc2 s12 ⊢
  obtain ⟨bx,bx2⟩:=cx.bd
  obtain ⟨by',by2⟩:=cy.bd
  refine qaz (qaV ⟨_,rfl,_,_,_,_,rfl,rfl,ha2,rfl,_,rfl,_,_,_,_,rfl,rfl,hc2,rfl,b,d,x.1.1,x.1.2,y.1.1,y.1.2,rfl,s12 _ _ hb,s12 _ _ hd,cx.1.pos,cy.1.pos,bx.mono (by omega),bx2.mono (by decide),by'.mono (by omega),by2.mono (by decide),fun r hr=>?_⟩)
  have s3:=qaf hr (HO.tup [V.int (nadd (x.1.1,x.1.2) (y.1.1,y.1.2)).1,V.int (nadd (x.1.1,x.1.2) (y.1.1,y.1.2)).2])
  have h33:upd H2 r (HO.tup [V.int (nadd (x.1.1,x.1.2) (y.1.1,y.1.2)).1,V.int (nadd (x.1.1,x.1.2) (y.1.1,y.1.2)).2]) r=_:=qad
  show ∃ _,_
  generalize upd H2 r (HO.tup [V.int (nadd (x.1.1,x.1.2) (y.1.1,y.1.2)).1,V.int (nadd (x.1.1,x.1.2) (y.1.1,y.1.2)).2])=H3 at s3 h33 ⊢
  refine ⟨_,rfl,qb4,fun p3 hp3=>⟨qoS,fun p4 hp4=>?_⟩⟩
  have s4:=qaf hp3 (HO.tup [V.ref r,V.int g])
  have s5:=qaf hp4 (HO.lst [V.ref p1,V.ref p2,V.ref p3])
  have s35:=s3.trans (s4.trans s5)
  have s05:=s12.trans s35
  refine k p4 _ _ s05 ?_ qad ⟨⟨p1,b,rfl,(s2.trans s35) _ _ h11,s05 _ _ hb⟩,⟨p2,d,rfl,s35 _ _ h22,s05 _ _ hd⟩,⟨p3,r,rfl,s5 _ _ qad,(s4.trans s5) _ _ h33⟩,trivial⟩
  cases e:H p4 with
  | none=>rfl
  | some o=>have:=(s12.trans (s3.trans s4)) _ _ e;rw [hp4] at this;cases this
theorem qek {p:Nat} (hp:Pr p):∀ n w:Nat,w≤n→0<w→∃ u,w=p ^ vp p n w*u∧¬ p∣u:=by
  intro n
  induction n with
  | zero=>intro w h0 h1;omega
  | succ n ih=>
    intro w hw w0
    have p2:=hp.two
    show ∃ u,w=p ^ (if p∣w then vp p n (w / p)+1 else 0)*u∧¬ p∣u
    by_cases c:p∣w
    · rw [if_pos c]
      obtain ⟨v,rfl⟩:=c
      have v0:0<v:=Nat.pos_of_mul_pos_left w0
      rw [Nat.mul_div_cancel_left _ (by omega)]
      have lt:v<p*v:=by
        have:2*v≤p*v:=Nat.mul_le_mul_right _ p2
        omega
      obtain ⟨u,e,nu⟩:=ih v (by omega) v0
      refine ⟨u,?_,nu⟩
      rw [Nat.pow_succ]
      have:p ^ vp p n v*p*u=p*(p ^ vp p n v*u):=by grind
      rw [this,← e]
    · rw [if_neg c]
      exact ⟨w,by rw [Nat.pow_zero,Nat.one_mul],c⟩
theorem prN {p:Nat} (hp:Pr p) {a b:Nat} (h:p∣a*b):p∣a∨p∣b:=by
  have h:(p:Int)∣(a:Int)*(b:Int):=by rw [← Int.natCast_mul];exact Int.natCast_dvd_natCast.mpr h
  rcases qkZ hp h with y | y
  · exact .inl (Int.natCast_dvd_natCast.mp y)
  · exact .inr (Int.natCast_dvd_natCast.mp y)
theorem qjd {p:Nat} (hp:Pr p):∀ a b u v:Nat,p ^ a*u=p ^ b*v→¬ p∣u→¬ p∣v→a=b:=by
  have p2:=hp.two
  intro a
  induction a with
  | zero=>
    intro b u v e nu nv
    cases b with
    | zero=>rfl
    | succ b=>
      rw [Nat.pow_zero,Nat.one_mul] at e
      exact absurd ⟨p ^ b*v,by rw [e,Nat.pow_succ];grind⟩ nu
  | succ a ih=>
    intro b u v e nu nv
    cases b with
    | zero=>
      rw [Nat.pow_zero,Nat.one_mul] at e
      exact absurd ⟨p ^ a*u,by rw [← e,Nat.pow_succ];grind⟩ nv
    | succ b=>
      refine congrArg (·+1) (ih b u v ?_ nu nv)
      rw [Nat.pow_succ,Nat.pow_succ] at e
      have:p*(p ^ a*u)=p*(p ^ b*v):=by grind
      exact Nat.eq_of_mul_eq_mul_left (by omega) this
theorem qgs {p:Nat} (hp:Pr p) {w u:Int} (w0:0<w) (u0:0<u):vpI p (w*u)=vpI p w+vpI p u:=by
  obtain ⟨x,ex,nx⟩:=qek hp w.natAbs w.natAbs (Nat.le_refl _) (by omega)
  obtain ⟨y,ey,ny⟩:=qek hp u.natAbs u.natAbs (Nat.le_refl _) (by omega)
  have wu:0<w*u:=Int.mul_pos w0 u0
  obtain ⟨z,ez,nz⟩:=qek hp (w*u).natAbs (w*u).natAbs (Nat.le_refl _) (by omega)
  refine qjd hp _ _ z (x*y) ?_ nz fun h=>(prN hp h).elim nx ny
  show p ^ vp p (w*u).natAbs (w*u).natAbs*z=p ^ (vp p w.natAbs w.natAbs+vp p u.natAbs u.natAbs)*(x*y)
  rw [← ez,Int.natAbs_mul,Nat.pow_add]
  have:p ^ vp p w.natAbs w.natAbs*p ^ vp p u.natAbs u.natAbs*(x*y)=(p ^ vp p w.natAbs w.natAbs*x)*(p ^ vp p u.natAbs u.natAbs*y):=by grind
  rw [this,← ex,← ey]
theorem qha (p:Nat) (xs ys:List Pce):WP p (xs++ys)=WP p xs+WP p ys:=by
  induction xs with
  | nil=>show WP p ys=0+WP p ys;grind
  | cons x xs ih=>show val x.1*(vpI p x.2:Rat)+WP p (xs++ys)=(val x.1*(vpI p x.2:Rat)+WP p xs)+WP p ys;rw [ih];grind
theorem qje (p:Nat) {xs ys:List Pce} (h:xs.Perm ys):WP p xs=WP p ys:=by
  induction h with
  | nil=>rfl
  | cons x _ ih=>show _+_=_+_;rw [ih]
  | swap x y l=>show _+(_+_)=_+(_+_);grind
  | trans _ _ a b=>exact a.trans b
noncomputable def lgP (x:Pce):Nat:=Nat.log2 x.2.natAbs
noncomputable def LG:List Pce→Nat
  | []=>0
  | x::xs=>lgP x+LG xs
theorem qfY (xs ys:List Pce):LG (xs++ys)=LG xs+LG ys:=by
  induction xs with
  | nil=>show LG ys=0+LG ys;omega
  | cons x xs ih=>show lgP x+LG (xs++ys)=(lgP x+LG xs)+LG ys;rw [ih];omega
theorem ql0 {xs ys:List Pce} (h:xs.Perm ys):LG xs=LG ys:=by
  induction h with
  | nil=>rfl
  | cons x _ ih=>show _+_=_+_;rw [ih]
  | swap x y l=>show _+(_+_)=_+(_+_);omega
  | trans _ _ a b=>exact a.trans b
theorem qhT {xs:List Pce} {j:Nat} {x:Pce} (h:xs[j]?=some x):xs.Perm (x::xs.eraseIdx j):=by
  induction xs generalizing j with
  | nil=>cases h
  | cons y xs ih=>
    cases j with
    | zero=>cases h;exact .refl _
    | succ j=>exact (List.Perm.cons y (ih h)).trans (.swap x y _)
theorem qjf {a b:Nat} (a0:0<a) (b0:0<b):a.log2+b.log2≤(a*b).log2:=by
  have ab:a*b≠0:=by have:=Nat.mul_pos a0 b0;omega
  rw [Nat.le_log2 ab,Nat.pow_add]
  exact Nat.mul_le_mul ((Nat.le_log2 (by omega)).mp (Nat.le_refl _)) ((Nat.le_log2 (by omega)).mp (Nat.le_refl _))
theorem qjg {a:Nat} (h:2≤a):1≤a.log2:=(Nat.le_log2 (by omega)).mpr h
theorem Sm.bd {w:Int} (h:Sm w):w.natAbs.log2≤210:=by
  obtain ⟨w0,d⟩:=h
  have M0:(0:Int)<MM:=by decide +kernel
  have l:=Int.le_of_dvd M0 d
  have M1:MM<2 ^ 210:=by decide +kernel
  rw [← Nat.lt_succ_iff]
  refine (Nat.log2_lt (by omega)).mpr ?_
  have:((w.natAbs:Nat):Int)<((2 ^ 211:Nat):Int):=by
    have e:((2 ^ 211:Nat):Int)=2*2 ^ 210:=by decide +kernel
    rw [e]
    have:(0:Int)<2 ^ 210:=Int.pow_pos (by decide)
    omega
  exact_mod_cast this
theorem Sm.div {w g:Int} (h:Sm w) (g0:0<g) (d:g∣w):Sm (w / g)∧Sm g:=by
  obtain ⟨w0,dM⟩:=h
  obtain ⟨c,rfl⟩:=d
  have c0:0<c:=by
    rcases Int.lt_trichotomy c 0 with y | y | y
    · have:g*c≤g*(-1):=Int.mul_le_mul_of_nonneg_left (by omega) (by omega)
      omega
    · rw [y] at w0;omega
    · exact y
  rw [Int.mul_ediv_cancel_left _ (by omega)]
  exact ⟨⟨c0,Int.dvd_trans (Int.dvd_mul_left ..) dM⟩,⟨g0,Int.dvd_trans (Int.dvd_mul_right ..) dM⟩⟩
theorem qfr {x y:Pce} (sx:Sm x.2) (sy:Sm y.2) (lx:Low x.1.1 x.1.2) (ly:Low y.1.1 y.1.2) (g:Int) (hg:((Int.gcd x.2 y.2:Nat):Int)=g) :
    Sm (x.2 / g)∧Sm (y.2 / g)∧Sm g∧(∀ p,Pr p→WP p [(x.1,x.2 / g),(y.1,y.2 / g),(nadd x.1 y.1,g)]=WP p [x,y])∧(1<g→LG [(x.1,x.2 / g),(y.1,y.2 / g),(nadd x.1 y.1,g)]+1≤LG [x,y]):=by
  have g0:0<g:=by have:=Int.gcd_pos_of_ne_zero_left y.2 (show x.2≠0 by have:=sx.1;omega);omega
  have d1:g∣x.2:=hg ▸ Int.gcd_dvd_left x.2 y.2
  have d2:g∣y.2:=hg ▸ Int.gcd_dvd_right x.2 y.2
  obtain ⟨s1,s3⟩:=sx.div g0 d1
  obtain ⟨s2,_⟩:=sy.div g0 d2
  have e1:x.2=g*(x.2 / g):=(Int.mul_ediv_cancel' d1).symm
  have e2:y.2=g*(y.2 / g):=(Int.mul_ediv_cancel' d2).symm
  refine ⟨s1,s2,s3,fun p hp=>?_,fun g1=>?_⟩
  · have v1:vpI p x.2=vpI p g+vpI p (x.2 / g):=by rw [← qgs hp g0 s1.1,← e1]
    have v2:vpI p y.2=vpI p g+vpI p (y.2 / g):=by rw [← qgs hp g0 s2.1,← e2]
    show val x.1*(vpI p (x.2 / g):Rat)+(val y.1*(vpI p (y.2 / g):Rat)+(val (nadd x.1 y.1)*(vpI p g:Rat)+0))=val x.1*(vpI p x.2:Rat)+(val y.1*(vpI p y.2:Rat)+0)
    rw [qbO lx.pos ly.pos,v1,v2]
    push_cast
    grind
  · have l1:(g.natAbs).log2+((x.2 / g).natAbs).log2≤(x.2.natAbs).log2:=by
      have:=qjf (a:=g.natAbs) (b:=(x.2 / g).natAbs) (by omega) (by have:=s1.1;omega)
      rw [← Int.natAbs_mul,← e1] at this;exact this
    have l2:(g.natAbs).log2+((y.2 / g).natAbs).log2≤(y.2.natAbs).log2:=by
      have:=qjf (a:=g.natAbs) (b:=(y.2 / g).natAbs) (by omega) (by have:=s2.1;omega)
      rw [← Int.natAbs_mul,← e2] at this;exact this
    have l3:=qjg (a:=g.natAbs) (by omega)
    show ((x.2 / g).natAbs).log2+(((y.2 / g).natAbs).log2+((g.natAbs).log2+0))+1≤(x.2.natAbs).log2+((y.2.natAbs).log2+0)
    omega
theorem qhb {K:W.Frag} {tl:TE} {capt:List (Option Nat)} {g:TG} {tc:TT} {te:TE} {σ:L2.St} {H:Hp} {Q:VK} (h:tl σ H (fun x H1=>∃ a,x=.ref a∧(∃ xs,SqL K H1 a xs)∧CompF (Itl K a) capt g tc te σ Q H1)):qd5 (qcu K tl) capt g tc te σ H Q:=h
theorem qoU {K:W.Frag} {r:V→List V→Hp→VK→Prop} {i:Nat} {w:Addr} {ta:TE} {D:Ends} {σ:L2.St} {H:Hp} (h1:σ[i]?=some (some (.ref w))) (h2:tyV K "list" (.ref w) H) (h:ta σ H fun y H1=>r (.ref w) [y] H1 fun _ H2=>D.nx σ H2):qde (tBM K "list" r (qai i) (qac ta qar)) D σ H:=⟨_,h1,h2,h⟩
noncomputable def qet (x:Pce):PySem.W.Dat:=.tuple [qiQ x.1,.int x.2]
theorem qny {H:Hp} {u:V} {x:Pce} (h:Pc H u x):RepD H u (qet x):=by
  obtain ⟨a,b,rfl,h1,h2⟩:=h
  exact .tup h1 (.cons (qnj ⟨b,rfl,h2⟩) (.cons (.int _) .nil))
theorem qnz {H:Hp} {us:List V} {xs:List Pce} (h:Al (Pc H) us xs):RepA H us (xs.map qet):=
  Al.ind (M:=fun us xs=>RepA H us (xs.map qet)) .nil (fun _ _ _ _ r _ ih=>.cons (qny r) ih) h
theorem qow (x:Pce):PySem.W.kqdOk 8 (qet x)=true:=by simp [qet,qiQ,PySem.W.kqdOk]
theorem ql1 {x y:Pce} (h:qet x=qet y):x.2=y.2:=by
  unfold qet at h
  injection h with h
  injection h with _ h
  injection h with h _
  injection h
theorem qfs {p:Nat} (hp:Pr p):vpI p 1=0:=by
  have p2:=hp.two
  show (if p∣1 then vp p 0 (1 / p)+1 else 0)=0
  rw [if_neg fun h=>by have:=Nat.le_of_dvd (by decide) h;omega]
theorem qjh {α:Type} {l:List α} {x:α} (h:l[l.length - 1]?=some x):l=l.dropLast++[x]:=by
  have ne:l≠[]:=fun z=>by rw [z] at h;cases h
  have e:=List.dropLast_concat_getLast ne
  have:l.getLast ne=x:=by
    rw [List.getLast_eq_getElem]
    exact (List.getElem?_eq_some_iff.mp h).2
  rw [this] at e
  exact e.symm
structure Wc (H0 H:Hp) (w f:Addr) (xs:List Pce) (wu:List V) (wx:List Pce) (fu:List V) (fx:List Pce) (t m:Nat):Prop where
  same:Same H0 H
  hw:H w=some (.lst wu)
  aw:Al (Pc H) wu wx
  hf:H f=some (.lst fu)
  af:Al (Pc H) fu fx
  pw:∀ x∈wx,Cz t x.1∧Sm x.2
  pf:∀ x∈fx,Cz t x.1∧x.1.1≠0∧1<x.2∧Sm x.2
  cop:fx.Pairwise Cp
  wt:∀ p,Pr p→WP p wx+WP p fx=WP p xs
  ms:m=4*(LG wx+LG fx)+wx.length
  tm:t+m≤200000
theorem qk1 {fx:List Pce} (h:∀ x∈fx,1<x.2):fx.length≤LG fx:=by
  induction fx with
  | nil=>exact Nat.le_refl _
  | cons x fx ih=>
    have h1:=qjg (a:=x.2.natAbs) (by have:=h x (List.mem_cons_self ..);omega)
    have h2:=ih fun y hy=>h y (List.mem_cons_of_mem _ hy)
    show fx.length+1≤(x.2.natAbs).log2+LG fx
    omega
theorem qoj {xs:List Pce} (h:∀ x∈xs,Sm x.2):LG xs≤210*xs.length:=by
  induction xs with
  | nil=>exact Nat.le_refl _
  | cons x xs ih=>
    have h1:=(h x (List.mem_cons_self ..)).bd
    have h2:=ih fun y hy=>h y (List.mem_cons_of_mem _ hy)
    show (x.2.natAbs).log2+LG xs≤210*(xs.length+1)
    omega
theorem qdj (h:qaO K vs H Q E):qdG K { nx:=fun _ H'=>Q .non H',rt:=Q } (L2.start ["pieces", "waiting", "found", "piece", "met"] vs) H:=by
  obtain ⟨a,us,xs,rfl,ha,hA,hx,l48,k⟩:=h
  refine qaJ (qko ⟨_,rfl,a,us,rfl,ha,fun w hw'=>?_⟩)
  have s1:=qaf hw' (HO.lst us)
  have hww:upd H w (HO.lst us) w=some (.lst us):=qad
  show qbu K _ [some (.ref a),some (.ref w),none,none,none] _
  generalize upd H w (HO.lst us)=H1 at s1 hww ⊢
  refine qaJ ⟨qnw,fun f hf'=>?_⟩
  have s2:=qaf hf' (HO.lst [])
  have hff:upd H1 f (HO.lst []) f=some (.lst []):=qad
  have wf:w≠f:=qam hww hf'
  have hww:=s2 _ _ hww
  have fN:H f=none:=by
    cases e:H f with
    | none=>rfl
    | some o=>have:=s1 _ _ e;rw [hf'] at this;cases this
  have s12:=s1.trans s2
  show qbt K _ [some (.ref a),some (.ref w),some (.ref f),none,none] _
  generalize upd H1 f (HO.lst [])=H2 at s2 hff hww s12 ⊢
  have m0:4*(LG xs+LG [])+xs.length≤100000:=by
    have:=qoj fun x h=>(hx x h).2
    show 4*(LG xs+0)+xs.length≤_
    omega
  refine while_by (fun m σ H'=>∃ (wu:List V) (wx:List Pce) (fu:List V) (fx:List Pce) (t:Nat) (o3 o4:Option V),σ=[some (.ref a),some (.ref w),some (.ref f),o3,o4]∧Wc H H' w f xs wu wx fu fx t m) _
    ⟨us,xs,[],[],61,none,none,rfl,s12,hww,hA.mono fun _ _ h=>h.tp (tpS s12),hff,trivial,fun x h=>hx x h,(fun _ h=>nomatch h),.nil,fun p _=>by show WP p xs+0=_;grind,rfl,by omega⟩ ?_
  rintro m σ H3 ⟨wu,wx,fu,fx,t,o3,o4,rfl,W⟩
  refine ⟨_,rfl,w,wu,rfl,W.hw,qcn (fun c=>?_) (fun c=>?_)⟩
  · -- one more
    have wl:=W.aw.length
    have ne:0<wu.length:=by
      cases wu with
      | nil=>cases c
      | cons _ _=>exact Nat.succ_pos _
    have hu:wu[wu.length - 1]?=some (wu[wu.length - 1]'(by omega)):=List.getElem?_eq_getElem (by omega)
    generalize wu[wu.length - 1]'(by omega)=u at hu
    obtain ⟨x,hx',pu⟩:=W.aw.get hu
    rw [wl] at hx'
    have ew:=qjh hx'
    have xm:x∈wx:=by rw [ew];exact List.mem_append_right _ (List.mem_singleton_self _)
    obtain ⟨cx,sx⟩:=W.pw x xm
    refine ⟨_,fun _ _ h=>h,?_⟩
    show qbd K _ _ _
    refine qaJ ⟨_,rfl,qbm W.hw,w,wu,u,rfl,rfl,W.hw,hu,?_⟩
    have tp1:Tp H3 (upd H3 w (HO.lst wu.dropLast)):=Tp.updL W.hw
    have h1w:upd H3 w (HO.lst wu.dropLast) w=some (.lst wu.dropLast):=qad
    have h1f:upd H3 w (HO.lst wu.dropLast) f=_:=(qak wf.symm).trans W.hf
    have h1s:Same H (upd H3 w (HO.lst wu.dropLast)):=fun b o hb=>Kp.upd b o (qam hb hw') (W.same b o hb)
    have a1w:=W.aw.dropLast.mono fun _ _ h=>h.tp tp1
    have a1f:=W.af.mono fun _ _ h=>h.tp tp1
    have pu1:=pu.tp tp1
    have lw1:wx.length=wx.dropLast.length+1:=by rw [List.length_dropLast];omega
    have lg1:LG wx=LG wx.dropLast+lgP x:=by
      have:=congrArg LG ew
      rw [qfY] at this
      rw [this];show _+(lgP x+0)=_;omega
    have wt1:∀ p,Pr p→WP p wx=WP p wx.dropLast+val x.1*(vpI p x.2:Rat):=fun p _=>by
      have:=congrArg (WP p) ew
      rw [qha] at this
      rw [this];show _+(_+0)=_;grind
    have pw1:∀ y∈wx.dropLast,Cz t y.1∧Sm y.2:=fun y hy=>W.pw y (by rw [ew];exact List.mem_append_left _ hy)
    show qbc K _ [some (.ref a),some (.ref w),some (.ref f),some u,o4] _
    generalize upd H3 w (HO.lst wu.dropLast)=H4 at tp1 h1w h1f h1s a1w a1f pu1 ⊢
    obtain ⟨pa,pb,rfl,hpa,hpb⟩:=id pu1
    have skip:(∀ p,Pr p→val x.1*(vpI p x.2:Rat)=0)→∃ m',m'<m∧∃ (wu:List V) (wx:List Pce) (fu:List V) (fx:List Pce) (t:Nat) (p3 p4:Option V),[some (.ref a),some (.ref w),some (.ref f),some (.ref pa),o4]=[some (.ref a),some (.ref w),some (.ref f),p3,p4]∧Wc H H4 w f xs wu wx fu fx t m':=fun z=>by
      have ms:=W.ms
      have tm:=W.tm
      refine ⟨4*(LG wx.dropLast+LG fx)+wx.dropLast.length,by omega,wu.dropLast,wx.dropLast,fu,fx,t,_,_,rfl,h1s,h1w,a1w,h1f,a1f,pw1,W.pf,W.cop,fun p hp=>?_,rfl,by omega⟩
      rw [← W.wt p hp,wt1 p hp,z p hp];grind
    refine ⟨_,rfl,_,_,_,_,rfl,rfl,hpa,rfl,_,_,_,_,rfl,rfl,hpb,rfl,rfl,_,rfl,qcn (fun c1=>?_) (fun c1=>?_)⟩
    · have c1:x.1.1≠0:=fun z=>by
        have c1:(!decide (V.int x.1.1=V.int 0))=true:=c1
        rw [z] at c1;simp at c1
      refine ⟨_,rfl,_,_,_,_,rfl,rfl,hpa,rfl,_,_,rfl,rfl,_,rfl,qcn (fun c2=>?_) (fun c2=>?_)⟩
      · have c2:x.2 > 1:=of_decide_eq_true c2
        show qbb K _ _ _
        have fl:=a1f.length
        refine qaJ (qhb ⟨_,rfl,f,rfl,⟨_,SqL.of h1f⟩,CompF.lst (xs:=fu) (fun i ys H'=>i≤fu.length∧H'=H4∧ys.length≤i∧((ys=[]∧∀ n y,n<i→fx[n]?=some y→Int.gcd x.2 y.2=1)∨∃ (j:Nat) (v:V) (y:Pce),j<i∧ys[0]?=some v∧fu[j]?=some v∧fx[j]?=some y∧1<Int.gcd x.2 y.2∧∀ n z,n<j→fx[n]?=some z→Int.gcd x.2 z.2=1)) ⟨Nat.zero_le _,rfl,Nat.le_refl _,.inl ⟨rfl,fun n y h=>by omega⟩⟩ ?_ ?_ ?_⟩)
        · rintro i ys H' ⟨hi,rfl,yl,_⟩
          have fl2:=qk1 fun y h=>(W.pf y h).2.2.1
          have ms:=W.ms
          have tm:=W.tm
          exact ⟨hi,sz (by omega),SqL.of h1f⟩
        · rintro i v ys H' hv ⟨hi,rfl,yl,st⟩
          obtain ⟨y,hy,pv⟩:=a1f.get hv
          obtain ⟨va,vb,rfl,hva,hvb⟩:=id pv
          have il:=(List.getElem?_eq_some_iff.mp hv).1
          refine qaV ⟨_,rfl,_,_,_,_,rfl,rfl,hpa,rfl,_,rfl,_,_,_,_,rfl,rfl,hva,rfl,x.2,y.2,rfl,_,_,rfl,rfl,_,rfl,qcn (fun c3=>?_) (fun c3=>?_)⟩
          · have c3:((Int.gcd x.2 y.2:Nat):Int) > 1:=of_decide_eq_true c3
            refine ⟨_,rfl,il,rfl,by rw [List.length_append];exact Nat.succ_le_succ yl,.inr ?_⟩
            rcases st with ⟨rfl,no⟩ | ⟨j,v',y',h1,h2,h3⟩
            · exact ⟨i,_,y,Nat.lt_succ_self _,rfl,hv,hy,by omega,no⟩
            · refine ⟨j,v',y',by omega,?_,h3⟩
              rw [List.getElem?_append_left (List.getElem?_eq_some_iff.mp h2).1];exact h2
          · have c3:¬ ((Int.gcd x.2 y.2:Nat):Int) > 1:=fun z=>c3 (decide_eq_true z)
            have g1:Int.gcd x.2 y.2=1:=by
              have:=Int.gcd_pos_of_ne_zero_left y.2 (show x.2≠0 by omega)
              omega
            refine ⟨il,rfl,by omega,?_⟩
            rcases st with ⟨rfl,no⟩ | ⟨j,v',y',h1,h2⟩
            · refine .inl ⟨rfl,fun n z hn hz=>?_⟩
              rcases Nat.lt_succ_iff_lt_or_eq.mp hn with hn | hn
              · exact no n z hn hz
              · rw [hn,hy] at hz;cases hz;exact g1
            · exact .inr ⟨j,v',y',by omega,h2⟩
        · rintro ys H' ⟨_,rfl,yl,st⟩ q hq
          have sq:=qaf hq (HO.lst ys)
          have hqq:upd H' q (HO.lst ys) q=some (.lst ys):=qad
          have h5w:=sq _ _ h1w
          have h5f:=sq _ _ h1f
          have h5s:=h1s.trans sq
          have a5w:=a1w.mono fun _ _ h=>h.tp (tpS sq)
          have a5f:=a1f.mono fun _ _ h=>h.tp (tpS sq)
          have pu5:=pu1.tp (tpS sq)
          have qf:q≠f:=(qam h1f hq).symm
          have ms:=W.ms
          have tm:=W.tm
          have fl2:=qk1 fun y h=>(W.pf y h).2.2.1
          have wl2:wu.dropLast.length=wx.dropLast.length:=a1w.length
          show qba K _ [some (.ref a),some (.ref w),some (.ref f),some (.ref pa),some (.ref q)] _
          generalize upd H' q (HO.lst ys)=H5 at sq hqq h5w h5f h5s a5w a5f pu5 ⊢
          refine ⟨_,rfl,q,ys,rfl,hqq,qcn (fun c3=>?_) (fun c3=>?_)⟩
          · obtain ⟨j,v,y,jl,y0,fj,xj,g1,first⟩:=st.resolve_left fun z=>by rw [z.1] at c3;cases c3
            obtain ⟨y',hy',pv⟩:=a5f.get fj
            rw [xj] at hy';cases hy'
            have ym:y∈fx:=by obtain ⟨z,e⟩:=List.getElem?_eq_some_iff.mp xj;exact e ▸ List.getElem_mem z
            obtain ⟨cy,yn,y1,sy⟩:=W.pf y ym
            show qa9 K _ _ _
            refine ⟨_,rfl,qbm h5f,_,rfl,_,_,_,v,rfl,rfl,hqq,qgX (j:=0) rfl y0,f,fu,v,qet y,fx.map qet,j,rfl,rfl,h5f,qny pv,qnz a5f,qow y,fun e he=>?_,by rw [List.getElem?_map,xj];rfl,fun i e hi he z=>?_,?_⟩
            · obtain ⟨z,_,rfl⟩:=List.mem_map.mp he;exact qow z
            · rw [List.getElem?_map] at he
              cases e2:fx[i]? with
              | none=>rw [e2] at he;cases he
              | some z2=>
                rw [e2] at he
                cases he
                have:=first i z2 hi e2
                rw [ql1 z] at this
                omega
            have tp6:Tp H5 (upd H5 f (HO.lst (fu.eraseIdx j))):=Tp.updL h5f
            have h6f:upd H5 f (HO.lst (fu.eraseIdx j)) f=some (.lst (fu.eraseIdx j)):=qad
            have h6w:upd H5 f (HO.lst (fu.eraseIdx j)) w=_:=(qak wf).trans h5w
            have h6q:upd H5 f (HO.lst (fu.eraseIdx j)) q=_:=(qak qf).trans hqq
            have h6s:Same H (upd H5 f (HO.lst (fu.eraseIdx j))):=fun b o hb=>Kp.upd b o (qam hb fN) (h5s b o hb)
            have a6w:=a5w.mono fun _ _ h=>h.tp tp6
            have a6f:=(a5f.erase j).mono fun _ _ h=>h.tp tp6
            have pu6:=pu5.tp tp6
            have pv6:=pv.tp tp6
            show qa8 K _ _ _
            generalize upd H5 f (HO.lst (fu.eraseIdx j))=H6 at tp6 h6f h6w h6q h6s a6w a6f pu6 pv6 ⊢
            obtain ⟨s1',s2',s3',wp3,lg3⟩:=qfr sx sy cx.1 cy.1 _ rfl
            have lg3:=lg3 (by omega)
            refine qoU rfl (qbm h6w) (qaV ⟨_,rfl,_,rfl,_,_,_,v,rfl,rfl,h6q,qgX (j:=0) rfl y0,.ref pa,v,x,y,t,rfl,pu6,pv6,cx,cy,by omega,sx.1,sy.1,fun r us3 H7 s7 rN hr3 a3=>?_⟩)
            have l3:=a3.length
            have l3:us3.length=3:=l3
            refine ⟨w,r,_,us3,rfl,rfl,s7 _ _ h6w,hr3,sz (by omega),?_⟩
            have h7w:=s7 _ _ h6w
            have tp8:Tp H7 (upd H7 w (HO.lst (wu.dropLast++us3))):=Tp.updL h7w
            have pe:=qhT xj
            have lge:LG fx=lgP y+LG (fx.eraseIdx j):=ql0 pe
            generalize ((Int.gcd x.2 y.2:Nat):Int)=g at s1' s2' s3' wp3 lg3 a3
            have lgx:LG [x,y]=lgP x+lgP y:=by show lgP x+(lgP y+0)=_;omega
            refine ⟨4*(LG (wx.dropLast++[(x.1,x.2 / g),(y.1,y.2 / g),(nadd x.1 y.1,g)])+LG (fx.eraseIdx j))+(wx.dropLast++[(x.1,x.2 / g),(y.1,y.2 / g),(nadd x.1 y.1,g)]).length,?_,_,_,fu.eraseIdx j,fx.eraseIdx j,t+1,_,_,rfl,fun b o hb=>Kp.upd b o (qam hb hw') (s7 b o (h6s b o hb)),qad,((a6w.mono fun _ _ h=>h.tp (tpS s7)).append a3).mono fun _ _ h=>h.tp tp8,(qak wf.symm).trans (s7 _ _ h6f),(a6f.mono fun _ _ h=>h.tp (tpS s7)).mono fun _ _ h=>h.tp tp8,fun z hz=>?_,fun z hz=>?_,?_,fun p hp=>?_,rfl,?_⟩
            · rw [qfY,List.length_append]
              show 4*_+(_+3)<m
              omega
            · rcases List.mem_append.mp hz with h | h
              · exact ⟨(pw1 z h).1.mono (by omega),(pw1 z h).2⟩
              · rcases List.mem_cons.mp h with rfl | h
                · exact ⟨cx.mono (by omega),s1'⟩
                · rcases List.mem_cons.mp h with rfl | h
                  · exact ⟨cy.mono (by omega),s2'⟩
                  · rw [List.mem_singleton.mp h];exact ⟨cx.add cy,s3'⟩
            · obtain ⟨h1,h2⟩:=W.pf z (pe.mem_iff.mpr (List.mem_cons_of_mem _ hz))
              exact ⟨h1.mono (by omega),h2⟩
            · exact W.cop.sublist (List.eraseIdx_sublist ..)
            · rw [← W.wt p hp,wt1 p hp,qha,wp3 p hp,qje p pe]
              show WP p wx.dropLast+(val x.1*(vpI p x.2:Rat)+(val y.1*(vpI p y.2:Rat)+0))+WP p (fx.eraseIdx j)=WP p wx.dropLast+val x.1*(vpI p x.2:Rat)+(val y.1*(vpI p y.2:Rat)+WP p (fx.eraseIdx j))
              grind
            · rw [qfY,List.length_append]
              show t+1+(4*_+(_+3))≤_
              omega
          · have no:∀ n y,n<fu.length→fx[n]?=some y→Int.gcd x.2 y.2=1:=by
              rcases st with ⟨_,no⟩ | ⟨j,v,y,h1,h2,_⟩
              · exact no
              · cases ys with
                | nil=>cases h2
                | cons _ _=>exact absurd rfl c3
            refine ⟨_,rfl,qbm h5f,_,rfl,f,fu,_,rfl,rfl,h5f,sz (by omega),?_⟩
            have tp8:Tp H5 (upd H5 f (HO.lst (fu++[V.ref pa]))):=Tp.updL h5f
            refine ⟨4*(LG wx.dropLast+LG (fx++[x]))+wx.dropLast.length,?_,wu.dropLast,wx.dropLast,fu++[.ref pa],fx++[x],t,_,_,rfl,fun b o hb=>Kp.upd b o (qam hb fN) (h5s b o hb),(qak wf).trans h5w,a5w.mono fun _ _ h=>h.tp tp8,qad,(a5f.snoc pu5).mono fun _ _ h=>h.tp tp8,pw1,fun z hz=>?_,?_,fun p hp=>?_,rfl,?_⟩
            · rw [qfY]
              show 4*(_+(_+(lgP x+0)))+_<m
              omega
            · rcases List.mem_append.mp hz with h | h
              · exact W.pf z h
              · rw [List.mem_singleton.mp h];exact ⟨cx,c1,c2,sx⟩
            · refine List.pairwise_append.mpr ⟨W.cop,List.pairwise_singleton ..,fun y hy z hz=>?_⟩
              rw [List.mem_singleton.mp hz]
              obtain ⟨i,hi,e⟩:=List.getElem_of_mem hy
              show Int.gcd y.2 x.2=1
              rw [Int.gcd_comm]
              exact no i y (by omega) (by rw [List.getElem?_eq_getElem hi,e])
            · rw [← W.wt p hp,wt1 p hp,qha]
              show _+(_+(val x.1*(vpI p x.2:Rat)+0))=_
              grind
            · rw [qfY]
              show t+(4*(_+(_+(lgP x+0)))+_)≤_
              omega
      · exact skip fun p hp=>by
          have c2:¬ x.2 > 1:=fun z=>c2 (decide_eq_true z)
          have:=sx.1
          rw [show x.2=1 by omega,qfs hp]
          push_cast;grind
    · exact skip fun p hp=>by
        have z:x.1.1=0:=by
          by_cases z:x.1.1=0
          · exact z
          · exact absurd (show (!decide (V.int x.1.1=V.int 0))=true by simp [z]) c1
        have:val x.1=0:=by unfold val;rw [z,show ((0:Int):Rat)=0 from rfl];grind
        rw [this];grind
  · have wn:wu=[]:=by
      cases wu with
      | nil=>rfl
      | cons _ _=>exact absurd rfl c
    have wn2:wx=[]:=List.length_eq_zero_iff.mp (by rw [← W.aw.length,wn];rfl)
    have tm:=W.tm
    refine ⟨_,rfl,k f fu fx H3 W.same W.hf W.af (fun y hy=>?_) W.cop fun p hp=>?_⟩
    · obtain ⟨h1,h2⟩:=W.pf y hy
      exact ⟨h1.mono (by omega),h2⟩
    · rw [← W.wt p hp,wn2];show _=0+_;grind
noncomputable def chk (p n:Nat):Bool:=decide (2≤p) && (List.range n).all fun d=>decide (d<2) || decide (p≤d) || decide (p % d≠0)
theorem qnA {p n:Nat} (h:chk p n=true) (l:p<n*n):Pr p:=by
  unfold chk at h
  rw [Bool.and_eq_true] at h
  obtain ⟨h1,h2⟩:=h
  have h1:=of_decide_eq_true h1
  have sm:∀ d,2≤d→d<n→d<p→¬ d∣p:=fun d d2 dn dp hd=>by
    have:=List.all_eq_true.mp h2 d (List.mem_range.mpr dn)
    rw [Bool.or_eq_true,Bool.or_eq_true] at this
    rcases this with (z | z) | z
    · have:=of_decide_eq_true z;omega
    · have:=of_decide_eq_true z;omega
    · exact of_decide_eq_true z (Nat.mod_eq_zero_of_dvd hd)
  refine ⟨h1,fun d hd=>?_⟩
  obtain ⟨e,he⟩:=hd
  by_cases d1:d=1
  · exact .inl d1
  by_cases dp:d=p
  · exact .inr dp
  exfalso
  have d0:d≠0:=fun z=>by rw [z] at he;omega
  have e0:e≠0:=fun z=>by rw [z] at he;omega
  have e1:e≠1:=fun z=>by rw [z] at he;omega
  rcases Nat.lt_or_ge d n with q | q
  · have dl:d<p:=by
      have:d*2≤d*e:=Nat.mul_le_mul_left d (by omega)
      omega
    exact sm d (by omega) q dl ⟨e,he⟩
  · rcases Nat.lt_or_ge e n with q' | q'
    · have el:e<p:=by
        have:2*e≤d*e:=Nat.mul_le_mul_right e (by omega)
        omega
      exact sm e (by omega) q' el ⟨d,by rw [he,Nat.mul_comm]⟩
    · have:=Nat.mul_le_mul q q'
      omega
theorem qji:∀ p∈prs,Pr p:=by
  have h:prs.all (fun p=>chk p (if p<1000 then 40 else if p<1000000 then 1001 else 31700) && decide (p<(if p<1000 then 40 else if p<1000000 then 1001 else 31700)*(if p<1000 then 40 else if p<1000000 then 1001 else 31700)))=true:=by decide +kernel
  intro p hp
  have:=List.all_eq_true.mp h p hp
  rw [Bool.and_eq_true] at this
  exact qnA this.1 (of_decide_eq_true this.2)
theorem qkz {w:Nat}:∀ l:List Nat,(∀ p∈l,Pr p∧¬ p∣w)→Nat.Coprime w (l.foldr (·*·) 1):=by
  intro l
  induction l with
  | nil=>intro _;exact Nat.coprime_one_right w
  | cons p l ih=>
    intro h
    obtain ⟨hp,n⟩:=h p (List.mem_cons_self ..)
    have c:Nat.Coprime w p:=hp.cop n
    exact Nat.Coprime.mul_right c (ih fun q hq=>h q (List.mem_cons_of_mem _ hq))
theorem Sm.prime {w:Int} (h:Sm w) (w1:1<w):∃ j,j<8∧(prs.getD j 0)∣w.natAbs:=by
  refine Classical.byContradiction fun no=>?_
  have c:=qkz (w:=w.natAbs) prs fun p hp=>⟨qji p hp,fun d=>no ?_⟩
  · have d:w.natAbs∣(prs.foldr (·*·) 1) ^ 3:=by
      have:=Int.natAbs_dvd_natAbs.mpr h.2
      exact this
    have:=(Nat.Coprime.pow_right 3 c).eq_one_of_dvd d
    omega
  · obtain ⟨i,hi,e⟩:=List.getElem_of_mem hp
    refine ⟨i,hi,?_⟩
    rw [List.getD_eq_getElem?_getD,List.getElem?_eq_getElem hi,e];exact d
theorem ql2 {ys:List Pce} (h:∀ y∈ys,1<y.2∧Sm y.2) (c:ys.Pairwise Cp):ys.length≤8:=by
  refine Classical.byContradiction fun no=>?_
  have ex:∀ i:Nat,∃ j,j<8∧∀ y:Pce,ys[i]?=some y→(prs.getD j 0)∣y.2.natAbs:=fun i=>by
    cases e:ys[i]? with
    | none=>exact ⟨0,by decide,fun y h=>by cases h⟩
    | some y=>
      obtain ⟨h1,h2⟩:=h y (by obtain ⟨z,e⟩:=List.getElem?_eq_some_iff.mp e;exact e ▸ List.getElem_mem z)
      obtain ⟨j,hj,hd⟩:=h2.prime h1
      exact ⟨j,hj,fun z hz=>by cases hz;exact hd⟩
  obtain ⟨i,j,ij,jn,e⟩:=php 8 ys.length (fun i=>Classical.choose (ex i)) (fun i _=>(Classical.choose_spec (ex i)).1) (by omega)
  have di:=(Classical.choose_spec (ex i)).2 ys[i] (List.getElem?_eq_getElem (by omega))
  have dj:=(Classical.choose_spec (ex j)).2 ys[j] (List.getElem?_eq_getElem jn)
  have e:Classical.choose (ex i)=Classical.choose (ex j):=e
  have hj:=(Classical.choose_spec (ex j)).1
  rw [e] at di
  generalize Classical.choose (ex j)=n at di dj hj
  have pm:prs.getD n 0∈prs:=by
    have:n<prs.length:=hj
    rw [List.getD_eq_getElem?_getD,List.getElem?_eq_getElem this];exact List.getElem_mem _
  have p2:=(qji _ pm).two
  have g:Int.gcd ys[i].2 ys[j].2=1:=List.pairwise_iff_getElem.mp c i j (by omega) jn ij
  have d:prs.getD n 0∣Int.gcd ys[i].2 ys[j].2:=Nat.dvd_gcd di dj
  rw [g] at d
  have:=Nat.le_of_dvd (by decide) d
  omega
theorem qok {T:List (Pce×V)} {R:V→Pce→Prop} (h:∀ t∈T,R t.2 t.1):Al R (T.map (·.2)) (T.map (·.1)):=by
  induction T with
  | nil=>trivial
  | cons t T ih=>exact ⟨h t (List.mem_cons_self ..),ih fun u hu=>h u (List.mem_cons_of_mem _ hu)⟩
theorem qnB {R:V→Pce→Prop} {us:List V} {xs:List Pce} (a:Al R us xs):(∀ t∈xs.zip us,R t.2 t.1)∧(xs.map (·.2)).zip us=(xs.zip us).map (fun t=>(t.1.2,t.2))∧(xs.zip us).map (·.1)=xs:=
  Al.ind (M:=fun us xs=>(∀ t∈xs.zip us,R t.2 t.1)∧(xs.map (·.2)).zip us=(xs.zip us).map (fun t=>(t.1.2,t.2))∧(xs.zip us).map (·.1)=xs) ⟨(fun _ h=>nomatch h),rfl,rfl⟩ (fun u x us xs r _ ⟨h1,h2,h3⟩=>by
    refine ⟨fun t ht=>?_,?_,?_⟩
    · rcases List.mem_cons.mp ht with rfl | ht
      · exact r
      · exact h1 t ht
    · rw [List.map_cons,List.zip_cons_cons,List.zip_cons_cons,List.map_cons,h2]
    · rw [List.zip_cons_cons,List.map_cons,h3]) a
theorem ql3 {p:Nat} {xs:List (Nu×Nu)} (h:∀ x∈xs,Cz 60 x.1):WP p ((xs.map fun x=>(x.1,x.2.1))++xs.map fun x=>(nmul x.1 (-1,1),x.2.2))=WR p xs:=by
  rw [qha]
  induction xs with
  | nil=>show (0:Rat)+0=0;grind
  | cons x xs ih=>
    have ih:=ih fun y hy=>h y (List.mem_cons_of_mem _ hy)
    have v:=(h x (List.mem_cons_self ..)).neg.2
    show (val x.1*(vpI p x.2.1:Rat)+WP p (xs.map fun x=>(x.1,x.2.1)))+(val (nmul x.1 (-1,1))*(vpI p x.2.2:Rat)+WP p (xs.map fun x=>(nmul x.1 (-1,1),x.2.2)))=val x.1*((vpI p x.2.1:Rat) - (vpI p x.2.2:Rat))+WR p xs
    rw [v,← ih];grind
theorem ql4 {P:Addr} {te:TE} {σ:L2.St} {H:Hp} {Q:VK} (h:te σ H fun x H1=>∃ (l:Addr) (us:List V) (kz:List Int),x=.ref l∧H1 l=some (.lst us)∧us.length<64∧qnf H1 us kz∧H1 P=some (.tbl #[])∧∀ (r:Addr) (qs:List (Int×V)) (more:Array Value),H1 r=none→qs.Perm (kz.zip us)→qs.Pairwise (fun p q=>p.1≤q.1)→Q (.ref r) (upd (upd H1 P (.tbl more)) r (.lst (qs.map (·.2))))):qgP P te σ H Q:=h
theorem qdk (h:qaI K vs H Q E):qdF K { nx:=fun _ H'=>Q .non H',rt:=Q } (L2.start ["q", "rows", "pieces", "found"] vs) H:=by
  obtain ⟨v,a,us,xs,rfl,ha,hA,hx,l24,hT,k⟩:=h
  have lu:=hA.length
  refine qaJ (qjG (qd9 ⟨_,rfl,a,rfl,⟨_,SqL.of ha⟩,CompJ.lst (xs:=us) (fun i ys H'=>i≤us.length∧Same H H'∧ys.length=i∧Al (Pc H') ys ((xs.take i).map fun x=>(x.1,x.2.1))) ⟨Nat.zero_le _,Same.refl H,rfl,by rw [List.take_zero];trivial⟩ ?_ ?_ ?_⟩))
  · rintro i ys H' ⟨hi,s1,yl,_⟩
    exact ⟨hi,sz (by omega),SqL.of (s1 _ _ ha)⟩
  · rintro i u ys H' hu ⟨hi,s1,yl,al⟩
    obtain ⟨x,hx',b,c,d,rfl,h1,h2,h3⟩:=hA.get hu
    have il:=(List.getElem?_eq_some_iff.mp hu).1
    have tk:xs.take (i+1)=xs.take i++[x]:=by rw [List.take_add_one,hx'];rfl
    refine ⟨b,_,rfl,s1 _ _ h1,rfl,_,_,rfl,_,_,rfl,rfl,?_⟩
    show qbf _ [some (.ref c),some (.ref d)] _ _
    refine qaz ⟨_,rfl,_,rfl,_,_,_,_,rfl,rfl,s1 _ _ h3,rfl,qb4,fun p hp=>?_⟩
    have sp:=qaf hp (HO.tup [V.ref c,V.int x.2.1])
    refine ⟨il,s1.trans sp,by rw [List.length_append,yl];rfl,?_⟩
    rw [tk,List.map_append]
    exact (al.mono fun _ _ h=>h.tp (tpS sp)).snoc ⟨p,c,rfl,qad,sp _ _ (s1 _ _ h2)⟩
  rintro ys1 H1 ⟨_,s1,yl1,al1⟩ p1 hp1
  rw [lu,List.take_length] at al1
  have sp1:=qaf hp1 (HO.lst ys1)
  have h11:upd H1 p1 (HO.lst ys1) p1=some (.lst ys1):=qad
  have s1p:=s1.trans sp1
  have al1:=al1.mono fun _ _ h=>h.tp (tpS sp1)
  show qbL _ _ _ _ _ _ _
  generalize upd H1 p1 (HO.lst ys1)=H2 at sp1 h11 s1p al1 ⊢
  refine qd9 ⟨_,rfl,a,rfl,⟨_,SqL.of (s1p _ _ ha)⟩,CompJ.lst (xs:=us) (fun i ys H'=>i≤us.length∧Same H2 H'∧ys.length=i∧Al (Pc H') ys ((xs.take i).map fun x=>(nmul x.1 (-1,1),x.2.2))) ⟨Nat.zero_le _,Same.refl _,rfl,by rw [List.take_zero];trivial⟩ ?_ ?_ ?_⟩
  · rintro i ys H' ⟨hi,s2,yl,_⟩
    exact ⟨hi,sz (by omega),SqL.of (s2 _ _ (s1p _ _ ha))⟩
  · rintro i u ys H' hu ⟨hi,s2,yl,al⟩
    obtain ⟨x,hx',b,c,d,rfl,h1,h2,h3⟩:=hA.get hu
    have il:=(List.getElem?_eq_some_iff.mp hu).1
    have xm:x∈xs:=by obtain ⟨z,e⟩:=List.getElem?_eq_some_iff.mp hx';exact e ▸ List.getElem_mem z
    have cx:=(hx x xm).1
    obtain ⟨b1,b2⟩:=cx.bd
    have tk:xs.take (i+1)=xs.take i++[x]:=by rw [List.take_add_one,hx'];rfl
    have s02:=s1p.trans s2
    refine ⟨b,_,rfl,s02 _ _ h1,rfl,_,_,rfl,_,_,rfl,rfl,?_⟩
    show qbf _ [some (.ref c),some (.ref d)] _ _
    refine qaz (qaV ⟨_,rfl,qaz ⟨_,rfl,qb4,fun p hp=>?_⟩⟩)
    have sp:=qaf hp (HO.tup [V.int (-1),V.int 1])
    have hpp:upd H' p (HO.tup [V.int (-1),V.int 1]) p=_:=qad
    have s03:=s02.trans sp
    show qbE nmul K _ _ _ _
    generalize upd H' p (HO.tup [V.int (-1),V.int 1])=H3 at sp hpp s03 ⊢
    refine ⟨c,p,x.1.1,x.1.2,-1,1,rfl,s03 _ _ h2,hpp,cx.1.pos,by decide,b1.mono (by decide),b2.mono (by decide),(show Bd 1 (-1) by unfold Bd;decide).mono (by decide),(show Bd 1 1 by unfold Bd;decide).mono (by decide),fun r hr=>?_⟩
    have sr:=qaf hr (HO.tup [V.int (nmul (x.1.1,x.1.2) (-1,1)).1,V.int (nmul (x.1.1,x.1.2) (-1,1)).2])
    have hrr:upd H3 r (HO.tup [V.int (nmul (x.1.1,x.1.2) (-1,1)).1,V.int (nmul (x.1.1,x.1.2) (-1,1)).2]) r=_:=qad
    show ∃ _,_
    generalize upd H3 r (HO.tup [V.int (nmul (x.1.1,x.1.2) (-1,1)).1,V.int (nmul (x.1.1,x.1.2) (-1,1)).2])=H4 at sr hrr ⊢
    refine ⟨_,rfl,_,_,_,_,rfl,rfl,(s03.trans sr) _ _ h3,rfl,qb4,fun q hq=>?_⟩
    have sq:=qaf hq (HO.tup [V.ref r,V.int x.2.2])
    have sa:=sp.trans (sr.trans sq)
    refine ⟨il,s2.trans sa,by rw [List.length_append,yl];rfl,?_⟩
    rw [tk,List.map_append]
    exact (al.mono fun _ _ h=>h.tp (tpS sa)).snoc ⟨q,r,rfl,qad,sq _ _ hrr⟩
  rintro ys2 H3 ⟨_,s2,yl2,al2⟩ p2 hp2
  rw [lu,List.take_length] at al2
  have sp2:=qaf hp2 (HO.lst ys2)
  have h22:upd H3 p2 (HO.lst ys2) p2=some (.lst ys2):=qad
  have s23:=s2.trans sp2
  have al2:=al2.mono fun _ _ h=>h.tp (tpS sp2)
  have al1:=al1.mono fun _ _ h=>h.tp (tpS s23)
  show qnS _ _ _ _
  generalize upd H3 p2 (HO.lst ys2)=H4 at sp2 h22 s23 al1 al2 ⊢
  refine ⟨p1,p2,ys1,ys2,rfl,rfl,s23 _ _ h11,h22,sz (by omega),fun p3 hp3=>?_⟩
  have sp3:=qaf hp3 (HO.lst (ys1++ys2))
  have h33:upd H4 p3 (HO.lst (ys1++ys2)) p3=some (.lst (ys1++ys2)):=qad
  have s05:=(s1p.trans s23).trans sp3
  have alA:=(al1.append al2).mono fun _ _ h=>h.tp (tpS sp3)
  have wr:=fun p=>ql3 (p:=p) fun x hx'=>(hx x hx').1
  show qbs K _ _ _
  generalize upd H4 p3 (HO.lst (ys1++ys2))=H5 at sp3 h33 s05 alA ⊢
  show qaA (qaH (qgP qfl _) _) _ _ _ _
  refine qaJ (ql4 (qlS ⟨_,rfl,p3,_,_,rfl,h33,alA,fun x h=>?_,?_,fun r ws ys H6 s6 hr aw py cop wt=>?_⟩))
  · rcases List.mem_append.mp h with h | h
    · obtain ⟨z,hz,rfl⟩:=List.mem_map.mp h
      exact ⟨(hx z hz).1.mono (by decide),(hx z hz).2.1⟩
    · obtain ⟨z,hz,rfl⟩:=List.mem_map.mp h
      exact ⟨(hx z hz).1.neg.1.mono (by decide),(hx z hz).2.2⟩
  · rw [List.length_append,List.length_map,List.length_map];omega
  have l8:=ql2 (fun y h=>(py y h).2.2) cop
  have wl:=aw.length
  have s06:=s05.trans s6
  obtain ⟨z1,z2,z3⟩:=qnB aw
  refine ⟨r,ws,ys.map (·.2),rfl,hr,by omega,⟨by rw [List.length_map];exact wl.symm,fun i u n hu hn=>?_⟩,s06 _ _ hT,fun r7 qs more r7N pm srt=>?_⟩
  · obtain ⟨y,hy,a',b',rfl,h1,_⟩:=aw.get hu
    rw [List.getElem?_map,hy] at hn
    cases hn
    exact ⟨a',_,rfl,h1⟩
  obtain ⟨T',pT,eT⟩:=qgQ pm _ z2
  have rT:r7≠qfl:=fun z=>by have:=s06 _ _ hT;rw [← z,r7N] at this;cases this
  have k7:Kp qfl H6 (upd (upd H6 qfl (HO.tbl more)) r7 (HO.lst (qs.map (·.2)))):=fun b o hb e=>by
    rw [qak (qam e r7N),qak hb];exact e
  have tp7:Tp H6 (upd (upd H6 qfl (HO.tbl more)) r7 (HO.lst (qs.map (·.2)))):=fun b xs e=>k7 b _ (fun z=>by rw [z,s06 _ _ hT] at e;cases e) e
  have h77:upd (upd H6 qfl (HO.tbl more)) r7 (HO.lst (qs.map (·.2))) r7=some (.lst (qs.map (·.2))):=qad
  have k07:Kp qfl H (upd (upd H6 qfl (HO.tbl more)) r7 (HO.lst (qs.map (·.2)))):=fun b o hb e=>k7 b o hb (s06 b o e)
  show qbr K _ _ _
  generalize upd (upd H6 qfl (HO.tbl more)) r7 (HO.lst (qs.map (·.2)))=H7 at k7 tp7 h77 k07 ⊢
  have eq2:qs.map (·.2)=T'.map (·.2):=by rw [eT,List.map_map];rfl
  have a7:Al (Pc H7) (qs.map (·.2)) (T'.map (·.1)):=by
    rw [eq2]
    exact qok fun t ht=>(z1 t (pT.mem_iff.mp ht)).tp tp7
  have pY:(T'.map (·.1)).Perm ys:=by
    have:=pT.map (fun t:Pce×V=>t.1)
    rw [z3] at this;exact this
  have srt':(T'.map (·.1)).Pairwise (fun x y=>x.2≤y.2):=by
    rw [eT,List.pairwise_map] at srt
    rw [List.pairwise_map];exact srt
  generalize T'.map (·.1)=zs at a7 pY srt'
  generalize qs.map (·.2)=us7 at h77 a7
  have lz:=a7.length
  have lp:=pY.length_eq
  refine qcD (qaz ⟨_,rfl,qko (qd9 ⟨_,rfl,r7,rfl,⟨_,SqL.of h77⟩,CompJ.lst (xs:=us7) (fun i ts H'=>i≤us7.length∧Same H7 H'∧ts.length=i∧Al (Rw H') ts ((zs.take i).map fun y=>(y.1,(y.2,1)))) ⟨Nat.zero_le _,Same.refl _,rfl,by rw [List.take_zero];trivial⟩ ?_ ?_ ?_⟩)⟩)
  · rintro i ts H' ⟨hi,s8,tl,_⟩
    exact ⟨hi,sz (by omega),SqL.of (s8 _ _ h77)⟩
  · rintro i u ts H' hu ⟨hi,s8,tl,al⟩
    obtain ⟨y,hy,b,c,rfl,h1,h2⟩:=a7.get hu
    have il:=(List.getElem?_eq_some_iff.mp hu).1
    have tk:zs.take (i+1)=zs.take i++[y]:=by rw [List.take_add_one,hy];rfl
    refine ⟨b,_,rfl,s8 _ _ h1,rfl,_,_,rfl,_,_,rfl,rfl,?_⟩
    show qbf _ [some (.ref c),some (.int y.2)] _ _
    refine qaz ⟨_,rfl,qaz ⟨_,rfl,qb4,fun p hp=>?_⟩⟩
    have sp:=qaf hp (HO.tup [V.int y.2,V.int 1])
    have hpp:upd H' p (HO.tup [V.int y.2,V.int 1]) p=_:=qad
    refine ⟨qb4,fun q hq=>?_⟩
    have sq:=qaf hq (HO.tup [V.ref c,V.ref p])
    have sa:=sp.trans sq
    refine ⟨il,s8.trans sa,by rw [List.length_append,tl];rfl,?_⟩
    rw [tk,List.map_append]
    exact (al.mono fun _ _ h=>h.tp (tpS sa)).snoc ⟨q,c,p,rfl,qad,(s8.trans sa) _ _ h2,sq _ _ hpp⟩
  · rintro ts H8 ⟨_,s8,tl,al8⟩ p8 hp8
    rw [lz,List.take_length] at al8
    have sp8:=qaf hp8 (HO.lst ts)
    have h88:upd H8 p8 (HO.lst ts) p8=some (.lst ts):=qad
    generalize upd H8 p8 (HO.lst ts)=H9 at sp8 h88 ⊢
    refine ⟨p8,ts,rfl,h88,fun b hb=>⟨qb4,fun r9 hr9=>?_⟩⟩
    have sb:=qaf hb (HO.tup ts)
    have s9:=qaf hr9 (HO.tup [v,V.ref b])
    have sX:=(s8.trans sp8).trans (sb.trans s9)
    refine k r9 b ts zs _ (fun c o hc e=>sX _ _ (k07 c o hc e)) qad (s9 _ _ qad) (al8.mono fun _ _ h=>h.tp (tpS (sp8.trans (sb.trans s9)))) (fun y hy=>py y (pY.mem_iff.mp hy)) ?_ srt' (by omega) fun p hp=>?_
    · exact (pY.symm.pairwise_iff (fun h=>by show Int.gcd _ _=1;rw [Int.gcd_comm];exact h)).mp cop
    · rw [qje p pY,wt p hp,wr p]
theorem ql5 (h:qcE K vs H Q E):qns K { nx:=fun _ H'=>Q .non H',rt:=Q } (L2.start ["_law_script", "_law_k"] vs) H:=by
  obtain ⟨a,ns,k,rfl,ha,k0,q⟩:=h
  refine qlU ⟨_,rfl,_,_,rfl,rfl,_,rfl,qcn (fun _=>?_) (fun _=>?_)⟩
  · refine ⟨_,rfl,a,_,rfl,ha,_,_,rfl,rfl,_,rfl,qcn (fun c=>?_) (fun _=>q 0)⟩
    have c:k<(((ns.map V.int).length:Nat):Int):=of_decide_eq_true c
    have kl:k.toNat<(ns.map V.int).length:=by omega
    have e:atI (ns.map V.int) k=some (V.int (ns.getD k.toNat 0)):=by
      refine qgX (j:=k.toNat) (by omega) ?_
      rw [List.length_map] at kl
      rw [List.getElem?_map,List.getD_eq_getElem?_getD,List.getElem?_eq_getElem kl];rfl
    exact ⟨_,rfl,_,rfl,_,_,_,_,rfl,rfl,ha,e,q _⟩
  · exact ⟨_,rfl,qcn (fun c=>by cases c) (fun _=>q 0)⟩
theorem qjj (h:qaQ K vs H Q E):qkt K { nx:=fun _ H'=>Q .non H',rt:=Q } (L2.start ["_law_cell", "_law_k", "_law_many", "_law_m"] vs) H:=by
  obtain ⟨c,k,m,rfl,k0,k1,m0,q⟩:=h
  have fin:∀ d:Int,Q (.int (d % m)) H:=fun d=>q _ (Int.emod_nonneg _ (by omega)) (Int.emod_lt_of_pos _ m0)
  have rest:qeJ K { nx:=fun _ H'=>Q V.non H',rt:=Q } [some (.int c),some (.int k),some (.int m),none] H:=by
    have z1:=Int.emod_nonneg c (show (2147483629:Int)≠0 by decide)
    have z2:=Int.emod_lt_of_pos c (show (0:Int)<2147483629 by decide)
    have kk:0≤k*k∧k*k≤10000:=by
      constructor
      · exact Int.mul_nonneg k0 k0
      · exact Int.le_trans (Int.mul_le_mul k1 k1 k0 (by decide)) (by decide)
    refine qaJ ⟨_,rfl,_,_,rfl,rfl,(show (0:Int)<2147483629 by decide),_,rfl,_,rfl,_,_,rfl,rfl,qgp (by omega) (by omega),_,_,rfl,rfl,qms (by decide) (by decide),_,_,rfl,rfl,_,_,rfl,rfl,_,_,rfl,rfl,qms (by decide) (by decide),_,_,rfl,rfl,(show (0:Int)<2147483647 by decide),?_⟩
    show qeI K _ _ _
    have y1:=Int.emod_nonneg ((c % 2147483629+k*k*7919+11)*48271) (show (2147483647:Int)≠0 by decide)
    have y2:=Int.emod_lt_of_pos ((c % 2147483629+k*k*7919+11)*48271) (show (0:Int)<2147483647 by decide)
    refine ⟨_,rfl,_,rfl,_,_,rfl,rfl,qgp (by omega) (by omega),_,_,rfl,rfl,(show (0:Int)<1999999973 by decide),_,_,rfl,rfl,⟨(show (0:Int)<7 by decide),(show Bd 3 7 by unfold Bd;decide).mono (by decide)⟩,_,rfl,_,_,rfl,rfl,m0,fin _⟩
  refine qlU ⟨_,rfl,_,_,rfl,rfl,⟨by decide,by decide,by decide⟩,_,_,rfl,rfl,_,rfl,qcn (fun _=>?_) (fun _=>?_)⟩
  · refine ⟨_,rfl,_,_,rfl,rfl,_,rfl,qcn (fun _=>?_) (fun _=>rest)⟩
    exact ⟨_,rfl,_,rfl,_,_,rfl,rfl,qgp (by decide) (by decide),_,_,rfl,rfl,(by show (0:Int)≤8*k;omega),_,_,rfl,rfl,(show (0:Int)<256 by decide),_,rfl,_,_,rfl,rfl,m0,fin _⟩
  · exact qcn (fun c=>by cases c) (fun _=>rest)
theorem qkA {t d:Int} (h:Low t d):qdt t d=(t,d):=qfd (qdS (by have:=h.pos;omega)) h (by rw [qbp (by have:=h.pos;omega)];rfl)
theorem qeu (h:qaR K vs H Q E):qcS K { nx:=fun _ H'=>Q .non H',rt:=Q } (L2.start ["_law_found", "_law_part"] vs) H:=by
  obtain ⟨p,t,d,rfl,hp,hl,k⟩:=h
  unfold qcS
  rwa [hp,qit hp]
  refine ⟨⟨_,SqT.of hp⟩,?_⟩
  refine ForT.by (xs:=[.int t,.int d]) (fun i σ H'=>∃ v,σ=[some (.ref p),v]∧H'=H) ⟨none,rfl,rfl⟩ ?_ ?_ ?_
  · rintro i σ H' _ ⟨v,rfl,rfl⟩
    exact hp
  · rintro i x σ H' hi ⟨v,rfl,rfl⟩
    obtain ⟨z,rfl⟩:∃ z,x=V.int z:=by
      match i,hi with
      | 0,hi=>exact ⟨_,(Option.some.inj hi).symm⟩
      | 1,hi=>exact ⟨_,(Option.some.inj hi).symm⟩
    rwa []
    exact ⟨some (V.int z),rfl⟩
  · rintro σ H' ⟨v,rfl,rfl⟩
    refine ⟨_,rfl,_,_,_,_,rfl,rfl,hp,rfl,_,_,rfl,rfl,_,rfl,qcn (fun _=>?_) (fun c=>absurd (decide_eq_true (show d > 0 from hl.pos)) c)⟩
    refine qjG ⟨_,rfl,qaV ⟨_,rfl,_,_,_,_,rfl,rfl,hp,rfl,_,rfl,_,_,_,_,rfl,rfl,hp,rfl,t,d,rfl,by have:=hl.pos;omega,fun r hr=>?_⟩⟩
    rw [qkA hl]
    have sr:=qaf hr (HO.tup [V.int t,V.int d])
    refine ⟨p,r,_,_,rfl,rfl,sr _ _ hp,qad,rfl,rfl,?_⟩
    rw [decide_eq_true rfl]
    exact k _ sr
theorem qgt (h:qbo K vs H Q E):qhQ K { nx:=fun _ H'=>Q .non H',rt:=Q } (L2.start [] vs) H:=by
  obtain ⟨rfl,k⟩:=h
  exact ⟨sz (by decide),fun p hp=>k p hp⟩
theorem qkB {a b:Int} (ha:-6≤a∧a≤6) (hb:1≤b∧b≤5):Cz 9 (qdt a b):=by
  have b0:b≠0:=by omega
  refine ⟨qdS b0,a*(60 / b),?_,?_⟩
  · rw [qbp b0]
    have:b=1∨b=2∨b=3∨b=4∨b=5:=by omega
    rcases this with rfl | rfl | rfl | rfl | rfl
    · show (a:Rat) / ((1:Int):Rat)=((a*60:Int):Rat) / 60;push_cast;grind
    · show (a:Rat) / ((2:Int):Rat)=((a*30:Int):Rat) / 60;push_cast;grind
    · show (a:Rat) / ((3:Int):Rat)=((a*20:Int):Rat) / 60;push_cast;grind
    · show (a:Rat) / ((4:Int):Rat)=((a*15:Int):Rat) / 60;push_cast;grind
    · show (a:Rat) / ((5:Int):Rat)=((a*12:Int):Rat) / 60;push_cast;grind
  · have:b=1∨b=2∨b=3∨b=4∨b=5:=by omega
    show (a*(60 / b)).natAbs<512
    rcases this with rfl | rfl | rfl | rfl | rfl <;> omega
theorem qnC (h:qfV K vs H Q E):qoh K { nx:=fun _ H'=>Q .non H',rt:=Q } (L2.start ["_law_cell", "_law_k"] vs) H:=by
  obtain ⟨c,n,rfl,n0,n1,k⟩:=h
  refine qcD (qaV (qjG (qfS ⟨_,rfl,_,rfl,c,n,13,rfl,n0,by omega,by decide,fun d d0 d1=>⟨_,_,rfl,rfl,?_⟩⟩)))
  refine qjG (r_c (qfS ⟨_,rfl,_,rfl,_,_,rfl,rfl,c,n+1,5,rfl,by omega,by omega,by decide,fun e e0 e1=>⟨_,_,rfl,rfl,d - 6,1+e,rfl,by omega,fun r hr=>k r _ _ hr (qkB (by omega) (by omega))⟩⟩))
theorem ql6 {K:W.Frag} {tl:TE} {g:TG} {tb rest:TS} {D:Ends} {σ:L2.St} {H:Hp} (h:tl σ H (fun x H1=>∃ a,x=.ref a∧(∃ xs,SqT K H1 a xs)∧ForT K a g tb { D with nx:=rest D } σ H1)):qaA (qep (qjL K tl) g tb) rest D σ H:=h
theorem qk2 {K:W.Frag} {tl:TE} {g:TG} {tb rest:TS} {D:Ends} {σ:L2.St} {H:Hp} (h:tl σ H (fun x H1=>∃ a,x=.ref a∧(∃ xs,SqL K H1 a xs)∧ForL K a g tb { D with nx:=rest D } σ H1)):qaA (qep (qcu K tl) g tb) rest D σ H:=h
theorem qjk {sp:Sp} {E:XK} {σ:L2.St} {H:Hp} {Q:VK} (h:sp [] H Q E):qas sp [] E qar σ H Q:=h
theorem qhc {p:Nat} {w:Int} (h:¬ p∣w.natAbs):vpI p w=0:=by
  unfold vpI
  generalize w.natAbs=n at h
  cases n with
  | zero=>rfl
  | succ n=>show (if p∣n+1 then _ else 0)=0;rw [if_neg h]
theorem qck {j:Nat} (h:j<8):Pr (pj j):=qji _ (by
  unfold pj
  have:j<prs.length:=h
  rw [List.getD_eq_getElem?_getD,List.getElem?_eq_getElem this];exact List.getElem_mem _)
theorem qol {i j:Nat} (hi:i<8) (hj:j<8) (h:i≠j):¬ pj i∣pj j:=fun d=>by
  have:∀ i,i<8→∀ j,j<8→i≠j→pj i≠pj j:=by decide +kernel
  rcases (qck hj).div _ d with z | z
  · have:=(qck hi).two;omega
  · exact this i hi j hj h z
theorem ql7 {p q:Nat} (hq:Pr q) (h:¬ q∣p) (e:Nat):¬ q∣p ^ e:=fun d=>by
  have:(q:Int)∣(p:Int) ^ e:=by rw [← Int.natCast_pow];exact Int.natCast_dvd_natCast.mpr d
  exact h (Int.natCast_dvd_natCast.mp (qk0 hq e this))
theorem Wn.same {H H':Hp} {u:V} {x:Nu×List Int} (s:Same H H') (h:Wn H u x):Wn H' u x:=by
  obtain ⟨a,b,w,rfl,h1,h2,h3⟩:=h
  exact ⟨a,b,w,rfl,s _ _ h1,s _ _ h2,s _ _ h3⟩
theorem qk3 (j:Nat) (xs ys:List (Nu×List Int)):WW j (xs++ys)=WW j xs+WW j ys:=by
  induction xs with
  | nil=>show WW j ys=0+WW j ys;grind
  | cons x xs ih=>show _+WW j (xs++ys)=(_+WW j xs)+WW j ys;rw [ih];grind
theorem Cz.mulI {t:Nat} {q:Nu} {e:Int} (h:Cz t q) (he:e.natAbs≤700):Cz (t+10) (nmul q (e,1))∧val (nmul q (e,1))=val q*(e:Rat):=by
  obtain ⟨lo,k,ek,b⟩:=h
  have v:val (nmul q (e,1))=val q*(e:Rat):=by
    rw [qdR lo.pos (by show (0:Int)<1;decide)]
    have:val (e,1)=(e:Rat):=by show (e:Rat) / ((1:Int):Rat)=_;push_cast;grind
    rw [this]
  have be:Bd 10 e:=Nat.lt_of_le_of_lt he (by decide)
  exact ⟨⟨qdQ lo.pos (by show (0:Int)<1;decide),k*e,by rw [v,ek];push_cast;grind,b.mul be⟩,v⟩
theorem qfZ (h:qbq K vs H Q E):qgn K { nx:=fun _ H'=>Q .non H',rt:=Q } (L2.start ["_law_rows_here", "_law_many", "_law_weights_here", "_law_j", "_law_total", "_law_c_here", "_law_powers_here"] vs) H:=by
  obtain ⟨a,us,ys,rfl,ha,hA,hz,l24,k⟩:=h
  refine qaJ ⟨qnw,fun w hw'=>?_⟩
  have s1:=qaf hw' (HO.lst [])
  have hww:upd H w (HO.lst []) w=some (.lst []):=qad
  have lu:=hA.length
  show qcT K _ [some (.ref a),some (.int 8),some (.ref w),none,none,none,none] _
  generalize upd H w (HO.lst [])=H1 at s1 hww ⊢
  refine ⟨_,rfl,_,rfl,by decide,by decide,ForR.by (fun i σ H'=>∃ (ts:List V) (ls:List Nu) (o3 o4 o5 o6:Option V),σ=[some (.ref a),some (.int 8),some (.ref w),o3,o4,o5,o6]∧i≤8∧Same H H'∧H' w=some (.lst ts)∧Nums H' ts ls∧ls.length=i∧qkV ls∧(∀ q∈ls,Cz 100 q)∧∀ j q,ls[j]?=some q→val q=WW j ys) ⟨[],[],none,none,none,none,rfl,by decide,s1,hww,trivial,rfl,(fun _ h=>nomatch h),(fun _ h=>nomatch h),fun j q h=>by cases h⟩ ?_ ?_⟩
  · rintro i σ H' hi ⟨ts,ls,o3,o4,o5,o6,rfl,_,s2,h2w,n2,l2,lo2,cz2,vl⟩
    have i8:i<8:=hi
    refine qlT ?_
    show qbX K _ [some (.ref a),some (.int 8),some (.ref w),some (.int (0+(i:Int))),o4,o5,o6] _
    refine qaJ (qaz ⟨qb4,fun b hb=>?_⟩)
    have sb:=qaf hb (HO.tup [V.int 0,V.int 1])
    have hbb:upd H' b (HO.tup [V.int 0,V.int 1]) b=_:=qad
    show qbW K _ [some (.ref a),some (.int 8),some (.ref w),some (.int (0+(i:Int))),some (.ref b),o5,o6] _
    have s2b:=s2.trans sb
    have h3w:=sb _ _ h2w
    have n3:=n2.tp (tpS sb)
    generalize upd H' b (HO.tup [V.int 0,V.int 1])=H3 at sb hbb s2b h3w n3 ⊢
    have c0:Cz 70 (0,1):=⟨⟨by decide,by decide⟩,0,by show ((0:Int):Rat) / ((1:Int):Rat)=((0:Int):Rat) / 60;push_cast;grind,qlQ _⟩
    refine qk2 ⟨_,rfl,a,rfl,⟨_,SqL.of (s2b _ _ ha)⟩,ForL.by (xs:=us) (fun n σ H''=>∃ (b:Addr) (q:Nu) (o5 o6:Option V),σ=[some (.ref a),some (.int 8),some (.ref w),some (.int (0+(i:Int))),some (.ref b),o5,o6]∧n≤us.length∧Same H3 H''∧Nm H'' b q.1 q.2∧Cz (70+n) q∧val q=WW i (ys.take n)) ⟨b,(0,1),o5,o6,rfl,Nat.zero_le _,Same.refl _,hbb,c0,by rw [List.take_zero];show ((0:Int):Rat) / ((1:Int):Rat)=0;push_cast;grind⟩ ?_ ?_ ?_⟩
    · rintro n σ H'' _ ⟨b,q,o5,o6,rfl,_,s4,_⟩
      exact SqL.of (s4 _ _ (s2b _ _ ha))
    · rintro n u σ H4 hu ⟨b,q,o5,o6,rfl,_,s4,h4b,cq,vq⟩
      obtain ⟨y,hy,a',b',w',rfl,h1,h2,h3⟩:=hA.get hu
      have nl:=(List.getElem?_eq_some_iff.mp hu).1
      have ym:y∈ys:=by obtain ⟨z,e⟩:=List.getElem?_eq_some_iff.mp hy;exact e ▸ List.getElem_mem z
      obtain ⟨cy,ly,ey⟩:=hz y ym
      have tk:ys.take (n+1)=ys.take n++[y]:=by rw [List.take_add_one,hy];rfl
      have s04:=s2b.trans s4
      have at':atI (y.2.map V.int) (0+(i:Int))=some (V.int (y.2.getD i 0)):=by
        refine qgX (j:=i) (by omega) ?_
        rw [List.getElem?_map,List.getD_eq_getElem?_getD,List.getElem?_eq_getElem (by omega)];rfl
      have e7:(y.2.getD i 0).natAbs≤700:=ey _ (by rw [List.getD_eq_getElem?_getD,List.getElem?_eq_getElem (by omega)];exact List.getElem_mem _)
      obtain ⟨cm,vm⟩:=cy.mulI e7
      obtain ⟨b1,b2⟩:=cy.bd
      refine ⟨a',_,rfl,s04 _ _ h1,rfl,_,_,rfl,_,_,rfl,rfl,?_⟩
      show qaH _ _ _ [some (.ref a),some (.int 8),some (.ref w),some (.int (0+(i:Int))),some (.ref b),some (.ref b'),some (.ref w')] _
      refine qfT (qaV ⟨_,rfl,qaV ⟨_,rfl,qaz ⟨_,rfl,_,rfl,_,_,_,_,rfl,rfl,s04 _ _ h3,at',qb4,fun p hp=>?_⟩⟩⟩)
      generalize he:y.2.getD i 0=e at e7 cm vm ⊢
      have sp:=qaf hp (HO.tup [V.int e,V.int 1])
      have hpp:upd H4 p (HO.tup [V.int e,V.int 1]) p=_:=qad
      show qbE nmul K _ _ _ _
      generalize upd H4 p (HO.tup [V.int e,V.int 1])=H5 at sp hpp ⊢
      refine ⟨b',p,y.1.1,y.1.2,e,1,rfl,(s04.trans sp) _ _ h2,hpp,cy.1.pos,by decide,b1.mono (by decide),b2.mono (by decide),(show Bd 10 e from Nat.lt_of_le_of_lt e7 (by decide)).mono (by decide),(show Bd 1 1 by unfold Bd;decide).mono (by decide),fun r hr=>?_⟩
      have sr:=qaf hr (HO.tup [V.int (nmul (y.1.1,y.1.2) (e,1)).1,V.int (nmul (y.1.1,y.1.2) (e,1)).2])
      have hrr:upd H5 r (HO.tup [V.int (nmul (y.1.1,y.1.2) (e,1)).1,V.int (nmul (y.1.1,y.1.2) (e,1)).2]) r=_:=qad
      show qbE nadd K _ _ _ _
      generalize upd H5 r (HO.tup [V.int (nmul (y.1.1,y.1.2) (e,1)).1,V.int (nmul (y.1.1,y.1.2) (e,1)).2])=H6 at sr hrr ⊢
      have cm:Cz 70 (nmul (y.1.1,y.1.2) (e,1)):=cm
      obtain ⟨q1,q2⟩:=cq.bd
      obtain ⟨m1,m2⟩:=cm.bd
      refine ⟨b,r,q.1,q.2,_,_,rfl,(sp.trans sr) _ _ h4b,hrr,cq.1.pos,cm.1.pos,q1.mono (by omega),q2.mono (by decide),m1.mono (by decide),m2.mono (by decide),fun r2 hr2=>?_⟩
      have sr2:=qaf hr2 (HO.tup [V.int (nadd (q.1,q.2) (nmul (y.1.1,y.1.2) (e,1))).1,V.int (nadd (q.1,q.2) (nmul (y.1.1,y.1.2) (e,1))).2])
      refine ⟨r2,nadd q (nmul y.1 (e,1)),_,_,rfl,nl,s4.trans (sp.trans (sr.trans sr2)),qad,(cq.add (cm.mono (by omega))).mono (by omega),?_⟩
      rw [qbO cq.1.pos cm.1.pos,tk,qk3,vq]
      show _+val (nmul y.1 (e,1))=_+(val y.1*((y.2.getD i 0:Int):Rat)+0)
      rw [vm,he];grind
    · rintro σ H4 ⟨b,q,o5,o6,rfl,_,s4,h4b,cq,vq⟩
      rw [lu,List.take_length] at vq
      have h4w:=s4 _ _ h3w
      have n4:=n3.tp (tpS s4)
      show qbV K _ _ _
      refine ⟨_,rfl,qbm h4w,_,rfl,w,ts,_,rfl,rfl,h4w,sz (by have:=n4.length;omega),?_⟩
      have tp:Tp H4 (upd H4 w (HO.lst (ts++[V.ref b]))):=Tp.updL h4w
      refine ⟨ts++[.ref b],ls++[q],_,_,_,_,rfl,i8,fun c o hc=>Kp.upd c o (qam hc hw') ((s2b.trans s4) c o hc),qad,(n4.tp tp).append (Nums.one ⟨b,rfl,tp _ _ h4b⟩),by rw [List.length_append,l2];rfl,fun z hz=>?_,fun z hz=>?_,fun j z hj=>?_⟩
      · rcases List.mem_append.mp hz with h | h
        · exact lo2 z h
        · rw [List.mem_singleton.mp h];exact cq.1
      · rcases List.mem_append.mp hz with h | h
        · exact cz2 z h
        · rw [List.mem_singleton.mp h];exact cq.mono (by omega)
      · rcases Nat.lt_or_ge j ls.length with h | h
        · rw [List.getElem?_append_left h] at hj;exact vl j z hj
        · rw [List.getElem?_append_right h] at hj
          have:j - ls.length=0:=by have:=(List.getElem?_eq_some_iff.mp hj).1;rw [List.length_singleton] at this;omega
          rw [this] at hj
          cases hj
          rw [show j=i by omega];exact vq
  · rintro σ H' ⟨ts,ls,o3,o4,o5,o6,rfl,_,s2,h2w,n2,l2,lo2,cz2,vl⟩
    exact ⟨_,rfl,k w ts ls H' s2 h2w n2 l2 lo2 cz2 vl⟩
theorem ql8 {K:W.Frag} {ta:TE} {g:TG} {tb rest:TS} {D:Ends} {σ:L2.St} {H:Hp} (h:ta σ H fun x H1=>∃ a,[x]=[V.ref a]∧(∃ xs,SqT K H1 a xs)∧ForJ (qna K a) g tb { D with nx:=rest D } σ H1):qaA (qep (qgN K (qac ta qar)) g tb) rest D σ H:=h
theorem qom {d:Int} (h0:0≤d) (h8:d<8):∃ e:Int,atI [V.int 0,V.int 0,V.int 1,V.int 2,V.int (-1),V.int 0,V.int (-3),V.int 1] d=some (V.int e)∧e.natAbs≤3:=by
  have:d=0∨d=1∨d=2∨d=3∨d=4∨d=5∨d=6∨d=7:=by omega
  rcases this with rfl | rfl | rfl | rfl | rfl | rfl | rfl | rfl
  · exact ⟨0,rfl,by decide⟩
  · exact ⟨0,rfl,by decide⟩
  · exact ⟨1,rfl,by decide⟩
  · exact ⟨2,rfl,by decide⟩
  · exact ⟨-1,rfl,by decide⟩
  · exact ⟨0,rfl,by decide⟩
  · exact ⟨-3,rfl,by decide⟩
  · exact ⟨1,rfl,by decide⟩
noncomputable def Pi' (i:Nat):Nat:=(prs.take i).foldr (·*·) 1
theorem qhU (l:List Nat) (p:Nat):(l++[p]).foldr (·*·) 1=l.foldr (·*·) 1*p:=by
  induction l with
  | nil=>show p*1=1*p;omega
  | cons x l ih=>show x*(l++[p]).foldr (·*·) 1=x*l.foldr (·*·) 1*p;rw [ih];grind
structure Sf (i:Nat) (top bot:Int) (es:List Int):Prop where
  t0:0<top
  b0:0<bot
  td:top∣((Pi' i ^ 3:Nat):Int)
  bd:bot∣((Pi' i ^ 3:Nat):Int)
  len:es.length=i
  sm:∀ e∈es,e.natAbs≤3
  old:∀ j,j<i→((vpI (pj j) top:Nat):Int) - ((vpI (pj j) bot:Nat):Int)=es.getD j 0
  new:∀ j,i≤j→j<8→vpI (pj j) top=0∧vpI (pj j) bot=0
theorem qft {i n:Nat} (hi:i<8) (hn:n≤3) {top:Int} (td:top∣((Pi' i ^ 3:Nat):Int)):top*((pj i ^ n:Nat):Int)∣((Pi' (i+1) ^ 3:Nat):Int):=by
  have ilp:i<prs.length:=hi
  have ep:prs[i]?=some (pj i):=by unfold pj;rw [List.getD_eq_getElem?_getD,List.getElem?_eq_getElem ilp];rfl
  have e:Pi' (i+1)=Pi' i*pj i:=by unfold Pi';rw [List.take_add_one,ep];exact qhU _ _
  obtain ⟨c,hc⟩:=td
  rw [e,Nat.mul_pow]
  obtain ⟨m,hm⟩:∃ m,3=n+m:=⟨3 - n,by omega⟩
  have:pj i ^ 3=pj i ^ n*pj i ^ m:=by rw [← Nat.pow_add,← hm]
  refine ⟨c*((pj i ^ m:Nat):Int),?_⟩
  rw [this,Int.natCast_mul,hc,Int.natCast_mul];grind
theorem qf0 {i j n:Nat} (hi:i<8) (hj:j<8) {top:Int} (t0:0<top):vpI (pj j) (top*((pj i ^ n:Nat):Int))=vpI (pj j) top+(if j=i then n else 0):=by
  have p2:=(qck hi).two
  have P0:(0:Int)<((pj i ^ n:Nat):Int):=by have:=Nat.pow_pos (n:=n) (show 0<pj i by omega);omega
  rw [qgs (qck hj) t0 P0]
  congr 1
  by_cases e:j=i
  · subst e
    rw [if_pos rfl]
    obtain ⟨y,ey,ny⟩:=qek (qck hj) ((pj j ^ n:Nat):Int).natAbs ((pj j ^ n:Nat):Int).natAbs (Nat.le_refl _) (by omega)
    refine (qjd (qck hj) n _ 1 y ?_ (fun d=>by have:=Nat.le_of_dvd (by decide) d;omega) ny).symm
    rw [Nat.mul_one]
    rw [Int.natAbs_natCast] at ey
    exact ey
  · rw [if_neg e]
    exact qhc (by rw [Int.natAbs_natCast];exact ql7 (qck hj) (qol hj hi e) n)
theorem Sf.next {i:Nat} {top bot e:Int} {es:List Int} (h:Sf i top bot es) (hi:i<8) (he:e.natAbs≤3):Sf (i+1) (if e > 0 then top*((pj i ^ e.natAbs:Nat):Int) else top) (if e > 0 then bot else bot*((pj i ^ e.natAbs:Nat):Int)) (es++[e]):=by
  have p2:=(qck hi).two
  have P0:(0:Int)<((pj i ^ e.natAbs:Nat):Int):=by have:=Nat.pow_pos (n:=e.natAbs) (show 0<pj i by omega);omega
  have one:∀ {x:Int},x∣((Pi' i ^ 3:Nat):Int)→x∣((Pi' (i+1) ^ 3:Nat):Int):=fun {x} d=>by
    have:=qft hi (Nat.zero_le 3) d
    rw [Nat.pow_zero] at this
    have e1:x*((1:Nat):Int)=x:=by show x*1=x;omega
    rw [e1] at this;exact this
  have g1:∀ j,j<i→(es++[e]).getD j 0=es.getD j 0:=fun j hj=>by
    rw [List.getD_eq_getElem?_getD,List.getD_eq_getElem?_getD,List.getElem?_append_left (by rw [h.len];exact hj)]
  have g2:(es++[e]).getD i 0=e:=by
    rw [List.getD_eq_getElem?_getD,List.getElem?_append_right (by rw [h.len];exact Nat.le_refl _),h.len,Nat.sub_self];rfl
  have sm':∀ z∈es++[e],z.natAbs≤3:=fun z hz=>by
    rcases List.mem_append.mp hz with y | y
    · exact h.sm z y
    · rw [List.mem_singleton.mp y];exact he
  have len':(es++[e]).length=i+1:=by rw [List.length_append,h.len];rfl
  by_cases c:e > 0
  · rw [if_pos c,if_pos c]
    refine ⟨Int.mul_pos h.t0 P0,h.b0,qft hi he h.td,one h.bd,len',sm',fun j hj=>?_,fun j h1 h2=>?_⟩
    · rw [qf0 hi (by omega) h.t0]
      rcases Nat.lt_succ_iff_lt_or_eq.mp hj with y | y
      · rw [if_neg (by omega),g1 j y,Nat.add_zero];exact h.old j y
      · subst y
        obtain ⟨n1,n2⟩:=h.new j (Nat.le_refl _) hi
        rw [if_pos rfl,g2,n1,n2];omega
    · obtain ⟨n1,n2⟩:=h.new j (by omega) h2
      rw [qf0 hi h2 h.t0,if_neg (by omega)]
      exact ⟨by omega,n2⟩
  · rw [if_neg c,if_neg c]
    refine ⟨h.t0,Int.mul_pos h.b0 P0,one h.td,qft hi he h.bd,len',sm',fun j hj=>?_,fun j h1 h2=>?_⟩
    · rw [qf0 hi (by omega) h.b0]
      rcases Nat.lt_succ_iff_lt_or_eq.mp hj with y | y
      · rw [if_neg (by omega),g1 j y,Nat.add_zero];exact h.old j y
      · subst y
        obtain ⟨n1,n2⟩:=h.new j (Nat.le_refl _) hi
        rw [if_pos rfl,g2,n1,n2];omega
    · obtain ⟨n1,n2⟩:=h.new j (by omega) h2
      rw [qf0 hi h2 h.b0,if_neg (by omega)]
      exact ⟨n1,by omega⟩
theorem qoV {a b c d e f g h:V}:[a,b,c,d,e,f,g,h].length≤sizeLine:=by show 8≤_;exact sz (by decide)
theorem qgu (h:qbQ K vs H Q E):qhR K { nx:=fun _ H'=>Q .non H',rt:=Q } (L2.start ["_law_cell", "_law_top", "_law_bottom", "_law_powers_here", "_law_j", "_law_prime", "_law_e", "_law_turn"] vs) H:=by
  obtain ⟨c,rfl,k⟩:=h
  refine qaJ ?_
  show qdB K _ _ _
  refine qaJ ?_
  show qdA K _ _ _
  refine qaJ ⟨qnw,fun w hw'=>?_⟩
  have s1:=qaf hw' (HO.lst [])
  have hww:upd H w (HO.lst []) w=some (.lst []):=qad
  show qdz K _ [some (.int c),some (.int 1),some (.int 1),some (.ref w),none,none,none,none] _
  generalize upd H w (HO.lst [])=H1 at s1 hww ⊢
  refine ql8 (qjk ⟨rfl,fun r hr=>?_⟩)
  have rw':r≠w:=(qam hww hr).symm
  have s2:=qaf hr (HO.tup (prs.map fun p:Nat=>V.int (p:Int)))
  have hrr:upd H1 r (HO.tup (prs.map fun p:Nat=>V.int (p:Int))) r=_:=qad
  have hww:=s2 _ _ hww
  have s12:=s1.trans s2
  generalize upd H1 r (HO.tup (prs.map fun p:Nat=>V.int (p:Int)))=H2 at s2 hrr hww s12 ⊢
  have S0:Sf 0 1 1 []:=⟨by decide,by decide,Int.one_dvd _,Int.one_dvd _,rfl,(fun _ h=>nomatch h),fun j h=>by omega,fun j _ h=>⟨qfs (qck h),qfs (qck h)⟩⟩
  refine ⟨r,rfl,⟨_,SqT.of hrr⟩,ForJ.enumT (xs:=prs.map fun p:Nat=>V.int (p:Int)) (fun i σ H'=>∃ (top bot:Int) (es:List Int) (o4 o5 o6 o7:Option V),σ=[some (.int c),some (.int top),some (.int bot),some (.ref w),o4,o5,o6,o7]∧i≤8∧Same H H'∧H' r=some (.tup (prs.map fun p:Nat=>V.int (p:Int)))∧H' w=some (.lst (es.map V.int))∧Sf i top bot es) ⟨1,1,[],none,none,none,none,rfl,by decide,s12,hrr,hww,S0⟩ ?_ ?_ ?_⟩
  · rintro i σ H' _ ⟨top,bot,es,o4,o5,o6,o7,rfl,_,_,h,_⟩
    exact h
  · rintro i x p σ H3 hx ⟨top,bot,es,o4,o5,o6,o7,rfl,_,s3,h3r,h3w,S⟩ hp
    have il:i<8:=by have:=(List.getElem?_eq_some_iff.mp hx).1;rw [List.length_map] at this;exact this
    have ilp:i<prs.length:=il
    have ep:prs[i]?=some (pj i):=by unfold pj;rw [List.getD_eq_getElem?_getD,List.getElem?_eq_getElem ilp];rfl
    rw [List.getElem?_map,ep] at hx
    obtain rfl:=Option.some.inj hx
    have pb:(pj i:Int)<18446744073709551616:=by
      have:∀ i,i<8→pj i<18446744073709551616:=by decide +kernel
      have:=this i il
      omega
    have sp:=qaf hp (HO.tup [V.int (i:Int),V.int (pj i:Int)])
    have hpp:upd H3 p (HO.tup [V.int (i:Int),V.int (pj i:Int)]) p=_:=qad
    have h4r:=sp _ _ h3r
    have h4w:=sp _ _ h3w
    have s4:=s3.trans sp
    generalize upd H3 p (HO.tup [V.int (i:Int),V.int (pj i:Int)])=H4 at sp hpp h4r h4w s4 ⊢
    refine ⟨p,_,rfl,hpp,rfl,_,_,rfl,_,_,rfl,rfl,?_⟩
    show qce K _ [some (.int c),some (.int top),some (.int bot),some (.ref w),some (.int (i:Int)),some (.int (pj i:Int)),o6,o7] _
    refine qaJ (qjG ⟨_,rfl,_,rfl,qoV,fun q hq=>?_⟩)
    refine qfS ⟨_,rfl,_,rfl,c,i,8,rfl,by omega,by omega,by decide,fun d d0 d1=>?_⟩
    obtain ⟨e,he,e3⟩:=qom d0 d1
    have sq:=qaf hq (HO.tup [V.int 0,V.int 0,V.int 1,V.int 2,V.int (-1),V.int 0,V.int (-3),V.int 1])
    refine ⟨q,d,_,_,rfl,rfl,qad,he,?_⟩
    have h5r:=sq _ _ h4r
    have h5w:=sq _ _ h4w
    have s5:=s4.trans sq
    show qcd K _ [some (.int c),some (.int top),some (.int bot),some (.ref w),some (.int (i:Int)),some (.int (pj i:Int)),some (.int e),o7] (upd H4 q (HO.tup [V.int 0,V.int 0,V.int 1,V.int 2,V.int (-1),V.int 0,V.int (-3),V.int 1]))
    generalize upd H4 q (HO.tup [V.int 0,V.int 0,V.int 1,V.int 2,V.int (-1),V.int 0,V.int (-3),V.int 1])=H5 at sq h5r h5w s5 ⊢
    refine ⟨_,rfl,qbm h5w,_,rfl,w,_,_,rfl,rfl,h5w,sz (by rw [List.length_map];have:=S.len;omega),?_⟩
    have h6w:upd H5 w (HO.lst (es.map V.int++[V.int e])) w=some (.lst ((es++[e]).map V.int)):=by rw [qad,List.map_append];rfl
    have h6r:upd H5 w (HO.lst (es.map V.int++[V.int e])) r=_:=(qak rw').trans h5r
    have s6:Same H (upd H5 w (HO.lst (es.map V.int++[V.int e]))):=fun b o hb=>Kp.upd b o (qam hb hw') (s5 b o hb)
    show qcc K _ _ _
    generalize upd H5 w (HO.lst (es.map V.int++[V.int e]))=H6 at h6w h6r s6 ⊢
    have ea:(if e<0 then -e else e).toNat=e.natAbs:=by split <;> omega
    refine ⟨_,rfl,_,rfl,_,rfl,by split <;> omega,by split <;> omega,?_⟩
    rw [ea]
    refine ForR.by (fun n σ H'=>n≤e.natAbs∧∃ o7,σ=[some (.int c),some (.int (if e > 0 then top*((pj i ^ n:Nat):Int) else top)),some (.int (if e > 0 then bot else bot*((pj i ^ n:Nat):Int))),some (.ref w),some (.int (i:Int)),some (.int (pj i:Int)),some (.int e),o7]∧H'=H6) ⟨Nat.zero_le _,o7,by
      rw [Nat.pow_zero,show top*((1:Nat):Int)=top by show top*1=top;omega,show bot*((1:Nat):Int)=bot by show bot*1=bot;omega]
      by_cases z:e > 0
      · rw [if_pos z,if_pos z]
      · rw [if_neg z,if_neg z],rfl⟩ ?_ ?_
    · rintro n σ H' hn ⟨_,o7,rfl,rfl⟩
      refine qlT ?_
      have pw:∀ x:Int,x*((pj i ^ n:Nat):Int)*(pj i:Int)=x*((pj i ^ (n+1):Nat):Int):=fun x=>by rw [Nat.pow_succ];push_cast;grind
      refine ⟨_,rfl,_,_,rfl,rfl,_,rfl,qcn (fun z=>?_) (fun z=>?_)⟩
      · have z:e > 0:=of_decide_eq_true z
        refine ⟨_,rfl,_,rfl,_,_,rfl,rfl,qms (by omega) (by omega),hn,some (.int (0+(n:Int))),?_,rfl⟩
        show [some (V.int c),some (V.int ((if e > 0 then top*((pj i ^ n:Nat):Int) else top)*(pj i:Int))),some (V.int (if e > 0 then bot else bot*((pj i ^ n:Nat):Int))),some (V.ref w),some (V.int (i:Int)),some (V.int (pj i:Int)),some (V.int e),some (V.int (0+(n:Int)))]=_
        rw [if_pos z,if_pos z,if_pos z,if_pos z,pw]
      · have z:¬ e > 0:=fun y=>z (decide_eq_true y)
        refine ⟨_,rfl,_,rfl,_,_,rfl,rfl,qms (by omega) (by omega),hn,some (.int (0+(n:Int))),?_,rfl⟩
        show [some (V.int c),some (V.int (if e > 0 then top*((pj i ^ n:Nat):Int) else top)),some (V.int ((if e > 0 then bot else bot*((pj i ^ n:Nat):Int))*(pj i:Int))),some (V.ref w),some (V.int (i:Int)),some (V.int (pj i:Int)),some (V.int e),some (V.int (0+(n:Int)))]=_
        rw [if_neg z,if_neg z,if_neg z,if_neg z,pw]
    · rintro σ H' ⟨_,o7,rfl,rfl⟩
      exact ⟨_,_,es++[e],_,_,_,_,rfl,il,s6,h6r,h6w,S.next il e3⟩
  · rintro σ H' ⟨top,bot,es,o4,o5,o6,o7,rfl,_,s3,h3r,h3w,S⟩
    have S:Sf 8 top bot es:=S
    have eM:((Pi' 8 ^ 3:Nat):Int)=MM:=by decide +kernel
    show qdy K _ _ _
    refine qcD (qaz (qaz ⟨_,rfl,_,rfl,qb4,fun b hb=>?_⟩))
    have sb:=qaf hb (HO.tup [V.int top,V.int bot])
    have hbb:upd H' b (HO.tup [V.int top,V.int bot]) b=_:=qad
    show ∃ _,_
    generalize upd H' b (HO.tup [V.int top,V.int bot])=H4 at sb hbb ⊢
    refine ⟨_,rfl,qb4,fun r2 hr2=>?_⟩
    have sr:=qaf hr2 (HO.tup [V.ref b,V.ref w])
    exact k r2 b w top bot es _ ((s3.trans sb).trans sr) qad (sr _ _ hbb) ((sb.trans sr) _ _ h3w) S.len ⟨S.t0,eM ▸ S.td⟩ ⟨S.b0,eM ▸ S.bd⟩ S.sm S.old
theorem Al.with {α:Type} {R:V→α→Prop} {P:α→Prop} {us:List V} {xs:List α} (a:Al R us xs):(∀ x∈xs,P x)→Al (fun u x=>R u x∧P x) us xs:=
  Al.ind (M:=fun us xs=>(∀ x∈xs,P x)→Al (fun u x=>R u x∧P x) us xs) (fun _=>trivial) (fun u x _ _ r _ ih h=>⟨⟨r,h x (List.mem_cons_self ..)⟩,ih fun y hy=>h y (List.mem_cons_of_mem _ hy)⟩) a
theorem qhd (p:Nat) (xs ys:List (Nu×Nu)):WR p (xs++ys)=WR p xs+WR p ys:=by
  induction xs with
  | nil=>show WR p ys=0+WR p ys;grind
  | cons x xs ih=>show _+WR p (xs++ys)=(_+WR p xs)+WR p ys;rw [ih];grind
theorem qkC {α:Type} {R:V→α→Prop} (hr:∀ u x,R u x→∃ p,u=.ref p) {us:List V} {xs:List α} (a:Al R us xs) {es:List Int} (l:es.length=8) (e:us=es.map V.int):False:=by
  cases es with
  | nil=>cases l
  | cons z es=>
    rw [e] at a
    cases xs with
    | nil=>exact a.elim
    | cons x xs=>obtain ⟨p,hp⟩:=hr _ _ a.1;cases hp
theorem Rw.ref {H:Hp} {u:V} {x:Nu×Nu} (h:Rw H u x):∃ p,u=.ref p:=by obtain ⟨a,b,d,rfl,_⟩:=h;exact ⟨a,rfl⟩
theorem Wn.ref {H:Hp} {u:V} {x:Nu×List Int} (h:Wn H u x):∃ p,u=.ref p:=by obtain ⟨a,b,d,rfl,_⟩:=h;exact ⟨a,rfl⟩
theorem Wn.keep {α:Type} {H:Hp} {u:V} {y:Nu×List Int} {b:Addr} {us zs:List V} {R:V→α→Prop} (hr:∀ u x,R u x→∃ p,u=.ref p) {xs:List α} (a:Al R us xs) (hb:H b=some (.lst us)) (l:y.2.length=8) (h:Wn H u y):Wn (upd H b (.lst zs)) u y:=by
  obtain ⟨p,q,w,rfl,h1,h2,h3⟩:=h
  have tp:Tp H (upd H b (.lst zs)):=Tp.updL hb
  have n:w≠b:=fun e=>by
    rw [e,hb] at h3
    exact qkC hr a l (by injection h3 with h3;injection h3)
  exact ⟨p,q,w,rfl,tp _ _ h1,tp _ _ h2,(qak n).trans h3⟩
structure Rg (H0 H:Hp) (b d:Addr) (us ws:List V) (xs:List (Nu×Nu)) (ys:List (Nu×List Int)):Prop where
  s:Same H0 H
  hb:H b=some (.lst us)
  hx:Al (Rw H) us xs
  hd:H d=some (.lst ws)
  hy:Al (Wn H) ws ys
  b0:H0 b=none
  d0:H0 d=none
  bd:b≠d
  py:∀ y∈ys,Wz 9 y
theorem Rg.mono {H0 H H':Hp} {b d:Addr} {us ws:List V} {xs:List (Nu×Nu)} {ys:List (Nu×List Int)} (g:Rg H0 H b d us ws xs ys) (s:Same H H'):Rg H0 H' b d us ws xs ys:=
  ⟨g.s.trans s,s _ _ g.hb,g.hx.mono fun _ _ h=>h.tp (tpS s),s _ _ g.hd,g.hy.mono fun _ _ h=>h.same s,g.b0,g.d0,g.bd,g.py⟩
theorem Rg.addb {H0 H:Hp} {b d:Addr} {us ws:List V} {xs:List (Nu×Nu)} {ys:List (Nu×List Int)} {u:V} {x:Nu×Nu} (g:Rg H0 H b d us ws xs ys) (h:Rw H u x):Rg H0 (upd H b (.lst (us++[u]))) b d (us++[u]) ws (xs++[x]) ys:=by
  have tp:Tp H (upd H b (.lst (us++[u]))):=Tp.updL g.hb
  exact ⟨fun c o hc=>Kp.upd c o (qam hc g.b0) (g.s c o hc),qad,(g.hx.mono fun _ _ h=>h.tp tp).snoc (h.tp tp),(qak g.bd.symm).trans g.hd,(g.hy.with g.py).mono fun _ _ h=>h.1.keep (R:=Rw H) (fun _ _=>Rw.ref) g.hx g.hb h.2.2.1,g.b0,g.d0,g.bd,g.py⟩
theorem Rg.addd {H0 H:Hp} {b d:Addr} {us ws:List V} {xs:List (Nu×Nu)} {ys:List (Nu×List Int)} {u:V} {y:Nu×List Int} (g:Rg H0 H b d us ws xs ys) (h:Wn H u y) (z:Wz 9 y):Rg H0 (upd H d (.lst (ws++[u]))) b d us (ws++[u]) xs (ys++[y]):=by
  have tp:Tp H (upd H d (.lst (ws++[u]))):=Tp.updL g.hd
  exact ⟨fun c o hc=>Kp.upd c o (qam hc g.d0) (g.s c o hc),(qak g.bd).trans g.hb,(g.hx.mono fun _ _ h=>h.tp tp),qad,((g.hy.with g.py).mono fun _ _ h=>h.1.keep (R:=Wn H) (fun _ _=>Wn.ref) g.hy g.hd h.2.2.1).snoc (h.keep (R:=Wn H) (fun _ _=>Wn.ref) g.hy g.hd z.2.1),g.b0,g.d0,g.bd,fun v hv=>by
    rcases List.mem_append.mp hv with e | e
    · exact g.py v e
    · rw [List.mem_singleton.mp e];exact z⟩
noncomputable def Rs (x:Nu×Nu):Prop:=Cz 9 x.1∧Sm x.2.1∧Sm x.2.2
theorem qk4 {xs:List (Nu×Nu)} {x:Nu×Nu} (h:∀ x∈xs,Rs x) (hx:Rs x):∀ v∈xs++[x],Rs v:=fun v hv=>by
  rcases List.mem_append.mp hv with e | e
  · exact h v e
  · rw [List.mem_singleton.mp e];exact hx
theorem qk5 {xs:List (Nu×Nu)} {ys:List (Nu×List Int)} {c:Nu} {top bot:Int} {es:List Int} (h:∀ j,j<8→WR (pj j) xs=WW j ys) (v:∀ j,j<8→((vpI (pj j) top:Nat):Int) - ((vpI (pj j) bot:Nat):Int)=es.getD j 0):∀ j,j<8→WR (pj j) (xs++[(c,(top,bot))])=WW j (ys++[(c,es)]):=fun j hj=>by
  rw [qhd,qk3,h j hj]
  show _+(val c*((vpI (pj j) top:Rat) - (vpI (pj j) bot:Rat))+0)=_+(val c*((es.getD j 0:Int):Rat)+0)
  rw [← v j hj];push_cast;rfl
theorem qjl (h:qb5 K vs H Q E):qku K { nx:=fun _ H'=>Q .non H',rt:=Q } (L2.start ["_law_cells", "_law_rows_here", "_law_wanted", "_law_cell", "_law_r", "_law_powers_here", "_law_c_here"] vs) H:=by
  obtain ⟨a,ns,rfl,ha,l12,k⟩:=h
  refine qaJ ⟨qnw,fun b hb=>?_⟩
  show qeN K _ _ _
  refine qaJ ⟨qnw,fun d hd=>?_⟩
  have s1:=qaf hb (HO.lst [])
  have s2:=qaf hd (HO.lst [])
  have hd0:H d=none:=by
    cases e:H d with
    | none=>rfl
    | some o=>have:=s1 _ _ e;rw [hd] at this;cases this
  have G0:Rg H (upd (upd H b (HO.lst [])) d (HO.lst [])) b d [] [] [] []:=⟨s1.trans s2,s2 _ _ qad,trivial,qad,trivial,hb,hd0,qam qad hd,(fun _ h=>nomatch h)⟩
  show qeM K _ [some (.ref a),some (.ref b),some (.ref d),none,none,none,none] _
  generalize upd (upd H b (HO.lst [])) d (HO.lst [])=H1 at G0 ⊢
  refine qk2 ⟨_,rfl,a,rfl,⟨_,SqL.of (G0.s _ _ ha)⟩,ForL.by (xs:=ns.map V.int) (fun n σ H'=>∃ (us ws:List V) (xs:List (Nu×Nu)) (ys:List (Nu×List Int)) (o3 o4 o5 o6:Option V),σ=[some (.ref a),some (.ref b),some (.ref d),o3,o4,o5,o6]∧n≤ns.length∧Rg H H' b d us ws xs ys∧xs.length≤2*n∧ys.length≤2*n∧(∀ x∈xs,Rs x)∧∀ j,j<8→WR (pj j) xs=WW j ys) ⟨[],[],[],[],none,none,none,none,rfl,Nat.zero_le _,G0,Nat.le_refl _,Nat.le_refl _,(fun _ h=>nomatch h),fun _ _=>rfl⟩ ?_ ?_ ?_⟩
  · rintro n σ H' _ ⟨us,ws,xs,ys,o3,o4,o5,o6,rfl,_,G,_⟩
    exact SqL.of (G.s _ _ ha)
  · rintro n u σ H' hu ⟨us,ws,xs,ys,o3,o4,o5,o6,rfl,_,G,lx,ly,px,wr⟩
    have nl:n<ns.length:=by have:=(List.getElem?_eq_some_iff.mp hu).1;rw [List.length_map] at this;exact this
    rw [List.getElem?_map,List.getElem?_eq_getElem nl] at hu
    obtain rfl:=Option.some.inj hu
    generalize ns[n]=cell
    refine qlT ?_
    show qc0 K _ [some (.ref a),some (.ref b),some (.ref d),some (.int cell),o4,o5,o6] _
    refine qgY (qlS ⟨_,rfl,cell,rfl,fun r p w top bot es H2 s2 h2r h2p h2w l8 st sb e3 v=>?_⟩)
    have G:=G.mono s2
    refine ⟨r,_,rfl,h2r,rfl,_,_,rfl,_,_,rfl,rfl,?_⟩
    show qcZ K _ [some (.ref a),some (.ref b),some (.ref d),some (.int cell),some (.ref p),some (.ref w),o6] _
    refine qb3 ⟨_,rfl,cell,10,rfl,by decide,by decide,fun c t e hc cz=>?_⟩
    have sc:=qaf hc (HO.tup [V.int t,V.int e])
    have hcc:upd H2 c (HO.tup [V.int t,V.int e]) c=_:=qad
    have G:=G.mono sc
    have h3p:=sc _ _ h2p
    have h3w:=sc _ _ h2w
    have e7:∀ e∈es,e.natAbs≤700:=fun e he=>Nat.le_trans (e3 e he) (by decide)
    show qcY K _ [some (.ref a),some (.ref b),some (.ref d),some (.int cell),some (.ref p),some (.ref w),some (.ref c)] _
    generalize upd H2 c (HO.tup [V.int t,V.int e])=H3 at hcc G h3p h3w ⊢
    refine ⟨_,rfl,qbm G.hb,qaz ⟨_,rfl,_,rfl,qb4,fun m hm=>?_⟩⟩
    have sm:=qaf hm (HO.tup [V.ref c,V.ref p])
    have hmm:upd H3 m (HO.tup [V.ref c,V.ref p]) m=_:=qad
    have G:=G.mono sm
    have h4c:=sm _ _ hcc
    have h4p:=sm _ _ h3p
    have h4w:=sm _ _ h3w
    show ∃ _,_
    generalize upd H3 m (HO.tup [V.ref c,V.ref p])=H4 at hmm G h4c h4p h4w ⊢
    have lu:=G.hx.length
    have lw:=G.hy.length
    refine ⟨b,us,_,rfl,rfl,G.hb,sz (by omega),?_⟩
    have R1:Rw H4 (.ref m) ((t,e),(top,bot)):=⟨m,c,p,rfl,hmm,h4c,h4p⟩
    have W1:Wn H4 (.ref m) ((t,e),es)→True:=fun _=>trivial
    have G':=G.addb R1
    have tp:Tp H4 (upd H4 b (.lst (us++[.ref m]))):=Tp.updL G.hb
    have nw:w≠b:=fun q=>by
      rw [q,G.hb] at h4w
      exact qkC (R:=Rw H4) (fun _ _=>Rw.ref) G.hx l8 (by injection h4w with h;injection h)
    have h5c:=tp _ _ h4c
    have h5p:=tp _ _ h4p
    have h5w:upd H4 b (.lst (us++[.ref m])) w=_:=(qak nw).trans h4w
    show qcX K _ _ _
    generalize upd H4 b (.lst (us++[.ref m]))=H5 at G' h5c h5p h5w ⊢
    refine ⟨_,rfl,qbm G'.hd,qaz ⟨_,rfl,_,rfl,qb4,fun m2 hm2=>?_⟩⟩
    have sm:=qaf hm2 (HO.tup [V.ref c,V.ref w])
    have hmm:upd H5 m2 (HO.tup [V.ref c,V.ref w]) m2=_:=qad
    have G':=G'.mono sm
    have h6c:=sm _ _ h5c
    have h6p:=sm _ _ h5p
    have h6w:=sm _ _ h5w
    show ∃ _,_
    generalize upd H5 m2 (HO.tup [V.ref c,V.ref w])=H6 at hmm G' h6c h6p h6w ⊢
    refine ⟨d,ws,_,rfl,rfl,G'.hd,sz (by omega),?_⟩
    have W1:Wn H6 (.ref m2) ((t,e),es):=⟨m2,c,w,rfl,hmm,h6c,h6w⟩
    have tp:Tp H6 (upd H6 d (.lst (ws++[.ref m2]))):=Tp.updL G'.hd
    have nw:w≠d:=fun q=>by
      rw [q,G'.hd] at h6w
      exact qkC (R:=Wn H6) (fun _ _=>Wn.ref) G'.hy l8 (by injection h6w with h;injection h)
    have G2:=G'.addd W1 ⟨cz,l8,e7⟩
    have h7c:=tp _ _ h6c
    have h7p:=tp _ _ h6p
    have h7w:upd H6 d (.lst (ws++[.ref m2])) w=_:=(qak nw).trans h6w
    show qcW K _ _ _
    generalize upd H6 d (.lst (ws++[.ref m2]))=H7 at G2 h7c h7p h7w ⊢
    have px2:=qk4 px (x:=((t,e),(top,bot))) ⟨cz,st,sb⟩
    have wr2:=qk5 (c:=(t,e)) wr v
    have lx2:(xs++[((t,e),(top,bot))]).length≤2*n+1:=by rw [List.length_append];show xs.length+1≤_;omega
    have ly2:(ys++[((t,e),es)]).length≤2*n+1:=by rw [List.length_append];show ys.length+1≤_;omega
    have lu2:(us++[V.ref m]).length≤2*n+1:=by rw [G2.hx.length];exact lx2
    have lw2:(ws++[V.ref m2]).length≤2*n+1:=by rw [G2.hy.length];exact ly2
    generalize us++[V.ref m]=us at G2 lu2 ⊢
    generalize ws++[V.ref m2]=ws at G2 lw2 ⊢
    generalize xs++[((t,e),(top,bot))]=xs at G2 px2 wr2 lx2 ⊢
    generalize ys++[((t,e),es)]=ys at G2 wr2 ly2 ⊢
    refine qfS ⟨_,rfl,cell,12,4,rfl,by decide,by decide,by decide,fun dr _ _=>⟨rfl,_,rfl,qcn (fun _=>?_) (fun _=>?_)⟩⟩
    · obtain ⟨cn,vn⟩:=cz.neg
      obtain ⟨b1,b2⟩:=cz.bd
      show qcV K _ _ _
      refine ⟨_,rfl,qbm G2.hb,qaz (qaV ⟨_,rfl,qaz ⟨_,rfl,qb4,fun q hq=>?_⟩⟩)⟩
      have sq:=qaf hq (HO.tup [V.int (-1),V.int 1])
      have hqq:upd H7 q (HO.tup [V.int (-1),V.int 1]) q=_:=qad
      have G2:=G2.mono sq
      have h8c:=sq _ _ h7c
      have h8p:=sq _ _ h7p
      have h8w:=sq _ _ h7w
      show qbE nmul K _ (upd H7 q (HO.tup [V.int (-1),V.int 1])) _ _
      generalize upd H7 q (HO.tup [V.int (-1),V.int 1])=H8 at hqq G2 h8c h8p h8w ⊢
      refine ⟨c,q,t,e,-1,1,rfl,h8c,hqq,cz.1.pos,by decide,b1.mono (by decide),b2.mono (by decide),(show Bd 1 (-1) by unfold Bd;decide).mono (by decide),(show Bd 1 1 by unfold Bd;decide).mono (by decide),fun r2 hr2=>?_⟩
      generalize nmul (t,e) (-1,1)=nc at cn vn ⊢
      have sr:=qaf hr2 (HO.tup [V.int nc.1,V.int nc.2])
      have hrr:upd H8 r2 (HO.tup [V.int nc.1,V.int nc.2]) r2=_:=qad
      have G2:=G2.mono sr
      have h9c:=sr _ _ h8c
      have h9p:=sr _ _ h8p
      have h9w:=sr _ _ h8w
      show ∃ _,_
      generalize upd H8 r2 (HO.tup [V.int nc.1,V.int nc.2])=H9 at hrr G2 h9c h9p h9w ⊢
      refine ⟨_,rfl,qb4,fun m3 hm3=>?_⟩
      have sm:=qaf hm3 (HO.tup [V.ref r2,V.ref p])
      have hmm:upd H9 m3 (HO.tup [V.ref r2,V.ref p]) m3=_:=qad
      have G2:=G2.mono sm
      have h9c:=sm _ _ h9c
      have h9p:=sm _ _ h9p
      have h9w:=sm _ _ h9w
      have hrr:=sm _ _ hrr
      show ∃ _,_
      generalize upd H9 m3 (HO.tup [V.ref r2,V.ref p])=H10 at hmm hrr G2 h9c h9p h9w ⊢
      refine ⟨b,us,_,rfl,rfl,G2.hb,sz (by omega),?_⟩
      have R1:Rw H10 (.ref m3) (nc,(top,bot)):=⟨m3,r2,p,rfl,hmm,hrr,h9p⟩
      have tp:Tp H10 (upd H10 b (.lst (us++[.ref m3]))):=Tp.updL G2.hb
      have nw:w≠b:=fun q=>by
        rw [q,G2.hb] at h9w
        exact qkC (R:=Rw H10) (fun _ _=>Rw.ref) G2.hx l8 (by injection h9w with h;injection h)
      have G3:=G2.addb R1
      have h9c:=tp _ _ h9c
      have h9w:upd H10 b (.lst (us++[.ref m3])) w=_:=(qak nw).trans h9w
      show qcU K _ _ _
      generalize upd H10 b (.lst (us++[.ref m3]))=H11 at G3 h9c h9w ⊢
      refine ⟨_,rfl,qbm G3.hd,qaz (qaV ⟨_,rfl,qaz ⟨_,rfl,qb4,fun q hq=>?_⟩⟩)⟩
      have sq:=qaf hq (HO.tup [V.int (-1),V.int 1])
      have hqq:upd H11 q (HO.tup [V.int (-1),V.int 1]) q=_:=qad
      have G3:=G3.mono sq
      have h9c:=sq _ _ h9c
      have h9w:=sq _ _ h9w
      show qbE nmul K _ (upd H11 q (HO.tup [V.int (-1),V.int 1])) _ _
      generalize upd H11 q (HO.tup [V.int (-1),V.int 1])=H12 at hqq G3 h9c h9w ⊢
      obtain ⟨cn',vn'⟩:=cz.neg
      refine ⟨c,q,t,e,-1,1,rfl,h9c,hqq,cz.1.pos,by decide,b1.mono (by decide),b2.mono (by decide),(show Bd 1 (-1) by unfold Bd;decide).mono (by decide),(show Bd 1 1 by unfold Bd;decide).mono (by decide),fun r3 hr3=>?_⟩
      have en:nc=nmul (t,e) (-1,1):=qfd cn.1 cn'.1 (vn.trans vn'.symm)
      rw [← en]
      have sr:=qaf hr3 (HO.tup [V.int nc.1,V.int nc.2])
      have hrr:upd H12 r3 (HO.tup [V.int nc.1,V.int nc.2]) r3=_:=qad
      have G3:=G3.mono sr
      have h9w:=sr _ _ h9w
      show ∃ _,_
      generalize upd H12 r3 (HO.tup [V.int nc.1,V.int nc.2])=H13 at hrr G3 h9w ⊢
      refine ⟨_,rfl,qb4,fun m4 hm4=>?_⟩
      have sm:=qaf hm4 (HO.tup [V.ref r3,V.ref w])
      have hmm:upd H13 m4 (HO.tup [V.ref r3,V.ref w]) m4=_:=qad
      have G3:=G3.mono sm
      have h9w:=sm _ _ h9w
      have hrr:=sm _ _ hrr
      show ∃ _,_
      generalize upd H13 m4 (HO.tup [V.ref r3,V.ref w])=H14 at hmm hrr G3 h9w ⊢
      refine ⟨d,ws,_,rfl,rfl,G3.hd,sz (by omega),?_⟩
      have W1:Wn H14 (.ref m4) (nc,es):=⟨m4,r3,w,rfl,hmm,hrr,h9w⟩
      refine ⟨_,_,_,_,_,_,_,_,rfl,nl,G3.addd W1 ⟨cn,l8,e7⟩,?_,?_,qk4 px2 ⟨cn,st,sb⟩,qk5 wr2 v⟩
      · rw [List.length_append];show xs.length+1≤_;omega
      · rw [List.length_append];show ys.length+1≤_;omega
    · exact ⟨us,ws,xs,ys,_,_,_,_,rfl,nl,G2,by omega,by omega,px2,wr2⟩
  · rintro σ H' ⟨us,ws,xs,ys,o3,o4,o5,o6,rfl,_,G,lx,ly,px,wr⟩
    rw [List.length_map] at lx ly
    show qeL K _ _ _
    refine qcD (qaz ⟨_,rfl,_,rfl,qb4,fun r hr=>?_⟩)
    have G:=G.mono (qaf hr (HO.tup [V.ref b,V.ref d]))
    exact k r b d us ws xs ys _ G.s qad G.hb G.hx G.hd G.hy (by omega) (by omega) px G.py wr
theorem Sm.vp {w:Int} (h:Sm w) {p:Nat} (hp:Pr p):vpI p w≤210:=by
  have w0:=h.1
  obtain ⟨x,ex,nx⟩:=qek hp w.natAbs w.natAbs (Nat.le_refl _) (by omega)
  refine Nat.le_trans ((Nat.le_log2 (by omega)).mpr ?_) h.bd
  have x0:0<x:=Nat.pos_of_ne_zero fun z=>nx (z ▸ Nat.dvd_zero _)
  have a:2 ^ vpI p w≤p ^ vpI p w:=Nat.pow_le_pow_left hp.two _
  have b:p ^ vpI p w≤p ^ vpI p w*x:=Nat.le_mul_of_pos_right _ x0
  have c:w.natAbs=p ^ vpI p w*x:=ex
  omega
theorem ql9 {p:Nat} {zs:List Pce} (h:∀ z∈zs,vpI p z.2=0):WP p zs=0:=by
  induction zs with
  | nil=>rfl
  | cons z zs ih=>
    show val z.1*(vpI p z.2:Rat)+WP p zs=0
    rw [ih fun y hy=>h y (List.mem_cons_of_mem _ hy),h z (List.mem_cons_self ..)]
    push_cast;grind
theorem qnD {p:Nat} {w:Int} (w0:0<w) (d:p∣w.natAbs):1≤vpI p w:=by
  unfold vpI
  obtain ⟨n,hn⟩:∃ n,w.natAbs=n+1:=⟨w.natAbs - 1,by omega⟩
  rw [hn] at d ⊢
  show 1≤(if p∣n+1 then _ else 0)
  rw [if_pos d];omega
theorem qjm {p:Nat} (hp:Pr p) {x y:Int} (d:p∣x.natAbs) (c:Int.gcd x y=1):vpI p y=0:=qhc fun d2=>by
  have:p∣Int.gcd x y:=Nat.dvd_gcd d d2
  rw [c] at this
  have:=Nat.le_of_dvd (by decide) this
  have:=hp.two
  omega
theorem qkD {p:Nat} (hp:Pr p) {ys:List Pce} (cop:ys.Pairwise Cp) {y:Pce} (hy:y∈ys) (d:p∣y.2.natAbs):WP p ys=val y.1*(vpI p y.2:Rat):=by
  induction ys with
  | nil=>cases hy
  | cons z zs ih=>
    obtain ⟨c1,c2⟩:=List.pairwise_cons.mp cop
    show val z.1*(vpI p z.2:Rat)+WP p zs=_
    rcases List.mem_cons.mp hy with rfl | hy
    · rw [ql9 fun x hx=>qjm hp d (c1 x hx)];grind
    · have c:Int.gcd y.2 z.2=1:=by rw [Int.gcd_comm];exact c1 y hy
      rw [ih c2 hy,qjm hp d c];push_cast;grind
theorem qkE {p:Nat} (hp:Pr p) {t:Nat} {xs:List (Nu×Nu)} (h:∀ x∈xs,Rz t x):∃ k:Int,WR p xs=(k:Rat) / 60∧k.natAbs≤xs.length*(210*2 ^ t):=by
  induction xs with
  | nil=>exact ⟨0,by show (0:Rat)=_;push_cast;grind,Nat.zero_le _⟩
  | cons x xs ih=>
    obtain ⟨k,e,b⟩:=ih fun y hy=>h y (List.mem_cons_of_mem _ hy)
    obtain ⟨⟨_,m,em,bm⟩,s1,s2⟩:=h x (List.mem_cons_self ..)
    have v1:=s1.vp hp
    have v2:=s2.vp hp
    refine ⟨m*((vpI p x.2.1:Int) - (vpI p x.2.2:Int))+k,?_,?_⟩
    · show val x.1*((vpI p x.2.1:Rat) - (vpI p x.2.2:Rat))+WR p xs=_
      rw [em,e];push_cast;grind
    · have a1:=Int.natAbs_add_le (m*((vpI p x.2.1:Int) - (vpI p x.2.2:Int))) k
      have a2:(m*((vpI p x.2.1:Int) - (vpI p x.2.2:Int))).natAbs≤2 ^ t*210:=by
        rw [Int.natAbs_mul]
        exact Nat.mul_le_mul (Nat.le_of_lt bm) (by omega)
      have a3:(xs.length+1)*(210*2 ^ t)=xs.length*(210*2 ^ t)+2 ^ t*210:=by grind
      show _≤(xs.length+1)*(210*2 ^ t)
      omega
theorem sharp {s t:Nat} {ys:List Pce} {xs:List (Nu×Nu)} (h:Sd s ys) (hx:∀ x∈xs,Rz t x) (l:xs.length≤24) (wt:∀ p,Pr p→WP p ys=WR p xs):Sd (t+13) ys:=by
  refine ⟨fun y hy=>?_,h.cp,h.so,h.l8⟩
  obtain ⟨⟨lo,k,ek,_⟩,y0,y1,sy⟩:=h.sz y hy
  refine ⟨⟨lo,k,ek,?_⟩,y0,y1,sy⟩
  obtain ⟨j,hj,d⟩:=sy.prime y1
  have hp:Pr (pj j):=qck hj
  obtain ⟨m,em,bm⟩:=qkE hp hx
  have v1:1≤vpI (pj j) y.2:=qnD (by omega) d
  have e:=(qkD hp h.cp hy d).symm.trans ((wt _ hp).trans em)
  have ki:k*((vpI (pj j) y.2:Nat):Int)=m:=by
    rw [ek] at e
    have:(k:Rat)*((vpI (pj j) y.2:Nat):Rat)=(m:Rat):=by
      have e:(k:Rat) / 60*((vpI (pj j) y.2:Nat):Rat)=(m:Rat) / 60:=e
      grind
    exact_mod_cast this
  have b1:k.natAbs≤m.natAbs:=by
    rw [← ki,Int.natAbs_mul,Int.natAbs_natCast]
    exact Nat.le_mul_of_pos_right _ (by omega)
  have b2:xs.length*(210*2 ^ t)≤24*(210*2 ^ t):=Nat.mul_le_mul_right _ l
  have b3:2 ^ (t+13)=8192*2 ^ t:=by rw [Nat.pow_add];omega
  have b4:0<2 ^ t:=Nat.pow_pos (by decide)
  show k.natAbs<2 ^ (t+13)
  omega
theorem zq {a b:Int} (a0:0≤a) (h3:3*a≤b) (b0:0<b):∃ z:Rat,z*(b:Rat)=(a:Rat)∧0≤z∧3*z≤1∧∀ x:Rat,x*((b:Rat) - (a:Rat))=(b:Rat)+(a:Rat)→ph z=x:=by
  have br:(0:Rat)<(b:Rat):=by exact_mod_cast b0
  have ar:(0:Rat)≤(a:Rat):=by exact_mod_cast a0
  have h3r:3*(a:Rat)≤(b:Rat):=by exact_mod_cast h3
  have bi:(b:Rat)*(b:Rat)⁻¹=1:=Rat.mul_inv_cancel _ (by grind)
  have bp:0<(b:Rat)⁻¹:=Rat.inv_pos.mpr br
  generalize (b:Rat)⁻¹=i at bi bp
  have z0:=Rat.mul_nonneg ar (show 0≤i by grind)
  have z3:3*((a:Rat)*i)≤1:=by
    have:=Rat.mul_le_mul_of_nonneg_right h3r (show 0≤i by grind)
    grind
  refine ⟨(a:Rat)*i,by grind,z0,z3,fun x hx=>?_⟩
  unfold ph
  have n1:(1 - (a:Rat)*i)*(1 - (a:Rat)*i)⁻¹=1:=Rat.mul_inv_cancel _ (by grind)
  generalize (1 - (a:Rat)*i)⁻¹=j at n1 ⊢
  have e1:(1+(a:Rat)*i)=x*(1 - (a:Rat)*i):=by
    have:x*(1 - (a:Rat)*i)=(x*((b:Rat) - (a:Rat)))*i:=by grind
    rw [this,hx];grind
  rw [e1]
  have:x*(1 - (a:Rat)*i)*j=x*((1 - (a:Rat)*i)*j):=by grind
  rw [this,n1];grind
theorem Ser.lg {z x:Rat} {M:Int} {k:Nat} {tot hi:Int} (h:Ser z (M:Rat) k 0 tot) (M0:0<M) (z0:0≤z) (z3:3*z≤1) (t0:0≤tot) (hx:ph z=x) (hh:2*tot+4*k+4≤hi) {g:Int} (hg:hi≤2*tot+g):Lg M g x (2*tot) hi:=by
  have Mr:(0:Rat)<(M:Rat):=by exact_mod_cast M0
  have hm:(M:Rat)*(M:Rat)⁻¹=1:=Rat.mul_inv_cancel _ (by grind)
  have mp:0<(M:Rat)⁻¹:=Rat.inv_pos.mpr Mr
  obtain ⟨h1,h2⟩:=h.ends Mr hm z0 z3
  rw [hx] at h1 h2
  refine ⟨by omega,by omega,hg,h1.mono ?_,h2.mono ?_⟩
  · rw [Rat.div_def];push_cast;exact Rat.le_refl
  · rw [Rat.div_def]
    have:((2*tot+4*k+4:Int):Rat)≤(hi:Rat):=by exact_mod_cast hh
    push_cast at this
    exact Rat.mul_le_mul_of_nonneg_right this (by grind)
theorem Lg.mul {M g g':Int} {x y:Rat} {lo hi lo' hi':Int} (a:Lg M g x lo hi) (b:Lg M g' y lo' hi'):Lg M (g+g') (x*y) (lo+lo') (hi+hi'):=by
  have h1:=a.l0;have h2:=a.lh;have h3:=a.wd;have h4:=b.l0;have h5:=b.lh;have h6:=b.wd
  refine ⟨by omega,by omega,by omega,(a.le.mul b.le).mono ?_,(a.ge.mul b.ge).mono ?_⟩
  · rw [Rat.div_def,Rat.div_def,Rat.div_def];push_cast;grind
  · rw [Rat.div_def,Rat.div_def,Rat.div_def];push_cast;grind
theorem Lg.mono {M g g':Int} {x:Rat} {lo hi:Int} (a:Lg M g x lo hi) (h:g≤g'):Lg M g' x lo hi:=⟨a.l0,a.lh,by have:=a.wd;omega,a.le,a.ge⟩
theorem Lg.pow {M g:Int} {x:Rat} {lo hi:Int} (a:Lg M g x lo hi) (e:Nat):Lg M (e*g) (x ^ e) (e*lo) (e*hi):=by
  have e0:(0:Int)≤(e:Int):=by omega
  refine ⟨Int.mul_nonneg e0 a.l0,Int.mul_le_mul_of_nonneg_left a.lh e0,?_,(a.le.pow e).mono ?_,(a.ge.pow e).mono ?_⟩
  · have:=Int.mul_le_mul_of_nonneg_left a.wd e0
    grind
  · rw [Rat.div_def,Rat.div_def];push_cast;grind
  · rw [Rat.div_def,Rat.div_def];push_cast;grind
theorem LGe.two:LGe 1 2:=⟨by decide,fun ε e0=>⟨1,by grind,by
  have:=Up.one (e:=1) (by decide)
  have e:(1:Rat)+1=2:=by grind
  rw [e] at this;exact this⟩⟩
theorem qjn {w:Rat} {e:Nat} (w0:0<w) (h:w≤(2:Rat) ^ e):LGe (e:Rat) w:=by
  have h2:=LGe.two.pow e
  refine ⟨w0,fun ε e0=>?_⟩
  obtain ⟨E,h1,u0,x0,hu⟩:=h2.2 ε e0
  refine ⟨E,by grind,u0,w0,fun n t t0 nt lt=>?_⟩
  have:=hu n t t0 nt lt
  have p:=qcv (show 0≤1 - E*t by grind) n
  have:=Rat.mul_le_mul_of_nonneg_right h p
  grind
theorem qnE {a M v:Rat} (M0:0<M) (h:a / M≤v):a≤v*M:=by
  have:=Rat.mul_le_mul_of_nonneg_right h (show 0≤M by grind)
  rw [Rat.div_mul_cancel (by grind)] at this;exact this
theorem Lg.size {M g:Int} {w:Int} {lo hi:Int} (a:Lg M g (w:Rat) lo hi) (M0:0<M) (w0:0<w) {e:Nat} (h:Bd e w):lo≤e*M:=by
  have Mr:(0:Rat)<(M:Rat):=by exact_mod_cast M0
  have wr:(0:Rat)<(w:Rat):=by exact_mod_cast w0
  have h1:w≤(2:Int) ^ e:=by
    have h:w.natAbs<2 ^ e:=h
    have:((w.natAbs:Nat):Int)<((2 ^ e:Nat):Int):=by exact_mod_cast h
    push_cast at this
    omega
  have h2:(w:Rat)≤(2:Rat) ^ e:=by
    have:(w:Rat)≤(((2:Int) ^ e:Int):Rat):=by exact_mod_cast h1
    push_cast at this;exact this
  have:=qnE Mr (a.le.ge (qjn wr h2))
  exact_mod_cast this
theorem qk6 {z ε:Rat} (z0:0≤z) (z3:3*z≤1) (e0:0<ε):∃ u,LLe u (ph z)∧LGe (u+ε) (ph z):=by
  obtain ⟨N,hN⟩:=qfi (18*ε⁻¹)
  have ei:ε*ε⁻¹=1:=Rat.mul_inv_cancel _ (by grind)
  obtain ⟨c,hc,c0,c9⟩:=qnp z0 z3 N
  refine ⟨SN z N,LLe.series z0 z3 N,(LGe.series z0 z3 N hc c0).mono ?_⟩
  have h1:=qcv z0 (2*N+1)
  have h2:z ^ (2*N+1)*(3:Rat) ^ (2*N+1)≤1:=by
    rw [← qea]
    exact qgZ (by grind) (by grind) _
  have h3:=bern (s:=2) (by decide) (2*N+1)
  have e3:(1:Rat)+2=3:=by grind
  rw [e3] at h3
  have n0:(0:Rat)≤(N:Rat):=by exact_mod_cast Nat.zero_le N
  have en:((2*N+1:Nat):Rat)=2*(N:Rat)+1:=by push_cast;rfl
  rw [en] at h3
  have h4:=Rat.mul_le_mul_of_nonneg_left h3 h1
  generalize z ^ (2*N+1)=y at *
  have h5:y*(N:Rat)≤1:=by
    have:=Rat.mul_nonneg h1 n0
    grind
  have h6:0≤((N:Rat) - 18*ε⁻¹)*(y*ε):=Rat.mul_nonneg (by grind) (Rat.mul_nonneg h1 (by grind))
  have h7:((N:Rat) - 18*ε⁻¹)*(y*ε)=(y*(N:Rat))*ε - 18*y*(ε*ε⁻¹):=by grind
  rw [h7,ei] at h6
  have h8:=Rat.mul_le_mul_of_nonneg_right h5 (show 0≤ε by grind)
  grind
theorem qf1 (w:Nat) (w0:0<w):∃ e:Nat,2 ^ e≤w∧w<2 ^ (e+1):=⟨w.log2,Nat.log2_self_le (by omega),Nat.lt_log2_self⟩
theorem qma {w:Nat} (w0:0<w) {ε:Rat} (e0:0<ε):∃ u,LLe u (w:Rat)∧LGe (u+ε) (w:Rat):=by
  obtain ⟨e,h1,h2⟩:=qf1 w w0
  obtain ⟨t,t0,nt⟩:=qg0 (Nat.succ_pos e)
  have d0:0<ε*t:=Rat.mul_pos e0 t0
  obtain ⟨z1,_,z10,z13,hz1⟩:=zq (a:=1) (b:=3) (by decide) (by decide) (by decide)
  have p2:=hz1 2 (by push_cast;grind)
  have s0:0<2 ^ e:=Nat.pow_pos (by decide)
  have h3:2 ^ (e+1)=2 ^ e+2 ^ e:=by rw [Nat.pow_succ];omega
  obtain ⟨z2,_,z20,z23,hz2⟩:=zq (a:=(w:Int) - ((2 ^ e:Nat):Int)) (b:=(w:Int)+((2 ^ e:Nat):Int)) (by omega) (by omega) (by omega)
  obtain ⟨u1,a1,b1⟩:=qk6 z10 z13 d0
  obtain ⟨u2,a2,b2⟩:=qk6 z20 z23 d0
  rw [p2] at a1 b1
  have sr:(0:Rat)<((2 ^ e:Nat):Rat):=by exact_mod_cast s0
  have si:((2 ^ e:Nat):Rat)*((2 ^ e:Nat):Rat)⁻¹=1:=Rat.mul_inv_cancel _ (by grind)
  have pz:=hz2 ((w:Rat)*((2 ^ e:Nat):Rat)⁻¹) (by
    have c1:(((w:Int) - ((2 ^ e:Nat):Int):Int):Rat)=(w:Rat) - ((2 ^ e:Nat):Rat):=by rw [Rat.intCast_sub];rfl
    have c2:(((w:Int)+((2 ^ e:Nat):Int):Int):Rat)=(w:Rat)+((2 ^ e:Nat):Rat):=by rw [Rat.intCast_add];rfl
    rw [c1,c2]
    generalize ((2 ^ e:Nat):Rat)=s at *
    grind)
  rw [pz] at a2 b2
  have e2:((2:Rat) ^ e)=((2 ^ e:Nat):Rat):=by push_cast;rfl
  have A:=(a1.pow e).mul a2
  have B:=(b1.pow e).mul b2
  rw [e2] at A B
  have ew:((2 ^ e:Nat):Rat)*((w:Rat)*((2 ^ e:Nat):Rat)⁻¹)=(w:Rat):=by
    generalize ((2 ^ e:Nat):Rat)=s at *
    grind
  rw [ew] at A B
  refine ⟨_,A,B.mono ?_⟩
  have en:((e.succ:Nat):Rat)=(e:Rat)+1:=by rw [Nat.succ_eq_add_one];push_cast;rfl
  rw [en] at nt
  have:(e:Rat)*(u1+ε*t)+(u2+ε*t)=((e:Rat)*u1+u2)+ε*(((e:Rat)+1)*t):=by grind
  rw [this,nt];grind
theorem Adm.ex {ε:Rat} (e0:0<ε):∃ l,Adm l ε:=by
  have h:∀ j:Nat,∃ u:Rat,j<8→LLe u ((pj j:Nat):Rat)∧LGe (u+ε) ((pj j:Nat):Rat):=fun j=>by
    by_cases hj:j<8
    · obtain ⟨u,h1,h2⟩:=qma (w:=pj j) (by have:=(qck hj).two;omega) e0
      exact ⟨u,fun _=>⟨h1,h2⟩⟩
    · exact ⟨0,fun h=>absurd h hj⟩
  exact ⟨fun j=>Classical.choose (h j),e0,fun j hj=>(Classical.choose_spec (h j) hj).1,fun j hj=>(Classical.choose_spec (h j) hj).2⟩
theorem qbB {f g:Nat→Rat}:∀ n:Nat,(∀ j,j<n→f j=g j)→Sg f n=Sg g n
  | 0,_=>rfl
  | n+1,h=>by
    show Sg f n+f n=Sg g n+g n
    rw [qbB n fun j hj=>h j (by omega),h n (by omega)]
theorem qhe (f g:Nat→Rat):∀ n:Nat,Sg (fun j=>f j+g j) n=Sg f n+Sg g n
  | 0=>by show (0:Rat)=0+0;grind
  | n+1=>by
    show Sg (fun j=>f j+g j) n+(f n+g n)=(Sg f n+f n)+(Sg g n+g n)
    rw [qhe f g n];grind
theorem qk7 (c:Rat) (f:Nat→Rat):∀ n:Nat,Sg (fun j=>c*f j) n=c*Sg f n
  | 0=>by show (0:Rat)=c*0;grind
  | n+1=>by
    show Sg (fun j=>c*f j) n+c*f n=c*(Sg f n+f n)
    rw [qk7 c f n];grind
theorem qk8 {i:Nat} (f:Nat→Rat):∀ n:Nat,Sg (fun j=>(((if j=i then 1 else 0:Nat):Nat):Rat)*f j) n=if i<n then f i else 0
  | 0=>by rw [if_neg (by omega)];rfl
  | n+1=>by
    show Sg _ n+(((if n=i then 1 else 0:Nat):Nat):Rat)*f n=_
    rw [qk8 f n]
    by_cases h:n=i
    · subst h
      rw [if_neg (by omega),if_pos rfl,if_pos (by omega)];push_cast;grind
    · rw [if_neg h]
      by_cases h2:i<n
      · rw [if_pos h2,if_pos (by omega)];push_cast;grind
      · rw [if_neg h2,if_neg (by omega)];push_cast;grind
theorem qnF {f g:Nat→Rat}:∀ n:Nat,(∀ j,j<n→f j≤g j)→Sg f n≤Sg g n
  | 0,_=>Rat.le_refl
  | n+1,h=>by
    have h1:=qnF n fun j hj=>h j (by omega)
    have h2:=h n (by omega)
    show Sg f n+f n≤Sg g n+g n
    grind
theorem qdV (c:Rat):∀ n:Nat,Sg (fun _=>c) n=(n:Rat)*c
  | 0=>by show (0:Rat)=((0:Nat):Rat)*c;have:((0:Nat):Rat)=0:=rfl
          rw [this];grind
  | n+1=>by
    show Sg (fun _=>c) n+c=((n+1:Nat):Rat)*c
    rw [qdV c n];push_cast;grind
theorem qk9 (l:Nat→Rat):LW l 1=0:=by
  unfold LW
  have:Sg (fun j=>((vpI (pj j) 1:Nat):Rat)*l j) 8=Sg (fun _=>0) 8:=qbB 8 fun j hj=>by
    rw [qfs (qck hj)];have:((0:Nat):Rat)=0:=rfl
    rw [this];grind
  rw [this,qdV];grind
theorem qjo (l:Nat→Rat) {w:Int} (w0:0<w) {i:Nat} (hi:i<8):LW l (w*(pj i:Int))=LW l w+l i:=by
  unfold LW
  have:Sg (fun j=>((vpI (pj j) (w*(pj i:Int)):Nat):Rat)*l j) 8=Sg (fun j=>((vpI (pj j) w:Nat):Rat)*l j+(((if j=i then 1 else 0:Nat):Nat):Rat)*l j) 8:=qbB 8 fun j hj=>by
    have:=qf0 (n:=1) hi hj w0
    rw [Nat.pow_one] at this
    rw [this];push_cast;grind
  rw [this,qhe,qk8,if_pos hi]
theorem Sm.ind {M:Int→Prop} (h1:M 1) (hs:∀ w i,0<w→i<8→M w→M (w*(pj i:Int))):∀ (n:Nat) (w:Int),w.natAbs≤n→Sm w→M w
  | 0,w,hn,s=>by have:=s.1;omega
  | n+1,w,hn,s=>by
    by_cases w1:w=1
    · rw [w1];exact h1
    · obtain ⟨i,hi,d⟩:=s.prime (by have:=s.1;omega)
      have d:((pj i:Nat):Int)∣w:=Int.ofNat_dvd_left.mpr d
      obtain ⟨u,hu⟩:=d
      have p2:=(qck hi).two
      have w0:=s.1
      have u0:0<u:=by
        rcases Int.lt_trichotomy u 0 with y | y | y
        · have:=Int.mul_le_mul_of_nonneg_left (show u≤0 by omega) (show (0:Int)≤(pj i:Nat) by omega)
          omega
        · rw [y] at hu;omega
        · exact y
      have ul:u<w:=by
        have:(2:Int)*u≤(pj i:Nat)*u:=Int.mul_le_mul_of_nonneg_right (by omega) (by omega)
        omega
      have e:w=u*(pj i:Int):=by rw [hu,Int.mul_comm]
      rw [e]
      exact hs u i u0 hi (Sm.ind h1 hs n u (by omega) ⟨u0,Int.dvd_trans ⟨(pj i:Nat),e⟩ s.2⟩)
theorem qon {l:Nat→Rat} (h:∀ j,j<8→LLe (l j) ((pj j:Nat):Rat)) {w:Int} (s:Sm w):LLe (LW l w) (w:Rat):=
  Sm.ind (M:=fun w=>LLe (LW l w) (w:Rat)) (by rw [qk9];exact LLe.triv) (fun w i w0 hi ih=>by
    rw [qjo l w0 hi]
    have e:((w*(pj i:Int):Int):Rat)=(w:Rat)*((pj i:Nat):Rat):=by rw [Rat.intCast_mul];rfl
    rw [e];exact ih.mul (h i hi)) w.natAbs w (Nat.le_refl _) s
theorem qoo {l:Nat→Rat} (h:∀ j,j<8→LGe (l j) ((pj j:Nat):Rat)) {w:Int} (s:Sm w):LGe (LW l w) (w:Rat):=
  Sm.ind (M:=fun w=>LGe (LW l w) (w:Rat)) (by rw [qk9];exact LGe.triv) (fun w i w0 hi ih=>by
    rw [qjo l w0 hi]
    have e:((w*(pj i:Int):Int):Rat)=(w:Rat)*((pj i:Nat):Rat):=by rw [Rat.intCast_mul];rfl
    rw [e];exact ih.mul (h i hi)) w.natAbs w (Nat.le_refl _) s
theorem InL.const (c:Rat):InL c c (fun _=>c):=⟨0,fun l ε _=>by constructor <;> grind⟩
theorem InL.add {a b c d:Rat} {X Y:(Nat→Rat)→Rat} (h:InL a b X) (h':InL c d Y):InL (a+c) (b+d) (fun l=>X l+Y l):=by
  obtain ⟨C,h⟩:=h
  obtain ⟨D,h'⟩:=h'
  refine ⟨C+D,fun l ε ad=>?_⟩
  have h1:=h l ε ad
  have h2:=h' l ε ad
  constructor <;> grind
theorem InL.pos {a b c:Rat} {X:(Nat→Rat)→Rat} (h:InL a b X) (c0:0≤c):InL (c*a) (c*b) (fun l=>c*X l):=by
  obtain ⟨C,h⟩:=h
  refine ⟨c*C,fun l ε ad=>?_⟩
  obtain ⟨h1,h2⟩:=h l ε ad
  have q1:=Rat.mul_le_mul_of_nonneg_left h1 c0
  have q2:=Rat.mul_le_mul_of_nonneg_left h2 c0
  constructor <;> grind
theorem InL.neg {a b c:Rat} {X:(Nat→Rat)→Rat} (h:InL a b X) (c0:c≤0):InL (c*b) (c*a) (fun l=>c*X l):=by
  obtain ⟨C,h⟩:=h
  refine ⟨-c*C,fun l ε ad=>?_⟩
  obtain ⟨h1,h2⟩:=h l ε ad
  have q1:=Rat.mul_le_mul_of_nonneg_left h1 (show 0≤-c by grind)
  have q2:=Rat.mul_le_mul_of_nonneg_left h2 (show 0≤-c by grind)
  constructor <;> grind
theorem InL.congr {a b:Rat} {X Y:(Nat→Rat)→Rat} (h:InL a b X) (e:∀ l,X l=Y l):InL a b Y:=by
  obtain ⟨C,h⟩:=h
  exact ⟨C,fun l ε ad=>by rw [← e l];exact h l ε ad⟩
theorem InL.cross {a b c d:Rat} {X:(Nat→Rat)→Rat} (h:InL a b X) (h':InL c d X):a≤d:=by
  obtain ⟨C,h⟩:=h
  obtain ⟨D,h'⟩:=h'
  refine qfU fun δ d0=>?_
  obtain ⟨n,hn⟩:=qfi (C+D)
  obtain ⟨t,t0,nt⟩:=qg0 (Nat.succ_pos n)
  obtain ⟨l,ad⟩:=Adm.ex (Rat.mul_pos d0 t0)
  have h1:=(h l _ ad).1
  have h2:=(h' l _ ad).2
  have en:((n.succ:Nat):Rat)=(n:Rat)+1:=by rw [Nat.succ_eq_add_one];push_cast;rfl
  rw [en] at nt
  have q:0≤(((n:Rat)+1) - (C+D))*(δ*t):=Rat.mul_nonneg (by grind) (Rat.mul_nonneg (by grind) (by grind))
  have e:(((n:Rat)+1) - (C+D))*(δ*t)=(((n:Rat)+1)*t)*δ - (C+D)*(δ*t):=by grind
  rw [e,nt] at q
  grind
theorem InL.piece {M g:Int} {w lo hi:Int} (h:Lg M g (w:Rat) lo hi) (s:Sm w):InL ((lo:Rat) / (M:Rat)) ((hi:Rat) / (M:Rat)) (fun l=>LW l w):=by
  refine ⟨1680,fun l ε ad=>?_⟩
  have h1:=h.le.ge (qoo ad.up s)
  have h2:=(qon ad.lo s).ge h.ge
  have e0:=ad.e0
  have e:LW (fun j=>l j+ε) w=LW l w+Sg (fun j=>((vpI (pj j) w:Nat):Rat)*ε) 8:=by
    unfold LW
    rw [← qhe]
    exact qbB 8 fun j _=>by grind
  have b:Sg (fun j=>((vpI (pj j) w:Nat):Rat)*ε) 8≤Sg (fun _=>210*ε) 8:=qnF 8 fun j hj=>by
    have v:=s.vp (qck hj)
    have v:((vpI (pj j) w:Nat):Rat)≤((210:Nat):Rat):=by exact_mod_cast v
    exact Rat.mul_le_mul_of_nonneg_right v (by grind)
  rw [qdV] at b
  have e8:((8:Nat):Rat)=8:=rfl
  rw [e8] at b
  constructor <;> grind
theorem InL.prime {M g:Int} {lo hi:Int} {j:Nat} (hj:j<8) (h:Lg M g (((pj j:Nat):Int):Rat) lo hi):InL ((lo:Rat) / (M:Rat)) ((hi:Rat) / (M:Rat)) (fun l=>l j):=by
  refine ⟨1,fun l ε ad=>?_⟩
  have h1:=h.le.ge (ad.up j hj)
  have h2:=(ad.lo j hj).ge h.ge
  have e0:=ad.e0
  constructor <;> grind
theorem qnG (l:Nat→Rat):∀ ys:List Pce,XP l ys=Sg (fun j=>WP (pj j) ys*l j) 8
  | []=>by
    have:Sg (fun j=>WP (pj j) []*l j) 8=Sg (fun _=>0) 8:=qbB 8 fun j _=>by show (0:Rat)*l j=0;grind
    show (0:Rat)=_
    rw [this,qdV];grind
  | y::ys=>by
    show val y.1*LW l y.2+XP l ys=_
    unfold LW
    rw [qnG l ys,← qk7,← qhe]
    exact qbB 8 fun j _=>by show _=(val y.1*((vpI (pj j) y.2:Nat):Rat)+WP (pj j) ys)*l j;grind
theorem qla (l:Nat→Rat):∀ xs ys:List Pce,XP l (xs++ys)=XP l xs+XP l ys
  | [],ys=>by show XP l ys=0+XP l ys;grind
  | x::xs,ys=>by show _+XP l (xs++ys)=(_+XP l xs)+XP l ys;rw [qla l xs ys];grind
theorem OvD.mono {D:Int} {s t:Nat} {q:Nu} (h:OvD D s q) (l:s≤t):OvD D t q:=by
  obtain ⟨lo,k,e,b⟩:=h
  exact ⟨lo,k,e,b.mono l⟩
theorem OvD.bd {D:Int} {t:Nat} {q:Nu} (h:OvD D t q) (D0:0<D):Bd t q.1∧q.2≤D∧0<q.2:=by
  obtain ⟨lo,k,e,b⟩:=h
  have p:=lo.pos
  have e:q.1*D=k*q.2:=by
    unfold val at e
    have d1:(q.2:Rat)≠0:=qa6 (by omega)
    have d2:(D:Rat)≠0:=qa6 (by omega)
    have h1:(q.1:Rat) / (q.2:Rat)*(q.2:Rat)=q.1:=Rat.div_mul_cancel d1
    have h2:(k:Rat) / (D:Rat)*(D:Rat)=k:=Rat.div_mul_cancel d2
    have:(q.1:Rat)*(D:Rat)=k*q.2:=by rw [← h1,e,← h2,Rat.div_mul_cancel d2];grind
    exact_mod_cast this
  have dD:q.2∣D:=qgr (c:=q.1) ⟨k,by rw [Int.mul_comm D,e,Int.mul_comm]⟩ (by rw [Int.gcd_comm];exact lo.one)
  obtain ⟨m,hm⟩:=dD
  have m0:0<m:=by
    rcases Int.lt_trichotomy m 0 with y | y | y
    · have:q.2*m≤q.2*(-1):=Int.mul_le_mul_of_nonneg_left (by omega) (by omega)
      omega
    · rw [y] at hm;omega
    · exact y
  have e2:q.1*m=k:=by
    have:(q.1*m)*q.2=k*q.2:=by rw [← e,hm];grind
    exact Int.eq_of_mul_eq_mul_right (by omega) this
  refine ⟨b.le ?_,Int.le_of_dvd D0 ⟨m,hm⟩,p⟩
  rw [← e2,Int.natAbs_mul]
  exact Nat.le_mul_of_pos_right _ (by omega)
theorem OvD.add {D:Int} {t:Nat} {q r:Nu} (D0:0<D) (h:OvD D t q) (h':OvD D t r):OvD D (t+1) (nadd q r)∧val (nadd q r)=val q+val r:=by
  obtain ⟨lo,k,e,b⟩:=h
  obtain ⟨lo',k',e',b'⟩:=h'
  have v:=qbO lo.pos lo'.pos
  exact ⟨⟨qdP lo.pos lo'.pos,k+k',by rw [v,e,e',Rat.div_def,Rat.div_def,Rat.div_def];push_cast;grind,b.add b'⟩,v⟩
theorem Cz.ov {t n:Nat} {D:Int} {q:Nu} (h:Cz t q) (D0:0<D) (bD:Bd n D):OvD (60*D) (t+n) q:=by
  obtain ⟨lo,k,e,b⟩:=h
  refine ⟨lo,k*D,?_,b.mul bD⟩
  have Dr:(D:Rat)≠0:=qa6 (by omega)
  have di:(D:Rat)*(D:Rat)⁻¹=1:=Rat.mul_inv_cancel _ Dr
  rw [e,Rat.div_def,Rat.div_def]
  push_cast
  rw [Rat.inv_mul_rev]
  generalize (D:Rat)⁻¹=i at *
  generalize (60:Rat)⁻¹=c
  grind
theorem Cz.tm {t n:Nat} {M e:Int} {q r:Nu} (h:Cz t q) (r0:0<r.2) (M0:0<M) (hr:val r=(e:Rat) / (M:Rat)) (be:Bd n e):OvD (60*M) (t+n) (nmul q r)∧val (nmul q r)=val q*((e:Rat) / (M:Rat)):=by
  obtain ⟨lo,k,ek,b⟩:=h
  have v:=qdR lo.pos r0
  refine ⟨⟨qdQ lo.pos r0,k*e,?_,b.mul be⟩,by rw [v,hr]⟩
  rw [v,hr,ek,Rat.div_def,Rat.div_def,Rat.div_def]
  push_cast
  rw [Rat.inv_mul_rev];grind
theorem OvD.sl {D:Int} {t:Nat} {q:Nu} (h:OvD D t q) (D0:0<D) (ht:t≤2000) (bD:Bd 2000 D):Sl q:=by
  obtain ⟨h1,h2,h3⟩:=h.bd D0
  exact ⟨h.1,h1.mono ht,bD.le (by omega)⟩
theorem qjp {a b c d:Int} (b0:0<b) (d0:0<d):val (a,b)<val (c,d)↔a*d<c*b:=by
  have br:(0:Rat)<(b:Rat):=by exact_mod_cast b0
  have dr:(0:Rat)<(d:Rat):=by exact_mod_cast d0
  have h1:(a:Rat) / (b:Rat)*(b:Rat)=a:=Rat.div_mul_cancel (by grind)
  have h2:(c:Rat) / (d:Rat)*(d:Rat)=c:=Rat.div_mul_cancel (by grind)
  show (a:Rat) / (b:Rat)<(c:Rat) / (d:Rat)↔_
  have e:a*d<c*b↔(a:Rat)*(d:Rat)<(c:Rat)*(b:Rat):=by
    rw [← Rat.intCast_mul,← Rat.intCast_mul,Rat.intCast_lt_intCast]
  rw [e]
  generalize (a:Rat) / (b:Rat)=x at *
  generalize (c:Rat) / (d:Rat)=y at *
  rw [← h1,← h2]
  have bd:=Rat.mul_pos br dr
  constructor
  · intro h
    have:=Rat.mul_pos (show 0<y - x by grind) bd
    grind
  · intro h
    refine Rat.not_le.mp fun z=>?_
    have:=Rat.mul_le_mul_of_nonneg_right z (show 0≤(b:Rat)*(d:Rat) by grind)
    grind
theorem qjq (h:qb6 K vs H Q E):qks K { nx:=fun _ H'=>Q .non H',rt:=Q } (L2.start ["one", "other"] vs) H:=by
  obtain ⟨p,q,a,b,c,d,rfl,hp,hq,ba,bb,bc,bd,k⟩:=h
  exact qcD ⟨_,rfl,_,_,_,_,rfl,rfl,hp,rfl,_,rfl,_,_,_,_,rfl,rfl,hq,rfl,_,_,rfl,rfl,qbT ba bd,_,rfl,_,_,_,_,rfl,rfl,hq,rfl,_,rfl,_,_,_,_,rfl,rfl,hp,rfl,_,_,rfl,rfl,qbT bc bb,_,_,rfl,rfl,k⟩
theorem qev (h:qaG K vs H Q E):qfo K { nx:=fun _ H'=>Q .non H',rt:=Q } (L2.start ["_law_one", "_law_other"] vs) H:=by
  obtain ⟨p,q,a,b,c,d,rfl,hp,hq,ba,bb,bc,bd,k⟩:=h
  exact qcD ⟨_,rfl,_,_,_,_,rfl,rfl,hp,rfl,_,rfl,_,_,_,_,rfl,rfl,hq,rfl,_,_,rfl,rfl,qbT ba bd,_,rfl,_,_,_,_,rfl,rfl,hq,rfl,_,rfl,_,_,_,_,rfl,rfl,hp,rfl,_,_,rfl,rfl,qbT bc bb,_,_,rfl,rfl,k⟩
theorem qnH {n:Nat} {i:Int} (h:Bd n i) (n0:0<n):blN i≤n:=by
  unfold blN
  split
  · omega
  · have:=h.log2 n0
    omega
theorem qhf {b n:Nat} (h:b<n):Bd n ((2:Int) ^ b):=by
  show ((2:Int) ^ b).natAbs<2 ^ n
  rw [Int.natAbs_pow]
  exact Nat.pow_lt_pow_right (by decide) h
theorem qhg {a b M:Int} {z:Rat} (hz:z*(b:Rat)=(a:Rat)) (b0:0<b):(((a*M / b:Int):Rat)≤z*(M:Rat))∧z*(M:Rat)≤((a*M / b:Int):Rat)+1:=by
  obtain ⟨f1,f2⟩:=qfk (a:=a*M) b0
  have br:(0:Rat)<(b:Rat):=by exact_mod_cast b0
  have e:((a*M:Int):Rat)=z*(b:Rat)*(M:Rat):=by rw [hz];push_cast;rfl
  rw [e] at f1 f2
  generalize ((a*M / b:Int):Rat)=p at *
  constructor
  · refine Rat.not_lt.mp fun c=>?_
    have:=Rat.mul_pos br (show 0<p - z*(M:Rat) by grind)
    grind
  · refine Rat.not_lt.mp fun c=>?_
    have:=Rat.mul_pos br (show 0<z*(M:Rat) - (p+1) by grind)
    grind
theorem Ser.small {z:Rat} {M:Int} {k:Nat} {p tot:Int} (h:Ser z (M:Rat) k p tot) (M0:0<M) (z0:0≤z) (z3:3*z≤1):p≤M:=by
  have Mr:(0:Rat)<(M:Rat):=by exact_mod_cast M0
  have h1:=Rat.mul_le_mul_of_nonneg_right (qnq z0 z3 k) (show (0:Rat)≤(M:Rat) by grind)
  have h2:=h.pu
  have:(p:Rat)≤(M:Rat):=by grind
  exact_mod_cast this
theorem qew (h:qaS K vs H Q E):qfn K { nx:=fun _ H'=>Q .non H',rt:=Q } (L2.start ["top", "bottom", "bits", "power", "square", "total", "n"] vs) H:=by
  obtain ⟨top,bot,b,rfl,t0,h3,b0,bt,b256,k⟩:=h
  obtain ⟨z,hz,z0,z3,hx⟩:=zq t0 h3 b0
  have M0:(0:Int)<(2:Int) ^ b:=Int.pow_pos (by decide)
  have cN:(((2:Int) ^ b:Int):Rat)=((2 ^ b:Nat):Rat):=by push_cast;rfl
  have mB:Bd 257 ((2:Int) ^ b):=qhf (by omega)
  refine qaJ ⟨_,rfl,_,rfl,_,_,rfl,rfl,⟨Int.natCast_nonneg b,by have:=qnH bt (by decide);omega⟩,_,rfl,_,_,rfl,rfl,b0,?_⟩
  show qcb K _ [some (.int top),some (.int bot),some (.int b),some (.int (top*(2:Int) ^ b / bot)),none,none,none] _
  obtain ⟨pu,pl⟩:=qhg (M:=(2:Int) ^ b) hz b0
  have p0:0≤top*(2:Int) ^ b / bot:=Int.ediv_nonneg (Int.mul_nonneg t0 (by omega)) (by omega)
  generalize top*(2:Int) ^ b / bot=p at pu pl p0 ⊢
  have Mr:(0:Rat)<(((2:Int) ^ b:Int):Rat):=by exact_mod_cast M0
  have S0:=qg3 (M:=(((2:Int) ^ b:Int):Rat)) Mr z0 z3 p0 pu pl
  have bp:Bd 257 p:=mB.le (by have:=S0.small M0 z0 z3;omega)
  obtain ⟨su,sl⟩:=qiX M0 z0 z3 p0 pu pl
  refine qaJ ⟨_,rfl,_,rfl,_,_,rfl,rfl,qlX bp bp,_,rfl,_,_,rfl,rfl,Int.natCast_nonneg b,?_⟩
  show qca K _ [some (.int top),some (.int bot),some (.int b),some (.int p),some (.int ((p*p).fdiv ((2:Int) ^ b))),none,none] _
  rw [Int.fdiv_eq_ediv_of_nonneg _ (show 0≤(2:Int) ^ b by omega)]
  have s0:0≤p*p / (2:Int) ^ b:=Int.ediv_nonneg (Int.mul_nonneg p0 p0) (by omega)
  generalize p*p / (2:Int) ^ b=s at su sl s0 ⊢
  have bs:Bd 257 s:=by
    refine mB.le ?_
    have zz:=qkp z0 z3
    have:=Rat.mul_le_mul_of_nonneg_right zz (show (0:Rat)≤(((2:Int) ^ b:Int):Rat) by grind)
    have:(s:Rat)≤(((2:Int) ^ b:Int):Rat):=by grind
    have:s≤(2:Int) ^ b:=by exact_mod_cast this
    omega
  refine qaJ ?_
  show qb9 K _ _ _
  refine qaJ ?_
  show qb8 K _ [some (.int top),some (.int bot),some (.int b),some (.int p),some (.int s),some (.int 0),some (.int 1)] _
  refine while_by (fun m σ H'=>∃ (n:Nat) (p tot:Int),σ=[some (.int top),some (.int bot),some (.int b),some (.int p),some (.int s),some (.int tot),some (.int ((2*n+1:Nat):Int))]∧H'=H∧Ser z (((2:Int) ^ b:Int):Rat) n p tot∧0≤tot∧n≤b∧m=b - n) _ ⟨0,p,0,rfl,rfl,S0,by decide,Nat.zero_le _,rfl⟩ ?_
  rintro m σ H' ⟨n,p,tot,rfl,rfl,S,tt0,nb,rfl⟩
  have p0:=S.p0
  refine ⟨_,rfl,_,_,rfl,rfl,_,rfl,qcn (fun c=>?_) (fun c=>?_)⟩
  · have c:0<p:=of_decide_eq_true c
    have few:=Ser.few (b:=b) (cN ▸ S) z0 z3 c
    have bp:Bd 257 p:=mB.le (by have:=S.small M0 z0 z3;omega)
    have n0:(0:Int)<((2*n+1:Nat):Int):=by omega
    refine ⟨_,fun _ _ h=>h,?_⟩
    show qbx K _ _ _
    refine ⟨_,rfl,_,rfl,_,rfl,_,_,rfl,rfl,n0,_,_,rfl,rfl,?_⟩
    show qbw K _ [some (.int top),some (.int bot),some (.int b),some (.int p),some (.int s),some (.int (tot+p / ((2*n+1:Nat):Int))),some (.int ((2*n+1:Nat):Int))] _
    refine qaJ ⟨_,rfl,_,rfl,_,_,rfl,rfl,qlX bp bs,_,rfl,_,_,rfl,rfl,Int.natCast_nonneg b,?_⟩
    show qbv K _ [some (.int top),some (.int bot),some (.int b),some (.int ((p*s).fdiv ((2:Int) ^ b))),some (.int s),some (.int (tot+p / ((2*n+1:Nat):Int))),some (.int ((2*n+1:Nat):Int))] _
    rw [Int.fdiv_eq_ediv_of_nonneg _ (show 0≤(2:Int) ^ b by omega)]
    have q0:0≤p / ((2*n+1:Nat):Int):=Int.ediv_nonneg p0 (by omega)
    refine ⟨_,rfl,_,_,rfl,rfl,b - (n+1),by omega,n+1,_,_,?_,rfl,qkq M0 z0 z3 S s0 su sl,by omega,few,rfl⟩
    show [some (V.int top),some (V.int bot),some (V.int b),some (V.int (p*s / (2:Int) ^ b)),some (V.int s),some (V.int (tot+p / ((2*n+1:Nat):Int))),some (V.int (((2*n+1:Nat):Int)+2))]=_
    have e:((2*n+1:Nat):Int)+2=((2*(n+1)+1:Nat):Int):=by omega
    rw [e]
  · have c:¬ 0<p:=fun y=>c (decide_eq_true y)
    have pz:p=0:=by omega
    subst pz
    show qb7 K _ _ _
    refine qcD (qaz ⟨_,rfl,_,_,rfl,rfl,qgp (by decide) (by decide),_,rfl,_,rfl,_,_,rfl,rfl,_,_,rfl,rfl,_,_,rfl,rfl,qgp (by decide) (by decide),qb4,fun r hr=>?_⟩)
    exact k r _ _ hr fun x hx'=>S.lg M0 z0 z3 tt0 (hx x hx') (by omega) (by omega)
theorem qnI {w:Int} (w0:0<w):∃ e:Nat,(blN w:Int) - 1=(e:Int)∧(2:Int) ^ e≤w∧w<2*(2:Int) ^ e:=by
  obtain ⟨n,rfl⟩:∃ n:Nat,w=(n:Int):=⟨w.natAbs,by omega⟩
  have n0:n≠0:=by omega
  refine ⟨n.log2,?_,?_,?_⟩
  · unfold blN
    rw [if_neg (by omega),Int.natAbs_natCast];omega
  · have:=Nat.log2_self_le n0
    have:((2 ^ n.log2:Nat):Int)≤(n:Int):=by exact_mod_cast this
    push_cast at this;exact this
  · have:=Nat.lt_log2_self (n:=n)
    have:((n:Nat):Int)<((2 ^ (n.log2+1):Nat):Int):=by exact_mod_cast this
    rw [Nat.pow_succ] at this
    push_cast at this
    omega
theorem qgv (h:qbR K vs H Q E):qhP K { nx:=fun _ H'=>Q .non H',rt:=Q } (L2.start ["whole", "bits", "exponent", "scale", "rest", "two"] vs) H:=by
  obtain ⟨w,b,rfl,w0,bw,b256,k⟩:=h
  obtain ⟨e,eb,l1,l2⟩:=qnI w0
  have e210:e<210:=by
    have:=qnH bw (by decide)
    omega
  refine qaJ ⟨_,rfl,rfl,w,rfl,rfl,_,_,rfl,rfl,?_⟩
  show qdx K _ [some (.int w),some (.int b),some (.int ((blN w:Int) - 1)),none,none,none] _
  rw [eb]
  refine qaJ ⟨_,rfl,_,_,rfl,rfl,⟨Int.natCast_nonneg e,?_⟩,?_⟩
  · have:blN 1=1:=by decide +kernel
    rw [this];omega
  show qdw K _ [some (.int w),some (.int b),some (.int (e:Int)),some (.int (1*(2:Int) ^ e)),none,none] _
  rw [Int.one_mul]
  have s0:(0:Int)<(2:Int) ^ e:=Int.pow_pos (by decide)
  have sr:(2:Rat) ^ e=(((2:Int) ^ e:Int):Rat):=by push_cast;rfl
  generalize (2:Int) ^ e=s at l1 l2 s0 sr ⊢
  refine qiR ⟨_,rfl,_,rfl,_,_,rfl,rfl,_,rfl,_,rfl,_,_,rfl,rfl,_,rfl,w - s,w+s,b,rfl,by omega,by omega,by omega,(bw.le (y:=w - s) (by omega)).mono (by decide),b256,fun r1 lo1 hi1 hr1 L1=>?_⟩
  have sa:=qaf hr1 (HO.tup [V.int lo1,V.int hi1])
  have h11:upd H r1 (HO.tup [V.int lo1,V.int hi1]) r1=_:=qad
  show qdv K _ [some (.int w),some (.int b),some (.int (e:Int)),some (.int s),some (.ref r1),none] _
  generalize upd H r1 (HO.tup [V.int lo1,V.int hi1])=H1 at sa h11 ⊢
  refine qiR ⟨_,rfl,1,3,b,rfl,by decide,by decide,by decide,(show Bd 1 1 by unfold Bd;decide).mono (by decide),b256,fun r2 lo2 hi2 hr2 L2=>?_⟩
  have sb:=qaf hr2 (HO.tup [V.int lo2,V.int hi2])
  have h22:upd H1 r2 (HO.tup [V.int lo2,V.int hi2]) r2=_:=qad
  have h12:=sb _ _ h11
  show qdu K _ [some (.int w),some (.int b),some (.int (e:Int)),some (.int s),some (.ref r1),some (.ref r2)] _
  generalize upd H1 r2 (HO.tup [V.int lo2,V.int hi2])=H2 at sb h22 h12 ⊢
  have wr:(0:Rat)<(w:Rat):=by exact_mod_cast w0
  have sr0:(0:Rat)<(s:Rat):=by exact_mod_cast s0
  have si:(s:Rat)*(s:Rat)⁻¹=1:=Rat.mul_inv_cancel _ (by grind)
  have L1:=L1 ((w:Rat)*(s:Rat)⁻¹) (by
    push_cast
    generalize (s:Rat)⁻¹=i at *
    grind)
  have L2:=L2 2 (by push_cast;grind)
  have L:=L1.mul (L2.pow e)
  have ex:(w:Rat)*(s:Rat)⁻¹*(2:Rat) ^ e=(w:Rat):=by
    rw [sr]
    generalize (s:Rat)⁻¹=i at *
    grind
  rw [ex] at L
  have L:=L.mono (g':=211*(4*b+4)) (by
    have:(e:Int)*(4*b+4)≤209*(4*b+4):=Int.mul_le_mul_of_nonneg_right (by omega) (by omega)
    omega)
  refine qcD (qaz ⟨_,rfl,_,_,_,_,rfl,rfl,h12,rfl,_,rfl,_,rfl,_,_,_,_,rfl,rfl,h22,rfl,_,_,rfl,rfl,qgp (by omega) (by omega),_,_,rfl,rfl,_,rfl,_,_,_,_,rfl,rfl,h12,rfl,_,rfl,_,rfl,_,_,_,_,rfl,rfl,h22,rfl,_,_,rfl,rfl,qgp (by omega) (by omega),_,_,rfl,rfl,qb4,fun r hr=>?_⟩)
  exact k r _ _ _ ((sa.trans sb).trans (qaf hr _)) qad L
noncomputable def Nr (H:Hp) (u:V) (q:Nu):Prop:=∃ p,u=.ref p∧Nm H p q.1 q.2
theorem Nr.tp {H H':Hp} {u:V} {q:Nu} (t:Tp H H') (h:Nr H u q):Nr H' u q:=by
  obtain ⟨p,rfl,h⟩:=h
  exact ⟨p,rfl,t _ _ h⟩
theorem qlb {α:Type} {R:V→α→Prop} {us:List V} {x y:α} (a:Al R us [x,y]):∃ u v,us=[u,v]∧R u x∧R v y:=by
  cases us with
  | nil=>exact a.elim
  | cons u us=>cases us with
    | nil=>exact a.2.elim
    | cons v us=>cases us with
      | nil=>exact ⟨u,v,rfl,a.1,a.2.1⟩
      | cons _ _=>exact a.2.2.elim
theorem Cz.abs {t:Nat} {q:Nu} (h:Cz t q):val q≤(((2:Int) ^ t:Int):Rat)∧-val q≤(((2:Int) ^ t:Int):Rat):=by
  obtain ⟨lo,k,e,b⟩:=h
  have b:k.natAbs<2 ^ t:=b
  have b:((k.natAbs:Nat):Int)<((2 ^ t:Nat):Int):=by exact_mod_cast b
  have b:((k.natAbs:Nat):Int)<(2:Int) ^ t:=by push_cast at b ⊢;exact b
  have h1:k≤(2:Int) ^ t:=by omega
  have h2:-k≤(2:Int) ^ t:=by omega
  have h1:(k:Rat)≤(((2:Int) ^ t:Int):Rat):=by exact_mod_cast h1
  have h2:-(k:Rat)≤(((2:Int) ^ t:Int):Rat):=by
    have:((-k:Int):Rat)≤(((2:Int) ^ t:Int):Rat):=by exact_mod_cast h2
    rw [Rat.intCast_neg] at this;exact this
  generalize (((2:Int) ^ t:Int):Rat)=T at *
  rw [e]
  constructor <;> grind
theorem qhh {q:Nu} (h:0<q.2):(q.1<0→val q≤0)∧(¬ q.1<0→0≤val q):=by
  have r:(0:Rat)<(q.2:Rat):=by exact_mod_cast h
  have i:0<(q.2:Rat)⁻¹:=Rat.inv_pos.mpr r
  unfold val
  rw [Rat.div_def]
  constructor
  · intro c
    have:(q.1:Rat)≤0:=by exact_mod_cast (show q.1≤0 by omega)
    have:=Rat.mul_le_mul_of_nonneg_right this (show 0≤(q.2:Rat)⁻¹ by grind)
    grind
  · intro c
    have:(0:Rat)≤(q.1:Rat):=by exact_mod_cast (show 0≤q.1 by omega)
    exact Rat.mul_nonneg this (by grind)
theorem seg {c lo hi M G C:Rat} (M0:0<M) (lh:lo≤hi) (hg:hi≤lo+G) (c0:0≤c) (cC:c≤C):c*(lo / M)≤c*(hi / M)∧(c*(hi / M) - c*(lo / M))*M≤C*G:=by
  have h1:lo / M*M=lo:=Rat.div_mul_cancel (by grind)
  have h2:hi / M*M=hi:=Rat.div_mul_cancel (by grind)
  generalize lo / M=a at *
  generalize hi / M=b at *
  have ab:a≤b:=by
    refine Rat.not_lt.mp fun z=>?_
    have:=Rat.mul_pos (show 0<a - b by grind) M0
    grind
  refine ⟨Rat.mul_le_mul_of_nonneg_left ab c0,?_⟩
  have e:(c*b - c*a)*M=c*(b*M - a*M):=by grind
  rw [e,h1,h2]
  exact qes cC (by grind) c0 (by grind)
theorem qoW {c lo hi M G C:Rat} (M0:0<M) (lh:lo≤hi) (hg:hi≤lo+G) (c0:c≤0) (cC:-c≤C):c*(hi / M)≤c*(lo / M)∧(c*(lo / M) - c*(hi / M))*M≤C*G:=by
  obtain ⟨h1,h2⟩:=seg (c:=-c) M0 lh hg (by grind) cC
  constructor
  · grind
  · have e:(c*(lo / M) - c*(hi / M))*M=(-c*(hi / M) - -c*(lo / M))*M:=by grind
    rw [e];exact h2
structure Eo (H0 H:Hp) (la ha:Addr) (lo hi q:Nu) (M:Int) (ys:List Pce) (i:Nat):Prop where
  s:Same H0 H
  hl:Nm H la lo.1 lo.2
  hh:Nm H ha hi.1 hi.2
  ol:OvD (60*M) (400+i) lo
  oh:OvD (60*M) (400+i) hi
  le:val lo≤val hi
  wd:(val hi - val lo)*(M:Rat)≤(i:Rat)*(((2:Int) ^ 91:Int):Rat)
  inl:InL (val lo) (val hi) (fun l=>val q+XP l ys)
theorem OvD.big {D:Int} {t:Nat} {q:Nu} (h:OvD D t q) (D0:0<D) (ht:t≤60000000) (bD:Bd 60000000 D):0<q.2∧Bd 60000000 q.1∧Bd 60000000 q.2:=by
  obtain ⟨h1,h2,h3⟩:=h.bd D0
  exact ⟨h3,h1.mono ht,bD.le (by omega)⟩
theorem Sm.b210 {w:Int} (h:Sm w):Bd 210 w:=by
  obtain ⟨w0,d⟩:=h
  have:=Int.le_of_dvd (by decide +kernel) d
  have m:MM<(2:Int) ^ 209:=by decide +kernel
  exact Bd.le (x:=(2:Int) ^ 209) (qhf (by decide)) (by omega)
theorem qjr {K:W.Frag} {D:Ends} {o la ha ea:Addr} {b:Nat} {o4 o5:Option V} {H0 H1 H5:Hp} {lo hi q A B:Nu} {M:Int} {ys:List Pce} {y:Pce} {i:Nat} {u v:V} (M0:0<M) (bM:Bd 257 M) (i8:i<8) (e:Eo H0 H1 la ha lo hi q M ys i) (s:Same H1 H5) (he:H5 ea=some (.lst [u,v])) (nu:Nr H5 u A) (nv:Nr H5 v B) (oA:OvD (60*M) 373 A) (oB:OvD (60*M) 373 B) (le:val A≤val B) (wd:(val B - val A)*(M:Rat)≤(((2:Int) ^ 91:Int):Rat)) (inl:InL (val A) (val B) (fun l=>val y.1*LW l y.2))
    (k:∀ la' ha' lo' hi' H',Eo H0 H' la' ha' lo' hi' q M (ys++[y]) (i+1)→D.nx [some (.ref o),some (.int b),some (.ref la'),some (.ref ha'),o4,o5,some (.ref ea)] H'):qcy K D [some (.ref o),some (.int b),some (.ref la),some (.ref ha),o4,o5,some (.ref ea)] H5:=by
  have D0:(0:Int)<60*M:=by omega
  have bD:Bd 60000000 (60*M):=((show Bd 6 60 by unfold Bd;decide).mul bM).mono (by decide)
  obtain ⟨ua,rfl,hu⟩:=nu
  obtain ⟨va,rfl,hv⟩:=nv
  obtain ⟨a0,a1,a2⟩:=oA.big D0 (by decide) bD
  obtain ⟨b0,b1,b2⟩:=oB.big D0 (by decide) bD
  obtain ⟨l0,l1,l2⟩:=e.ol.big D0 (by omega) bD
  obtain ⟨h0,h1,h2⟩:=e.oh.big D0 (by omega) bD
  obtain ⟨ol,vl⟩:=e.ol.add D0 (oA.mono (by omega))
  obtain ⟨oh,vh⟩:=e.oh.add D0 (oB.mono (by omega))
  refine qb3 ⟨_,rfl,_,rfl,_,_,_,_,rfl,rfl,he,rfl,la,ua,lo.1,lo.2,A.1,A.2,rfl,s _ _ e.hl,hu,l0,a0,l1,l2,a1,a2,fun r hr=>?_⟩
  have sr:=qaf hr (HO.tup [V.int (nadd (lo.1,lo.2) (A.1,A.2)).1,V.int (nadd (lo.1,lo.2) (A.1,A.2)).2])
  have hrr:upd H5 r (HO.tup [V.int (nadd (lo.1,lo.2) (A.1,A.2)).1,V.int (nadd (lo.1,lo.2) (A.1,A.2)).2]) r=_:=qad
  show qcx K _ [some (.ref o),some (.int b),some (.ref r),some (.ref ha),o4,o5,some (.ref ea)] _
  generalize upd H5 r (HO.tup [V.int (nadd (lo.1,lo.2) (A.1,A.2)).1,V.int (nadd (lo.1,lo.2) (A.1,A.2)).2])=H6 at sr hrr ⊢
  refine qfT (qaV ⟨_,rfl,_,rfl,_,_,_,_,rfl,rfl,sr _ _ he,rfl,ha,va,hi.1,hi.2,B.1,B.2,rfl,(s.trans sr) _ _ e.hh,sr _ _ hv,h0,b0,h1,h2,b1,b2,fun r2 hr2=>?_⟩)
  have sr2:=qaf hr2 (HO.tup [V.int (nadd (hi.1,hi.2) (B.1,B.2)).1,V.int (nadd (hi.1,hi.2) (B.1,B.2)).2])
  refine k r r2 (nadd lo A) (nadd hi B) _ ⟨(e.s.trans s).trans (sr.trans sr2),sr2 _ _ hrr,qad,ol,oh,by rw [vl,vh];have:=e.le;grind,?_,?_⟩
  · have w1:=e.wd
    rw [vl,vh]
    have:((i+1:Nat):Rat)=(i:Rat)+1:=by push_cast;rfl
    rw [this]
    generalize (((2:Int) ^ 91:Int):Rat)=T at *
    grind
  · rw [vl,vh]
    exact (e.inl.add inl).congr fun l=>by
      show val q+XP l ys+val y.1*LW l y.2=val q+XP l (ys++[y])
      rw [qla]
      show _=val q+(XP l ys+(val y.1*LW l y.2+0))
      grind
theorem qop {te:TE} {k:Nat} {D:Ends} {σ:L2.St} {H:Hp} (h:te σ H fun x H1=>∃ (a:Addr) (xs:List V),x=.ref a∧H1 a=some (.lst xs)∧∀ p,H1 p=none→D.nx (σ.set k (some (.ref p))) (upd H1 p (.lst xs.reverse))):qaH (qog te) (qal k) D σ H:=h
theorem qhV (h:qbF K vs H Q E):qi1 K { nx:=fun _ H'=>Q .non H',rt:=Q } (L2.start ["n", "bits", "low", "high", "c", "r", "ends"] vs) H:=by
  obtain ⟨o,qa,ta,us,q,ys,b,rfl,ho,hqa,hta,hA,cq,sd,b256,k⟩:=h
  have M0:(0:Int)<(2:Int) ^ b:=Int.pow_pos (by decide)
  have Mr:(0:Rat)<(((2:Int) ^ b:Int):Rat):=by exact_mod_cast M0
  have mB:Bd 257 ((2:Int) ^ b):=qhf (by omega)
  have D0:(0:Int)<60*(2:Int) ^ b:=by omega
  have bD:Bd 300 (60*(2:Int) ^ b):=((show Bd 6 60 by unfold Bd;decide).mul mB).mono (by decide)
  have lu:=hA.length
  rw [List.length_map] at lu
  refine qaJ ⟨_,rfl,_,_,_,_,rfl,rfl,ho,rfl,?_⟩
  show qeh K _ _ _
  refine qaJ ⟨_,rfl,_,_,_,_,rfl,rfl,ho,rfl,?_⟩
  show qeg K _ [some (.ref o),some (.int b),some (.ref qa),some (.ref qa),none,none,none] _
  have oq:OvD (60*(2:Int) ^ b) (400+0) q:=(cq.ov M0 mB).mono (by decide)
  have E0:Eo H H qa qa q q q ((2:Int) ^ b) [] 0:=⟨Same.refl H,hqa,hqa,oq,oq,Rat.le_refl,by
    have:((0:Nat):Rat)=0:=rfl
    rw [this];grind,(InL.const (val q)).congr fun l=>by show val q=val q+0;grind⟩
  refine ql6 ⟨_,rfl,_,_,_,_,rfl,rfl,ho,rfl,ta,rfl,⟨_,SqT.of hta⟩,ForT.by (xs:=us) (fun i σ H'=>∃ (la ha:Addr) (lo hi:Nu) (o4 o5 o6:Option V),σ=[some (.ref o),some (.int b),some (.ref la),some (.ref ha),o4,o5,o6]∧i≤us.length∧Eo H H' la ha lo hi q ((2:Int) ^ b) (ys.take i) i) ⟨qa,qa,q,q,none,none,none,rfl,Nat.zero_le _,by rw [List.take_zero];exact E0⟩ ?_ ?_ ?_⟩
  · rintro i σ H' _ ⟨la,ha,lo,hi,o4,o5,o6,rfl,_,e⟩
    exact e.s _ _ hta
  · rintro i u σ H1 hu ⟨la,ha,lo,hi,o4,o5,o6,rfl,_,e⟩
    obtain ⟨x,hx,a',ca,da,rfl,h1,h2,h3⟩:=hA.get hu
    have il:=(List.getElem?_eq_some_iff.mp hu).1
    rw [List.getElem?_map] at hx
    obtain ⟨y,hy,rfl⟩:∃ y,ys[i]?=some y∧x=(y.1,(y.2,1)):=by
      cases e:ys[i]? with
      | none=>rw [e] at hx;cases hx
      | some y=>rw [e] at hx;exact ⟨y,rfl,(Option.some.inj hx).symm⟩
    have ym:y∈ys:=by obtain ⟨z,e⟩:=List.getElem?_eq_some_iff.mp hy;exact e ▸ List.getElem_mem z
    obtain ⟨cy,_,y1,sy⟩:=sd.sz y ym
    have tk:ys.take (i+1)=ys.take i++[y]:=by rw [List.take_add_one,hy];rfl
    have i8:i<8:=by have:=sd.l8;omega
    have s01:=e.s
    refine ⟨a',_,rfl,s01 _ _ h1,rfl,_,_,rfl,_,_,rfl,rfl,?_⟩
    show qcA K _ [some (.ref o),some (.int b),some (.ref la),some (.ref ha),some (.ref ca),some (.ref da),o6] _
    have h2:Nm H ca y.1.1 y.1.2:=h2
    have h3:Nm H da y.2 1:=h3
    refine qaJ (qiS (qaV ⟨_,rfl,_,_,_,_,rfl,rfl,s01 _ _ h3,rfl,_,rfl,y.2,b,rfl,by omega,sy.b210,b256,fun r el eh H2 s2 hr2 L=>?_⟩))
    have l0:=L.l0
    have lh:=L.lh
    have wd:=L.wd
    have ls:=L.size M0 (by omega) sy.b210
    have b210:Bd 265 (210*(2:Int) ^ b):=(show Bd 8 210 by unfold Bd;decide).mul mB
    have bl:Bd 300 el:=(b210.le (y:=el) (by omega)).mono (by decide)
    have bh:Bd 300 eh:=((b210.add ((show Bd 18 216908 by unfold Bd;decide).mono (by decide))).le (y:=eh) (by omega)).mono (by decide)
    have s02:=s01.trans s2
    have e2:∀ z:Int,z∈[el,eh]→Bd 300 z:=fun z hz=>by
      rcases List.mem_cons.mp hz with rfl | hz
      · exact bl
      · rw [List.mem_singleton.mp hz];exact bh
    have tm:∀ z:Int,Bd 300 z→OvD (60*(2:Int) ^ b) 373 (nmul y.1 (qdt z ((2:Int) ^ b)))∧val (nmul y.1 (qdt z ((2:Int) ^ b)))=val y.1*((z:Rat) / (((2:Int) ^ b:Int):Rat)):=fun z bz=>
      cy.tm (by rw [qbA M0];exact (qbN M0).pos) M0 (qbp (by omega)) bz
    refine ⟨r,rfl,⟨_,SqT.of hr2⟩,CompJ.tup (xs:=[V.int el,V.int eh]) (fun n zs H'=>n≤2∧Same H2 H'∧zs.length=n∧Al (Nr H') zs (([el,eh].take n).map fun z=>nmul y.1 (qdt z ((2:Int) ^ b)))) ⟨Nat.zero_le _,Same.refl _,rfl,trivial⟩ ?_ ?_ ?_⟩
    · rintro n zs H' ⟨hn,s3,zl,_⟩
      exact ⟨hn,sz (by omega),s3 _ _ hr2⟩
    · rintro n v zs H3 hv ⟨_,s3,zl,al⟩
      have nl:n<2:=(List.getElem?_eq_some_iff.mp hv).1
      obtain ⟨z,hz,rfl⟩:∃ z,[el,eh][n]?=some z∧v=V.int z:=by
        have:([el,eh].map V.int)[n]?=some v:=hv
        rw [List.getElem?_map] at this
        cases e:[el,eh][n]? with
        | none=>rw [e] at this;cases this
        | some z=>rw [e] at this;exact ⟨z,rfl,(Option.some.inj this).symm⟩
      have bz:=e2 z (by obtain ⟨w,e⟩:=List.getElem?_eq_some_iff.mp hz;exact e ▸ List.getElem_mem w)
      have tk2:[el,eh].take (n+1)=[el,eh].take n++[z]:=by rw [List.take_add_one,hz];rfl
      have ov:OvD ((2:Int) ^ b) 300 (qdt z ((2:Int) ^ b)):=⟨by rw [qbA M0];exact qbN M0,z,qbp (by omega),bz⟩
      obtain ⟨g0,g1,g2⟩:=ov.big M0 (by decide) (mB.mono (by decide))
      obtain ⟨c1,c2⟩:=cy.bd
      refine qlT ?_
      refine qaV ⟨_,rfl,qaV ⟨_,rfl,_,rfl,_,_,rfl,rfl,⟨Int.natCast_nonneg b,?_⟩,z,1*(2:Int) ^ b,rfl,by omega,fun p hp=>?_⟩⟩
      · have:blN 1=1:=by decide +kernel
        rw [this];omega
      rw [Int.one_mul] at *
      generalize hrz:qdt z ((2:Int) ^ b)=rz at *
      have sp:=qaf hp (HO.tup [V.int rz.1,V.int rz.2])
      have hpp:upd H3 p (HO.tup [V.int rz.1,V.int rz.2]) p=_:=qad
      show qbE nmul K _ _ _ _
      generalize upd H3 p (HO.tup [V.int rz.1,V.int rz.2])=H4 at sp hpp ⊢
      refine ⟨ca,p,y.1.1,y.1.2,rz.1,rz.2,rfl,(s02.trans (s3.trans sp)) _ _ h2,hpp,cy.1.pos,g0,c1.mono (by decide),c2.mono (by decide),g1,g2,fun r5 hr5=>?_⟩
      have s5:=qaf hr5 (HO.tup [V.int (nmul (y.1.1,y.1.2) (rz.1,rz.2)).1,V.int (nmul (y.1.1,y.1.2) (rz.1,rz.2)).2])
      refine ⟨nl,s3.trans (sp.trans s5),by rw [List.length_append,zl];rfl,?_⟩
      rw [tk2,List.map_append]
      refine (al.mono fun _ _ h=>h.tp (tpS (sp.trans s5))).snoc ⟨r5,rfl,?_⟩
      show Nm _ r5 (nmul y.1 (qdt z ((2:Int) ^ b))).1 (nmul y.1 (qdt z ((2:Int) ^ b))).2
      rw [hrz];exact qad
    · rintro zs H3 ⟨_,s3,zl,al⟩ p hp
      have al:Al (Nr H3) zs [nmul y.1 (qdt el ((2:Int) ^ b)),nmul y.1 (qdt eh ((2:Int) ^ b))]:=al
      obtain ⟨u,v,rfl,nu,nv⟩:=qlb al
      obtain ⟨oA,vA⟩:=tm el bl
      obtain ⟨oB,vB⟩:=tm eh bh
      generalize nmul y.1 (qdt el ((2:Int) ^ b))=A at *
      generalize nmul y.1 (qdt eh ((2:Int) ^ b))=B at *
      have sp:=qaf hp (HO.lst [u,v])
      have hpp:upd H3 p (HO.lst [u,v]) p=_:=qad
      have nu:=nu.tp (tpS sp)
      have nv:=nv.tp (tpS sp)
      have s13:=s2.trans (s3.trans sp)
      show qcz K _ [some (.ref o),some (.int b),some (.ref la),some (.ref ha),some (.ref ca),some (.ref da),some (.ref p)] _
      generalize upd H3 p (HO.lst [u,v])=H4 at sp hpp nu nv s13 ⊢
      obtain ⟨ab1,ab2⟩:=cy.abs
      have lhr:(el:Rat)≤(eh:Rat):=by exact_mod_cast lh
      have wdr:(eh:Rat)≤(el:Rat)+((211*1028:Int):Rat):=by
        have:eh≤el+211*1028:=by omega
        exact_mod_cast this
      have num:(((2:Int) ^ 73:Int):Rat)*((211*1028:Int):Rat)≤(((2:Int) ^ 91:Int):Rat):=by decide +kernel
      have inl:=InL.piece L sy
      refine qlU ⟨_,rfl,_,_,_,_,rfl,rfl,(s01.trans s13) _ _ h2,rfl,_,_,rfl,rfl,_,rfl,qcn (fun c=>?_) (fun c=>?_)⟩
      · have c:y.1.1<0:=of_decide_eq_true c
        have c0:=(qhh cy.1.pos).1 c
        obtain ⟨g1,g2⟩:=qoW Mr lhr wdr c0 ab2
        refine qop ⟨_,rfl,p,_,rfl,hpp,fun p2 hp2=>?_⟩
        have sq:=qaf hp2 (HO.lst [v,u])
        refine qjr (y:=y) M0 mB i8 e (s13.trans sq) qad (nv.tp (tpS sq)) (nu.tp (tpS sq)) oB oA (by rw [vA,vB];exact g1) (by rw [vA,vB];exact Rat.le_trans g2 num) (by rw [vA,vB];exact inl.neg c0) fun la' ha' lo' hi' H' e'=>?_
        exact ⟨la',ha',lo',hi',_,_,_,rfl,il,by rw [tk];exact e'⟩
      · have c:¬ y.1.1<0:=fun z=>c (decide_eq_true z)
        have c0:=(qhh cy.1.pos).2 c
        obtain ⟨g1,g2⟩:=seg Mr lhr wdr c0 ab1
        refine qjr (y:=y) M0 mB i8 e s13 hpp nu nv oA oB (by rw [vA,vB];exact g1) (by rw [vA,vB];exact Rat.le_trans g2 num) (by rw [vA,vB];exact inl.pos c0) fun la' ha' lo' hi' H' e'=>?_
        exact ⟨la',ha',lo',hi',_,_,_,rfl,il,by rw [tk];exact e'⟩
  · rintro σ H' ⟨la,ha,lo,hi,o4,o5,o6,rfl,_,e⟩
    rw [lu,List.take_length] at e
    show qef K _ _ _
    refine qcD (qaz ⟨_,rfl,_,rfl,qb4,fun r hr=>?_⟩)
    have sr:=qaf hr (HO.tup [V.ref la,V.ref ha])
    have l8:=sd.l8
    refine k r la ha lo hi _ (e.s.trans sr) qad (sr _ _ e.hl) (sr _ _ e.hh) (e.ol.mono (by omega)) (e.oh.mono (by omega)) e.le (Rat.le_trans e.wd ?_) e.inl
    have l8:((ys.length:Nat):Rat)≤((8:Nat):Rat):=by exact_mod_cast l8
    have:=Rat.mul_le_mul_of_nonneg_right l8 (show (0:Rat)≤(((2:Int) ^ 91:Int):Rat) by decide +kernel)
    refine Rat.le_trans this ?_
    decide +kernel
theorem Sl.big {q:Nu} (h:Sl q):0<q.2∧Bd 60000000 q.1∧Bd 60000000 q.2:=⟨h.1.pos,h.2.1.mono (by decide),h.2.2.mono (by decide)⟩
theorem qmb {q r:Nu} (h:Sl q) (h':Sl r):Bd 60000000 (nsub q r).1∧Bd 60000000 (nsub q r).2∧0<(nsub q r).2:=by
  have v:=qg9 h.1.pos h'.1.pos
  have lo:=qkn h.1.pos h'.1.pos
  have o:OvD (q.2*r.2) 4001 (nsub q r):=⟨lo,q.1*r.2 - r.1*q.2,by
    rw [v]
    unfold val
    have a:=qa6 (show q.2≠0 by have:=h.1.pos;omega)
    have b:=qa6 (show r.2≠0 by have:=h'.1.pos;omega)
    have h1:(q.2:Rat)*(q.2:Rat)⁻¹=1:=Rat.mul_inv_cancel _ a
    have h2:(r.2:Rat)*(r.2:Rat)⁻¹=1:=Rat.mul_inv_cancel _ b
    rw [Rat.div_def,Rat.div_def,Rat.div_def]
    push_cast
    rw [Rat.inv_mul_rev]
    generalize (q.2:Rat)⁻¹=i at *
    generalize (r.2:Rat)⁻¹=j at *
    grind,(h.2.1.mul h'.2.2).sub (h'.2.1.mul h.2.2)⟩
  obtain ⟨h1,h2,h3⟩:=o.big (Int.mul_pos h.1.pos h'.1.pos) (by decide) ((h.2.2.mul h'.2.2).mono (by decide))
  exact ⟨h2,h3,h1⟩
theorem qmc (h:qfm K vs H Q E):qnr K { nx:=fun _ H'=>Q .non H',rt:=Q } (L2.start ["one", "width", "n", "bits", "ends"] vs) H:=by
  obtain ⟨o,w,qa,ta,us,q,wd,xs,rfl,ho,hqa,hta,hA,hw,cq,hx,l24,sw,w40,hT,k⟩:=h
  refine qb3 ⟨_,rfl,_,_,_,_,rfl,rfl,ho,rfl,qko ⟨_,rfl,_,_,_,_,rfl,rfl,ho,rfl,ta,us,rfl,hta,fun l hl=>?_⟩⟩
  have s1:=qaf hl (HO.lst us)
  have hll:upd H l (HO.lst us) l=_:=qad
  have hA1:=hA.mono fun _ _ h=>h.tp (tpS s1)
  have hT1:=s1 _ _ hT
  show qaI K _ _ _ _
  generalize upd H l (HO.lst us)=H1 at s1 hll hA1 hT1 ⊢
  refine ⟨.ref qa,l,us,xs,rfl,hll,hA1,fun x h=>⟨(hx x h).1,(hx x h).2⟩,l24,hT1,fun n bb ws ys H2 kp h1 h2 h3 h4 h5 h6 h7 h8=>?_⟩
  have sd:=sharp (s:=200000) ⟨h4,h5,h6,h7⟩ hx l24 h8
  have tp:Tp H1 H2:=fun c zs hc=>kp c _ (qeq hc hT1 (by intro z;cases z)) hc
  have hq2:=tp _ _ (s1 _ _ hqa)
  have hw2:=tp _ _ (s1 _ _ hw)
  have k02:Kp qfl H H2:=fun c o n e=>kp c o n (s1 c o e)
  show qg7 K _ _ _
  refine qaJ ?_
  show qg6 K _ [some (.ref o),some (.ref w),some (.ref n),some (.int 64),none] _
  have fit:∀ {b:Nat} {z:Nu},b≤256→OvD (60*(2:Int) ^ b) 1000 z→Sl z:=fun {b z} hb oz=>by
    have M0:(0:Int)<(2:Int) ^ b:=Int.pow_pos (by decide)
    have mB:Bd 257 ((2:Int) ^ b):=qhf (by omega)
    exact oz.sl (by omega) (by decide) (((show Bd 6 60 by unfold Bd;decide).mul mB).mono (by decide))
  have cvt:∀ {lo hi:Nu},InL (val lo) (val hi) (fun l=>val q+XP l ys)→InL (val lo) (val hi) (fun l=>val q+Sg (fun j=>WR (pj j) xs*l j) 8):=fun {lo hi} h=>h.congr fun l=>by
    show val q+XP l ys=_
    rw [qnG,qbB (g:=fun j=>WR (pj j) xs*l j) 8 fun j hj=>by rw [h8 _ (qck hj)]]
  refine qb3 ⟨_,rfl,_,rfl,n,qa,bb,ws,q,ys,64,rfl,h1,hq2,h2,h3,cq,sd,by decide,fun r a d lo hi H3 s3 hr ha hd ol oh le wi inl=>?_⟩
  show qg5 K _ [some (.ref o),some (.ref w),some (.ref n),some (.int 64),some (.ref r)] _
  refine while_by (fun m σ H'=>∃ (b:Nat) (r a d:Addr) (lo hi:Nu),σ=[some (.ref o),some (.ref w),some (.ref n),some (.int b),some (.ref r)]∧(b=64∨b=128∨b=256)∧m=256 - b∧Same H2 H'∧H' r=some (.tup [.ref a,.ref d])∧Nm H' a lo.1 lo.2∧Nm H' d hi.1 hi.2∧Sl lo∧Sl hi∧val lo≤val hi∧(val hi - val lo)*(((2:Int) ^ b:Int):Rat)≤(((2:Int) ^ 94:Int):Rat)∧InL (val lo) (val hi) (fun l=>val q+Sg (fun j=>WR (pj j) xs*l j) 8)) _ ⟨64,r,a,d,lo,hi,rfl,.inl rfl,rfl,s3,hr,ha,hd,fit (by decide) ol,fit (by decide) oh,le,wi,cvt inl⟩ ?_
  rintro m σ H4 ⟨b,r,a,d,lo,hi,rfl,hb,rfl,s4,hr,ha,hd,sl,sh,le,wi,inl⟩
  obtain ⟨m1,m2,m3⟩:=qmb sh sl
  have vs:=qg9 sh.1.pos sl.1.pos
  obtain ⟨w0,w1,w2⟩:=sw.big
  obtain ⟨l0,l1,l2⟩:=sl.big
  obtain ⟨u0,u1,u2⟩:=sh.big
  refine qaV ⟨_,rfl,qaV ⟨_,rfl,_,_,_,_,rfl,rfl,hr,rfl,_,rfl,_,_,_,_,rfl,rfl,hr,rfl,d,a,hi.1,hi.2,lo.1,lo.2,rfl,hd,ha,u0,l0,u1,u2,l1,l2,fun r5 hr5=>?_⟩⟩
  have s5:=qaf hr5 (HO.tup [V.int (nsub (hi.1,hi.2) (lo.1,lo.2)).1,V.int (nsub (hi.1,hi.2) (lo.1,lo.2)).2])
  have h55:upd H4 r5 (HO.tup [V.int (nsub (hi.1,hi.2) (lo.1,lo.2)).1,V.int (nsub (hi.1,hi.2) (lo.1,lo.2)).2]) r5=_:=qad
  have s25:=s4.trans s5
  show qb6 K _ _ _ _
  generalize upd H4 r5 (HO.tup [V.int (nsub (hi.1,hi.2) (lo.1,lo.2)).1,V.int (nsub (hi.1,hi.2) (lo.1,lo.2)).2])=H5 at s5 h55 s25 ⊢
  refine ⟨w,r5,wd.1,wd.2,(nsub hi lo).1,(nsub hi lo).2,rfl,s25 _ _ hw2,h55,w1,w2,m1,m2,_,rfl,qcn (fun c=>?_) (fun c=>?_)⟩
  · have c:=(qjp w0 m3).mpr (of_decide_eq_true c)
    have c:val wd<val (nsub hi lo):=c
    rw [vs] at c
    have nb:b≠256:=fun e=>by
      subst e
      have n1:(((10:Int) ^ 40:Int):Rat)*(((2:Int) ^ 94:Int):Rat)<(((2:Int) ^ 256:Int):Rat):=by decide +kernel
      have n2:(0:Rat)<(((10:Int) ^ 40:Int):Rat):=by decide +kernel
      have n3:(0:Rat)<(((2:Int) ^ 256:Int):Rat):=by decide +kernel
      generalize (((10:Int) ^ 40:Int):Rat)=T at *
      generalize (((2:Int) ^ 94:Int):Rat)=A at *
      generalize (((2:Int) ^ 256:Int):Rat)=B at *
      have q1:=Rat.mul_le_mul_of_nonneg_right w40 (show 0≤B by grind)
      have q2:=Rat.mul_pos (Rat.mul_pos (show 0<(val hi - val lo) - val wd by grind) n2) n3
      have q3:=Rat.mul_le_mul_of_nonneg_left wi (show 0≤T by grind)
      grind
    refine ⟨_,fun _ _ h=>h,?_⟩
    show qee K _ _ _
    refine ⟨_,rfl,_,_,rfl,rfl,qms (by decide) (by decide),?_⟩
    show qed K _ [some (.ref o),some (.ref w),some (.ref n),some (.int ((b:Int)*2)),some (.ref r)] _
    have e2:(b:Int)*2=((2*b:Nat):Int):=by omega
    rw [e2]
    have b2:2*b≤256:=by omega
    refine qfT (qaV ⟨_,rfl,_,rfl,n,qa,bb,ws,q,ys,2*b,rfl,s25 _ _ h1,s25 _ _ hq2,s25 _ _ h2,h3.mono fun _ _ h=>h.tp (tpS s25),cq,sd,b2,fun r a d lo hi H3 s3 hr ha hd ol oh le wi inl=>?_⟩)
    exact ⟨256 - 2*b,by omega,2*b,r,a,d,lo,hi,rfl,by omega,rfl,s25.trans s3,hr,ha,hd,fit b2 ol,fit b2 oh,le,wi,cvt inl⟩
  · have c:¬ val wd<val (nsub hi lo):=fun z=>c (decide_eq_true ((qjp w0 m3).mp z))
    rw [vs] at c
    show qg4 K _ _ _
    refine ⟨_,rfl,k r a d lo hi H5 (fun z o n e=>s25 z o (k02 z o n e)) (s5 _ _ hr) (s5 _ _ ha) (s5 _ _ hd) sl sh le (by grind) inl⟩
theorem qf2 (h:qa7 K vs H Q E):qgo K { nx:=fun _ H'=>Q .non H',rt:=Q } (L2.start ["_law_z", "_law_scale", "_law_part", "_law_total", "_law_many"] vs) H:=by
  obtain ⟨pz,a,b,S,rfl,hp,a0,h3,b0,bb,S0,bS,k⟩:=h
  obtain ⟨z,hz,z0,z3,hx⟩:=zq a0 h3 b0
  have ba:Bd 64 a:=bb.le (by omega)
  have Sr:(0:Rat)<(S:Rat):=by exact_mod_cast S0
  have bb0:0<b*b:=Int.mul_pos b0 b0
  refine qaJ ⟨_,rfl,_,rfl,_,_,_,_,rfl,rfl,hp,rfl,_,_,rfl,rfl,qlX bS ba,_,rfl,_,_,_,_,rfl,rfl,hp,rfl,_,_,rfl,rfl,b0,?_⟩
  show qc4 K _ [some (.ref pz),some (.int S),some (.int (S*a / b)),none,none] _
  rw [Int.mul_comm S a]
  obtain ⟨pu,pl⟩:=qhg (M:=S) hz b0
  have p0:0≤a*S / b:=Int.ediv_nonneg (Int.mul_nonneg a0 (by omega)) (by omega)
  generalize a*S / b=p at pu pl p0 ⊢
  have S1:=qg3 (M:=(S:Rat)) Sr z0 z3 p0 pu pl
  refine qaJ ?_
  show qc3 K _ _ _
  refine qaJ ?_
  show qc2 K _ [some (.ref pz),some (.int S),some (.int p),some (.int 0),some (.int 0)] _
  refine while_by (fun m σ H'=>∃ (n:Nat) (p tot:Int),σ=[some (.ref pz),some (.int S),some (.int p),some (.int tot),some (.int (n:Int))]∧H'=H∧Ser z (S:Rat) n p tot∧0≤tot∧(n:Int)+p≤S∧m=p.toNat) _ ⟨0,p,0,rfl,rfl,S1,by decide,by have:=S1.small S0 z0 z3;omega,rfl⟩ ?_
  rintro m σ H' ⟨n,p,tot,rfl,rfl,Se,tt0,np,rfl⟩
  have p0:=Se.p0
  refine ⟨_,rfl,_,_,rfl,rfl,_,rfl,qcn (fun c=>?_) (fun c=>?_)⟩
  · have c:0<p:=of_decide_eq_true c
    have bp:Bd 300 p:=bS.le (by omega)
    have e1:2*(n:Int)+1=((2*n+1:Nat):Int):=by omega
    refine ⟨_,fun _ _ h=>h,?_⟩
    show qbZ K _ _ _
    refine qaJ ⟨_,rfl,_,rfl,_,rfl,_,_,rfl,rfl,qgp (by decide) (by decide),_,_,rfl,rfl,_,_,rfl,rfl,(show (0:Int)<2*(n:Int)+1 by omega),_,_,rfl,rfl,?_⟩
    show qbY K _ [some (.ref pz),some (.int S),some (.int p),some (.int (tot+p / (2*(n:Int)+1))),some (.int (n:Int))] _
    rw [e1]
    refine qaJ ⟨_,rfl,_,rfl,_,_,_,_,rfl,rfl,hp,rfl,_,_,rfl,rfl,qlX bp ba,_,rfl,_,_,_,_,rfl,rfl,hp,rfl,_,_,rfl,rfl,qlX (bp.mul ba) ba,_,rfl,_,_,_,_,rfl,rfl,hp,rfl,_,rfl,_,_,_,_,rfl,rfl,hp,rfl,_,_,rfl,rfl,qlX bb bb,_,_,rfl,rfl,bb0,?_⟩
    have q0:0≤p / ((2*n+1:Nat):Int):=Int.ediv_nonneg p0 (by omega)
    have lt:p*a*a / (b*b)<p:=by
      refine Int.ediv_lt_of_lt_mul bb0 ?_
      have ab:a*a<b*b:=by
        have h1:a*a≤a*b:=Int.mul_le_mul_of_nonneg_left (by omega) a0
        have h2:a*b<b*b:=Int.mul_lt_mul_of_pos_right (by omega) b0
        omega
      rw [Int.mul_assoc]
      exact Int.mul_lt_mul_of_pos_left ab c
    refine ⟨_,rfl,_,_,rfl,rfl,(p*a*a / (b*b)).toNat,by omega,n+1,_,_,rfl,rfl,qkr b0 a0 hz S0 z0 z3 Se,by omega,?_,rfl⟩
    push_cast
    omega
  · have c:¬ 0<p:=fun y=>c (decide_eq_true y)
    have pz:p=0:=by omega
    subst pz
    show qc1 K _ _ _
    refine qcD (qaz ⟨_,rfl,_,_,rfl,rfl,qgp (by decide) (by decide),_,rfl,_,_,rfl,rfl,qgp (by decide) (by decide),_,rfl,_,_,rfl,rfl,qgp (by decide) (by decide),_,_,rfl,rfl,_,_,rfl,rfl,qb4,fun r hr=>?_⟩)
    exact k r _ _ hr fun x hx'=>Se.lg S0 z0 z3 tt0 (hx x hx') (by omega) (by omega)
theorem qex (h:qa4 K vs H Q E):qfq K { nx:=fun _ H'=>Q .non H',rt:=Q } (L2.start ["_law_prime", "_law_scale", "_law_low", "_law_high", "_law_many", "_law_size", "_law_own"] vs) H:=by
  obtain ⟨p,S,rfl,p0,bp,S0,bS,k⟩:=h
  have p60:p<1152921504606846976:=by
    have bp:p.natAbs<1152921504606846976:=bp
    omega
  refine qgY (qaV (qaz ⟨qb4,fun p1 hp1=>?_⟩))
  have s1:=qaf hp1 (HO.tup [V.int 1,V.int 3])
  have h11:upd H p1 (HO.tup [V.int 1,V.int 3]) p1=_:=qad
  show ∃ _,_
  generalize upd H p1 (HO.tup [V.int 1,V.int 3])=H1 at s1 h11 ⊢
  refine ⟨_,rfl,p1,1,3,S,rfl,h11,by decide,by decide,by decide,(show Bd 2 3 by unfold Bd;decide).mono (by decide),S0,bS,fun r1 lo1 hi1 hr1 L1=>?_⟩
  have sa:=qaf hr1 (HO.tup [V.int lo1,V.int hi1])
  refine ⟨r1,_,rfl,qad,rfl,_,_,rfl,_,_,rfl,rfl,?_⟩
  have s12:=s1.trans sa
  show qcj K _ [some (.int p),some (.int S),some (.int lo1),some (.int hi1),none,none,none] (upd H1 r1 (HO.tup [V.int lo1,V.int hi1]))
  generalize upd H1 r1 (HO.tup [V.int lo1,V.int hi1])=H2 at s12 ⊢
  refine qaJ ?_
  show qci K _ _ _
  refine qaJ ?_
  show qch K _ [some (.int p),some (.int S),some (.int lo1),some (.int hi1),some (.int 0),some (.int 1),none] _
  refine while_by (fun m σ H'=>∃ (n:Nat),σ=[some (.int p),some (.int S),some (.int lo1),some (.int hi1),some (.int (n:Int)),some (.int ((2:Int) ^ n)),none]∧H'=H2∧(2:Int) ^ n≤p∧m=(p - (2:Int) ^ n).toNat) _ ⟨0,rfl,rfl,by show (1:Int)≤p;omega,rfl⟩ ?_
  rintro m σ H' ⟨n,rfl,rfl,np,rfl⟩
  have P0:(0:Int)<(2:Int) ^ n:=Int.pow_pos (by decide)
  have ps:(2:Int) ^ (n+1)=2*(2:Int) ^ n:=by rw [Int.pow_succ,Int.mul_comm]
  refine ⟨_,rfl,_,_,rfl,rfl,qgp (by decide) (by decide),_,rfl,_,_,rfl,rfl,_,rfl,qcn (fun c=>?_) (fun c=>?_)⟩
  · have c:2*(2:Int) ^ n≤p:=of_decide_eq_true c
    refine ⟨_,fun _ _ h=>h,?_⟩
    show qbz K _ _ _
    refine qaJ ⟨_,rfl,_,_,rfl,rfl,qgp (by decide) (by decide),?_⟩
    show qby K _ [some (.int p),some (.int S),some (.int lo1),some (.int hi1),some (.int (n:Int)),some (.int (2*(2:Int) ^ n)),none] _
    rw [← ps] at c ⊢
    refine ⟨_,rfl,_,_,rfl,rfl,(p - (2:Int) ^ (n+1)).toNat,by omega,n+1,rfl,rfl,c,rfl⟩
  · have c:¬ 2*(2:Int) ^ n≤p:=fun z=>c (decide_eq_true z)
    have n60:n<60:=by
      refine Nat.not_le.mp fun z=>?_
      obtain ⟨m,rfl⟩:∃ m,n=60+m:=⟨n - 60,by omega⟩
      have e:(2:Int) ^ (60+m)=1152921504606846976*(2:Int) ^ m:=by
        rw [Int.pow_add,show (2:Int) ^ 60=1152921504606846976 from by decide]
      have:(0:Int)<(2:Int) ^ m:=Int.pow_pos (by decide)
      omega
    have sr:(2:Rat) ^ n=(((2:Int) ^ n:Int):Rat):=by push_cast;rfl
    show qcg K _ _ _
    generalize (2:Int) ^ n=s at np P0 c sr ⊢
    refine qaJ (qaV (qaz ⟨_,rfl,_,rfl,_,_,rfl,rfl,_,rfl,_,rfl,_,_,rfl,rfl,qb4,fun p3 hp3=>?_⟩))
    have s3:=qaf hp3 (HO.tup [V.int (p - s),V.int (p+s)])
    have h33:upd H' p3 (HO.tup [V.int (p - s),V.int (p+s)]) p3=_:=qad
    show ∃ _,_
    generalize upd H' p3 (HO.tup [V.int (p - s),V.int (p+s)])=H3 at s3 h33 ⊢
    refine ⟨_,rfl,p3,p - s,p+s,S,rfl,h33,by omega,by omega,by omega,?_,S0,bS,fun r4 lo4 hi4 hr4 L4=>?_⟩
    · show (p+s).natAbs<18446744073709551616
      omega
    have s4:=qaf hr4 (HO.tup [V.int lo4,V.int hi4])
    have h44:upd H3 r4 (HO.tup [V.int lo4,V.int hi4]) r4=_:=qad
    show qcf K _ [some (.int p),some (.int S),some (.int lo1),some (.int hi1),some (.int (n:Int)),some (.int s),some (.ref r4)] _
    generalize upd H3 r4 (HO.tup [V.int lo4,V.int hi4])=H4 at s4 h44 ⊢
    have pr:(0:Rat)<(p:Rat):=by exact_mod_cast p0
    have sr0:(0:Rat)<(s:Rat):=by exact_mod_cast P0
    have si:(s:Rat)*(s:Rat)⁻¹=1:=Rat.mul_inv_cancel _ (by grind)
    have L4:=L4 ((p:Rat)*(s:Rat)⁻¹) (by
      push_cast
      generalize (s:Rat)⁻¹=i at *
      grind)
    have L1:=L1 2 (by push_cast;grind)
    have L:=(L1.pow n).mul L4
    have ex:(2:Rat) ^ n*((p:Rat)*(s:Rat)⁻¹)=(p:Rat):=by
      rw [sr]
      generalize (s:Rat)⁻¹=i at *
      grind
    rw [ex] at L
    have L:=L.mono (g':=61*(8*S+8)) (by
      have:(n:Int)*(8*S+8)≤60*(8*S+8):=Int.mul_le_mul_of_nonneg_right (by omega) (by omega)
      omega)
    refine qcD (qaz ⟨_,rfl,_,rfl,_,_,rfl,rfl,qgp (by omega) (by omega),_,rfl,_,_,_,_,rfl,rfl,h44,rfl,_,_,rfl,rfl,_,rfl,_,rfl,_,_,rfl,rfl,qgp (by omega) (by omega),_,rfl,_,_,_,_,rfl,rfl,h44,rfl,_,_,rfl,rfl,qb4,fun r hr=>?_⟩)
    exact k r _ _ _ (((s12.trans s3).trans s4).trans (qaf hr _)) qad L
theorem qoq {a b c d e f g h i j:V}:[a,b,c,d,e,f,g,h,i,j].length≤sizeLine:=by show 10≤_;exact sz (by decide)
theorem qnJ {d:Int} (h0:0≤d) (h9:d<10):∃ e:Nat,atI [V.int 0,V.int 1,V.int 2,V.int 3,V.int 5,V.int 10,V.int 20,V.int 30,V.int 39,V.int 40] d=some (V.int (e:Int))∧e≤40:=by
  have:d=0∨d=1∨d=2∨d=3∨d=4∨d=5∨d=6∨d=7∨d=8∨d=9:=by omega
  rcases this with rfl | rfl | rfl | rfl | rfl | rfl | rfl | rfl | rfl | rfl
  · exact ⟨0,rfl,by decide⟩
  · exact ⟨1,rfl,by decide⟩
  · exact ⟨2,rfl,by decide⟩
  · exact ⟨3,rfl,by decide⟩
  · exact ⟨5,rfl,by decide⟩
  · exact ⟨10,rfl,by decide⟩
  · exact ⟨20,rfl,by decide⟩
  · exact ⟨30,rfl,by decide⟩
  · exact ⟨39,rfl,by decide⟩
  · exact ⟨40,rfl,by decide⟩
theorem qhW (h:qcq K vs H Q E):qi2 K { nx:=fun _ H'=>Q .non H',rt:=Q } (L2.start ["_law_cell", "_law_bottom", "_law_turn"] vs) H:=by
  obtain ⟨c,rfl,k⟩:=h
  refine qaJ ?_
  show qej K _ [some (.int c),some (.int 1),none] _
  refine ⟨qoq,fun q hq=>?_⟩
  have s1:=qaf hq (HO.tup [V.int 0,V.int 1,V.int 2,V.int 3,V.int 5,V.int 10,V.int 20,V.int 30,V.int 39,V.int 40])
  have hqq:upd H q (HO.tup [V.int 0,V.int 1,V.int 2,V.int 3,V.int 5,V.int 10,V.int 20,V.int 30,V.int 39,V.int 40]) q=_:=qad
  refine qfS ⟨_,rfl,c,0,10,rfl,by decide,by decide,by decide,fun d d0 d1=>?_⟩
  obtain ⟨e,he,e40⟩:=qnJ d0 d1
  refine ⟨q,d,_,_,rfl,rfl,hqq,he,(e:Int),rfl,?_⟩
  generalize upd H q (HO.tup [V.int 0,V.int 1,V.int 2,V.int 3,V.int 5,V.int 10,V.int 20,V.int 30,V.int 39,V.int 40])=H1 at s1 ⊢
  refine ⟨by omega,by omega,ForR.by (lo:=0) (n:=e) (fun n σ H'=>n≤e∧∃ o2,σ=[some (.int c),some (.int ((10:Int) ^ n)),o2]∧H'=H1) ⟨Nat.zero_le _,none,rfl,rfl⟩ ?_ ?_⟩
  · rintro n σ H' hn ⟨_,o2,rfl,rfl⟩
    refine qlT ?_
    refine ⟨_,rfl,_,_,rfl,rfl,qms (by decide) (by decide),hn,some (.int (0+(n:Int))),?_,rfl⟩
    rw [Int.pow_succ];rfl
  · rintro σ H' ⟨_,o2,rfl,rfl⟩
    show qei K _ _ _
    have e0:(0:Int)<(10:Int) ^ e:=Int.pow_pos (by decide)
    have le:(10:Int) ^ e≤(10:Int) ^ 40:=by
      obtain ⟨m,hm⟩:∃ m,40=e+m:=⟨40 - e,by omega⟩
      have:(0:Int)<(10:Int) ^ m:=Int.pow_pos (by decide)
      rw [hm,Int.pow_add]
      have:=Int.mul_le_mul_of_nonneg_left (show (1:Int)≤(10:Int) ^ m by omega) (show 0≤(10:Int) ^ e by omega)
      omega
    refine qcD (qaV (qjG (r_c (qfS ⟨_,rfl,c,1,9,rfl,by decide,by decide,by decide,fun f f0 f1=>?_⟩))))
    have ov:OvD ((10:Int) ^ e) 10 (qdt (1+f) ((10:Int) ^ e)):=⟨by rw [qbA e0];exact qbN e0,1+f,qbp (by omega),show (1+f).natAbs<1024 by omega⟩
    have sl:=ov.sl e0 (by decide) (Bd.le (x:=(10:Int) ^ 40) (show Bd 2000 ((10:Int) ^ 40) from Bd.mono (m:=140) (by unfold Bd;decide +kernel) (by decide)) (by omega))
    have v:=qbp (n:=1+f) (m:=(10:Int) ^ e) (by omega)
    refine ⟨_,_,rfl,rfl,_,rfl,1+f,(10:Int) ^ e,rfl,by omega,fun r hr=>?_⟩
    refine k r (qdt (1+f) ((10:Int) ^ e)) _ (s1.trans (qaf hr _)) qad sl ?_
    rw [v]
    have er:(0:Rat)<(((10:Int) ^ e:Int):Rat):=by exact_mod_cast e0
    have ler:(((10:Int) ^ e:Int):Rat)≤(((10:Int) ^ 40:Int):Rat):=by exact_mod_cast le
    have f1:(1:Rat)≤((1+f:Int):Rat):=by exact_mod_cast (show (1:Int)≤1+f by omega)
    have d:((1+f:Int):Rat) / (((10:Int) ^ e:Int):Rat)*(((10:Int) ^ e:Int):Rat)=((1+f:Int):Rat):=Rat.div_mul_cancel (by grind)
    have d0:0≤((1+f:Int):Rat) / (((10:Int) ^ e:Int):Rat):=by
      rw [Rat.div_def]
      have:=Rat.inv_pos.mpr er
      exact Rat.mul_nonneg (by grind) (by grind)
    have:=Rat.mul_le_mul_of_nonneg_left ler d0
    grind
theorem qmd {K:W.Frag} {ta tc:TE} {g:TG} {tb rest:TS} {D:Ends} {σ:L2.St} {H:Hp} (h:ta σ H fun x H1=>tc σ H1 fun y H2=>∃ a b,[x,y]=[V.ref a,V.ref b]∧(∃ xs,SqT K H2 a xs)∧(∃ ys,SqL K H2 b ys)∧ForJ (Itzt K a b) g tb { D with nx:=rest D } σ H2):qaA (qep (qlO K (qac ta (qac tc qar))) g tb) rest D σ H:=h
structure So (H0 H:Hp) (la ha:Addr) (lo hi q:Nu) (S:Int) (ls:List Nu) (i:Nat):Prop where
  s:Same H0 H
  hl:Nm H la lo.1 lo.2
  hh:Nm H ha hi.1 hi.2
  ol:OvD (60*S) (500+i) lo
  oh:OvD (60*S) (500+i) hi
  inl:InL (val lo) (val hi) (fun l=>val q+Sg (fun j=>val (ls.getD j (0,1))*l j) i)
theorem So.mono {H0 H H':Hp} {la ha:Addr} {lo hi q:Nu} {S:Int} {ls:List Nu} {i:Nat} (e:So H0 H la ha lo hi q S ls i) (s:Same H H'):So H0 H' la ha lo hi q S ls i:=⟨e.s.trans s,s _ _ e.hl,s _ _ e.hh,e.ol,e.oh,e.inl⟩
theorem qjs {K:W.Frag} {D:Ends} {qa w la ha ea:Addr} {o5 o6:Option V} {H0 H1 H5:Hp} {lo hi q A B z:Nu} {S:Int} {ls:List Nu} {i:Nat} {u v:V} (S0:0<S) (bS:Bd 300 S) (i8:i<8) (hz:ls.getD i (0,1)=z) (e:So H0 H1 la ha lo hi q S ls i) (s:Same H1 H5) (he:H5 ea=some (.lst [u,v])) (nu:Nr H5 u A) (nv:Nr H5 v B) (oA:OvD (60*S) 500 A) (oB:OvD (60*S) 500 B) (inl:InL (val A) (val B) (fun l=>val z*l i))
    (k:∀ la' ha' lo' hi' H',So H0 H' la' ha' lo' hi' q S ls (i+1)→D.nx [some (.ref qa),some (.ref w),some (.int S),some (.ref la'),some (.ref ha'),o5,o6,some (.ref ea)] H'):qc6 K D [some (.ref qa),some (.ref w),some (.int S),some (.ref la),some (.ref ha),o5,o6,some (.ref ea)] H5:=by
  have D0:(0:Int)<60*S:=by omega
  have bD:Bd 60000000 (60*S):=((show Bd 6 60 by unfold Bd;decide).mul bS).mono (by decide)
  obtain ⟨ua,rfl,hu⟩:=nu
  obtain ⟨va,rfl,hv⟩:=nv
  obtain ⟨a0,a1,a2⟩:=oA.big D0 (by decide) bD
  obtain ⟨b0,b1,b2⟩:=oB.big D0 (by decide) bD
  obtain ⟨l0,l1,l2⟩:=e.ol.big D0 (by omega) bD
  obtain ⟨h0,h1,h2⟩:=e.oh.big D0 (by omega) bD
  obtain ⟨ol,vl⟩:=e.ol.add D0 (oA.mono (by omega))
  obtain ⟨oh,vh⟩:=e.oh.add D0 (oB.mono (by omega))
  refine qb3 ⟨_,rfl,_,rfl,_,_,_,_,rfl,rfl,he,rfl,la,ua,lo.1,lo.2,A.1,A.2,rfl,s _ _ e.hl,hu,l0,a0,l1,l2,a1,a2,fun r hr=>?_⟩
  have sr:=qaf hr (HO.tup [V.int (nadd (lo.1,lo.2) (A.1,A.2)).1,V.int (nadd (lo.1,lo.2) (A.1,A.2)).2])
  have hrr:upd H5 r (HO.tup [V.int (nadd (lo.1,lo.2) (A.1,A.2)).1,V.int (nadd (lo.1,lo.2) (A.1,A.2)).2]) r=_:=qad
  show qc5 K _ [some (.ref qa),some (.ref w),some (.int S),some (.ref r),some (.ref ha),o5,o6,some (.ref ea)] _
  generalize upd H5 r (HO.tup [V.int (nadd (lo.1,lo.2) (A.1,A.2)).1,V.int (nadd (lo.1,lo.2) (A.1,A.2)).2])=H6 at sr hrr ⊢
  refine qfT (qaV ⟨_,rfl,_,rfl,_,_,_,_,rfl,rfl,sr _ _ he,rfl,ha,va,hi.1,hi.2,B.1,B.2,rfl,(s.trans sr) _ _ e.hh,sr _ _ hv,h0,b0,h1,h2,b1,b2,fun r2 hr2=>?_⟩)
  have sr2:=qaf hr2 (HO.tup [V.int (nadd (hi.1,hi.2) (B.1,B.2)).1,V.int (nadd (hi.1,hi.2) (B.1,B.2)).2])
  refine k r r2 (nadd lo A) (nadd hi B) _ ⟨(e.s.trans s).trans (sr.trans sr2),sr2 _ _ hrr,qad,ol,oh,?_⟩
  rw [vl,vh]
  exact (e.inl.add inl).congr fun l=>by
    show val q+Sg (fun j=>val (ls.getD j (0,1))*l j) i+val z*l i=val q+(Sg (fun j=>val (ls.getD j (0,1))*l j) i+val (ls.getD i (0,1))*l i)
    rw [hz];grind
theorem qjt (h:qcQ K vs H Q E):qkv K { nx:=fun _ H'=>Q .non H',rt:=Q } (L2.start ["_law_q", "_law_weights_here", "_law_scale", "_law_low", "_law_high", "_law_prime", "_law_weight", "_law_ends"] vs) H:=by
  obtain ⟨qa,w,S,q,ts,ls,rfl,hqa,cq,hw,hN,l8,hz,S0,bS,k⟩:=h
  have Sr:(0:Rat)<(S:Rat):=by exact_mod_cast S0
  have D0:(0:Int)<60*S:=by omega
  have lt:=hN.length
  refine ⟨_,rfl,_,rfl,_,_,rfl,?_⟩
  show qeP K _ [some (.ref qa),some (.ref w),some (.int S),some (.ref qa),some (.ref qa),none,none,none] _
  refine qmd (qjk ⟨rfl,fun r hr=>?_⟩)
  have s2:=qaf hr (HO.tup (prs.map fun p:Nat=>V.int (p:Int)))
  have hrr:upd H r (HO.tup (prs.map fun p:Nat=>V.int (p:Int))) r=_:=qad
  generalize upd H r (HO.tup (prs.map fun p:Nat=>V.int (p:Int)))=H2 at s2 hrr ⊢
  have hw2:=s2 _ _ hw
  have oq:OvD (60*S) (500+0) q:=(cq.ov S0 bS).mono (by decide)
  have E0:So H2 H2 qa qa q q q S ls 0:=⟨Same.refl _,s2 _ _ hqa,s2 _ _ hqa,oq,oq,(InL.const (val q)).congr fun l=>by show val q=val q+0;grind⟩
  refine ⟨_,rfl,r,w,rfl,⟨_,SqT.of hrr⟩,⟨_,SqL.of hw2⟩,ForJ.zipT (xs:=prs.map fun p:Nat=>V.int (p:Int)) (ys:=ts) (by rw [List.length_map,lt,l8];rfl) (fun i σ H'=>∃ (la ha:Addr) (lo hi:Nu) (o5 o6 o7:Option V),σ=[some (.ref qa),some (.ref w),some (.int S),some (.ref la),some (.ref ha),o5,o6,o7]∧i≤8∧So H2 H' la ha lo hi q S ls i) ⟨qa,qa,q,q,none,none,none,rfl,Nat.zero_le _,E0⟩ ?_ ?_ ?_⟩
  · rintro i σ H' _ ⟨la,ha,lo,hi,o5,o6,o7,rfl,_,e⟩
    exact ⟨e.s _ _ hrr,e.s _ _ hw2⟩
  · rintro i x y p σ H3 hx hy ⟨la,ha,lo,hi,o5,o6,o7,rfl,_,e⟩ hp
    have s3:=e.s
    have il:i<8:=by have:=(List.getElem?_eq_some_iff.mp hx).1;rw [List.length_map] at this;exact this
    have ilp:i<prs.length:=il
    have ep:prs[i]?=some (pj i):=by unfold pj;rw [List.getD_eq_getElem?_getD,List.getElem?_eq_getElem ilp];rfl
    rw [List.getElem?_map,ep] at hx
    obtain rfl:=Option.some.inj hx
    obtain ⟨z,hzi,wa,rfl,hwa⟩:=hN.get hy
    have zm:z∈ls:=by obtain ⟨h,e⟩:=List.getElem?_eq_some_iff.mp hzi;exact e ▸ List.getElem_mem h
    have cz:=hz z zm
    have zd:ls.getD i (0,1)=z:=by rw [List.getD_eq_getElem?_getD,hzi];rfl
    have sp:=qaf hp (HO.tup [V.int (pj i:Int),V.ref wa])
    have hpp:upd H3 p (HO.tup [V.int (pj i:Int),V.ref wa]) p=_:=qad
    have s4:=s3.trans sp
    have e:=e.mono sp
    generalize upd H3 p (HO.tup [V.int (pj i:Int),V.ref wa])=H4 at sp hpp s4 e ⊢
    refine ⟨p,_,rfl,hpp,rfl,_,_,rfl,_,_,rfl,rfl,?_⟩
    show qeC _ (qbS K) _ _ [some (.ref qa),some (.ref w),some (.int S),some (.ref la),some (.ref ha),some (.int (pj i:Int)),some (.ref wa),o7] _
    have hw4:=(s2.trans s4) _ _ hwa
    refine ⟨_,rfl,qaz ⟨qb4,fun p5 hp5=>?_⟩⟩
    have s5:=qaf hp5 (HO.tup [V.int 0,V.int 1])
    have h55:upd H4 p5 (HO.tup [V.int 0,V.int 1]) p5=_:=qad
    have e:=e.mono s5
    have s4:=s4.trans s5
    have hw5:=s5 _ _ hw4
    generalize upd H4 p5 (HO.tup [V.int 0,V.int 1])=H5 at s5 h55 e s4 hw5 ⊢
    refine ⟨qiQ z,qiQ (0,1),decide (z=(0,1)),qnj ⟨wa,rfl,hw5⟩,qnj ⟨p5,rfl,h55⟩,okN _ _,okN _ _,?_,_,rfl,qcn (fun c=>?_) (fun c=>?_)⟩
    · constructor
      · intro h
        rw [of_decide_eq_true h]
      · intro h
        have h:PySem.W.Dat.tuple [.int z.1,.int z.2]=.tuple [.int 0,.int 1]:=h
        injection h with h
        injection h with h1 h2
        injection h2 with h2 _
        injection h1 with h1
        injection h2 with h2
        exact decide_eq_true (Prod.ext h1 h2)
    · show qbS K _ _ _
      have pp:=(qck il).two
      have pb:Bd 60 ((pj i:Nat):Int):=by
        have:∀ i,i<8→pj i<1152921504606846976:=by decide +kernel
        have:=this i il
        show ((pj i:Nat):Int).natAbs<1152921504606846976
        omega
      refine qaJ (qiS (qaV ⟨_,rfl,_,rfl,((pj i:Nat):Int),S,rfl,by omega,pb,S0,bS,fun r6 el eh H6 s6 hr6 L=>?_⟩))
      have l0:=L.l0
      have lh:=L.lh
      have wd:=L.wd
      have lsz:=L.size S0 (by omega) pb
      have b11:Bd 311 (1036*S):=(show Bd 11 1036 by unfold Bd;decide).mul bS
      have bl:Bd 320 el:=(b11.le (y:=el) (by omega)).mono (by decide)
      have bh:Bd 320 eh:=(b11.le (y:=eh) (by omega)).mono (by decide)
      have e2:∀ z:Int,z∈[el,eh]→Bd 320 z:=fun z hz=>by
        rcases List.mem_cons.mp hz with rfl | hz
        · exact bl
        · rw [List.mem_singleton.mp hz];exact bh
      have tm:∀ x:Int,Bd 320 x→OvD (60*S) 420 (nmul z (x,S))∧val (nmul z (x,S))=val z*((x:Rat) / (S:Rat)):=fun x bx=>cz.tm (r:=(x,S)) S0 S0 rfl bx
      obtain ⟨c1,c2⟩:=cz.bd
      refine ⟨r6,rfl,⟨_,SqT.of hr6⟩,CompJ.tup (xs:=[V.int el,V.int eh]) (fun n zs H'=>n≤2∧Same H6 H'∧zs.length=n∧Al (Nr H') zs (([el,eh].take n).map fun x=>nmul z (x,S))) ⟨Nat.zero_le _,Same.refl _,rfl,trivial⟩ ?_ ?_ ?_⟩
      · rintro n zs H' ⟨hn,s7,zl,_⟩
        exact ⟨hn,sz (by omega),s7 _ _ hr6⟩
      · rintro n v zs H7 hv ⟨_,s7,zl,al⟩
        have nl:n<2:=(List.getElem?_eq_some_iff.mp hv).1
        obtain ⟨x,hx,rfl⟩:∃ x,[el,eh][n]?=some x∧v=V.int x:=by
          have:([el,eh].map V.int)[n]?=some v:=hv
          rw [List.getElem?_map] at this
          cases e:[el,eh][n]? with
          | none=>rw [e] at this;cases this
          | some x=>rw [e] at this;exact ⟨x,rfl,(Option.some.inj this).symm⟩
        have bx:=e2 x (by obtain ⟨w,e⟩:=List.getElem?_eq_some_iff.mp hx;exact e ▸ List.getElem_mem w)
        have tk2:[el,eh].take (n+1)=[el,eh].take n++[x]:=by rw [List.take_add_one,hx];rfl
        refine qlT ?_
        refine qaV ⟨_,rfl,qaz ⟨_,rfl,_,rfl,qb4,fun p8 hp8=>?_⟩⟩
        have s8:=qaf hp8 (HO.tup [V.int x,V.int S])
        have h88:upd H7 p8 (HO.tup [V.int x,V.int S]) p8=_:=qad
        show qbE nmul K _ _ _ _
        generalize upd H7 p8 (HO.tup [V.int x,V.int S])=H8 at s8 h88 ⊢
        refine ⟨wa,p8,z.1,z.2,x,S,rfl,(s6.trans (s7.trans s8)) _ _ hw5,h88,cz.1.pos,S0,c1.mono (by decide),c2.mono (by decide),bx.mono (by decide),bS.mono (by decide),fun r9 hr9=>?_⟩
        have s9:=qaf hr9 (HO.tup [V.int (nmul (z.1,z.2) (x,S)).1,V.int (nmul (z.1,z.2) (x,S)).2])
        refine ⟨nl,s7.trans (s8.trans s9),by rw [List.length_append,zl];rfl,?_⟩
        rw [tk2,List.map_append]
        exact (al.mono fun _ _ h=>h.tp (tpS (s8.trans s9))).snoc ⟨r9,rfl,qad⟩
      · rintro zs H7 ⟨_,s7,zl,al⟩ p8 hp8
        have al:Al (Nr H7) zs [nmul z (el,S),nmul z (eh,S)]:=al
        obtain ⟨u,v,rfl,nu,nv⟩:=qlb al
        obtain ⟨oA,vA⟩:=tm el bl
        obtain ⟨oB,vB⟩:=tm eh bh
        generalize nmul z (el,S)=A at *
        generalize nmul z (eh,S)=B at *
        have s57:=s6.trans s7
        have p5N:H5 p8=none:=by
          cases e:H5 p8 with
          | none=>rfl
          | some o=>have:=s57 _ _ e;rw [hp8] at this;cases this
        have s8:=qaf hp8 (HO.lst [u,v])
        have h88:upd H7 p8 (HO.lst [u,v]) p8=_:=qad
        have nu:=nu.tp (tpS s8)
        have nv:=nv.tp (tpS s8)
        have s58:=s57.trans s8
        show qc7 K _ [some (.ref qa),some (.ref w),some (.int S),some (.ref la),some (.ref ha),some (.int (pj i:Int)),some (.ref wa),some (.ref p8)] _
        generalize upd H7 p8 (HO.lst [u,v])=H8 at s8 h88 nu nv s58 ⊢
        have inl:=InL.prime il L
        refine qlU ⟨_,rfl,_,_,_,_,rfl,rfl,s58 _ _ hw5,rfl,_,_,rfl,rfl,_,rfl,qcn (fun c=>?_) (fun c=>?_)⟩
        · have c:z.1<0:=of_decide_eq_true c
          have c0:=(qhh cz.1.pos).1 c
          refine ⟨_,rfl,qbm h88,p8,_,rfl,rfl,h88,?_⟩
          have tp:Tp H8 (upd H8 p8 (HO.lst [v,u])):=Tp.updL h88
          refine qjs S0 bS il zd e (H5:=upd H8 p8 (HO.lst [v,u])) (fun b o hb=>Kp.upd b o (qam hb p5N) (s58 b o hb)) qad (nv.tp tp) (nu.tp tp) (oB.mono (by decide)) (oA.mono (by decide)) (by rw [vA,vB];exact inl.neg c0) fun la' ha' lo' hi' H' e'=>?_
          exact ⟨la',ha',lo',hi',_,_,_,rfl,il,e'⟩
        · have c:¬ z.1<0:=fun z=>c (decide_eq_true z)
          have c0:=(qhh cz.1.pos).2 c
          refine qjs S0 bS il zd e s58 h88 nu nv (oA.mono (by decide)) (oB.mono (by decide)) (by rw [vA,vB];exact inl.pos c0) fun la' ha' lo' hi' H' e'=>?_
          exact ⟨la',ha',lo',hi',_,_,_,rfl,il,e'⟩
    · have c:z=(0,1):=by
        by_cases h:z=(0,1)
        · exact h
        · exact absurd (show (!decide (z=(0,1)))=true by rw [decide_eq_false h];rfl) c
      refine ⟨la,ha,lo,hi,_,_,_,rfl,il,e.s,e.hl,e.hh,e.ol.mono (by omega),e.oh.mono (by omega),e.inl.congr fun l=>?_⟩
      show _=val q+(Sg (fun j=>val (ls.getD j (0,1))*l j) i+val (ls.getD i (0,1))*l i)
      rw [zd,c]
      have:val (0,1)=0:=by show ((0:Int):Rat) / ((1:Int):Rat)=0;push_cast;grind
      rw [this];grind
  · rintro σ H' ⟨la,ha,lo,hi,o5,o6,o7,rfl,_,e⟩
    have e:So H2 H' la ha lo hi q S ls 8:=e
    show qeO K _ _ _
    refine qcD (qaz ⟨_,rfl,_,rfl,qb4,fun r hr=>?_⟩)
    have sr:=qaf hr (HO.tup [V.ref la,V.ref ha])
    have bD:Bd 2000 (60*S):=((show Bd 6 60 by unfold Bd;decide).mul bS).mono (by decide)
    exact k r la ha lo hi _ ((s2.trans e.s).trans sr) qad (sr _ _ e.hl) (sr _ _ e.hh) (e.ol.sl D0 (by decide) bD) (e.oh.sl D0 (by decide) bD) e.inl
theorem qoX (ns:List Int) {lo hi:Int} (h:0≤lo) (h2:lo≤hi):∃ ms:List Int,qjF (ns.map V.int) (some lo) (some hi)=ms.map V.int∧(ms.length:Int)≤hi - lo:=by
  unfold qjF HT.sIx
  rw [← List.map_drop,← List.map_take]
  refine ⟨_,rfl,?_⟩
  rw [List.length_take,List.length_drop]
  simp only [if_neg (show ¬ lo<0 by omega),if_neg (show ¬ hi<0 by omega)]
  omega
theorem qhi {q r:Nu} (hq:0<q.2) (hr:0<r.2) (h:val q≤val r):decide (q.1*r.2≤r.1*q.2)=true:=by
  refine decide_eq_true ?_
  have:=(qjp (a:=r.1) (b:=r.2) (c:=q.1) (d:=q.2) hr hq)
  have n:¬ val (r.1,r.2)<val (q.1,q.2):=Rat.not_lt.mpr h
  rw [this] at n
  omega
theorem Cz.mulM {t n:Nat} {q:Nu} {m:Int} (h:Cz t q) (bm:Bd n m):Cz (t+n) (nmul q (m,1))∧val (nmul q (m,1))=(m:Rat)*val q:=by
  obtain ⟨lo,k,ek,b⟩:=h
  have v:val (nmul q (m,1))=(m:Rat)*val q:=by
    rw [qdR lo.pos (by show (0:Int)<1;decide)]
    have:val (m,1)=(m:Rat):=by show (m:Rat) / ((1:Int):Rat)=_;push_cast;grind
    rw [this];grind
  exact ⟨⟨qdQ lo.pos (by show (0:Int)<1;decide),k*m,by rw [v,ek];push_cast;grind,b.mul bm⟩,v⟩
theorem qor {p:Nat} {m:Int} {xs:List (Nu×Nu)} (h:∀ x∈xs,Cz 9 x.1) (bm:Bd 37 m):WR p (xs.map fun x=>(nmul x.1 (m,1),x.2))=(m:Rat)*WR p xs:=by
  induction xs with
  | nil=>show (0:Rat)=_*0;grind
  | cons x xs ih=>
    have i2:=ih fun y hy=>h y (List.mem_cons_of_mem _ hy)
    show val (nmul x.1 (m,1))*((vpI p x.2.1:Rat) - (vpI p x.2.2:Rat))+WR p (xs.map fun x=>(nmul x.1 (m,1),x.2))=(m:Rat)*(val x.1*((vpI p x.2.1:Rat) - (vpI p x.2.2:Rat))+WR p xs)
    rw [i2,((h x (List.mem_cons_self ..)).mulM bm).2]
    generalize (m:Rat)=a,val x.1=b,(vpI p x.2.1:Rat) - (vpI p x.2.2:Rat)=c,WR p xs=d
    grind
theorem qos {j:Nat} {m:Int} {ys:List (Nu×List Int)} (h:∀ y∈ys,Cz 9 y.1) (bm:Bd 37 m):WW j (ys.map fun x=>(nmul x.1 (m,1),x.2))=(m:Rat)*WW j ys:=by
  induction ys with
  | nil=>show (0:Rat)=_*0;grind
  | cons x xs ih=>
    have i2:=ih fun y hy=>h y (List.mem_cons_of_mem _ hy)
    show val (nmul x.1 (m,1))*((x.2.getD j 0:Int):Rat)+WW j (xs.map fun x=>(nmul x.1 (m,1),x.2))=(m:Rat)*(val x.1*((x.2.getD j 0:Int):Rat)+WW j xs)
    rw [i2,((h x (List.mem_cons_self ..)).mulM bm).2]
    generalize (m:Rat)=a,val x.1=b,((x.2.getD j 0:Int):Rat)=c,WW j xs=d
    grind
theorem qme {z:Nu}:decide (z=(0,1))=true↔qiQ z=qiQ (0,1):=by
  constructor
  · intro h
    rw [of_decide_eq_true h]
  · intro h
    have h:PySem.W.Dat.tuple [.int z.1,.int z.2]=.tuple [.int 0,.int 1]:=h
    injection h with h
    injection h with h1 h2
    injection h2 with h2 _
    injection h1 with h1
    injection h2 with h2
    exact decide_eq_true (Prod.ext h1 h2)
theorem qmf:val (0,1)=0:=by show ((0:Int):Rat) / ((1:Int):Rat)=0;push_cast;grind
theorem qmg {q r:Nu} (h:Sl q) (h':Sl r):Bd 60000000 (nadd q r).1∧Bd 60000000 (nadd q r).2:=by
  have v:=qbO h.1.pos h'.1.pos
  have lo:=qdP h.1.pos h'.1.pos
  have o:OvD (q.2*r.2) 4001 (nadd q r):=⟨lo,q.1*r.2+r.1*q.2,by
    rw [v]
    unfold val
    have a:=qa6 (show q.2≠0 by have:=h.1.pos;omega)
    have b:=qa6 (show r.2≠0 by have:=h'.1.pos;omega)
    have h1:(q.2:Rat)*(q.2:Rat)⁻¹=1:=Rat.mul_inv_cancel _ a
    have h2:(r.2:Rat)*(r.2:Rat)⁻¹=1:=Rat.mul_inv_cancel _ b
    rw [Rat.div_def,Rat.div_def,Rat.div_def]
    push_cast
    rw [Rat.inv_mul_rev]
    generalize (q.2:Rat)⁻¹=i at *
    generalize (r.2:Rat)⁻¹=j at *
    grind,(h.2.1.mul h'.2.2).add (h'.2.1.mul h.2.2)⟩
  exact (o.big (Int.mul_pos h.1.pos h'.1.pos) (by decide) ((h.2.2.mul h'.2.2).mono (by decide))).2
theorem qhj {K:W.Frag} {D:Ends} {a b d q:Addr} {o4:Option V} {ns:List Int} {us ws:List V} {xs:List (Nu×Nu)} {ys:List (Nu×List Int)} {z:Nu} {H:Hp} (hS:SqL K H a (ns.map V.int)) (hb:H b=some (.lst us)) (hx:Al (Rw H) us xs) (hd:H d=some (.lst ws)) (hy:Al (Wn H) ws ys) (lx:xs.length≤24) (ly:ys.length≤24) (px:∀ x∈xs,Rz 60 x) (py:∀ y∈ys,Wz 60 y) (wr:∀ j,j<8→WR (pj j) xs=WW j ys) (hq:Nm H q z.1 z.2) (cq:Cz 60 z) (hT:H qfl=some (.tbl #[])) (k:∀ H',D.rt (.bl true) H'):qi9 K D [some (.ref a),some (.ref b),some (.ref d),some (.ref q),o4,none,none,none,none,none] H:=by
  have lu:=hx.length
  refine qaJ (qko (qhb ⟨_,rfl,b,rfl,⟨_,SqL.of hb⟩,CompF.lst (xs:=us) (fun i vs H'=>i≤us.length∧Same H H'∧vs.length≤i∧∃ xs':List (Nu×Nu),Al (Rw H') vs xs'∧(∀ x∈xs',Rz 60 x)∧∀ p,WR p xs'=WR p (xs.take i)) ⟨Nat.zero_le _,Same.refl H,Nat.le_refl _,[],trivial,(fun _ h=>nomatch h),fun p=>by rw [List.take_zero]⟩ ?_ ?_ ?_⟩))
  · rintro i vs H' ⟨hi,s1,vl,_⟩
    exact ⟨hi,sz (by omega),SqL.of (s1 _ _ hb)⟩
  · rintro i v vs H' hv ⟨hi,s1,vl,xs',al,px',wx⟩
    obtain ⟨x,hx',a',c',d',rfl,h1,h2,h3⟩:=hx.get hv
    have il:=(List.getElem?_eq_some_iff.mp hv).1
    have xm:x∈xs:=by obtain ⟨w,e⟩:=List.getElem?_eq_some_iff.mp hx';exact e ▸ List.getElem_mem w
    have tk:xs.take (i+1)=xs.take i++[x]:=by rw [List.take_add_one,hx'];rfl
    refine qlT ?_
    refine qkW (qjG ⟨_,rfl,_,_,_,_,rfl,rfl,s1 _ _ h1,rfl,qaz ⟨qb4,fun p5 hp5=>?_⟩⟩)
    have s5:=qaf hp5 (HO.tup [V.int 0,V.int 1])
    have h55:upd H' p5 (HO.tup [V.int 0,V.int 1]) p5=_:=qad
    have s15:=s1.trans s5
    show neD _ _ _ _
    generalize upd H' p5 (HO.tup [V.int 0,V.int 1])=H5 at s5 h55 s15 ⊢
    have al:=al.mono fun _ _ h=>h.tp (tpS s5)
    refine ⟨qiQ x.1,qiQ (0,1),decide (x.1=(0,1)),qnj ⟨c',rfl,s15 _ _ h2⟩,qnj ⟨p5,rfl,h55⟩,okN _ _,okN _ _,qme,_,rfl,qcn (fun c=>?_) (fun c=>?_)⟩
    · refine ⟨_,rfl,il,s15,by rw [List.length_append];exact Nat.succ_le_succ vl,xs'++[x],al.snoc ⟨a',c',d',rfl,s15 _ _ h1,s15 _ _ h2,s15 _ _ h3⟩,fun y hy=>?_,fun p=>?_⟩
      · rcases List.mem_append.mp hy with h | h
        · exact px' y h
        · rw [List.mem_singleton.mp h];exact px x xm
      · rw [tk,qhd,qhd,wx p]
    · have c:x.1=(0,1):=by
        by_cases h:x.1=(0,1)
        · exact h
        · exact absurd (show (!decide (x.1=(0,1)))=true by rw [decide_eq_false h];rfl) c
      refine ⟨il,s15,by omega,xs',al,px',fun p=>?_⟩
      rw [tk,qhd,wx p]
      show _=_+(val x.1*_+0)
      rw [c,qmf];grind
  rintro vs H1 ⟨_,s1,vl,xs',al,px',wx⟩ l1 hl1
  rw [lu,List.take_length] at wx
  have s2:=qaf hl1 (HO.lst vs)
  have h11:upd H1 l1 (HO.lst vs) l1=_:=qad
  have s12:=s1.trans s2
  have al:=al.mono fun _ _ h=>h.tp (tpS s2)
  have lal:=al.length
  show qiC _ _ _
  generalize upd H1 l1 (HO.lst vs)=H2 at s2 h11 s12 al ⊢
  refine ⟨l1,vs,rfl,h11,fun t1 ht1=>?_⟩
  have s3:=qaf ht1 (HO.tup vs)
  have h33:upd H2 t1 (HO.tup vs) t1=_:=qad
  have s13:=s12.trans s3
  have al:=al.mono fun _ _ h=>h.tp (tpS s3)
  show qi8 K _ [some (.ref a),some (.ref b),some (.ref d),some (.ref q),o4,some (.ref t1),none,none,none,none] _
  generalize upd H2 t1 (HO.tup vs)=H3 at s3 h33 s13 al ⊢
  refine qlR (qaV ⟨_,rfl,a,ns,1,rfl,s13.seq hS,by decide,fun n1=>⟨n1,rfl,fun w wd H4 s4 hw sw w40=>?_⟩⟩)
  have s14:=s13.trans s4
  have h43:=s4 _ _ h33
  have al:=al.mono fun _ _ h=>h.tp (tpS s4)
  show qi7 K _ [some (.ref a),some (.ref b),some (.ref d),some (.ref q),o4,some (.ref t1),some (.ref w),none,none,none] _
  refine qb3 (qaz ⟨_,rfl,_,rfl,qb4,fun o ho=>?_⟩)
  have s5:=qaf ho (HO.tup [V.ref q,V.ref t1])
  have h55:upd H4 o (HO.tup [V.ref q,V.ref t1]) o=_:=qad
  have s15:=s14.trans s5
  have h53:=s5 _ _ h43
  have hw5:=s5 _ _ hw
  have al:=al.mono fun _ _ h=>h.tp (tpS s5)
  show ∃ _,_
  generalize upd H4 o (HO.tup [V.ref q,V.ref t1])=H5 at s5 h55 s15 h53 hw5 al ⊢
  have h5T:=s15 _ _ hT
  refine ⟨_,rfl,o,w,q,t1,vs,z,wd,xs',rfl,h55,s15 _ _ hq,h53,al,hw5,cq,px',by omega,sw,w40,h5T,fun r a1 d1 lo hi H6 kp hr ha hd1 sl sh le wle inl=>?_⟩
  have tp:Tp H5 H6:=fun c zs hc=>kp c _ (qeq hc h5T (by intro z;cases z)) hc
  have lp:∀ c zs,H5 c=some (.lst zs)→H6 c=some (.lst zs):=fun c zs hc=>kp c _ (qeq hc h5T (by intro z;cases z)) hc
  have hq6:=tp _ _ (s15 _ _ hq)
  have hw6:=tp _ _ hw5
  have hd6:=lp _ _ (s15 _ _ hd)
  have hy6:Al (Wn H6) ws ys:=hy.mono fun _ _ h=>by
    obtain ⟨a,b,w,rfl,h1,h2,h3⟩:=h
    exact ⟨a,b,w,rfl,tp _ _ (s15 _ _ h1),tp _ _ (s15 _ _ h2),lp _ _ (s15 _ _ h3)⟩
  show qi6 K _ [some (.ref a),some (.ref b),some (.ref d),some (.ref q),o4,some (.ref t1),some (.ref w),some (.ref r),none,none] _
  refine qlU ⟨_,rfl,_,_,_,rfl,qit hr,_,rfl,qcn (fun c=>by cases c) fun _=>⟨_,rfl,r,_,rfl,hr,rfl,_,rfl,qcn (fun c=>by cases c) fun _=>⟨_,rfl,r,0,_,_,rfl,rfl,hr,rfl,a1,lo.1,lo.2,rfl,ha,sl.1,fun H7 s7=>⟨_,rfl,qcn (fun c=>by cases c) fun _=>⟨_,rfl,r,1,_,_,rfl,rfl,s7 _ _ hr,rfl,d1,hi.1,hi.2,rfl,s7 _ _ hd1,sh.1,fun H8 s8=>⟨_,rfl,qcn (fun c=>by cases c) fun _=>?_⟩⟩⟩⟩⟩⟩
  have s68:=s7.trans s8
  have hr:=s68 _ _ hr
  have ha:=s68 _ _ ha
  have hd1:=s68 _ _ hd1
  have hq6:=s68 _ _ hq6
  have hw6:=s68 _ _ hw6
  have hd6:=s68 _ _ hd6
  have hy6:=hy6.mono fun _ _ h=>h.same s68
  show qi5 K _ _ _
  obtain ⟨l0,l1',l2⟩:=sl.big
  obtain ⟨u0,u1,u2⟩:=sh.big
  obtain ⟨w0,w1,w2⟩:=sw.big
  refine qlU ⟨_,rfl,r,0,_,_,rfl,rfl,hr,rfl,_,rfl,r,1,_,_,rfl,rfl,hr,rfl,a1,d1,lo.1,lo.2,hi.1,hi.2,rfl,ha,hd1,l1',l2,u1,u2,_,rfl,qcn (fun c=>?_) fun _=>?_⟩
  · rw [qhi l0 u0 le] at c;cases c
  have vp:=qbO l0 w0
  have np:0<(nadd lo wd).2:=(qdP l0 w0).pos
  refine ⟨_,rfl,r,1,_,_,rfl,rfl,hr,rfl,qaV ⟨_,rfl,r,0,_,_,rfl,rfl,hr,rfl,_,rfl,a1,w,lo.1,lo.2,wd.1,wd.2,rfl,ha,hw6,l0,w0,l1',l2,w1,w2,fun p9 hp9=>?_⟩⟩
  have s9:=qaf hp9 (HO.tup [V.int (nadd (lo.1,lo.2) (wd.1,wd.2)).1,V.int (nadd (lo.1,lo.2) (wd.1,wd.2)).2])
  have h99:upd H8 p9 (HO.tup [V.int (nadd (lo.1,lo.2) (wd.1,wd.2)).1,V.int (nadd (lo.1,lo.2) (wd.1,wd.2)).2]) p9=_:=qad
  show ∃ _,_
  generalize upd H8 p9 (HO.tup [V.int (nadd (lo.1,lo.2) (wd.1,wd.2)).1,V.int (nadd (lo.1,lo.2) (wd.1,wd.2)).2])=H9 at s9 h99 ⊢
  have bn:=qmg sl sw
  refine ⟨d1,p9,hi.1,hi.2,(nadd lo wd).1,(nadd lo wd).2,rfl,s9 _ _ hd1,h99,u1,u2,bn.1,bn.2,_,rfl,qcn (fun c=>?_) fun _=>?_⟩
  · rw [qhi (r:=nadd lo wd) u0 np (by rw [vp];grind)] at c;cases c
  have hr:=s9 _ _ hr
  have ha:=s9 _ _ ha
  have hd1:=s9 _ _ hd1
  have hq6:=s9 _ _ hq6
  have hd6:=s9 _ _ hd6
  have hy6:=hy6.mono fun _ _ h=>h.same s9
  show qi4 K _ _ _
  refine qgY (qfS ⟨_,rfl,qaV ⟨_,rfl,d,ws,ys,rfl,hd6,hy6,py,ly,fun g ts ls H10 s10 hg hn l8 lo' cz vl=>?_⟩⟩)
  have S0:(0:Int)<(10:Int) ^ 40*(10:Int) ^ 40:=by decide +kernel
  have bS:Bd 300 ((10:Int) ^ 40*(10:Int) ^ 40):=Bd.mono (m:=280) (by unfold Bd;decide +kernel) (by decide)
  have b40:Bd 140 ((10:Int) ^ 40):=by unfold Bd;decide +kernel
  refine ⟨_,_,rfl,rfl,⟨by decide,by decide,by decide⟩,_,_,rfl,rfl,⟨by decide,by decide,by decide⟩,_,_,rfl,rfl,qlX b40 b40,q,g,(10:Int) ^ 40*(10:Int) ^ 40,z,ts,ls,rfl,s10 _ _ hq6,cq,hg,hn,l8,cz,S0,bS,fun r2 a2 d2 lo2 hi2 H11 s11 hr2 ha2 hd2 sl2 sh2 inl2=>?_⟩
  have hr:=(s10.trans s11) _ _ hr
  have ha:=(s10.trans s11) _ _ ha
  have hd1:=(s10.trans s11) _ _ hd1
  refine ⟨r2,_,rfl,hr2,rfl,_,_,rfl,_,_,rfl,rfl,?_⟩
  show qi3 K _ [some (.ref a),some (.ref b),some (.ref d),some (.ref q),o4,some (.ref t1),some (.ref w),some (.ref r),some (.ref a2),some (.ref d2)] _
  have inl2:InL (val lo2) (val hi2) (fun l=>val z+Sg (fun j=>WR (pj j) xs'*l j) 8):=inl2.congr fun l=>by
    show val z+Sg _ 8=_
    rw [qbB (g:=fun j=>WR (pj j) xs'*l j) 8 fun j hj=>?_]
    have:ls[j]?=some (ls[j]'(by omega)):=List.getElem?_eq_getElem (by omega)
    rw [List.getD_eq_getElem?_getD,this,Option.getD_some]
    rw [vl j _ this,← wr j hj,wx]
  have c1:=inl.cross inl2
  have c2:=inl2.cross inl
  obtain ⟨v0,v1,v2⟩:=sl2.big
  obtain ⟨x0,x1,x2⟩:=sh2.big
  refine qcD ⟨_,rfl,r,0,_,_,rfl,rfl,hr,rfl,_,rfl,a1,d2,lo.1,lo.2,hi2.1,hi2.2,rfl,ha,hd2,l1',l2,x1,x2,_,rfl,qcn (fun c=>?_) fun c=>?_⟩
  · refine ⟨_,rfl,_,rfl,r,1,_,_,rfl,rfl,hr,rfl,a2,d1,lo2.1,lo2.2,hi.1,hi.2,rfl,ha2,hd1,v1,v2,u1,u2,?_⟩
    rw [qhi v0 u0 c2];exact k _
  · exact absurd (qhi l0 x0 c1) c
theorem qnK (h:qfW K vs H Q E):qoi K { nx:=fun _ H'=>Q .non H',rt:=Q } (L2.start ["_law_script", "_law_rows_here", "_law_wanted", "_law_q", "_law_times_so", "_law_pairs", "_law_width_here", "_law_found", "_law_low", "_law_high"] vs) H:=by
  obtain ⟨a,ns,rfl,hS,_,hT,k⟩:=h
  obtain ⟨ms,ems,l6⟩:=qoX ns (lo:=2) (hi:=8) (by decide) (by decide)
  refine qgY (qlS ⟨_,rfl,2,rfl,8,rfl,a,_,rfl,hS,fun p hp=>?_⟩)
  rw [ems]
  have s1:=qaf hp (HO.lst (ms.map V.int))
  have hpp:upd H p (HO.lst (ms.map V.int)) p=_:=qad
  show qb5 K _ _ _ _
  generalize upd H p (HO.lst (ms.map V.int))=H1 at s1 hpp ⊢
  refine ⟨p,ms,rfl,hpp,by omega,fun r b d us ws xs ys H2 s2 hr hb hx hd hy lx ly px py wr=>?_⟩
  have s12:=s1.trans s2
  refine ⟨r,_,rfl,hr,rfl,_,_,rfl,_,_,rfl,rfl,?_⟩
  show qjb K _ [some (.ref a),some (.ref b),some (.ref d),none,none,none,none,none,none,none] _
  refine qb3 (qaV ⟨_,rfl,a,ns,0,rfl,s12.seq hS,by decide,fun n=>⟨n,3,rfl,by decide,by decide,fun q t e hq cz=>?_⟩⟩)
  have s3:=qaf hq (HO.tup [V.int t,V.int e])
  have hqq:upd H2 q (HO.tup [V.int t,V.int e]) q=_:=qad
  have s13:=s12.trans s3
  have hb:=s3 _ _ hb
  have hd:=s3 _ _ hd
  have hx:=hx.mono fun _ _ h=>h.tp (tpS s3)
  have hy:=hy.mono fun _ _ h=>h.same s3
  show qja K _ [some (.ref a),some (.ref b),some (.ref d),some (.ref q),none,none,none,none,none,none] _
  generalize upd H2 q (HO.tup [V.int t,V.int e])=H3 at s13 hqq hb hd hx hy ⊢
  have hT3:=s13 _ _ hT
  have hS3:=s13.seq hS
  have lu:=hx.length
  have lw:=hy.length
  refine qlU (qkW (qjG (qfS (qaV ⟨_,rfl,a,ns,0,rfl,hS3,by decide,fun n2=>⟨n2,6,4,rfl,by decide,by decide,by decide,fun dd _ _=>⟨rfl,_,rfl,qcn (fun c=>?_) (fun c=>?_)⟩⟩⟩))))
  · show qeS K _ _ _
    have hP:(10:Int) ^ (11:Int).toNat=100000000000:=by decide
    refine qaJ (qaz (qjG (r_c (qjG (qaV ⟨_,rfl,a,ns,1,rfl,hS3,by decide,fun n3=>⟨_,_,rfl,rfl,⟨by decide,by decide,by decide⟩,_,_,rfl,rfl,(show (0:Int)<(10:Int) ^ (11:Int).toNat by decide),_,_,rfl,rfl,qb4,fun f hf=>?_⟩⟩)))))
    have bm:Bd 37 (1+n3 % (10:Int) ^ (11:Int).toNat):=by
      rw [hP]
      show (1+n3 % 100000000000).natAbs<137438953472
      omega
    show qeR K _ [some (.ref a),some (.ref b),some (.ref d),some (.ref q),some (.ref f),none,none,none,none,none] (upd H3 f (HO.tup [V.int (1+n3 % (10:Int) ^ (11:Int).toNat),V.int 1]))
    generalize 1+n3 % (10:Int) ^ (11:Int).toNat=m at bm hf ⊢
    have s4:=qaf hf (HO.tup [V.int m,V.int 1])
    have hff:upd H3 f (HO.tup [V.int m,V.int 1]) f=_:=qad
    generalize upd H3 f (HO.tup [V.int m,V.int 1])=H4 at s4 hff ⊢
    have hb:=s4 _ _ hb
    refine qaJ (qd9 ⟨_,rfl,b,rfl,⟨_,SqL.of hb⟩,CompJ.lst (xs:=us) (fun i vs H'=>i≤us.length∧Same H4 H'∧vs.length=i∧Al (Rw H') vs ((xs.take i).map fun x=>(nmul x.1 (m,1),x.2))) ⟨Nat.zero_le _,Same.refl _,rfl,by rw [List.take_zero];trivial⟩ ?_ ?_ ?_⟩)
    · rintro i vs H' ⟨hi,s5,vl,_⟩
      exact ⟨hi,sz (by omega),SqL.of (s5 _ _ hb)⟩
    · rintro i v vs H5 hv ⟨hi,s5,vl,al⟩
      obtain ⟨x,hx',a',c',d',rfl,h1,h2,h3⟩:=hx.get hv
      have il:=(List.getElem?_eq_some_iff.mp hv).1
      have xm:x∈xs:=by obtain ⟨w,e⟩:=List.getElem?_eq_some_iff.mp hx';exact e ▸ List.getElem_mem w
      have tk:xs.take (i+1)=xs.take i++[x]:=by rw [List.take_add_one,hx'];rfl
      have cx:=(px x xm).1
      obtain ⟨b1,b2⟩:=cx.bd
      have s35:=s4.trans s5
      refine ⟨a',_,rfl,s35 _ _ h1,rfl,_,_,rfl,_,_,rfl,rfl,?_⟩
      show qbf _ [some (.ref c'),some (.ref d'),some (.ref f)] _ _
      refine qaz (qaV ⟨_,rfl,_,rfl,c',f,x.1.1,x.1.2,m,1,rfl,s35 _ _ h2,s5 _ _ hff,cx.1.pos,by decide,b1.mono (by decide),b2.mono (by decide),bm.mono (by decide),(show Bd 1 1 by unfold Bd;decide).mono (by decide),fun r6 hr6=>?_⟩)
      have s6:=qaf hr6 (HO.tup [V.int (nmul (x.1.1,x.1.2) (m,1)).1,V.int (nmul (x.1.1,x.1.2) (m,1)).2])
      have h66:upd H5 r6 (HO.tup [V.int (nmul (x.1.1,x.1.2) (m,1)).1,V.int (nmul (x.1.1,x.1.2) (m,1)).2]) r6=_:=qad
      show ∃ _,_
      generalize upd H5 r6 (HO.tup [V.int (nmul (x.1.1,x.1.2) (m,1)).1,V.int (nmul (x.1.1,x.1.2) (m,1)).2])=H6 at s6 h66 ⊢
      refine ⟨_,rfl,qb4,fun p7 hp7=>?_⟩
      have s7:=qaf hp7 (HO.tup [V.ref r6,V.ref d'])
      have s67:=s6.trans s7
      refine ⟨il,s5.trans s67,by rw [List.length_append,vl];rfl,?_⟩
      rw [tk,List.map_append]
      exact (al.mono fun _ _ h=>h.tp (tpS s67)).snoc ⟨p7,r6,d',rfl,qad,s7 _ _ h66,(s35.trans s67) _ _ h3⟩
    rintro vs H5 ⟨_,s5,vl,al⟩ l6' hl6
    rw [lu,List.take_length] at al
    have s6:=qaf hl6 (HO.lst vs)
    have h66:upd H5 l6' (HO.lst vs) l6'=_:=qad
    have al:=al.mono fun _ _ h=>h.tp (tpS s6)
    have s36:=s4.trans (s5.trans s6)
    have hff:=(s5.trans s6) _ _ hff
    show qeQ K _ [some (.ref a),some (.ref l6'),some (.ref d),some (.ref q),some (.ref f),none,none,none,none,none] _
    generalize upd H5 l6' (HO.lst vs)=H6 at s6 h66 al s36 hff ⊢
    have hd6:=s36 _ _ hd
    refine qfT (qd9 ⟨_,rfl,d,rfl,⟨_,SqL.of hd6⟩,CompJ.lst (xs:=ws) (fun i vs H'=>i≤ws.length∧Same H6 H'∧vs.length=i∧Al (Wn H') vs ((ys.take i).map fun x=>(nmul x.1 (m,1),x.2))) ⟨Nat.zero_le _,Same.refl _,rfl,by rw [List.take_zero];trivial⟩ ?_ ?_ ?_⟩)
    · rintro i vs H' ⟨hi,s5,vl,_⟩
      exact ⟨hi,sz (by omega),SqL.of (s5 _ _ hd6)⟩
    · rintro i v vs H7 hv ⟨hi,s7,vl,al⟩
      obtain ⟨x,hx',a',c',d',rfl,h1,h2,h3⟩:=hy.get hv
      have il:=(List.getElem?_eq_some_iff.mp hv).1
      have xm:x∈ys:=by obtain ⟨w,e⟩:=List.getElem?_eq_some_iff.mp hx';exact e ▸ List.getElem_mem w
      have tk:ys.take (i+1)=ys.take i++[x]:=by rw [List.take_add_one,hx'];rfl
      have cx:=(py x xm).1
      obtain ⟨b1,b2⟩:=cx.bd
      have s37:=s36.trans s7
      refine ⟨a',_,rfl,s37 _ _ h1,rfl,_,_,rfl,_,_,rfl,rfl,?_⟩
      show qbf _ [some (.ref c'),some (.ref d'),some (.ref f)] _ _
      refine qaz (qaV ⟨_,rfl,_,rfl,c',f,x.1.1,x.1.2,m,1,rfl,s37 _ _ h2,s7 _ _ hff,cx.1.pos,by decide,b1.mono (by decide),b2.mono (by decide),bm.mono (by decide),(show Bd 1 1 by unfold Bd;decide).mono (by decide),fun r8 hr8=>?_⟩)
      have s8:=qaf hr8 (HO.tup [V.int (nmul (x.1.1,x.1.2) (m,1)).1,V.int (nmul (x.1.1,x.1.2) (m,1)).2])
      have h88:upd H7 r8 (HO.tup [V.int (nmul (x.1.1,x.1.2) (m,1)).1,V.int (nmul (x.1.1,x.1.2) (m,1)).2]) r8=_:=qad
      show ∃ _,_
      generalize upd H7 r8 (HO.tup [V.int (nmul (x.1.1,x.1.2) (m,1)).1,V.int (nmul (x.1.1,x.1.2) (m,1)).2])=H8 at s8 h88 ⊢
      refine ⟨_,rfl,qb4,fun p9 hp9=>?_⟩
      have s9:=qaf hp9 (HO.tup [V.ref r8,V.ref d'])
      have s89:=s8.trans s9
      refine ⟨il,s7.trans s89,by rw [List.length_append,vl];rfl,?_⟩
      rw [tk,List.map_append]
      exact (al.mono fun _ _ h=>h.same s89).snoc ⟨p9,r8,d',rfl,qad,s9 _ _ h88,(s37.trans s89) _ _ h3⟩
    rintro vs2 H7 ⟨_,s7,vl2,al2⟩ l8 hl8
    rw [lw,List.take_length] at al2
    have s8:=qaf hl8 (HO.lst vs2)
    have s68:=s7.trans s8
    have s38:=s36.trans s68
    refine qhj (ns:=ns) (us:=vs) (ws:=vs2) (xs:=xs.map fun x=>(nmul x.1 (m,1),x.2)) (ys:=ys.map fun x=>(nmul x.1 (m,1),x.2)) (z:=(t,e)) (s38.seq hS3) (s68 _ _ h66) (al.mono fun _ _ h=>h.tp (tpS s68)) qad (al2.mono fun _ _ h=>h.same s8) (by rw [List.length_map];omega) (by rw [List.length_map];omega) (fun x hx=>?_) (fun y hy=>?_) (fun j hj=>?_) (s38 _ _ hqq) (cz.mono (by decide)) (s38 _ _ hT3) k
    · obtain ⟨x,hxm,rfl⟩:=List.mem_map.mp hx
      obtain ⟨c1,c2⟩:=px x hxm
      exact ⟨(c1.mulM bm).1.mono (by decide),c2⟩
    · obtain ⟨y,hym,rfl⟩:=List.mem_map.mp hy
      obtain ⟨c1,c2⟩:=py y hym
      exact ⟨(c1.mulM bm).1.mono (by decide),c2⟩
    · rw [qor (fun x hx=>(px x hx).1) bm,qos (fun y hy=>(py y hy).1) bm,wr j hj]
  · exact qhj (z:=(t,e)) hS3 hb hx hd hy lx ly (fun x hx=>⟨(px x hx).1.mono (by decide),(px x hx).2⟩) (fun y hy=>⟨(py y hy).1.mono (by decide),(py y hy).2⟩) wr hqq (cz.mono (by decide)) hT3 k
end Bs
namespace Bs
open PySem PySem.Spec PyProof.Rows L2
set_option maxHeartbeats 4000000
open Hd
structure Bl (K:W.Frag) (mg:Str→Option Value):Prop where
  abs:mg "abs" = none
  sorted:mg "sorted" = none
  tuple:mg "tuple" = none
  list:mg "list" = none
  FIRST_BITS:mg "FIRST_BITS" = some (.int 64 243)
  len:mg "len" = none
  isinstance:mg "isinstance" = none
  int:mg "int" = none
  bool:mg "bool" = none
  enumerate:mg "enumerate" = none
  range:mg "range" = none
  zip:mg "zip" = none
section
variable (P:Program) (w:World) (K:W.Frag) (mg:Str→Option Value) (base:Heap)
noncomputable abbrev qaU:Prop:=Cal P w K mg base 1 "common_divisor" ["one", "other"] (qax K)
noncomputable abbrev qel:Prop:=Cal P w K mg base 2 "ratio" ["top", "bottom"] (qbh K)
noncomputable abbrev qju:Prop:=Cal P w K mg base 3 "plus" ["one", "other"] (qdh K)
noncomputable abbrev qjv:Prop:=Cal P w K mg base 3 "minus" ["one", "other"] (qdU K)
noncomputable abbrev qgw:Prop:=Cal P w K mg base 3 "times" ["one", "other"] (qcP K)
noncomputable abbrev qhk:Prop:=Cal P w K mg base 1 "before" ["one", "other"] (qb6 K)
noncomputable abbrev qb0:Prop:=Cal P w K mg base 6 "settled_number" ["q", "rows"] (qaI K)
noncomputable abbrev qb1:Prop:=Cal P w K mg base 5 "without_common" ["pieces"] (qaO K)
noncomputable abbrev qcl:Prop:=Cal P w K mg base 4 "pieces_of_two" ["one", "other"] (qaT K)
noncomputable abbrev qlc:Prop:=Cal P w K mg base 7 "held" ["one", "width"] (qfm K)
noncomputable abbrev qf3:Prop:=Cal P w K mg base 4 "ends_of" ["n", "bits"] (qbF K)
noncomputable abbrev qeT:Prop:=Cal P w K mg base 2 "log_ends" ["whole", "bits"] (qbR K)
noncomputable abbrev qc8:Prop:=Cal P w K mg base 1 "series_ends" ["top", "bottom", "bits"] (qaS K)
noncomputable abbrev qld:Prop:=Cal P w K mg base 1 "_law_at" ["_law_script", "_law_k"] (qcE K)
noncomputable abbrev qcr:Prop:=Cal P w K mg base 1 "_law_draw" ["_law_cell", "_law_k", "_law_many"] (qaQ K)
noncomputable abbrev qbk:Prop:=Cal P w K mg base 1 "_law_number" ["_law_top", "_law_bottom"] (qaM K)
noncomputable abbrev qdW:Prop:=Cal P w K mg base 2 "_law_plus" ["_law_one", "_law_other"] (qbn K)
noncomputable abbrev qcm:Prop:=Cal P w K mg base 2 "_law_times" ["_law_one", "_law_other"] (qaN K)
noncomputable abbrev qc9:Prop:=Cal P w K mg base 1 "_law_not_above" ["_law_one", "_law_other"] (qaG K)
noncomputable abbrev qda:Prop:=Cal P w K mg base 2 "_law_is_number" ["_law_found"] (qaR K)
noncomputable abbrev qdl:Prop:=Cal P w K mg base 1 "_law_primes" [] (qbo K)
noncomputable abbrev qeU:Prop:=Cal P w K mg base 2 "_law_smooth" ["_law_cell"] (qbQ K)
noncomputable abbrev qem:Prop:=Cal P w K mg base 3 "_law_weights" ["_law_rows_here", "_law_many"] (qbq K)
noncomputable abbrev qmh:Prop:=Cal P w K mg base 2 "_law_c" ["_law_cell", "_law_k"] (qfV K)
noncomputable abbrev qhl:Prop:=Cal P w K mg base 3 "_law_rows" ["_law_cells"] (qb5 K)
noncomputable abbrev qen:Prop:=Cal P w K mg base 1 "_law_log_two" ["_law_z", "_law_scale"] (qa7 K)
noncomputable abbrev qdb:Prop:=Cal P w K mg base 2 "_law_prime_log" ["_law_prime", "_law_scale"] (qa4 K)
noncomputable abbrev qhm:Prop:=Cal P w K mg base 3 "_law_span" ["_law_q", "_law_weights_here", "_law_scale"] (qcQ K)
noncomputable abbrev qf4:Prop:=Cal P w K mg base 2 "_law_width" ["_law_cell"] (qcq K)
end
section
variable {P:Program} {w:World} {K:W.Frag} {mg:Str→Option Value} {base:Heap} {f:Addr} {fd:FuncData}
theorem okm {n:Str} {st:Stmt} {N ps:List Str} {k:Nat} {sp:Sp} {t:TS} (F:Fun K n n st f fd) (v:∀ {vs:List V} {H:Hp} {Q:VK} {E:XK},sp vs H Q E→t { nx:=fun _ H'=>Q .non H',rt:=Q } (start N vs) H) (d:∀ {cdv:Value} {A:Around} {outer:List Env} {s:Shared} {H:Hp} {E:XK} (hr:Room k (A.deeper (envOfC n (qat st) s.heap.objs.size f cdv))) (nd:N.Nodup) (hu:(A.deeper (envOfC n (qat st) s.heap.objs.size f cdv)).units<cLine) (hu64:(A.deeper (envOfC n (qat st) s.heap.objs.size f cdv)).units+64<cLine),PSs (qjT CX0 P w K mg base N n (qat st) f cdv A outer s H E).nox (qaL st) t) (S:FnScope N ps (qat st):=by exact ⟨rfl,rfl,rfl,by decide +kernel,rfl,by decide +kernel,by decide +kernel⟩) (len:∀ vs H Q E,sp vs H Q E→vs.length=ps.length:=by intro vs H Q E h;repeat (first | (obtain ⟨rfl,_⟩:=h;rfl) | obtain ⟨_,h⟩:=h)):FnOk P w K mg base CX0 (k+1) f fd ps sp:=F.ok S len fun cdv A outer s H vs Q E hr h=>⟨t,d hr S.nd hr.units0 hr.units,v h⟩
theorem qoY {n:Str} {st:Stmt} {c:Addr} {pm:Value} {N ps:List Str} {k:Nat} {sp:Sp} {t:TS} (l:K.lookup f=some ⟨.type "function", none,.func (PySem.W.fnOf n n (qaY st) (qaL st) (qat st) .none .none .none pm none (.ref c) .none),#[]⟩) (e:PySem.W.codeIn K (.ref c) n=true) (v:∀ {vs:List V} {H:Hp} {Q:VK} {E:XK},sp vs H Q E→t { nx:=fun _ H'=>Q .non H',rt:=Q } (start N vs) H) (d:∀ {A:Around} {outer:List Env} {s:Shared} {H:Hp} {E:XK} (hr:Room k (A.deeper (envOfC n (qat st) s.heap.objs.size f (.ref c)))) (nd:N.Nodup) (hu:(A.deeper (envOfC n (qat st) s.heap.objs.size f (.ref c))).units<cLine) (hu64:(A.deeper (envOfC n (qat st) s.heap.objs.size f (.ref c))).units+64<cLine),PSs (qjT CX0 P w K mg base N n (qat st) f (.ref c) A outer s H E).nox (qaL st) t) (S:FnScope N ps (qat st):=by exact ⟨rfl,rfl,rfl,by decide +kernel,rfl,by decide +kernel,by decide +kernel⟩) (len:∀ vs H Q E,sp vs H Q E→vs.length=ps.length:=by intro vs H Q E h;repeat (first | (obtain ⟨rfl,_⟩:=h;rfl) | obtain ⟨_,h⟩:=h)):FnOk P w K mg base CX0 (k+1) f (PySem.W.fnOf n n (qaY st) (qaL st) (qat st) .none .none .none pm none (.ref c) .none) ps sp:=qmF l e S len fun A outer s H vs Q E hr h=>⟨t,(d hr S.nd hr.units0 hr.units).nox,v h⟩
theorem li {a:Prop} {α:Type} {x:α}:x=x∨a:=Or.inl rfl
theorem qdm (F:Fun K "common_divisor" "common_divisor" qdC f fd) (B:Bl K mg)  : FnOk P w K mg base CX0 1 f fd ["one", "other"] (qax K):=okm F (qdi ) fun hr nd hu ht=>(qae (qbI PassesOwn.never (qaF qjO (pv 1) qab (nomark _)) (qae (qao (i:=2) nd rfl li (qan qlk (pv 0) (pv 1)))
    (qae (qao (i:=0) nd rfl li (pv 1))
    (qaj (qao (i:=1) nd rfl li (pv 2))))))
    (qaj (qay (qaX qcJ rfl B.abs qgM (qaa (pv 0) qag)))))
theorem qkF (F:Fun K "ratio" "ratio" qlt f fd) (B:Bl K mg) (c0:qaU P w K mg base):FnOk P w K mg base CX0 2 f fd ["top", "bottom"] (qbh K):=okm F (qkw ) fun hr nd hu ht=>(qae (qao (i:=2) nd rfl li (c0.pe hr (by decide) rfl (qaa (pv 0) (qaa (pv 1) qag))))
    (qae (qct (qaF qga (pv 1) qab (nomark _)) (qaj (qao (i:=2) nd rfl li (qfA qdq (pv 2)))) qaW)
    (qaj (qay (qaw (qaa (qan qcL (pv 0) (pv 2)) (qaa (qan qcL (pv 1) (pv 2)) qag)))))))
theorem qmi (F:Fun K "plus" "plus" qmM f fd) (B:Bl K mg) (c0:qel P w K mg base):FnOk P w K mg base CX0 3 f fd ["one", "other"] (qdh K):=okm F (qlY ) fun hr nd hu ht=>(qaj (qay (c0.pe hr (by decide) rfl (qaa (qan qaP (qan qaq (qap qah (pv 0) qab (fun _ _=>rfl)) (qap qah (pv 1) qab (fun _ _=>rfl))) (qan qaq (qap qah (pv 1) qab (fun _ _=>rfl)) (qap qah (pv 0) qab (fun _ _=>rfl)))) (qaa (qan qaq (qap qah (pv 0) qab (fun _ _=>rfl)) (qap qah (pv 1) qab (fun _ _=>rfl))) qag)))))
theorem qkG (F:Fun K "minus" "minus" qlu f fd) (B:Bl K mg) (c0:qel P w K mg base):FnOk P w K mg base CX0 3 f fd ["one", "other"] (qdU K):=okm F (qky ) fun hr nd hu ht=>(qaj (qay (c0.pe hr (by decide) rfl (qaa (qan qfB (qan qaq (qap qah (pv 0) qab (fun _ _=>rfl)) (qap qah (pv 1) qab (fun _ _=>rfl))) (qan qaq (qap qah (pv 1) qab (fun _ _=>rfl)) (qap qah (pv 0) qab (fun _ _=>rfl)))) (qaa (qan qaq (qap qah (pv 0) qab (fun _ _=>rfl)) (qap qah (pv 1) qab (fun _ _=>rfl))) qag)))))
theorem qkH (F:Fun K "times" "times" qlv f fd) (B:Bl K mg) (c0:qel P w K mg base):FnOk P w K mg base CX0 3 f fd ["one", "other"] (qcP K):=okm F (qkx ) fun hr nd hu ht=>(qaj (qay (c0.pe hr (by decide) rfl (qaa (qan qaq (qap qah (pv 0) qab (fun _ _=>rfl)) (qap qah (pv 1) qab (fun _ _=>rfl))) (qaa (qan qaq (qap qah (pv 0) qab (fun _ _=>rfl)) (qap qah (pv 1) qab (fun _ _=>rfl))) qag)))))
theorem qjw (F:Fun K "before" "before" qjX f fd) (B:Bl K mg)  : FnOk P w K mg base CX0 1 f fd ["one", "other"] (qb6 K):=okm F (qjq ) fun hr nd hu ht=>(qaj (qay (qeY qga (qan qaq (qap qah (pv 0) qab (fun _ _=>rfl)) (qap qah (pv 1) qab (fun _ _=>rfl))) (qan qaq (qap qah (pv 1) qab (fun _ _=>rfl)) (qap qah (pv 0) qab (fun _ _=>rfl))) (nomark _))))
theorem qdn {pm:Value} (l:K.lookup f=some ⟨.type "function", none,.func (PySem.W.fnOf "settled_number" "settled_number" (qaY qaC) (qaL qaC) (qat qaC) .none .none .none pm none (.ref 60) .none),#[]⟩) (e:PySem.W.codeIn K (.ref 60) "settled_number" = true) (hC:PySem.W.CodeHd base 60 qfl) (hbt:base.BuiltinsAt mg qfl) (B:Bl K mg) (c0:qgw P w K mg base) (c1:qb1 P w K mg base):FnOk P w K mg base CX0 6 f (PySem.W.fnOf "settled_number" "settled_number" (qaY qaC) (qaL qaC) (qat qaC) .none .none .none pm none (.ref 60) .none) ["q", "rows"] (qaI K):=qoY l e (qdk ) fun {A outer s H E} hr nd hu ht=>by
  have hcd:(qjT CX0 P w K mg base ["q", "rows", "pieces", "found"] "settled_number" (qat qaC) f (.ref 60) A outer s H E).nox.env.code=.ref 60:=rfl
  have hrm:=hr.depth
  exact (qae (qao (i:=2) nd rfl li (qan qmJ (qgi (N:=["c", "r"]) (capt:=[none,none]) rfl (BlkOk.of rfl rfl rfl rfl (fun _ h=>nomatch h) rfl rfl rfl) (qbJ (pv 1)) (fun _ _ _ _=>(qa3 rfl (qav (qau (i:=0) (show (["c", "r"]:List PySem.Str).Nodup by decide +kernel) rfl li) (qav (qau (i:=1) (show (["c", "r"]:List PySem.Str).Nodup by decide +kernel) rfl li) qa2)))) (fun _ _ _ _=>(qaw (qaa (pv 0) (qaa (qap qah (pv 1) qab (fun _ _=>rfl)) qag))))) (qgi (N:=["c", "r"]) (capt:=[none,none]) rfl (BlkOk.of rfl rfl rfl rfl (fun _ h=>nomatch h) rfl rfl rfl) (qbJ (pv 1)) (fun _ _ _ _=>(qa3 rfl (qav (qau (i:=0) (show (["c", "r"]:List PySem.Str).Nodup by decide +kernel) rfl li) (qav (qau (i:=1) (show (["c", "r"]:List PySem.Str).Nodup by decide +kernel) rfl li) qa2)))) (fun _ _ _ _=>(qaw (qaa (c0.pe hr (by decide) rfl (qaa (pv 0) (qaa (qaw (qaa (qfA qdq qab) (qaa qab qag))) qag))) (qaa (qap qah (pv 1) qab (fun _ _=>rfl)) qag)))))))
    (qae (qao (i:=3) nd rfl li (qkm hcd hC hbt hrm B.sorted (c1.pe hr (by decide) rfl (qaa (pv 2) qag))))
    (qaj (qay (qaw (qaa (pv 0) (qaa (qcI qfP rfl B.tuple qdM (qaa (qgi (N:=["c", "whole"]) (capt:=[none,none]) rfl (BlkOk.of rfl rfl rfl rfl (fun _ h=>nomatch h) rfl rfl rfl) (qbJ (pv 3)) (fun _ _ _ _=>(qa3 rfl (qav (qau (i:=0) (show (["c", "whole"]:List PySem.Str).Nodup by decide +kernel) rfl li) (qav (qau (i:=1) (show (["c", "whole"]:List PySem.Str).Nodup by decide +kernel) rfl li) qa2)))) (fun _ _ _ _=>(qaw (qaa (pv 0) (qaa (qaw (qaa (pv 1) (qaa qab qag))) qag))))) qag)) qag)))))))
theorem qdo (F:Fun K "without_common" "without_common" qdD f fd) (B:Bl K mg) (c0:qaU P w K mg base) (c1:qcl P w K mg base):FnOk P w K mg base CX0 5 f fd ["pieces"] (qaO K):=okm F (qdj ) fun hr nd hu ht=>(qae (qao (i:=1) nd rfl li (qcI qhJ rfl B.list qiv (qaa (pv 0) qag)))
    (qae (qao (i:=2) nd rfl li (qeE qag))
    (qae (qbI PassesOwn.never (qiF (pv 1) (fun _=>rfl)) (qae (qao (i:=3) nd rfl (Or.inr rfl) (qik PySem.F.plainAttrs_list PySem.F.slot_list_pop PySem.F.type_list_pop qmI (pv 1)))
    (qaj (qct (PW.pt (qkL (qaF qjO (qap qah (qap qah (pv 3) qab (fun _ _=>rfl)) qab (fun _ _=>rfl)) qab (nomark _)) (qh3 (qaF qfC (qap qah (pv 3) qab (fun _ _=>rfl)) qab (nomark _))))) (qae (qki (i:=4) (N:=["other", "piece"]) (capt:=[none,some 3]) nd rfl li rfl (BlkOk.of rfl rfl rfl rfl (List.forall_mem_singleton.mpr rfl) rfl rfl rfl) (qbJ (pv 2)) (fun _ _ _ _=>(qau (i:=0) (show (["other", "piece"]:List PySem.Str).Nodup by decide +kernel) rfl li)) (fun _ _ _ _=>(qaF qfC (c0.pe hr (by decide) rfl (qaa (qap qah (pv 1) qab (fun _ _=>rfl)) (qaa (qap qah (pv 0) qab (fun _ _=>rfl)) qag))) qab (nomark _))) (fun _ _ _ _=>(pv 0)))
    (qaj (qct (qiF (pv 4) (fun _=>rfl)) (qae (qbC (qe1 PySem.F.plainAttrs_list PySem.F.slot_list_remove PySem.F.type_list_remove (qiL ht) (pv 2) (qaa (qap qcB (pv 4) qab (fun _ _=>rfl)) qag)))
    (qaj (qbC (qe1 PySem.F.plainAttrs_list PySem.F.slot_list_extend PySem.F.type_list_extend qil (pv 1) (qaa (c1.pe hr (by decide) rfl (qaa (pv 3) (qaa (qap qcB (pv 4) qab (fun _ _=>rfl)) qag))) qag))))) (qaj (qbC (qe1 PySem.F.plainAttrs_list PySem.F.slot_list_append PySem.F.type_list_append qbl (pv 2) (qaa (pv 3) qag))))))) qaW))))
    (qaj (qay (pv 2))))))
theorem qdJ (F:Fun K "pieces_of_two" "pieces_of_two" qd2 f fd) (B:Bl K mg) (c0:qaU P w K mg base) (c1:qju P w K mg base):FnOk P w K mg base CX0 4 f fd ["one", "other"] (qaT K):=okm F (qdI ) fun hr nd hu ht=>(qae (qao (i:=2) nd rfl li (c0.pe hr (by decide) rfl (qaa (qap qah (pv 0) qab (fun _ _=>rfl)) (qaa (qap qah (pv 1) qab (fun _ _=>rfl)) qag))))
    (qaj (qay (qeE (qaa (qaw (qaa (qap qah (pv 0) qab (fun _ _=>rfl)) (qaa (qan qbM (qap qah (pv 0) qab (fun _ _=>rfl)) (pv 2)) qag))) (qaa (qaw (qaa (qap qah (pv 1) qab (fun _ _=>rfl)) (qaa (qan qbM (qap qah (pv 1) qab (fun _ _=>rfl)) (pv 2)) qag))) (qaa (qaw (qaa (c1.pe hr (by decide) rfl (qaa (qap qah (pv 0) qab (fun _ _=>rfl)) (qaa (qap qah (pv 1) qab (fun _ _=>rfl)) qag))) (qaa (pv 2) qag))) qag)))))))
theorem qmj (F:Fun K "held" "held" qmN f fd) (B:Bl K mg) (c0:qb0 P w K mg base) (c1:qf3 P w K mg base) (c2:qjv P w K mg base) (c3:qhk P w K mg base):FnOk P w K mg base CX0 7 f fd ["one", "width"] (qfm K):=okm F (qmc ) fun hr nd hu ht=>(qae (qao (i:=2) nd rfl li (c0.pe hr (by decide) rfl (qaa (qap qah (pv 0) qab (fun _ _=>rfl)) (qaa (qcI qhI rfl B.list qiv (qaa (qap qah (pv 0) qab (fun _ _=>rfl)) qag)) qag))))
    (qae (qao (i:=3) nd rfl li (qlh rfl B.FIRST_BITS ⟨_,rfl⟩))
    (qae (qao (i:=4) nd rfl li (c1.pe hr (by decide) rfl (qaa (pv 2) (qaa (pv 3) qag))))
    (qae (qbI PassesOwn.never (qcG (c3.pe hr (by decide) rfl (qaa (pv 1) (qaa (c2.pe hr (by decide) rfl (qaa (qap qah (pv 4) qab (fun _ _=>rfl)) (qaa (qap qah (pv 4) qab (fun _ _=>rfl)) qag))) qag)))) (qae (qh5 (i:=3) nd rfl li qab qj8)
    (qaj (qao (i:=4) nd rfl li (c1.pe hr (by decide) rfl (qaa (pv 2) (qaa (pv 3) qag)))))))
    (qaj (qay (pv 4)))))))
theorem qhX (F:Fun K "ends_of" "ends_of" qio f fd) (B:Bl K mg) (c0:qeT P w K mg base) (c1:qel P w K mg base) (c2:qgw P w K mg base) (c3:qju P w K mg base):FnOk P w K mg base CX0 4 f fd ["n", "bits"] (qbF K):=okm F (qhV ) fun hr nd hu ht=>(qae (qao (i:=2) nd rfl li (qap qah (pv 0) qab (fun _ _=>rfl)))
    (qae (qao (i:=3) nd rfl li (qap qah (pv 0) qab (fun _ _=>rfl)))
    (qae (qcH PassesOwn.never rfl (qgG (qap qah (pv 0) qab (fun _ _=>rfl))) (qa3 rfl (qav (qau (i:=4) nd rfl (Or.inr rfl)) (qav (qau (i:=5) nd rfl li) qa2))) (qae (qe7 (i:=6) (N:=["end", "c", "bits"]) (capt:=[none,some 4,some 1]) nd rfl li rfl (BlkOk.of rfl rfl rfl rfl (List.forall_mem_cons.mpr ⟨rfl,(List.forall_mem_singleton.mpr rfl)⟩) rfl rfl rfl) (qgG (c0.pe hr (by decide) rfl (qaa (qap qah (pv 5) qab (fun _ _=>rfl)) (qaa (pv 1) qag)))) (fun _ _ _ _=>(qau (i:=0) (show (["end", "c", "bits"]:List PySem.Str).Nodup by decide +kernel) rfl li)) (fun _ _ _ _=>(c2.pe hr (by decide) rfl (qaa (pv 1) (qaa (c1.pe hr (by decide) rfl (qaa (pv 0) (qaa (qan op_shl qab (pv 2)) qag))) qag)))))
    (qae (qct (qaF qga (qap qah (pv 4) qab (fun _ _=>rfl)) qab (nomark _)) (qaj (qao (i:=6) nd rfl li (qnh (pv 6) (qfA qdq qab)))) qaW)
    (qae (qao (i:=2) nd rfl li (c3.pe hr (by decide) rfl (qaa (pv 2) (qaa (qap qcB (pv 6) qab (fun _ _=>rfl)) qag))))
    (qaj (qao (i:=3) nd rfl li (c3.pe hr (by decide) rfl (qaa (pv 3) (qaa (qap qcB (pv 6) qab (fun _ _=>rfl)) qag)))))))))
    (qaj (qay (qaw (qaa (pv 2) (qaa (pv 3) qag))))))))
theorem qgx (F:Fun K "log_ends" "log_ends" qhv f fd) (B:Bl K mg) (c0:qc8 P w K mg base):FnOk P w K mg base CX0 2 f fd ["whole", "bits"] (qbR K):=okm F (qgv ) fun hr nd hu ht=>(qae (qao (i:=2) nd rfl li (qan qfB (qik PySem.F.plainAttrs_int PySem.F.slot_int_bit_length PyProof.Rows.type_int_bit_length qlN (pv 0)) qab))
    (qae (qao (i:=3) nd rfl li (qan op_shl qab (pv 2)))
    (qae (qao (i:=4) nd rfl li (c0.pe hr (by decide) rfl (qaa (qan qfB (pv 0) (pv 3)) (qaa (qan qaP (pv 0) (pv 3)) (qaa (pv 1) qag)))))
    (qae (qao (i:=5) nd rfl li (c0.pe hr (by decide) rfl (qaa qab (qaa qab (qaa (pv 1) qag)))))
    (qaj (qay (qaw (qaa (qan qaP (qap qah (pv 4) qab (fun _ _=>rfl)) (qan qaq (pv 2) (qap qah (pv 5) qab (fun _ _=>rfl)))) (qaa (qan qaP (qap qah (pv 4) qab (fun _ _=>rfl)) (qan qaq (pv 2) (qap qah (pv 5) qab (fun _ _=>rfl)))) qag)))))))))
theorem qey (F:Fun K "series_ends" "series_ends" qe2 f fd) (B:Bl K mg)  : FnOk P w K mg base CX0 1 f fd ["top", "bottom", "bits"] (qaS K):=okm F (qew ) fun hr nd hu ht=>(qae (qao (i:=3) nd rfl li (qan qbM (qan op_shl (pv 0) (pv 2)) (pv 1)))
    (qae (qao (i:=4) nd rfl li (qan op_shr (qan qaq (pv 3) (pv 3)) (pv 2)))
    (qae (qao (i:=5) nd rfl li qab)
    (qae (qao (i:=6) nd rfl li qab)
    (qae (qbI PassesOwn.never (qaF qfC (pv 3) qab (nomark _)) (qae (qh5 (i:=5) nd rfl li (qan qbM (pv 3) (pv 6)) qh9)
    (qae (qao (i:=3) nd rfl li (qan op_shr (qan qaq (pv 3) (pv 4)) (pv 2)))
    (qaj (qh5 (i:=6) nd rfl li qab qh9)))))
    (qaj (qay (qaw (qaa (qan qaq qab (pv 5)) (qaa (qan qaq qab (qan qaP (qan qaP (pv 5) (pv 6)) qab)) qag))))))))))
theorem qmk (F:Fun K "_law_at" "_law_at" qmO f fd) (B:Bl K mg)  : FnOk P w K mg base CX0 1 f fd ["_law_script", "_law_k"] (qcE K):=okm F (ql5 ) fun hr nd hu ht=>(qae (qct (qjP qll qga qab (pv 1) (qaX qiy rfl B.len qiu (qaa (pv 0) qag))) (qaj (qay (qap qix (pv 0) (pv 1) (fun _ _=>rfl)))) qaW)
    (qaj (qay qab)))
theorem qjx (F:Fun K "_law_draw" "_law_draw" qjY f fd) (B:Bl K mg)  : FnOk P w K mg base CX0 1 f fd ["_law_cell", "_law_k", "_law_many"] (qaQ K):=okm F (qjj ) fun hr nd hu ht=>(qae (qct (PW.pt (qkL (qaF qfC (pv 0) (qan qe6 qab qab) (nomark _)) (qh3 (qaF qga (pv 2) qab (nomark _))))) (qaj (qay (qan qdp (qan qdp (qan op_shr (pv 0) (qan qaq qab (pv 1))) qab) (pv 2)))) qaW)
    (qae (qao (i:=3) nd rfl li (qan qdp (qan qaq (qan qaP (qan qaP (qan qdp (pv 0) qab) (qan qaq (qan qaq (pv 1) (pv 1)) qab)) qab) qab) qab))
    (qaj (qay (qan qdp (qan qj9 (qan qdp (qan qaq (pv 3) (pv 3)) qab) qab) (pv 2))))))
theorem qgy (F:Fun K "_law_number" "_law_number" qhw f fd) (B:Bl K mg)  : FnOk P w K mg base CX0 1 f fd ["_law_top", "_law_bottom"] (qaM K):=okm F (qgq ) fun hr nd hu ht=>(qae (qh4 (i:=2) (j:=3) rfl nd rfl rfl (by decide) rfl rfl (qaa (qaX qcJ rfl B.abs qgM (qaa (pv 0) qag)) (qaa (qaX qcJ rfl B.abs qgM (qaa (pv 1) qag)) qag)) rfl)
    (qae (qbI PassesOwn.never (qaF qfC (pv 3) qab (nomark _)) (qaj (qh4 (i:=2) (j:=3) rfl nd rfl rfl (by decide) rfl rfl (qaa (pv 3) (qaa (qan qdp (pv 2) (pv 3)) qag)) rfl)))
    (qae (qct (qaF qga (pv 1) qab (nomark _)) (qaj (qao (i:=2) nd rfl li (qfA qdq (pv 2)))) qaW)
    (qaj (qay (qaw (qaa (qan qcL (pv 0) (pv 2)) (qaa (qan qcL (pv 1) (pv 2)) qag))))))))
theorem qjy (F:Fun K "_law_plus" "_law_plus" qjZ f fd) (B:Bl K mg) (c0:qbk P w K mg base):FnOk P w K mg base CX0 2 f fd ["_law_one", "_law_other"] (qbn K):=okm F (qjc ) fun hr nd hu ht=>(qaj (qay (c0.pe hr (by decide) rfl (qaa (qan qaP (qan qaq (qap qah (pv 0) qab (fun _ _=>rfl)) (qap qah (pv 1) qab (fun _ _=>rfl))) (qan qaq (qap qah (pv 1) qab (fun _ _=>rfl)) (qap qah (pv 0) qab (fun _ _=>rfl)))) (qaa (qan qaq (qap qah (pv 0) qab (fun _ _=>rfl)) (qap qah (pv 1) qab (fun _ _=>rfl))) qag)))))
theorem qhY (F:Fun K "_law_times" "_law_times" qip f fd) (B:Bl K mg) (c0:qbk P w K mg base):FnOk P w K mg base CX0 2 f fd ["_law_one", "_law_other"] (qaN K):=okm F (qhS ) fun hr nd hu ht=>(qaj (qay (c0.pe hr (by decide) rfl (qaa (qan qaq (qap qah (pv 0) qab (fun _ _=>rfl)) (qap qah (pv 1) qab (fun _ _=>rfl))) (qaa (qan qaq (qap qah (pv 0) qab (fun _ _=>rfl)) (qap qah (pv 1) qab (fun _ _=>rfl))) qag)))))
theorem qez (F:Fun K "_law_not_above" "_law_not_above" qe3 f fd) (B:Bl K mg)  : FnOk P w K mg base CX0 1 f fd ["_law_one", "_law_other"] (qaG K):=okm F (qev ) fun hr nd hu ht=>(qaj (qay (qeY qll (qan qaq (qap qah (pv 0) qab (fun _ _=>rfl)) (qap qah (pv 1) qab (fun _ _=>rfl))) (qan qaq (qap qah (pv 1) qab (fun _ _=>rfl)) (qap qah (pv 0) qab (fun _ _=>rfl))) (nomark _))))
theorem qeA (F:Fun K "_law_is_number" "_law_is_number" qe4 f fd) (B:Bl K mg) (c0:qbk P w K mg base):FnOk P w K mg base CX0 2 f fd ["_law_found"] (qaR K):=okm F (qeu ) fun hr nd hu ht=>(qae (qct (PW.pt (qhn (qdZ (qcG (qaX qdO rfl B.isinstance qbg (qaa (pv 0) (qaa (qeX rfl B.tuple qdM rfl) qag))))) (qgE (qaF qjO (qaX qfL rfl B.len qiu (qaa (pv 0) qag)) qab (nomark _))))) (qaj (qay qjI)) qaW)
    (qae (qcH PassesOwn.never rfl (qgG (pv 0)) (qau (i:=1) nd rfl li) (qaj (qct (PW.pt (qhn (qdZ (qcG (qaX qdO rfl B.isinstance qbg (qaa (pv 1) (qaa (qeX rfl B.int qmV rfl) qag))))) (qgE (qcG (qaX qdO rfl B.isinstance qbg (qaa (pv 1) (qaa (qeX rfl B.bool qlE rfl) qag))))))) (qaj (qay qjI)) qaW)))
    (qaj (qay (qkN (qeY qfC (qap qah (pv 0) qab (fun _ _=>rfl)) qab (nomark _)) (qkM (qeY (qm9 hu) (pv 0) (c0.pe hr (by decide) rfl (qaa (qap qah (pv 0) qab (fun _ _=>rfl)) (qaa (qap qah (pv 0) qab (fun _ _=>rfl)) qag))) (nomark _))))))))
theorem qgz (F:Fun K "_law_primes" "_law_primes" qhx f fd) (B:Bl K mg)  : FnOk P w K mg base CX0 1 f fd [] (qbo K):=okm F (qgt ) fun hr nd hu ht=>(qaj (qay (qaw (qaa qab (qaa qab (qaa qab (qaa qab (qaa qab (qaa qab (qaa qab (qaa qab qag)))))))))))
theorem qgA (F:Fun K "_law_smooth" "_law_smooth" qhy f fd) (B:Bl K mg) (c0:qdl P w K mg base) (c1:qcr P w K mg base):FnOk P w K mg base CX0 2 f fd ["_law_cell"] (qbQ K):=okm F (qgu ) fun hr nd hu ht=>(qae (qao (i:=1) nd rfl li qab)
    (qae (qao (i:=2) nd rfl li qab)
    (qae (qao (i:=3) nd rfl li (qeE qag))
    (qae (qcH PassesOwn.never rfl (qke rfl B.enumerate (qaa (c0.pe0 hr (by decide) rfl) qag)) (qa3 rfl (qav (qau (i:=4) nd rfl li) (qav (qau (i:=5) nd rfl li) qa2))) (qae (qao (i:=6) nd rfl li (qap qah (qaw (qaa qab (qaa qab (qaa qab (qaa qab (qaa (qfA qdq qab) (qaa qab (qaa (qfA qdq qab) (qaa qab qag))))))))) (c1.pe hr (by decide) rfl (qaa (pv 0) (qaa (pv 4) (qaa qab qag)))) (fun _ _=>rfl)))
    (qae (qbC (qe1 PySem.F.plainAttrs_list PySem.F.slot_list_append PySem.F.type_list_append qbl (pv 3) (qaa (pv 6) qag)))
    (qaj (qcH PassesOwn.never rfl (qd0 rfl B.range (qaa (qaX qcJ rfl B.abs qgM (qaa (pv 6) qag)) qag)) (qau (i:=7) nd rfl li) (qaj (qct (qaF qfC (pv 6) qab (nomark _)) (qaj (qao (i:=1) nd rfl li (qan qaq (pv 1) (pv 5)))) (qaj (qao (i:=2) nd rfl li (qan qaq (pv 2) (pv 5)))))))))))
    (qaj (qay (qaw (qaa (qaw (qaa (pv 1) (qaa (pv 2) qag))) (qaa (pv 3) qag)))))))))
theorem qf5 (F:Fun K "_law_weights" "_law_weights" qge f fd) (B:Bl K mg) (c0:qcm P w K mg base) (c1:qdW P w K mg base):FnOk P w K mg base CX0 3 f fd ["_law_rows_here", "_law_many"] (qbq K):=okm F (qfZ ) fun hr nd hu ht=>(qae (qao (i:=2) nd rfl li (qeE qag))
    (qae (qcH PassesOwn.never rfl (qd0 rfl B.range (qaa (pv 1) qag)) (qau (i:=3) nd rfl li) (qae (qao (i:=4) nd rfl li (qaw (qaa qab (qaa qab qag))))
    (qae (qcH PassesOwn.never rfl (qbJ (pv 0)) (qa3 rfl (qav (qau (i:=5) nd rfl li) (qav (qau (i:=6) nd rfl li) qa2))) (qaj (qao (i:=4) nd rfl li (c1.pe hr (by decide) rfl (qaa (pv 4) (qaa (c0.pe hr (by decide) rfl (qaa (pv 5) (qaa (qaw (qaa (qap qcB (pv 6) (pv 3) (fun _ _=>rfl)) (qaa qab qag))) qag))) qag))))))
    (qaj (qbC (qe1 PySem.F.plainAttrs_list PySem.F.slot_list_append PySem.F.type_list_append qbl (pv 2) (qaa (pv 4) qag)))))))
    (qaj (qay (pv 2)))))
theorem qnL (F:Fun K "_law_c" "_law_c" qn3 f fd) (B:Bl K mg) (c0:qcr P w K mg base) (c1:qbk P w K mg base):FnOk P w K mg base CX0 2 f fd ["_law_cell", "_law_k"] (qfV K):=okm F (qnC ) fun hr nd hu ht=>(qaj (qay (c1.pe hr (by decide) rfl (qaa (qan qfB (c0.pe hr (by decide) rfl (qaa (pv 0) (qaa (pv 1) (qaa qab qag)))) qab) (qaa (qan qaP qab (c0.pe hr (by decide) rfl (qaa (pv 0) (qaa (qan qaP (pv 1) qab) (qaa qab qag))))) qag)))))
theorem qjz (F:Fun K "_law_rows" "_law_rows" qj0 f fd) (B:Bl K mg) (c0:qeU P w K mg base) (c1:qmh P w K mg base) (c2:qcr P w K mg base) (c3:qcm P w K mg base):FnOk P w K mg base CX0 3 f fd ["_law_cells"] (qb5 K):=okm F (qjl ) fun hr nd hu ht=>(qae (qao (i:=1) nd rfl li (qeE qag))
    (qae (qao (i:=2) nd rfl li (qeE qag))
    (qae (qcH PassesOwn.never rfl (qbJ (pv 0)) (qau (i:=3) nd rfl li) (qae (qgF (c0.pe hr (by decide) rfl (qaa (pv 3) qag)) (qa3 rfl (qav (qau (i:=4) nd rfl li) (qav (qau (i:=5) nd rfl li) qa2))))
    (qae (qao (i:=6) nd rfl li (c1.pe hr (by decide) rfl (qaa (pv 3) (qaa qab qag))))
    (qae (qbC (qe1 PySem.F.plainAttrs_list PySem.F.slot_list_append PySem.F.type_list_append qbl (pv 1) (qaa (qaw (qaa (pv 6) (qaa (pv 4) qag))) qag)))
    (qae (qbC (qe1 PySem.F.plainAttrs_list PySem.F.slot_list_append PySem.F.type_list_append qbl (pv 2) (qaa (qaw (qaa (pv 6) (qaa (pv 5) qag))) qag)))
    (qaj (qct (qaF qmD (c2.pe hr (by decide) rfl (qaa (pv 3) (qaa qab (qaa qab qag)))) qab (nomark _)) (qae (qbC (qe1 PySem.F.plainAttrs_list PySem.F.slot_list_append PySem.F.type_list_append qbl (pv 1) (qaa (qaw (qaa (c3.pe hr (by decide) rfl (qaa (pv 6) (qaa (qaw (qaa (qfA qdq qab) (qaa qab qag))) qag))) (qaa (pv 4) qag))) qag)))
    (qaj (qbC (qe1 PySem.F.plainAttrs_list PySem.F.slot_list_append PySem.F.type_list_append qbl (pv 2) (qaa (qaw (qaa (c3.pe hr (by decide) rfl (qaa (pv 6) (qaa (qaw (qaa (qfA qdq qab) (qaa qab qag))) qag))) (qaa (pv 5) qag))) qag))))) qaW)))))))
    (qaj (qay (qaw (qaa (pv 1) (qaa (pv 2) qag))))))))
theorem qf6 (F:Fun K "_law_log_two" "_law_log_two" qgf f fd) (B:Bl K mg)  : FnOk P w K mg base CX0 1 f fd ["_law_z", "_law_scale"] (qa7 K):=okm F (qf2 ) fun hr nd hu ht=>(qae (qao (i:=2) nd rfl li (qan qbM (qan qaq (pv 1) (qap qah (pv 0) qab (fun _ _=>rfl))) (qap qah (pv 0) qab (fun _ _=>rfl))))
    (qae (qao (i:=3) nd rfl li qab)
    (qae (qao (i:=4) nd rfl li qab)
    (qae (qbI PassesOwn.never (qaF qfC (pv 2) qab (nomark _)) (qae (qao (i:=3) nd rfl li (qan qaP (pv 3) (qan qbM (pv 2) (qan qaP (qan qaq qab (pv 4)) qab))))
    (qae (qao (i:=2) nd rfl li (qan qbM (qan qaq (qan qaq (pv 2) (qap qah (pv 0) qab (fun _ _=>rfl))) (qap qah (pv 0) qab (fun _ _=>rfl))) (qan qaq (qap qah (pv 0) qab (fun _ _=>rfl)) (qap qah (pv 0) qab (fun _ _=>rfl)))))
    (qaj (qao (i:=4) nd rfl li (qan qaP (pv 4) qab))))))
    (qaj (qay (qaw (qaa (qan qaq qab (pv 3)) (qaa (qan qaP (qan qaP (qan qaq qab (pv 3)) (qan qaq qab (pv 4))) qab) qag)))))))))
theorem qeB (F:Fun K "_law_prime_log" "_law_prime_log" qe5 f fd) (B:Bl K mg) (c0:qen P w K mg base):FnOk P w K mg base CX0 2 f fd ["_law_prime", "_law_scale"] (qa4 K):=okm F (qex ) fun hr nd hu ht=>(qae (qgF (c0.pe hr (by decide) rfl (qaa (qaw (qaa qab (qaa qab qag))) (qaa (pv 1) qag))) (qa3 rfl (qav (qau (i:=2) nd rfl li) (qav (qau (i:=3) nd rfl li) qa2))))
    (qae (qao (i:=4) nd rfl li qab)
    (qae (qao (i:=5) nd rfl li qab)
    (qae (qbI PassesOwn.never (qaF qll (qan qaq qab (pv 5)) (pv 0) (nomark _)) (qae (qao (i:=5) nd rfl li (qan qaq qab (pv 5)))
    (qaj (qao (i:=4) nd rfl li (qan qaP (pv 4) qab)))))
    (qae (qao (i:=6) nd rfl li (c0.pe hr (by decide) rfl (qaa (qaw (qaa (qan qfB (pv 0) (pv 5)) (qaa (qan qaP (pv 0) (pv 5)) qag))) (qaa (pv 1) qag))))
    (qaj (qay (qaw (qaa (qan qaP (qan qaq (pv 4) (pv 2)) (qap qah (pv 6) qab (fun _ _=>rfl))) (qaa (qan qaP (qan qaq (pv 4) (pv 3)) (qap qah (pv 6) qab (fun _ _=>rfl))) qag))))))))))
theorem qjA (F:Fun K "_law_span" "_law_span" qj1 f fd) (B:Bl K mg) (c0:qdl P w K mg base) (c1:qdb P w K mg base) (c2:qcm P w K mg base) (c3:qdW P w K mg base):FnOk P w K mg base CX0 3 f fd ["_law_q", "_law_weights_here", "_law_scale"] (qcQ K):=okm F (qjt ) fun hr nd hu ht=>(qae (qh4 (i:=3) (j:=4) rfl nd rfl rfl (by decide) rfl rfl (qaa (pv 0) (qaa (pv 0) qag)) rfl)
    (qae (qcH PassesOwn.never rfl (qlP rfl B.zip (qaa (c0.pe0 hr (by decide) rfl) (qaa (pv 1) qag))) (qa3 rfl (qav (qau (i:=5) nd rfl li) (qav (qau (i:=6) nd rfl (Or.inr rfl)) qa2))) (qaj (qct (qaF (qkT ht) (pv 6) (qaw (qaa qab (qaa qab qag))) (nomark _)) (qae (qe7 (i:=7) (N:=["_law_end", "_law_weight", "_law_scale"]) (capt:=[none,some 6,some 2]) nd rfl li rfl (BlkOk.of rfl rfl rfl rfl (List.forall_mem_cons.mpr ⟨rfl,(List.forall_mem_singleton.mpr rfl)⟩) rfl rfl rfl) (qgG (c1.pe hr (by decide) rfl (qaa (pv 5) (qaa (pv 2) qag)))) (fun _ _ _ _=>(qau (i:=0) (show (["_law_end", "_law_weight", "_law_scale"]:List PySem.Str).Nodup by decide +kernel) rfl li)) (fun _ _ _ _=>(c2.pe hr (by decide) rfl (qaa (pv 1) (qaa (qaw (qaa (pv 0) (qaa (pv 2) qag))) qag)))))
    (qae (qct (qaF qga (qap qah (pv 6) qab (fun _ _=>rfl)) qab (nomark _)) (qaj (qbC (qik PySem.F.plainAttrs_list PySem.F.slot_list_reverse PySem.F.type_list_reverse qhu (pv 7)))) qaW)
    (qae (qao (i:=3) nd rfl li (c3.pe hr (by decide) rfl (qaa (pv 3) (qaa (qap qcB (pv 7) qab (fun _ _=>rfl)) qag))))
    (qaj (qao (i:=4) nd rfl li (c3.pe hr (by decide) rfl (qaa (pv 4) (qaa (qap qcB (pv 7) qab (fun _ _=>rfl)) qag)))))))) qaW)))
    (qaj (qay (qaw (qaa (pv 3) (qaa (pv 4) qag)))))))
theorem qhZ (F:Fun K "_law_width" "_law_width" qiq f fd) (B:Bl K mg) (c0:qcr P w K mg base) (c1:qbk P w K mg base):FnOk P w K mg base CX0 2 f fd ["_law_cell"] (qcq K):=okm F (qhW ) fun hr nd hu ht=>(qae (qao (i:=1) nd rfl li qab)
    (qae (qcH PassesOwn.never rfl (qd0 rfl B.range (qaa (qap qah (qaw (qaa qab (qaa qab (qaa qab (qaa qab (qaa qab (qaa qab (qaa qab (qaa qab (qaa qab (qaa qab qag))))))))))) (c0.pe hr (by decide) rfl (qaa (pv 0) (qaa qab (qaa qab qag)))) (fun _ _=>rfl)) qag)) (qau (i:=2) nd rfl li) (qaj (qao (i:=1) nd rfl li (qan qaq (pv 1) qab))))
    (qaj (qay (c1.pe hr (by decide) rfl (qaa (qan qaP qab (c0.pe hr (by decide) rfl (qaa (pv 0) (qaa qab (qaa qab qag))))) (qaa (pv 1) qag)))))))
theorem qnM (F:Fun K "law" "law" qir f fd) (B:Bl K mg) (c0:qhl P w K mg base) (c1:qld P w K mg base) (c2:qmh P w K mg base) (c3:qcr P w K mg base) (c4:qcm P w K mg base) (c5:qf4 P w K mg base) (c6:qlc P w K mg base) (c7:qda P w K mg base) (c8:qc9 P w K mg base) (c9:qdW P w K mg base) (c10:qem P w K mg base) (c11:qhm P w K mg base):FnOk P w K mg base CX0 8 f fd ["_law_script"] (qfW K):=okm F (qnK ) fun hr nd hu ht=>(qae (qgF (c0.pe hr (by decide) rfl (qaa (qjV qiI (pv 0) (qgb qab) (qgb qab)) qag)) (qa3 rfl (qav (qau (i:=1) nd rfl li) (qav (qau (i:=2) nd rfl li) qa2))))
    (qae (qao (i:=3) nd rfl li (c2.pe hr (by decide) rfl (qaa (c1.pe hr (by decide) rfl (qaa (pv 0) (qaa qab qag))) (qaa qab qag))))
    (qae (qct (qaF qmD (c3.pe hr (by decide) rfl (qaa (c1.pe hr (by decide) rfl (qaa (pv 0) (qaa qab qag))) (qaa qab (qaa qab qag)))) qab (nomark _)) (qae (qao (i:=4) nd rfl (Or.inr rfl) (qaw (qaa (qan qaP qab (qan qdp (c1.pe hr (by decide) rfl (qaa (pv 0) (qaa qab qag))) (qan qe6 qab qab))) (qaa qab qag))))
    (qae (qe7 (i:=1) (N:=["_law_c_here", "_law_r", "_law_times_so"]) (capt:=[none,none,some 4]) nd rfl li rfl (BlkOk.of rfl rfl rfl rfl (List.forall_mem_singleton.mpr rfl) rfl rfl rfl) (qbJ (pv 1)) (fun _ _ _ _=>(qa3 rfl (qav (qau (i:=0) (show (["_law_c_here", "_law_r", "_law_times_so"]:List PySem.Str).Nodup by decide +kernel) rfl li) (qav (qau (i:=1) (show (["_law_c_here", "_law_r", "_law_times_so"]:List PySem.Str).Nodup by decide +kernel) rfl li) qa2)))) (fun _ _ _ _=>(qaw (qaa (c4.pe hr (by decide) rfl (qaa (pv 0) (qaa (pv 2) qag))) (qaa (pv 1) qag)))))
    (qaj (qe7 (i:=2) (N:=["_law_c_here", "_law_powers_here", "_law_times_so"]) (capt:=[none,none,some 4]) nd rfl li rfl (BlkOk.of rfl rfl rfl rfl (List.forall_mem_singleton.mpr rfl) rfl rfl rfl) (qbJ (pv 2)) (fun _ _ _ _=>(qa3 rfl (qav (qau (i:=0) (show (["_law_c_here", "_law_powers_here", "_law_times_so"]:List PySem.Str).Nodup by decide +kernel) rfl li) (qav (qau (i:=1) (show (["_law_c_here", "_law_powers_here", "_law_times_so"]:List PySem.Str).Nodup by decide +kernel) rfl li) qa2)))) (fun _ _ _ _=>(qaw (qaa (c4.pe hr (by decide) rfl (qaa (pv 0) (qaa (pv 2) qag))) (qaa (pv 1) qag)))))))) qaW)
    (qae (qao (i:=5) nd rfl li (qcI qfP rfl B.tuple qdM (qaa (qkh (N:=["_law_pair"]) (capt:=[none]) rfl (BlkOk.of rfl rfl rfl rfl (fun _ h=>nomatch h) rfl rfl rfl) (qbJ (pv 1)) (fun _ _ _ _=>(qau (i:=0) (show (["_law_pair"]:List PySem.Str).Nodup by decide +kernel) rfl li)) (fun _ _ _ _=>(qaF (qkT ht) (qap qah (pv 0) qab (fun _ _=>rfl)) (qaw (qaa qab (qaa qab qag))) (nomark _))) (fun _ _ _ _=>(pv 0))) qag)))
    (qae (qao (i:=6) nd rfl li (c5.pe hr (by decide) rfl (qaa (c1.pe hr (by decide) rfl (qaa (pv 0) (qaa qab qag))) qag)))
    (qae (qao (i:=7) nd rfl li (c6.pe hr (by decide) rfl (qaa (qaw (qaa (pv 3) (qaa (pv 5) qag))) (qaa (pv 6) qag))))
    (qae (qct (PW.pt (qhn (qdZ (qcG (qaX qdO rfl B.isinstance qbg (qaa (pv 7) (qaa (qeX rfl B.tuple qdM rfl) qag))))) (qhn (qaF qjO (qaX qfL rfl B.len qiu (qaa (pv 7) qag)) qab (nomark _)) (qhn (qdZ (qcG (c7.pe hr (by decide) rfl (qaa (qap qah (pv 7) qab (fun _ _=>rfl)) qag)))) (qgE (qdZ (qcG (c7.pe hr (by decide) rfl (qaa (qap qah (pv 7) qab (fun _ _=>rfl)) qag))))))))) (qaj (qay qjI)) qaW)
    (qae (qct (PW.pt (qhn (qdZ (qcG (c8.pe hr (by decide) rfl (qaa (qap qah (pv 7) qab (fun _ _=>rfl)) (qaa (qap qah (pv 7) qab (fun _ _=>rfl)) qag))))) (qgE (qdZ (qcG (c8.pe hr (by decide) rfl (qaa (qap qah (pv 7) qab (fun _ _=>rfl)) (qaa (c9.pe hr (by decide) rfl (qaa (qap qah (pv 7) qab (fun _ _=>rfl)) (qaa (pv 6) qag))) qag)))))))) (qaj (qay qjI)) qaW)
    (qae (qgF (c11.pe hr (by decide) rfl (qaa (pv 3) (qaa (c10.pe hr (by decide) rfl (qaa (pv 2) (qaa qab qag))) (qaa (qan qaq (qan qe6 qab qab) (qan qe6 qab qab)) qag)))) (qa3 rfl (qav (qau (i:=8) nd rfl li) (qav (qau (i:=9) nd rfl li) qa2))))
    (qaj (qay (qkN (c8.pe hr (by decide) rfl (qaa (qap qah (pv 7) qab (fun _ _=>rfl)) (qaa (pv 9) qag))) (qkM (c8.pe hr (by decide) rfl (qaa (pv 8) (qaa (qap qah (pv 7) qab (fun _ _=>rfl)) qag))))))))))))))))
end
end Bs
namespace Bs
open PySem PySem.Spec PyProof.Rows L2
set_option maxHeartbeats 4000000
open Hd
theorem qml {K:W.Frag} {st:Stmt} {f c:Addr} {n:Str} {pm:Value} (l:K.lookup f=some (fnO n st pm c)) (e:PySem.W.codeIn K (.ref c) n=true) (k:PySem.W.keepIn K (.ref f)=true):Fun K n n st f (PySem.W.fnOf n n (qaY st) (qaL st) (qat st) .none .none .none pm none (.ref c) .none):=qmL (st:=st) l e k
theorem qnN {P:Program} {K:W.Frag} {w:World} {h base:Heap} {mg:Str→Option Value} {k:Nat} {f:Addr} {fd:FuncData} {n:Str} {ps:List Str} {sp:Sp} (X:K.In h) (G:h.Ns mainGlobals mg) (ok:FnOk P w K mg base CX0 k f fd ps sp) (b:Binds K fd ps []) (e:PySem.W.keepIn K (.ref f)=true) (a:PySem.W.nsIn K mainGlobals n=some (some (.ref f))):Cal P w K mg base k n ps sp:=⟨f,fd,ok,b,e,PySem.W.mg_of X G a⟩
theorem qot {us:List Value} {n:Nat} (h:us.length=n+1):∃ x t,us=x::t∧t.length=n:=by cases us with | nil=>cases h | cons x t=>exact ⟨x,t,rfl,Nat.succ.inj h⟩
theorem qox (us:List Value) (h:us.length=1):∃ x0,us=[x0]:=by obtain ⟨x,t,rfl,q⟩:=qot h;exact ⟨x,by rw [List.length_eq_zero_iff.mp q]⟩
theorem qoy (us:List Value) (h:us.length=2):∃ x0 x1,us=[x0,x1]:=by obtain ⟨x,t,rfl,q⟩:=qot h;obtain ⟨x1,rfl⟩:=qox t q;exact ⟨x,x1,rfl⟩
theorem qoZ (us:List Value) (h:us.length=3):∃ x0 x1 x2,us=[x0,x1,x2]:=by obtain ⟨x,t,rfl,q⟩:=qot h;obtain ⟨x1,x2,rfl⟩:=qoy t q;exact ⟨x,x1,x2,rfl⟩
theorem qa0 {P:Program} {K:W.Frag} {w:World} {h base:Heap} {mg:Str→Option Value} {k:Nat} {f c:Addr} {n:Str} {ps:List Str} {sp:Sp} {st:Stmt} {pm:Value} (X:K.In h) (G:h.Ns mainGlobals mg) (ok:Fun K n n st f (PySem.W.fnOf n n (qaY st) (qaL st) (qat st) .none .none .none pm none (.ref c) .none)→FnOk P w K mg base CX0 k f (PySem.W.fnOf n n (qaY st) (qaL st) (qat st) .none .none .none pm none (.ref c) .none) ps sp) (l:K.lookup f=some (fnO n st pm c):=by kernel_rfl) (e:PySem.W.codeIn K (.ref c) n=true:=by kernel_rfl) (q:PySem.W.keepIn K (.ref f)=true:=by kernel_rfl) (a:PySem.W.nsIn K mainGlobals n=some (some (.ref f)):=by kernel_rfl) (b:∀ (kV doc pm:Value) (an:Option Addr) (cdv ct:Value) (us:List Value),us.length=ps.length→bindArgs (PySem.W.fnOf n n (qaY st) (qaL st) (qat st) .none kV doc pm an cdv ct) ⟨us,[]⟩=pure (ps.zip us):=by first | exact fun _ _ _ _ _ _ us hl=>by obtain ⟨_,rfl⟩:=qox us hl;rfl | exact fun _ _ _ _ _ _ us hl=>by obtain ⟨_,_,rfl⟩:=qoy us hl;rfl | exact fun _ _ _ _ _ _ us hl=>by obtain ⟨_,_,_,rfl⟩:=qoZ us hl;rfl | exact fun _ _ _ _ _ _ us hl=>by cases List.length_eq_zero_iff.mp hl;rfl):Cal P w K mg base k n ps sp:=qnN X G (ok (qml l e q)) ((qml l e q).binds b) q a
section
variable {P:Program} {w:World} {mg:Str→Option Value} {base h:Heap} (X:(hp w.params).In h) (G:h.Ns mainGlobals mg) (B:Bl (hp w.params) mg)
include X G B
theorem qbe:qaU P w (hp w.params) mg base:=qa0 (f:=21) (c:=20) (pm:=mo0) X G fun F=>qdm F B
theorem qkI:qhk P w (hp w.params) mg base:=qa0 (f:=56) (c:=55) (pm:=mo1) X G fun F=>qjw F B
theorem qfu:qc8 P w (hp w.params) mg base:=qa0 (f:=99) (c:=98) (pm:=mo2) X G fun F=>qey F B
theorem qnO:qld P w (hp w.params) mg base:=qa0 (f:=106) (c:=105) (pm:=mo3) X G fun F=>qmk F B
theorem qdc:qcr P w (hp w.params) mg base:=qa0 (f:=113) (c:=112) (pm:=mo3) X G fun F=>qjx F B
theorem qbG:qbk P w (hp w.params) mg base:=qa0 (f:=120) (c:=119) (pm:=mo3) X G fun F=>qgy F B
theorem qfv:qc9 P w (hp w.params) mg base:=qa0 (f:=141) (c:=140) (pm:=mo3) X G fun F=>qez F B
theorem qeV:qdl P w (hp w.params) mg base:=qa0 (f:=155) (c:=154) (pm:=mo3) X G fun F=>qgz F B
theorem qgB:qen P w (hp w.params) mg base:=qa0 (f:=211) (c:=210) (pm:=mo3) X G fun F=>qf6 F B
theorem qfw:qel P w (hp w.params) mg base:=qa0 (f:=28) (c:=27) (pm:=mo1) X G fun F=>qkF F B (qbe X G B)
theorem qh0:qeT P w (hp w.params) mg base:=qa0 (f:=92) (c:=91) (pm:=mo2) X G fun F=>qgx F B (qfu X G B)
theorem qfx:qdW P w (hp w.params) mg base:=qa0 (f:=127) (c:=126) (pm:=mo3) X G fun F=>qjy F B (qbG X G B)
theorem qdd:qcm P w (hp w.params) mg base:=qa0 (f:=134) (c:=133) (pm:=mo3) X G fun F=>qhY F B (qbG X G B)
theorem qfy:qda P w (hp w.params) mg base:=qa0 (f:=148) (c:=147) (pm:=mo3) X G fun F=>qeA F B (qbG X G B)
theorem qh1:qeU P w (hp w.params) mg base:=qa0 (f:=162) (c:=161) (pm:=mo3) X G fun F=>qgA F B (qeV X G B) (qdc X G B)
theorem qnP:qmh P w (hp w.params) mg base:=qa0 (f:=197) (c:=196) (pm:=mo3) X G fun F=>qnL F B (qdc X G B) (qbG X G B)
theorem qfz:qdb P w (hp w.params) mg base:=qa0 (f:=218) (c:=217) (pm:=mo3) X G fun F=>qeB F B (qgB X G B)
theorem qjB:qf4 P w (hp w.params) mg base:=qa0 (f:=230) (c:=229) (pm:=mo3) X G fun F=>qhZ F B (qdc X G B) (qbG X G B)
theorem qle:qju P w (hp w.params) mg base:=qa0 (f:=35) (c:=34) (pm:=mo1) X G fun F=>qmi F B (qfw X G B)
theorem qmm:qjv P w (hp w.params) mg base:=qa0 (f:=42) (c:=41) (pm:=mo1) X G fun F=>qkG F B (qfw X G B)
theorem qjC:qgw P w (hp w.params) mg base:=qa0 (f:=49) (c:=48) (pm:=mo1) X G fun F=>qkH F B (qfw X G B)
theorem qgC:qem P w (hp w.params) mg base:=qa0 (f:=169) (c:=168) (pm:=mo3) X G fun F=>qf5 F B (qdd X G B) (qfx X G B)
theorem qkJ:qhl P w (hp w.params) mg base:=qa0 (f:=204) (c:=203) (pm:=mo3) X G fun F=>qjz F B (qh1 X G B) (qnP X G B) (qdc X G B) (qdd X G B)
theorem qkK:qhm P w (hp w.params) mg base:=qa0 (f:=223) (c:=222) (pm:=mo3) X G fun F=>qjA F B (qeV X G B) (qfz X G B) (qdd X G B) (qfx X G B)
theorem qeo:qcl P w (hp w.params) mg base:=qa0 (f:=73) (c:=72) (pm:=mo2) X G fun F=>qdJ F B (qbe X G B) (qle X G B)
theorem qjD:qf3 P w (hp w.params) mg base:=qa0 (f:=85) (c:=84) (pm:=mo2) X G fun F=>qhX F B (qh0 X G B) (qfw X G B) (qjC X G B) (qle X G B)
theorem qdK:qb1 P w (hp w.params) mg base:=qa0 (f:=66) (c:=65) (pm:=mo2) X G fun F=>qdo F B (qbe X G B) (qeo X G B)
theorem qdL (XB:(hp w.params).In base):qb0 P w (hp w.params) mg base:=qa0 (f:=61) (c:=60) (pm:=mo2) X G fun _=>qdn (by kernel_rfl) (by kernel_rfl) (PySem.W.codeHd_of_K XB (by kernel_rfl)) ⟨4,⟨.type "module", some builtinsNs,.plain,#[]⟩,PySem.W.mg_of X G (n := "__builtins__") (v:=.ref 4) (by kernel_rfl),by decide,by decide,by decide,XB 4 _ (by kernel_rfl),rfl,rfl,rfl⟩ B (qjC X G B) (qdK X G B)
theorem qnQ (XB:(hp w.params).In base):qlc P w (hp w.params) mg base:=qa0 (f:=80) (c:=79) (pm:=mo2) X G fun F=>qmj F B (qdL X G B XB) (qjD X G B) (qmm X G B) (qkI X G B)
end
theorem all_mk {l:PySem.W.OpenLaw} {w:World} {h:Heap} {mg:Str→Option Value} {fa:Addr} (X:(hp w.params).In h) (G:h.Ns mainGlobals mg) (hfa:mg "law" = some (.ref fa))
    : ∃ fd:FuncData,(∀ (s:Shared) (v:Value),BindsTo s fd ⟨[v],[]⟩ [("_law_script", v)])∧∀ base:Heap,(hp w.params).In base→base.Ns mainGlobals mg→FnOk l.prog w (hp w.params) mg base CX0 8 fa fd ["_law_script"] (qfW (hp w.params)):=by
  have e:=hfa.symm.trans (PySem.W.mg_of X G (n := "law") (v:=.ref 235) (by kernel_rfl))
  cases e
  have B:Bl (hp w.params) mg:=⟨PySem.W.mg_none_of X G (by kernel_rfl),PySem.W.mg_none_of X G (by kernel_rfl),PySem.W.mg_none_of X G (by kernel_rfl),PySem.W.mg_none_of X G (by kernel_rfl),PySem.W.mg_of X G (by kernel_rfl),PySem.W.mg_none_of X G (by kernel_rfl),PySem.W.mg_none_of X G (by kernel_rfl),PySem.W.mg_none_of X G (by kernel_rfl),PySem.W.mg_none_of X G (by kernel_rfl),PySem.W.mg_none_of X G (by kernel_rfl),PySem.W.mg_none_of X G (by kernel_rfl),PySem.W.mg_none_of X G (by kernel_rfl)⟩
  have FL:=qml (K:=hp w.params) (st:=qir) (f:=235) (c:=234) (n := "law") (pm:=mo3) (by kernel_rfl) (by kernel_rfl) (by kernel_rfl)
  refine ⟨PySem.W.fnOf "law" "law" (qaY qir) (qaL qir) (qat qir) .none .none .none mo3 none (.ref 234) .none,fun s v=>.of_eq rfl,fun base KB _=>?_⟩
  exact qnM FL B (qkJ X G B) (qnO X G B) (qnP X G B) (qdc X G B) (qdd X G B) (qjB X G B) (qnQ X G B KB) (qfy X G B) (qfv X G B) (qfx X G B) (qgC X G B) (qkK X G B)
theorem ctab {h:Heap} (e:h.get? 60=some (cdO "settled_number" 245 24 2 3 57 (R 58) N N N (R 59) 248 249)):isCodeTable h 58:=⟨60,_,_,e,rfl,rfl,rfl⟩
theorem walk {l:PySem.W.OpenLaw} {q:Program} {loose:List Str} {XP:(Str→Option Value)→Heap→Prop} {YP:World→Heap→Prop} {d:DefRec} {K:Params→W.Frag} (hn:l.most=some 63) (hdf:d.params.defaults=[]) (hq:importsNone q=true) (ht:∀ w,(model l.prog w).prog.given.tree=none)
    (hY:∀ (w:World) (h:Heap),YP w h→(K w.params).In h)
    (F:∀ (w:World) (mg:Str→Option Value) (fa:Addr) (h:Heap),(K w.params).In h→h.Ns mainGlobals mg→mg d.name=some (.ref fa)→
      ∃ fd:FuncData,(∀ (s:Shared) (u:Value),BindsTo s fd ⟨[u],[]⟩ [("_law_script", u)])∧∀ base:Heap,(K w.params).In base→base.Ns mainGlobals mg→FnOk l.prog w (K w.params) mg base CX0 8 fa fd ["_law_script"] (qfW (K w.params)))
    (hKT:∀ w:World,(K w.params).lookup 58=none) (hT:∀ (w:World) (h:Heap),YP w h→h.get? 58=some { cls:=.none,data:=.fields #[] }∧isCodeTable h 58) :
    PySem.W.WalkO q loose XP YP l.row.toRowW d [] (fun f vs=>PySem.call f vs):=
  L2.walk_ofT (T:=58) (n:=63) (k:=8) (x := "_law_script") (CX:=fun _=>CX0) (sp:=fun w=>qfW (K w.params)) hn (by decide) hdf hq ht ⟨rfl,by decide,by decide⟩ hY F hKT hT (fun _ _ a ns hl hT hS=>⟨a,ns,rfl,hS,hl,hT,fun _=>rfl⟩) fun _ _ _ _ _ z=>z
end Bs
open PySem PySem.W PyProof.Rows
set_option maxRecDepth 100000 in
set_option maxHeartbeats 0 in
theorem PySem.Challenge.cw_backslope_k73_held_holds : PySem.Challenge.rw_backslope_k73_held.Holds := by
  w_on; o_law
  refine PySem.W.holds_open (q := Bs.Hd.vw) (loose := []) (Xt := fun s => PySem.W.xlAt Bs.Hd.vw [] s && PySem.W.recOk (PySem.W.RowW.records (PySem.W.OpenRow.toRowW (PySem.W.OpenLaw.row PySem.Challenge.rw_backslope_k73_held))) s) (XP := PySem.W.XL Bs.Hd.vw []) (Yf := Bs.Hd.hk.obs) (Ya := Bs.Hd.hk.val) (YP := Bs.Hd.hk.says) (N := 2262) Bs.Hd.left Bs.Hd.hk.of Bs.Hd.hk.keeps (fun s e => PySem.W.xl_of s (Bool.and_eq_true_iff.mp e).1) PySem.W.XL.keeps (by rfl) (by rfl) (by rfl) (fun s e => PySem.W.recFacts_of (Bool.and_eq_true_iff.mp e).2) (by rfl) (by first | assumption | decide +kernel) (by decide +kernel) ⟨rfl, rfl, rfl, rfl, rfl, by decide +kernel⟩ ?hw ?hc
  case hw => w_witness2
  case hc => exact Bs.walk (l := PySem.Challenge.rw_backslope_k73_held) (K := Bs.Hd.hp) rfl rfl (by decide +kernel) (fun _ => rfl) (fun w h Y => Y.1) (fun w mg fa h KX G hmg => Bs.all_mk KX G hmg) (fun w => by kernel_rfl) (fun w h Y => ⟨Y.2 58 (by decide), Bs.ctab (Y.1 60 _ (by kernel_rfl))⟩)
#print axioms PySem.Challenge.cw_backslope_k73_held_holds
