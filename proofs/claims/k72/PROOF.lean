import PyProof.Rows.All
import Wide.All
import OpenK.AllK
import Wide.FinOn
import Lean
import PyProof.EqAt
import PyProof.EqKinds
import PyProof.TupleCall
import PySem.Challenge.RW_backslope_k72_sums_of_log_numbers
set_option Elab.async false
set_option linter.all false
set_option maxRecDepth 100000
namespace L2
open PySem PySem.Spec PyProof.Rows
noncomputable abbrev Key := Sum Int Str
noncomputable def qkC : Key → Value → Bool
  | .inl k, v => Value.isInt k v
  | .inr x, v => Value.isStrOf x v
noncomputable def qmu (w : World) : Key → Int
  | .inl k => hashInt k
  | .inr x => hashStr w x
theorem qaH : ∀ {k : Key} {v : Value}, qkC k v = true → (∃ i t, k = Sum.inl i ∧ v = Value.int i t) ∨ (∃ x t, k = Sum.inr x ∧ v = Value.str x t)
  | .inl i, v, h => by
    obtain ⟨t, e⟩ := Value.isInt_shape (k := i) (v := v) h
    exact .inl ⟨i, t, rfl, e⟩
  | .inr x, v, h => by
    obtain ⟨t, e⟩ := Value.isStrOf_shape (x := x) (v := v) h
    exact .inr ⟨x, t, rfl, e⟩
theorem qkD (a b : Int) : decide ((Sum.inl a : Key) = Sum.inl b) = (a == b) := by
  by_cases e : a = b
  · subst e; simp
  · have h : ¬ (Sum.inl a : Key) = Sum.inl b := fun q => e (Sum.inl.inj q)
    rw [decide_eq_false h]
    exact (beq_eq_false_iff_ne.mpr e).symm
theorem qkE (a b : Str) : decide ((Sum.inr a : Key) = Sum.inr b) = decide (a = b) := by
  by_cases e : a = b
  · subst e; simp
  · have h : ¬ (Sum.inr a : Key) = Sum.inr b := fun q => e (Sum.inr.inj q)
    rw [decide_eq_false h, decide_eq_false e]
theorem qkF (a : Int) (b : Str) : decide ((Sum.inl a : Key) = Sum.inr b) = false := decide_eq_false (fun q => nomatch q)
theorem qkG (a : Str) (b : Int) : decide ((Sum.inr a : Key) = Sum.inl b) = false := decide_eq_false (fun q => nomatch q)
noncomputable def qeE (prog : Program) (w : World) : PySem.KeyKind prog w Key where
  is := qkC
  hash := qmu w
  inj := fun v a b ha hb => by
    rcases qaH ha with ⟨i, t, rfl, rfl⟩ | ⟨x, t, rfl, rfl⟩
    · rcases qaH hb with ⟨j, u, rfl, e⟩ | ⟨y, u, rfl, e⟩
      · injection e with e1 _; rw [e1]
      · exact nomatch e
    · rcases qaH hb with ⟨j, u, rfl, e⟩ | ⟨y, u, rfl, e⟩
      · exact nomatch e
      · injection e with e1 _; rw [e1]
  byValue := fun k v h => by
    rcases qaH h with ⟨i, t, rfl, rfl⟩ | ⟨x, t, rfl, rfl⟩ <;> rfl
  pyHash := fun hv h => by
    rcases qaH hv with ⟨i, t, rfl, rfl⟩ | ⟨x, t, rfl, rfl⟩
    · exact wpAny_pyHash_int h
    · exact wpAny_pyHash_str h
  eqBool := fun hu hv h => by
    rcases qaH hu with ⟨i, t, rfl, rfl⟩ | ⟨x, t, rfl, rfl⟩
    · rcases qaH hv with ⟨j, u, rfl, rfl⟩ | ⟨y, u, rfl, rfl⟩
      · rw [qkD] at h; exact wpAny_eqBool_int h
      · rw [qkF] at h; exact SeqAt.EqAt.int_str i t y u _ _ _ _ h
    · rcases qaH hv with ⟨j, u, rfl, rfl⟩ | ⟨y, u, rfl, rfl⟩
      · rw [qkG] at h; exact SeqAt.EqAt.str_int x t j u _ _ _ _ h
      · rw [qkE] at h; exact wpAny_eqBool_str h
  «strs» := fun k x t v h => by
    rcases qaH h with ⟨i, u, rfl, e⟩ | ⟨y, u, rfl, e⟩
    · exact nomatch e
    · injection e with e1 _
      subst e1
      cases v <;> rfl
end L2
namespace L2
open PySem PySem.Spec PyProof.Rows
inductive V where
  | non | bl (b : Bool) | int (i : Int) | str (x : Str) | byt (b : Array UInt8) | flt (b : UInt64) | ref (a : Addr) | ty (n : String)
  deriving DecidableEq
noncomputable def RelV : V → Value → Prop
  | .non, u => u = Value.none
  | .bl b, u => u = Value.bool b
  | .int i, u => ∃ t, u = Value.int i t
  | .str x, u => ∃ t, u = Value.str x t
  | .byt b, u => ∃ t, u = Value.bytes b t
  | .flt b, u => ∃ t, u = Value.float b t
  | .ref a, u => u = Value.ref a
  | .ty n, u => u = Value.type n
noncomputable abbrev Vals : List V → List Value → Prop := Paired RelV
theorem Vals.length {xs : List V} {us : List Value} (r : Vals xs us) : xs.length = us.length := Paired.length r
theorem Vals.get : ∀ {xs : List V} {us : List Value} {i : Nat} {x : V}, Vals xs us → xs[i]? = some x → ∃ u, us[i]? = some u ∧ RelV x u
  | _, _, _, _, .nil, e => by simp at e
  | _, _, 0, _, .cons r _, e => by simp at e; subst e; exact ⟨_, rfl, r⟩
  | _, _, i + 1, x, .cons _ t, e => by
    obtain ⟨u, h1, h2⟩ := Vals.get (i := i) (x := x) t (by simpa using e)
    exact ⟨u, by simpa using h1, h2⟩
theorem Vals.set {x : V} {u : Value} (r : RelV x u) : ∀ {xs : List V} {us : List Value} (i : Nat), Vals xs us → Vals (xs.set i x) (us.set i u)
  | _, _, _, .nil => .nil
  | _, _, 0, .cons _ t => .cons r t
  | _, _, i + 1, .cons q t => .cons q (Vals.set r i t)
theorem Vals.append : ∀ {xs ys : List V} {us ws : List Value}, Vals xs us → Vals ys ws → Vals (xs ++ ys) (us ++ ws)
  | _, _, _, _, .nil, s => s
  | _, _, _, _, .cons r t, s => .cons r (Vals.append t s)
theorem Vals.take : ∀ {xs : List V} {us : List Value} (n : Nat), Vals xs us → Vals (xs.take n) (us.take n)
  | _, _, 0, _ => .nil
  | _, _, _ + 1, .nil => .nil
  | _, _, n + 1, .cons r t => .cons r (Vals.take n t)
theorem Vals.drop : ∀ {xs : List V} {us : List Value} (n : Nat), Vals xs us → Vals (xs.drop n) (us.drop n)
  | _, _, 0, r => r
  | _, _, _ + 1, .nil => .nil
  | _, _, n + 1, .cons _ t => Vals.drop n t
noncomputable def qlK : Option V → Option Value → Prop
  | some v, some u => RelV v u
  | none, none => True
  | _, _ => False
noncomputable def KV {κ : Type} : List (κ × V) → List (κ × Value) → Prop := Paired fun (p : κ × V) (q : κ × Value) => p.1 = q.1 ∧ RelV p.2 q.2
noncomputable def kV : Key → V
  | .inl i => .int i
  | .inr x => .str x
inductive HO where

  | lst (xs : List V)

  | tup (xs : List V)

  | dK (kvs : List (Key × V)) | dT (kvs : List (List Key × V))

  | set (S : Int → Bool) (n : Nat)

  | ins (C dx : Addr) (fs : List (Str × V))

  | own (x : Addr)

  | xd (fs : List (Str × V))

  | met (f x : Addr)

  | rng (lo hi : Int)

  | frz (o : Obj) (u : HO)

  | tbl (ps : Array Value)

  | ext (φ : Heap → Prop)
noncomputable abbrev Hp := Addr → Option HO
noncomputable def upd (H : Hp) (a : Addr) (o : HO) : Hp := fun b => if b = a then some o else H b
theorem qab {H : Hp} {a : Addr} {o : HO} : upd H a o a = some o := by unfold upd; rw [if_pos rfl]
theorem qai {H : Hp} {a b : Addr} {o : HO} (h : b ≠ a) : upd H a o b = H b := by unfold upd; rw [if_neg h]
theorem qeF {H : Hp} {a b : Addr} {o u : HO} (h : H a = some o) (h' : H b = some u) (d : o ≠ u) : a ≠ b := by
  intro e; subst e; rw [h] at h'; exact d (Option.some.inj h')
theorem qah {H : Hp} {a b : Addr} {o : HO} (h : H a = some o) (h' : H b = none) : a ≠ b := by
  intro e; subst e; rw [h] at h'; cases h'
section
variable (P : Program) (w : World)
noncomputable def ObjOk (H : Hp) (h : Heap) (a : Addr) : HO → Prop
  | .lst xs => xs.length ≤ sizeLine ∧ ∃ (its : List Value) (n : Nat), Vals xs its ∧ h.get? a = some { cls := .type "list", data := .seq its.toArray n }
  | .tup xs => xs.length ≤ sizeLine ∧ ∃ its : List Value, Vals xs its ∧ IsTup h a its.toArray
  | .dK kvs => kvs.length ≤ sizeLine ∧ (a == sysModules) = false ∧ ∃ vs, KV kvs vs ∧ h.DictOf (qeE P w) a vs
  | .dT kvs => kvs.length ≤ sizeLine ∧ (a == sysModules) = false ∧ ∃ xs : List (List Key × Addr × Value),
      Paired (fun (p : List Key × V) (q : List Key × Addr × Value) => p.1 = q.1 ∧ H q.2.1 = some (.tup (p.1.map kV)) ∧ RelV p.2 q.2.2) kvs xs ∧
      ∃ o es ep, h.get? a = some o ∧ o.ExactDict ∧ o.data = .dict es ep ∧ es.toList = xs.map (entryOfKey (tupleKind (qeE P w))) ∧ (xs.map (·.1)).Nodup
  | .set S n => h.SetOf (intKind P w) a S n
  | .ins C dx fs => H dx = some (.own a) ∧ fs.length ≤ 1000 ∧ dx ≠ a ∧ h.get? a = some (PySem.W.instObj C dx) ∧
      ∃ mA, h.Ns1 dx mA ∧ (∀ f, qlK (fs.lookup f) (mA f)) ∧ PySem.Within mA (fs.map (·.1))
  | .own _ => ∃ o, h.get? a = some o
  | .xd fs => ∃ mA, h.Ns1 a mA ∧ ∀ f, qlK (fs.lookup f) (mA f)
  | .rng lo hi => ∃ t u v, h.get? a = some { cls := .type "range", data := .fields #[.int lo t, .int hi u, .int 1 v] }
  | .frz o u => h.get? a = some o ∧ ObjOk H h a u
  | .tbl ps => h.get? a = some { cls := .none, data := .fields ps }
  | .met f x => h.get? a = some (PySem.W.methodObj (.ref f) (.ref x))
  | .ext φ => φ h ∧ (∃ o, h.get? a = some o) ∧ ∀ h1 h2 : Heap, φ h1 → (∀ o, h1.get? a = some o → h2.get? a = some o) → φ h2
noncomputable def HOk (H : Hp) (h : Heap) : Prop := ∀ a o, H a = some o → ObjOk P w H h a o
end
section
variable {P : Program} {w : World} {H H' : Hp} {h h' : Heap} {a : Addr} {o : HO}
theorem ObjOk.lt (x : ObjOk P w H h a o) : a < h.objs.size := by
  cases o with
  | lst xs => obtain ⟨_, _, _, _, e⟩ := x; exact Heap.lt_size e
  | tup xs => obtain ⟨_, _, _, p⟩ := x; exact p.lt
  | dK kvs => obtain ⟨_, _, _, _, o, _, _, e, _⟩ := x; exact Heap.lt_size e
  | dT kvs => obtain ⟨_, _, _, _, o, _, _, e, _⟩ := x; exact Heap.lt_size e
  | set S n => obtain ⟨o, _, _, _, e, _⟩ := x; exact Heap.lt_size e
  | ins C dx fs => obtain ⟨_, _, _, e, _⟩ := x; exact Heap.lt_size e
  | own y => obtain ⟨_, e⟩ := x; exact Heap.lt_size e
  | xd fs => obtain ⟨_, ⟨_, _, _, e, _⟩, _⟩ := x; exact Heap.lt_size e
  | rng lo hi => obtain ⟨_, _, _, e⟩ := x; exact Heap.lt_size e
  | frz ob u => obtain ⟨e, _⟩ := x; exact Heap.lt_size e
  | tbl ps => exact Heap.lt_size (show h.get? a = some _ from x)
  | met f y => exact Heap.lt_size (show h.get? a = some _ from x)
  | ext φ => obtain ⟨_, ⟨_, e⟩, _⟩ := x; exact Heap.lt_size e
theorem Paired.mapP {α β : Type} {F G : α → β → Prop} : ∀ {l₁ : List α} {l₂ : List β}, Paired F l₁ l₂ → (∀ a b, F a b → G a b) → Paired G l₁ l₂
  | _, _, .nil, _ => .nil
  | _, _, .cons r t, f => .cons (f _ _ r) (Paired.mapP t f)
theorem ObjOk.stay (x : ObjOk P w H h a o) (k : ∀ b u, (b = a ∨ H b = some (.own a)) → h.get? b = some u → h'.get? b = some u)
    (ho : ∀ b, H b = some (.own a) → H' b = some (.own a)) (ht : ∀ b xs, H b = some (.tup xs) → H' b = some (.tup xs)) : ObjOk P w H' h' a o := by
  induction o with
  | lst xs => obtain ⟨z, its, n, r, e⟩ := x; exact ⟨z, its, n, r, k _ _ (.inl rfl) e⟩
  | tup xs => obtain ⟨z, its, r, ob, e, c⟩ := x; exact ⟨z, its, r, ob, k _ _ (.inl rfl) e, c⟩
  | dK kvs => obtain ⟨z, y, vs, r, ob, es, ep, e, c⟩ := x; exact ⟨z, y, vs, r, ob, es, ep, k _ _ (.inl rfl) e, c⟩
  | dT kvs =>
    obtain ⟨z, y, xs, r, ob, es, ep, e, c⟩ := x
    exact ⟨z, y, xs, Paired.mapP r fun p q z => ⟨z.1, ht _ _ z.2.1, z.2.2⟩, ob, es, ep, k _ _ (.inl rfl) e, c⟩
  | set S n => obtain ⟨ob, es, ep, t, e, c⟩ := x; exact ⟨ob, es, ep, t, k _ _ (.inl rfl) e, c⟩
  | ins C dx fs =>
    obtain ⟨d, z, ne, e, mA, ⟨od, es, ep, e2, c⟩, r⟩ := x
    exact ⟨ho _ d, z, ne, k _ _ (.inl rfl) e, mA, ⟨od, es, ep, k _ _ (.inr d) e2, c⟩, r⟩
  | own y => obtain ⟨ob, e⟩ := x; exact ⟨ob, k _ _ (.inl rfl) e⟩
  | xd fs => obtain ⟨mA, ⟨od, es, ep, e, c⟩, r⟩ := x; exact ⟨mA, ⟨od, es, ep, k _ _ (.inl rfl) e, c⟩, r⟩
  | rng lo hi => obtain ⟨t, u, v, e⟩ := x; exact ⟨t, u, v, k _ _ (.inl rfl) e⟩
  | frz ob u ih => obtain ⟨e, q⟩ := x; exact ⟨k _ _ (.inl rfl) e, ih q⟩
  | tbl ps =>
    have e : h.get? a = some { cls := .none, data := .fields ps } := x
    show h'.get? a = some { cls := .none, data := .fields ps }
    exact k a _ (.inl rfl) e
  | met f y =>
    have e : h.get? a = some (PySem.W.methodObj (.ref f) (.ref y)) := x
    show h'.get? a = some (PySem.W.methodObj (.ref f) (.ref y))
    exact k a _ (.inl rfl) e
  | ext φ => obtain ⟨p, ⟨o, e⟩, st⟩ := x; exact ⟨st _ _ p fun o q => k _ _ (.inl rfl) q, ⟨o, k _ _ (.inl rfl) e⟩, st⟩
theorem HOk.lt (x : HOk P w H h) (e : H a = some o) : a < h.objs.size := (x a o e).lt
theorem HOk.fresh (x : HOk P w H h) (e : h.objs.size ≤ a) : H a = none := by
  cases q : H a with
  | none => rfl
  | some u => exact absurd (Nat.lt_of_lt_of_le (x.lt q) e) (Nat.lt_irrefl _)
theorem HOk.kept (x : HOk P w H h) (k : ∀ b u, h.get? b = some u → h'.get? b = some u) : HOk P w H h' := fun a o e =>
  (x a o e).stay (fun b u _ q => k b u q) (fun _ q => q) fun _ _ q => q
theorem HOk.laid (x : HOk P w H h) (k : ∀ b u, h.get? b = some u → h'.get? b = some u) (hp : h.objs.size ≤ a) (new : ObjOk P w (upd H a o) h' a o) : HOk P w (upd H a o) h' := fun b u e => by
  have hn := x.fresh hp
  by_cases hb : b = a
  · subst hb; rw [qab] at e; cases e; exact new
  · rw [qai hb] at e
    exact (x b u e).stay (fun c v _ q => k c v q) (fun c q => by rw [qai (qah q hn)]; exact q) fun c xs q => by rw [qai (qah q hn)]; exact q
end
noncomputable def Rd (H : Hp) (a : Addr) (u : HO) : Prop := H a = some u ∨ ∃ o, H a = some (.frz o u)
theorem Rd.of {H : Hp} {a : Addr} {u : HO} (h : H a = some u) : Rd H a u := .inl h
theorem Rd.ok {P : Program} {w : World} {H : Hp} {h : Heap} {a : Addr} {u : HO} (r : Rd H a u) (x : HOk P w H h) : ObjOk P w H h a u := by
  rcases r with r | ⟨o, r⟩
  · exact x a u r
  · obtain ⟨_, q⟩ := x a _ r
    exact q
noncomputable def Mut : Option HO → Prop
  | some (.lst _) => True
  | some (.dK _) => True
  | some (.dT _) => True
  | some (.set _ _) => True
  | some (.ins _ _ _) => True
  | some (.ext _) => True
  | _ => False
section
variable {P : Program} {w : World} {H : Hp} {h h' : Heap} {x e : Addr} {o' : HO}
theorem HOk.write (ok : HOk P w H h) (mu : Mut (H x)) (he : e = x ∨ H e = some (.own x)) (k : ∀ b u, b ≠ e → h.get? b = some u → h'.get? b = some u) (heo : ∃ u, h'.get? e = some u)
    (new : ObjOk P w (upd H x o') h' x o') : HOk P w (upd H x o') h' := fun b u q => by
  have nown : ∀ c y, H c = some (.own y) → c ≠ x := fun c y r z => by subst z; rw [r] at mu; exact mu
  have ntup : ∀ c xs, H c = some (.tup xs) → c ≠ x := fun c xs r z => by subst z; rw [r] at mu; exact mu
  by_cases hb : b = x
  · subst hb; rw [qab] at q; cases q; exact new
  · rw [qai hb] at q
    by_cases hbe : b = e
    · have q' : H b = some (.own x) := by
        rcases he with z | z
        · exact absurd (hbe.trans z) hb
        · rw [hbe]; exact z
      rw [q] at q'; cases q'
      obtain ⟨v, hv⟩ := heo
      exact ⟨v, by rw [hbe]; exact hv⟩
    · refine (ok b u q).stay (fun c v hc r => k c v ?_ r) (fun c r => by rw [qai (nown c b r)]; exact r) fun c xs r => by rw [qai (ntup c xs r)]; exact r
      rcases hc with rfl | hc
      · exact hbe
      · rintro rfl
        rcases he with z | z
        · exact nown c b hc z
        · rw [hc] at z; cases z; exact hb rfl
end
structure Un (fs ex : List Addr) (H H' : Hp) (h h' : Heap) : Prop where
  keep : ∀ b o, h.get? b = some o → H b = none → b ∉ fs → b ∉ ex → h'.get? b = some o
  slot : ∀ b o, h.get? b = some o → H b = none → b ∈ fs → b ∉ ex → ∃ sl, h'.get? b = some { o with slots := sl }
  free : ∀ b o, h.get? b = some o → H b = none → b ∉ ex → H' b = none
  there : ∀ b o, h.get? b = some o → b ∉ ex → ∃ o', h'.get? b = some o'
  tups : ∀ b xs, H b = some (.tup xs) → H' b = some (.tup xs)
  frzs : ∀ b o u, H b = some (.frz o u) → H' b = some (.frz o u)
  tbls : ∀ b ps, H b = some (.tbl ps) → ∃ more, H' b = some (.tbl (ps ++ more))
section
variable {fs fs' ex ex' : List Addr} {H H1 H2 : Hp} {h h1 h2 h' : Heap} {a x e : Addr} {o : HO}
theorem Un.any (u : Un fs ex H H1 h h1) {b : Addr} {ob : Obj} (q : h.get? b = some ob) (n : H b = none) (hx : b ∉ ex) : ∃ sl, h1.get? b = some { ob with slots := sl } := by
  by_cases hb : b ∈ fs
  · exact u.slot b ob q n hb hx
  · exact ⟨ob.slots, u.keep b ob q n hb hx⟩
theorem Un.trans (a : Un fs ex H H1 h h1) (b : Un fs ex H1 H2 h1 h2) : Un fs ex H H2 h h2 where
  keep := fun c ob q n hc hx => b.keep c ob (a.keep c ob q n hc hx) (a.free c ob q n hx) hc hx
  slot := fun c ob q n hc hx => by
    obtain ⟨sl, e1⟩ := a.slot c ob q n hc hx
    obtain ⟨sl', e2⟩ := b.slot c _ e1 (a.free c ob q n hx) hc hx
    exact ⟨sl', e2⟩
  free := fun c ob q n hx => by
    obtain ⟨o', e1⟩ := a.there c ob q hx
    exact b.free c o' e1 (a.free c ob q n hx) hx
  there := fun c ob q hx => by
    obtain ⟨o', e1⟩ := a.there c ob q hx
    exact b.there c o' e1 hx
  tups := fun c xs q => b.tups c xs (a.tups c xs q)
  frzs := fun c ob xs q => b.frzs c ob xs (a.frzs c ob xs q)
  tbls := fun c ps q => by
    obtain ⟨m1, e1⟩ := a.tbls c ps q
    obtain ⟨m2, e2⟩ := b.tbls c _ e1
    exact ⟨m1 ++ m2, by rw [e2, Array.append_assoc]⟩
theorem Un.kept (k : ∀ b u, h.get? b = some u → h'.get? b = some u) : Un fs ex H H h h' :=
  ⟨fun b ob q _ _ _ => k b ob q, fun b ob q _ _ _ => ⟨ob.slots, k b ob q⟩, fun _ _ _ n _ => n, fun b ob q _ => ⟨ob, k b ob q⟩, fun _ _ q => q, fun _ _ _ q => q, fun _ ps q => ⟨#[], by rw [q]; simp⟩⟩
theorem Un.refl : Un fs ex H H h h := Un.kept fun _ _ q => q
theorem Un.laid (k : ∀ b u, h.get? b = some u → h'.get? b = some u) (hp : h.objs.size ≤ a) (hn : H a = none) : Un fs ex H (upd H a o) h h' where
  keep := fun b u q _ _ _ => k b u q
  slot := fun b u q _ _ _ => ⟨u.slots, k b u q⟩
  free := fun b u q n _ => by rw [qai (Nat.ne_of_lt (Nat.lt_of_lt_of_le (Heap.lt_size q) hp))]; exact n
  there := fun b u q _ => ⟨u, k b u q⟩
  tups := fun b xs q => by rw [qai (qah q hn)]; exact q
  frzs := fun b u xs q => by rw [qai (qah q hn)]; exact q
  tbls := fun b ps q => ⟨#[], by rw [qai (qah q hn), q]; simp⟩
theorem Un.write (mu : Mut (H x)) (he : e = x ∨ H e = some (.own x)) (k : ∀ b u, b ≠ e → h.get? b = some u → h'.get? b = some u) (heo : ∃ u, h'.get? e = some u) : Un fs ex H (upd H x o) h h' := by
  have hx : ∀ b, H b = none → b ≠ x := fun b n z => by subst z; rw [n] at mu; exact mu
  have hb : ∀ b, H b = none → b ≠ e := fun b n z => by
    subst z
    rcases he with r | r
    · exact hx b n r
    · rw [n] at r; cases r
  have hm : ∀ b u, H b = some u → ¬ Mut (some u) → b ≠ x := fun b u q nm z => by subst z; rw [q] at mu; exact nm mu
  refine ⟨fun b u q n _ _ => k b u (hb b n) q, fun b u q n _ _ => ⟨u.slots, k b u (hb b n) q⟩, fun b u q n _ => by rw [qai (hx b n)]; exact n, fun b u q _ => ?_,
    fun b xs q => by rw [qai (hm b _ q fun z => z)]; exact q, fun b u xs q => by rw [qai (hm b _ q fun z => z)]; exact q, fun b ps q => ⟨#[], by rw [qai (hm b _ q fun z => z), q]; simp⟩⟩
  by_cases hbe : b = e
  · subst hbe; exact heo
  · exact ⟨u, k b u hbe q⟩
theorem Un.mono (u : Un fs ex H H1 h h1) (hs : ∀ b ∈ fs, b ∈ fs') (hx : ∀ b ∈ ex, b ∈ ex') : Un fs' ex' H H1 h h1 :=
  ⟨fun b ob q n hb he => u.keep b ob q n (fun z => hb (hs b z)) fun z => he (hx b z), fun _ _ q n _ he => u.any q n fun z => he (hx _ z), fun b ob q n he => u.free b ob q n fun z => he (hx b z), fun b ob q he => u.there b ob q fun z => he (hx b z), u.tups, u.frzs, u.tbls⟩
end
noncomputable def trk (h : Heap) (H : Hp) : List Addr := (List.range h.objs.size).filter fun a => (H a).isSome
noncomputable def qip (h : Heap) (H : Hp) : Heap := PySem.W.hideAll h (trk h H)
theorem qg9 (h : Heap) (H : Hp) : (qip h H).objs.size = h.objs.size := PySem.W.hideAll_size _ _
theorem qis {h : Heap} {H : Hp} {b : Addr} {o : Obj} (e : h.get? b = some o) (n : H b = none) : (qip h H).get? b = some o :=
  PySem.W.hideAll_get _ e fun hm => by
    have q : (H b).isSome = true := (List.mem_filter.mp hm).2
    rw [n] at q; simp at q
theorem qjF {h : Heap} {H : Hp} {b : Addr} {o : Obj} (e : (qip h H).get? b = some o) : h.get? b = some o ∧ H b = none := by
  have e' : h.get? b = some o := PySem.W.of_hideAll (trk h H) e
  refine ⟨e', ?_⟩
  cases q : H b with
  | none => rfl
  | some x =>
    have hm : b ∈ trk h H := List.mem_filter.mpr ⟨List.mem_range.mpr (Heap.lt_size e'), by simp [q]⟩
    have z : (qip h H).get? b = none := PySem.W.hideAll_none (trk h H) hm
    rw [z] at e; cases e
noncomputable def qjG (g h : Heap) (L : Addr) : List (Addr × Obj) := (List.range h.objs.size).filterMap fun a => if a = L ∨ (g.get? a).isSome = true then none else (h.get? a).map fun o => (a, o)
noncomputable def rest (g h : Heap) (L d : Addr) : List (Addr × Obj) := (qjG g h L).filter fun p => decide (p.1 ≠ d)
end L2
namespace L2
open PySem PySem.Spec PyProof.Rows
structure Mod (K : PySem.W.Frag) (mg : Str → Option Value) (base : Heap) : Prop where
  kin : K.In base
  glob : base.Ns mainGlobals mg
  blt : ∃ mb, base.Ns builtinsNs mb ∧ ∀ x : Str, x ≠ "__name__" → mb x = bootBuiltins x
  nolimit : base.NoLimit
structure Cx where
  prog : Program
  w : World
  K : PySem.W.Frag
  mg : Str → Option Value
  base : Heap
  A : Around
  N : List Str
  s₀ : Shared
  H₀ : Hp
  env : Env
  outer : List Env
  stack : List Env
  ex : List Addr
  fn : Str → Bool
  calm : Bool
  pn : List (Addr × Obj)
  xe : Value → Shared → Prop
noncomputable def frs (l : List Env) : List Addr := l.filterMap (·.frame)
noncomputable abbrev Cx.fs (X : Cx) : List Addr := frs X.outer
noncomputable def Vis (sc : Scope) (x : Str) : Prop := sc.names.lookup x = some .local ∨ sc.names.lookup x = some .cell ∨ sc.names.lookup x = some .free
noncomputable def Loc (sc : Scope) (x : Str) : Prop := sc.names.lookup x = some .local ∨ sc.names.lookup x = some .cell
noncomputable def Look (env : Env) (h : Heap) (m : Str → Option Value) (x : Str) (u : Value) : Prop :=
  (env.kindOf x = some .local ∧ m x = some u) ∨ ((env.kindOf x = some .cell ∨ env.kindOf x = some .free) ∧ ∃ c, env.cells.lookup x = some c ∧ h.IsCell c (some u))
structure Cx.Ok (X : Cx) : Prop where
  mod : Mod X.K X.mg X.base
  kind : X.env.scope.kind = .function
  glob : X.env.globals = mainGlobals
  blt : X.env.builtins = builtinsNs
  above : X.s₀.heap.objs.size ≤ X.env.locals
  inj : ∀ x y c, X.env.cells.lookup x = some c → X.env.cells.lookup y = some c → x = y
  has : ∀ x, (X.env.kindOf x = some .cell ∨ X.env.kindOf x = some .free) → ∃ c, X.env.cells.lookup x = some c
  cab : ∀ x c, X.fn x = true → X.env.cells.lookup x = some c → X.s₀.heap.objs.size ≤ c
  hd : X.calm = true → X.A.handled = none
  frames : X.A.frames = some X.stack
  stk : X.stack = X.outer ∨ (X.stack = X.env :: X.outer ∧ X.env.frame = some X.env.locals)
  exf : ∀ b ∈ X.ex, b ≠ X.env.locals ∧ ∀ x c, X.env.cells.lookup x = some c → c ≠ b
  bs : ∀ b o, X.base.get? b = some o → X.s₀.heap.get? b = some o ∧ X.H₀ b = none
  bsz : X.base.objs.size ≤ X.s₀.heap.objs.size
  noex : ∀ b o, X.base.get? b = some o → b ∉ X.ex
  exfs : ∀ b ∈ X.ex, b ∉ X.fs
  funs : X.s₀.heap.FunFrames X.base X.outer
  frf : ∀ b ∈ X.fs, X.H₀ b = none
  seer : X.base.NoSeer
  tree : (model X.prog X.w).prog.given.tree = none
  plr : ∀ s : Shared, (∀ b o, X.base.get? b = some o → s.heap.get? b = some o) → PySem.PylongRoom (model X.prog X.w) X.A s
structure Inv (X : Cx) (pins : List (Addr × Obj)) (σ : List (Option V)) (H : Hp) (s : Shared) : Prop where
  ok : X.Ok
  os : s.os = X.s₀.os
  bare : AllBare s.gens
  base : Un X.fs X.ex X.H₀ H X.s₀.heap s.heap
  loc : ∃ m, s.heap.Ns X.env.locals m ∧ ∀ (i : Nat) (x : Str) (v : V), X.N[i]? = some x → σ[i]? = some (some v) → Vis X.env.scope x → ∃ u, RelV v u ∧ Look X.env s.heap m x u
  cell : ∀ x c, X.env.cells.lookup x = some c → ∃ v, s.heap.IsCell c v
  free : H X.env.locals = none
  freeC : ∀ x c, X.env.cells.lookup x = some c → H c = none
  pin : ∀ p ∈ X.pn ++ pins, s.heap.get? p.1 = some p.2 ∧ H p.1 = none ∧ p.1 ≠ X.env.locals ∧ p.1 ∉ X.fs ∧ ∀ v, p.2.data ≠ .cell v
  hok : HOk X.prog X.w H s.heap
  len : σ.length = X.N.length
section
variable {X : Cx} {pins : List (Addr × Obj)} {σ : List (Option V)} {H H' : Hp} {s : Shared} {h' : Heap}
theorem Cx.Ok.nofr (ok : X.Ok) {b : Addr} {o : Obj} (e : X.base.get? b = some o) : b ∉ X.fs := fun hb => by
  have := (ok.funs.mem hb).1
  rw [e] at this; cases this
theorem Inv.bs (I : Inv X pins σ H s) : ∀ b o, X.base.get? b = some o → s.heap.get? b = some o ∧ H b = none := fun b o e =>
  ⟨I.base.keep b o (I.ok.bs b o e).1 (I.ok.bs b o e).2 (I.ok.nofr e) (I.ok.noex b o e), I.base.free b o (I.ok.bs b o e).1 (I.ok.bs b o e).2 (I.ok.noex b o e)⟩
theorem Inv.bk (I : Inv X pins σ H s) : ∀ b o, X.base.get? b = some o → s.heap.get? b = some o := fun b o e => (I.bs b o e).1
theorem Inv.mod (I : Inv X pins σ H s) : Mod X.K X.mg X.base := I.ok.mod
theorem Inv.kIn (I : Inv X pins σ H s) : X.K.In s.heap := I.ok.mod.kin.keeps I.bk
theorem Inv.nolimit (I : Inv X pins σ H s) : s.heap.NoLimit := I.ok.mod.nolimit.keeps I.bk
theorem Inv.fr (I : Inv X pins σ H s) : ∃ m, Fr X.base X.env.locals s.heap m :=
  let ⟨m, hn, _⟩ := I.loc
  ⟨m, hn, I.bk, Nat.le_trans I.ok.bsz I.ok.above⟩
theorem Inv.lt (I : Inv X pins σ H s) : X.env.locals < s.heap.objs.size := let ⟨_, hn, _⟩ := I.loc; hn.lt
theorem Inv.sz (I : Inv X pins σ H s) : X.s₀.heap.objs.size ≤ s.heap.objs.size := Nat.le_trans I.ok.above (Nat.le_of_lt I.lt)
theorem Inv.nofs (I : Inv X pins σ H s) {a : Addr} (h : s.heap.objs.size ≤ a) : a ∉ X.fs := fun hb => by
  obtain ⟨_, o, ho, _⟩ := I.ok.funs.mem hb
  exact absurd (Nat.lt_of_lt_of_le (Heap.lt_size ho) (Nat.le_trans I.sz h)) (Nat.lt_irrefl _)
theorem Inv.cne (I : Inv X pins σ H s) : ∀ x c, X.env.cells.lookup x = some c → c ≠ X.env.locals := fun x c e z => by
  obtain ⟨v, o, ho, hd⟩ := I.cell x c e
  obtain ⟨m, ⟨o', es, ep, ho', hd', _⟩, _⟩ := I.loc
  rw [z, ho'] at ho; cases ho; rw [hd'] at hd; cases hd
theorem Inv.funs (I : Inv X pins σ H s) : s.heap.FunFrames X.base X.outer := by
  have all : ∀ (l : List Env), (∀ b ∈ frs l, b ∈ X.fs) → X.s₀.heap.FunFrames X.base l → s.heap.FunFrames X.base l := by
    intro l
    induction l with
    | nil => intro _ _; trivial
    | cons env r ih =>
      intro hs hl
      obtain ⟨hk, ⟨L, o, hf, hn, ho, hd⟩, hr⟩ := hl
      have hL : L ∈ X.fs := hs L (by unfold frs; rw [List.filterMap_cons, hf]; exact List.mem_cons_self)
      obtain ⟨sl, e⟩ := I.base.slot L o ho (I.ok.frf L hL) hL fun z => I.ok.exfs L z hL
      exact ⟨hk, ⟨L, _, hf, hn, e, hd⟩, ih (fun b hb => hs b (by unfold frs; rw [List.filterMap_cons, hf]; exact List.mem_cons_of_mem _ hb)) hr⟩
  exact all X.outer (fun _ hb => hb) I.ok.funs
theorem Inv.stack (I : Inv X pins σ H s) : s.heap.FunFrames X.base X.stack := by
  rcases I.ok.stk with e | ⟨e, hf⟩
  · rw [e]; exact I.funs
  · rw [e]
    obtain ⟨m, hn, _⟩ := I.loc
    refine .cons (by rw [I.ok.kind]; decide) hf hn ?_ I.funs
    exact Heap.get?_none_of_le (Nat.le_trans I.ok.bsz I.ok.above)
theorem Inv.stkSub (I : Inv X pins σ H s) : ∀ b ∈ frs X.stack, b ∈ X.env.locals :: X.fs := fun b hb => by
  rcases I.ok.stk with e | ⟨e, hf⟩
  · rw [e] at hb; exact List.mem_cons_of_mem _ hb
  · rw [e] at hb
    unfold frs at hb
    rw [List.filterMap_cons, hf] at hb
    exact hb
theorem Inv.stkFree (I : Inv X pins σ H s) : ∀ b ∈ frs X.stack, H b = none := fun b hb => by
  rcases List.mem_cons.mp (I.stkSub b hb) with e | hb
  · rw [e]; exact I.free
  · obtain ⟨_, o, ho, _⟩ := I.ok.funs.mem hb
    exact I.base.free b o ho (I.ok.frf b hb) fun z => I.ok.exfs b z hb
theorem Inv.step {g' : Array GenState} {t' : Nat} {d' : Drawn} {ch : List Addr} (I : Inv X pins σ H s)
    (hch : ∀ b ∈ ch, (b ∈ X.ex ∨ X.s₀.heap.objs.size ≤ b) ∧ b ≠ X.env.locals ∧ (∀ x c, X.env.cells.lookup x = some c → c ≠ b) ∧ ∀ p ∈ X.pn ++ pins, p.1 ≠ b)
    (keep : ∀ b o, b ≠ X.env.locals → b ∉ X.fs → b ∉ ch → s.heap.get? b = some o → H b = none → h'.get? b = some o)
    (slot : ∀ b o, b ≠ X.env.locals → b ∈ X.fs → b ∉ ch → s.heap.get? b = some o → H b = none → ∃ sl, h'.get? b = some { o with slots := sl }) (free : ∀ b o, b ∉ ch → s.heap.get? b = some o → H b = none → H' b = none)
    (there : ∀ b o, b ∉ ch → s.heap.get? b = some o → ∃ o', h'.get? b = some o')
    (tups : ∀ b xs, H b = some (.tup xs) → H' b = some (.tup xs)) (frzs : ∀ b o u, H b = some (.frz o u) → H' b = some (.frz o u)) (tbls : ∀ b ps, H b = some (.tbl ps) → ∃ more, H' b = some (.tbl (ps ++ more)))
    (ns : ∀ m, s.heap.Ns X.env.locals m → h'.Ns X.env.locals m) (hok : HOk X.prog X.w H' h') (hg : AllBare g') :
    Inv X pins σ H' { s with heap := h', gens := g', drawn := d', toks := t' } := by
  have neL : ∀ b o, X.s₀.heap.get? b = some o → b ≠ X.env.locals := fun b o e => Nat.ne_of_lt (Nat.lt_of_lt_of_le (Heap.lt_size e) I.ok.above)
  have neC : ∀ b o, X.s₀.heap.get? b = some o → b ∉ X.ex → b ∉ ch := fun b o e hx hb => by
    rcases (hch b hb).1 with z | z
    · exact hx z
    · exact absurd (Nat.lt_of_lt_of_le (Heap.lt_size e) z) (Nat.lt_irrefl _)
  have cellK : ∀ x c, X.env.cells.lookup x = some c → ∀ v, s.heap.IsCell c v → h'.IsCell c v := fun x c e v ⟨o, ho, hd⟩ => by
    have nch : c ∉ ch := fun z => (hch c z).2.2.1 x c e rfl
    by_cases hc : c ∈ X.fs
    · obtain ⟨sl, q⟩ := slot c o (I.cne x c e) hc nch ho (I.freeC x c e)
      exact ⟨_, q, hd⟩
    · exact ⟨o, keep c o (I.cne x c e) hc nch ho (I.freeC x c e), hd⟩
  refine ⟨I.ok, I.os, hg, ⟨fun b o e n hb hx => ?_, fun b o e n hb hx => ?_, fun b o e n hx => ?_, fun b o e hx => ?_, fun b xs e => tups b xs (I.base.tups b xs e), fun b o xs e => frzs b o xs (I.base.frzs b o xs e), fun b ps e => ?_⟩, ?_, fun x c e => ?_, ?_, fun x c e => ?_, fun p hp => ?_, hok, I.len⟩
  · exact keep b o (neL b o e) hb (neC b o e hx) (I.base.keep b o e n hb hx) (I.base.free b o e n hx)
  · obtain ⟨sl, e1⟩ := I.base.slot b o e n hb hx
    obtain ⟨sl', e2⟩ := slot b _ (neL b o e) hb (neC b o e hx) e1 (I.base.free b o e n hx)
    exact ⟨sl', e2⟩
  · obtain ⟨o', e1⟩ := I.base.there b o e hx
    exact free b o' (neC b o e hx) e1 (I.base.free b o e n hx)
  · obtain ⟨o', e1⟩ := I.base.there b o e hx
    exact there b o' (neC b o e hx) e1
  · obtain ⟨m1, e1⟩ := I.base.tbls b ps e
    obtain ⟨m2, e2⟩ := tbls b _ e1
    exact ⟨m1 ++ m2, by rw [e2, Array.append_assoc]⟩
  · obtain ⟨m, hn, hl⟩ := I.loc
    refine ⟨m, ns m hn, fun i x v e1 e2 e3 => ?_⟩
    obtain ⟨u, r, l⟩ := hl i x v e1 e2 e3
    refine ⟨u, r, ?_⟩
    rcases l with l | ⟨k, c, e, z⟩
    · exact .inl l
    · exact .inr ⟨k, c, e, cellK x c e _ z⟩
  · obtain ⟨v, z⟩ := I.cell x c e
    exact ⟨v, cellK x c e v z⟩
  · obtain ⟨m, ⟨o, _, _, ho, _⟩, _⟩ := I.loc
    exact free _ o (fun z => (hch _ z).2.1 rfl) ho I.free
  · obtain ⟨v, o, ho, hd⟩ := I.cell x c e
    exact free c o (fun z => (hch c z).2.2.1 x c e rfl) ho (I.freeC x c e)
  · obtain ⟨e, n, ne, nf, d⟩ := I.pin p hp
    have nch : p.1 ∉ ch := fun z => (hch p.1 z).2.2.2 p hp rfl
    exact ⟨keep p.1 p.2 ne nf nch e n, free p.1 p.2 nch e n, ne, nf, d⟩
theorem Inv.un {t' : Nat} (I : Inv X pins σ H s) (u : Un X.fs [] H H' s.heap h') (hok : HOk X.prog X.w H' h') : Inv X pins σ H' { s with heap := h', toks := t' } := by
  obtain ⟨m, ⟨o, es, ep, ho, r⟩, _⟩ := id I.loc
  obtain ⟨sl, hL⟩ := u.any ho I.free (by simp)
  exact I.step (g' := s.gens) (d' := s.drawn) (ch := []) (fun _ z => nomatch z) (fun b o _ hb _ e n => u.keep b o e n hb (by simp)) (fun b o _ hb _ e n => u.slot b o e n hb (by simp)) (fun b o _ e n => u.free b o e n (by simp)) (fun b o _ e => u.there b o e (by simp)) u.tups u.frzs u.tbls (fun m' hm => by
    obtain ⟨o', es', ep', ho', r'⟩ := hm
    rw [ho] at ho'; cases ho'
    exact ⟨_, es', ep', hL, r'⟩) hok I.bare
theorem Inv.call {g' : Array GenState} {t' : Nat} {d' : Drawn} {ch : List Addr} (I : Inv X pins σ H s) (u : Un (frs X.stack) ch H H' s.heap h') (hok : HOk X.prog X.w H' h') (hg : AllBare g')
    (hch : ∀ b ∈ ch, (b ∈ X.ex ∨ X.s₀.heap.objs.size ≤ b) ∧ b ≠ X.env.locals ∧ (∀ x c, X.env.cells.lookup x = some c → c ≠ b) ∧ ∀ p ∈ X.pn ++ pins, p.1 ≠ b) :
    Inv X pins σ H' { s with heap := h', gens := g', drawn := d', toks := t' } := by
  obtain ⟨m, ⟨o, es, ep, ho, r⟩, _⟩ := id I.loc
  obtain ⟨sl, hL⟩ := u.any ho I.free fun z => (hch _ z).2.1 rfl
  exact I.step (ch := ch) hch (fun b o hL hb hc e n => u.keep b o e n (fun z => (List.mem_cons.mp (I.stkSub b z)).elim hL hb) hc) (fun b o _ _ hc e n => u.any e n hc) (fun b o hc e n => u.free b o e n hc) (fun b o hc e => u.there b o e hc) u.tups u.frzs u.tbls (fun m' hm => by
    obtain ⟨o', es', ep', ho', r'⟩ := hm
    rw [ho] at ho'; cases ho'
    exact ⟨_, es', ep', hL, r'⟩) hok hg
theorem Inv.turned {t' : Nat} {it : Addr} (I : Inv X pins σ H s) (k : ∀ b o, b ≠ it → s.heap.get? b = some o → h'.get? b = some o) (hn : H it = none) (hL : it ≠ X.env.locals)
    (h1 : it ∈ X.ex ∨ X.s₀.heap.objs.size ≤ it) (h2 : ∀ x c, X.env.cells.lookup x = some c → c ≠ it) (h3 : ∀ p ∈ X.pn ++ pins, p.1 ≠ it) : Inv X pins σ H { s with heap := h', toks := t' } := by
  have nit : ∀ b u, H b = some u → b ≠ it := fun b u e z => by rw [z, hn] at e; cases e
  refine I.step (g' := s.gens) (d' := s.drawn) (ch := [it]) (fun b hb => ?_) (fun b o _ _ hc e _ => k b o (fun z => hc (by simp [z])) e) (fun b o _ _ hc e _ => ⟨o.slots, k b o (fun z => hc (by simp [z])) e⟩) (fun _ _ _ _ n => n)
    (fun b o hc e => ⟨o, k b o (fun z => hc (by simp [z])) e⟩) (fun _ _ e => e) (fun _ _ _ e => e) (fun b ps e => ⟨#[], by rw [e]; simp⟩) (fun m hm => ?_) (fun b u e => ?_) I.bare
  · have e : b = it := by simpa using hb
    subst e
    exact ⟨h1, hL, h2, h3⟩
  · obtain ⟨o, es, ep, ho, r⟩ := hm
    exact ⟨o, es, ep, k _ o (Ne.symm hL) ho, r⟩
  · refine (I.hok b u e).stay (fun c v hc q => k c v ?_ q) (fun _ q => q) fun _ _ q => q
    rcases hc with z | z
    · rw [z]; exact nit b u e
    · exact nit c _ z
theorem Inv.tok (I : Inv X pins σ H s) (t : Nat) : Inv X pins σ H { s with toks := t } := I.un (h' := s.heap) (t' := t) Un.refl I.hok
theorem Inv.kept {t' : Nat} (I : Inv X pins σ H s) (k : ∀ b u, s.heap.get? b = some u → h'.get? b = some u) : Inv X pins σ H { s with heap := h', toks := t' } := I.un (Un.kept k) (I.hok.kept k)
theorem Inv.laid {a : Addr} {o : HO} {t' : Nat} (I : Inv X pins σ H s) (k : ∀ b u, s.heap.get? b = some u → h'.get? b = some u) (hp : s.heap.objs.size ≤ a) (new : ObjOk X.prog X.w (upd H a o) h' a o) :
    Inv X pins σ (upd H a o) { s with heap := h', toks := t' } := I.un (Un.laid k hp (I.hok.fresh hp)) (I.hok.laid k hp new)
theorem Inv.write {x e : Addr} {o : HO} {t' : Nat} (I : Inv X pins σ H s) (mu : Mut (H x)) (he : e = x ∨ H e = some (.own x)) (k : ∀ b u, b ≠ e → s.heap.get? b = some u → h'.get? b = some u) (heo : ∃ u, h'.get? e = some u)
    (new : ObjOk X.prog X.w (upd H x o) h' x o) : Inv X pins σ (upd H x o) { s with heap := h', toks := t' } := I.un (Un.write mu he k heo) (I.hok.write mu he k heo new)
theorem Inv.pins_of {pins' : List (Addr × Obj)} (I : Inv X pins σ H s) (h : ∀ p ∈ pins', s.heap.get? p.1 = some p.2 ∧ H p.1 = none ∧ p.1 ≠ X.env.locals ∧ p.1 ∉ X.fs ∧ ∀ v, p.2.data ≠ .cell v) : Inv X pins' σ H s :=
  ⟨I.ok, I.os, I.bare, I.base, I.loc, I.cell, I.free, I.freeC, fun p hp => (List.mem_append.mp hp).elim (fun z => I.pin p (List.mem_append_left _ z)) (h p), I.hok, I.len⟩
theorem qf0 {N : List Str} (hN : N.Nodup) {i j : Nat} {x : Str} (a : N[i]? = some x) (b : N[j]? = some x) : i = j := by
  obtain ⟨h1, e1⟩ := List.getElem?_eq_some_iff.mp a
  obtain ⟨h2, e2⟩ := List.getElem?_eq_some_iff.mp b
  exact (List.getElem_inj hN).mp (e1.trans e2.symm)
theorem qdE {M : Model} {A : Around} {E : Value → Shared → Prop} {i : Nat} {x : Str} {v : V} {u : Value} {Q : Unit → Shared → Prop} (I : Inv X pins σ H s) (hN : X.N.Nodup) (hi : X.N[i]? = some x) (hx : Loc X.env.scope x) (r : RelV v u)
    (h : ∀ s', Inv X pins (σ.set i (some v)) H s' → (∃ a, Heap.SameBut a s.heap s'.heap ∧ (a = X.env.locals ∨ X.env.cells.lookup x = some a)) → Q () s') (hf : X.fn x = true ∨ X.env.scope.names.lookup x = some .local := by first | exact .inl rfl | exact .inr rfl | assumption) : wpAny M A (storeName X.env x u) Q E s := by
  obtain ⟨m, hn, hl⟩ := id I.loc
  have hcls : (X.env.scope.kind == .class || (X.env.scope.kind == .module && X.env.locals != X.env.globals)) = false := by rw [I.ok.kind]; rfl
  have hiσ : i < σ.length := by rw [I.len]; exact (List.getElem?_eq_some_iff.mp hi).1
  have cne := I.cne
  have tracked : ∀ {a : Addr} {h' : Heap}, (∃ o, s.heap.get? a = some o ∧ H a = none) → Heap.SameBut a s.heap h' → HOk X.prog X.w H h' := fun {a h'} ha hs b ob e => by
    obtain ⟨_, _, hfree⟩ := ha
    refine (I.hok b ob e).stay (fun c w' hc q => (hs.2 c ?_).trans q) (fun _ q => q) fun _ _ q => q
    rintro rfl
    rcases hc with rfl | hc
    · rw [hfree] at e; cases e
    · rw [hfree] at hc; cases hc
  rcases hx with hk | hk
  · refine wpAny_storeName_local hk hn (fun h' hn' hs => ?_) hcls
    obtain ⟨oL, _, _, hoL, _⟩ := id hn
    refine h _ ⟨I.ok, I.os, I.bare, ⟨fun b o e n hb hx => ?_, fun b o e n hb hx => ?_, I.base.free, fun b o e hx => ?_, I.base.tups, I.base.frzs, I.base.tbls⟩, ⟨_, hn', fun j y v' e1 e2 e3 => ?_⟩, fun y c e => ?_, I.free, I.freeC, fun p hp => ?_, tracked ⟨oL, hoL, I.free⟩ hs, by simpa using I.len⟩ ⟨_, hs, .inl rfl⟩
    · exact (hs.2 b (Nat.ne_of_lt (Nat.lt_of_lt_of_le (Heap.lt_size e) I.ok.above))).trans (I.base.keep b o e n hb hx)
    · obtain ⟨sl, e1⟩ := I.base.slot b o e n hb hx
      exact ⟨sl, (hs.2 b (Nat.ne_of_lt (Nat.lt_of_lt_of_le (Heap.lt_size e) I.ok.above))).trans e1⟩
    · obtain ⟨o', e1⟩ := I.base.there b o e hx
      exact ⟨o', (hs.2 b (Nat.ne_of_lt (Nat.lt_of_lt_of_le (Heap.lt_size e) I.ok.above))).trans e1⟩
    · by_cases hj : j = i
      · subst hj
        rw [hi] at e1; cases e1
        rw [List.getElem?_set_self hiσ] at e2
        cases e2
        exact ⟨u, r, .inl ⟨hk, by simp⟩⟩
      · rw [List.getElem?_set_ne (Ne.symm hj)] at e2
        obtain ⟨u', r', q⟩ := hl j y v' e1 e2 e3
        refine ⟨u', r', ?_⟩
        rcases q with ⟨k, e⟩ | ⟨k, c, e, z⟩
        · refine .inl ⟨k, ?_⟩
          have : y ≠ x := fun e => hj (qf0 hN e1 (e ▸ hi))
          simp [this, e]
        · exact .inr ⟨k, c, e, z.sameBut hs (cne y c e)⟩
    · obtain ⟨w', z⟩ := I.cell y c e
      exact ⟨w', z.sameBut hs (cne y c e)⟩
    · obtain ⟨e, n, ne, nf, d⟩ := I.pin p hp
      exact ⟨(hs.2 p.1 ne).trans e, n, ne, nf, d⟩
  · have hfn : X.fn x = true := by
      rcases hf with z | z
      · exact z
      · rw [z] at hk; cases hk
    obtain ⟨c, hc⟩ := I.ok.has x (.inl hk)
    obtain ⟨w', z⟩ := I.cell x c hc
    refine wpAny_storeName_cell I.ok.kind hk hc z (fun h' hc' hs => ?_)
    obtain ⟨oc, hoc, hocd⟩ := id z
    refine h { s with heap := h' } ⟨I.ok, I.os, I.bare, ⟨fun b o e n hb hx => ?_, fun b o e n hb hx => ?_, I.base.free, fun b o e hx => ?_, I.base.tups, I.base.frzs, I.base.tbls⟩, ⟨m, hn.sameBut hs (Ne.symm (cne x c hc)), fun j y v' e1 e2 e3 => ?_⟩, fun y c' e => ?_, I.free, I.freeC, fun p hp => ?_, tracked ⟨oc, hoc, I.freeC x c hc⟩ hs, by simpa using I.len⟩ ⟨c, hs, .inr hc⟩
    · exact (hs.2 b (Nat.ne_of_lt (Nat.lt_of_lt_of_le (Heap.lt_size e) (I.ok.cab x c hfn hc)))).trans (I.base.keep b o e n hb hx)
    · obtain ⟨sl, e1⟩ := I.base.slot b o e n hb hx
      exact ⟨sl, (hs.2 b (Nat.ne_of_lt (Nat.lt_of_lt_of_le (Heap.lt_size e) (I.ok.cab x c hfn hc)))).trans e1⟩
    · obtain ⟨o', e1⟩ := I.base.there b o e hx
      exact ⟨o', (hs.2 b (Nat.ne_of_lt (Nat.lt_of_lt_of_le (Heap.lt_size e) (I.ok.cab x c hfn hc)))).trans e1⟩
    · by_cases hj : j = i
      · subst hj
        rw [hi] at e1; cases e1
        rw [List.getElem?_set_self hiσ] at e2
        cases e2
        exact ⟨u, r, .inr ⟨.inl hk, c, hc, hc'⟩⟩
      · rw [List.getElem?_set_ne (Ne.symm hj)] at e2
        obtain ⟨u', r', q⟩ := hl j y v' e1 e2 e3
        refine ⟨u', r', ?_⟩
        rcases q with q | ⟨k, c', e, z'⟩
        · exact .inl q
        · refine .inr ⟨k, c', e, z'.sameBut hs ?_⟩
          rintro rfl
          exact hj (qf0 hN e1 (I.ok.inj _ _ _ e hc ▸ hi))
    · by_cases hcc : c' = c
      · subst hcc; exact ⟨_, hc'⟩
      · obtain ⟨w2, z2⟩ := I.cell y c' e
        exact ⟨w2, z2.sameBut hs hcc⟩
    · obtain ⟨e, n, ne, nf, d⟩ := I.pin p hp
      refine ⟨(hs.2 p.1 ?_).trans e, n, ne, nf, d⟩
      intro q
      rw [q, hoc] at e
      have q' : oc = p.2 := Option.some.inj e
      exact d w' (by rw [← q']; exact hocd)
theorem qdw {M : Model} {A : Around} {E : Value → Shared → Prop} {i : Nat} {x : Str} {v : V} {u : Value} {Q : Unit → Shared → Prop} (I : Inv X pins σ H s) (hN : X.N.Nodup) (hi : X.N[i]? = some x) (hx : Loc X.env.scope x) (r : RelV v u)
    (h : ∀ s', Inv X pins (σ.set i (some v)) H s' → Q () s') (hf : X.fn x = true ∨ X.env.scope.names.lookup x = some .local := by first | exact .inl rfl | exact .inr rfl | assumption) : wpAny M A (storeName X.env x u) Q E s :=
  qdE I hN hi hx r (fun s' I' _ => h s' I') hf
theorem Inv.call' {s' : Shared} {ch : List Addr} (I : Inv X pins σ H s) (ho : s'.os = s.os) (u : Un (frs X.stack) ch H H' s.heap s'.heap) (hok : HOk X.prog X.w H' s'.heap) (hg : AllBare s'.gens)
    (hch : ∀ b ∈ ch, (b ∈ X.ex ∨ X.s₀.heap.objs.size ≤ b) ∧ b ≠ X.env.locals ∧ (∀ x c, X.env.cells.lookup x = some c → c ≠ b) ∧ ∀ p ∈ X.pn ++ pins, p.1 ≠ b) : Inv X pins σ H' s' := by
  obtain ⟨h', g', d', t', o'⟩ := s'
  have e : o' = s.os := ho
  subst e
  exact I.call (g' := g') (t' := t') (d' := d') u hok hg hch
end
noncomputable abbrev XK := Value → Option Addr → Hp → Prop
noncomputable abbrev St := List (Option V)
noncomputable abbrev VK := V → Hp → Prop
noncomputable abbrev TE := St → Hp → VK → Prop
noncomputable abbrev TT := St → Hp → (Bool → Hp → Prop) → Prop
noncomputable abbrev TA := St → Hp → (List V → Hp → Prop) → Prop
structure Ends where
  nx : St → Hp → Prop
  rt : VK
  bk : St → Hp → Prop := fun _ _ => False
  ct : St → Hp → Prop := fun _ _ => False
noncomputable abbrev TS := Ends → St → Hp → Prop
noncomputable def EP (X : Cx) (pins : List (Addr × Obj)) (σ : St) (Q : VK) (u : Value) (s' : Shared) : Prop := ∃ v H', Inv X pins σ H' s' ∧ RelV v u ∧ Q v H'
noncomputable def TP (X : Cx) (pins : List (Addr × Obj)) (σ : St) (Q : Bool → Hp → Prop) (b : Bool) (s' : Shared) : Prop := ∃ H', Inv X pins σ H' s' ∧ Q b H'
noncomputable def AP (X : Cx) (pins : List (Addr × Obj)) (σ : St) (Q : List V → Hp → Prop) (us : List Value) (s' : Shared) : Prop := ∃ vs H', Inv X pins σ H' s' ∧ Vals vs us ∧ Q vs H'
noncomputable def SP (X : Cx) (pins : List (Addr × Obj)) (D : Ends) (f : Flow) (s' : Shared) : Prop :=
  match f with
  | .next => ∃ σ' H', Inv X pins σ' H' s' ∧ D.nx σ' H'
  | .brk => ∃ σ' H', Inv X pins σ' H' s' ∧ D.bk σ' H'
  | .cont => ∃ σ' H', Inv X pins σ' H' s' ∧ D.ct σ' H'
  | .ret u => ∃ v σ' H', Inv X pins σ' H' s' ∧ RelV v u ∧ D.rt v H'
noncomputable def PE (X : Cx) (e : Expr) (t : TE) : Prop :=
  ∀ (pins : List (Addr × Obj)) (s : Shared) (σ : St) (H : Hp) (Q : VK), Inv X pins σ H s → t σ H Q → wpAny (model X.prog X.w) X.A (eval e X.env) (EP X pins σ Q) X.xe s
noncomputable def PT (X : Cx) (e : Expr) (t : TT) : Prop :=
  ∀ (pins : List (Addr × Obj)) (s : Shared) (σ : St) (H : Hp) (Q : Bool → Hp → Prop), Inv X pins σ H s → t σ H Q → wpAny (model X.prog X.w) X.A (isTrue e X.env (eval e X.env)) (TP X pins σ Q) X.xe s
noncomputable def PW (X : Cx) (e : Expr) (t : TT) : Prop :=
  ∀ (whole : Sem Value) (pins : List (Addr × Obj)) (s : Shared) (σ : St) (H : Hp) (Q : Bool → Hp → Prop), Inv X pins σ H s → t σ H Q → wpAny (model X.prog X.w) X.A (isTrue e X.env whole) (TP X pins σ Q) X.xe s
theorem PW.pt {X : Cx} {e : Expr} {t : TT} (h : PW X e t) : PT X e t := h _
noncomputable def PA (X : Cx) (es : List Expr) (t : TA) : Prop :=
  ∀ (pos : Pos) (pins : List (Addr × Obj)) (s : Shared) (σ : St) (H : Hp) (Q : List V → Hp → Prop), Inv X pins σ H s → t σ H Q → wpAny (model X.prog X.w) X.A (spliced (backTo pos (starEach es X.env))) (AP X pins σ Q) X.xe s
noncomputable def PS (X : Cx) (st : Stmt) (t : TS) : Prop :=
  ∀ (pins : List (Addr × Obj)) (s : Shared) (σ : St) (H : Hp) (D : Ends), Inv X pins σ H s → t D σ H → wpAny (model X.prog X.w) X.A (exec st X.env) (SP X pins D) X.xe s
noncomputable def PSs (X : Cx) (st : List Stmt) (t : TS) : Prop :=
  ∀ (pins : List (Addr × Obj)) (s : Shared) (σ : St) (H : Hp) (D : Ends), Inv X pins σ H s → t D σ H → wpAny (model X.prog X.w) X.A (execs st X.env) (SP X pins D) X.xe s
theorem thn {α : Type} {t : Sem α} {Q Q' : α → Shared → Prop} {M : Model} {A : Around} {E : Value → Shared → Prop} {s : Shared} (h : wpAny M A t Q E s) (hQ : ∀ a s, Q a s → Q' a s) : wpAny M A t Q' E s := wpAny_mono h hQ fun _ _ x => x
end L2
namespace L2
open PySem PySem.Spec PyProof.Rows
section
variable {X : Cx}
noncomputable def qal (i : Nat) : TE := fun σ H Q => ∃ v, σ[i]? = some (some v) ∧ Q v H
noncomputable def tC (v : V) : TE := fun _ H Q => Q v H
theorem qkH {i : Nat} {x : Str} {pos : Pos} (hN : X.N[i]? = some x) (hv : Vis X.env.scope x) (hd : (x == ("__debug__" : Str)) = false := by decide) (hcd : (x == ("__classdict__" : Str)) = false := by decide) : PE X (.Name x pos) (qal i) := by
  intro pins s σ H Q I h
  obtain ⟨v, e, h⟩ := h
  obtain ⟨m, hn, hl⟩ := I.loc
  obtain ⟨u, r, l⟩ := hl i x v hN e hv
  have fin : EP X pins σ Q u s := ⟨v, H, I, r, h⟩
  rcases l with ⟨hk, hm⟩ | ⟨hk, c, hc, hcell⟩
  · exact wpAny_Name (wpAny_loadName_local I.ok.kind hk hn hm fin) hd
  · rcases hk with hk | hk
    · exact wpAny_Name (wpAny_loadName_cell I.ok.kind hk hc hcell fin) hd
    · exact wpAny_Name (wpAny_loadName_free I.ok.kind hk hc hcell fin hcd) hd
theorem qad {i j pos} : PE X (.Constant (.int i) j pos) (tC (.int i)) := fun _ _ _ H _ I h => wpAny_Constant_int ⟨.int i, H, I.tok _, ⟨_, rfl⟩, h⟩
theorem qdn {b j pos} : PE X (.Constant (.bool b) j pos) (tC (.bl b)) := fun _ _ _ H _ I h => Constant_bool ⟨.bl b, H, I, rfl, h⟩
theorem qjg {j pos} : PE X (.Constant .none j pos) (tC .non) := fun _ _ _ H _ I h => Constant_none ⟨.non, H, I, rfl, h⟩
noncomputable def Gl (X : Cx) (x : Str) : Prop := X.env.kindOf x = some .globalImplicit
theorem qha {E : Value → Shared → Prop} {pins : List (Addr × Obj)} {s : Shared} {σ : St} {H : Hp} {x : Str} {u : Value} {pos : Pos} {Q : Value → Shared → Prop} (I : Inv X pins σ H s) (hg : Gl X x) (hm : X.mg x = some u) (h : Q u s)
    (hd : (x == ("__debug__" : Str)) = false := by decide) : wpAny (model X.prog X.w) X.A (eval (.Name x pos) X.env) Q E s :=
  Calls.Name_function_global I.ok.kind hg (Calls.loadGlobal_global (by rw [I.ok.glob]; exact I.mod.glob.keeps I.bk) hm h) hd
theorem qdF {E : Value → Shared → Prop} {pins : List (Addr × Obj)} {s : Shared} {σ : St} {H : Hp} {x : Str} {u : Value} {pos : Pos} {Q : Value → Shared → Prop} (I : Inv X pins σ H s) (hg : Gl X x) (hm : X.mg x = none) (hv : bootBuiltins x = some u) (h : Q u s)
    (hn : x ≠ "__name__" := by decide) (hd : (x == ("__debug__" : Str)) = false := by decide) : wpAny (model X.prog X.w) X.A (eval (.Name x pos) X.env) Q E s := by
  obtain ⟨mb, h1, h2⟩ := I.mod.blt
  exact Calls.Name_function_global I.ok.kind hg (Calls.loadGlobal_builtin (by rw [I.ok.glob]; exact I.mod.glob.keeps I.bk) hm (by rw [I.ok.blt]; exact h1.keeps I.bk) ((h2 x hn).trans hv) h) hd
theorem qcZ {x : Str} {v : V} {u : Value} {pos : Pos} (hg : Gl X x) (hm : X.mg x = none) (hv : bootBuiltins x = some u) (r : RelV v u) (hn : x ≠ "__name__" := by decide) (hd : (x == ("__debug__" : Str)) = false := by decide) : PE X (.Name x pos) (tC v) :=
  fun _ _ _ H _ I h => qdF I hg hm hv ⟨v, H, I, r, h⟩ hn hd
variable {a b : Expr} {ta tb : TE} {pos : Pos}
noncomputable def tB (t : TE) : TT := fun σ H Q => t σ H fun x H1 => ∃ c, x = .bl c ∧ Q c H1
theorem qbP {e : Expr} {t : TE} (h : PE X e t) (he : ∀ whole, isTrue e X.env whole = (do let v ← whole; standAt e.pos; holding [v] (truthy v)) := by intro _; rfl) : PT X e (tB t) := by
  intro pins s σ H Q I hw
  refine isTrue_plain (thn (h pins s σ H _ I hw) fun v s1 ⟨x, H1, I1, r1, q1⟩ => ?_) (he _)
  obtain ⟨d, rfl, q⟩ := q1
  cases r1
  exact wpAny_truthy_bool ⟨H1, I1, q⟩
variable {tA tB' : TT} {rest : List Expr}
noncomputable def qlI (t u : TT) : TT := fun σ H Q => t σ H fun c H1 => if c = true then u σ H1 Q else Q false H1
noncomputable def tOr (t u : TT) : TT := fun σ H Q => t σ H fun c H1 => if c = true then Q true H1 else u σ H1 Q
noncomputable def qgr (t : TT) : TT := fun σ H Q => t σ H fun c H1 => Q (!c) H1
theorem qhb (ha : PT X a tA) : PW X (.BoolOp .And [a] pos) tA := by
  intro wh pins s σ H Q I h
  refine isTrue_and (thn (ha pins s σ H Q I h) fun c s1 e => ?_)
  cases c with
  | true => exact isTrue_and_nil e
  | false => exact e
theorem qel (ha : PT X a tA) : PW X (.BoolOp .Or [a] pos) tA := by
  intro wh pins s σ H Q I h
  refine isTrue_or (thn (ha pins s σ H Q I h) fun c s1 e => ?_)
  cases c with
  | false => exact isTrue_or_nil e
  | true => exact e
theorem qjh (ha : PT X a tA) (hb : PW X (.BoolOp .And (b :: rest) pos) tB') : PW X (.BoolOp .And (a :: b :: rest) pos) (qlI tA tB') := by
  intro wh pins s σ H Q I h
  refine isTrue_and (thn (ha pins s σ H _ I h) fun c s1 ⟨H1, I1, q1⟩ => ?_)
  cases c with
  | true => exact hb wh pins s1 σ H1 Q I1 q1
  | false => exact ⟨H1, I1, q1⟩
theorem qdG (ha : PT X a tA) (hb : PW X (.BoolOp .Or (b :: rest) pos) tB') : PW X (.BoolOp .Or (a :: b :: rest) pos) (tOr tA tB') := by
  intro wh pins s σ H Q I h
  refine isTrue_or (thn (ha pins s σ H _ I h) fun c s1 ⟨H1, I1, q1⟩ => ?_)
  cases c with
  | true => exact ⟨H1, I1, q1⟩
  | false => exact hb wh pins s1 σ H1 Q I1 q1
theorem qb5 (ha : PT X a tA) : PT X (.UnaryOp .Not a pos) (qgr tA) := by
  intro pins s σ H Q I h
  exact isTrue_not (ha pins s σ H (fun c H1 => Q (!c) H1) I h)
noncomputable def qjH (ta tb : TE) : TE := fun σ H Q => ta σ H fun x H1 => ∃ c, x = .bl c ∧ if c = true then tb σ H1 Q else Q (.bl false) H1
noncomputable def qmv (ta tb : TE) : TE := fun σ H Q => ta σ H fun x H1 => ∃ c, x = .bl c ∧ if c = true then Q (.bl true) H1 else tb σ H1 Q
noncomputable def qlL (ta : TE) : TE := fun σ H Q => ta σ H fun x H1 => ∃ c, x = .bl c ∧ Q (.bl (!c)) H1
theorem qkI {op} {t : TE} (h : PE X a t) : PE X (.BoolOp op [a] pos) t := fun pins s σ H Q I hw => BoolOp_one (h pins s σ H Q I hw)
theorem qkJ (ha : PE X a ta) (hb : PE X (.BoolOp .And (b :: rest) pos) tb) : PE X (.BoolOp .And (a :: b :: rest) pos) (qjH ta tb) := by
  intro pins s σ H Q I h
  refine BoolOp_and (thn (ha pins s σ H _ I h) fun v s1 ⟨x, H1, I1, r1, q1⟩ => ?_)
  obtain ⟨c, rfl, q1⟩ := q1
  cases r1
  refine wpAny_truthy_bool ?_
  cases c with
  | true => exact hb pins s1 σ H1 Q I1 q1
  | false => exact ⟨.bl false, H1, I1, rfl, q1⟩
noncomputable def tIf (t : TT) (ta tb : TE) : TE := fun σ H Q => t σ H fun c H1 => if c = true then ta σ H1 Q else tb σ H1 Q
end
end L2
namespace L2
open PySem PySem.Spec PyProof.Rows
noncomputable def SqL (K : PySem.W.Frag) (H : Hp) (a : Addr) (xs : List V) : Prop :=
  Rd H a (.lst xs) ∨
    ∃ (o : Obj) (its : Array Value) (n : Nat), K.lookup a = some o ∧ o.cls = .type "list" ∧ o.dict = none ∧ o.data = .seq its n ∧ its.size ≤ sizeLine ∧ Vals xs its.toList
noncomputable def SqT (K : PySem.W.Frag) (H : Hp) (a : Addr) (xs : List V) : Prop :=
  Rd H a (.tup xs) ∨
    ∃ (o : Obj) (its : Array Value) (n : Nat), K.lookup a = some o ∧ o.cls = .type "tuple" ∧ o.data = .seq its n ∧ its.size ≤ sizeLine ∧ Vals xs its.toList
noncomputable def qmw : Value → Option V
  | .none => some .non
  | .bool b => some (.bl b)
  | .int i _ => some (.int i)
  | .str x _ => some (.str x)
  | .bytes b _ => some (.byt b)
  | .float b _ => some (.flt b)
  | .ref a => some (.ref a)
  | .type n => some (.ty n)
  | _ => none
theorem RelV.abs {x : V} {u : Value} (r : RelV x u) : qmw u = some x := by
  cases x with
  | non => cases r; rfl
  | bl _ => cases r; rfl
  | int _ => obtain ⟨t, rfl⟩ := r; rfl
  | str _ => obtain ⟨t, rfl⟩ := r; rfl
  | byt _ => obtain ⟨t, rfl⟩ := r; rfl
  | flt _ => obtain ⟨t, rfl⟩ := r; rfl
  | ref _ => cases r; rfl
  | ty _ => cases r; rfl
theorem RelV.inj {x y : V} {u : Value} (r : RelV x u) (q : RelV y u) : x = y := Option.some.inj (r.abs.symm.trans q.abs)
theorem Vals.inj : ∀ {xs ys : List V} {us : List Value}, Vals xs us → Vals ys us → xs = ys
  | _, _, _, .nil, .nil => rfl
  | _, _, _, .cons r t, .cons r' t' => by rw [r.inj r', Vals.inj t t']
section
variable {X : Cx} {pins : List (Addr × Obj)} {σ : St} {H : Hp} {s : Shared} {a : Addr} {xs ys : List V}
theorem SqL.of {K : PySem.W.Frag} (h : H a = some (.lst xs)) : SqL K H a xs := .inl (.inl h)
theorem SqT.of {K : PySem.W.Frag} (h : H a = some (.tup xs)) : SqT K H a xs := .inl (.inl h)
theorem Inv.list (I : Inv X pins σ H s) (h : SqL X.K H a xs) : ∃ its : List Value, Vals xs its ∧ PlainL s.heap a its.toArray ∧ xs.length ≤ sizeLine := by
  rcases h with h | ⟨o, its, n, hk, hc, hd, hs, hz, r⟩
  · obtain ⟨z, its, n, r, e⟩ := h.ok I.hok
    exact ⟨its, r, ⟨_, n, e, rfl, rfl, rfl⟩, z⟩
  · refine ⟨its.toList, r, ⟨o, n, I.kIn a o hk, hc, hd, by simpa using hs⟩, ?_⟩
    have e := r.length
    simp only [Array.length_toList] at e
    omega
theorem Inv.tuple (I : Inv X pins σ H s) (h : SqT X.K H a xs) : ∃ its : List Value, Vals xs its ∧ IsTup s.heap a its.toArray ∧ xs.length ≤ sizeLine := by
  rcases h with h | ⟨o, its, n, hk, hc, hs, hz, r⟩
  · obtain ⟨z, its, r, p⟩ := h.ok I.hok
    exact ⟨its, r, p, z⟩
  · refine ⟨its.toList, r, ⟨o, I.kIn a o hk, hc, n, by simpa using hs⟩, ?_⟩
    have e := r.length
    simp only [Array.length_toList] at e
    omega
theorem Inv.list_inj (I : Inv X pins σ H s) (h : SqL X.K H a xs) (h' : SqL X.K H a ys) : xs = ys := by
  obtain ⟨its, r, ⟨o, n, e, _, _, d⟩, _⟩ := I.list h
  obtain ⟨its', r', ⟨o', n', e', _, _, d'⟩, _⟩ := I.list h'
  rw [e] at e'; cases e'
  rw [d] at d'
  injection d' with d1 _
  have : its = its' := by simpa using congrArg Array.toList d1
  subst this
  exact r.inj r'
theorem Inv.tuple_inj (I : Inv X pins σ H s) (h : SqT X.K H a xs) (h' : SqT X.K H a ys) : xs = ys := by
  obtain ⟨its, r, ⟨o, e, _, n, d⟩, _⟩ := I.tuple h
  obtain ⟨its', r', ⟨o', e', _, n', d'⟩, _⟩ := I.tuple h'
  rw [e] at e'; cases e'
  rw [d] at d'
  injection d' with d1 _
  have : its = its' := by simpa using congrArg Array.toList d1
  subst this
  exact r.inj r'
end
noncomputable abbrev Cx.wish (X : Cx) (E : Value → Shared → Prop) : Cx := { X with xe := E }
noncomputable abbrev Cx.nox (X : Cx) : Cx := X.wish fun _ _ => False
theorem Cx.Ok.wish {X : Cx} (ok : X.Ok) (E : Value → Shared → Prop) : (X.wish E).Ok :=
  ⟨ok.mod, ok.kind, ok.glob, ok.blt, ok.above, ok.inj, ok.has, ok.cab, ok.hd, ok.frames, ok.stk, ok.exf, ok.bs, ok.bsz, ok.noex, ok.exfs, ok.funs, ok.frf, ok.seer, ok.tree, ok.plr⟩
theorem Cx.Ok.unwish {X : Cx} {E : Value → Shared → Prop} (ok : (X.wish E).Ok) : X.Ok :=
  ⟨ok.mod, ok.kind, ok.glob, ok.blt, ok.above, ok.inj, ok.has, ok.cab, ok.hd, ok.frames, ok.stk, ok.exf, ok.bs, ok.bsz, ok.noex, ok.exfs, ok.funs, ok.frf, ok.seer, ok.tree, ok.plr⟩
section
variable {X : Cx} {pins : List (Addr × Obj)} {σ : St} {H : Hp} {s : Shared} {E : Value → Shared → Prop}
theorem Inv.wish (I : Inv X pins σ H s) (E : Value → Shared → Prop) : Inv (X.wish E) pins σ H s := ⟨I.ok.wish E, I.os, I.bare, I.base, I.loc, I.cell, I.free, I.freeC, I.pin, I.hok, I.len⟩
theorem Inv.unwish (I : Inv (X.wish E) pins σ H s) : Inv X pins σ H s := ⟨I.ok.unwish, I.os, I.bare, I.base, I.loc, I.cell, I.free, I.freeC, I.pin, I.hok, I.len⟩
theorem SP.unwish {D : Ends} {f : Flow} {s' : Shared} (h : SP (X.wish E) pins D f s') : SP X pins D f s' := by
  cases f with
  | next => obtain ⟨σ', H', I, q⟩ := h; exact ⟨σ', H', I.unwish, q⟩
  | brk => obtain ⟨σ', H', I, q⟩ := h; exact ⟨σ', H', I.unwish, q⟩
  | cont => obtain ⟨σ', H', I, q⟩ := h; exact ⟨σ', H', I.unwish, q⟩
  | ret u => obtain ⟨v, σ', H', I, r, q⟩ := h; exact ⟨v, σ', H', I.unwish, r, q⟩
theorem PE.nox {e : Expr} {t : TE} (h : PE X.nox e t) : PE X e t := fun pins s σ H Q I hw =>
  wpAny_mono (h pins s σ H Q (I.wish _) hw) (fun _ _ ⟨v, H', I', r, q⟩ => ⟨v, H', I'.unwish, r, q⟩) fun _ _ z => False.elim z
theorem PT.nox {e : Expr} {t : TT} (h : PT X.nox e t) : PT X e t := fun pins s σ H Q I hw =>
  wpAny_mono (h pins s σ H Q (I.wish _) hw) (fun _ _ ⟨H', I', q⟩ => ⟨H', I'.unwish, q⟩) fun _ _ z => False.elim z
theorem PSs.nox {st : List Stmt} {t : TS} (h : PSs X.nox st t) : PSs X st t := fun pins s σ H D I hw =>
  wpAny_mono (h pins s σ H D (I.wish _) hw) (fun _ _ q => q.unwish) fun _ _ z => False.elim z
end
section
variable {X : Cx} {st : Stmt} {rest : List Stmt} {t u : TS} {e : Expr} {te : TE} {pos : Pos}
noncomputable def qbC : TS := fun D σ H => D.nx σ H
noncomputable def qaG (t u : TS) : TS := fun D σ H => t { D with nx := u D } σ H
theorem qaL : PSs X [] qbC := fun _ _ σ H _ I h => wpAny_execs_nil ⟨σ, H, I, h⟩
theorem qag (h1 : PS X st t) (h2 : PSs X rest u) : PSs X (st :: rest) (qaG t u) := by
  intro pins s σ H D I h
  refine wpAny_execs_cons (thn (h1 pins s σ H { D with nx := u D } I h) fun f s1 q => ?_)
  cases f with
  | next =>
    obtain ⟨σ', H', I', q⟩ := q
    exact h2 pins s1 σ' H' D I' q
  | ret v => exact q
  | brk => exact q
  | cont => exact q
theorem qak (h1 : PS X st t) : PSs X [st] t := by
  intro pins s σ H D I h
  refine wpAny_execs_cons (thn (h1 pins s σ H D I h) fun f s1 q => ?_)
  cases f with
  | next => exact wpAny_execs_nil q
  | ret v => exact q
  | brk => exact q
  | cont => exact q
theorem Inv.quiet {pins : List (Addr × Obj)} {σ : St} {H : Hp} {s : Shared} (I : Inv X pins σ H s) : interactive X.env = false := by simp [interactive, I.ok.kind]
noncomputable def qcw (te : TE) : TS := fun D σ H => te σ H fun _ H1 => D.nx σ H1
theorem qbc (he : PE X e te) (hs : swapsWith e none pos.line X.env = pure false := by rfl) : PS X (.Expr e pos) (qcw te) := by
  intro pins s σ H D I h
  exact wpAny_Expr_any (thn (he pins s σ H _ I h) fun v s1 ⟨x, H1, I1, r1, q1⟩ => ⟨σ, H1, I1, q1⟩) I.quiet hs
noncomputable def qbB (te : TE) : TS := fun D σ H => te σ H D.rt
theorem qas (he : PE X e te) : PS X (.Return (some e) pos) (qbB te) := by
  intro pins s σ H D I h
  exact wpAny_Return_some (thn (he pins s σ H _ I h) fun v s1 ⟨x, H1, I1, r1, q1⟩ => ⟨x, σ, H1, I1, r1, q1⟩)
noncomputable def qdH (c : TT) (t u : TS) : TS := fun D σ H => c σ H fun b H1 => if b = true then t D σ H1 else u D σ H1
theorem qbD {c : Expr} {a b : List Stmt} {tc : TT} (hc : PT X c tc) (ha : PSs X a t) (hb : PSs X b u) : PS X (.If c a b pos) (qdH tc t u) := by
  intro pins s σ H D I h
  refine wpAny_If (thn (hc pins s σ H _ I h) fun d s1 ⟨H1, I1, q1⟩ => ?_)
  cases d with
  | true => exact ha pins s1 σ H1 D I1 q1
  | false => exact hb pins s1 σ H1 D I1 q1
end
noncomputable abbrev TG := V → St → Hp → (St → Hp → Prop) → Prop
noncomputable abbrev TGs := List V → St → Hp → (St → Hp → Prop) → Prop
noncomputable def PG (X : Cx) (target : Expr) (t : TG) : Prop :=
  ∀ (pins : List (Addr × Obj)) (s : Shared) (σ : St) (H : Hp) (v : V) (u : Value) (Q : St → Hp → Prop), Inv X pins σ H s → RelV v u → t v σ H Q →
    wpAny (model X.prog X.w) X.A (assign target X.env u) (fun _ s' => ∃ σ' H', Inv X pins σ' H' s' ∧ Q σ' H') X.xe s
noncomputable def PGs (X : Cx) (ts : List Expr) (t : TGs) : Prop :=
  ∀ (pins : List (Addr × Obj)) (s : Shared) (σ : St) (H : Hp) (vs : List V) (us : List Value) (Q : St → Hp → Prop), Inv X pins σ H s → Vals vs us → t vs σ H Q →
    wpAny (model X.prog X.w) X.A (assignInOrder ((assignEach ts X.env).map (·.2)) us) (fun _ s' => ∃ σ' H', Inv X pins σ' H' s' ∧ Q σ' H') X.xe s
noncomputable abbrev TSet := V → V → V → Hp → (Hp → Prop) → Prop
noncomputable abbrev TIp := V → V → Hp → VK → Prop
section
variable {X : Cx} {pos : Pos}
noncomputable def qam (i : Nat) : TG := fun v σ H Q => Q (σ.set i (some v)) H
theorem qar {i : Nat} {x : Str} (hN : X.N.Nodup) (hi : X.N[i]? = some x) (hx : Loc X.env.scope x) (hf : X.fn x = true ∨ X.env.scope.names.lookup x = some .local := by first | exact .inl rfl | exact .inr rfl | assumption) : PG X (.Name x pos) (qam i) := by
  intro pins s σ H v u Q I r h
  exact wpAny_assign_Name (qdw I hN hi hx r (fun s' I' => ⟨_, H, I', h⟩) hf)
noncomputable def qgs : TGs := fun vs σ H Q => vs = [] ∧ Q σ H
noncomputable def qbg (t : TG) (u : TGs) : TGs := fun vs σ H Q => ∃ v r, vs = v :: r ∧ t v σ H fun σ' H' => u r σ' H' Q
theorem qbj : PGs X [] qgs := by
  intro pins s σ H vs us Q I r h
  obtain ⟨e, h⟩ := h
  subst e
  cases r
  exact assignInOrder_nil ⟨σ, H, I, h⟩
theorem qat {e : Expr} {es : List Expr} {t : TG} {u : TGs} (h1 : PG X e t) (h2 : PGs X es u)
    (hs : (assignEach (e :: es) X.env).map (·.2) = assign e X.env :: (assignEach es X.env).map (·.2) := by rfl) : PGs X (e :: es) (qbg t u) := by
  intro pins s σ H vs us Q I r h
  obtain ⟨v, vr, e1, h⟩ := h
  subst e1
  cases r with
  | cons r rr =>
    rw [hs]
    refine assignInOrder_cons (thn (h1 pins s σ H _ _ _ I r h) fun _ s1 ⟨σ1, H1, I1, q1⟩ => ?_)
    exact h2 pins s1 σ1 H1 _ _ Q I1 rr q1
noncomputable def qmx (K : PySem.W.Frag) (n : Nat) (t : TGs) : TG := fun v σ H Q => ∃ a xs, v = .ref a ∧ SqT K H a xs ∧ xs.length = n ∧ t xs σ H Q
theorem qkK {es : List Expr} {k : Nat} {t : TGs} {n : Nat} (hc : X.calm = true) (h : PGs X es t)
    (hn : (assignEach es X.env).length = n := by rfl) (hst : (assignEach es X.env).findIdx? (·.1) = none := by rfl) : PG X (.Tuple es k pos) (qmx X.K n t) := by
  intro pins s σ H v u Q I r hw
  obtain ⟨a, xs, e1, hq, hl, hw⟩ := hw
  subst e1
  cases r
  obtain ⟨its, rv, ht, hz⟩ := I.tuple hq
  refine assign_Tuple_tuple (I.ok.hd hc) ht (by simp [hn, ← hl, rv.length]) hst fun h' hx => ?_
  have I1 : Inv X pins σ H { s with heap := h' } := I.kept (t' := s.toks) fun b o e => hx b o (Nat.ne_of_lt (Heap.lt_size e)) e
  exact h pins _ σ H xs _ Q I1 (by simpa using rv) hw
noncomputable def qmy (to ti : TE) (t : TSet) : TG := fun v σ H Q => to σ H fun o H1 => ti σ H1 fun i H2 => t o i v H2 fun H3 => Q σ H3
noncomputable def qa3 (te : TE) (g : TG) : TS := fun D σ H => te σ H fun x H1 => g x σ H1 D.nx
theorem qf1 {tg e : Expr} {te : TE} {g : TG} (he : PE X e te) (hg : PG X tg g) (hs : swapsWithSole [tg] e pos.line X.env = pure false := by rfl) (hw : swappedStores [tg] e X.env = pure none := by rfl)
    (h1 : (assignEach [tg] X.env).map (·.2) = [assign tg X.env] := by rfl) : PS X (.Assign [tg] e pos) (qa3 te g) := by
  intro pins s σ H D I h
  refine wpAny_Assign_stores (thn (he pins s σ H _ I h) fun v s1 ⟨x, H1, I1, r1, q1⟩ => ?_) hs hw
  rw [h1]
  exact thn (hg pins s1 σ H1 x v _ I1 r1 q1) fun _ s2 q => q
theorem qaB {i : Nat} {x : Str} {e : Expr} {te : TE} {pos' : Pos} (hN : X.N.Nodup) (hi : X.N[i]? = some x) (hx : Loc X.env.scope x) (he : PE X e te) (hs : swapsWith e (some (.Name x pos')) pos.line X.env = pure false := by rfl) (hf : X.fn x = true ∨ X.env.scope.names.lookup x = some .local := by first | exact .inl rfl | exact .inr rfl | assumption) :
    PS X (.Assign [.Name x pos'] e pos) (qa3 te (qam i)) := by
  intro pins s σ H D I h
  refine wpAny_Assign_Name (thn (he pins s σ H _ I h) fun v s1 ⟨y, H1, I1, r1, q1⟩ => ?_) hs
  exact qdw I1 hN hi hx r1 (fun s2 I2 => ⟨_, H1, I2, q1⟩) hf
noncomputable def qky (i j : Nat) (ta : TA) : TS := fun D σ H => ta σ H fun vs H1 => ∃ v w, vs = [v, w] ∧ D.nx ((σ.set i (some v)).set j (some w)) H1
theorem qf2 {i j : Nat} {x y : Str} {a b : Expr} {ta : TA} {px py pt : Pos} {kt k2 pt2} (hc : X.calm = true) (hN : X.N.Nodup) (hi : X.N[i]? = some x) (hj : X.N[j]? = some y) (hij : i ≠ j)
    (hx : X.env.scope.names.lookup x = some .local) (hy : X.env.scope.names.lookup y = some .local) (ha : PA X [a, b] ta)
    (hw : swappedStores [.Tuple [.Name x px, .Name y py] kt pt] (.Tuple [a, b] k2 pt2) X.env = pure (some [x, y]))
    (hs : swapsWithSole [.Tuple [.Name x px, .Name y py] kt pt] (.Tuple [a, b] k2 pt2) pos.line X.env = pure false := by rfl) :
    PS X (.Assign [.Tuple [.Name x px, .Name y py] kt pt] (.Tuple [a, b] k2 pt2) pos) (qky i j ta) := by
  intro pins s σ H D I h
  rw [exec_Assign_arm]
  refine wpAny_bind (wpAny_standAt ?_)
  rw [hs]
  refine wpAny_bind (wpAny_pure ?_)
  rw [if_neg (by decide)]
  refine wpAny_bind (Tuple_ (thn (ha _ pins s σ H _ I h) fun us s1 ⟨vs, H1, I1, r1, q1⟩ => ?_))
  obtain ⟨v, w, e1, q1⟩ := q1
  subst e1
  obtain ⟨u1, u2, rfl, rv, rw'⟩ : ∃ u1 u2, us = [u1, u2] ∧ RelV v u1 ∧ RelV w u2 := by
    cases r1 with
    | cons p q =>
      cases q with
      | cons p' q' =>
        cases q'
        exact ⟨_, _, rfl, p, p'⟩
  refine wpAny_newObj_type ?_ (by show 2 ≤ sizeLine; decide)
  have I2 : Inv X pins σ H1 { s1 with heap := s1.heap.push { cls := .type "tuple", data := .seq [u1, u2].toArray } } := I1.kept (t' := s1.toks) fun b o e => Heap.get?_push_of_some _ e
  rw [hw]
  refine wpAny_bind (wpAny_pure ?_)
  show wpAny (model X.prog X.w) X.A (do rule "assign.swapped-stores"; let items ← unpackItems (.ref s1.heap.objs.size) 2 none; assignInOrder [fun v => bindName X.env y v, fun v => bindName X.env x v] items.reverse; pure Flow.next) _ _ _
  refine wpAny_bind (wpAny_rule (wpAny_bind (unpackItems_tuple (items := #[u1, u2]) (I.ok.hd hc) (IsTup.new s1.heap _) fun h' hx' => ?_)))
  have I3 := I2.kept (h' := h') (t' := s1.toks) fun b o e => hx' b o (Nat.ne_of_lt (Heap.lt_size e)) e
  show wpAny _ _ (assignInOrder [fun v => bindName X.env y v, fun v => bindName X.env x v] [u2, u1] >>= fun _ => pure Flow.next) _ _ _
  refine wpAny_bind (assignInOrder_cons (wpAny_bindName (qdw I3 hN hj (.inl hy) rw' (fun s2 I4 => ?_) (.inr hy))))
  refine assignInOrder_cons (wpAny_bindName (qdw I4 hN hi (.inl hx) rv (fun s3 I5 => assignInOrder_nil (wpAny_pure ?_)) (.inr hx)))
  rw [List.set_comm _ _ (Ne.symm hij)] at I5
  exact ⟨_, H1, I5, q1⟩
noncomputable def qmz (i : Nat) (te : TE) (ti : TIp) : TS := fun D σ H => ∃ x, σ[i]? = some (some x) ∧ te σ H fun y H1 => ti x y H1 fun z H2 => D.nx (σ.set i (some z)) H2
noncomputable def qlM (to ti te : TE) (tget : V → V → Hp → VK → Prop) (tip : TIp) (tset : TSet) : TS := fun D σ H => to σ H fun o H1 => ti σ H1 fun i H2 => tget o i H2 fun x H3 => te σ H3 fun y H4 => tip x y H4 fun z H5 => tset o i z H5 fun H6 => D.nx σ H6
end
section
variable {X : Cx} {pos : Pos}
noncomputable def qdb (c : TT) (tb : TS) : TS := fun D σ H => ∃ W : Nat → St → Hp → Prop, (∃ m, W m σ H) ∧ ∀ m σ H, W m σ H →
  c σ H fun b H1 => if b = true then ∃ N : St → Hp → Prop, (∀ σ' H', N σ' H' → ∃ m', m' < m ∧ W m' σ' H') ∧ tb { D with nx := N, ct := N, bk := D.nx } σ H1 else D.nx σ H1
theorem qcz {c : Expr} {body : List Stmt} {tc : TT} {tb : TS} (hp : PassesOwn (model X.prog X.w) X.A X.env X.xe) (hc : PT X c tc) (hb : PSs X body tb) : PS X (.While c body [] pos) (qdb tc tb) := by
  intro pins s σ H D I h
  obtain ⟨W, ⟨m0, w0⟩, turn⟩ := h
  refine wpAny_While (codeAny_whileLoop (fun n s' => ∃ σ' H', Inv X pins σ' H' s' ∧ W n σ' H') ?_ m0 ⟨σ, H, I, w0⟩)
  rintro n s1 ⟨σ1, H1, I1, w1⟩
  refine wpAny_passesOwn hp (thn (hc pins s1 σ1 H1 _ I1 (turn n σ1 H1 w1)) fun b s2 ⟨H2, I2, q2⟩ => ?_)
  cases b with
  | true =>
    obtain ⟨N, hN, q2⟩ := q2
    rw [if_pos rfl]
    refine wpAny_passesOwn hp (thn (hb pins s2 σ1 H2 _ I2 q2) fun f s3 q3 => ?_)
    cases f with
    | next =>
      obtain ⟨σ3, H3, I3, n3⟩ := q3
      obtain ⟨m', hm, w3⟩ := hN σ3 H3 n3
      exact ⟨m', hm, σ3, H3, I3, w3⟩
    | cont =>
      obtain ⟨σ3, H3, I3, n3⟩ := q3
      obtain ⟨m', hm, w3⟩ := hN σ3 H3 n3
      exact ⟨m', hm, σ3, H3, I3, w3⟩
    | brk => exact q3
    | ret v => exact q3
  | false =>
    rw [if_neg Bool.false_ne_true]
    exact wpAny_execs_nil ⟨σ1, H2, I2, q2⟩
end
structure It where
  go : Nat → Hp → Prop
  yld : Nat → Hp → V → Hp → Prop
  stop : Nat → Hp → Prop
noncomputable def qgt (X : Cx) (pins : List (Addr × Obj)) (H : Hp) (b : Addr) : Prop :=
  H b = none ∧ b ≠ X.env.locals ∧ b ∉ X.fs ∧ (b ∈ X.ex ∨ X.s₀.heap.objs.size ≤ b) ∧ (∀ x c, X.env.cells.lookup x = some c → c ≠ b) ∧ ∀ p ∈ X.pn ++ pins, p.1 ≠ b
theorem Inv.fpOk {X : Cx} {pins : List (Addr × Obj)} {σ : St} {H H' : Hp} {s : Shared} {b : Addr} (I : Inv X pins σ H s) (hb : s.heap.objs.size ≤ b) (hn : H' b = none) : qgt X pins H' b := by
  refine ⟨hn, Nat.ne_of_gt (Nat.lt_of_lt_of_le I.lt hb), I.nofs hb, .inr (Nat.le_trans I.sz hb), fun x c e z => ?_, fun p hp z => ?_⟩
  · obtain ⟨v, q⟩ := I.cell x c e
    exact absurd (Nat.lt_of_lt_of_le q.lt (by rw [z]; exact hb)) (Nat.lt_irrefl _)
  · exact absurd (Nat.lt_of_lt_of_le (Heap.lt_size (I.pin p hp).1) (by rw [z]; exact hb)) (Nat.lt_irrefl _)
structure Turn (P : Program) (w : World) (K : PySem.W.Frag) (tg : Expr) (J : It) (fp : List Addr) (it : Addr) (tn : Nat → Heap → Prop) : Prop where
  mem : it ∈ fp
  obj : ∀ i h, tn i h → ∀ b ∈ fp, ∃ o, h.get? b = some o ∧ ∀ v, o.data ≠ .cell v
  keep : ∀ i h h', tn i h → (∀ b ∈ fp, ∀ o, h.get? b = some o → h'.get? b = some o) → tn i h'
  item : ∀ (X : Cx), X.prog = P → X.w = w → X.K = K → X.calm = true → ∀ (i : Nat) (pins : List (Addr × Obj)) (s : Shared) (σ : St) (H : Hp) (E : Value → Shared → Prop), Inv X pins σ H s → (∀ b ∈ fp, qgt X pins H b) → tn i s.heap → J.go i H →
    wpAny (model P w) X.A (pyNext (.ref it)) (fun r s1 => ∃ u, r = some u ∧
      wpAny (model P w) X.A (letOwnedTupleGo tg (.ref it) u) (fun _ s2 => ∃ x H', Inv X pins σ H' s2 ∧ RelV x u ∧ J.yld i H x H' ∧ tn (i + 1) s2.heap ∧ ∀ b ∈ fp, H' b = none) E s1) E s
  done : ∀ (X : Cx), X.prog = P → X.w = w → X.K = K → X.calm = true → ∀ (i : Nat) (pins : List (Addr × Obj)) (s : Shared) (σ : St) (H : Hp) (E : Value → Shared → Prop), Inv X pins σ H s → (∀ b ∈ fp, qgt X pins H b) → tn i s.heap → J.stop i H →
    wpAny (model P w) X.A (pyNext (.ref it)) (fun r s1 => r = none ∧ Inv X pins σ H s1) E s
  self : ∀ (A : Around) (i : Nat) (s : Shared) (Q : Value → Shared → Prop) (E : Value → Shared → Prop), tn i s.heap → Q (.ref it) s → wpAny (model P w) A (pyIter (.ref it)) Q E s
noncomputable abbrev TI := St → Hp → (It → Hp → Prop) → Prop
noncomputable def PIE (X : Cx) (pins : List (Addr × Obj)) (σ : St) (tg : Expr) (R : It → Hp → Prop) (itv : Value) (s2 : Shared) : Prop :=
  ∃ (it : Addr) (fp : List Addr) (tn : Nat → Heap → Prop) (J : It) (H' : Hp), itv = .ref it ∧ Inv X pins σ H' s2 ∧ Turn X.prog X.w X.K tg J fp it tn ∧ tn 0 s2.heap ∧ (∀ b ∈ fp, qgt X pins H' b) ∧ R J H'
noncomputable def PI (X : Cx) (tg iter : Expr) (wi : TI) : Prop :=
  ∀ (pins : List (Addr × Obj)) (s : Shared) (σ : St) (H : Hp) (R : It → Hp → Prop), Inv X pins σ H s → wi σ H R →
    wpAny (model X.prog X.w) X.A (eval iter X.env) (fun v s1 => wpAny (model X.prog X.w) X.A (pyIter v) (PIE X pins σ tg R) X.xe s1) X.xe s
theorem qjI {M : Model} {A : Around} {E : Value → Shared → Prop} {s : Shared} {tg : Expr} {it : Addr} {u : Value} {o : Obj} {n : String} {vs : Array Value} {Q : Unit → Shared → Prop} (ho : s.heap.get? it = some o) (hc : o.cls = .type n) (hd : o.data = .fields vs)
    (hn : ["enumerate", "zip", "dict_itemiterator", "dict_reverseitemiterator", "odict_iterator", "itertools.zip_longest", "itertools.pairwise"].contains n = false) (hQ : Q () s) : wpAny M A (letOwnedTupleGo tg (.ref it) u) Q E s := by
  unfold letOwnedTupleGo
  cases tg <;> first
    | exact wpAny_pure hQ
    | (cases u <;> first
        | exact wpAny_pure hQ
        | (refine wpAny_bind (wpAny_load ho ?_)
           rw [hc, hd]
           show wpAny M A (if (["enumerate", "zip", "dict_itemiterator", "dict_reverseitemiterator", "odict_iterator", "itertools.zip_longest", "itertools.pairwise"].contains n && vs[0]? == some (rawInt _)) = true then _ else _) Q E s
           rw [if_neg (by intro h; rw [hn, Bool.false_and] at h; cases h)]
           exact wpAny_pure hQ))
noncomputable def Itl (K : PySem.W.Frag) (a : Addr) : It :=
  ⟨fun i H => ∃ xs x, SqL K H a xs ∧ xs[i]? = some x, fun i H x H' => H' = H ∧ ∀ xs, SqL K H a xs → xs[i]? = some x, fun i H => ∃ xs, SqL K H a xs ∧ xs.length ≤ i⟩
noncomputable def Itt (K : PySem.W.Frag) (a : Addr) : It :=
  ⟨fun i H => ∃ xs x, SqT K H a xs ∧ xs[i]? = some x, fun i H x H' => H' = H ∧ ∀ xs, SqT K H a xs → xs[i]? = some x, fun i H => ∃ xs, SqT K H a xs ∧ xs.length ≤ i⟩
noncomputable def Itr (lo : Int) (n : Nat) : It := ⟨fun i _ => i < n, fun i H x H' => H' = H ∧ x = .int (lo + i), fun i _ => n ≤ i⟩
theorem qhc {P : Program} {w : World} {K : PySem.W.Frag} {tg : Expr} (a it : Addr) : Turn P w K tg (Itl K a) [it] it (fun i h => h.IsListIter it a i) where
  mem := by simp
  obj := fun i h st b hb => by
    have e : b = it := by simpa using hb
    subst e
    obtain ⟨o, e, c, d⟩ := st
    exact ⟨o, e, fun v z => by rw [d] at z; cases z⟩
  keep := fun i h h' st k => st.at fun o e => k it (by simp) o e
  item := by
    intro X hP hw hK hc i pins s σ H E I hf st hg
    subst hP hw hK
    obtain ⟨xs, x, hq, hx⟩ := hg
    obtain ⟨its, rv, p, hz⟩ := I.list hq
    obtain ⟨u, hu, ru⟩ := rv.get hx
    obtain ⟨f0, f1, f2, f3, f4, f5⟩ := hf it (by simp)
    refine wpAny_pyNext_list_item st p.isList (x := u) (by simpa using hu) fun h' st' sb => ?_
    have I1 : Inv X pins σ H { s with heap := h' } := I.turned (t' := s.toks) (fun b o hb e => (sb.2 b hb).trans e) f0 f1 f3 f4 f5
    obtain ⟨o, e, c, d⟩ := id st'
    exact ⟨u, rfl, qjI (s := { s with heap := h' }) e c d (by decide) ⟨x, H, I1, ru, ⟨rfl, fun ys hy => by rw [I.list_inj hy hq]; exact hx⟩, st', fun b hb => (hf b hb).1⟩⟩
  done := by
    intro X hP hw hK hc i pins s σ H E I hf st hg
    subst hP hw hK
    obtain ⟨xs, hq, hx⟩ := hg
    obtain ⟨its, rv, p, hz⟩ := I.list hq
    obtain ⟨f0, f1, f2, f3, f4, f5⟩ := hf it (by simp)
    have hl := rv.length
    exact wpAny_pyNext_list_end (I.ok.hd hc) st p.isList (by simp; omega) fun h' eb => ⟨rfl, I.turned (t' := s.toks) (fun b o hb e => eb b o hb e) f0 f1 f3 f4 f5⟩
  self := fun _ _ _ _ _ st h => wpAny_pyIter_listiter st h
theorem qgu {P : Program} {w : World} {K : PySem.W.Frag} {tg : Expr} (a it : Addr) : Turn P w K tg (Itt K a) [it] it (fun i h => h.IsTupleIter it a i) where
  mem := by simp
  obj := fun i h st b hb => by
    have e : b = it := by simpa using hb
    subst e
    obtain ⟨o, e, c, d⟩ := st
    exact ⟨o, e, fun v z => by rw [d] at z; cases z⟩
  keep := fun i h h' st k => st.at fun o e => k it (by simp) o e
  item := by
    intro X hP hw hK hc i pins s σ H E I hf st hg
    subst hP hw hK
    obtain ⟨xs, x, hq, hx⟩ := hg
    obtain ⟨its, rv, p, hz⟩ := I.tuple hq
    obtain ⟨u, hu, ru⟩ := rv.get hx
    obtain ⟨f0, f1, f2, f3, f4, f5⟩ := hf it (by simp)
    refine wpAny_pyNext_tuple_item st (show s.heap.IsTuple a its.toArray from p) (x := u) (by simpa using hu) fun h' st' sb => ?_
    have I1 : Inv X pins σ H { s with heap := h' } := I.turned (t' := s.toks) (fun b o hb e => (sb.2 b hb).trans e) f0 f1 f3 f4 f5
    obtain ⟨o, e, c, d⟩ := id st'
    exact ⟨u, rfl, qjI (s := { s with heap := h' }) e c d (by decide) ⟨x, H, I1, ru, ⟨rfl, fun ys hy => by rw [I.tuple_inj hy hq]; exact hx⟩, st', fun b hb => (hf b hb).1⟩⟩
  done := by
    intro X hP hw hK hc i pins s σ H E I hf st hg
    subst hP hw hK
    obtain ⟨xs, hq, hx⟩ := hg
    obtain ⟨its, rv, p, hz⟩ := I.tuple hq
    obtain ⟨f0, f1, f2, f3, f4, f5⟩ := hf it (by simp)
    have hl := rv.length
    exact wpAny_pyNext_tuple_end (I.ok.hd hc) st (show s.heap.IsTuple a its.toArray from p) (by simp; omega) fun h' eb => ⟨rfl, I.turned (t' := s.toks) (fun b o hb e => eb b o hb e) f0 f1 f3 f4 f5⟩
  self := fun _ _ _ _ _ st h => wpAny_pyIter_tupleiter st h
theorem qgv {P : Program} {w : World} {K : PySem.W.Frag} {tg : Expr} (it : Addr) (lo : Int) (n : Nat) : Turn P w K tg (Itr lo n) [it] it (fun i h => IsRangeIter h it (lo + (i : Nat) * 1) ((n : Int) - (i : Nat)) 1) where
  mem := by simp
  obj := fun i h st b hb => by
    have e : b = it := by simpa using hb
    subst e
    exact ⟨_, st, fun v z => by
      have z' : Data.fields _ = Data.cell v := z
      cases z'⟩
  keep := fun i h h' st k => k it (by simp) _ st
  item := by
    intro X hP hw hK hc i pins s σ H E I hf st hg
    subst hP hw hK
    obtain ⟨f0, f1, f2, f3, f4, f5⟩ := hf it (by simp)
    have W := Walks.range (prog := X.prog) (w := X.w) (I.ok.hd hc) it lo 1 n
    refine W.item i s _ _ hg st fun v h' tk hv st' kk => ?_
    obtain ⟨t, rfl⟩ := hv
    have I1 : Inv X pins σ H { s with heap := h', toks := tk } := I.turned (fun b o hb e => kk b o (by simpa using hb) e) f0 f1 f3 f4 f5
    refine ⟨_, rfl, qjI (s := { s with heap := h', toks := tk }) (n := "range_iterator") st' rfl rfl (by decide) ⟨.int (lo + i), H, I1, ⟨t, ?_⟩, ⟨rfl, rfl⟩, st', fun b hb => (hf b hb).1⟩⟩
    rw [Int.mul_one]
  done := by
    intro X hP hw hK hc i pins s σ H E I hf st hg
    subst hP hw hK
    obtain ⟨f0, f1, f2, f3, f4, f5⟩ := hf it (by simp)
    exact wpAny_pyNext_range_end (I.ok.hd hc) st (by have : n ≤ i := hg; omega) fun h' eb => ⟨rfl, I.turned (t' := s.toks) (fun b o hb e => eb b o hb e) f0 f1 f3 f4 f5⟩
  self := fun _ _ _ _ _ st h => wpAny_pyIter_rangeiter st h
end L2
namespace L2
open PySem PySem.Spec PyProof.Rows
section
variable {X : Cx} {tg : Expr}
noncomputable def qb6 (K : PySem.W.Frag) (tl : TE) : TI := fun σ H R => tl σ H fun x H1 => ∃ a, x = .ref a ∧ (∃ xs, SqL K H1 a xs) ∧ R (Itl K a) H1
noncomputable def qit (K : PySem.W.Frag) (tl : TE) : TI := fun σ H R => tl σ H fun x H1 => ∃ a, x = .ref a ∧ (∃ xs, SqT K H1 a xs) ∧ R (Itt K a) H1
theorem qbK {l : Expr} {tl : TE} (hl : PE X l tl) : PI X tg l (qb6 X.K tl) := by
  intro pins s σ H R I h
  refine thn (hl pins s σ H _ I h) fun v s1 ⟨x, H1, I1, r1, q1⟩ => ?_
  obtain ⟨a, e, ⟨xs, hq⟩, q⟩ := q1
  subst e
  cases r1
  obtain ⟨its, rv, p, hz⟩ := I1.list hq
  refine wpAny_pyIter_list p.isList ?_
  refine ⟨s1.heap.objs.size, [s1.heap.objs.size], _, _, H1, rfl, I1.kept (t' := s1.toks) fun b o e => Heap.get?_push_of_some _ e, qhc a _, ⟨_, Heap.get?_push_size _ rfl, rfl, rfl⟩, fun b hb => ?_, q⟩
  have e : b = s1.heap.objs.size := by simpa using hb
  subst e
  exact I1.fpOk (Nat.le_refl _) (I1.hok.fresh (Nat.le_refl _))
theorem qf3 {l : Expr} {tl : TE} (hl : PE X l tl) : PI X tg l (qit X.K tl) := by
  intro pins s σ H R I h
  refine thn (hl pins s σ H _ I h) fun v s1 ⟨x, H1, I1, r1, q1⟩ => ?_
  obtain ⟨a, e, ⟨xs, hq⟩, q⟩ := q1
  subst e
  cases r1
  obtain ⟨its, rv, p, hz⟩ := I1.tuple hq
  refine wpAny_pyIter_tuple (show s1.heap.IsTuple a its.toArray from p) ?_
  refine ⟨s1.heap.objs.size, [s1.heap.objs.size], _, _, H1, rfl, I1.kept (t' := s1.toks) fun b o e => Heap.get?_push_of_some _ e, qgu a _, ⟨_, Heap.get?_push_size _ rfl, rfl, rfl⟩, fun b hb => ?_, q⟩
  have e : b = s1.heap.objs.size := by simpa using hb
  subst e
  exact I1.fpOk (Nat.le_refl _) (I1.hok.fresh (Nat.le_refl _))
theorem qiu {pins : List (Addr × Obj)} {σ : St} {H : Hp} {s : Shared} {R : It → Hp → Prop} {E : Value → Shared → Prop} {lo hi : Int} {t u v : Tok} {tk : Nat} (I : Inv X pins σ H s) (h1 : -(2 ^ 62) ≤ lo) (h2 : lo < 2 ^ 62) (h3 : -(2 ^ 62) ≤ hi) (h4 : hi < 2 ^ 62)
    (q : R (Itr lo (hi - lo).toNat) H) : wpAny (model X.prog X.w) X.A (pyIter (.ref s.heap.objs.size)) (PIE X pins σ tg R) E { s with heap := s.heap.push { cls := .type "range", data := .fields #[.int lo t, .int hi u, .int 1 v] }, toks := tk } := by
  refine wpAny_pyIter_range (IsRange.new ..) (small_one h1 h2 h3 h4) ?_
  have I1 : Inv X pins σ H { s with heap := s.heap.push { cls := .type "range", data := .fields #[.int lo t, .int hi u, .int 1 v] }, toks := tk } := I.kept fun b o e => Heap.get?_push_of_some _ e
  refine ⟨(s.heap.push { cls := .type "range", data := .fields #[.int lo t, .int hi u, .int 1 v] }).objs.size, [(s.heap.push { cls := .type "range", data := .fields #[.int lo t, .int hi u, .int 1 v] }).objs.size], _, _, H, rfl,
    I1.kept (t' := tk) fun b o e => Heap.get?_push_of_some _ e, qgv _ lo (hi - lo).toNat, ?_, fun b hb => ?_, q⟩
  · have e1 : lo + ((0 : Nat) : Int) * 1 = lo := by simp
    have e2 : (((hi - lo).toNat : Nat) : Int) - ((0 : Nat) : Int) = Builtin.Range.rangeSize lo hi 1 := by rw [rangeSize_one]; split <;> omega
    show IsRangeIter _ _ (lo + ((0 : Nat) : Int) * 1) ((((hi - lo).toNat : Nat) : Int) - ((0 : Nat) : Int)) 1
    rw [e1, e2]
    exact Heap.get?_push_size _ rfl
  · have e : b = (s.heap.push { cls := .type "range", data := .fields #[.int lo t, .int hi u, .int 1 v] }).objs.size := by simpa using hb
    subst e
    exact I1.fpOk (Nat.le_refl _) (I1.hok.fresh (Nat.le_refl _))
noncomputable def qfx (ta : TA) : TI := fun σ H R => ta σ H fun vs H1 => ∃ j : Int, vs = [.int j] ∧ -(2 ^ 62) ≤ j ∧ j < 2 ^ 62 ∧ R (Itr 0 j.toNat) H1
noncomputable def qkL (ta : TA) : TI := fun σ H R => ta σ H fun vs H1 => ∃ i j : Int, vs = [.int i, .int j] ∧ (-(2 ^ 62) ≤ i ∧ i < 2 ^ 62 ∧ -(2 ^ 62) ≤ j ∧ j < 2 ^ 62) ∧ R (Itr i (j - i).toNat) H1
theorem qdI {a : Expr} {ta : TA} {p pos : Pos} (hg : Gl X "range") (hm : X.mg "range" = none) (ha : PA X [a] ta) (hs : starEach [a] X.env = [(false, eval a X.env)] := by rfl) : PI X tg (.Call (.Name "range" p) [a] [] pos) (qfx ta) := by
  intro pins s σ H R I h
  refine Call_ (qdF I hg hm boot_range (PyProof.Rows.callWith_type1 (thn (ha pos pins s σ H _ I h) fun us s1 ⟨vs, H1, I1, r1, q1⟩ => ?_) hs rfl))
  obtain ⟨j, e, q1, q2, q⟩ := q1
  subst e
  cases r1 with
  | cons r rr =>
    cases rr
    obtain ⟨t, rfl⟩ := r
    exact call_range_1 (qiu I1 (by omega) (by omega) q1 q2 (by simpa using q))
noncomputable def qdJ (wi : TI) (g : TG) (tb : TS) : TS := fun D σ H => wi σ H fun J H1 => ∃ W : Nat → Nat → St → Hp → Prop, (∃ m, W 0 m σ H1) ∧ ∀ i m σ H, W i m σ H →
  (J.stop i H ∧ D.nx σ H) ∨ (J.go i H ∧ ∃ N : St → Hp → Prop, (∀ σ' H', N σ' H' → ∃ m', m' < m ∧ W (i + 1) m' σ' H') ∧ ∀ x H', J.yld i H x H' → g x σ H' fun σ2 H2 => tb { D with nx := N, ct := N, bk := D.nx } σ2 H2)
noncomputable def qf4 (fp : List Addr) (h : Heap) : List (Addr × Obj) := fp.filterMap fun b => (h.get? b).map fun o => (b, o)
theorem qbE {fp : List Addr} {h : Heap} {b : Addr} {o : Obj} (hb : b ∈ fp) (e : h.get? b = some o) : (b, o) ∈ qf4 fp h := List.mem_filterMap.mpr ⟨b, hb, by rw [e]; rfl⟩
theorem qhd {fp : List Addr} {h : Heap} {p : Addr × Obj} (hp : p ∈ qf4 fp h) : p.1 ∈ fp ∧ h.get? p.1 = some p.2 := by
  obtain ⟨b, hb, e⟩ := List.mem_filterMap.mp hp
  cases q : h.get? b with
  | none => rw [q] at e; cases e
  | some o =>
    rw [q] at e
    have e' : (b, o) = p := Option.some.inj e
    subst e'
    exact ⟨hb, q⟩
theorem Inv.pinned {pins : List (Addr × Obj)} {σ : St} {H : Hp} {s : Shared} {fp : List Addr} (I : Inv X pins σ H s) (hf : ∀ b ∈ fp, qgt X pins H b) (ho : ∀ b ∈ fp, ∃ o, s.heap.get? b = some o ∧ ∀ v, o.data ≠ .cell v) : Inv X (pins ++ qf4 fp s.heap) σ H s :=
  I.pins_of fun p hp => (List.mem_append.mp hp).elim (fun z => I.pin p (List.mem_append_right _ z)) fun z => by
    obtain ⟨hb, e⟩ := qhd z
    obtain ⟨f0, f1, f2, _⟩ := hf p.1 hb
    obtain ⟨o, e', d⟩ := ho p.1 hb
    rw [e] at e'; cases e'
    exact ⟨e, f0, f1, f2, d⟩
theorem Inv.unpinned {pins pl : List (Addr × Obj)} {σ : St} {H : Hp} {s : Shared} (I : Inv X (pins ++ pl) σ H s) : Inv X pins σ H s := I.pins_of fun p hp => I.pin p (List.mem_append_right _ (List.mem_append_left _ hp))
theorem qcs {iter : Expr} {body : List Stmt} {wi : TI} {g : TG} {tb : TS} {pos : Pos} (hp : PassesOwn (model X.prog X.w) X.A X.env X.xe) (hc : X.calm = true) (hi : PI X tg iter wi) (hg : PG X tg g) (hb : PSs X body tb)
    (hs : ∀ x, foldedSetIterable iter X.env x = pure x := by intro _; rfl) : PS X (.For tg iter body [] pos) (qdJ wi g tb) := by
  intro pins s σ H D I h
  refine wpAny_For (thn (hi pins s σ H _ I h) fun v s1 h1 => thn h1 fun itv s2 h2 => ?_) hs
  obtain ⟨it, fp, tn, J, H2, e, I2, T, st2, f2, W, ⟨m0, w0⟩, turn⟩ := h2
  subst e
  have stat : ∀ {H' : Hp}, (∀ b ∈ fp, H' b = none) → ∀ b ∈ fp, qgt X pins H' b := fun hn b hb => ⟨hn b hb, (f2 b hb).2⟩
  refine codeAny_forLoop_any (fun n s' => ∃ i σ' H', Inv X pins σ' H' s' ∧ tn i s'.heap ∧ (∀ b ∈ fp, H' b = none) ∧ W i n σ' H') ?_ m0 ⟨0, σ, H2, I2, st2, fun b hb => (f2 b hb).1, w0⟩
  rintro n s3 ⟨i, σ3, H3, I3, st3, fr3, w3⟩
  rcases turn i n σ3 H3 w3 with ⟨stop, qn⟩ | ⟨go, N, hN, step⟩
  · refine wpAny_passesOwn hp (thn (T.done X rfl rfl rfl hc i pins s3 σ3 H3 X.xe I3 (stat fr3) st3 stop) fun r s4 ⟨hr, I4⟩ => ?_)
    subst hr
    exact wpAny_execs_nil ⟨σ3, H3, I4, qn⟩
  · refine wpAny_passesOwn hp (thn (T.item X rfl rfl rfl hc i pins s3 σ3 H3 X.xe I3 (stat fr3) st3 go) fun r s4 ⟨u, hr, h4⟩ => ?_)
    subst hr
    refine wpAny_passesOwn hp (thn h4 fun _ s5 ⟨x, H5, I5, r5, y5, st5, fr5⟩ => ?_)
    have I5' := I5.pinned (stat fr5) (T.obj _ _ st5)
    refine wpAny_passesOwn hp (thn (hg _ s5 σ3 H5 x u _ I5' r5 (step x H5 y5)) fun _ s6 ⟨σ6, H6, I6, q6⟩ => ?_)
    refine wpAny_passesOwn hp (thn (hb _ s6 σ6 H6 _ I6 q6) fun f s7 q7 => ?_)
    have again : ∀ {σ7 : St} {H7 : Hp}, Inv X (pins ++ qf4 fp s5.heap) σ7 H7 s7 → N σ7 H7 → ∃ m, m < n ∧ ∃ i σ' H', Inv X pins σ' H' s7 ∧ tn i s7.heap ∧ (∀ b ∈ fp, H' b = none) ∧ W i m σ' H' := fun {σ7 H7} I7 n7 => by
      obtain ⟨m', hm, w7⟩ := hN σ7 H7 n7
      refine ⟨m', hm, i + 1, σ7, H7, I7.unpinned, T.keep _ _ _ st5 fun b hb o e => (I7.pin (b, o) (List.mem_append_right _ (List.mem_append_right _ (qbE hb e)))).1, fun b hb => ?_, w7⟩
      obtain ⟨o, e, d⟩ := T.obj _ _ st5 b hb
      exact (I7.pin (b, o) (List.mem_append_right _ (List.mem_append_right _ (qbE hb e)))).2.1
    cases f with
    | next => obtain ⟨σ7, H7, I7, n7⟩ := q7; exact again I7 n7
    | cont => obtain ⟨σ7, H7, I7, n7⟩ := q7; exact again I7 n7
    | brk => obtain ⟨σ7, H7, I7, q7⟩ := q7; exact ⟨σ7, H7, I7.unpinned, q7⟩
    | ret v => obtain ⟨x7, σ7, H7, I7, r7, q7⟩ := q7; exact ⟨x7, σ7, H7, I7.unpinned, r7, q7⟩
end
theorem qiv {K : PySem.W.Frag} {a : Addr} {xs : List V} {g : TG} {tb : TS} {D : Ends} {σ : St} {H : Hp} (Pv : Nat → St → Hp → Prop) (h0 : Pv 0 σ H) (hl : ∀ i σ H, i ≤ xs.length → Pv i σ H → SqL K H a xs)
    (hs : ∀ i x σ H, xs[i]? = some x → Pv i σ H → g x σ H fun σ2 H2 => tb { D with nx := Pv (i + 1), ct := Pv (i + 1), bk := D.nx } σ2 H2) (hd : ∀ σ H, Pv xs.length σ H → D.nx σ H) :
    ∃ W : Nat → Nat → St → Hp → Prop, (∃ m, W 0 m σ H) ∧ ∀ i m σ H, W i m σ H →
      ((Itl K a).stop i H ∧ D.nx σ H) ∨ ((Itl K a).go i H ∧ ∃ N : St → Hp → Prop, (∀ σ' H', N σ' H' → ∃ m', m' < m ∧ W (i + 1) m' σ' H') ∧ ∀ x H', (Itl K a).yld i H x H' → g x σ H' fun σ2 H2 => tb { D with nx := N, ct := N, bk := D.nx } σ2 H2) := by
  refine ⟨fun i m σ H => m = xs.length - i ∧ i ≤ xs.length ∧ Pv i σ H, ⟨xs.length, by simp, Nat.zero_le _, h0⟩, ?_⟩
  rintro i m σ H ⟨rfl, hi, p⟩
  have q := hl i σ H hi p
  by_cases hlt : i < xs.length
  · refine .inr ⟨⟨xs, xs[i], q, by simp [hlt]⟩, Pv (i + 1), fun σ' H' p' => ⟨xs.length - (i + 1), by omega, rfl, hlt, p'⟩, fun x H' y => ?_⟩
    obtain ⟨e, y⟩ := y
    subst e
    exact hs i x σ _ (y xs q) p
  · have e : i = xs.length := by omega
    subst e
    exact .inl ⟨⟨xs, q, Nat.le_refl _⟩, hd σ H p⟩
theorem qjJ {K : PySem.W.Frag} {a : Addr} {xs : List V} {g : TG} {tb : TS} {D : Ends} {σ : St} {H : Hp} (Pv : Nat → St → Hp → Prop) (h0 : Pv 0 σ H) (hl : ∀ i σ H, i ≤ xs.length → Pv i σ H → SqT K H a xs)
    (hs : ∀ i x σ H, xs[i]? = some x → Pv i σ H → g x σ H fun σ2 H2 => tb { D with nx := Pv (i + 1), ct := Pv (i + 1), bk := D.nx } σ2 H2) (hd : ∀ σ H, Pv xs.length σ H → D.nx σ H) :
    ∃ W : Nat → Nat → St → Hp → Prop, (∃ m, W 0 m σ H) ∧ ∀ i m σ H, W i m σ H →
      ((Itt K a).stop i H ∧ D.nx σ H) ∨ ((Itt K a).go i H ∧ ∃ N : St → Hp → Prop, (∀ σ' H', N σ' H' → ∃ m', m' < m ∧ W (i + 1) m' σ' H') ∧ ∀ x H', (Itt K a).yld i H x H' → g x σ H' fun σ2 H2 => tb { D with nx := N, ct := N, bk := D.nx } σ2 H2) := by
  refine ⟨fun i m σ H => m = xs.length - i ∧ i ≤ xs.length ∧ Pv i σ H, ⟨xs.length, by simp, Nat.zero_le _, h0⟩, ?_⟩
  rintro i m σ H ⟨rfl, hi, p⟩
  have q := hl i σ H hi p
  by_cases hlt : i < xs.length
  · refine .inr ⟨⟨xs, xs[i], q, by simp [hlt]⟩, Pv (i + 1), fun σ' H' p' => ⟨xs.length - (i + 1), by omega, rfl, hlt, p'⟩, fun x H' y => ?_⟩
    obtain ⟨e, y⟩ := y
    subst e
    exact hs i x σ _ (y xs q) p
  · have e : i = xs.length := by omega
    subst e
    exact .inl ⟨⟨xs, q, Nat.le_refl _⟩, hd σ H p⟩
theorem qhe {lo : Int} {n : Nat} {g : TG} {tb : TS} {D : Ends} {σ : St} {H : Hp} (Pv : Nat → St → Hp → Prop) (h0 : Pv 0 σ H)
    (hs : ∀ i σ H, i < n → Pv i σ H → g (.int (lo + i)) σ H fun σ2 H2 => tb { D with nx := Pv (i + 1), ct := Pv (i + 1), bk := D.nx } σ2 H2) (hd : ∀ σ H, Pv n σ H → D.nx σ H) :
    ∃ W : Nat → Nat → St → Hp → Prop, (∃ m, W 0 m σ H) ∧ ∀ i m σ H, W i m σ H →
      ((Itr lo n).stop i H ∧ D.nx σ H) ∨ ((Itr lo n).go i H ∧ ∃ N : St → Hp → Prop, (∀ σ' H', N σ' H' → ∃ m', m' < m ∧ W (i + 1) m' σ' H') ∧ ∀ x H', (Itr lo n).yld i H x H' → g x σ H' fun σ2 H2 => tb { D with nx := N, ct := N, bk := D.nx } σ2 H2) := by
  refine ⟨fun i m σ H => m = n - i ∧ i ≤ n ∧ Pv i σ H, ⟨n, by simp, Nat.zero_le _, h0⟩, ?_⟩
  rintro i m σ H ⟨rfl, hi, p⟩
  by_cases hlt : i < n
  · refine .inr ⟨hlt, Pv (i + 1), fun σ' H' p' => ⟨n - (i + 1), by omega, rfl, hlt, p'⟩, fun x H' y => ?_⟩
    obtain ⟨e, y⟩ := y
    subst e y
    exact hs i σ _ hlt p
  · have e : i = n := by omega
    subst e
    exact .inl ⟨Nat.le_refl _, hd σ H p⟩
theorem while_by {c : TT} {tb : TS} {D : Ends} {σ : St} {H : Hp} (Pv : St → Hp → Prop) (μ : St → Hp → Nat) (h0 : Pv σ H)
    (hs : ∀ σ H, Pv σ H → c σ H fun b H1 => if b = true then tb { D with nx := fun σ' H' => Pv σ' H' ∧ μ σ' H' < μ σ H, ct := fun σ' H' => Pv σ' H' ∧ μ σ' H' < μ σ H, bk := D.nx } σ H1 else D.nx σ H1)
    (mono : ∀ σ H Q Q', (∀ b H1, Q b H1 → Q' b H1) → c σ H Q → c σ H Q') : qdb c tb D σ H := by
  refine ⟨fun m σ H => m = μ σ H ∧ Pv σ H, ⟨_, rfl, h0⟩, ?_⟩
  rintro m σ H ⟨rfl, p⟩
  refine mono σ H _ _ (fun b H1 q => ?_) (hs σ H p)
  cases b with
  | true => exact ⟨_, fun σ' H' ⟨p', l⟩ => ⟨_, l, rfl, p'⟩, q⟩
  | false => exact q
end L2
namespace L2
open PySem PySem.Spec PyProof.Rows
noncomputable abbrev R2 := V → V → Hp → VK → Prop
noncomputable def OpR (X : Cx) (f : Value → Value → Sem Value) (r : R2) : Prop :=
  ∀ (pins : List (Addr × Obj)) (s : Shared) (σ : St) (H : Hp) (x y : V) (v u : Value) (Q : VK), Inv X pins σ H s → RelV x v → RelV y u → r x y H Q →
    wpAny (model X.prog X.w) X.A (f v u) (EP X pins σ Q) X.xe s
noncomputable def UnR (X : Cx) (f : Value → Sem Value) (r : V → Hp → VK → Prop) : Prop :=
  ∀ (pins : List (Addr × Obj)) (s : Shared) (σ : St) (H : Hp) (x : V) (v : Value) (Q : VK), Inv X pins σ H s → RelV x v → r x H Q →
    wpAny (model X.prog X.w) X.A (f v) (EP X pins σ Q) X.xe s
noncomputable def qcA (X : Cx) (f : Value) (r : List V → Hp → VK → Prop) : Prop :=
  ∀ (pins : List (Addr × Obj)) (s : Shared) (σ : St) (H : Hp) (xs : List V) (us : List Value) (Q : VK), Inv X pins σ H s → Vals xs us → r xs H Q →
    wpAny (model X.prog X.w) X.A (call f us) (EP X pins σ Q) X.xe s
noncomputable def qmA (X : Cx) (r : V → Hp → (Bool → Hp → Prop) → Prop) : Prop :=
  ∀ (pins : List (Addr × Obj)) (s : Shared) (σ : St) (H : Hp) (x : V) (v : Value) (Q : Bool → Hp → Prop), Inv X pins σ H s → RelV x v → r x H Q →
    wpAny (model X.prog X.w) X.A (truthy v) (TP X pins σ Q) X.xe s
noncomputable def tOp (r : R2) (ta tb : TE) : TE := fun σ H Q => ta σ H fun x H1 => tb σ H1 fun y H2 => r x y H2 Q
noncomputable def tUn (r : V → Hp → VK → Prop) (ta : TE) : TE := fun σ H Q => ta σ H fun x H1 => r x H1 Q
noncomputable def rI (C : Int → Int → Prop) (g : Int → Int → V) : R2 := fun x y H Q => ∃ i j, x = .int i ∧ y = .int j ∧ C i j ∧ Q (g i j) H
noncomputable def rI0 (g : Int → Int → V) : R2 := fun x y H Q => ∃ i j, x = .int i ∧ y = .int j ∧ Q (g i j) H
noncomputable def rU (g : Int → V) : V → Hp → VK → Prop := fun x H Q => ∃ i, x = .int i ∧ Q (g i) H
section
variable {X : Cx} {a b c : Expr} {ta tb tc : TE} {pos : Pos}
theorem qlN (ha : PE X a ta) (hb : PE X b tb) {pins : List (Addr × Obj)} {s : Shared} {σ : St} {H : Hp} {R : V → V → Hp → Prop} (I : Inv X pins σ H s)
    (h : ta σ H fun x H1 => tb σ H1 fun y H2 => R x y H2) {Q : Value → Shared → Prop} {f : Value → Value → Sem Value}
    (hf : ∀ v u s2 x y H2, Inv X pins σ H2 s2 → RelV x v → RelV y u → R x y H2 → wpAny (model X.prog X.w) X.A (f v u) Q X.xe s2) :
    wpAny (model X.prog X.w) X.A (eval a X.env) (fun v s₁ => wpAny (model X.prog X.w) X.A (eval b X.env) (fun u s₂ => wpAny (model X.prog X.w) X.A (f v u) Q X.xe s₂) X.xe s₁) X.xe s := by
  refine thn (ha pins s σ H _ I h) fun v s1 ⟨x, H1, I1, r1, q1⟩ => ?_
  refine thn (hb pins s1 σ H1 _ I1 q1) fun u s2 ⟨y, H2, I2, r2, q2⟩ => ?_
  exact hf v u s2 x y H2 I2 r1 r2 q2
theorem qaC {op : Operator} {r : R2} (ho : OpR X (binaryOp op) r) (ha : PE X a ta) (hb : PE X b tb) : PE X (.BinOp a op b pos) (tOp r ta tb) := by
  intro pins s σ H Q I h
  exact wpAny_BinOp (qlN ha hb I h fun v u s2 x y H2 I2 rx ry q => ho pins s2 σ H2 x y v u Q I2 rx ry q)
theorem qfa {op : UnaryOp} {r : V → Hp → VK → Prop} (ho : UnR X (unaryOp op) r) (ha : PE X a ta) : PE X (.UnaryOp op a pos) (tUn r ta) := by
  intro pins s σ H Q I h
  exact UnaryOp_ (thn (ha pins s σ H _ I h) fun v s1 ⟨x, H1, I1, r1, q1⟩ => ho pins s1 σ H1 x v Q I1 r1 q1)
theorem opI {f : Value → Value → Sem Value} {C : Int → Int → Prop} {g : Int → Int → Int}
    (rule : ∀ (i j : Int) (t u : Tok) (s : Shared) (Q : Value → Shared → Prop) (E : Value → Shared → Prop), C i j → Q (.int (g i j) s.toks) { s with toks := s.toks + 1 } → wpAny (model X.prog X.w) X.A (f (.int i t) (.int j u)) Q E s) :
    OpR X f (rI C fun i j => .int (g i j)) := by
  intro pins s σ H x y v u Q I rx ry h
  obtain ⟨i, j, rfl, rfl, hc, q⟩ := h
  obtain ⟨t, rfl⟩ := rx
  obtain ⟨t', rfl⟩ := ry
  exact rule i j t t' s _ _ hc ⟨.int (g i j), H, I.tok _, ⟨_, rfl⟩, q⟩
theorem qmi {f : Value → Value → Sem Value} {g : Int → Int → Int}
    (rule : ∀ (i j : Int) (t u : Tok) (s : Shared) (Q : Value → Shared → Prop) (E : Value → Shared → Prop), Q (.int (g i j) s.toks) { s with toks := s.toks + 1 } → wpAny (model X.prog X.w) X.A (f (.int i t) (.int j u)) Q E s) :
    OpR X f (rI0 fun i j => .int (g i j)) := by
  intro pins s σ H x y v u Q I rx ry h
  obtain ⟨i, j, rfl, rfl, q⟩ := h
  obtain ⟨t, rfl⟩ := rx
  obtain ⟨t', rfl⟩ := ry
  exact rule i j t t' s _ _ ⟨.int (g i j), H, I.tok _, ⟨_, rfl⟩, q⟩
theorem qlO {f : Value → Value → Sem Value} {g : Int → Int → Bool}
    (rule : ∀ (i j : Int) (t u : Tok) (s : Shared) (Q : Value → Shared → Prop) (E : Value → Shared → Prop), Q (.bool (g i j)) s → wpAny (model X.prog X.w) X.A (f (.int i t) (.int j u)) Q E s) :
    OpR X f (rI0 fun i j => .bl (g i j)) := by
  intro pins s σ H x y v u Q I rx ry h
  obtain ⟨i, j, rfl, rfl, q⟩ := h
  obtain ⟨t, rfl⟩ := rx
  obtain ⟨t', rfl⟩ := ry
  exact rule i j t t' s _ _ ⟨.bl (g i j), H, I, rfl, q⟩
noncomputable def CMul (i j : Int) : Prop := (-(2 ^ 64) < i ∧ i < 2 ^ 64) ∨ (-(2 ^ 64) < j ∧ j < 2 ^ 64)
theorem CMul.ok {i j : Int} (h : CMul i j) : IntMulOk i j := by
  rcases h with ⟨h1, h2⟩ | ⟨h1, h2⟩
  · exact .of_left (intBits_le_64 h1 h2)
  · exact .of_right (intBits_le_64 h1 h2)
theorem qgw (k : Nat) : (0 : Int) ≤ 2 ^ k := by
  rw [two_pow_cast]
  exact Int.natCast_nonneg _
theorem qdK : OpR X (binaryOp .Add) (rI0 fun i j => .int (i + j)) := qmi fun _ _ _ _ _ _ _ q => add_int q
theorem qkM : OpR X (binaryOp .Sub) (rI0 fun i j => .int (i - j)) := qmi fun _ _ _ _ _ _ _ q => sub_int q
theorem qcB : OpR X (binaryOp .Mod) (rI (fun _ j => 0 < j) fun i j => .int (i % j)) := opI fun i j _ _ _ _ _ hc q => by
  have h1 : (0 : Int) < j := hc
  exact mod_int' (by omega) (by rw [Int.fmod_eq_emod_of_nonneg i (by omega)]; exact q)
theorem qjK : OpR X (binaryOp .Mod) (rI (fun _ j => j ≠ 0) fun i j => .int (i.fmod j)) := opI fun _ _ _ _ _ _ _ hc q => mod_int' hc q
theorem op_shr : OpR X (binaryOp .RShift) (rI (fun _ j => 0 ≤ j) fun i j => .int (i / 2 ^ j.toNat)) := opI fun i j _ _ _ _ _ hc q =>
  rshift_int hc (by rw [Int.fdiv_eq_ediv_of_nonneg i (qgw _)]; exact q)
theorem unI {f : Value → Sem Value} {g : Int → Int}
    (rule : ∀ (i : Int) (t : Tok) (s : Shared) (Q : Value → Shared → Prop) (E : Value → Shared → Prop), Q (.int (g i) s.toks) { s with toks := s.toks + 1 } → wpAny (model X.prog X.w) X.A (f (.int i t)) Q E s) :
    UnR X f (rU fun i => .int (g i)) := by
  intro pins s σ H x v Q I rx h
  obtain ⟨i, rfl, q⟩ := h
  obtain ⟨t, rfl⟩ := rx
  exact rule i t s _ _ ⟨.int (g i), H, I.tok _, ⟨_, rfl⟩, q⟩
theorem qdc : UnR X (unaryOp .USub) (rU fun i => .int (-i)) := unI fun _ _ _ _ _ q => neg_int q
end
noncomputable def scal : V → V → Bool
  | .non, .non => true | .non, .int _ => true | .int _, .non => true | .non, .bl _ => true | .bl _, .non => true | .non, .str _ => true | .str _, .non => true
  | .int _, .int _ => true | .bl _, .bl _ => true | .str _, .str _ => true | .byt _, .byt _ => true
  | .int _, .str _ => true | .str _, .int _ => true | .bl _, .str _ => true | .str _, .bl _ => true
  | _, _ => false
noncomputable def rEq : R2 := fun x y H Q => scal x y = true ∧ Q (.bl (decide (x = y))) H
noncomputable def rNe : R2 := fun x y H Q => scal x y = true ∧ Q (.bl (!decide (x = y))) H
theorem qhf {i j : Int} : decide (V.int i = V.int j) = (i == j) := by
  rw [Bool.eq_iff_iff]
  simp
theorem qji {i j : Bool} : decide (V.bl i = V.bl j) = (i == j) := by
  rw [Bool.eq_iff_iff]
  simp
theorem qhg {i j : Str} : decide (V.str i = V.str j) = (i == j) := by
  rw [Bool.eq_iff_iff]
  simp
theorem qhh {i j : Array UInt8} : decide (V.byt i = V.byt j) = (i.toList == j.toList) := by
  rw [Bool.eq_iff_iff]
  cases i
  cases j
  simp
section
variable {X : Cx} {a b c : Expr} {ta tb tc : TE} {pos : Pos}
theorem qaD {pins : List (Addr × Obj)} {σ : St} {H : Hp} {s : Shared} {Q : VK} {k k' : Bool} (I : Inv X pins σ H s) (q : Q (.bl k) H) (e : k = k') : EP X pins σ Q (.bool k') s := by
  subst e
  exact ⟨.bl k, H, I, rfl, q⟩
theorem qkN : OpR X (compareOp .Eq) rEq := by
  intro pins s σ H x y v u Q I rx ry h
  obtain ⟨hs, q⟩ := h
  cases x with
  | non =>
    cases rx
    cases y with
    | non => cases ry; exact PySem.EqNone.eq_none_none (qaD I q (by simp))
    | bl j => cases ry; exact PySem.EqNone.eq_none_bool (qaD I q (by simp))
    | int j => obtain ⟨t', rfl⟩ := ry; exact PySem.EqNone.eq_none_int (qaD I q (by simp))
    | str j => obtain ⟨t', rfl⟩ := ry; exact PySem.EqNone.eq_none_str (qaD I q (by simp))
    | _ => exact absurd (show false = true from hs) Bool.false_ne_true
  | bl i =>
    cases rx
    cases y with
    | non => cases ry; exact PySem.EqNone.eq_bool_none (qaD I q (by simp))
    | bl j => cases ry; exact eq_bool (qaD I q qji)
    | str j => obtain ⟨t', rfl⟩ := ry; exact PySem.EqMixed.eq_bool_str (qaD I q (by simp))
    | _ => exact absurd (show false = true from hs) Bool.false_ne_true
  | int i =>
    obtain ⟨t, rfl⟩ := rx
    cases y with
    | non => cases ry; exact PySem.EqNone.eq_int_none (qaD I q (by simp))
    | int j => obtain ⟨t', rfl⟩ := ry; exact eq_int (qaD I q qhf)
    | str j => obtain ⟨t', rfl⟩ := ry; exact PySem.EqMixed.eq_int_str (qaD I q (by simp))
    | _ => exact absurd (show false = true from hs) Bool.false_ne_true
  | str i =>
    obtain ⟨t, rfl⟩ := rx
    cases y with
    | non => cases ry; exact PySem.EqNone.eq_str_none (qaD I q (by simp))
    | bl j => cases ry; exact PySem.EqMixed.eq_str_bool (qaD I q (by simp))
    | int j => obtain ⟨t', rfl⟩ := ry; exact PySem.EqMixed.eq_str_int (qaD I q (by simp))
    | str j => obtain ⟨t', rfl⟩ := ry; exact eq_str (qaD I q qhg)
    | _ => exact absurd (show false = true from hs) Bool.false_ne_true
  | byt i =>
    obtain ⟨t, rfl⟩ := rx
    cases y with
    | byt j => obtain ⟨t', rfl⟩ := ry; exact PySem.W.eq_bytes (qaD I q qhh)
    | _ => exact absurd (show false = true from hs) Bool.false_ne_true
  | _ => cases y <;> exact absurd (show false = true from hs) Bool.false_ne_true
theorem qfb : OpR X (compareOp .NotEq) rNe := by
  intro pins s σ H x y v u Q I rx ry h
  obtain ⟨hs, q⟩ := h
  cases x with
  | non =>
    cases rx
    cases y with
    | non => cases ry; exact PySem.EqNone.ne_none_none (qaD I q (by simp))
    | bl j => cases ry; exact PySem.EqNone.ne_none_bool (qaD I q (by simp))
    | int j => obtain ⟨t', rfl⟩ := ry; exact PySem.EqNone.ne_none_int (qaD I q (by simp))
    | str j => obtain ⟨t', rfl⟩ := ry; exact PySem.EqNone.ne_none_str (qaD I q (by simp))
    | _ => exact absurd (show false = true from hs) Bool.false_ne_true
  | bl i =>
    cases rx
    cases y with
    | non => cases ry; exact PySem.EqNone.ne_bool_none (qaD I q (by simp))
    | bl j => cases ry; exact ne_bool (qaD I q (congrArg not qji))
    | str j => obtain ⟨t', rfl⟩ := ry; exact PySem.EqMixed.ne_bool_str (qaD I q (by simp))
    | _ => exact absurd (show false = true from hs) Bool.false_ne_true
  | int i =>
    obtain ⟨t, rfl⟩ := rx
    cases y with
    | non => cases ry; exact PySem.EqNone.ne_int_none (qaD I q (by simp))
    | int j => obtain ⟨t', rfl⟩ := ry; exact ne_int (qaD I q (congrArg not qhf))
    | str j => obtain ⟨t', rfl⟩ := ry; exact PySem.EqMixed.ne_int_str (qaD I q (by simp))
    | _ => exact absurd (show false = true from hs) Bool.false_ne_true
  | str i =>
    obtain ⟨t, rfl⟩ := rx
    cases y with
    | non => cases ry; exact PySem.EqNone.ne_str_none (qaD I q (by simp))
    | bl j => cases ry; exact PySem.EqMixed.ne_str_bool (qaD I q (by simp))
    | int j => obtain ⟨t', rfl⟩ := ry; exact PySem.EqMixed.ne_str_int (qaD I q (by simp))
    | str j => obtain ⟨t', rfl⟩ := ry; exact ne_str (qaD I q (congrArg not qhg))
    | _ => exact absurd (show false = true from hs) Bool.false_ne_true
  | byt i =>
    obtain ⟨t, rfl⟩ := rx
    cases y with
    | byt j => obtain ⟨t', rfl⟩ := ry; exact PySem.W.ne_bytes (qaD I q (congrArg not qhh))
    | _ => exact absurd (show false = true from hs) Bool.false_ne_true
  | _ => cases y <;> exact absurd (show false = true from hs) Bool.false_ne_true
theorem qhi : OpR X (compareOp .Lt) (rI0 fun i j => .bl (decide (i < j))) := qlO fun _ _ _ _ _ _ _ q => lt_int q
theorem qlP : OpR X (compareOp .LtE) (rI0 fun i j => .bl (decide (i ≤ j))) := qlO fun _ _ _ _ _ _ _ q => le_int q
theorem qfy : OpR X (compareOp .Gt) (rI0 fun i j => .bl (decide (j < i))) := qlO fun _ _ _ _ _ _ _ q => gt_int q
theorem qkO : OpR X (compareOp .Is) (fun x y H Q => y = .non ∧ Q (.bl (decide (x = .non))) H) := by
  intro pins s σ H x y v u Q I rx ry h
  obtain ⟨rfl, q⟩ := h
  cases ry
  refine is_none_gen (qaD I q ?_)
  cases x <;> first
    | (cases rx; rfl)
    | (obtain ⟨t, rfl⟩ := rx; rfl)
theorem nomark (b : Expr) {op : CmpOp} (h : op ≠ .In := by decide) (h2 : op ≠ .NotIn := by decide) : behindInMarks op b = false := by
  have e1 : (op == CmpOp.In) = false := by cases op <;> first | rfl | exact absurd rfl h
  have e2 : (op == CmpOp.NotIn) = false := by cases op <;> first | rfl | exact absurd rfl h2
  cases b <;> simp [behindInMarks, e1, e2]
theorem qeG {op : CmpOp} {r : R2} (ho : OpR X (compareOp op) r) (ha : PE X a ta) (hb : PE X b tb) (hm : behindInMarks op b = false) : PE X (.Compare a [op] [b] pos) (tOp r ta tb) := by
  intro pins s σ H Q I h
  exact wpAny_Compare1 (qlN ha hb I h fun v u s2 x y H2 I2 rx ry q => ho pins s2 σ H2 x y v u Q I2 rx ry q) hm
noncomputable def qaU (t : TE) : TT := fun σ H Q => t σ H fun x H' => ∃ k, x = .bl k ∧ Q k H'
theorem qaz {op : CmpOp} {r : R2} (ho : OpR X (compareOp op) r) (ha : PE X a ta) (hb : PE X b tb) (hm : behindInMarks op b = false) : PT X (.Compare a [op] [b] pos) (qaU (tOp r ta tb)) := by
  intro pins s σ H Q I h
  refine wpAny_isTrue_Compare1 (thn (ha pins s σ H _ I h) fun v s1 ⟨x, H1, I1, r1, q1⟩ => thn (hb pins s1 σ H1 _ I1 q1) fun u s2 ⟨y, H2, I2, r2, q2⟩ =>
    thn (ho pins s2 σ H2 x y v u _ I2 r1 r2 q2) fun c s3 ⟨z, H3, I3, r3, k, e, q3⟩ => ?_) hm
  subst e
  cases r3
  exact wpAny_truthy_bool ⟨H3, I3, q3⟩
noncomputable def qhj (r r' : R2) (ta tb tc : TE) : TE := fun σ H Q => ta σ H fun x H1 => tb σ H1 fun y H2 => r x y H2 fun z H3 => ∃ k, z = .bl k ∧
  (if k = true then tc σ H3 fun w' H4 => r' y w' H4 Q else Q (.bl false) H3)
theorem qiw {op op' : CmpOp} {r r' : R2} (ho : OpR X (compareOp op) r) (ho' : OpR X (compareOp op') r') (ha : PE X a ta) (hb : PE X b tb) (hc : PE X c tc)
    (hm : lastMarks [op, op'] [b, c] = false := by with_unfolding_all rfl) : PT X (.Compare a [op, op'] [b, c] pos) (qaU (qhj r r' ta tb tc)) := by
  intro pins s σ H Q I h
  refine isTrue_chain (thn (ha pins s σ H _ I h) fun v s1 ⟨x, H1, I1, r1, q1⟩ => test_link (thn (hb pins s1 σ H1 _ I1 q1) fun u s2 ⟨y, H2, I2, r2, q2⟩ =>
    thn (ho pins s2 σ H2 x y v u _ I2 r1 r2 q2) fun d s3 ⟨z, H3, I3, r3, k, e, q3⟩ => ?_)) hm
  subst e
  cases r3
  refine wpAny_truthy_bool ?_
  cases k with
  | false =>
    obtain ⟨k', e', q'⟩ := q3
    cases e'
    exact ite_ff ⟨H3, I3, q'⟩
  | true =>
    refine ite_tt (test_last (thn (hc pins s3 σ H3 _ I3 q3) fun w' s4 ⟨z', H4, I4, r4, q4⟩ => thn (ho' pins s4 σ H4 y z' u w' _ I4 r2 r4 q4) fun d' s5 ⟨z2, H5, I5, r5, k2, e2, q5⟩ => ?_))
    subst e2
    cases r5
    exact wpAny_truthy_bool ⟨H5, I5, q5⟩
noncomputable def qmB (K : PySem.W.Frag) (x : V) (H : Hp) (k : Bool) : Prop :=
  match x with
  | .non => k = false
  | .bl b => k = b
  | .int i => k = (i != 0)
  | .str y => y.length ≤ sizeLine ∧ k = ((y.length : Int) != 0)
  | .byt y => y.size ≤ sizeLine ∧ k = ((y.size : Int) != 0)
  | .ref p => (∃ xs, SqL K H p xs ∧ k = !xs.isEmpty) ∨ (∃ xs, SqT K H p xs ∧ k = !xs.isEmpty) ∨ ∃ kvs, H p = some (.dK kvs) ∧ k = !kvs.isEmpty
  | _ => False
theorem qgx {κ : Type} {kvs : List (κ × V)} {vs : List (κ × Value)} (r : KV kvs vs) : (!vs.isEmpty) = !kvs.isEmpty := by
  cases r <;> rfl
theorem qem {xs : List V} {its : List Value} (r : Vals xs its) : (!its.toArray.isEmpty) = !xs.isEmpty := by
  cases r <;> simp
theorem qf5 : (sizeLine : Nat) < 2 ^ 63 := by rw [sizeLine_eq]; decide
theorem qkP : qmA X (fun x H Q => ∃ k, qmB X.K x H k ∧ Q k H) := by
  intro pins s σ H x v Q I rx h
  obtain ⟨k, e, q⟩ := h
  have hl := qf5
  have hs : sizeLine = 16777216 := sizeLine_eq
  cases x with
  | non =>
    cases rx
    have e' : k = false := e
    subst e'
    exact truthy_none ⟨H, I, q⟩
  | bl b =>
    cases rx
    have e' : k = b := e
    subst e'
    exact wpAny_truthy_bool ⟨H, I, q⟩
  | int i =>
    obtain ⟨t, rfl⟩ := rx
    have e' : k = (i != 0) := e
    subst e'
    exact PySem.P.truthy_int ⟨H, I, q⟩
  | str y =>
    obtain ⟨t, rfl⟩ := rx
    obtain ⟨hy, e'⟩ : y.length ≤ sizeLine ∧ k = ((y.length : Int) != 0) := e
    subst e'
    exact PySem.P.truthy_str (by omega) ⟨H, I.tok _, q⟩
  | byt y =>
    obtain ⟨t, rfl⟩ := rx
    obtain ⟨hy, e'⟩ : y.size ≤ sizeLine ∧ k = ((y.size : Int) != 0) := e
    subst e'
    exact PySem.W.truthy_bytes (by omega) ⟨H, I.tok _, q⟩
  | ref p =>
    cases rx
    have e' : (∃ xs, SqL X.K H p xs ∧ k = !xs.isEmpty) ∨ (∃ xs, SqT X.K H p xs ∧ k = !xs.isEmpty) ∨ ∃ kvs, H p = some (.dK kvs) ∧ k = !kvs.isEmpty := e
    rcases e' with ⟨xs, hx, e'⟩ | ⟨xs, hx, e'⟩ | ⟨kvs, hx, e'⟩
    · subst e'
      obtain ⟨its, r, pl, hz⟩ := I.list hx
      have hlen := r.length
      exact wpAny_truthy_list pl.isList (by simp only [List.size_toArray]; omega) ⟨H, I.tok _, by rw [qem r]; exact q⟩
    · subst e'
      obtain ⟨its, r, pl, hz⟩ := I.tuple hx
      have hlen := r.length
      exact truthy_tuple pl (by simp only [List.size_toArray]; omega) ⟨H, I.tok _, by rw [qem r]; exact q⟩
    · subst e'
      obtain ⟨hz, hS, vs, r, m⟩ : kvs.length ≤ sizeLine ∧ (p == sysModules) = false ∧ ∃ vs, KV kvs vs ∧ s.heap.DictOf (qeE X.prog X.w) p vs := I.hok p _ hx
      have hlen : kvs.length = vs.length := Paired.length r
      exact wpAny_truthy_dict hS m (by omega) ⟨H, I.tok _, by rw [qgx r]; exact q⟩
  | _ => exact (show False from e).elim
theorem qfz {x : V} {us : List Value} (r : Vals [x] us) : ∃ u, us = [u] ∧ RelV x u := by
  cases r with
  | cons r1 r2 => cases r2; exact ⟨_, rfl, r1⟩
theorem vals2 {x y : V} {us : List Value} (r : Vals [x, y] us) : ∃ u w', us = [u, w'] ∧ RelV x u ∧ RelV y w' := by
  cases r with
  | cons r1 r2 =>
    cases r2 with
    | cons r3 r4 => cases r4; exact ⟨_, _, rfl, r1, r3⟩
theorem qix : qcA X (.builtin "abs") (fun xs H Q => ∃ i, xs = [.int i] ∧ Q (.int (if i < 0 then -i else i)) H) := by
  intro pins s σ H xs us Q I r h
  obtain ⟨i, rfl, q⟩ := h
  obtain ⟨u, rfl, t, rfl⟩ := qfz r
  exact call_abs_int fun u tk => ⟨.int (if i < 0 then -i else i), H, I.tok _, ⟨_, rfl⟩, q⟩
end
end L2
namespace L2
open PySem PySem.Spec PyProof.Rows
structure ObjM (h : Heap) (x dx C : Addr) (mA : Str → Option Value) : Prop where
  obj : h.get? x = some (PySem.W.instObj C dx)
  ns : h.Ns1 dx mA
  ne : dx ≠ x
theorem qhk {h : Heap} {dx : Addr} {mA : Str → Option Value} (n : h.Ns1 dx mA) : ∃ od, h.get? dx = some od ∧ ∀ name, PySem.W.lookIn name od = some (mA name) := by
  obtain ⟨o, es, ep, ho, hd, hk, _, hm⟩ := n
  refine ⟨o, ho, fun name => ?_⟩
  have e := hm name
  unfold nsFind findBy at e
  rw [← Array.find?_toList] at e
  unfold PySem.W.lookIn
  rw [hd]
  dsimp only
  split
  · rename_i y q
    rw [q] at e
    exact congrArg some e
  · rename_i q
    rw [q] at e
    have a : es.toList.any (·.refKey) = false := by
      rw [List.any_eq_false]
      intro y hy
      obtain ⟨z, t, hkey⟩ := hk y (Array.mem_toList_iff.mp hy)
      simp [DictEntry.refKey, hkey]
    have a' : ¬ es.toList.any (·.refKey) = true := by rw [a]; exact Bool.false_ne_true
    rw [if_neg a']
    exact congrArg some e
theorem ObjM.look {h : Heap} {x dx C : Addr} {mA : Str → Option Value} (I : ObjM h x dx C mA) : ∃ od, PySem.W.InstAt h x (PySem.W.instObj C dx) C (some od) ∧ ∀ name, PySem.W.lookIn name od = some (mA name) :=
  let ⟨od, ho, hl⟩ := qhk I.ns
  ⟨od, ⟨I.obj, rfl, rfl, ho⟩, hl⟩
section
variable {prog : Program} {w : World} {A : Around} {E : Value → Shared → Prop} {s : Shared} {K : PySem.W.Frag} {x dx C f : Addr} {mA : Str → Option Value} {name : Str} {v : Value}
end
section
variable {P : Program} {w : World} {H H' : Hp} {h h' : Heap} {a C dx : Addr} {fs fs' : List (Str × V)}
theorem qjL (hok : HOk P w H h) (e : H a = some (.ins C dx fs)) : ∃ mA, ObjM h a dx C mA ∧ (∀ f, qlK (fs.lookup f) (mA f)) ∧ PySem.Within mA (fs.map (·.1)) ∧ fs.length ≤ 1000 ∧ H dx = some (.own a) := by
  obtain ⟨d, z, ne, ob, mA, n, r, q⟩ := (show ObjOk P w H h a (.ins C dx fs) from hok a _ e)
  exact ⟨mA, ⟨ob, n, ne⟩, r, q, z, d⟩
end
structure Cls (K : PySem.W.Frag) (C : Addr) : Prop where
  pg : PySem.W.plainGet K C Str.empty = true
  hd : PySem.W.hasDictIn K C = true
  po : PySem.W.plainOver K C = true
  sa : PySem.W.findIn K (.ref C) "__setattr__" = some (some (.builtin "object.__setattr__"))
theorem Cls.get {K : PySem.W.Frag} {C : Addr} (c : Cls K C) (f : Str) : PySem.W.plainGet K C f = true := c.pg
structure Con (K : PySem.W.Frag) (C : Addr) (f : Str) (v : V) (u : Value) : Prop where
  at_ : PySem.W.findIn K (.ref C) f = some (some u)
  rel : RelV v u
  get : PySem.W.specialIn K u "__get__" = some none
  cp : PySem.W.copiedNames.contains f = false
structure Meth (K : PySem.W.Frag) (C : Addr) (m : Str) (f : Addr) : Prop where
  at_ : PySem.W.findIn K (.ref C) m = some (some (.ref f))
  fn : PySem.W.isFn K (.ref f) = true
  kp : PySem.W.keepIn K (.ref f) = true
section
variable {X : Cx} {pins : List (Addr × Obj)} {σ : St} {H : Hp} {s : Shared} {a C dx : Addr} {fs : List (Str × V)} {f : Str} {v : V} {A : Around} {E : Value → Shared → Prop}
end
section
variable {X : Cx} {o e value : Expr} {f : Str} {pos pos' tpos : Pos} {ta tv : TE}
end
section
variable {X : Cx} {pins : List (Addr × Obj)} {σ : St} {H : Hp} {s : Shared} {A : Around} {E : Value → Shared → Prop} {Q : Value → Shared → Prop} {c : Value} {b : Bool}
inductive TyOf (K : PySem.W.Frag) (H : Hp) : V → Value → Prop where
  | non : TyOf K H .non (.type "NoneType")
  | bl (x : Bool) : TyOf K H (.bl x) (.type "bool")
  | int (i : Int) : TyOf K H (.int i) (.type "int")
  | str (x : Str) : TyOf K H (.str x) (.type "str")
  | flt (x : UInt64) : TyOf K H (.flt x) (.type "float")
  | lst {a : Addr} {xs : List V} (e : H a = some (.lst xs)) : TyOf K H (.ref a) (.type "list")
  | frz {a : Addr} {o : Obj} {xs : List V} (e : H a = some (.frz o (.lst xs))) : TyOf K H (.ref a) (.type "list")
  | tup {a : Addr} {xs : List V} (e : H a = some (.tup xs)) : TyOf K H (.ref a) (.type "tuple")
  | dK {a : Addr} {kvs : List (Key × V)} (e : H a = some (.dK kvs)) : TyOf K H (.ref a) (.type "dict")
  | dT {a : Addr} {kvs : List (List Key × V)} (e : H a = some (.dT kvs)) : TyOf K H (.ref a) (.type "dict")
  | ins {a C dx : Addr} {fs : List (Str × V)} (e : H a = some (.ins C dx fs)) (cl : Cls K C) (ha : PySem.W.findIn K (.ref C) "__class__" = some (some (.builtin "object.__class__")))
      (hn : PySem.W.specialIn K (.builtin "object.__class__") "__get__" = some (some (.builtin "getset_descriptor.__get__"))) (htk : PySem.W.takesIn K (.builtin "object.__class__") = some true)
      (hm : PySem.W.mroIn K C (.type "object") = some true) : TyOf K H (.ref a) (.ref C)
theorem qhl {x : V} {u t : Value} (I : Inv X pins σ H s) (rx : RelV x u) (ty : TyOf X.K H x t) (e : PySem.W.kitOne X.K t c = some b) (h : ∀ tk, Q (.bool b) { s with toks := tk }) :
    wpAny (model X.prog X.w) A (call (.builtin "isinstance") [u, c]) Q E s := by
  cases ty with
  | non => cases (show u = Value.none from rx); exact PySem.W.kia_one PySem.W.kitx_none I.kIn True.intro e (fun z => nomatch z) h
  | bl y => cases (show u = Value.bool y from rx); exact PySem.W.kia_one PySem.W.kitx_bool I.kIn True.intro e (fun z => nomatch z) h
  | int i => obtain ⟨t, q⟩ := (show ∃ t, u = Value.int i t from rx); cases q; exact PySem.W.kia_one PySem.W.kitx_int I.kIn True.intro e (fun z => nomatch z) h
  | str y => obtain ⟨t, q⟩ := (show ∃ t, u = Value.str y t from rx); cases q; exact PySem.W.kia_one PySem.W.kitx_str I.kIn True.intro e (fun z => nomatch z) h
  | flt y => obtain ⟨t, q⟩ := (show ∃ t, u = Value.float y t from rx); cases q; exact PySem.W.kia_one PySem.W.kitx_float I.kIn True.intro e (fun z => nomatch z) h
  | @lst a xs ea =>
    cases (show u = Value.ref a from rx)
    obtain ⟨_, _, n, _, h1⟩ := (show ObjOk X.prog X.w H s.heap a (.lst xs) from I.hok a _ ea)
    exact PySem.W.kia_one PySem.W.kitx_list I.kIn ⟨_, h1, rfl⟩ e (fun z => nomatch z) h
  | @frz a ob xs ea =>
    cases (show u = Value.ref a from rx)
    obtain ⟨_, _, _, n, _, h1⟩ := (show ObjOk X.prog X.w H s.heap a (.frz ob (.lst xs)) from I.hok a _ ea)
    exact PySem.W.kia_one PySem.W.kitx_list I.kIn ⟨_, h1, rfl⟩ e (fun z => nomatch z) h
  | @tup a xs ea =>
    cases (show u = Value.ref a from rx)
    obtain ⟨_, _, _, p⟩ := (show ObjOk X.prog X.w H s.heap a (.tup xs) from I.hok a _ ea)
    obtain ⟨o, h1, h2, _⟩ := p
    exact PySem.W.kia_one PySem.W.kitx_tuple I.kIn ⟨o, h1, h2⟩ e (fun z => nomatch z) h
  | @dK a kvs ea =>
    cases (show u = Value.ref a from rx)
    obtain ⟨_, _, vs, _, p⟩ := (show ObjOk X.prog X.w H s.heap a (.dK kvs) from I.hok a _ ea)
    obtain ⟨o, es, ep, h1, h2, _⟩ := p
    exact PySem.W.kia_one PySem.W.kitx_dict I.kIn ⟨o, h1, h2.1⟩ e (fun z => nomatch z) h
  | @dT a kvs ea =>
    cases (show u = Value.ref a from rx)
    obtain ⟨_, _, xs, _, o, es, ep, h1, h2, _⟩ := (show ObjOk X.prog X.w H s.heap a (.dT kvs) from I.hok a _ ea)
    exact PySem.W.kia_one PySem.W.kitx_dict I.kIn ⟨o, h1, h2.1⟩ e (fun z => nomatch z) h
  | @ins a C dx fs ea cl ha hn htk hm =>
    cases (show u = Value.ref a from rx)
    obtain ⟨mA, O, _⟩ := qjL I.hok ea
    obtain ⟨od, J, _⟩ := O.look
    exact PySem.W.kia_one (PySem.W.kitx_own (cl.get _) cl.hd ha hn htk hm) I.kIn J e (fun z => nomatch z) h
end
end L2
namespace L2
open PySem PySem.Spec PyProof.Rows
structure Room (k : Nat) (A : Around) : Prop where
  hd : A.handled = none
  dp : A.depth + 3 * k + 105 < recursionLimit
  un : A.units + 16 * k + 200 < cLine
theorem Room.mono {j k : Nat} {A : Around} (r : Room k A) (h : j ≤ k) : Room j A := ⟨r.hd, by have := r.dp; omega, by have := r.un; omega⟩
theorem Room.deeper {k : Nat} {A : Around} (r : Room (k + 1) A) (env : Env) : Room k (A.deeper env) :=
  ⟨r.hd, by have := r.dp; show A.depth + 1 + 3 * k + 105 < _; omega, by have := r.un; show A.units + 3 + 16 * k + 200 < _; omega⟩
theorem Room.in1 {k : Nat} {A : Around} (r : Room (k + 1) A) : Room k A.in1 :=
  ⟨r.hd, by have := r.dp; show A.depth + 3 * k + 105 < _; omega, by have := r.un; show A.units + 1 + 16 * k + 200 < _; omega⟩
theorem Room.depth {k : Nat} {A : Around} (r : Room k A) : A.depth < recursionLimit := by have := r.dp; omega
theorem Room.units {k : Nat} {A : Around} (r : Room k A) : A.units + 64 < cLine := by have := r.un; omega
theorem Room.units0 {k : Nat} {A : Around} (r : Room k A) : A.units < cLine := by have := r.un; omega
noncomputable def qan : TA := fun _ H Q => Q [] H
noncomputable def qac (ta : TE) (tr : TA) : TA := fun σ H Q => ta σ H fun x H1 => tr σ H1 fun xs H2 => Q (x :: xs) H2
section
variable {X : Cx} {e : Expr} {es : List Expr} {te : TE} {t : TA} {pos : Pos}
theorem qae : PA X [] qan := fun _ _ _ _ H Q I h => Calls.spliced_nil ⟨[], H, I, .nil, h⟩
theorem qaa (ha : PE X e te) (hr : PA X es t) (hs : starEach (e :: es) X.env = (false, eval e X.env) :: starEach es X.env := by rfl) : PA X (e :: es) (qac te t) := by
  intro pos pins s σ H Q I h
  rw [hs]
  show wpAny _ _ (spliced ((false, eval e X.env) :: backTo pos (starEach es X.env))) _ _ s
  refine Calls.spliced_cons (thn (ha pins s σ H _ I h) fun u s1 ⟨x, H1, I1, r1, q1⟩ => ?_)
  exact thn (hr pos pins s1 σ H1 _ I1 q1) fun us s2 ⟨xs, H2, I2, r2, q2⟩ => ⟨x :: xs, H2, I2, .cons r1 r2, q2⟩
noncomputable def qbu (t : TA) : TE := fun σ H Q => t σ H fun xs H1 => xs.length ≤ sizeLine ∧ ∀ p, H1 p = none → Q (.ref p) (upd H1 p (.tup xs))
noncomputable def qg7 (t : TA) : TE := fun σ H Q => t σ H fun xs H1 => xs.length ≤ sizeLine ∧ ∀ p, H1 p = none → Q (.ref p) (upd H1 p (.lst xs))
theorem qax {x1} (h : PA X es t) : PE X (.Tuple es x1 pos) (qbu t) := by
  intro pins s σ H Q I hq
  refine wpAny_Tuple_spliced (thn (h pos pins s σ H _ I hq) fun us s1 ⟨xs, H1, I1, r, z, q⟩ => ⟨by rw [← r.length]; exact z, ?_⟩)
  have hf : H1 s1.heap.objs.size = none := I1.hok.fresh (Nat.le_refl _)
  refine ⟨.ref s1.heap.objs.size, upd H1 s1.heap.objs.size (.tup xs), I1.laid (t' := s1.toks) (fun b u e => Heap.get?_push_of_some _ e) (Nat.le_refl _) ?_, rfl, q _ hf⟩
  exact ⟨z, us, r, ⟨_, Heap.get?_push_size _ rfl, rfl, _, rfl⟩⟩
theorem qcC (h : PA X es t) : PE X (.List es pos) (qg7 t) := by
  intro pins s σ H Q I hq
  refine wpAny_List_spliced (thn (h pos pins s σ H _ I hq) fun us s1 ⟨xs, H1, I1, r, z, q⟩ => ⟨by rw [← r.length]; exact z, ?_⟩)
  have hf : H1 s1.heap.objs.size = none := I1.hok.fresh (Nat.le_refl _)
  refine ⟨.ref s1.heap.objs.size, upd H1 s1.heap.objs.size (.lst xs), I1.laid (t' := s1.toks) (fun b u e => Heap.get?_push_of_some _ e) (Nat.le_refl _) ?_, rfl, q _ hf⟩
  exact ⟨z, us, 0, r, Heap.get?_push_size _ rfl⟩
end
noncomputable abbrev Sp := List V → Hp → VK → XK → Prop
noncomputable abbrev CXT := List Env → Hp → Shared → XK → Value → Shared → Prop
structure Env0 (P : Program) (w : World) (K : PySem.W.Frag) (mg : Str → Option Value) (base : Heap) (A : Around) (outer : List Env) (s : Shared) (H : Hp) : Prop where
  frames : A.frames = some outer
  mod : Mod K mg base
  bs : ∀ b o, base.get? b = some o → s.heap.get? b = some o ∧ H b = none
  bsz : base.objs.size ≤ s.heap.objs.size
  funs : s.heap.FunFrames base outer
  frf : ∀ b ∈ frs outer, H b = none
  hok : HOk P w H s.heap
  bare : AllBare s.gens
  seer : base.NoSeer
  tree : (model P w).prog.given.tree = none
noncomputable def CE (outer : List Env) (P : Program) (w : World) (H : Hp) (s : Shared) (Q : VK) (u : Value) (s' : Shared) : Prop :=
  ∃ v H', s'.os = s.os ∧ AllBare s'.gens ∧ Un (frs outer) [] H H' s.heap s'.heap ∧ HOk P w H' s'.heap ∧ RelV v u ∧ Q v H'
noncomputable def CR (CX : CXT) (outer : List Env) (P : Program) (w : World) (H : Hp) (s : Shared) (Q : VK) (E : XK) (r : Result) (s' : Shared) : Prop :=
  match r with
  | .ok (.ret u) => CE outer P w H s Q u s'
  | .ok _ => False
  | .error e => CX outer H s E e s'
structure FnOk (P : Program) (w : World) (K : PySem.W.Frag) (mg : Str → Option Value) (base : Heap) (CX : CXT) (k : Nat) (f : Addr) (fd : FuncData) (ps : List Str) (sp : Sp) : Prop where
  len : ∀ vs H Q E, sp vs H Q E → vs.length = ps.length
  run : ∀ (A : Around) (outer : List Env) (s : Shared) (H : Hp) (args : Args) (us : List Value) (vs : List V) (Q : VK) (E : XK), Room k A → Env0 P w K mg base A outer s H → BindsTo s fd args (ps.zip us) → Vals vs us → sp vs H Q E →
    codeAny (model P w) A (.call (.ref f) args) (CR CX outer P w H s Q E) s
theorem FnOk.mono {P : Program} {w : World} {K : PySem.W.Frag} {mg : Str → Option Value} {base : Heap} {CX : CXT} {j k : Nat} {f : Addr} {fd : FuncData} {ps : List Str} {sp : Sp} (F : FnOk P w K mg base CX j f fd ps sp) (h : j ≤ k) :
    FnOk P w K mg base CX k f fd ps sp := ⟨F.len, fun A outer s H args us vs Q E hr => F.run A outer s H args us vs Q E (hr.mono h)⟩
theorem FnOk.imp {P : Program} {w : World} {K : PySem.W.Frag} {mg : Str → Option Value} {base : Heap} {CX : CXT} {k : Nat} {f : Addr} {fd : FuncData} {ps : List Str} {sp sp' : Sp} (F : FnOk P w K mg base CX k f fd ps sp)
    (h : ∀ vs H Q E, sp' vs H Q E → sp vs H Q E) : FnOk P w K mg base CX k f fd ps sp' :=
  ⟨fun vs H Q E q => F.len vs H Q E (h _ _ _ _ q), fun A outer s H args us vs Q E hr he hb hv hs => F.run A outer s H args us vs Q E hr he hb hv (h _ _ _ _ hs)⟩
theorem Env0.in1 {P : Program} {w : World} {K : PySem.W.Frag} {mg : Str → Option Value} {base : Heap} {A : Around} {outer : List Env} {s : Shared} {H : Hp} (e : Env0 P w K mg base A outer s H) :
    Env0 P w K mg base A.in1 outer s H := ⟨e.frames, e.mod, e.bs, e.bsz, e.funs, e.frf, e.hok, e.bare, e.seer, e.tree⟩
section
variable {X : Cx} {pins : List (Addr × Obj)} {σ : St} {H : Hp} {s s' : Shared}
theorem Inv.env0 (I : Inv X pins σ H s) : Env0 X.prog X.w X.K X.mg X.base X.A X.stack s H :=
  ⟨I.ok.frames, I.ok.mod, I.bs, Nat.le_trans I.ok.bsz I.sz, I.stack, I.stkFree, I.hok, I.bare, I.ok.seer, I.ok.tree⟩
theorem Inv.after {Q : VK} {u : Value} (I : Inv X pins σ H s) (h : CE X.stack X.prog X.w H s Q u s') : EP X pins σ Q u s' := by
  obtain ⟨v, H', os, bare, un, hok, r, q⟩ := h
  obtain ⟨hh, g, d, t, os'⟩ := s'
  obtain rfl : os' = s.os := os
  exact ⟨v, H', I.call (h' := hh) (g' := g) (d' := d) (t' := t) (ch := []) un hok bare (fun b z => absurd z (by simp)), r, q⟩
end
noncomputable def qap (sp : Sp) (dvs : List V) (E : XK) (t : TA) : TE := fun σ H Q => t σ H fun vs H1 => sp (vs ++ dvs) H1 Q E
noncomputable def Binds (K : PySem.W.Frag) (fd : FuncData) (ps : List Str) (ds : List Value) : Prop :=
  ∀ (s : Shared) (us : List Value), K.In s.heap → (us ++ ds).length = ps.length → BindsTo s fd ⟨us, []⟩ (ps.zip (us ++ ds))
theorem Binds.all {K : PySem.W.Frag} {fd : FuncData} {ps : List Str} (h : ∀ us : List Value, us.length = ps.length → bindArgs fd ⟨us, []⟩ = pure (ps.zip us)) : Binds K fd ps [] := fun s us _ hl => by
  rw [List.append_nil] at hl ⊢
  exact .of_eq (h us hl)
noncomputable def Passes (CX : CXT) (X : Cx) (E : XK) : Prop := ∀ (pins : List (Addr × Obj)) (σ : St) (H : Hp) (s : Shared) (e : Value) (s' : Shared), Inv X pins σ H s → CX X.stack H s E e s' → X.xe e s'
section
variable {X : Cx} {CX : CXT} {k : Nat} {f C : Addr} {fd : FuncData} {ps : List Str} {sp : Sp} {dvs : List V} {ds : List Value} {E : XK} {x m : Str} {p pos apos : Pos} {e o : Expr} {es : List Expr} {ta : TE} {t : TA}
theorem qjj {pins : List (Addr × Obj)} {σ : St} {H : Hp} {s : Shared} {Q : VK} {us : List Value} {vs : List V} (F : FnOk X.prog X.w X.K X.mg X.base CX k f fd ps sp) (hr : Room k X.A) (hb : Binds X.K fd ps ds) (hd : Vals dvs ds) (hx : Passes CX X E)
    (I : Inv X pins σ H s) (r : Vals vs us) (h : sp (vs ++ dvs) H Q E) : wpAny (model X.prog X.w) X.A (call (.ref f) us) (EP X pins σ Q) X.xe s := by
  have r2 : Vals (vs ++ dvs) (us ++ ds) := r.append hd
  have hl : (us ++ ds).length = ps.length := by rw [← r2.length]; exact F.len _ _ _ _ h
  refine wpAny_call (codeAny_mono (F.run X.A X.stack s H ⟨us, []⟩ (us ++ ds) (vs ++ dvs) Q E hr I.env0 (hb s us I.kIn hl) r2 h) fun r s' hq => ?_)
  cases r with
  | error e => exact hx pins σ H s e s' I hq
  | ok fl =>
    cases fl with
    | ret u => exact I.after hq
    | next => exact False.elim hq
    | brk => exact False.elim hq
    | cont => exact False.elim hq
theorem qjM (F : FnOk X.prog X.w X.K X.mg X.base CX k f fd ps sp) (hr : Room k X.A) (hg : Gl X x) (hm : X.mg x = some (.ref f)) (hk : PySem.W.keepIn X.K (.ref f) = true) (hb : Binds X.K fd ps ds) (hd : Vals dvs ds) (hx : Passes CX X E)
    (ha : PA X (e :: es) t) (hdb : (x == ("__debug__" : Str)) = false := by decide) (he : starEach (e :: es) X.env = (false, eval e X.env) :: starEach es X.env := by rfl) (hpl : (backTo pos (starEach es X.env)).any (·.1) = false := by rfl) :
    PE X (.Call (.Name x p) (e :: es) [] pos) (qap sp dvs E t) := by
  intro pins s σ H Q I h
  refine wpAny_Call_Name_kw (qha I hg hm ?_ hdb)
  refine PySem.W.callWith_K (h₀ := X.base) I.ok.mod.kin hk (thn (ha pos pins s σ H _ I h) fun us s1 ⟨vs, H1, I1, r, q⟩ => ⟨I1.kIn, ?_⟩) he hpl
  exact qjj F hr hb hd hx I1 r q
theorem qiy (F : FnOk X.prog X.w X.K X.mg X.base CX k f fd ps sp) (hr : Room k X.A) (hg : Gl X x) (hm : X.mg x = some (.ref f)) (hk : PySem.W.keepIn X.K (.ref f) = true) (hb : Binds X.K fd ps ds) (hd : Vals dvs ds) (hx : Passes CX X E)
    (hdb : (x == ("__debug__" : Str)) = false := by decide) : PE X (.Call (.Name x p) [] [] pos) (qap sp dvs E qan) := by
  intro pins s σ H Q I h
  refine wpAny_Call_Name_kw (qha I hg hm ?_ hdb)
  exact PySem.W.callWith_K0 I.kIn hk (qjj (us := []) F hr hb hd hx I .nil h)
structure Mk (K : PySem.W.Frag) (C f : Addr) : Prop where
  makes : PySem.W.makesIn K C = true
  init : PySem.W.findIn K (.ref C) "__init__" = some (some (.ref f))
  fn : PySem.W.isFn K (.ref f) = true
  kp : PySem.W.keepIn K (.ref C) = true
end
section
variable {X : Cx} {CX : CXT} {k : Nat} {f C : Addr} {fd : FuncData} {ps ks : List Str} {sp : Sp} {E : XK} {x m : Str} {p pos apos kpos : Pos} {e o : Expr} {es : List Expr} {kws : List Keyword} {te ta : TE} {t tk : TA} {nm : Option Str}
structure KBinds (K : PySem.W.Frag) (fd : FuncData) (ps ks : List Str) (g : List Value → List Value → List Value) (gV : List V → List V → List V) : Prop where
  to : ∀ (s : Shared) (us ws : List Value), K.In s.heap → (g us ws).length = ps.length → BindsTo s fd ⟨us, ks.zip ws⟩ (ps.zip (g us ws))
  rel : ∀ {vs : List V} {us : List Value} {zs : List V} {ws : List Value}, Vals vs us → Vals zs ws → Vals (gV vs zs) (g us ws)
variable {g : List Value → List Value → List Value} {gV : List V → List V → List V}
end
structure FnScope (N P : List Str) (sc : Scope) : Prop where
  kind : sc.kind = .function
  co : sc.isCoroutine = false
  gen : sc.isGenerator = false
  nd : N.Nodup
  pre : N.take P.length = P
  par : ∀ x ∈ P, sc.names.lookup x = some .local ∨ sc.names.lookup x = some .cell
  nofree : ∀ y ∈ sc.names, y.2 ≠ .free
theorem qfc {kindOf : Str → Option NameKind} {x : Str} : ∀ {binds : List (Str × Value)} {m : Str → Option Value}, (∀ v, (x, v) ∉ binds) → bindL kindOf binds m x = m x
  | [], _, _ => rfl
  | (n, v) :: r, m, h => by
    unfold bindL
    rw [qfc fun w hw => h w (List.mem_cons_of_mem _ hw)]
    split
    · have : x ≠ n := by rintro rfl; exact h v List.mem_cons_self
      simp [this]
    · rfl
theorem qfd {kindOf : Str → Option NameKind} {x : Str} : ∀ {binds : List (Str × Value)} {m : Str → Option Value}, (∀ v, (x, v) ∉ binds) → bindC kindOf binds m x = m x
  | [], _, _ => rfl
  | (n, v) :: r, m, h => by
    unfold bindC
    rw [qfd fun w hw => h w (List.mem_cons_of_mem _ hw)]
    split
    · rfl
    · have : x ≠ n := by rintro rfl; exact h v List.mem_cons_self
      simp [this]
theorem qfe {kindOf : Str → Option NameKind} {x : Str} {v : Value} : ∀ {P : List Str} {vs : List Value} {i : Nat} {m : Str → Option Value}, P.Nodup → P[i]? = some x → vs[i]? = some v → kindOf x = some .local →
    bindL kindOf (P.zip vs) m x = some v
  | [], _, _, _, _, h, _, _ => by simp at h
  | _ :: _, [], _, _, _, _, h, _ => by simp at h
  | p :: P, w :: vs, 0, m, nd, h1, h2, hk => by
    simp at h1 h2; subst h1; subst h2
    show bindL kindOf ((p, w) :: P.zip vs) m p = _
    unfold bindL
    rw [qfc fun v hv => (List.nodup_cons.mp nd).1 (List.of_mem_zip hv).1, if_pos hk]
    simp
  | p :: P, w :: vs, i + 1, m, nd, h1, h2, hk => by
    show bindL kindOf ((p, w) :: P.zip vs) m x = _
    unfold bindL
    exact qfe (i := i) (List.nodup_cons.mp nd).2 (by simpa using h1) (by simpa using h2) hk
theorem qff {kindOf : Str → Option NameKind} {x : Str} {v : Value} : ∀ {P : List Str} {vs : List Value} {i : Nat} {m : Str → Option Value}, P.Nodup → P[i]? = some x → vs[i]? = some v → kindOf x ≠ some .local →
    bindC kindOf (P.zip vs) m x = some v
  | [], _, _, _, _, h, _, _ => by simp at h
  | _ :: _, [], _, _, _, _, h, _ => by simp at h
  | p :: P, w :: vs, 0, m, nd, h1, h2, hk => by
    simp at h1 h2; subst h1; subst h2
    show bindC kindOf ((p, w) :: P.zip vs) m p = _
    unfold bindC
    rw [qfd fun v hv => (List.nodup_cons.mp nd).1 (List.of_mem_zip hv).1, if_neg hk]
    simp
  | p :: P, w :: vs, i + 1, m, nd, h1, h2, hk => by
    show bindC kindOf ((p, w) :: P.zip vs) m x = _
    unfold bindC
    exact qff (i := i) (List.nodup_cons.mp nd).2 (by simpa using h1) (by simpa using h2) hk
noncomputable def start (N : List Str) (vs : List V) : St := vs.map some ++ List.replicate (N.length - vs.length) none
noncomputable def qiz (CX : CXT) (P : Program) (w : World) (K : PySem.W.Frag) (mg : Str → Option Value) (base : Heap) (N : List Str) (qual : Str) (scope : Scope) (f : Addr) (cd : Value) (A : Around) (outer : List Env) (s : Shared) (H : Hp) (E : XK) : Cx where
  prog := P
  w := w
  K := K
  mg := mg
  base := base
  A := A.deeper (envOfC qual scope s.heap.objs.size f cd)
  N := N
  s₀ := s
  H₀ := H
  env := envOfC qual scope s.heap.objs.size f cd
  outer := outer
  stack := envOfC qual scope s.heap.objs.size f cd :: outer
  ex := []
  calm := true
  fn := fun _ => true
  pn := []
  xe := fun e s' => wpAny (model P w) (A.deeper (envOfC qual scope s.heap.objs.size f cd)) (leaving (envOfC qual scope s.heap.objs.size f cd) e) (fun _ s'' => CX outer H s E e s'') (fun e' s'' => CX outer H s E e' s'') s'
theorem qf6 {sc : Scope} {n : Nat} {x : Str} (h : sc.names.lookup x = some .cell) : ∃ c, (cellsFrom n sc.names []).lookup x = some c := by
  have q := PySem.W.cellsFrom_some sc.names n [] (.inl h)
  exact Option.isSome_iff_exists.mp q
theorem qhm {CX : CXT} {P : Program} {w : World} {K : PySem.W.Frag} {mg : Str → Option Value} {base : Heap} {N ps : List Str} {qual : Str} {scope : Scope} {f : Addr} {cd : Value} {A : Around} {outer : List Env} {s s1 : Shared} {H : Hp} {E : XK} {us : List Value} {vs : List V}
    (S : FnScope N ps scope) (hd : A.handled = none) (hdp : (A.deeper (envOfC qual scope s.heap.objs.size f cd)).depth + Builtin.pylongFrames < recursionLimit) (e0 : Env0 P w K mg base A outer s H) (hl : vs.length = ps.length) (r : Vals vs us)
    (x : InCallC s s.heap.objs.size (bindL (envOfC qual scope s.heap.objs.size f cd).kindOf (ps.zip us) fun _ => none) (cellsFrom (s.heap.objs.size + 1) scope.names []) (bindC (envOfC qual scope s.heap.objs.size f cd).kindOf (ps.zip us) fun _ => none) s1) :
    Inv (qiz CX P w K mg base N qual scope f cd A outer s H E) [] (start N vs) H s1 := by
  have hpl : ps.length ≤ N.length := by have := congrArg List.length S.pre; rw [List.length_take] at this; omega
  obtain ⟨h1, tk, rfl, hk⟩ := x.done
  have noA : ∀ b : Addr, b ∉ (qiz CX P w K mg base N qual scope f cd A outer s H E).ex := fun b z => absurd (show b ∈ ([] : List Addr) from z) (by simp)
  refine ⟨⟨e0.mod, S.kind, rfl, rfl, Nat.le_refl _, fun y z c h1 h2 => ?_, fun y hy => ?_, fun y c _ h => ?_, fun _ => hd, Around.frames_deeper e0.frames, .inr ⟨rfl, rfl⟩, fun b z => absurd z (noA b), e0.bs, e0.bsz, fun b _ _ => noA b, fun b z => absurd z (noA b), e0.funs, e0.frf, e0.seer, e0.tree, fun s' hk' => PySem.PylongRoom.of (e0.mod.nolimit.keeps hk') hdp (PySem.SeerAt.of (e0.seer.keeps hk') e0.tree (Around.frames_deeper e0.frames) S.gen S.co rfl rfl)⟩,
    rfl, e0.bare, Un.kept hk, ⟨_, x.toInCall.ns, fun i y v h1 h2 h3 => ?_⟩, fun y c h => ⟨_, x.cell y c h⟩, e0.hok.fresh (Nat.le_refl _), fun y c h => ?_, fun p hp => absurd (show p ∈ ([] : List (Addr × Obj)) from hp) (by simp), e0.hok.kept hk, ?_⟩
  · exact name_of_addr x.apart (PySem.mem_of_lookup h1) (PySem.mem_of_lookup h2)
  · have hy : scope.names.lookup y = some .cell ∨ scope.names.lookup y = some .free := hy
    rcases hy with hy | hy
    · exact qf6 hy
    · exact absurd rfl (S.nofree _ (PySem.mem_of_lookup hy))
  · exact Nat.le_of_lt (x.above y c (PySem.mem_of_lookup h))
  · have hi : i < vs.length := by
      unfold start at h2
      by_cases hi : i < vs.length
      · exact hi
      · rw [List.getElem?_append_right (by simpa using hi)] at h2
        rw [List.getElem?_replicate] at h2
        split at h2 <;> cases h2
    have ha : vs[i]? = some v := by
      unfold start at h2
      rw [List.getElem?_append_left (by simpa using hi), List.getElem?_map] at h2
      cases e : vs[i]? with
      | none => rw [e] at h2; cases h2
      | some a => rw [e] at h2; cases h2; rfl
    obtain ⟨u, hu, rv⟩ := r.get ha
    have hp : ps[i]? = some y := by
      rw [← S.pre, List.getElem?_take_of_lt (by omega)]; exact h1
    have ndP : ps.Nodup := by rw [← S.pre]; exact S.nd.sublist (List.take_sublist _ _)
    refine ⟨u, rv, ?_⟩
    rcases S.par y (List.mem_of_getElem? hp) with k | k
    · exact .inl ⟨k, qfe ndP hp hu k⟩
    · obtain ⟨c, e⟩ := qf6 (n := s.heap.objs.size + 1) k
      refine .inr ⟨.inl k, c, e, ?_⟩
      have q := x.cell y c e
      rw [qff ndP hp hu (by show scope.names.lookup y ≠ _; rw [k]; decide)] at q
      exact q
  · exact e0.hok.fresh (Nat.le_of_lt (x.above y c (PySem.mem_of_lookup h)))
  · unfold start
    show _ = N.length
    rw [List.length_append, List.length_map, List.length_replicate]
    omega
theorem qkQ {CX : CXT} {P : Program} {w : World} {K : PySem.W.Frag} {mg : Str → Option Value} {base : Heap} {k : Nat} {f : Addr} {name qual : Str} {params : Arguments} {body : List Stmt} {scope : Scope} {dV kV doc pm cdv ct oc : Value} {an od : Option Addr}
    {osl : Array (Option Value)} {N ps : List Str} {sp : Sp} (lk : K.lookup f = some ⟨oc, od, .func (PySem.W.fnOf name qual params body scope dV kV doc pm an cdv ct), osl⟩) (hcd : PySem.W.codeIn K cdv qual = true) (S : FnScope N ps scope)
    (len : ∀ vs H Q E, sp vs H Q E → vs.length = ps.length)
    (hbody : ∀ (A : Around) (outer : List Env) (s : Shared) (H : Hp) (vs : List V) (Q : VK) (E : XK), Room k (A.deeper (envOfC qual scope s.heap.objs.size f cdv)) → sp vs H Q E →
      ∃ t, PSs (qiz CX P w K mg base N qual scope f cdv A outer s H E) body t ∧ t { nx := fun _ H' => Q .non H', rt := Q } (start N vs) H) :
    FnOk P w K mg base CX (k + 1) f (PySem.W.fnOf name qual params body scope dV kV doc pm an cdv ct) ps sp := by
  refine ⟨len, fun A outer s H args us vs Q E hr e0 hb r hsp => ?_⟩
  have hl := len _ _ _ _ hsp
  have KX : K.In s.heap := e0.mod.kin.keeps fun b o e => (e0.bs b o e).1
  have lim : s.heap.NoLimit := e0.mod.nolimit.keeps fun b o e => (e0.bs b o e).1
  have hkind : ∀ y ∈ ps.zip us, scope.names.lookup y.1 = some .local ∨ (scope.names.lookup y.1 = some .cell ∧ ((cellsFrom (s.heap.objs.size + 1) scope.names []).lookup y.1).isSome = true) := fun ⟨n, v⟩ hy => by
    rcases S.par n (List.of_mem_zip hy).1 with q | q
    · exact .inl q
    · exact .inr ⟨q, PySem.W.cellsFrom_some _ _ _ (.inl q)⟩
  refine codeAny_call_function hr.depth (KX _ _ lk) rfl S.co S.gen rfl (PySem.W.codeRec_of KX hcd) (hb _ _ _ _ ?_)
  refine wpAny_newFunctionEnv_cells S.kind hkind fun env he s1 x => ?_
  subst he
  refine ⟨lim.keeps x.toInCall.keep, codeAny_func ?_⟩
  obtain ⟨t, ht, hq⟩ := hbody A outer s H vs Q E (hr.deeper _) hsp
  have I : Inv (qiz CX P w K mg base N qual scope f cdv A outer s H E) [] (start N vs) H s1 := qhm S hr.hd (by have := (hr.deeper (envOfC qual scope s.heap.objs.size f cdv)).dp; show _ + 100 < _; omega) e0 hl r x
  refine wpAny_mono (ht [] s1 (start N vs) H _ I hq) (fun fl s' hs => ?_) fun e s' hs => hs
  have fin : ∀ {σ' : St} {H' : Hp} {v : V} {u : Value}, Inv (qiz CX P w K mg base N qual scope f cdv A outer s H E) [] σ' H' s' → RelV v u → Q v H' → CE outer P w H s Q u s' :=
    fun {σ' H' v u} J rv q => ⟨v, H', J.os, J.bare, J.base, J.hok, rv, q⟩
  cases fl with
  | ret u =>
    obtain ⟨v, σ', H', J, rv, q⟩ := hs
    exact fin J rv q
  | next =>
    obtain ⟨σ', H', J, q⟩ := hs
    exact fin (v := V.non) (u := Value.none) J rfl q
  | brk =>
    obtain ⟨_, _, _, q⟩ := hs
    exact False.elim q
  | cont =>
    obtain ⟨_, _, _, q⟩ := hs
    exact False.elim q
end L2
namespace L2
open PySem PySem.Spec PyProof.Rows
section
variable {X : Cx} {x : Str} {p pos : Pos} {e : Expr} {es : List Expr} {t : TA} {id T : String} {r : List V → Hp → VK → Prop}
noncomputable def tCB (r : List V → Hp → VK → Prop) (t : TA) : TE := fun σ H Q => t σ H fun vs H1 => r vs H1 Q
theorem qaI (hc : qcA X (.builtin id) r) (hg : Gl X x) (hm : X.mg x = none) (hv : bootBuiltins x = some (.builtin id)) (ha : PA X (e :: es) t) (hn : x ≠ "__name__" := by decide) (hdb : (x == ("__debug__" : Str)) = false := by decide)
    (he : starEach (e :: es) X.env = (false, eval e X.env) :: starEach es X.env := by rfl) (hpl : (backTo pos (starEach es X.env)).any (·.1) = false := by rfl) : PE X (.Call (.Name x p) (e :: es) [] pos) (tCB r t) := by
  intro pins s σ H Q I h
  refine wpAny_Call_Name_kw (qdF I hg hm hv ?_ hn hdb)
  exact PyProof.Rows.callWith_builtin1 (thn (ha pos pins s σ H _ I h) fun us s1 ⟨vs, H1, I1, r1, q1⟩ => hc pins s1 σ H1 vs us Q I1 r1 q1) he hpl
theorem qb7 (hc : qcA X (.type T) r) (hg : Gl X x) (hm : X.mg x = none) (hv : bootBuiltins x = some (.type T)) (ha : PA X (e :: es) t) (hn : x ≠ "__name__" := by decide) (hdb : (x == ("__debug__" : Str)) = false := by decide)
    (he : starEach (e :: es) X.env = (false, eval e X.env) :: starEach es X.env := by rfl) (hpl : (backTo pos (starEach es X.env)).any (·.1) = false := by rfl) : PE X (.Call (.Name x p) (e :: es) [] pos) (tCB r t) := by
  intro pins s σ H Q I h
  refine wpAny_Call_Name_kw (qdF I hg hm hv ?_ hn hdb)
  exact PyProof.Rows.callWith_type1 (thn (ha pos pins s σ H _ I h) fun us s1 ⟨vs, H1, I1, r1, q1⟩ => hc pins s1 σ H1 vs us Q I1 r1 q1) he hpl
end
end L2
namespace HT
open PySem PyProof.Rows
section
open PySem.SeqAt
open PySem.AutoSeq1 (wpAny_loadPart')
open PySem.MeetsSeq PySem.MeetsSeq2 PySem.MeetsSeq3
end
section
variable {prog : Program} {w : World} {A : Around} {E : Value → Shared → Prop} {s : Shared}
noncomputable def sIx (n d : Nat) : Option Int → Nat
  | none => d
  | some v => if v < 0 then (v + (n : Int)).toNat else min v.toNat n
end
end HT
namespace L2
open PySem PySem.Spec PyProof.Rows
noncomputable abbrev TO := St → Hp → (Option Int → Hp → Prop) → Prop
noncomputable def PO (X : Cx) (e : Option Expr) (t : TO) : Prop :=
  ∀ (pins : List (Addr × Obj)) (s : Shared) (σ : St) (H : Hp) (Q : Option Int → Hp → Prop), Inv X pins σ H s → t σ H Q →
    wpAny (model X.prog X.w) X.A (evalPart e X.env) (fun u s' => ∃ o H', Inv X pins σ H' s' ∧ IsPart u o ∧ Q o H') X.xe s
noncomputable def qfA : TO := fun _ H Q => Q none H
noncomputable def qfB (t : TE) : TO := fun σ H Q => t σ H fun x H1 => ∃ i, x = .int i ∧ Q (some i) H1
section
variable {X : Cx} {e : Expr} {te : TE} {lo hi : Option Expr} {tl th : TO} {pos p2 : Pos}
theorem qjN : PO X none qfA := by
  intro pins s σ H Q I h
  rw [evalPart_none]
  exact wpAny_pure ⟨none, H, I, .none, h⟩
theorem qdL (h : PE X e te) : PO X (some e) (qfB te) := by
  intro pins s σ H Q I hw
  rw [evalPart_some]
  refine thn (h pins s σ H _ I hw) fun u s1 ⟨x, H1, I1, r1, q1⟩ => ?_
  obtain ⟨i, rfl, q⟩ := q1
  obtain ⟨t, rfl⟩ := r1
  exact ⟨some i, H1, I1, .int i t, q⟩
noncomputable def SlR (X : Cx) (r : V → Option Int → Option Int → Hp → VK → Prop) : Prop :=
  ∀ (pins : List (Addr × Obj)) (s : Shared) (σ : St) (H : Hp) (x : V) (v vl vu : Value) (lo hi : Option Int) (sl : Addr) (Q : VK), Inv X pins σ H s → RelV x v → s.heap.IsSliceOf sl vl vu .none → IsPart vl lo → IsPart vu hi → r x lo hi H Q →
    ∃ T id, typeLookup (.type T) "__getitem__" = pure (some (.builtin id)) ∧ s.TypeIs v T ∧ wpAny (model X.prog X.w) X.A (getItem v (.ref sl)) (EP X pins σ Q) X.xe s
noncomputable def tSl (r : V → Option Int → Option Int → Hp → VK → Prop) (te : TE) (tl th : TO) : TE := fun σ H Q => te σ H fun x H1 => tl σ H1 fun l H2 => th σ H2 fun u H3 => r x l u H3 Q
theorem qeH {r : V → Option Int → Option Int → Hp → VK → Prop} (hr : SlR X r) (he : PE X e te) (hl : PO X lo tl) (hu : PO X hi th) : PE X (.Subscript e (.Slice lo hi none p2) pos) (tSl r te tl th) := by
  intro pins s σ H Q I h
  refine Subscript_ (thn (he pins s σ H _ I h) fun v s1 ⟨x, H1, I1, r1, q1⟩ => ?_)
  refine wpAny_Slice (thn (hl pins s1 σ H1 _ I1 q1) fun vl s2 ⟨l, H2, I2, pl, q2⟩ => thn (hu pins s2 σ H2 _ I2 q2) fun vu s3 ⟨u, H3, I3, pu, q3⟩ => ?_)
  rw [evalPart_none]
  refine wpAny_pure ?_
  have I4 : Inv X pins σ H3 { s3 with heap := s3.heap.push { cls := .type "slice", data := .fields #[vl, vu, .none] } } := I3.kept (t' := s3.toks) fun b ob q => Heap.get?_push_of_some _ q
  obtain ⟨T, id, hT, ht, hg⟩ := hr pins { s3 with heap := s3.heap.push { cls := .type "slice", data := .fields #[vl, vu, .none] } } σ H3 x v vl vu l u s3.heap.objs.size Q I4 r1 (Heap.IsSliceOf.new ..) pl pu q3
  show wpAny (model X.prog X.w) X.A (subscriptTail e (.Slice lo hi none p2) v (.ref s3.heap.objs.size)) (EP X pins σ Q) X.xe { s3 with heap := s3.heap.push { cls := .type "slice", data := .fields #[vl, vu, .none] } }
  exact tail_any (ops := [.ref s3.heap.objs.size, v]) ht hT hg (by with_unfolding_all rfl)
noncomputable def qg8 (xs : List V) (lo hi : Option Int) : List V := (xs.drop (HT.sIx xs.length 0 lo)).take (HT.sIx xs.length xs.length hi - HT.sIx xs.length 0 lo)
theorem qfC (xs : List V) (lo hi : Option Int) : (qg8 xs lo hi).length ≤ xs.length := by
  unfold qg8
  rw [List.length_take, List.length_drop]
  omega
end
end L2
namespace L2
open PySem PySem.Spec PyProof.Rows
noncomputable def ixN (n : Nat) (i : Int) : Option Nat := if 0 ≤ i then (if i < n then some i.toNat else none) else if -(n : Int) ≤ i then some (i + n).toNat else none
noncomputable def atI {α : Type} (xs : List α) (i : Int) : Option α := (ixN xs.length i).bind fun j => xs[j]?
theorem qjO {n : Nat} {i : Int} {j : Nat} (h : ixN n i = some j) : seqIndex? i n = some j ∧ j < n ∧ -(n : Int) ≤ i ∧ i < n := by
  unfold ixN at h
  by_cases h0 : 0 ≤ i
  · rw [if_pos h0] at h
    by_cases h1 : i < n
    · rw [if_pos h1] at h
      have e : i.toNat = j := Option.some.inj h
      exact ⟨by rw [seqIndex_of h0 h1, e], by omega, by omega, h1⟩
    · rw [if_neg h1] at h; cases h
  · rw [if_neg h0] at h
    by_cases h1 : -(n : Int) ≤ i
    · rw [if_pos h1] at h
      have e : (i + n).toNat = j := Option.some.inj h
      exact ⟨by rw [seqIndex_neg (by omega) h1, e], by omega, h1, by omega⟩
    · rw [if_neg h1] at h; cases h
theorem qhn {α : Type} {xs : List α} {i : Int} {v : α} (h : atI xs i = some v) : ∃ j, seqIndex? i xs.length = some j ∧ xs[j]? = some v ∧ j < xs.length ∧ -(xs.length : Int) ≤ i ∧ i < xs.length := by
  unfold atI at h
  cases e : ixN xs.length i with
  | none => rw [e] at h; cases h
  | some j =>
    rw [e] at h
    obtain ⟨h1, h2, h3, h4⟩ := qjO e
    exact ⟨j, h1, h, h2, h3, h4⟩
theorem qjP {α : Type} {xs : List α} {j : Nat} {v : α} (h : xs[j]? = some v) : atI xs (j : Int) = some v := by
  have hj : j < xs.length := (List.getElem?_eq_some_iff.mp h).1
  have e : ixN xs.length (j : Int) = some j := by
    unfold ixN
    rw [if_pos (by omega), if_pos (by omega)]; simp
  unfold atI; rw [e]; exact h
noncomputable def qjQ (b : Expr) : Prop := ∀ o i, subscripted b false o i = operate [o, i] (getItem o i)
noncomputable def IxR (X : Cx) (r : R2) : Prop :=
  ∀ (value slice : Expr) (pins : List (Addr × Obj)) (s : Shared) (σ : St) (H : Hp) (x y : V) (v u : Value) (Q : VK), Inv X pins σ H s → RelV x v → RelV y u → r x y H Q →
    subscripted slice false v u = operate [v, u] (getItem v u) → wpAny (model X.prog X.w) X.A (subscriptTail value slice v u) (EP X pins σ Q) X.xe s
noncomputable def MtR (X : Cx) (id : String) (r : V → List V → Hp → VK → Prop) : Prop :=
  ∀ (pins : List (Addr × Obj)) (s : Shared) (σ : St) (H : Hp) (x : V) (xs : List V) (v : Value) (us : List Value) (Q : VK), Inv X pins σ H s → RelV x v → Vals xs us → r x xs H Q →
    wpAny (model X.prog X.w) X.A (call (.builtin id) (v :: us)) (EP X pins σ Q) X.xe s
section
variable {X : Cx} {a b : Expr} {ta tb : TE} {pos : Pos}
theorem qaq {r : R2} (hr : IxR X r) (ha : PE X a ta) (hb : PE X b tb) (hs : qjQ b) : PE X (.Subscript a b pos) (tOp r ta tb) := by
  intro pins s σ H Q I h
  exact Subscript_ (qlN ha hb I h fun v u s2 x y H2 I2 rx ry q => hr a b pins s2 σ H2 x y v u Q I2 rx ry q (hs _ _))
noncomputable def qmC (K : PySem.W.Frag) : R2 := fun x y H Q => ∃ p xs i v, x = .ref p ∧ y = .int i ∧ SqL K H p xs ∧ atI xs i = some v ∧ Q v H
noncomputable def qmD (K : PySem.W.Frag) : R2 := fun x y H Q => ∃ p xs i v, x = .ref p ∧ y = .int i ∧ SqT K H p xs ∧ atI xs i = some v ∧ Q v H
theorem qho : IxR X (qmC X.K) := by
  intro value slice pins s σ H x y v u Q I rx ry h hs
  obtain ⟨p, xs, i, z, rfl, rfl, hq, he, q⟩ := h
  cases rx
  obtain ⟨t, rfl⟩ := ry
  obtain ⟨its, r, pl, hz⟩ := I.list hq
  obtain ⟨j, h1, h2, h3, h4, h5⟩ := qhn he
  obtain ⟨w, ew, rw'⟩ := r.get h2
  have hl := r.length
  have hn := qf5
  have fin : EP X pins σ Q w s := ⟨z, H, I, rw', q⟩
  by_cases h0 : 0 ≤ i
  · have hj : i.toNat = j := by
      rw [seqIndex_of h0 h5] at h1
      exact Option.some.inj h1
    exact item_listR pl.isList h0 (by omega) (by rw [hj]; simpa using ew) fin hs
  · have hj : (i + (its.toArray.size : Int)).toNat = j := by
      rw [seqIndex_neg (by omega) h4] at h1
      rw [List.size_toArray, ← hl]
      exact Option.some.inj h1
    exact subscriptTail_builtinR (x := w) pl.isList.typeIs slot_list_getitem.lookup
      (wpAny_getItem_list_neg (Q := fun r s' => r = w ∧ EP X pins σ Q r s') pl.isList (by omega) (by rw [List.size_toArray] <;> omega) (by omega) (by rw [hj]; simpa using ew) ⟨rfl, fin⟩) hs
theorem qkR : IxR X (qmD X.K) := by
  intro value slice pins s σ H x y v u Q I rx ry h hs
  obtain ⟨p, xs, i, z, rfl, rfl, hq, he, q⟩ := h
  cases rx
  obtain ⟨t, rfl⟩ := ry
  obtain ⟨its, r, pl, hz⟩ := I.tuple hq
  obtain ⟨j, h1, h2, h3, h4, h5⟩ := qhn he
  obtain ⟨w, ew, rw'⟩ := r.get h2
  have hl := r.length
  have hn := qf5
  have fin : EP X pins σ Q w s := ⟨z, H, I, rw', q⟩
  exact subscriptTail_builtinR (x := w) pl.typeIs slot_tuple_getitem.lookup
    (getItem_tuple (j := j) (Q := fun r s' => r = w ∧ EP X pins σ Q r s') pl (by omega) (by omega) (by rw [List.size_toArray, ← hl]; exact h1) (by simpa using ew) ⟨rfl, fin⟩) hs
theorem Inv.lst {pins : List (Addr × Obj)} {σ : St} {H : Hp} {s : Shared} {p : Addr} {xs : List V} (I : Inv X pins σ H s) (h : H p = some (.lst xs)) :
    ∃ (its : List Value) (n : Nat), Vals xs its ∧ s.heap.get? p = some { cls := .type "list", data := .seq its.toArray n } ∧ xs.length ≤ sizeLine := by
  obtain ⟨z, its, n, r, e⟩ := I.hok p _ h
  exact ⟨its, n, r, e, z⟩
noncomputable def qlQ : V → V → V → Hp → (Hp → Prop) → Prop := fun o i v H Q => ∃ p xs k j, o = .ref p ∧ i = .int k ∧ H p = some (.lst xs) ∧ ixN xs.length k = some j ∧ Q (upd H p (.lst (xs.set j v)))
theorem qfg (lo hi : Option Int) (n : Nat) : (sliceBounds lo hi none n).1 = ((HT.sIx n 0 lo : Nat) : Int) ∧ (sliceBounds lo hi none n).2.1 = ((HT.sIx n n hi : Nat) : Int) ∧ (sliceBounds lo hi none n).2.2 = 1 := by
  refine ⟨?_, ?_, rfl⟩
  · cases lo with
    | none => simp [sliceBounds, HT.sIx]
    | some i =>
      simp only [sliceBounds, HT.sIx, Option.getD_none, show (1 : Int) > 0 by decide, if_true]
      by_cases h : i < 0
      · simp only [h, if_true] <;> omega
      · simp only [h, if_false] <;> omega
  · cases hi with
    | none => simp [sliceBounds, HT.sIx]
    | some i =>
      simp only [sliceBounds, HT.sIx, Option.getD_none, show (1 : Int) > 0 by decide, if_true]
      by_cases h : i < 0
      · simp only [h, if_true] <;> omega
      · simp only [h, if_false] <;> omega
theorem qeI (its : List Value) (lo hi : Option Int) : slicePick its.toArray lo hi none = ((its.drop (HT.sIx its.length 0 lo)).take (HT.sIx its.length its.length hi - HT.sIx its.length 0 lo)).toArray := by
  obtain ⟨h1, h2, h3⟩ := qfg lo hi its.toArray.size
  unfold slicePick
  rw [h1, h2, h3]
  simp only [sliceRange_one, pick_run, List.size_toArray] <;> rfl
noncomputable def qmE (K : PySem.W.Frag) : V → Option Int → Option Int → Hp → VK → Prop := fun x lo hi H Q => ∃ a xs, x = .ref a ∧ SqL K H a xs ∧ ∀ p, H p = none → Q (.ref p) (upd H p (.lst (qg8 xs lo hi)))
theorem qhp : SlR X (qmE X.K) := by
  intro pins s σ H x v vl vu lo hi sl Q I rx hs pl pu h
  obtain ⟨a, xs, rfl, hx, q⟩ := h
  cases rx
  obtain ⟨its, r, ht, hz⟩ := I.list hx
  have hlen := r.length
  refine ⟨"list", _, slot_list_getitem.lookup, ht.isList.typeIs, ?_⟩
  refine wpAny_getItem_list_slice ht.isList hs pl pu .none (by simp) ?_ (by rw [List.size_toArray] <;> omega)
  rw [qeI, ← hlen]
  refine ⟨.ref s.heap.objs.size, _, I.laid (t' := s.toks) (o := .lst (qg8 xs lo hi)) (fun b ob q => Heap.get?_push_of_some _ q) (Nat.le_refl _) ?_, rfl, q _ (I.hok.fresh (Nat.le_refl _))⟩
  exact ⟨Nat.le_trans (qfC xs lo hi) hz, _, 0, (r.drop (HT.sIx xs.length 0 lo)).take (HT.sIx xs.length xs.length hi - HT.sIx xs.length 0 lo), Heap.get?_push_size _ rfl⟩
theorem qdd : qcA X (.builtin "len") (fun xs H Q => ∃ p ys, xs = [.ref p] ∧ (SqL X.K H p ys ∨ SqT X.K H p ys) ∧ Q (.int ys.length) H) := by
  intro pins s σ H xs us Q I r h
  obtain ⟨p, ys, rfl, hq, q⟩ := h
  obtain ⟨u, rfl, rx⟩ := qfz r
  cases rx
  have hn := qf5
  rcases hq with hq | hq
  · obtain ⟨its, r', pl, hz⟩ := I.list hq
    have hlen := r'.length
    exact Calls.call_len_list pl.isList (by simp only [List.size_toArray] <;> omega) ⟨.int ys.length, H, I.tok _, ⟨s.toks + 1, by rw [List.size_toArray, hlen]⟩, q⟩
  · obtain ⟨its, r', pl, hz⟩ := I.tuple hq
    have hlen := r'.length
    exact len_tuple pl (by simp only [List.size_toArray] <;> omega) ⟨.int ys.length, H, I.tok _, ⟨s.toks + 1, by rw [List.size_toArray, hlen]⟩, q⟩
theorem qde : qcA X (.type "list") (fun xs H Q => ∃ p ys, xs = [.ref p] ∧ (SqL X.K H p ys ∨ SqT X.K H p ys) ∧ ∀ l, H l = none → Q (.ref l) (upd H l (.lst ys))) := by
  intro pins s σ H xs us Q I r h
  obtain ⟨p, ys, rfl, hq, q⟩ := h
  obtain ⟨u, rfl, rx⟩ := qfz r
  cases rx
  have fin : ∀ (its : List Value), Vals ys its → ys.length ≤ sizeLine → ∀ (h' : Heap) (c' : Nat), (∀ b o', s.heap.get? b = some o' → h'.get? b = some o') →
      h'.get? s.heap.objs.size = some { cls := .type "list", dict := none, data := .seq its.toArray c', slots := #[] } → EP X pins σ Q (.ref s.heap.objs.size) { s with heap := h' } := fun its r' hz h' c' kp e =>
    ⟨.ref s.heap.objs.size, _, I.laid (t' := s.toks) kp (Nat.le_refl _) (show ObjOk X.prog X.w _ h' _ (.lst ys) from ⟨hz, its, c', r', e⟩), rfl, q _ (I.hok.fresh (Nat.le_refl _))⟩
  rcases hq with hq | hq
  · obtain ⟨its, r', pl, hz⟩ := I.list hq
    have hlen := r'.length
    obtain ⟨o, ho, hc, n, hd⟩ := pl.isList
    exact call_list_seq p (.inl rfl) ho hc hd (fun h' c' kp e => fin its r' hz h' c' kp e) (by simp only [List.size_toArray] <;> omega)
  · obtain ⟨its, r', pl, hz⟩ := I.tuple hq
    have hlen := r'.length
    obtain ⟨o, ho, hc, n, hd⟩ := pl
    exact call_list_seq p (.inr rfl) ho hc hd (fun h' c' kp e => fin its r' hz h' c' kp e) (by simp only [List.size_toArray] <;> omega)
theorem qeJ : qcA X (.type "tuple") (fun xs H Q => ∃ p ys, xs = [.ref p] ∧ ((SqL X.K H p ys ∧ ∀ l, H l = none → Q (.ref l) (upd H l (.tup ys))) ∨ (SqT X.K H p ys ∧ Q (.ref p) H))) := by
  intro pins s σ H xs us Q I r h
  obtain ⟨p, ys, rfl, h⟩ := h
  obtain ⟨u, rfl, rx⟩ := qfz r
  cases rx
  rcases h with ⟨hq, q⟩ | ⟨hq, q⟩
  · obtain ⟨its, r', pl, hz⟩ := I.list hq
    have hlen := r'.length
    refine call_tuple_list pl.isList (fun h' kp => ?_) (by simp only [List.size_toArray] <;> omega)
    have I1 : Inv X pins σ H { s with heap := h' } := I.kept (t' := s.toks) kp
    have I2 : Inv X pins σ (upd H h'.objs.size (.tup ys)) { s with heap := h'.push { cls := .type "tuple", data := .seq its.toArray } } :=
      I1.laid (t' := s.toks) (fun b o e => Heap.get?_push_of_some _ e) (Nat.le_refl _) (show ObjOk X.prog X.w _ _ _ (.tup ys) from ⟨hz, its, r', IsTup.new _ _⟩)
    exact ⟨.ref h'.objs.size, _, I2, rfl, q _ (I1.hok.fresh (Nat.le_refl _))⟩
  · obtain ⟨its, r', pl, hz⟩ := I.tuple hq
    exact call_tuple_same pl ⟨.ref p, H, I, rfl, q⟩
noncomputable def tyV (K : PySem.W.Frag) (T : String) (x : V) (H : Hp) : Prop := match x with
  | .str _ => T = "str"
  | .int _ => T = "int"
  | .ref p => (T = "list" ∧ ∃ xs, SqL K H p xs) ∨ (T = "tuple" ∧ ∃ o, K.lookup p = some o ∧ o.cls = .type "tuple" ∧ o.dict = none) ∨
      (T = "dict" ∧ ((∃ kvs, H p = some (.dK kvs)) ∨ ∃ kvs, H p = some (.dT kvs))) ∨ (T = "set" ∧ ∃ S n, H p = some (.set S n))
  | _ => False
theorem qjk {pins : List (Addr × Obj)} {σ : St} {H : Hp} {s : Shared} {T : String} {x : V} {v : Value} (I : Inv X pins σ H s) (r : RelV x v) (ty : tyV X.K T x H) :
    s.TypeIs v T ∧ ∀ a, v = .ref a → ∃ ob, s.heap.get? a = some ob ∧ ob.dict = none := by
  cases x with
  | str z =>
    obtain ⟨t, rfl⟩ := r
    cases (show T = "str" from ty)
    exact ⟨typeIs_str s z t, fun _ e => nomatch e⟩
  | int i =>
    obtain ⟨t, rfl⟩ := r
    cases (show T = "int" from ty)
    exact ⟨typeIs_int s i t, fun _ e => nomatch e⟩
  | ref p =>
    cases r
    rcases ty with ⟨rfl, xs, hq⟩ | ⟨rfl, o, hk, hc, hd⟩ | ⟨rfl, hk⟩ | ⟨rfl, S, n, hk⟩
    · obtain ⟨its, _, pl, _⟩ := I.list hq
      refine ⟨pl.isList.typeIs, fun a e => ?_⟩
      cases e
      obtain ⟨o, n, e, c, hd, _⟩ := pl
      exact ⟨o, e, hd⟩
    · refine ⟨⟨o, I.kIn p o hk, hc⟩, fun a e => ?_⟩
      cases e
      exact ⟨o, I.kIn _ o hk, hd⟩
    · have z : ∃ o, s.heap.get? p = some o ∧ o.ExactDict := by
        rcases hk with ⟨kvs, hk⟩ | ⟨kvs, hk⟩
        · obtain ⟨_, _, _, _, o, _, _, e, ex, _⟩ := I.hok p _ hk
          exact ⟨o, e, ex⟩
        · obtain ⟨_, _, _, _, o, _, _, e, ex, _⟩ := I.hok p _ hk
          exact ⟨o, e, ex⟩
      obtain ⟨o, e, ex⟩ := z
      refine ⟨⟨o, e, ex.1⟩, fun a e2 => ?_⟩
      cases e2
      exact ⟨o, e, ex.2.1⟩
    · obtain ⟨o, _, _, _, e, ex, _⟩ := I.hok p _ hk
      refine ⟨⟨o, e, ex.1⟩, fun a e2 => ?_⟩
      cases e2
      exact ⟨o, e, ex.2.1⟩
  | _ => exact False.elim ty
noncomputable def qlR (K : PySem.W.Frag) (T : String) (r : V → List V → Hp → VK → Prop) (to : TE) : TE := fun σ H Q => to σ H fun x H1 => tyV K T x H1 ∧ r x [] H1 Q
noncomputable def tBM (K : PySem.W.Frag) (T : String) (r : V → List V → Hp → VK → Prop) (to : TE) (t : TA) : TE := fun σ H Q => to σ H fun x H1 => tyV K T x H1 ∧ t σ H1 fun xs H2 => r x xs H2 Q
variable {o e : Expr} {es : List Expr} {to : TE} {t : TA} {name : Str} {apos cpos : Pos} {T id : String} {r : V → List V → Hp → VK → Prop}
theorem qkS (pa : PlainAttrs T) (slot : Slot T name id) (hty : typeOf (.builtin id) = pure (.type "method_descriptor")) (hm : MtR X id r) (ho : PE X o to)
    (hbase : attributeBase o name X.env (eval o X.env) = eval o X.env := by rfl) (hline : (apos.endLine == cpos.line) = true := by rfl) : PE X (.Call (.Attribute o name apos) [] [] cpos) (qlR X.K T r to) := by
  intro pins s σ H Q I h
  refine wpAny_Call_method0_late hbase hline (thn (ho pins s σ H _ I h) fun v s1 ⟨x, H1, I1, r1, ty, q1⟩ => ?_)
  obtain ⟨h1, h2⟩ := qjk I1 r1 ty
  exact ⟨T, id, pa, slot, hty, h1, h2, Calls.callWith_builtin rfl (PySem.evalArgs_none (hm pins s1 σ H1 x [] v [] Q I1 r1 .nil q1))⟩
theorem qdo (pa : PlainAttrs T) (slot : Slot T name id) (hty : typeOf (.builtin id) = pure (.type "method_descriptor")) (hm : MtR X id r) (ho : PE X o to) (ha : PA X (e :: es) t)
    (hbase : attributeBase o name X.env (eval o X.env) = eval o X.env := by rfl)
    (hfew : ((backTo cpos (starEach (e :: es) X.env)).all (fun x => !x.1) && (backToKw cpos (keywordEach [] X.env)).all (fun x => x.1.isSome)
      && decide ((e :: es).length + ([] : List Keyword).length + (if ([] : List Keyword).isEmpty then 0 else 1) < 30)) = true := by rfl)
    (hline : (apos.endLine == cpos.line) = true := by rfl) (hs : starEach (e :: es) X.env = (false, eval e X.env) :: starEach es X.env := by rfl) (hplain : (backTo cpos (starEach es X.env)).any (·.1) = false := by rfl) :
    PE X (.Call (.Attribute o name apos) (e :: es) [] cpos) (tBM X.K T r to t) := by
  intro pins s σ H Q I h
  refine wpAny_Call_method_late hbase hfew hline rfl (thn (ho pins s σ H _ I h) fun v s1 ⟨x, H1, I1, r1, ty, q1⟩ => ?_)
  obtain ⟨h1, h2⟩ := qjk I1 r1 ty
  refine ⟨T, id, pa, slot, hty, h1, h2, ?_⟩
  have hA := ha cpos pins s1 σ H1 _ I1 q1
  rw [hs] at hA ⊢
  refine Calls.callWith_builtin (by show (false || (backTo cpos (starEach es X.env)).any (·.1)) = false; rw [hplain] <;> rfl) (Calls.evalArgs_plain ?_)
  exact thn hA fun us s2 ⟨vs, H2, I2, r2, q2⟩ => hm pins s2 σ H2 x vs v us Q I2 r1 r2 q2
end
end L2
namespace L2
open PySem PySem.Spec PyProof.Rows
noncomputable def MtM (X : Cx) (id : String) (r : V → List V → Hp → VK → Prop) : Prop :=
  ∀ (pins : List (Addr × Obj)) (s : Shared) (σ : St) (H : Hp) (x : V) (xs : List V) (v : Value) (us : List Value) (Q : VK), Inv X pins σ H s → RelV x v → Vals xs us → r x xs H Q →
    wpAny (model X.prog X.w) X.A (call (.builtin id) (v :: us)) (EP X pins σ Q) X.xe s
theorem Vals.zero {us : List Value} (h : Vals [] us) : us = [] := by cases h; rfl
theorem Vals.inv {x : V} {xs : List V} {us : List Value} (h : Vals (x :: xs) us) : ∃ u t, us = u :: t ∧ RelV x u ∧ Vals xs t := by cases h with | cons r t => exact ⟨_, _, rfl, r, t⟩
theorem Vals.one {x : V} {us : List Value} (h : Vals [x] us) : ∃ u, us = [u] ∧ RelV x u := by obtain ⟨u, t, rfl, r, h⟩ := h.inv; exact ⟨u, by rw [h.zero], r⟩
theorem Vals.two {x y : V} {us : List Value} (h : Vals [x, y] us) : ∃ u v, us = [u, v] ∧ RelV x u ∧ RelV y v := by obtain ⟨u, t, rfl, r, h⟩ := h.inv; obtain ⟨v, rfl, q⟩ := h.one; exact ⟨u, v, rfl, r, q⟩
theorem Vals.dropLast {xs : List V} {us : List Value} (h : Vals xs us) : Vals xs.dropLast us.dropLast := by
  induction h with
  | nil => exact .nil
  | cons r t ih =>
    cases t with
    | nil => exact .nil
    | cons q t' => exact .cons r ih
theorem Vals.eraseIdx : ∀ {xs : List V} {us : List Value} (i : Nat), Vals xs us → Vals (xs.eraseIdx i) (us.eraseIdx i)
  | _, _, _, .nil => .nil
  | _, _, 0, .cons _ t => t
  | _, _, i + 1, .cons r t => .cons r (Vals.eraseIdx i t)
theorem Vals.reverse {xs : List V} {us : List Value} (h : Vals xs us) : Vals xs.reverse us.reverse := by
  induction h with
  | nil => exact .nil
  | cons r t ih => rw [List.reverse_cons, List.reverse_cons]; exact Vals.append ih (.cons r .nil)
theorem qgy {α : Type} (l : List α) : l.eraseIdx (l.length - 1) = l.dropLast := by
  induction l with
  | nil => rfl
  | cons a r ih =>
    cases r with
    | nil => rfl
    | cons b r =>
      have e : (a :: b :: r).length - 1 = ((b :: r).length - 1) + 1 := by
        have h1 : (a :: b :: r).length = r.length + 2 := rfl
        have h2 : (b :: r).length = r.length + 1 := rfl
        omega
      rw [e, List.eraseIdx_cons_succ, ih]
      all_goals rfl
section
variable {X : Cx} {pins : List (Addr × Obj)} {σ : St} {H : Hp} {s : Shared} {l b : Addr} {xs ys zs : List V}
theorem Inv.lset {its its' : List Value} {n : Nat} {f : Array Value → Array Value} {t' : Nat} (I : Inv X pins σ H s) (hH : H l = some (.lst xs))
    (e : s.heap.get? l = some { cls := .type "list", data := .seq its.toArray n }) (hf : f its.toArray = its'.toArray) (hv : Vals ys its') (hz : ys.length ≤ sizeLine) :
    Inv X pins σ (upd H l (.lst ys)) { s with heap := s.heap.update l (Obj.mapSeq f), toks := t' } := by
  have q := PySem.IsL.update e f
  rw [hf] at q
  refine I.write (x := l) (e := l) (by rw [hH]; exact trivial) (.inl rfl) (fun b' u hb hu => (Heap.get?_update_other s.heap (Obj.mapSeq f) (Ne.symm hb)).trans hu) ⟨_, q⟩ ?_
  exact ⟨hz, its', _, hv, q⟩
theorem Inv.lnew {its : List Value} {t' : Nat} (I : Inv X pins σ H s) (hv : Vals ys its) (hz : ys.length ≤ sizeLine) :
    Inv X pins σ (upd H s.heap.objs.size (.lst ys)) { s with heap := s.heap.push { cls := .type "list", data := .seq its.toArray }, toks := t' } :=
  I.laid (fun _ _ q => Heap.get?_push_of_some _ q) (Nat.le_refl _) ⟨hz, its, 0, hv, Heap.get?_push_size _ rfl⟩
theorem Inv.fresh (I : Inv X pins σ H s) : H s.heap.objs.size = none := I.hok.fresh (Nat.le_refl _)
theorem Inv.lstM (I : Inv X pins σ H s) (hH : H l = some (.lst xs)) : xs.length ≤ sizeLine ∧ ∃ (its : List Value) (n : Nat), Vals xs its ∧ xs.length = its.length ∧ s.heap.get? l = some { cls := .type "list", data := .seq its.toArray n } := by
  obtain ⟨z, its, n, r, e⟩ := I.hok l _ hH
  exact ⟨z, its, n, r, r.length, e⟩
theorem qiA {n : Nat} (h : n ≤ sizeLine) : Builtin.List.listTooLong n = false := by
  unfold Builtin.List.listTooLong
  exact decide_eq_false (by omega)
end
section
variable {X : Cx}
noncomputable def qbd : V → List V → Hp → VK → Prop := fun x vs H Q => ∃ l xs y, x = .ref l ∧ vs = [y] ∧ H l = some (.lst xs) ∧ xs.length < sizeLine ∧ Q .non (upd H l (.lst (xs ++ [y])))
theorem qaR : MtM X "list.append" qbd := by
  intro pins s σ H x vs v us Q I rx rv h
  obtain ⟨l, xs, y, rfl, rfl, hH, hz, q⟩ := h
  cases rx
  obtain ⟨u, rfl, ru⟩ := rv.one
  obtain ⟨z, its, n, r, hl, e⟩ := I.lstM hH
  refine call_meets F.slot_list_append ⟨_, e, rfl⟩ F.entry_list_append (F.args_list_append_2 _ _) (PySem.list_append l its.toArray n u (by rw [List.size_toArray]; omega)) ⟨e, ?_⟩
  refine ⟨.non, _, I.lset (its' := its ++ [u]) hH e (by simp) (r.append (.cons ru .nil)) ?_, rfl, q⟩
  rw [List.length_append, List.length_singleton]
  omega
noncomputable def qfD : V → List V → Hp → VK → Prop := fun x vs H Q => ∃ l b xs zs, x = .ref l ∧ vs = [.ref b] ∧ H l = some (.lst xs) ∧ H b = some (.lst zs) ∧ xs.length + zs.length ≤ sizeLine ∧ Q .non (upd H l (.lst (xs ++ zs)))
theorem qhq : MtM X "list.extend" qfD := by
  intro pins s σ H x vs v us Q I rx rv h
  obtain ⟨l, b, xs, zs, rfl, rfl, hH, hB, hz, q⟩ := h
  cases rx
  obtain ⟨u, rfl, ru⟩ := rv.one
  cases ru
  obtain ⟨z, its, n, r, hl, e⟩ := I.lstM hH
  obtain ⟨z2, its2, n2, r2, hl2, e2⟩ := I.lstM hB
  have hsz : its.toArray.size + its2.toArray.size ≤ sizeLine := by rw [List.size_toArray, List.size_toArray]; omega
  have hlong : ¬ (!its.toArray.isEmpty && Builtin.List.listTooLong (its.toArray.size + its2.toArray.size)) = true := by
    rw [qiA hsz, Bool.and_false]
    exact Bool.false_ne_true
  refine call_meets F.slot_list_extend ⟨_, e, rfl⟩ F.entry_list_extend (F.args_list_extend_2 _ _)
    (AutoSeq1.list_extend_list_list_0 l its.toArray n b its2.toArray n2 hlong (by rw [List.size_toArray]; omega) (by omega)) ⟨e, e2, ?_⟩
  refine ⟨.non, _, I.lset (its' := its ++ its2) hH e (by simp) (r.append r2) ?_, rfl, q⟩
  rw [List.length_append]
  omega
noncomputable def qlS : V → List V → Hp → VK → Prop := fun x vs H Q => ∃ l xs y, x = .ref l ∧ vs = [] ∧ H l = some (.lst xs) ∧ xs[xs.length - 1]? = some y ∧ Q y (upd H l (.lst xs.dropLast))
theorem qkT : MtM X "list.pop" qlS := by
  intro pins s σ H x vs v us Q I rx rv h
  obtain ⟨l, xs, y, rfl, rfl, hH, hy, q⟩ := h
  cases rx
  have hus := rv.zero
  subst hus
  obtain ⟨z, its, n, r, hl, e⟩ := I.lstM hH
  obtain ⟨u, hu, ru⟩ := r.get hy
  have hy' : its.toArray[its.toArray.size - 1]? = some u := by
    show its.toArray[its.length - 1]? = some u
    rw [← Array.getElem?_toList, ← hl]
    exact hu
  refine call_meets F.slot_list_pop ⟨_, e, rfl⟩ F.entry_list_pop (F.args_list_pop_1 _) (MeetsSeq.list_pop_last l its.toArray n u hy' (by rw [List.size_toArray]; omega)) ⟨e, ?_⟩
  refine ⟨y, _, I.lset (its' := its.dropLast) hH e ?_ r.dropLast ?_, ru, q⟩
  · show its.toArray.eraseIdxIfInBounds (its.toArray.size - 1) = its.dropLast.toArray
    rw [List.size_toArray, List.eraseIdxIfInBounds_toArray, qgy]
  · rw [List.length_dropLast]
    omega
noncomputable def qjR : R2 := fun x y H Q => ∃ l b xs zs, x = .ref l ∧ y = .ref b ∧ H l = some (.lst xs) ∧ H b = some (.lst zs) ∧ xs.length + zs.length ≤ sizeLine ∧ ∀ p, H p = none → Q (.ref p) (upd H p (.lst (xs ++ zs)))
theorem qjl : OpR X (binaryOp .Add) qjR := by
  intro pins s σ H x y v u Q I rx ry h
  obtain ⟨l, b, xs, zs, rfl, rfl, hH, hB, hz, q⟩ := h
  cases rx
  cases ry
  obtain ⟨z, its, n, r, hl, e⟩ := I.lstM hH
  obtain ⟨z2, its2, n2, r2, hl2, e2⟩ := I.lstM hB
  refine PySem.P.add_list e e2 ?_ (by rw [List.size_toArray, List.size_toArray]; omega)
  have ea : its.toArray ++ its2.toArray = (its ++ its2).toArray := by simp
  rw [ea]
  exact ⟨.ref _, _, I.lnew (t' := s.toks) (r.append r2) (by rw [List.length_append]; omega), rfl, q _ I.fresh⟩
noncomputable def qmF : R2 := fun x y H Q => ∃ l k xs, x = .ref l ∧ y = .int k ∧ H l = some (.lst xs) ∧ -(2 ^ 63) ≤ k ∧ k < 2 ^ 63 ∧ xs.length * k.toNat ≤ sizeLine ∧
  ∀ p, H p = none → Q (.ref p) (upd H p (.lst (List.replicate k.toNat xs).flatten))
end
section
variable {prog : Program} {w : World} {A : Around} {E : Value → Shared → Prop} {s : Shared}
end
section
variable {X : Cx}
end
end L2
namespace Att
open PySem PySem.W PySem.Calls PyProof.Rows
theorem qdM {P : Params} {h : Heap} : ∀ (ns : List Int) (vs : List Value), WellAll P h vs (ns.map WData.int) → IntsAre vs ns := by
  intro ns
  induction ns with
  | nil =>
    intro vs w
    rw [List.map_nil] at w
    cases w
    exact .nil
  | cons n ns ih =>
    intro vs w
    rw [List.map_cons] at w
    cases w with
    | cons a b =>
      cases a
      exact .cons _ _ (ih _ b)
theorem qhr {l : OpenLaw} {n : Nat} (hn : l.most = some n) {P : Params} {h : Heap} {args : List WData} {vals : List Value}
    (hpre : l.row.toRowW.claim.pre args = true) (hwl : WellAll P h vals args) :
    ∃ a vs ns, vals = [Value.ref a] ∧ args = [WData.list (ns.map WData.int)] ∧ h.get? a = some { cls := .type "list", data := .seq vs.toArray } ∧ IntsAre vs ns ∧ ns.length ≤ n := by
  have hsh : WShape.hasAll [] args [.list .int] = true := (pre_splitW hpre).1
  have hc : l.pre.holds [] { args := args } = true := (pre_splitW hpre).2
  obtain ⟨d, r, rfl, h1, h2⟩ := hasAllW_cons hsh
  obtain rfl := hasAllW_nil h2
  obtain ⟨xs, rfl, h3⟩ := hasW_list h1
  obtain ⟨ns, rfl⟩ := items_int h3
  have hlen : ns.length ≤ n := by
    unfold OpenLaw.pre at hc
    have h4 : (WTm.not (.lt (.lit (.int (n : Int))) (.len (.arg 0)))).holds [] { args := [.list (ns.map .int)] } = true := by
      have h4 := (holds_andW hc).1
      rw [hn] at h4
      exact h4
    have h5 := condW_of h4 (w_not (w_lt w_lit (w_len_list (w_arg rfl))))
    rw [List.length_map] at h5
    refine Nat.le_of_not_lt fun q => ?_
    have q' : (n : Int) < ((ns.length : Nat) : Int) := by omega
    first
      | (rw [decide_eq_true q'] at h5; exact absurd h5 (by decide))
      | (simp at h5; omega)
  cases hwl with
  | cons w1 w2 =>
    cases w2
    cases w1 with
    | list ho hall => exact ⟨_, _, ns, rfl, rfl, ho, qdM ns _ hall, hlen⟩
theorem qhs (l : OpenLaw) (args : List WData) : l.row.toRowW.claim.post args (.bool true) args = true :=
  postW_of (r := l.row.toRowW) (X := (true == true))
    (show WShape.has [] (.bool true) .bool = true by first | rfl | decide | simp [WShape.has, WShape.arms, WShape.armsAll])
    (show (WTm.eq .res (.lit (.bool true))).value [] { args := args, res := some (.bool true), after := args } = some (.bool (true == true)) from w_eq_bool (w_res rfl) w_lit) rfl
theorem attach_call {l : OpenLaw} {n : Nat} {q : Program} {loose : List Str} {XP : (Str → Option Value) → Heap → Prop} {YP : World → Heap → Prop} {d : DefRec}
    (hn : l.most = some n) (hdf : d.params.defaults = [])
    (call : ∀ (w : World) (s₀ s₁ : Shared) (mg mb : Str → Option Value) (fa : Addr) (o : Obj) (pm cd doc : Value) (a : Addr) (vs : List Value) (ns : List Int),
      Ground q loose [] XP w s₀ mg mb s₁.heap → YP w s₁.heap →
      s₁.heap.get? fa = some o → o.data = .func (docDef d.name d.params d.body d.scope pm cd doc) → s₁.heap.CodeRec cd d.name → mg d.name = some (.ref fa) →
      s₁.heap.get? a = some { cls := .type "list", data := .seq vs.toArray } → IntsAre vs ns → ns.length ≤ n → s₁.gens = #[] →
      codeAny (model l.prog w) callerA (.call (.ref fa) ⟨[.ref a], []⟩) (fun r s' => r = .ok (.ret (.bool true)) ∧ OldK s₁.heap s'.heap ∧ s'.os = s₁.os ∧ AllBare s'.gens) s₁) :
    WalkO q loose XP YP l.row.toRowW d [] (fun f vs => PySem.call f vs) := by
  intro w s₀ s₁ mg mb G Y fa o pm cd doc dV kV ho hd hcd hD hmg hg args vals as hpre hlay hrd hwl hlo
  obtain rfl : dV = .none := Dflts.none hD hdf
  obtain rfl : kV = .none := Dflts.noKw hD
  obtain ⟨a, vs, ns, rfl, rfl, hobj, hints, hlen⟩ := qhr hn hpre hwl
  refine enter_call (codeAny_mono (call w s₀ s₁ mg mb fa o pm cd doc a vs ns G Y ho (fd_plain hd) hcd hmg hobj hints hlen hg) fun r s' hq => ?_)
  obtain ⟨rfl, h2, h3, h4⟩ := hq
  exact ⟨.inl ⟨.bool true, .bool true, [], rfl, fun _ => rfl, .bool true, qhs l _, fun _ => ⟨List.Pairwise.nil, fun _ hm => (nomatch hm)⟩⟩, h2, h3, h4⟩
section
variable {prog : Program} {w : World} {A : Around} {E : Value → Shared → Prop} {s : Shared} {K : Frag}
noncomputable def noObjs (h : Heap) : Heap := { h with objs := #[] }
theorem noObjs_get (h : Heap) (b : Addr) : (noObjs h).get? b = none := by
  cases e : (noObjs h).get? b with
  | none => rfl
  | some o => exact absurd (Heap.lt_size e) (Nat.not_lt_zero _)
noncomputable def ledger (h : Heap) (L d : Addr) : List (Addr × Obj) := (List.range h.objs.size).filterMap fun a => if a = L ∨ a = d then none else (h.get? a).map fun o => (a, o)
theorem mem_ledger {h : Heap} {L d a : Addr} {o : Obj} : (a, o) ∈ ledger h L d ↔ a ≠ L ∧ a ≠ d ∧ h.get? a = some o := by
  unfold ledger
  rw [List.mem_filterMap]
  constructor
  · rintro ⟨b, _, e⟩
    split at e
    · cases e
    · rename_i hb
      obtain ⟨o', ho, e'⟩ := Option.map_eq_some_iff.mp e
      cases e'
      exact ⟨fun q => hb (.inl q), fun q => hb (.inr q), ho⟩
  · rintro ⟨n1, n2, ho⟩
    refine ⟨a, List.mem_range.mpr (Heap.lt_size ho), ?_⟩
    rw [if_neg (show ¬ (a = L ∨ a = d) from fun q => q.elim n1 n2), ho] <;> rfl
theorem fr_all {h : Heap} {L : Addr} {m : Str → Option Value} (n : h.Ns L m) : Fr (noObjs h) L h m :=
  ⟨n, fun b o e => (by rw [noObjs_get] at e; cases e), Nat.zero_le _⟩
end
end Att
namespace L2
open PySem PySem.Spec PyProof.Rows
theorem qdN : ∀ {vs : List Value} {ns : List Int}, IntsAre vs ns → Vals (ns.map V.int) vs
  | _, _, .nil => .nil
  | _, _, .cons n t h => .cons ⟨t, rfl⟩ (qdN h)
end L2
namespace L2
open PySem PySem.Spec PyProof.Rows
end L2
namespace L2
open PySem PySem.Spec PyProof.Rows
noncomputable def qaY (s : Stmt) : Arguments := match s with
  | .FunctionDef _ a _ _ _ _ _ _ _ _ => a
  | _ => { posonlyargs := [], args := [], vararg := none, kwonlyargs := [], kw_defaults := [], kwarg := none, defaults := [] }
noncomputable def qaM (s : Stmt) : List Stmt := match s with
  | .FunctionDef _ _ b _ _ _ _ _ _ _ => b
  | _ => []
noncomputable def qao (s : Stmt) : Scope := match s with
  | .FunctionDef _ _ _ _ _ _ sc _ _ _ => sc
  | _ => { kind := .function, names := [], isGenerator := false, isCoroutine := false }
noncomputable abbrev CX0 : CXT := fun _ _ _ _ _ _ => False
noncomputable abbrev E0 : XK := fun _ _ _ => False
theorem qkU {X : Cx} : Passes CX0 X E0 := fun _ _ _ _ _ _ _ h => h.elim
structure Fun (K : PySem.W.Frag) (x qual : Str) (st : Stmt) (f : Addr) (fd : FuncData) : Prop where
  ex : ∃ (oc : Value) (od : Option Addr) (kV doc pm : Value) (an : Option Addr) (cdv ct : Value) (osl : Array (Option Value)),
    fd = PySem.W.fnOf x qual (qaY st) (qaM st) (qao st) .none kV doc pm an cdv ct ∧ K.lookup f = some ⟨oc, od, .func fd, osl⟩ ∧ PySem.W.codeIn K cdv qual = true
  kp : PySem.W.keepIn K (.ref f) = true
section
variable {P : Program} {w : World} {K : PySem.W.Frag} {mg : Str → Option Value} {base : Heap}
theorem Fun.ok {x qual : Str} {st : Stmt} {f : Addr} {fd : FuncData} {N ps : List Str} {k : Nat} {sp : Sp} (F : Fun K x qual st f fd) (S : FnScope N ps (qao st)) (len : ∀ vs H Q E, sp vs H Q E → vs.length = ps.length)
    (hbody : ∀ (cdv : Value) (A : Around) (outer : List Env) (s : Shared) (H : Hp) (vs : List V) (Q : VK) (E : XK), Room k (A.deeper (envOfC qual (qao st) s.heap.objs.size f cdv)) → sp vs H Q E →
      ∃ t, PSs (qiz CX0 P w K mg base N qual (qao st) f cdv A outer s H E).nox (qaM st) t ∧ t { nx := fun _ H' => Q .non H', rt := Q } (start N vs) H) : FnOk P w K mg base CX0 (k + 1) f fd ps sp := by
  obtain ⟨oc, od, kV, doc, pm, an, cdv, ct, osl, rfl, lk, hcd⟩ := F.ex
  refine qkQ lk hcd S len fun A outer s H vs Q E hr hsp => ?_
  obtain ⟨t, h, q⟩ := hbody cdv A outer s H vs Q E hr hsp
  exact ⟨t, h.nox, q⟩
theorem Fun.binds {x qual : Str} {st : Stmt} {f : Addr} {fd : FuncData} {ps : List Str} (F : Fun K x qual st f fd)
    (h : ∀ (kV doc pm : Value) (an : Option Addr) (cdv ct : Value) (us : List Value), us.length = ps.length → bindArgs (PySem.W.fnOf x qual (qaY st) (qaM st) (qao st) .none kV doc pm an cdv ct) ⟨us, []⟩ = pure (ps.zip us)) : Binds K fd ps [] := by
  obtain ⟨oc, od, kV, doc, pm, an, cdv, ct, osl, rfl, lk, hcd⟩ := F.ex
  exact .all (h kV doc pm an cdv ct)
theorem qkV {x qual : Str} {st : Stmt} {f : Addr} {oc : Value} {od an : Option Addr} {osl : Array (Option Value)} {kV doc pm cdv ct : Value} (l : K.lookup f = some ⟨oc, od, .func (PySem.W.fnOf x qual (qaY st) (qaM st) (qao st) .none kV doc pm an cdv ct), osl⟩)
    (c : PySem.W.codeIn K cdv qual = true) (k : PySem.W.keepIn K (.ref f) = true) : Fun K x qual st f (PySem.W.fnOf x qual (qaY st) (qaM st) (qao st) .none kV doc pm an cdv ct) := ⟨⟨oc, od, kV, doc, pm, an, cdv, ct, osl, rfl, l, c⟩, k⟩
end
section
variable {X : Cx}
theorem pv (i : Nat) {x : Str} {pos : Pos} (hN : X.N[i]? = some x := by rfl) (hv : Vis X.env.scope x := by first | exact Or.inl rfl | exact Or.inr (Or.inl rfl) | exact Or.inr (Or.inr rfl)) (hd : (x == ("__debug__" : Str)) = false := by decide)
    (hcd : (x == ("__classdict__" : Str)) = false := by decide) : PE X (.Name x pos) (qal i) := qkH hN hv hd hcd
end
theorem qbJ {c A B : Prop} [Decidable c] (h1 : c → A) (h2 : ¬ c → B) : if c then A else B := by
  by_cases h : c
  · rw [if_pos h]
    exact h1 h
  · rw [if_neg h]
    exact h2 h
noncomputable def Same (H H' : Hp) : Prop := ∀ b o, H b = some o → H' b = some o
theorem Same.refl (H : Hp) : Same H H := fun _ _ h => h
theorem Same.trans {H H1 H2 : Hp} (a : Same H H1) (b : Same H1 H2) : Same H H2 := fun c o h => b c o (a c o h)
theorem Same.free {H H' : Hp} (e : Same H H') {l : Addr} (h : H' l = Option.none) : H l = Option.none := by
  cases q : H l with
  | none => rfl
  | some o =>
    rw [e l o q] at h
    cases h
theorem Same.seq {K : PySem.W.Frag} {H H' : Hp} {a : Addr} {xs : List V} (e : Same H H') (h : SqL K H a xs) : SqL K H' a xs := by
  rcases h with (h | ⟨o, h⟩) | h
  · exact .inl (.inl (e _ _ h))
  · exact .inl (.inr ⟨o, e _ _ h⟩)
  · exact .inr h
end L2
local macro_rules | `(tactic| omega) => `(tactic| lia)
namespace Bs.Hd
open PySem PySem.Spec PyProof.Rows L2
set_option maxRecDepth 100000
set_option maxHeartbeats 4000000
noncomputable def top (i:Nat):Stmt:=PySem.Challenge.pw_backslope_k72_sums_of_log_numbers.main.body.getD i (.Pass ⟨0,0,0,0⟩)
noncomputable abbrev qdp:Stmt:=top 1
noncomputable abbrev qjS:Stmt:=top 3
noncomputable abbrev qkW:Stmt:=top 4
noncomputable abbrev qjT:Stmt:=top 5
noncomputable abbrev qaA:Stmt:=top 7
noncomputable abbrev qdq:Stmt:=top 8
noncomputable abbrev qdO:Stmt:=top 9
noncomputable abbrev qiB:Stmt:=top 10
noncomputable abbrev qgz:Stmt:=top 11
noncomputable abbrev qkX:Stmt:=top 13
noncomputable abbrev qiC:Stmt:=top 14
noncomputable abbrev qgA:Stmt:=top 15
noncomputable abbrev qiD:Stmt:=top 16
noncomputable abbrev qht:Stmt:=top 17
noncomputable abbrev qeK:Stmt:=top 19
noncomputable abbrev qgB:Stmt:=top 20
noncomputable abbrev qgC:Stmt:=top 21
noncomputable abbrev qfE:Stmt:=top 22
noncomputable abbrev qgD:Stmt:=top 23
noncomputable abbrev qeL:Stmt:=top 24
noncomputable abbrev qd8:Stmt:=top 25
noncomputable abbrev qlT:Stmt:=top 26
noncomputable abbrev qiE:Stmt:=top 27
noncomputable abbrev qd9:Stmt:=top 28
noncomputable abbrev qhu:Stmt:=top 29
noncomputable abbrev N:Value:=.none
noncomputable abbrev S (x:Str) (t:Tok):Value:=.str x t
noncomputable abbrev I (i:Int):Value:=.int i 0
noncomputable abbrev R (a:Addr):Value:=.ref a
noncomputable def en (P:Params) (k:Str) (t:Tok) (v:Value):DictEntry:=⟨PyData.keyHash P k,.str k t,v⟩
noncomputable def cdO (n:Str) (t:Tok) (l c u:Int) (a:Addr) (b g d e f:Value) (x:Int) (y:Tok):Obj:=⟨.type "code", none,.fields #[S n t,S n (t+1),S "/claim/cut.py" (t+2),I l,I c,I 0,I 0,I u,R a,.bool true,I 181,b,g,d,e,f,I x,I l,S "/claim/cut.py" y],#[]⟩
noncomputable def fnO (n:Str) (s:Stmt) (pm:Value) (c:Addr):Obj:=⟨.type "function", none,.func (PySem.W.fnOf n n (qaY s) (qaM s) (qao s) .none .none .none pm none (.ref c) .none),#[]⟩
noncomputable abbrev mo0:Value:=S "backslope.wholes" 187
noncomputable abbrev mo1:Value:=S "backslope.numbers" 198
noncomputable abbrev mo2:Value:=S "backslope.lognumbers" 225
noncomputable abbrev mo3:Value:=S "law_backslope_k72_sums_of_log_numbers" 262
noncomputable def hp (P:Params):W.Frag:=[
  (3,⟨.type "dict", none,.dict #[en P "__name__" 165 (S "law_backslope_k72_sums_of_log_numbers" 262),en P "__doc__" 166 N,en P "__package__" 167 N,en P "__loader__" 168 (.builtin "__main__.__loader__#opaque"),en P "__spec__" 169 N,en P "__annotations__" 170 (R 6),en P "__builtins__" 171 (R 4),en P "__file__" 173 (S "/claim/cut.py" 172),en P "__cached__" 174 N,en P "common_divisor" 197 (R 21),en P "ratio" 208 (R 28),en P "plus" 216 (R 35),en P "times" 224 (R 42),en P "settled_number" 232 (R 47),en P "without_common" 238 (R 52),en P "pieces_of_two" 247 (R 59),en P "n_plus" 255 (R 66),en P "n_scaled" 261 (R 71),en P "_law_at" 271 (R 78),en P "_law_draw" 281 (R 85),en P "_law_number" 291 (R 92),en P "_law_plus" 299 (R 99),en P "_law_times" 307 (R 106),en P "_law_not_above" 315 (R 113),en P "_law_is_number" 323 (R 120),en P "_law_primes" 329 (R 127),en P "_law_smooth" 343 (R 134),en P "_law_weights" 356 (R 141),en P "_law_powers" 366 (R 148),en P "_law_no_common" 378 (R 155),en P "_law_is_settled" 391 (R 162),en P "_law_c" 399 (R 169),en P "_law_rows" 412 (R 176),en P "_law_log_number" 418 (R 181),en P "law" 424 (R 186)] 35,#[]⟩),
  (20,cdO "common_divisor" 189 2 2 3 15 (R 16) N (R 17) (R 18) (R 19) 195 196),
  (21,fnO "common_divisor" (top 1) mo0 20),
  (27,cdO "ratio" 200 9 2 3 22 (R 23) N (R 24) (R 25) (R 26) 206 207),
  (28,fnO "ratio" (top 3) mo1 27),
  (34,cdO "plus" 209 14 2 3 29 (R 30) N (R 31) (R 32) (R 33) 214 215),
  (35,fnO "plus" (top 4) mo1 34),
  (41,cdO "times" 217 16 2 3 36 (R 37) N (R 38) (R 39) (R 40) 222 223),
  (42,fnO "times" (top 5) mo1 41),
  (46,cdO "settled_number" 227 19 2 3 43 (R 44) N N N (R 45) 230 231),
  (47,fnO "settled_number" (top 7) mo2 46),
  (51,cdO "without_common" 233 23 1 3 48 (R 49) N N N (R 50) 236 237),
  (52,fnO "without_common" (top 8) mo2 51),
  (58,cdO "pieces_of_two" 239 36 2 3 53 (R 54) N (R 55) (R 56) (R 57) 245 246),
  (59,fnO "pieces_of_two" (top 9) mo2 58),
  (65,cdO "n_plus" 248 39 2 3 60 (R 61) N (R 62) (R 63) (R 64) 253 254),
  (66,fnO "n_plus" (top 10) mo2 65),
  (70,cdO "n_scaled" 256 41 2 3 67 (R 68) N N N (R 69) 259 260),
  (71,fnO "n_scaled" (top 11) mo2 70),
  (77,cdO "_law_at" 264 44 2 3 72 (R 73) N (R 74) (R 75) (R 76) 269 270),
  (78,fnO "_law_at" (top 13) mo3 77),
  (84,cdO "_law_draw" 272 48 3 3 79 (R 80) N (R 81) (R 82) (R 83) 279 280),
  (85,fnO "_law_draw" (top 14) mo3 84),
  (91,cdO "_law_number" 282 53 2 3 86 (R 87) N (R 88) (R 89) (R 90) 289 290),
  (92,fnO "_law_number" (top 15) mo3 91),
  (98,cdO "_law_plus" 292 60 2 3 93 (R 94) N (R 95) (R 96) (R 97) 297 298),
  (99,fnO "_law_plus" (top 16) mo3 98),
  (105,cdO "_law_times" 300 62 2 3 100 (R 101) N (R 102) (R 103) (R 104) 305 306),
  (106,fnO "_law_times" (top 17) mo3 105),
  (119,cdO "_law_is_number" 316 66 1 3 114 (R 115) N (R 116) (R 117) (R 118) 321 322),
  (120,fnO "_law_is_number" (top 19) mo3 119),
  (126,cdO "_law_primes" 324 73 0 3 121 (R 122) N (R 123) (R 124) (R 125) 327 328),
  (127,fnO "_law_primes" (top 20) mo3 126),
  (133,cdO "_law_smooth" 330 75 1 3 128 (R 129) N (R 130) (R 131) (R 132) 341 342),
  (134,fnO "_law_smooth" (top 21) mo3 133),
  (140,cdO "_law_weights" 344 88 2 3 135 (R 136) N (R 137) (R 138) (R 139) 354 355),
  (141,fnO "_law_weights" (top 22) mo3 140),
  (147,cdO "_law_powers" 357 96 1 3 142 (R 143) N (R 144) (R 145) (R 146) 364 365),
  (148,fnO "_law_powers" (top 23) mo3 147),
  (154,cdO "_law_no_common" 367 107 1 3 149 (R 150) N (R 151) (R 152) (R 153) 376 377),
  (155,fnO "_law_no_common" (top 24) mo3 154),
  (161,cdO "_law_is_settled" 379 116 3 3 156 (R 157) N (R 158) (R 159) (R 160) 389 390),
  (162,fnO "_law_is_settled" (top 25) mo3 161),
  (168,cdO "_law_c" 392 136 2 3 163 (R 164) N (R 165) (R 166) (R 167) 397 398),
  (169,fnO "_law_c" (top 26) mo3 168),
  (175,cdO "_law_rows" 400 138 1 3 170 (R 171) N (R 172) (R 173) (R 174) 410 411),
  (176,fnO "_law_rows" (top 27) mo3 175),
  (180,cdO "_law_log_number" 413 150 2 3 177 (R 178) N N N (R 179) 416 417),
  (181,fnO "_law_log_number" (top 28) mo3 180),
  (185,cdO "law" 419 154 1 3 182 (R 183) N N N (R 184) 422 423),
  (186,fnO "law" (top 29) mo3 185),
  (4,⟨.type "module", some builtinsNs,.plain,#[]⟩)]
noncomputable def as:List Addr:=[3,20,21,27,28,34,35,41,42,46,47,51,52,58,59,65,66,70,71,77,78,84,85,91,92,98,99,105,106,119,120,126,127,133,134,140,141,147,148,154,155,161,162,168,169,175,176,180,181,185,186,4]
noncomputable def vw:Program:=PySem.W.view PySem.Challenge.pw_backslope_k72_sums_of_log_numbers [1,3,4,5,7,8,9,10,11,13,14,15,16,17,18,19,20,21,22,23,24,25,26,27,28,29]
noncomputable def hk:PySem.W.Hook:=PySem.W.kmHook hp as (fun _=>by kernel_rfl) [44]
theorem left:PySem.W.LeftO PySem.Challenge.pw_backslope_k72_sums_of_log_numbers vw [] (fun s=>PySem.W.xlAt vw [] s && PySem.W.recOk (PySem.W.RowW.records (PySem.W.OpenRow.toRowW (PySem.W.OpenLaw.row PySem.Challenge.rw_backslope_k72_sums_of_log_numbers))) s) hk.obs hk.val 1782:=fun w=>by kernel_rfl
end Bs.Hd
namespace Bs
noncomputable def Bd (n:Nat) (x:Int):Prop:=x.natAbs<2 ^ n
theorem Bd.mono {m n:Nat} {x:Int} (h:Bd m x) (hn:m≤n):Bd n x:=Nat.lt_of_lt_of_le h (Nat.pow_le_pow_right (by decide) hn)
theorem Bd.le {n:Nat} {x y:Int} (h:Bd n x) (hy:y.natAbs≤x.natAbs):Bd n y:=Nat.lt_of_le_of_lt hy h
theorem Bd.neg {n:Nat} {x:Int} (h:Bd n x):Bd n (-x):=by unfold Bd at *;rw [Int.natAbs_neg];exact h
theorem Bd.add {n:Nat} {x y:Int} (h:Bd n x) (h':Bd n y):Bd (n+1) (x+y):=by
  unfold Bd at *
  have:=Int.natAbs_add_le x y
  rw [Nat.pow_succ]
  omega
theorem Bd.mul {m n:Nat} {x y:Int} (h:Bd m x) (h':Bd n y):Bd (m+n) (x*y):=by
  unfold Bd at *
  rw [Int.natAbs_mul,Nat.pow_add]
  exact Nat.mul_lt_mul'' h h'
theorem Bd.log2 {n:Nat} {x:Int} (h:Bd n x) (hn:0<n):x.natAbs.log2<n:=by
  unfold Bd at h
  rcases Nat.eq_zero_or_pos x.natAbs with h0 | hp
  · rw [h0];simpa using hn
  · exact (Nat.log2_lt (Nat.ne_of_gt hp)).mpr h
structure Low (t d:Int):Prop where
  pos:0<d
  one:Int.gcd t d=1
theorem qf7 (a b:Int):Int.gcd b (a.fmod b)=Int.gcd a b:=by
  have e:a.fmod b=a - b*a.fdiv b:=Int.fmod_def a b
  rw [e]
  apply Nat.dvd_antisymm
  · apply Int.dvd_gcd
    · have h1:=Int.gcd_dvd_left b (a - b*a.fdiv b)
      have h2:=Int.gcd_dvd_right b (a - b*a.fdiv b)
      have h3:=Int.dvd_add h2 (Int.dvd_mul_of_dvd_left (c:=a.fdiv b) h1)
      rw [Int.sub_add_cancel] at h3
      exact h3
    · exact Int.gcd_dvd_left b _
  · apply Int.dvd_gcd
    · exact Int.gcd_dvd_right a b
    · exact Int.dvd_sub (Int.gcd_dvd_left a b) (Int.dvd_mul_of_dvd_left (Int.gcd_dvd_right a b))
theorem qf8 (a:Int) {b:Int} (h:0≤b):Int.gcd b (a % b)=Int.gcd a b:=by
  rw [← Int.fmod_eq_emod_of_nonneg a h,qf7]
theorem qhv (a:Int) {b:Int} (h:b≠0):(a.fmod b).natAbs<b.natAbs:=by
  rcases Int.lt_or_gt_of_ne h with hb | hb
  · rw [Int.fmod_eq_emod]
    have h1:=Int.emod_nonneg a h
    have h2:=Int.emod_lt a h
    split
    · rename_i h'
      rcases h' with h' | h'
      · omega
      · have:a % b=0:=Int.emod_eq_zero_of_dvd h'
        omega
    · rename_i h'
      have:a % b≠0:=fun z=>h' (.inr (Int.dvd_of_emod_eq_zero z))
      omega
  · rw [Int.fmod_eq_emod_of_nonneg a (Int.le_of_lt hb)]
    have h1:=Int.emod_nonneg a h
    have h2:=Int.emod_lt_of_pos a hb
    omega
theorem qcl {a b s:Int} (hb:b≠0) (hs:s=if b<0 then -((Int.gcd a b:Nat):Int) else ((Int.gcd a b:Nat):Int)) :
    s≠0∧s.natAbs≤b.natAbs∧Low (a.fdiv s) (b.fdiv s)∧a.fdiv s*b=a*b.fdiv s∧(a.fdiv s).natAbs≤a.natAbs∧(b.fdiv s).natAbs≤b.natAbs:=by
  have g0:0<Int.gcd a b:=Int.gcd_pos_of_ne_zero_right a hb
  have sn:s.natAbs=Int.gcd a b:=by rw [hs];split <;> simp
  have s0:s≠0:=by intro z;rw [z] at sn;simp at sn;omega
  have da:s∣a:=by
    rw [← Int.natAbs_dvd,sn];exact Int.gcd_dvd_left a b
  have db:s∣b:=by
    rw [← Int.natAbs_dvd,sn];exact Int.gcd_dvd_right a b
  obtain ⟨t,rfl⟩:=da
  obtain ⟨d,rfl⟩:=db
  rw [Int.mul_fdiv_cancel_left _ s0,Int.mul_fdiv_cancel_left _ s0]
  have d0:d≠0:=by rintro rfl;simp at hb
  have sp:1≤s.natAbs:=by omega
  have gd:Int.gcd t d=1:=by
    rw [Int.gcd_mul_left] at sn
    have h2:s.natAbs*Int.gcd t d=s.natAbs*1:=by omega
    exact Nat.eq_of_mul_eq_mul_left sp h2
  have dp:0<d:=by
    by_cases h:s*d<0
    · rw [if_pos h] at hs
      have sneg:s<0:=by omega
      rcases Int.lt_or_gt_of_ne d0 with h' | h'
      · have:=Int.mul_pos_of_neg_of_neg sneg h';omega
      · exact h'
    · rw [if_neg h] at hs
      have spos:0<s:=by omega
      rcases Int.lt_or_gt_of_ne d0 with h' | h'
      · have:=Int.mul_neg_of_pos_of_neg spos h';omega
      · exact h'
  have le1:∀ y:Int,y.natAbs≤(s*y).natAbs:=fun y=>by
    rw [Int.natAbs_mul];exact Nat.le_mul_of_pos_left _ sp
  refine ⟨s0,?_,⟨dp,gd⟩,?_,le1 t,le1 d⟩
  · rw [Int.natAbs_mul];exact Nat.le_mul_of_pos_right _ (by omega)
  · grind
theorem qfF {a b:Int} (hb:0<b):Low (a / ((Int.gcd a b:Nat):Int)) (b / ((Int.gcd a b:Nat):Int))∧(a / ((Int.gcd a b:Nat):Int)).natAbs≤a.natAbs∧(b / ((Int.gcd a b:Nat):Int)).natAbs≤b.natAbs∧0<((Int.gcd a b:Nat):Int)∧((Int.gcd a b:Nat):Int)≤b:=by
  have g0:0<Int.gcd a b:=Int.gcd_pos_of_ne_zero_right a (by omega)
  obtain ⟨_,h1,h2,h3,h4,h5⟩:=qcl (a:=a) (b:=b) (s:=((Int.gcd a b:Nat):Int)) (by omega) (by rw [if_neg (by omega)])
  rw [Int.fdiv_eq_ediv_of_nonneg _ (by omega),Int.fdiv_eq_ediv_of_nonneg _ (by omega)] at h2
  rw [Int.fdiv_eq_ediv_of_nonneg _ (by omega)] at h4 h5
  exact ⟨h2,h4,h5,by omega,by omega⟩
end Bs
namespace Bs
open PySem L2
noncomputable def qmG (_ j:Int):Prop:=0<j∧Bd 9000 j
noncomputable def qmH (_ j:Int):Prop:=j≠0∧Bd 9000 j
noncomputable def qlU (i j:Int):Prop:=0≤j∧j≤1000000∧i.natAbs<2 ^ 64
noncomputable abbrev qjm:R2:=rI0 fun i j=>.int (i+j)
noncomputable abbrev qmj:R2:=rI0 fun i j=>.int (i - j)
noncomputable abbrev qeM:R2:=rI IntMulOk fun i j=>.int (i*j)
noncomputable abbrev qjU:R2:=rI qmG fun i j=>.int (i / j)
noncomputable abbrev qlV:R2:=rI qmH fun i j=>.int (i.fdiv j)
noncomputable abbrev qiq:R2:=rI (fun _ j=>0<j) fun i j=>.int (i % j)
noncomputable abbrev qkY:R2:=rI (fun _ j=>j≠0) fun i j=>.int (i.fmod j)
noncomputable abbrev qlW:R2:=rI qlU fun i j=>.int (i ^ j.toNat)
noncomputable abbrev iLt:R2:=rI0 fun i j=>.bl (decide (i<j))
noncomputable abbrev iLe:R2:=rI0 fun i j=>.bl (decide (i≤j))
noncomputable abbrev iGt:R2:=rI0 fun i j=>.bl (decide (j<i))
noncomputable abbrev iGe:R2:=rI0 fun i j=>.bl (decide (j≤i))
noncomputable abbrev qiF:V→Hp→VK→Prop:=rU fun i=>.int (-i)
noncomputable def gT:R2:=fun x y H Q=>∃ p i xs v,x=.ref p∧y=.int i∧H p=some (.tup xs)∧atI xs i=some v∧Q v H
noncomputable def gL:R2:=fun x y H Q=>∃ p i xs v,x=.ref p∧y=.int i∧H p=some (.lst xs)∧atI xs i=some v∧Q v H
noncomputable def gS (K:W.Frag):R2:=fun x y H Q=>∃ p i xs v,x=.ref p∧y=.int i∧SqL K H p xs∧atI xs i=some v∧Q v H
noncomputable def qkz:List V→Hp→VK→Prop:=fun xs H Q=>∃ i,xs=[.int i]∧Q (.int (if i<0 then -i else i)) H
noncomputable def qmI:List V→Hp→VK→Prop:=fun xs H Q=>∃ i j,xs=[.int i,.int j]∧Q (.int (if j > i then j else i)) H
noncomputable def qmJ:List V→Hp→VK→Prop:=fun xs H Q=>∃ i j,xs=[.int i,.int j]∧Q (.int (if j<i then j else i)) H
noncomputable def qlX:List V→Hp→VK→Prop:=fun xs H Q=>∃ k,xs=[.bl k]∧Q (.int (if k=true then 1 else 0)) H
noncomputable def qhw:List V→Hp→VK→Prop:=fun xs H Q=>∃ p ys,xs=[.ref p]∧H p=some (.tup ys)∧Q (.int ys.length) H
noncomputable def qlY:List V→Hp→VK→Prop:=fun xs H Q=>∃ p ys,xs=[.ref p]∧H p=some (.lst ys)∧Q (.int ys.length) H
noncomputable def qjV (K:W.Frag):List V→Hp→VK→Prop:=fun xs H Q=>∃ p ys,xs=[.ref p]∧SqL K H p ys∧Q (.int ys.length) H
noncomputable def qkZ:Option HO→String→Option Bool
  | some (.tup _),n=>if n = "tuple" then some true else if n = "bool" ∨ n = "int" ∨ n = "list" then some false else none
  | some (.lst _),n=>if n = "list" then some true else if n = "bool" ∨ n = "int" ∨ n = "tuple" then some false else none
  | _,_=>none
noncomputable def qjn (H:Hp):V→String→Option Bool
  | .int _,n=>if n = "int" then some true else if n = "bool" ∨ n = "tuple" ∨ n = "list" then some false else none
  | .bl _,n=>if n = "int" ∨ n = "bool" then some true else if n = "tuple" ∨ n = "list" then some false else none
  | .ref p,n=>qkZ (H p) n
  | _,_=>none
noncomputable def qjo:List V→Hp→VK→Prop:=fun xs H Q=>∃ x n b,xs=[x,.ty n]∧qjn H x n=some b∧Q (.bl b) H
theorem qjW (H:Hp) (i:Int):qjn H (.int i) "int" = some true:=rfl
theorem qfh (H:Hp) (i:Int):qjn H (.int i) "bool" = some false:=rfl
theorem qk0 (H:Hp) (b:Bool):qjn H (.bl b) "bool" = some true:=rfl
theorem qeN {H:Hp} {p:Addr} {xs:List V} (h:H p=some (.tup xs)):qjn H (.ref p) "tuple" = some true:=by
  show qkZ (H p) "tuple" = _
  rw [h];rfl
noncomputable def qk1:V→Bool
  | .int _=>true
  | _=>false
noncomputable def eqJ (xs ys:List V) (j:Nat):Bool:=match xs[j]?,ys[j]? with
  | some (.int a),some (.int b)=>a == b
  | _,_=>false
theorem qdP {xs:List V} {j:Nat} (h:xs.all qk1=true) (hj:j<xs.length):∃ a,xs[j]?=some (.int a):=by
  have m:=List.all_eq_true.mp h xs[j] (List.getElem_mem hj)
  rw [List.getElem?_eq_getElem hj]
  generalize xs[j]=v at m
  cases v with
  | int a=>exact ⟨a,rfl⟩
  | _=>exact absurd m Bool.false_ne_true
theorem qjX {xs ys:List V} (hx:xs.all qk1=true) (hy:ys.all qk1=true):((List.range (min xs.length ys.length)).all (eqJ xs ys) && xs.length == ys.length)=decide (xs=ys):=by
  rw [Bool.eq_iff_iff]
  simp only [Bool.and_eq_true,List.all_eq_true,List.mem_range,beq_iff_eq,decide_eq_true_eq]
  constructor
  · rintro ⟨h1,h2⟩
    apply List.ext_getElem?
    intro j
    by_cases hj:j<xs.length
    · obtain ⟨a,ea⟩:=qdP hx hj
      obtain ⟨b,eb⟩:=qdP hy (by omega:j<ys.length)
      have h:=h1 j (by omega)
      unfold eqJ at h
      rw [ea,eb] at h
      rw [ea,eb,eq_of_beq h]
    · rw [List.getElem?_eq_none (by omega),List.getElem?_eq_none (by omega)]
  · rintro rfl
    refine ⟨fun j hj=>?_,rfl⟩
    obtain ⟨a,ea⟩:=qdP hx (by omega:j<xs.length)
    unfold eqJ
    rw [ea]
    exact beq_self_eq_true a
noncomputable def eqT:R2:=fun x y H Q=>∃ a b xs ys,x=.ref a∧y=.ref b∧H a=some (.tup xs)∧H b=some (.tup ys)∧xs.all qk1=true∧ys.all qk1=true∧Q (.bl (decide (xs=ys))) H
noncomputable def ForR (lo:Int) (n:Nat) (g:TG) (tb:TS) (D:Ends) (σ:St) (H:Hp):Prop:=∃ W:Nat→Nat→St→Hp→Prop,(∃ m,W 0 m σ H)∧∀ i m σ H,W i m σ H→
  ((Itr lo n).stop i H∧D.nx σ H)∨((Itr lo n).go i H∧∃ N:St→Hp→Prop,(∀ σ' H',N σ' H'→∃ m',m'<m∧W (i+1) m' σ' H')∧∀ x H',(Itr lo n).yld i H x H'→g x σ H' fun σ2 H2=>tb { D with nx:=N,ct:=N,bk:=D.nx } σ2 H2)
theorem qjY {ta:TA} {g:TG} {tb:TS} {D:Ends} {σ:St} {H:Hp}:qdJ (qfx ta) g tb D σ H=ta σ H (fun vs H1=>∃ j:Int,vs=[.int j]∧-(2 ^ 62)≤j∧j<2 ^ 62∧ForR 0 j.toNat g tb D σ H1):=rfl
theorem qjZ {ta:TA} {g:TG} {tb:TS} {D:Ends} {σ:St} {H:Hp}:qdJ (qkL ta) g tb D σ H=ta σ H (fun vs H1=>∃ i j:Int,vs=[.int i,.int j]∧(-(2 ^ 62)≤i∧i<2 ^ 62∧-(2 ^ 62)≤j∧j<2 ^ 62)∧ForR i (j - i).toNat g tb D σ H1):=rfl
theorem ForR.by {lo:Int} {n:Nat} {g:TG} {tb:TS} {D:Ends} {σ:St} {H:Hp} (Pv:Nat→St→Hp→Prop) (h0:Pv 0 σ H)
    (hs:∀ i σ H,i<n→Pv i σ H→g (.int (lo+i)) σ H fun σ2 H2=>tb { D with nx:=Pv (i+1),ct:=Pv (i+1),bk:=D.nx } σ2 H2) (hd:∀ σ H,Pv n σ H→D.nx σ H):ForR lo n g tb D σ H:=qhe Pv h0 hs hd
noncomputable def ForT (K:W.Frag) (a:Addr) (g:TG) (tb:TS) (D:Ends) (σ:St) (H:Hp):Prop:=∃ W:Nat→Nat→St→Hp→Prop,(∃ m,W 0 m σ H)∧∀ i m σ H,W i m σ H→
  ((Itt K a).stop i H∧D.nx σ H)∨((Itt K a).go i H∧∃ N:St→Hp→Prop,(∀ σ' H',N σ' H'→∃ m',m'<m∧W (i+1) m' σ' H')∧∀ x H',(Itt K a).yld i H x H'→g x σ H' fun σ2 H2=>tb { D with nx:=N,ct:=N,bk:=D.nx } σ2 H2)
noncomputable def ForL (K:W.Frag) (a:Addr) (g:TG) (tb:TS) (D:Ends) (σ:St) (H:Hp):Prop:=∃ W:Nat→Nat→St→Hp→Prop,(∃ m,W 0 m σ H)∧∀ i m σ H,W i m σ H→
  ((Itl K a).stop i H∧D.nx σ H)∨((Itl K a).go i H∧∃ N:St→Hp→Prop,(∀ σ' H',N σ' H'→∃ m',m'<m∧W (i+1) m' σ' H')∧∀ x H',(Itl K a).yld i H x H'→g x σ H' fun σ2 H2=>tb { D with nx:=N,ct:=N,bk:=D.nx } σ2 H2)
theorem qk2 {K:W.Frag} {tl:TE} {g:TG} {tb:TS} {D:Ends} {σ:St} {H:Hp}:qdJ (qit K tl) g tb D σ H=tl σ H (fun x H1=>∃ a,x=.ref a∧(∃ xs,SqT K H1 a xs)∧ForT K a g tb D σ H1):=rfl
theorem qk3 {K:W.Frag} {tl:TE} {g:TG} {tb:TS} {D:Ends} {σ:St} {H:Hp}:qdJ (qb6 K tl) g tb D σ H=tl σ H (fun x H1=>∃ a,x=.ref a∧(∃ xs,SqL K H1 a xs)∧ForL K a g tb D σ H1):=rfl
theorem ForT.by {K:W.Frag} {a:Addr} {xs:List V} {g:TG} {tb:TS} {D:Ends} {σ:St} {H:Hp} (Pv:Nat→St→Hp→Prop) (h0:Pv 0 σ H) (hl:∀ i σ H,i≤xs.length→Pv i σ H→H a=some (.tup xs))
    (hs:∀ i x σ H,xs[i]?=some x→Pv i σ H→g x σ H fun σ2 H2=>tb { D with nx:=Pv (i+1),ct:=Pv (i+1),bk:=D.nx } σ2 H2) (hd:∀ σ H,Pv xs.length σ H→D.nx σ H):ForT K a g tb D σ H:=
  qjJ Pv h0 (fun i σ H h p=>SqT.of (hl i σ H h p)) hs hd
theorem ForL.by {K:W.Frag} {a:Addr} {xs:List V} {g:TG} {tb:TS} {D:Ends} {σ:St} {H:Hp} (Pv:Nat→St→Hp→Prop) (h0:Pv 0 σ H) (hl:∀ i σ H,i≤xs.length→Pv i σ H→SqL K H a xs)
    (hs:∀ i x σ H,xs[i]?=some x→Pv i σ H→g x σ H fun σ2 H2=>tb { D with nx:=Pv (i+1),ct:=Pv (i+1),bk:=D.nx } σ2 H2) (hd:∀ σ H,Pv xs.length σ H→D.nx σ H):ForL K a g tb D σ H:=
  qiv Pv h0 hl hs hd
theorem while_by {c:TT} {tb:TS} {D:Ends} {σ:St} {H:Hp} (W:Nat→St→Hp→Prop) (m:Nat) (h0:W m σ H)
    (hs:∀ m σ H,W m σ H→c σ H fun b H1=>if b=true then ∃ N:St→Hp→Prop,(∀ σ' H',N σ' H'→∃ m',m'<m∧W m' σ' H')∧tb { D with nx:=N,ct:=N,bk:=D.nx } σ H1 else D.nx σ H1):qdb c tb D σ H:=⟨W,⟨m,h0⟩,hs⟩
theorem qiG {t u:TS} {D:Ends} {σ:St} {H:Hp} (h:t { D with nx:=u D } σ H):qaG t u D σ H:=h
noncomputable def Kp (p:Addr) (H H':Hp):Prop:=∀ b o,b≠p→H b=some o→H' b=some o
theorem Kp.trans {p:Addr} {H H1 H2:Hp} (a:Kp p H H1) (b:Kp p H1 H2):Kp p H H2:=fun c o n h=>b c o n (a c o n h)
theorem Kp.same {p:Addr} {H H1 H2:Hp} (a:Kp p H H1) (b:Same H1 H2):Kp p H H2:=fun c o n h=>b c o (a c o n h)
theorem Kp.upd {p:Addr} {H:Hp} {o:HO}:Kp p H (upd H p o):=fun b u n h=>by rw [qai n];exact h
theorem qaf {H:Hp} {p:Addr} (h:H p=none) (o:HO):Same H (upd H p o):=fun b u q=>by rw [qai (qah q h)];exact q
theorem Kp.new {p:Addr} {H H1:Hp} (a:Kp p H H1) (h:H p=none):Same H H1:=fun b o q=>a b o (qah q h) q
theorem Kp.seq {K:W.Frag} {p:Addr} {H H':Hp} {a:Addr} {xs:List V} (e:Kp p H H') (n:a≠p) (h:SqL K H a xs):SqL K H' a xs:=by
  rcases h with (h | ⟨o,h⟩) | h
  · exact .inl (.inl (e _ _ n h))
  · exact .inl (.inr ⟨o,e _ _ n h⟩)
  · exact .inr h
theorem sz {n:Nat} (h:n≤1000000):n≤sizeLine:=by rw [sizeLine_eq];omega
end Bs
namespace Bs
open PySem L2
theorem qiH {α:Type} (a b:α):atI [a,b] 0=some a:=rfl
theorem qiI {α:Type} (a b:α):atI [a,b] 1=some b:=rfl
theorem qgE {α:Type} (a b c:α):atI [a,b,c] 0=some a:=rfl
theorem qgF {α:Type} (a b c:α):atI [a,b,c] 1=some b:=rfl
theorem qgG {α:Type} (a b c:α):atI [a,b,c] 2=some c:=rfl
theorem qj0 (a b:Int):scal (.int a) (.int b)=true:=rfl
theorem qj1 (a b:Bool):scal (.bl a) (.bl b)=true:=rfl
theorem qgH:ixN 3 0=some 0:=rfl
theorem qgI:ixN 3 2=some 2:=rfl
end Bs
namespace Bs
open PySem PySem.Spec PyProof.Rows L2
theorem qf9:bootBuiltins "abs" = some (.builtin "abs"):=by decide +kernel
theorem qga:bootBuiltins "len" = some (.builtin "len"):=by decide +kernel
theorem qaP:bootBuiltins "isinstance" = some (.builtin "isinstance"):=by decide +kernel
theorem qk4:bootBuiltins "int" = some (.type "int"):=by decide +kernel
theorem qj2:bootBuiltins "bool" = some (.type "bool"):=by decide +kernel
theorem qcm:bootBuiltins "tuple" = some (.type "tuple"):=by decide +kernel
theorem qfG:bootBuiltins "list" = some (.type "list"):=by decide +kernel
theorem qdf:bootBuiltins "enumerate" = some (.type "enumerate"):=by decide +kernel
section
variable {X:Cx}
theorem qhx {n:Nat} {x:Int} (h:Bd n x):Builtin.Int.intBits x≤n:=by
  unfold Builtin.Int.intBits
  split
  · exact Nat.zero_le _
  · rename_i h0
    have hn:x.natAbs≠0:=fun z=>h0 (by have e:x=0:=by omega
                                      subst e;rfl)
    have:=(Nat.log2_lt hn).mpr h
    omega
theorem qaN:OpR X (binaryOp .Mult) qeM:=opI fun _ _ _ _ _ _ _ hc q=>mul_int q hc
theorem qiJ:OpR X (binaryOp .FloorDiv) qjU:=opI fun i j _ _ _ _ _ hc q=>by
  refine floordiv_int (Int.ne_of_gt hc.1) ?_ (.inl (PyProof.noPylong_of_log2 (hc.2.log2 (by decide))))
  rw [Int.fdiv_eq_ediv_of_nonneg i (Int.le_of_lt hc.1)]
  exact q
theorem qj3:OpR X (binaryOp .Pow) qlW:=opI fun _ _ _ _ _ _ _ hc q=>pow_int_small hc.1 hc.2.1 hc.2.2 q
theorem qaj:IxR X gT:=by
  intro value slice pins s σ H x y v u Q I rx ry h hs
  obtain ⟨p,i,xs,w,e1,e2,hp,ha,q⟩:=h
  exact qkR value slice pins s σ H x y v u Q I rx ry ⟨p,xs,i,w,e1,e2,SqT.of hp,ha,q⟩ hs
theorem qdQ:IxR X gL:=by
  intro value slice pins s σ H x y v u Q I rx ry h hs
  obtain ⟨p,i,xs,w,e1,e2,hp,ha,q⟩:=h
  exact qho value slice pins s σ H x y v u Q I rx ry ⟨p,xs,i,w,e1,e2,SqL.of hp,ha,q⟩ hs
theorem qhy:IxR X (gS X.K):=by
  intro value slice pins s σ H x y v u Q I rx ry h hs
  obtain ⟨p,i,xs,w,e1,e2,hp,ha,q⟩:=h
  exact qho value slice pins s σ H x y v u Q I rx ry ⟨p,xs,i,w,e1,e2,hp,ha,q⟩ hs
theorem qcD:qcA X (.builtin "abs") qkz:=qix
theorem qdR:qcA X (.builtin "len") qhw:=fun pins s σ H xs us Q I r h=>by
  obtain ⟨p,ys,e,hp,q⟩:=h
  exact qdd pins s σ H xs us Q I r ⟨p,ys,e,.inr (SqT.of hp),q⟩
theorem qhz:qcA X (.builtin "len") (qjV X.K):=fun pins s σ H xs us Q I r h=>by
  obtain ⟨p,ys,e,hp,q⟩:=h
  exact qdd pins s σ H xs us Q I r ⟨p,ys,e,.inl hp,q⟩
theorem qk5 (K:W.Frag):PySem.W.kitOne K (.type "int") (.type "bool")=some false:=by kernel_rfl
theorem qk6 (K:W.Frag):PySem.W.kitOne K (.type "int") (.type "tuple")=some false:=by kernel_rfl
theorem qk7 (K:W.Frag):PySem.W.kitOne K (.type "int") (.type "list")=some false:=by kernel_rfl
theorem qk8 (K:W.Frag):PySem.W.kitOne K (.type "bool") (.type "int")=some true:=by kernel_rfl
theorem qk9 (K:W.Frag):PySem.W.kitOne K (.type "bool") (.type "tuple")=some false:=by kernel_rfl
theorem qla (K:W.Frag):PySem.W.kitOne K (.type "bool") (.type "list")=some false:=by kernel_rfl
theorem qlb (K:W.Frag):PySem.W.kitOne K (.type "tuple") (.type "bool")=some false:=by kernel_rfl
theorem qlc (K:W.Frag):PySem.W.kitOne K (.type "tuple") (.type "int")=some false:=by kernel_rfl
theorem qld (K:W.Frag):PySem.W.kitOne K (.type "tuple") (.type "list")=some false:=by kernel_rfl
theorem qle (K:W.Frag):PySem.W.kitOne K (.type "list") (.type "bool")=some false:=by kernel_rfl
theorem qlf (K:W.Frag):PySem.W.kitOne K (.type "list") (.type "int")=some false:=by kernel_rfl
theorem qlg (K:W.Frag):PySem.W.kitOne K (.type "list") (.type "tuple")=some false:=by kernel_rfl
theorem qdx (K:W.Frag) (n:String):PySem.W.kitOne K (.type n) (.type n)=some true:=by
  unfold PySem.W.kitOne
  rw [if_pos (beq_self_eq_true _)]
theorem qj4 {H:Hp} {x:V} {n:String} {b:Bool} (K:W.Frag) (h:qjn H x n=some b):∃ t,TyOf K H x t∧PySem.W.kitOne K t (.type n)=some b:=by
  cases x with
  | int i=>
    refine ⟨_,.int i,?_⟩
    unfold qjn at h
    dsimp only at h
    split at h
    · rename_i e;cases h;subst e;exact qdx K _
    · split at h
      · rename_i e;cases h
        rcases e with rfl | rfl | rfl
        · exact qk5 K
        · exact qk6 K
        · exact qk7 K
      · cases h
  | bl i=>
    refine ⟨_,.bl i,?_⟩
    unfold qjn at h
    dsimp only at h
    split at h
    · rename_i e;cases h
      rcases e with rfl | rfl
      · exact qk8 K
      · exact qdx K _
    · split at h
      · rename_i e;cases h
        rcases e with rfl | rfl
        · exact qk9 K
        · exact qla K
      · cases h
  | ref p=>
    have h':qkZ (H p) n=some b:=h
    cases e:H p with
    | none=>rw [e] at h';cases h'
    | some o=>
      rw [e] at h'
      cases o with
      | tup xs=>
        refine ⟨_,.tup e,?_⟩
        unfold qkZ at h'
        dsimp only at h'
        split at h'
        · rename_i e;cases h';subst e;exact qdx K _
        · split at h'
          · rename_i e;cases h'
            rcases e with rfl | rfl | rfl
            · exact qlb K
            · exact qlc K
            · exact qld K
          · cases h'
      | lst xs=>
        refine ⟨_,.lst e,?_⟩
        unfold qkZ at h'
        dsimp only at h'
        split at h'
        · rename_i e;cases h';subst e;exact qdx K _
        · split at h'
          · rename_i e;cases h'
            rcases e with rfl | rfl | rfl
            · exact qle K
            · exact qlf K
            · exact qlg K
          · cases h'
      | _=>cases h'
  | _=>cases h
theorem qcn:qcA X (.builtin "isinstance") qjo:=fun pins s σ H xs us Q I r h=>by
  obtain ⟨x,n,b,rfl,e,q⟩:=h
  obtain ⟨u,w',rfl,rx,rn⟩:=vals2 r
  have rn':w'=Value.type n:=rn
  subst rn'
  obtain ⟨t,ty,k⟩:=qj4 X.K e
  exact qhl I rx ty k fun tk=>⟨.bl b,H,I.tok tk,rfl,q⟩
theorem qjp (hu:X.A.units<cLine):OpR X (compareOp .Eq) eqT:=by
  intro pins s σ H x y v u Q I rx ry h
  obtain ⟨a,b,xs,ys,rfl,rfl,ha,hb,ix,iy,q⟩:=h
  cases rx
  cases ry
  obtain ⟨its,r1,p1,_⟩:=I.tuple (SqT.of ha)
  obtain ⟨its2,r2,p2,_⟩:=I.tuple (SqT.of hb)
  have l1:its.toArray.size=xs.length:=by rw [List.size_toArray];exact r1.length.symm
  have l2:its2.toArray.size=ys.length:=by rw [List.size_toArray];exact r2.length.symm
  refine SeqAt.eq_tupleAt (e:=eqJ xs ys) p1 p2 hu (fun j h1 h2=>?_) ?_
  · rw [l1] at h1
    rw [l2] at h2
    obtain ⟨i,ei⟩:=qdP ix h1
    obtain ⟨k,ek⟩:=qdP iy h2
    obtain ⟨u1,g1,⟨t1,z1⟩⟩:=r1.get ei
    obtain ⟨u2,g2,⟨t2,z2⟩⟩:=r2.get ek
    have a1:its.toArray[j]=.int i t1:=by
      have z:=(List.getElem?_eq_some_iff.mp g1).2
      simpa [z1] using z
    have a2:its2.toArray[j]=.int k t2:=by
      have z:=(List.getElem?_eq_some_iff.mp g2).2
      simpa [z2] using z
    have e:eqJ xs ys j=(i == k):=by unfold eqJ;rw [ei,ek]
    rw [a1,a2,e]
    exact SeqAt.EqAt.int_int i t1 k t2
  · rw [l1,l2,qjX ix iy]
    exact ⟨.bl (decide (xs=ys)),H,I,rfl,q⟩
end
structure Cal (P:Program) (w:World) (K:W.Frag) (mg:Str→Option Value) (base:Heap) (n:Nat) (x:Str) (ps:List Str) (sp:Sp):Prop where
  ex:∃ (f:Addr) (fd:FuncData),FnOk P w K mg base CX0 n f fd ps sp∧Binds K fd ps []∧PySem.W.keepIn K (.ref f)=true∧mg x=some (.ref f)
theorem Cal.pe {X:Cx} {n m:Nat} {x:Str} {ps:List Str} {sp:Sp} {e:Expr} {es:List Expr} {t:TA} {p pos:Pos} (C:Cal X.prog X.w X.K X.mg X.base n x ps sp) (hr:Room m X.A) (hn:n≤m) (hg:Gl X x) (ha:PA X (e::es) t)
    (hdb:(x == ("__debug__" : Str))=false:=by decide) (he:starEach (e::es) X.env=(false,eval e X.env)::starEach es X.env:=by rfl) (hpl:(backTo pos (starEach es X.env)).any (·.1)=false:=by rfl) :
    PE X (.Call (.Name x p) (e::es) [] pos) (qap sp [] E0 t):=by
  obtain ⟨f,fd,F,b,k,m⟩:=C.ex
  exact qjM F (hr.mono hn) hg m k b .nil qkU ha hdb he hpl
end Bs
namespace Bs
open PySem L2
noncomputable def qb4 (capt:List (Option Nat)) (σ:L2.St):L2.St:=capt.map fun o=>o.bind fun j=>(σ[j]?).join
noncomputable def qbF (wi:TI) (capt:List (Option Nat)) (g:TG) (te:TE):TE:=fun σ H Q=>wi σ H fun J H1=>∃ (n:Nat) (W:Nat→List V→Hp→Prop),W 0 [] H1∧∀ i ys H,W i ys H→i≤n∧ys.length≤sizeLine∧
  ((J.stop i H∧∀ p,H p=none→Q (.ref p) (upd H p (.lst ys)))∨(i<n∧J.go i H∧∀ x H',J.yld i H x H'→g x (qb4 capt σ) H' fun σ2 H2=>te σ2 H2 fun y H3=>W (i+1) (ys++[y]) H3))
noncomputable def CompJ (J:It) (capt:List (Option Nat)) (g:TG) (te:TE) (σ:L2.St) (Q:VK) (H1:Hp):Prop:=∃ (n:Nat) (W:Nat→List V→Hp→Prop),W 0 [] H1∧∀ i ys H,W i ys H→i≤n∧ys.length≤sizeLine∧
  ((J.stop i H∧∀ p,H p=none→Q (.ref p) (upd H p (.lst ys)))∨(i<n∧J.go i H∧∀ x H',J.yld i H x H'→g x (qb4 capt σ) H' fun σ2 H2=>te σ2 H2 fun y H3=>W (i+1) (ys++[y]) H3))
section
variable {K:W.Frag} {ta:TA} {tl:TE} {capt:List (Option Nat)} {g:TG} {te:TE} {σ:L2.St} {H:Hp} {Q:VK}
theorem qiK:qbF (qfx ta) capt g te σ H Q=ta σ H (fun vs H1=>∃ j:Int,vs=[.int j]∧-(2 ^ 62)≤j∧j<2 ^ 62∧CompJ (Itr 0 j.toNat) capt g te σ Q H1):=rfl
theorem qiL:qbF (qkL ta) capt g te σ H Q=ta σ H (fun vs H1=>∃ i j:Int,vs=[.int i,.int j]∧(-(2 ^ 62)≤i∧i<2 ^ 62∧-(2 ^ 62)≤j∧j<2 ^ 62)∧CompJ (Itr i (j - i).toNat) capt g te σ Q H1):=rfl
theorem qj5:qbF (qit K tl) capt g te σ H Q=tl σ H (fun x H1=>∃ a,x=.ref a∧(∃ xs,SqT K H1 a xs)∧CompJ (Itt K a) capt g te σ Q H1):=rfl
theorem qj6:qbF (qb6 K tl) capt g te σ H Q=tl σ H (fun x H1=>∃ a,x=.ref a∧(∃ xs,SqL K H1 a xs)∧CompJ (Itl K a) capt g te σ Q H1):=rfl
theorem CompJ.range {lo:Int} {n:Nat} (W:Nat→List V→Hp→Prop) (h0:W 0 [] H) (hb:∀ i ys H,W i ys H→i≤n∧ys.length≤sizeLine)
    (hs:∀ i ys H,i<n→W i ys H→g (.int (lo+i)) (qb4 capt σ) H fun σ2 H2=>te σ2 H2 fun y H3=>W (i+1) (ys++[y]) H3) (hd:∀ ys H,W n ys H→∀ p,H p=none→Q (.ref p) (upd H p (.lst ys))):CompJ (Itr lo n) capt g te σ Q H:=by
  refine ⟨n,W,h0,fun i ys H w=>⟨(hb i ys H w).1,(hb i ys H w).2,?_⟩⟩
  by_cases h:i<n
  · refine .inr ⟨h,h,fun x H' y=>?_⟩
    obtain ⟨e,y⟩:=y
    subst e y
    exact hs i ys _ h w
  · have e:i=n:=Nat.le_antisymm (hb i ys H w).1 (Nat.not_lt.mp h)
    subst e
    exact .inl ⟨Nat.le_refl _,hd ys H w⟩
theorem CompJ.tup {a:Addr} {xs:List V} (W:Nat→List V→Hp→Prop) (h0:W 0 [] H) (hb:∀ i ys H,W i ys H→i≤xs.length∧ys.length≤sizeLine∧H a=some (.tup xs))
    (hs:∀ i x ys H,xs[i]?=some x→W i ys H→g x (qb4 capt σ) H fun σ2 H2=>te σ2 H2 fun y H3=>W (i+1) (ys++[y]) H3) (hd:∀ ys H,W xs.length ys H→∀ p,H p=none→Q (.ref p) (upd H p (.lst ys))):CompJ (Itt K a) capt g te σ Q H:=by
  refine ⟨xs.length,W,h0,fun i ys H w=>⟨(hb i ys H w).1,(hb i ys H w).2.1,?_⟩⟩
  have q:SqT K H a xs:=SqT.of (hb i ys H w).2.2
  by_cases h:i<xs.length
  · refine .inr ⟨h,⟨xs,xs[i],q,by simp [h]⟩,fun x H' y=>?_⟩
    obtain ⟨e,y⟩:=y
    subst e
    exact hs i x ys _ (y xs q) w
  · have e:i=xs.length:=Nat.le_antisymm (hb i ys H w).1 (Nat.not_lt.mp h)
    subst e
    exact .inl ⟨⟨xs,q,Nat.le_refl _⟩,hd ys H w⟩
theorem CompJ.lst {a:Addr} {xs:List V} (W:Nat→List V→Hp→Prop) (h0:W 0 [] H) (hb:∀ i ys H,W i ys H→i≤xs.length∧ys.length≤sizeLine∧SqL K H a xs)
    (hs:∀ i x ys H,xs[i]?=some x→W i ys H→g x (qb4 capt σ) H fun σ2 H2=>te σ2 H2 fun y H3=>W (i+1) (ys++[y]) H3) (hd:∀ ys H,W xs.length ys H→∀ p,H p=none→Q (.ref p) (upd H p (.lst ys))):CompJ (Itl K a) capt g te σ Q H:=by
  refine ⟨xs.length,W,h0,fun i ys H w=>⟨(hb i ys H w).1,(hb i ys H w).2.1,?_⟩⟩
  have q:SqL K H a xs:=(hb i ys H w).2.2
  by_cases h:i<xs.length
  · refine .inr ⟨h,⟨xs,xs[i],q,by simp [h]⟩,fun x H' y=>?_⟩
    obtain ⟨e,y⟩:=y
    subst e
    exact hs i x ys _ (y xs q) w
  · have e:i=xs.length:=Nat.le_antisymm (hb i ys H w).1 (Nat.not_lt.mp h)
    subst e
    exact .inl ⟨⟨xs,q,Nat.le_refl _⟩,hd ys H w⟩
end
noncomputable def qlh (K:W.Frag) (a:Addr):It:=
  ⟨fun i H=>∃ xs x,SqL K H a xs∧xs[i]?=some x,fun i H v H'=>∃ p x,H p=none∧v=.ref p∧H'=upd H p (.tup [.int i,x])∧∀ xs,SqL K H a xs→xs[i]?=some x,fun i H=>∃ xs,SqL K H a xs∧xs.length≤i⟩
noncomputable def qli (K:W.Frag) (a:Addr):It:=
  ⟨fun i H=>∃ xs x,SqT K H a xs∧xs[i]?=some x,fun i H v H'=>∃ p x,H p=none∧v=.ref p∧H'=upd H p (.tup [.int i,x])∧∀ xs,SqT K H a xs→xs[i]?=some x,fun i H=>∃ xs,SqT K H a xs∧xs.length≤i⟩
noncomputable def qgb (K:W.Frag) (ta:TA):TI:=fun σ H R=>ta σ H fun vs H1=>∃ a,vs=[.ref a]∧(∃ xs,SqL K H1 a xs)∧R (qlh K a) H1
noncomputable def qgc (K:W.Frag) (ta:TA):TI:=fun σ H R=>ta σ H fun vs H1=>∃ a,vs=[.ref a]∧(∃ xs,SqT K H1 a xs)∧R (qli K a) H1
noncomputable def ForJ (J:It) (g:TG) (tb:TS) (D:Ends) (σ:L2.St) (H:Hp):Prop:=∃ W:Nat→Nat→L2.St→Hp→Prop,(∃ m,W 0 m σ H)∧∀ i m σ H,W i m σ H→
  (J.stop i H∧D.nx σ H)∨(J.go i H∧∃ N:L2.St→Hp→Prop,(∀ σ' H',N σ' H'→∃ m',m'<m∧W (i+1) m' σ' H')∧∀ x H',J.yld i H x H'→g x σ H' fun σ2 H2=>tb { D with nx:=N,ct:=N,bk:=D.nx } σ2 H2)
section
variable {K:W.Frag} {ta:TA} {g:TG} {tb:TS} {D:Ends} {σ:L2.St} {H:Hp} {a:Addr} {xs:List V}
theorem qj7:qdJ (qgb K ta) g tb D σ H=ta σ H (fun vs H1=>∃ a,vs=[.ref a]∧(∃ xs,SqL K H1 a xs)∧ForJ (qlh K a) g tb D σ H1):=rfl
theorem qj8:qdJ (qgc K ta) g tb D σ H=ta σ H (fun vs H1=>∃ a,vs=[.ref a]∧(∃ xs,SqT K H1 a xs)∧ForJ (qli K a) g tb D σ H1):=rfl
theorem qiM {capt:List (Option Nat)} {te:TE} {Q:VK}:qbF (qgb K ta) capt g te σ H Q=ta σ H (fun vs H1=>∃ a,vs=[.ref a]∧(∃ xs,SqL K H1 a xs)∧CompJ (qlh K a) capt g te σ Q H1):=rfl
theorem ForJ.enumL (Pv:Nat→L2.St→Hp→Prop) (h0:Pv 0 σ H) (hl:∀ i σ H,i≤xs.length→Pv i σ H→SqL K H a xs)
    (hs:∀ i x p σ H,xs[i]?=some x→Pv i σ H→H p=none→g (.ref p) σ (upd H p (.tup [.int i,x])) fun σ2 H2=>tb { D with nx:=Pv (i+1),ct:=Pv (i+1),bk:=D.nx } σ2 H2) (hd:∀ σ H,Pv xs.length σ H→D.nx σ H):ForJ (qlh K a) g tb D σ H:=by
  refine ⟨fun i m σ H=>m=xs.length - i∧i≤xs.length∧Pv i σ H,⟨xs.length,by simp,Nat.zero_le _,h0⟩,?_⟩
  rintro i m σ H ⟨rfl,hi,pv⟩
  have q:=hl i σ H hi pv
  by_cases lt:i<xs.length
  · refine .inr ⟨⟨xs,xs[i],q,by simp [lt]⟩,Pv (i+1),fun σ' H' p'=>⟨xs.length - (i+1),by omega,rfl,lt,p'⟩,fun x H' y=>?_⟩
    obtain ⟨p,x',hp,rfl,rfl,y⟩:=y
    exact hs i x' p σ _ (y xs q) pv hp
  · have e:i=xs.length:=by omega
    subst e
    exact .inl ⟨⟨xs,q,Nat.le_refl _⟩,hd σ H pv⟩
theorem ForJ.enumT (Pv:Nat→L2.St→Hp→Prop) (h0:Pv 0 σ H) (hl:∀ i σ H,i≤xs.length→Pv i σ H→H a=some (.tup xs))
    (hs:∀ i x p σ H,xs[i]?=some x→Pv i σ H→H p=none→g (.ref p) σ (upd H p (.tup [.int i,x])) fun σ2 H2=>tb { D with nx:=Pv (i+1),ct:=Pv (i+1),bk:=D.nx } σ2 H2) (hd:∀ σ H,Pv xs.length σ H→D.nx σ H):ForJ (qli K a) g tb D σ H:=by
  refine ⟨fun i m σ H=>m=xs.length - i∧i≤xs.length∧Pv i σ H,⟨xs.length,by simp,Nat.zero_le _,h0⟩,?_⟩
  rintro i m σ H ⟨rfl,hi,pv⟩
  have q:SqT K H a xs:=SqT.of (hl i σ H hi pv)
  by_cases lt:i<xs.length
  · refine .inr ⟨⟨xs,xs[i],q,by simp [lt]⟩,Pv (i+1),fun σ' H' p'=>⟨xs.length - (i+1),by omega,rfl,lt,p'⟩,fun x H' y=>?_⟩
    obtain ⟨p,x',hp,rfl,rfl,y⟩:=y
    exact hs i x' p σ _ (y xs q) pv hp
  · have e:i=xs.length:=by omega
    subst e
    exact .inl ⟨⟨xs,q,Nat.le_refl _⟩,hd σ H pv⟩
end
end Bs
namespace Bs
open PySem PySem.Spec PyProof.Rows L2
noncomputable def blk (X:Cx) (N:List Str) (scope:Scope) (cl:List (Str×Addr)) (C:Addr) (s:Shared) (H:Hp) (fp:List Addr):Cx:=
  { X with N:=N,s₀:=s,H₀:=H,env:=compEnvC scope cl C X.env,outer:=X.stack,stack:=X.stack,ex:=fp,fn:=fun _=>false,pn:=[],xe:=fun _ _=>False }
structure BlkOk (X:Cx) (N:List Str) (capt:List (Option Nat)) (scope:Scope) (cl:List (Str×Addr)):Prop where
  kind:scope.kind=.function
  clos:closureFor scope X.env=pure cl
  nocell:∀ y∈scope.names,y.2≠.cell
  names:∀ y∈scope.names,y.2=.local→scope.names.lookup y.1=some .local
  cells:∀ y c,cl.lookup y=some c→X.env.cells.lookup y=some c
  has:∀ y,((relabel scope X.env).names.lookup y=some .cell∨(relabel scope X.env).names.lookup y=some .free)→∃ c,cl.lookup y=some c
  cap:∀ (i:Nat) (x:Str) (j:Nat),N[i]?=some x→capt[i]?=some (some j)→X.N[j]?=some x∧Vis X.env.scope x∧X.env.kindOf x≠some .local∧((relabel scope X.env).names.lookup x=some .cell∨(relabel scope X.env).names.lookup x=some .free)
  len:capt.length=N.length
section
variable {X:Cx} {pins:List (Addr×Obj)} {σ:L2.St} {H:Hp} {s:Shared} {N:List Str} {capt:List (Option Nat)} {scope:Scope} {cl:List (Str×Addr)} {C:Addr} {fp:List Addr}
theorem qhA (B:BlkOk X N capt scope cl) (I:Inv X pins σ H s) (fo:∀ b∈fp,qgt X pins H b) (fl:∀ b∈fp,b<s.heap.objs.size) (hC:s.heap.objs.size≤C):(blk X N scope cl C s H fp).Ok where
  mod:=I.ok.mod
  kind:=B.kind
  glob:=I.ok.glob
  blt:=I.ok.blt
  above:=hC
  inj:=fun x y c h1 h2=>I.ok.inj x y c (B.cells x c h1) (B.cells y c h2)
  has:=fun x h=>B.has x h
  cab:=fun _ _ h=>nomatch h
  hd:=I.ok.hd
  frames:=I.ok.frames
  stk:=.inl rfl
  exf:=fun b hb=>⟨fun e=>absurd (Nat.lt_of_lt_of_le (fl b hb) hC) (by rw [show b=C from e];exact Nat.lt_irrefl _),fun x c e=>(fo b hb).2.2.2.2.1 x c (B.cells x c e)⟩
  bs:=I.bs
  bsz:=Nat.le_trans I.ok.bsz I.sz
  noex:=fun b o e hb=>by
    rcases (fo b hb).2.2.2.1 with z | z
    · exact I.ok.noex b o e z
    · exact absurd (Nat.lt_of_lt_of_le (Heap.lt_size e) (Nat.le_trans I.ok.bsz z)) (Nat.lt_irrefl _)
  exfs:=fun b hb hf=>by
    rcases List.mem_cons.mp (I.stkSub b hf) with z | z
    · exact (fo b hb).2.1 z
    · exact (fo b hb).2.2.1 z
  funs:=I.stack
  frf:=I.stkFree
  seer:=I.ok.seer
  tree:=I.ok.tree
  plr:=I.ok.plr
theorem qhB (B:BlkOk X N capt scope cl) (I:Inv X pins σ H s) (fo:∀ b∈fp,qgt X pins H b) (fl:∀ b∈fp,b<s.heap.objs.size) (hC:s.heap.objs.size≤C) {h1:Heap} {m:Str→Option Value} {tk:Nat}
    (hn:h1.Ns C m) (hk:∀ b o,s.heap.get? b=some o→h1.get? b=some o):Inv (blk X N scope cl C s H fp) [] (qb4 capt σ) H { s with heap:=h1,toks:=tk } where
  ok:=qhA B I fo fl hC
  os:=rfl
  bare:=I.bare
  base:=Un.kept hk
  loc:=by
    refine ⟨m,hn,fun i x v e1 e2 e3=>?_⟩
    have e2':(capt.map fun o=>o.bind fun j=>(σ[j]?).join)[i]?=some (some v):=e2
    rw [List.getElem?_map] at e2'
    cases ec:capt[i]? with
    | none=>rw [ec] at e2';cases e2'
    | some o=>
      rw [ec] at e2'
      cases o with
      | none=>cases e2'
      | some j=>
        have e4:(σ[j]?).join=some v:=Option.some.inj e2'
        obtain ⟨c1,c2,c3,c4⟩:=B.cap i x j e1 ec
        have e5:σ[j]?=some (some v):=by
          cases q:σ[j]? with
          | none=>rw [q] at e4;cases e4
          | some w=>rw [q] at e4;exact congrArg some e4
        obtain ⟨m',_,hl⟩:=I.loc
        obtain ⟨u,r,l⟩:=hl j x v c1 e5 c2
        refine ⟨u,r,.inr ⟨c4,?_⟩⟩
        rcases l with ⟨l,_⟩ | ⟨_,c,lc,ic⟩
        · exact absurd l c3
        · obtain ⟨c',hc'⟩:=B.has x c4
          have:=B.cells x c' hc'
          rw [lc] at this
          cases this
          obtain ⟨o,ho,hd⟩:=ic
          exact ⟨c,hc',o,hk c o ho,hd⟩
  cell:=fun x c e=>by
    obtain ⟨v,o,ho,hd⟩:=I.cell x c (B.cells x c e)
    exact ⟨v,o,hk c o ho,hd⟩
  free:=I.hok.fresh hC
  freeC:=fun x c e=>I.freeC x c (B.cells x c e)
  pin:=fun p hp=>nomatch hp
  hok:=I.hok.kept hk
  len:=by show (capt.map _).length=N.length;rw [List.length_map];exact B.len
theorem qdS {σ6:L2.St} {H7:Hp} {s7:Shared} {pins':List (Addr×Obj)} (B:BlkOk X N capt scope cl) (I:Inv X pins σ H s) (fo:∀ b∈fp,qgt X pins H b) (I7:Inv (blk X N scope cl C s H fp) pins' σ6 H7 s7):Inv (blk X N scope cl C s H fp) pins' (qb4 capt σ) H7 s7:=
  ⟨I7.ok,I7.os,I7.bare,I7.base,by
    obtain ⟨m,hn,_⟩:=I7.loc
    refine ⟨m,hn,fun i x v e1 e2 e3=>?_⟩
    have e2':(capt.map fun o=>o.bind fun j=>(σ[j]?).join)[i]?=some (some v):=e2
    rw [List.getElem?_map] at e2'
    cases ec:capt[i]? with
    | none=>rw [ec] at e2';cases e2'
    | some o=>
      rw [ec] at e2'
      cases o with
      | none=>cases e2'
      | some j=>
        have e4:(σ[j]?).join=some v:=Option.some.inj e2'
        obtain ⟨c1,c2,c3,c4⟩:=B.cap i x j e1 ec
        have e5:σ[j]?=some (some v):=by
          cases q:σ[j]? with
          | none=>rw [q] at e4;cases e4
          | some w=>rw [q] at e4;exact congrArg some e4
        obtain ⟨m',_,hl⟩:=I.loc
        obtain ⟨u,r,l⟩:=hl j x v c1 e5 c2
        refine ⟨u,r,.inr ⟨c4,?_⟩⟩
        rcases l with ⟨l,_⟩ | ⟨_,c,lc,ic⟩
        · exact absurd l c3
        · obtain ⟨c',hc'⟩:=B.has x c4
          have:=B.cells x c' hc'
          rw [lc] at this
          cases this
          obtain ⟨o,ho,hd⟩:=ic
          obtain ⟨sl,hk⟩:=I7.base.any ho (I.freeC x c lc) fun hb=>(fo c hb).2.2.2.2.1 x c lc rfl
          exact ⟨c,hc',_,hk,hd⟩,I7.cell,I7.free,I7.freeC,I7.pin,I7.hok,by show (capt.map _).length=N.length;rw [List.length_map];exact B.len⟩
theorem qco {κ β:Type} [BEq κ] [LawfulBEq κ]:∀ {l:List (κ×β)} {y:κ} {c:β},l.lookup y=some c→(y,c)∈l
  | (k,v)::l,y,c,h=>by
    rw [List.lookup_cons] at h
    cases e:y == k with
    | true=>
      rw [e] at h
      cases h
      rw [eq_of_beq e]
      exact List.mem_cons_self ..
    | false=>
      rw [e] at h
      exact List.mem_cons_of_mem _ (qco h)
theorem BlkOk.of (k:scope.kind=.function) (c:closureFor scope X.env=pure cl) (n1:(scope.names.all fun y=>y.2 != .cell)=true) (n2:(scope.names.all fun y=>y.2 != .local || scope.names.lookup y.1 == some .local)=true)
    (cs:∀ pr∈cl,X.env.cells.lookup pr.1=some pr.2) (hs:((relabel scope X.env).names.all fun pr=>(pr.2 != .cell && pr.2 != .free) || (cl.lookup pr.1).isSome)=true)
    (cp:((List.range N.length).all fun i=>match N[i]?,capt[i]? with
      | some x,some (some j)=>X.N[j]? == some x && (X.env.scope.names.lookup x == some .cell || X.env.scope.names.lookup x == some .free) && ((relabel scope X.env).names.lookup x == some .cell || (relabel scope X.env).names.lookup x == some .free)
      | _,_=>true)=true) (ln:capt.length=N.length):BlkOk X N capt scope cl where
  kind:=k
  clos:=c
  nocell:=fun y hy e=>by
    have z:=List.all_eq_true.mp n1 y hy
    rw [e] at z
    exact absurd z (by decide)
  names:=fun y hy e=>by
    have z:=List.all_eq_true.mp n2 y hy
    rw [e] at z
    simpa using z
  cells:=fun y c h=>cs (y,c) (qco h)
  has:=fun y h=>by
    have m:∃ kd,(y,kd)∈(relabel scope X.env).names∧(kd=.cell∨kd=.free):=by
      rcases h with h | h
      · exact ⟨_,qco h,.inl rfl⟩
      · exact ⟨_,qco h,.inr rfl⟩
    obtain ⟨kd,m,e⟩:=m
    have z:=List.all_eq_true.mp hs _ m
    have z2:(cl.lookup y).isSome=true:=by
      rcases e with rfl | rfl
      · simpa using z
      · simpa using z
    exact Option.isSome_iff_exists.mp z2
  cap:=fun i x j e1 e2=>by
    have li:i<N.length:=(List.getElem?_eq_some_iff.mp e1).1
    have z:=List.all_eq_true.mp cp i (List.mem_range.mpr li)
    rw [e1,e2] at z
    simp only [Bool.and_eq_true,Bool.or_eq_true,beq_iff_eq] at z
    obtain ⟨⟨z1,z2⟩,z3⟩:=z
    refine ⟨z1,.inr z2,fun q=>?_,z3⟩
    have q':X.env.scope.names.lookup x=some .local:=q
    rcases z2 with z2 | z2 <;> (rw [z2] at q';cases q')
  len:=ln
theorem qfH {prog:Program} {w:World} {A:Around} {R:Result→Shared→Prop} {s:Shared} {elt target iter:Expr} {scope:Scope} {pos:Pos} {it acc:Value} {env:Env} (I:Nat→Shared→Prop)
    (turn:∀ n s,I n s→wpAny (model prog w) A (pyNext it) (fun r s₁=>match r with
      | none=>R (.ok .next) s₁
      | some v=>wpAny (model prog w) A (letOwnedTupleGo target it v) (fun _ s₂=>wpAny (model prog w) A (assign target env v) (fun _ s₃=>wpAny (model prog w) A (eval elt env) (fun x s₄=>
          wpAny (model prog w) A (call (.builtin "list.append") [acc,x]) (fun _ s₅=>∃ m,m<n∧I m s₅) (fun _ _=>False) s₄) (fun _ _=>False) s₃) (fun _ _=>False) s₂) (fun _ _=>False) s₁) (fun _ _=>False) s)
    (n:Nat) (h:I n s):codeAny (model prog w) A (.compLoop (.ListComp elt [⟨target,iter,[],0⟩] scope pos) 0 it acc env) R s:=by
  refine codeAny_loop rfl I (fun n s hI=>?_) n h
  show wpAny _ A ((compTurn (.ListComp elt [⟨target,iter,[],0⟩] scope pos) 0 it acc env).onRaise (fun x=>do noteFrame x env;theTreesLotGoes x)) _ _ s
  refine wpAny_noted ?_
  rw [compTurn_list]
  have no:∀ {E':Value→Shared→Prop} (e:Value) (s':Shared),(fun (_:Value) (_:Shared)=>False) e s'→E' e s':=fun _ _ f=>f.elim
  refine wpAny_bind (wpAny_standAt (wpAny_bind (wpAny_mono (turn n s hI) (fun r s₁ h₁=>?_) no)))
  cases r with
  | none=>exact wpAny_pure h₁
  | some v=>
    refine wpAny_bind (wpAny_mono h₁ (fun _ s₂ h₂=>?_) no)
    refine wpAny_bind (wpAny_mono h₂ (fun _ s₃ h₃=>wpAny_bind (wpAny_tests_nil ?_)) no)
    exact wpAny_bind (wpAny_bind (wpAny_mono h₃ (fun x s₄ h₄=>wpAny_bind (wpAny_mono h₄ (fun _ s₅ h₅=>wpAny_pure (wpAny_pure ⟨rfl,h₅⟩)) no)) no))
theorem qfi {elt iter tg:Expr} {pos:Pos} {wi:TI} {g:TG} {te:TE} {pins:List (Addr×Obj)} {s:Shared} {σ:L2.St} {H:Hp} {Q:VK} (RR:Value→Addr→Result→Shared→Prop) (hc:X.calm=true) (B:BlkOk X N capt scope cl) (hi:PI X tg iter wi)
    (hg:∀ C s H fp,PG (blk X N scope cl C s H fp) tg g) (he:∀ C s H fp,PE (blk X N scope cl C s H fp) elt te) (I:Inv X pins σ H s) (h:qbF wi capt g te σ H Q)
    (fin:∀ (D C:Addr) (s4:Shared) (Hq:Hp) (m:Str→Option Value),Inv X pins σ Hq s4→Q (.ref D) Hq→s4.heap.Ns C m→Hq C=none→C≠X.env.locals→X.s₀.heap.objs.size≤C→(∀ x c,X.env.cells.lookup x=some c→c≠C)→(∀ p∈X.pn++pins,p.1≠C)→RR (.ref D) C (.ok .next) s4) :
    wpAny (model X.prog X.w) X.A (eval iter X.env) (fun x s₁=>wpAny (model X.prog X.w) X.A (pyIter x) (fun it s₂=>wpAny (model X.prog X.w) X.A (newList []) (fun acc s₃=>
      wpAny (model X.prog X.w) X.A (newFunctionEnv scope X.env.globals cl [] X.env.qual none .none (some X.env)) (fun cenv s₄=>
        codeAny (model X.prog X.w) X.A (.compStart (.ListComp elt [⟨tg,iter,[],0⟩] scope pos) 0 it acc { cenv with scope:=relabel scope X.env }) (RR acc cenv.locals) s₄) X.xe s₃) X.xe s₂) X.xe s₁) X.xe s:=by
  refine thn (hi pins s σ H _ I h) fun v s1 h1=>thn h1 fun itv s2 h2=>?_
  obtain ⟨it,fp,tn,J,H2,e,I2,T,st2,f2,n0,W,w0,turn⟩:=h2
  subst e
  have fl:∀ b∈fp,b<s2.heap.objs.size:=fun b hb=>by obtain ⟨o,e,_⟩:=T.obj _ _ st2 b hb;exact Heap.lt_size e
  refine wpAny_newObj_type (wpAny_newFunctionEnv B.nocell (by intro y hy;simp at hy) (fun h₁ hns₁ hsb₁=>?_) B.kind)
  dsimp only at hns₁ hsb₁ ⊢
  generalize hG:s2.heap.push { cls:=.type "list", dict:=none,data:=.seq ([]:List Value).toArray }=G at hns₁ hsb₁ ⊢
  have hC:G.objs.size=s2.heap.objs.size+1:=by rw [← hG,Heap.size_push]
  have hCle:s2.heap.objs.size≤G.objs.size:=by rw [hC];exact Nat.le_succ _
  have hDC:s2.heap.objs.size≠G.objs.size:=by rw [hC];exact Nat.ne_of_lt (Nat.lt_succ_self _)
  have old:∀ b o,s2.heap.get? b=some o→h₁.get? b=some o:=fun b o e=>hsb₁.extBut b o (by rw [hC];exact Nat.ne_of_lt (Nat.lt_succ_of_lt (Heap.lt_size e))) (Heap.get?_push_of_some _ (hG ▸ Heap.get?_push_of_some _ e))
  have hacc:h₁.get? s2.heap.objs.size=some { cls:=.type "list", data:=.seq ([]:List Value).toArray }:=hsb₁.extBut _ _ hDC (Heap.get?_push_of_some _ (hG ▸ Heap.get?_push_size _ rfl))
  have ok':=qhA B I2 f2 fl hCle
  have nsD:s2.heap.objs.size∉frs X.stack:=fun hb=>by
    rcases List.mem_cons.mp (I2.stkSub _ hb) with z | z
    · exact absurd I2.lt (by rw [← z];exact Nat.lt_irrefl _)
    · exact I2.nofs (Nat.le_refl _) z
  have ncD:∀ x c,cl.lookup x=some c→c≠s2.heap.objs.size:=fun x c e z=>by
    obtain ⟨v,q⟩:=I2.cell x c (B.cells x c e)
    exact absurd q.lt (by rw [z];exact Nat.lt_irrefl _)
  have nfD:∀ b∈fp,s2.heap.objs.size≠b:=fun b hb z=>absurd (fl b hb) (by rw [← z];exact Nat.lt_irrefl _)
  have I₁:Inv (blk X N scope cl G.objs.size s2 H2 fp) [] (qb4 capt σ) H2 { s2 with heap:=h₁,toks:=s2.toks+([]:List (Str×Value)).length }:=qhB B I2 f2 fl hCle hns₁ old
  have loop:codeAny (model X.prog X.w) X.A (.compLoop (.ListComp elt [⟨tg,iter,[],0⟩] scope pos) 0 (.ref it) (.ref s2.heap.objs.size) (compEnvC scope cl G.objs.size X.env))
      (RR (.ref s2.heap.objs.size) G.objs.size) { s2 with heap:=h₁,toks:=s2.toks+([]:List (Str×Value)).length }:=by
    refine qfH (fun n s'=>∃ (i:Nat) (ys:List V) (its:List Value) (k:Nat) (Hc:Hp),Inv (blk X N scope cl G.objs.size s2 H2 fp) [] (qb4 capt σ) Hc s'∧s'.heap.get? s2.heap.objs.size=some { cls:=.type "list", data:=.seq its.toArray k }∧Vals ys its∧
      Hc s2.heap.objs.size=none∧tn i s'.heap∧(∀ b∈fp,Hc b=none)∧W i ys Hc∧n=n0 - i) ?_ n0 ⟨0,[],[],0,H2,I₁,hacc,.nil,I2.hok.fresh (Nat.le_refl _),T.keep _ _ _ st2 (fun b _ o e=>old b o e),fun b hb=>(f2 b hb).1,w0,rfl⟩
    rintro n s3 ⟨i,ys,its,k,Hc,I3,hD,hv,nD,st3,fr3,w3,en⟩
    obtain ⟨_,hl,step⟩:=turn i ys Hc w3
    have hz:its.toArray.size≤sizeLine:=by rw [List.size_toArray,← hv.length];exact hl
    have I3p:Inv (blk X N scope cl G.objs.size s2 H2 fp) [(s2.heap.objs.size,{ cls:=.type "list", data:=.seq its.toArray k })] (qb4 capt σ) Hc s3:=I3.pins_of fun p hp=>by
      rw [List.mem_singleton] at hp
      subst hp
      exact ⟨hD,nD,hDC,nsD,fun v z=>nomatch z⟩
    have fo3:∀ {Hx:Hp} (_:∀ b∈fp,Hx b=none),∀ b∈fp,qgt (blk X N scope cl G.objs.size s2 H2 fp) [(s2.heap.objs.size,{ cls:=.type "list", data:=.seq its.toArray k })] Hx b:=fun hx b hb=>
      ⟨hx b hb,(ok'.exf b hb).1,ok'.exfs b hb,.inl hb,(ok'.exf b hb).2,fun p hp=>by
        have hp':p∈[((s2.heap.objs.size,{ cls:=.type "list", data:=.seq its.toArray k }):Addr×Obj)]:=hp
        rw [List.mem_singleton] at hp'
        subst hp'
        exact nfD b hb⟩
    rcases step with ⟨stop,q⟩ | ⟨ltn,go,nxt⟩
    · refine thn (T.done (blk X N scope cl G.objs.size s2 H2 fp) rfl rfl rfl hc i _ s3 _ Hc _ I3p (fo3 fr3) st3 stop) fun r s4 ⟨hr,I4⟩=>?_
      subst hr
      have hD4:=(I4.pin (s2.heap.objs.size,{ cls:=.type "list", data:=.seq its.toArray k }) (List.mem_append_right _ (List.mem_singleton.mpr rfl))).1
      obtain ⟨m,hn,_⟩:=I4.loc
      have nDt:∀ b u,Hc b=some u→b≠s2.heap.objs.size:=fun b u e z=>by rw [z,nD] at e;cases e
      have oldC:∀ b o,s2.heap.get? b=some o→b≠s2.heap.objs.size:=fun b o e=>Nat.ne_of_lt (Heap.lt_size e)
      have ub:Un (frs X.stack) fp H2 Hc s2.heap s4.heap:=I4.base
      have cC:∀ b,b<s2.heap.objs.size→b≠G.objs.size:=fun b hb z=>absurd (Nat.lt_of_lt_of_le hb hCle) (by rw [z];exact Nat.lt_irrefl _)
      refine fin _ G.objs.size s4 (upd Hc s2.heap.objs.size (.lst ys)) m ?_ (q _ nD) hn (by rw [qai (fun z=>hDC z.symm)];exact I4.free) (fun z=>cC _ I2.lt z.symm) (Nat.le_trans I2.sz hCle)
        (fun x c e=>by obtain ⟨v,q⟩:=I2.cell x c e;exact cC _ q.lt) fun p hp=>cC _ (Heap.lt_size (I2.pin p hp).1)
      refine I2.call' (ch:=fp) (s':=s4) I4.os ?_ ?_ I4.bare fun b hb=>⟨(f2 b hb).2.2.2.1,(f2 b hb).2.1,(f2 b hb).2.2.2.2.1,(f2 b hb).2.2.2.2.2⟩
      · refine ⟨ub.keep,ub.slot,fun b o e n hx=>?_,ub.there,fun b xs e=>?_,fun b o u e=>?_,fun b ps e=>?_⟩
        · rw [qai (oldC b o e)];exact ub.free b o e n hx
        · have z:=ub.tups b xs e
          rw [qai (nDt b _ z)];exact z
        · have z:=ub.frzs b o u e
          rw [qai (nDt b _ z)];exact z
        · obtain ⟨more,z⟩:=ub.tbls b ps e
          exact ⟨more,by rw [qai (nDt b _ z)];exact z⟩
      · intro b u e
        by_cases hb:b=s2.heap.objs.size
        · subst hb
          rw [qab] at e
          cases e
          exact ⟨hl,its,k,hv,hD4⟩
        · rw [qai hb] at e
          exact (I4.hok b u e).stay (fun c v _ q=>q) (fun c q=>by rw [qai (nDt c _ q)];exact q) fun c xs q=>by rw [qai (nDt c _ q)];exact q
    · refine thn (T.item (blk X N scope cl G.objs.size s2 H2 fp) rfl rfl rfl hc i _ s3 _ Hc _ I3p (fo3 fr3) st3 go) fun r s4 ⟨u,hr,h4⟩=>?_
      subst hr
      refine thn h4 fun _ s5 ⟨x,H5,I5,r5,y5,st5,fr5⟩=>?_
      have I5':=I5.pinned (fo3 fr5) (T.obj _ _ st5)
      refine thn (hg _ _ _ _ _ s5 _ H5 x u _ I5' r5 (nxt x H5 y5)) fun _ s6 ⟨σ6,H6,I6,q6⟩=>?_
      refine thn (he _ _ _ _ _ s6 σ6 H6 _ I6 q6) fun uy s7 ⟨y,H7,I7,r7,w7⟩=>?_
      have pD:=I7.pin (s2.heap.objs.size,{ cls:=.type "list", data:=.seq its.toArray k }) (List.mem_append_right _ (List.mem_append_left _ (List.mem_singleton.mpr rfl)))
      have pF:∀ b∈fp,∀ o,s5.heap.get? b=some o→s7.heap.get? b=some o∧H7 b=none:=fun b hb o e=>by
        have z:=I7.pin (b,o) (List.mem_append_right _ (List.mem_append_right _ (qbE hb e)))
        exact ⟨z.1,z.2.1⟩
      refine append_at (hsz:=hz) pD.1 fun h8 sb8 hD8=>?_
      have I7n:Inv (blk X N scope cl G.objs.size s2 H2 fp) [] σ6 H7 s7:=I7.pins_of fun p hp=>nomatch hp
      have I8:Inv (blk X N scope cl G.objs.size s2 H2 fp) [] σ6 H7 { s7 with heap:=h8,toks:=s7.toks }:=I7n.turned (fun b o hb e=>sb8.extBut b o hb e) pD.2.1 hDC (.inr (Nat.le_refl _)) ncD (fun p hp=>nomatch hp)
      refine ⟨n0 - (i+1),by omega,i+1,ys++[y],its++[uy],k+1,H7,qdS B I2 f2 I8,?_,Paired.snoc hv r7,pD.2.1,T.keep _ _ _ st5 (fun b hb o e=>sb8.extBut b o (nfD b hb).symm (pF b hb o e).1),fun b hb=>?_,w7,rfl⟩
      · show h8.get? _=_
        rw [hD8,List.push_toArray]
      · obtain ⟨o,e,_⟩:=T.obj _ _ st5 b hb
        exact (pF b hb o e).2
  exact codeAny_compStart_list loop (T.self X.A 0 _ _ _ (T.keep _ _ _ st2 (fun b _ o e=>old b o e)) loop)
theorem qeO {elt iter tg:Expr} {pos:Pos} {wi:TI} {g:TG} {te:TE} (hc:X.calm=true) (B:BlkOk X N capt scope cl) (hi:PI X tg iter wi)
    (hg:∀ C s H fp,PG (blk X N scope cl C s H fp) tg g) (he:∀ C s H fp,PE (blk X N scope cl C s H fp) elt te)
    (hs:∀ x,foldedSetIterable iter X.env x=pure x:=by intro _;rfl):PE X (.ListComp elt [⟨tg,iter,[],0⟩] scope pos) (qbF wi capt g te):=by
  intro pins s σ H Q I h
  rw [eval_ListComp]
  refine wpAny_comprehension_free (use:=none) rfl hs B.clos B.kind B.names (qfi (fun acc C=>compPost (model X.prog X.w) X.A X.xe none (EP X pins σ Q) acc C) hc B hi hg he I h fun D C s4 Hq m I4 q hn hf h1 h2 h3 h4=>?_)
  exact ⟨m,hn,fun h' sb=>⟨.ref D,Hq,I4.turned (fun b o hb e=>sb.extBut b o hb e) hf h1 (.inr h2) h3 h4,rfl,q⟩⟩
theorem qhC {i:Nat} {x:Str} {pos' spos:Pos} {elt iter tg:Expr} {pos:Pos} {wi:TI} {g:TG} {te:TE} (hN:X.N.Nodup) (hi':X.N[i]?=some x) (hx:Loc X.env.scope x) (hc:X.calm=true) (B:BlkOk X N capt scope cl) (hi:PI X tg iter wi)
    (hg:∀ C s H fp,PG (blk X N scope cl C s H fp) tg g) (he:∀ C s H fp,PE (blk X N scope cl C s H fp) elt te)
    (hsw:swapsWith (.ListComp elt [⟨tg,iter,[],0⟩] scope pos) (some (.Name x pos')) spos.line X.env=pure true:=by rfl)
    (hs:∀ x,foldedSetIterable iter X.env x=pure x:=by intro _;rfl) (hf:X.fn x=true∨X.env.scope.names.lookup x=some .local:=by first | exact .inl rfl | exact .inr rfl | assumption) :
    PS X (.Assign [.Name x pos'] (.ListComp elt [⟨tg,iter,[],0⟩] scope pos) spos) (qa3 (qbF wi capt g te) (qam i)):=by
  intro pins s σ H D I h
  rw [exec_Assign_Name_used _ _ _ _ hsw]
  refine wpAny_bind (wpAny_standAt (wpAny_bind ?_))
  show wpAny _ X.A (do let _ ← comprehension (.ListComp elt [⟨tg,iter,[],0⟩] scope pos) scope X.env _ (newList []) false (eval iter X.env) (some (assign (.Name x pos') X.env))) _ _ s
  refine wpAny_bind (wpAny_mono (wpAny_comprehension_free (use:=some (assign (.Name x pos') X.env)) (Q:=fun _ s'=>SP X pins D .next s') rfl hs B.clos B.kind B.names
    (qfi (fun acc C=>compPost (model X.prog X.w) X.A X.xe (some (assign (.Name x pos') X.env)) (fun _ s'=>SP X pins D .next s') acc C) hc B hi hg he I h fun Da C s4 Hq m I4 q hn hfr h1 h2 h3 h4=>?_)) (fun _ s' hq=>wpAny_pure (wpAny_pure hq)) fun _ _ e=>e)
  show wpAny _ X.A (assign (.Name x pos') X.env (.ref Da)) _ _ _
  refine wpAny_assign_Name (qdE I4 hN hi' hx (v:=.ref Da) rfl (fun s5 I5 ⟨a,sb5,ha⟩=>⟨m,hn.sameBut sb5 ?_,fun h' sb=>⟨_,_,I5.turned (fun b o hb e=>sb.extBut b o hb e) hfr h1 (.inr h2) h3 h4,q⟩⟩) hf)
  rcases ha with z | z
  · rw [z];exact h1
  · exact fun e=>h3 x a z e.symm
end
end Bs
namespace Bs
open PySem PySem.Spec PyProof.Rows L2
open PySem.AutoSeq1 (wpAny_loadPart')
section
variable {prog:Program} {w:World} {A:Around} {E:Value→Shared→Prop} {s:Shared} {e it t:Addr} {i:Nat} {zs:Array Value}
theorem qgJ {x:Value} {Q:Value→Shared→Prop} (si:s.heap.IsTupleIter it t i) (st:s.heap.IsTuple t zs) (hx:zs[i]?=some x)
    (hQ:∀ g,g.IsTupleIter it t (i+1)→Heap.SameBut it s.heap g→Q x { s with heap:=g }):wpAny (model prog w) A (Builtin.SmallTypes.nextOf (.ref it)) Q E s:=by
  obtain ⟨oi,gi,ci,di⟩:=id si
  obtain ⟨ot,gt,_,kt,dt⟩:=st
  unfold Builtin.SmallTypes.nextOf
  refine wpAny_bind (wpAny_callSpecial?_slot (name:=Str.ofString "__next__") si.typeIs F.slot_tuple_iterator_next (wpAny_call_entry F.slot_tuple_iterator_next si.typeIs F.entry_tuple_iterator_next ?_ (F.args_tuple_iterator_next_1 _)))
  show wpAny _ _ (field (.ref it) 0 >>= _) _ _ s
  refine wpAny_bind (wpAny_field gi di (x:=.ref t) rfl ?_)
  show wpAny _ _ (if (Value.ref t == Value.none)=true then _ else _) _ _ s
  rw [if_neg (fun q:(Value.ref t == Value.none)=true=>Bool.false_ne_true q)]
  show wpAny _ _ (field (.ref it) 1 >>= _) _ _ s
  refine wpAny_bind (wpAny_field gi di (x:=.int i 0) rfl ?_)
  show wpAny _ _ (seqItems? (.ref t) >>= _) _ _ s
  refine wpAny_bind (wpAny_seqItems gt dt ?_)
  simp only [Int.toNat_natCast,hx]
  refine wpAny_bind (wpAny_setField gi di (by simp) (wpAny_pure ⟨x,rfl,wpAny_pure (hQ _ ⟨_,Heap.get?_update_self _ gi (Obj.isFreed_of_fields (Obj.data_mapFields di _)),(Obj.cls_mapFields ..).trans ci,?_⟩ (Heap.SameBut.update ..))⟩))
  rw [Obj.data_mapFields di]
  simp [rawInt]
theorem qhD {Q:Value→Shared→Prop} (hh:A.handled=none) (si:s.heap.IsTupleIter it t i) (st:s.heap.IsTuple t zs) (hx:zs[i]?=none)
    (hE:∀ g x,Heap.ExtBut it s.heap g→(∃ o,g.get? x=some o∧o.cls=.type "StopIteration")→E (.ref x) { s with heap:=g }):wpAny (model prog w) A (Builtin.SmallTypes.nextOf (.ref it)) Q E s:=by
  obtain ⟨oi,gi,ci,di⟩:=id si
  obtain ⟨ot,gt,_,kt,dt⟩:=st
  unfold Builtin.SmallTypes.nextOf
  refine wpAny_bind (wpAny_callSpecial?_slot (name:=Str.ofString "__next__") si.typeIs F.slot_tuple_iterator_next (wpAny_call_entry F.slot_tuple_iterator_next si.typeIs F.entry_tuple_iterator_next ?_ (F.args_tuple_iterator_next_1 _)))
  show wpAny _ _ (field (.ref it) 0 >>= _) _ _ s
  refine wpAny_bind (wpAny_field gi di (x:=.ref t) rfl ?_)
  show wpAny _ _ (if (Value.ref t == Value.none)=true then _ else _) _ _ s
  rw [if_neg (fun q:(Value.ref t == Value.none)=true=>Bool.false_ne_true q)]
  show wpAny _ _ (field (.ref it) 1 >>= _) _ _ s
  refine wpAny_bind (wpAny_field gi di (x:=.int i 0) rfl ?_)
  show wpAny _ _ (seqItems? (.ref t) >>= _) _ _ s
  refine wpAny_bind (wpAny_seqItems gt dt ?_)
  simp only [Int.toNat_natCast,hx]
  refine wpAny_bind (wpAny_rule (wpAny_bind (wpAny_setField gi di (by simp) (wpAny_bind ?_))))
  simp only [newExc,newTuple]
  refine wpAny_bind (wpAny_newObj_type (wpAny_bind (m:=firstArgMember _ _) (wpAny_of_eq (a:=Value.none) (by first | rfl | (simp only [firstArgMember];rfl)) (wpAny_newObj_type ?_ (by size_fits)))) (by size_fits))
  simp only [raiseNew]
  refine wpAny_bind (wpAny_handled ?_)
  first
    | rw [show A.in1.handled=none from hh]
    | rw [hh]
  exact wpAny_bind (wpAny_pure (wpAny_throw (hE _ _ (((Heap.SameBut.update ..).extBut.push _).push _) ⟨_,Heap.get?_push_size _ rfl,rfl⟩)))
theorem qgK {x old:Value} {Q:Value→Shared→Prop} (se:IsEnum s.heap e it i old) (si:s.heap.IsTupleIter it t i) (st:s.heap.IsTuple t zs) (hx:zs[i]?=some x) (ne:e≠it)
    (hQ:∀ g,IsEnumOut g e it ((i:Int)+1) x s.heap.objs.size→g.IsTupleIter it t (i+1)→g.get? s.heap.objs.size=some { cls:=.type "tuple", data:=.seq #[.int i s.toks,x] }→
      (∀ b o,b≠e→b≠it→s.heap.get? b=some o→g.get? b=some o)→Q (.ref s.heap.objs.size) { s with heap:=g,toks:=s.toks+1 }) :
    wpAny (model prog w) A (Builtin.«enumerate.__next__» ⟨[.ref e],[]⟩) (fun fin s'=>∃ v,fin=.done (.ret v)∧Q v s') E s:=by
  obtain ⟨g0,gn,dr,tk,os⟩:=s
  show wpAny _ _ (field (.ref e) 2 >>= _) _ _ _
  refine wpAny_bind (wpAny_field se rfl (x:=.ref it) rfl ?_)
  refine wpAny_bind (qgJ si st hx fun g1 i1 b1=>?_)
  replace b1:Heap.SameBut it g0 g1:=b1
  have e1:IsEnum g1 e it i old:=(b1.2 e ne).trans se
  show wpAny _ _ (field (.ref e) 3 >>= _) _ _ ⟨g1,gn,dr,tk,os⟩
  refine wpAny_bind (wpAny_field e1 rfl (x:=rawInt i) rfl ?_)
  show wpAny _ _ (field (.ref e) 4 >>= _) _ _ ⟨g1,gn,dr,tk,os⟩
  refine wpAny_bind (wpAny_field e1 rfl (x:=.none) rfl ?_)
  show wpAny _ _ (mkInt i >>= _) _ _ ⟨g1,gn,dr,tk,os⟩
  refine wpAny_bind (wpAny_mkInt ?_)
  show wpAny _ _ (setField (.ref e) 3 (rawInt ((i:Int)+1)) >>= _) _ _ ⟨g1,gn,dr,tk+1,os⟩
  refine wpAny_bind (wpAny_setField_rec e1 (by simp) fun g2 e2 b2=>?_)
  replace b2:Heap.SameBut e g1 g2:=b2
  replace e2:IsEnum g2 e it ((i:Int)+1) old:=e2
  show wpAny _ _ (setField (.ref e) 4 .none >>= _) _ _ ⟨g2,gn,dr,tk+1,os⟩
  refine wpAny_bind (wpAny_setField_rec e2 (by simp) fun g3 e3 b3=>?_)
  replace b3:Heap.SameBut e g2 g3:=b3
  replace e3:IsEnum g3 e it ((i:Int)+1) old:=e3
  show wpAny _ _ (newTuple [.int i tk,x] >>= _) _ _ ⟨g3,gn,dr,tk+1,os⟩
  refine wpAny_bind (wpAny_newTuple ?_)
  have e4:IsEnum (g3.push { cls:=.type "tuple", data:=.seq #[.int i tk,x] }) e it ((i:Int)+1) old:=Heap.get?_push_of_some _ e3
  generalize q4:g3.push { cls:=.type "tuple", data:=.seq #[.int i tk,x] }=g4 at e4
  have z3:g3.objs.size=g0.objs.size:=by rw [b3.1,b2.1,b1.1]
  have le:e<g0.objs.size:=Heap.lt_size se
  have t4:g4.get? g0.objs.size=some { cls:=.type "tuple", data:=.seq #[.int i tk,x] }:=by rw [← q4,← z3];exact Heap.get?_push_size _ rfl
  have k4:∀ b o,b≠e→b≠it→g0.get? b=some o→g4.get? b=some o:=fun b o h1 h2 h3=>by
    rw [← q4];exact Heap.get?_push_of_some _ (b3.extBut b o h1 (b2.extBut b o h1 (b1.extBut b o h2 h3)))
  have i4:g4.IsTupleIter it t (i+1):=by
    obtain ⟨o,ho,hr⟩:=i1
    exact ⟨o,by rw [← q4];exact Heap.get?_push_of_some _ (b3.extBut it o ne.symm (b2.extBut it o ne.symm ho)),hr⟩
  show wpAny _ _ (Builtin.SmallTypes.ownedTupleIsFree (.ref e) >>= _) _ _ ⟨g4,gn,dr,tk+1,os⟩
  rw [z3]
  clear q4 e3 b3 e2 b2 e1 b1 i1 z3 g3 g2 g1
  refine wpAny_bind ?_
  unfold Builtin.SmallTypes.ownedTupleIsFree
  refine wpAny_bind (wpAny_field e4 rfl (x:=.none) rfl (wpAny_pure ?_))
  simp only [if_true]
  refine wpAny_bind (wpAny_rule (wpAny_bind (wpAny_field e4 rfl (x:=old) rfl (wpAny_bind (wpAny_setField_rec e4 (by simp) fun g5 e5 b5=>?_)))))
  replace b5:Heap.SameBut e g4 g5:=b5
  replace e5:IsEnum g5 e it ((i:Int)+1) x:=e5
  show wpAny _ _ (Builtin.SmallTypes.ownedTupleHandOut (.ref e) (.ref g0.objs.size) >>= _) _ _ ⟨g5,gn,dr,tk+1,os⟩
  refine wpAny_bind ?_
  unfold Builtin.SmallTypes.ownedTupleHandOut
  refine wpAny_bind (wpAny_setField_rec e5 (by simp) fun g6 e6 b6=>?_)
  replace b6:Heap.SameBut e g5 g6:=b6
  replace e6:IsEnumOut g6 e it ((i:Int)+1) x g0.objs.size:=e6
  refine wpAny_setField_rec e6 (by simp) fun g7 e7 b7=>?_
  replace b7:Heap.SameBut e g6 g7:=b7
  replace e7:IsEnumOut g7 e it ((i:Int)+1) x g0.objs.size:=e7
  have up:∀ b o,b≠e→g4.get? b=some o→g7.get? b=some o:=fun b o h1 h2=>b7.extBut b o h1 (b6.extBut b o h1 (b5.extBut b o h1 h2))
  refine wpAny_bind (wpAny_letGo (wpAny_pure ⟨_,rfl,hQ g7 e7 ?_ (up _ _ (Nat.ne_of_gt le) t4) fun b o h1 h2 h3=>up b o h1 (k4 b o h1 h2 h3)⟩))
  obtain ⟨o,ho,hr⟩:=i4
  exact ⟨o,up it o ne.symm ho,hr⟩
theorem qgL {x old:Value} {Q:Option Value→Shared→Prop} (se:IsEnum s.heap e it i old) (si:s.heap.IsTupleIter it t i) (st:s.heap.IsTuple t zs) (hx:zs[i]?=some x) (ne:e≠it)
    (hQ:∀ g,IsEnumOut g e it ((i:Int)+1) x s.heap.objs.size→g.IsTupleIter it t (i+1)→g.get? s.heap.objs.size=some { cls:=.type "tuple", data:=.seq #[.int i s.toks,x] }→
      (∀ b o,b≠e→b≠it→s.heap.get? b=some o→g.get? b=some o)→Q (some (.ref s.heap.objs.size)) { s with heap:=g,toks:=s.toks+1 }):wpAny (model prog w) A (pyNext (.ref e)) Q E s:=by
  have ty:s.TypeIs (.ref e) "enumerate" := ⟨_,se,rfl⟩
  unfold pyNext
  exact wpAny_bind (wpAny_attempt (wpAny_callSpecial?_slot (name:=Str.ofString "__next__") ty F.slot_enumerate_next (wpAny_call_entry F.slot_enumerate_next ty F.entry_enumerate_next (qgK se si st hx ne fun g a b c k=>wpAny_pure (hQ g a b c k)) (F.args_enumerate_next_1 _))))
theorem qhE {old:Value} {Q:Option Value→Shared→Prop} (hh:A.handled=none) (se:IsEnum s.heap e it i old) (si:s.heap.IsTupleIter it t i) (st:s.heap.IsTuple t zs) (hx:zs[i]?=none)
    (hQ:∀ g,Heap.ExtBut it s.heap g→Q none { s with heap:=g }):wpAny (model prog w) A (pyNext (.ref e)) Q E s:=by
  have ty:s.TypeIs (.ref e) "enumerate" := ⟨_,se,rfl⟩
  unfold pyNext
  refine wpAny_bind (wpAny_attempt (wpAny_callSpecial?_slot (name:=Str.ofString "__next__") ty F.slot_enumerate_next (wpAny_call_entry F.slot_enumerate_next ty F.entry_enumerate_next ?_ (F.args_enumerate_next_1 _))))
  show wpAny _ _ (field (.ref e) 2 >>= _) _ _ _
  refine wpAny_bind (wpAny_field se rfl (x:=.ref it) rfl (wpAny_bind (qhD hh si st hx fun g x eb ⟨o,ho,hc⟩=>?_)))
  exact wpAny_bind (wpAny_isInstance (T := "StopIteration") (b:=true) ⟨o,ho,hc⟩ isSubtype_stop (wpAny_pure (hQ _ eb)))
theorem qfI (n:Nat) (dct:Option Addr) (sl:Array (Option Value)) :
    Meets (Builtin.«enumerate.__new__» ⟨[.type "enumerate", .ref t],[]⟩) (fun _ R s=>s.heap.get? t=some { cls:=.type "tuple", dict:=dct,data:=.seq zs n,slots:=sl }∧
      R (.ok (.ret (.ref (s.heap.push { cls:=.type "tuple_iterator", data:=.fields #[.ref t,.int 0 0] }).objs.size)))
        { s with heap:=(s.heap.push { cls:=.type "tuple_iterator", data:=.fields #[.ref t,.int 0 0] }).push { cls:=.type "enumerate", data:=.fields #[.none,.bool false,.ref s.heap.objs.size,rawInt 0,.none,.none] } }):=
  .of_wp fun prog w A R s h=>by
    obtain ⟨g0,gn,dr,tk,os⟩:=s
    obtain ⟨ht,h⟩:=h
    have hsub:=sub_enumerate
    have hT:Heap.IsTuple (Shared.heap ⟨g0,gn,dr,tk,os⟩) t zs:=⟨_,ht,rfl,n,rfl⟩
    wp_walk using wpAny_loadPart' ht
    refine wpAny_stack_any fun st=>wpAny_pure ?_
    split
    · rename_i c _ _ _ _ _
      cases (c == Value.type "enumerate") <;> (wp_walk using wpAny_loadPart' ht,wpAny_pyIter_tuple hT;exact ⟨_,rfl,h⟩)
    · wp_walk using wpAny_loadPart' ht,wpAny_pyIter_tuple hT
      exact ⟨_,rfl,h⟩
theorem qgM {Q:Value→Shared→Prop} (hT:s.heap.IsTuple t zs)
    (h:∀ g,IsEnum g (s.heap.objs.size+1) s.heap.objs.size 0 .none→g.IsTupleIter s.heap.objs.size t 0→(∀ b o,s.heap.get? b=some o→g.get? b=some o)→Q (.ref (s.heap.objs.size+1)) { s with heap:=g }) :
    wpAny (model prog w) A (call (.type "enumerate") [.ref t]) Q E s:=by
  obtain ⟨⟨c,dct,da,sl⟩,ht,hc,n,hd⟩:=hT
  replace hc:c=.type "tuple" := hc
  replace hd:da=.seq zs n:=hd
  subst hc hd
  refine callType_new F.called_enumerate (by decide) (F.typeCall_enumerate_1 _) (F.newCall_enumerate_1 _) (fun obj=>F.args_object_init_2 obj _) F.entry_enumerate_new (qfI n dct sl) ⟨ht,?_⟩
  have z1:(s.heap.push { cls:=.type "tuple_iterator", data:=.fields #[.ref t,.int 0 0] }).objs.size=s.heap.objs.size+1:=Heap.size_push ..
  show _∧_
  rw [z1]
  have se:IsEnum ((s.heap.push { cls:=.type "tuple_iterator", data:=.fields #[.ref t,.int 0 0] }).push { cls:=.type "enumerate", data:=.fields #[.none,.bool false,.ref s.heap.objs.size,rawInt 0,.none,.none] }) (s.heap.objs.size+1) s.heap.objs.size 0 .none:=by
    have z:=Heap.get?_push_size (s.heap.push { cls:=.type "tuple_iterator", data:=.fields #[.ref t,.int 0 0] }) (o:={ cls:=.type "enumerate", data:=.fields #[.none,.bool false,.ref s.heap.objs.size,rawInt 0,.none,.none] }) rfl
    rw [z1] at z
    exact z
  exact ⟨⟨_,se,rfl⟩,h _ se ⟨_,Heap.get?_push_of_some _ (Heap.get?_push_size _ rfl),rfl,rfl⟩ fun b o x=>Heap.get?_push_of_some _ (Heap.get?_push_of_some _ x)⟩
end
section
variable {X:Cx} {pins:List (Addr×Obj)} {σ:L2.St} {H:Hp} {s:Shared}
theorem qgd {e it:Addr} {g:Heap} {tk:Nat} {xs:List V} {its:List Value} (I:Inv X pins σ H s) (fe:qgt X pins H e) (fi:qgt X pins H it) (k:∀ b o,b≠e→b≠it→s.heap.get? b=some o→g.get? b=some o)
    (hz:xs.length≤sizeLine) (rv:Vals xs its) (ht:g.get? s.heap.objs.size=some { cls:=.type "tuple", data:=.seq its.toArray }):Inv X pins σ (upd H s.heap.objs.size (.tup xs)) { s with heap:=g,toks:=tk }:=by
  have nT:H s.heap.objs.size=none:=I.hok.fresh (Nat.le_refl _)
  have old:∀ b o,s.heap.get? b=some o→b≠s.heap.objs.size:=fun b o q=>Nat.ne_of_lt (Heap.lt_size q)
  have tr:∀ b u,H b=some u→b≠s.heap.objs.size∧b≠e∧b≠it:=fun b u q=>⟨qah q nT,qah q fe.1,qah q fi.1⟩
  have off:∀ b,b∉[e,it]→b≠e∧b≠it:=fun b hb=>⟨fun z=>hb (by simp [z]),fun z=>hb (by simp [z])⟩
  refine I.step (g':=s.gens) (d':=s.drawn) (ch:=[e,it]) (fun b hb=>?_) (fun b o _ _ hc q _=>k b o (off b hc).1 (off b hc).2 q) (fun b o _ _ hc q _=>⟨o.slots,k b o (off b hc).1 (off b hc).2 q⟩) (fun b o _ q n=>?_) (fun b o hc q=>⟨o,k b o (off b hc).1 (off b hc).2 q⟩)
    (fun b ys q=>?_) (fun b o u q=>?_) (fun b ps q=>⟨#[],?_⟩) (fun m hm=>?_) (fun b u q=>?_) I.bare
  · have z:b=e∨b=it:=by simpa using hb
    rcases z with rfl | rfl
    · exact ⟨fe.2.2.2.1,fe.2.1,fe.2.2.2.2.1,fe.2.2.2.2.2⟩
    · exact ⟨fi.2.2.2.1,fi.2.1,fi.2.2.2.2.1,fi.2.2.2.2.2⟩
  · rw [qai (old b o q)];exact n
  · rw [qai (tr b _ q).1];exact q
  · rw [qai (tr b _ q).1];exact q
  · rw [qai (tr b _ q).1,q];simp
  · obtain ⟨o,es,ep,ho,hr⟩:=hm
    exact ⟨o,es,ep,k _ o fe.2.1.symm fi.2.1.symm ho,hr⟩
  · by_cases hb:b=s.heap.objs.size
    · subst hb
      rw [qab] at q
      cases q
      exact ⟨hz,its,rv,⟨_,ht,rfl,_,rfl⟩⟩
    · rw [qai hb] at q
      refine (I.hok b u q).stay (fun c v hc z=>?_) (fun c z=>by rw [qai (tr c _ z).1];exact z) fun c ys z=>by rw [qai (tr c _ z).1];exact z
      rcases hc with y | y
      · subst y;exact k _ v (tr _ u q).2.1 (tr _ u q).2.2 z
      · exact k c v (tr c _ y).2.1 (tr c _ y).2.2 z
end
theorem qgN {P:Program} {w:World} {K:W.Frag} {elts:List Expr} {k:Nat} {pos:Pos} (a e it:Addr) (ne:e≠it):Turn P w K (.Tuple elts k pos) (qlh K a) [e,it] e (fun i h=>(∃ old,IsEnum h e it i old)∧h.IsListIter it a i) where
  mem:=by simp
  obj:=fun i h st b hb=>by
    obtain ⟨⟨old,se⟩,o,ho,c,d⟩:=st
    have z:b=e∨b=it:=by simpa using hb
    rcases z with rfl | rfl
    · exact ⟨_,se,fun v z=>nomatch z⟩
    · exact ⟨o,ho,fun v z=>by rw [d] at z;cases z⟩
  keep:=fun i h h' st kk=>⟨let ⟨old,se⟩:=st.1;⟨old,kk e (by simp) _ se⟩,st.2.at fun o q=>kk it (by simp) o q⟩
  item:=by
    intro X hP hw hK hc i pins s σ H E I hf st hg
    subst hP hw hK
    obtain ⟨xs,x,hq,hx⟩:=hg
    obtain ⟨⟨old,se⟩,si⟩:=st
    obtain ⟨its,rv,p,hz⟩:=I.list hq
    obtain ⟨u,hu,ru⟩:=rv.get hx
    refine wpAny_pyNext_enum_item se si p.isList (x:=u) (by simpa using hu) ne fun g eo gi gt _ gk=>?_
    refine ⟨_,rfl,wpAny_letOwnedTupleGo_enum eo fun g' se' sb=>?_⟩
    have I1:=qgd (g:=g') (tk:=s.toks+1) (xs:=[.int i,x]) (its:=[.int i s.toks,u]) I (hf e (by simp)) (hf it (by simp)) (fun b o h1 h2 q=>sb.extBut b o h1 (gk b o h1 h2 q)) (sz (by simp)) (.cons ⟨_,rfl⟩ (.cons ru .nil)) (sb.extBut _ _ (Nat.ne_of_gt (Heap.lt_size se)) gt)
    refine ⟨.ref s.heap.objs.size,_,I1,rfl,⟨_,x,I.hok.fresh (Nat.le_refl _),rfl,rfl,fun ys hy=>by rw [I.list_inj hy hq];exact hx⟩,⟨⟨_,by simpa using se'⟩,gi.at fun o q=>sb.extBut it o ne.symm q⟩,fun b hb=>?_⟩
    rw [qai]
    · exact (hf b hb).1
    · have z:b=e∨b=it:=by simpa using hb
      rcases z with rfl | rfl
      · exact Nat.ne_of_lt (Heap.lt_size se)
      · obtain ⟨o,ho,_⟩:=si;exact Nat.ne_of_lt (Heap.lt_size ho)
  done:=by
    intro X hP hw hK hc i pins s σ H E I hf st hg
    subst hP hw hK
    obtain ⟨xs,hq,hx⟩:=hg
    obtain ⟨⟨old,se⟩,si⟩:=st
    obtain ⟨its,rv,p,hz⟩:=I.list hq
    obtain ⟨f0,f1,f2,f3,f4,f5⟩:=hf it (by simp)
    have hl:=rv.length
    exact wpAny_pyNext_enum_end (I.ok.hd hc) se si p.isList (by simp;omega) fun g eb=>⟨rfl,I.turned (t':=s.toks) (fun b o hb q=>eb b o hb q) f0 f1 f3 f4 f5⟩
  self:=fun _ _ _ _ _ st h=>let ⟨_,se⟩:=st.1;wpAny_pyIter_enum se h
theorem qgO {P:Program} {w:World} {K:W.Frag} {elts:List Expr} {k:Nat} {pos:Pos} (a e it:Addr) (ne:e≠it):Turn P w K (.Tuple elts k pos) (qli K a) [e,it] e (fun i h=>(∃ old,IsEnum h e it i old)∧h.IsTupleIter it a i) where
  mem:=by simp
  obj:=fun i h st b hb=>by
    obtain ⟨⟨old,se⟩,o,ho,c,d⟩:=st
    have z:b=e∨b=it:=by simpa using hb
    rcases z with rfl | rfl
    · exact ⟨_,se,fun v z=>nomatch z⟩
    · exact ⟨o,ho,fun v z=>by rw [d] at z;cases z⟩
  keep:=fun i h h' st kk=>⟨let ⟨old,se⟩:=st.1;⟨old,kk e (by simp) _ se⟩,st.2.at fun o q=>kk it (by simp) o q⟩
  item:=by
    intro X hP hw hK hc i pins s σ H E I hf st hg
    subst hP hw hK
    obtain ⟨xs,x,hq,hx⟩:=hg
    obtain ⟨⟨old,se⟩,si⟩:=st
    obtain ⟨its,rv,p,hz⟩:=I.tuple hq
    obtain ⟨u,hu,ru⟩:=rv.get hx
    refine qgL se si (show s.heap.IsTuple a its.toArray from p) (x:=u) (by simpa using hu) ne fun g eo gi gt gk=>?_
    refine ⟨_,rfl,wpAny_letOwnedTupleGo_enum eo fun g' se' sb=>?_⟩
    have I1:=qgd (g:=g') (tk:=s.toks+1) (xs:=[.int i,x]) (its:=[.int i s.toks,u]) I (hf e (by simp)) (hf it (by simp)) (fun b o h1 h2 q=>sb.extBut b o h1 (gk b o h1 h2 q)) (sz (by simp)) (.cons ⟨_,rfl⟩ (.cons ru .nil)) (sb.extBut _ _ (Nat.ne_of_gt (Heap.lt_size se)) gt)
    refine ⟨.ref s.heap.objs.size,_,I1,rfl,⟨_,x,I.hok.fresh (Nat.le_refl _),rfl,rfl,fun ys hy=>by rw [I.tuple_inj hy hq];exact hx⟩,⟨⟨_,by simpa using se'⟩,gi.at fun o q=>sb.extBut it o ne.symm q⟩,fun b hb=>?_⟩
    rw [qai]
    · exact (hf b hb).1
    · have z:b=e∨b=it:=by simpa using hb
      rcases z with rfl | rfl
      · exact Nat.ne_of_lt (Heap.lt_size se)
      · obtain ⟨o,ho,_⟩:=si;exact Nat.ne_of_lt (Heap.lt_size ho)
  done:=by
    intro X hP hw hK hc i pins s σ H E I hf st hg
    subst hP hw hK
    obtain ⟨xs,hq,hx⟩:=hg
    obtain ⟨⟨old,se⟩,si⟩:=st
    obtain ⟨its,rv,p,hz⟩:=I.tuple hq
    obtain ⟨f0,f1,f2,f3,f4,f5⟩:=hf it (by simp)
    have hl:=rv.length
    exact qhE (I.ok.hd hc) se si (show s.heap.IsTuple a its.toArray from p) (by simp;omega) fun g eb=>⟨rfl,I.turned (t':=s.toks) (fun b o hb q=>eb b o hb q) f0 f1 f3 f4 f5⟩
  self:=fun _ _ _ _ _ st h=>let ⟨_,se⟩:=st.1;wpAny_pyIter_enum se h
section
variable {X:Cx} {elts:List Expr} {k:Nat} {tpos:Pos} {a:Expr} {ta:TA} {p pos:Pos}
theorem qiN (hg:Gl X "enumerate") (hm:X.mg "enumerate" = none) (ha:PA X [a] ta) (hs:starEach [a] X.env=[(false,eval a X.env)]:=by rfl):PI X (.Tuple elts k tpos) (.Call (.Name "enumerate" p) [a] [] pos) (qgb X.K ta):=by
  intro pins s σ H R I h
  refine Call_ (qdF I hg hm qdf (PyProof.Rows.callWith_type1 (thn (ha pos pins s σ H _ I h) fun us s1 ⟨vs,H1,I1,r1,q1⟩=>?_) hs rfl))
  obtain ⟨b,rfl,⟨xs,hq⟩,q⟩:=q1
  obtain ⟨u,rfl,ru⟩:=qfz r1
  cases ru
  obtain ⟨its,rv,pl,hz⟩:=I1.list hq
  refine call_enumerate_list pl.isList fun g se si _ gk=>?_
  have I2:Inv X pins σ H1 { s1 with heap:=g }:=I1.kept (t':=s1.toks) gk
  refine wpAny_pyIter_enum se ⟨_,[s1.heap.objs.size+1,s1.heap.objs.size],_,_,H1,rfl,I2,qgN b _ _ (Nat.succ_ne_self _),⟨⟨_,se⟩,si⟩,fun c hc=>?_,q⟩
  have z:c=s1.heap.objs.size+1∨c=s1.heap.objs.size:=by simpa using hc
  rcases z with rfl | rfl
  · exact I1.fpOk (Nat.le_succ _) (I1.hok.fresh (Nat.le_succ _))
  · exact I1.fpOk (Nat.le_refl _) (I1.hok.fresh (Nat.le_refl _))
theorem qiO (hg:Gl X "enumerate") (hm:X.mg "enumerate" = none) (ha:PA X [a] ta) (hs:starEach [a] X.env=[(false,eval a X.env)]:=by rfl):PI X (.Tuple elts k tpos) (.Call (.Name "enumerate" p) [a] [] pos) (qgc X.K ta):=by
  intro pins s σ H R I h
  refine Call_ (qdF I hg hm qdf (PyProof.Rows.callWith_type1 (thn (ha pos pins s σ H _ I h) fun us s1 ⟨vs,H1,I1,r1,q1⟩=>?_) hs rfl))
  obtain ⟨b,rfl,⟨xs,hq⟩,q⟩:=q1
  obtain ⟨u,rfl,ru⟩:=qfz r1
  cases ru
  obtain ⟨its,rv,pl,hz⟩:=I1.tuple hq
  refine qgM (show s1.heap.IsTuple b its.toArray from pl) fun g se si gk=>?_
  have I2:Inv X pins σ H1 { s1 with heap:=g }:=I1.kept (t':=s1.toks) gk
  refine wpAny_pyIter_enum se ⟨_,[s1.heap.objs.size+1,s1.heap.objs.size],_,_,H1,rfl,I2,qgO b _ _ (Nat.succ_ne_self _),⟨⟨_,se⟩,si⟩,fun c hc=>?_,q⟩
  have z:c=s1.heap.objs.size+1∨c=s1.heap.objs.size:=by simpa using hc
  rcases z with rfl | rfl
  · exact I1.fpOk (Nat.le_succ _) (I1.hok.fresh (Nat.le_succ _))
  · exact I1.fpOk (Nat.le_refl _) (I1.hok.fresh (Nat.le_refl _))
end
end Bs
namespace Bs
open PySem L2
mutual
inductive RepD (H:Hp):V→PySem.W.Dat→Prop
  | non:RepD H .non .none
  | int (i:Int):RepD H (.int i) (.int i)
  | tup {p:Addr} {xs:List V} {ds:List PySem.W.Dat} (h:H p=some (.tup xs)) (r:RepA H xs ds):RepD H (.ref p) (.tuple ds)
  | lst {p:Addr} {xs:List V} {ds:List PySem.W.Dat} (h:H p=some (.lst xs)) (r:RepA H xs ds):RepD H (.ref p) (.list ds)
inductive RepA (H:Hp):List V→List PySem.W.Dat→Prop
  | nil:RepA H [] []
  | cons {x:V} {xs:List V} {d:PySem.W.Dat} {ds:List PySem.W.Dat} (h:RepD H x d) (r:RepA H xs ds):RepA H (x::xs) (d::ds)
end
noncomputable def eqD:R2:=fun x y H Q=>∃ (d e:PySem.W.Dat) (b:Bool),RepD H x d∧RepD H y e∧PySem.W.kqdOk 8 d=true∧PySem.W.kqdOk 8 e=true∧(b=true↔d=e)∧Q (.bl b) H
noncomputable def neD:R2:=fun x y H Q=>∃ (d e:PySem.W.Dat) (b:Bool),RepD H x d∧RepD H y e∧PySem.W.kqdOk 8 d=true∧PySem.W.kqdOk 8 e=true∧(b=true↔d=e)∧Q (.bl (!b)) H
noncomputable def qiP (te:TE):TT:=fun σ H Q=>te σ H fun x H'=>∃ p xs,x=.ref p∧H' p=some (.lst xs)∧Q (!xs.isEmpty) H'
noncomputable def qlZ (te:TE):TT:=fun σ H Q=>te σ H fun x H'=>∃ p xs,x=.ref p∧H' p=some (.tup xs)∧Q (!xs.isEmpty) H'
noncomputable def sL:V→Option Int→Option Int→Hp→VK→Prop:=fun x lo hi H Q=>∃ a xs,x=.ref a∧H a=some (.lst xs)∧∀ p,H p=none→Q (.ref p) (upd H p (.lst (qg8 xs lo hi)))
noncomputable def qhF:List V→Hp→VK→Prop:=fun xs H Q=>∃ p ys,xs=[.ref p]∧H p=some (.lst ys)∧∀ l,H l=none→Q (.ref l) (upd H l (.tup ys))
noncomputable def qfj:List V→Hp→VK→Prop:=fun xs H Q=>∃ p ys,xs=[.ref p]∧H p=some (.tup ys)∧∀ l,H l=none→Q (.ref l) (upd H l (.lst ys))
noncomputable def qhG:List V→Hp→VK→Prop:=fun xs H Q=>∃ p ys,xs=[.ref p]∧H p=some (.lst ys)∧∀ l,H l=none→Q (.ref l) (upd H l (.lst ys))
end Bs
namespace Bs
open PySem PySem.Spec PyProof.Rows L2
section
variable {X:Cx} {pins:List (Addr×Obj)} {σ:L2.St} {H:Hp} {s:Shared}
mutual
theorem qbG (I:Inv X pins σ H s):∀ {x:V} {d:PySem.W.Dat} {u:Value},RepD H x d→RelV x u→∃ as,Reads s.heap u (PySem.W.kqdP d) as
  | _,_,_,.non,e=>by cases e;rw [PySem.W.kqdP];exact ⟨_,Reads.none⟩
  | _,_,_,.int i,⟨t,e⟩=>by subst e;rw [PySem.W.kqdP];exact ⟨_,Reads.int i t⟩
  | _,_,_,.tup h r,e=>by
    cases e
    obtain ⟨its,rv,p,_⟩:=I.tuple (SqT.of h)
    obtain ⟨as,q⟩:=qeP I r rv
    obtain ⟨o,ho,hc,n,hd⟩:=p
    rw [PySem.W.kqdP]
    exact ⟨as,reads_tuple_at ho hc hd (by simpa using q)⟩
  | _,_,_,.lst h r,e=>by
    cases e
    obtain ⟨its,rv,p,_⟩:=I.list (SqL.of h)
    obtain ⟨as,q⟩:=qeP I r rv
    obtain ⟨o,n,ho,hc,_,hd⟩:=p
    rw [PySem.W.kqdP]
    exact ⟨_,reads_list_at ho hc hd (by simpa using q)⟩
theorem qeP (I:Inv X pins σ H s):∀ {xs:List V} {ds:List PySem.W.Dat} {us:List Value},RepA H xs ds→Vals xs us→∃ as,ReadsAll s.heap us (PySem.W.kqdPs ds) as
  | _,_,_,.nil,.nil=>by rw [PySem.W.kqdPs];exact ⟨_,ReadsAll.nil⟩
  | _,_,_,.cons h r,.cons e es=>by
    obtain ⟨as,q⟩:=qbG I h e
    obtain ⟨bs,q2⟩:=qeP I r es
    rw [PySem.W.kqdPs]
    exact ⟨_,ReadsAll.cons q q2⟩
end
theorem qcE {d:PySem.W.Dat} (h:PySem.W.kqdOk 8 d=true):SeqAt.shaped (PySem.W.kqdP d)=true:=by
  have z:=PySem.W.kqd_lay 8 d h
  unfold SeqAt.shaped
  rw [z.1,Bool.true_and]
  exact decide_eq_true (Nat.le_trans z.2 (by decide))
theorem qjq {d e:PySem.W.Dat} {b:Bool} (h1:PySem.W.kqdOk 8 d=true) (h2:PySem.W.kqdOk 8 e=true) (hb:b=true↔d=e):PyData.eqv (PySem.W.kqdP d) (PySem.W.kqdP e)=b:=by
  rw [Bool.eq_iff_iff,hb]
  exact PySem.W.kqd_eqv 8 d e 8 h1 h2
theorem qjr (hu:X.A.units+64<cLine):OpR X (compareOp .Eq) eqD:=by
  intro pins s σ H x y v u Q I rx ry h
  obtain ⟨d,e,b,r1,r2,k1,k2,hb,q⟩:=h
  obtain ⟨as,q1⟩:=qbG I r1 rx
  obtain ⟨bs,q2⟩:=qbG I r2 ry
  exact eq_dataH q1 q2 (qcE k1) (qcE k2) hu (by rw [qjq k1 k2 hb];exact ⟨.bl b,H,I,rfl,q⟩)
theorem qhH (hu:X.A.units+64<cLine):OpR X (compareOp .NotEq) neD:=by
  intro pins s σ H x y v u Q I rx ry h
  obtain ⟨d,e,b,r1,r2,k1,k2,hb,q⟩:=h
  obtain ⟨as,q1⟩:=qbG I r1 rx
  obtain ⟨bs,q2⟩:=qbG I r2 ry
  exact ne_dataH q1 q2 (qcE k1) (qcE k2) hu (by rw [qjq k1 k2 hb];exact ⟨.bl (!b),H,I,rfl,q⟩)
theorem qhI {a:Expr} {ta:TE} (ha:PE X a ta) (he:∀ whole,isTrue a X.env whole=(do let v ← whole;standAt a.pos;holding [v] (truthy v))):PT X a (qiP ta):=fun pins s σ H Q I h=>
  isTrue_plain (thn (ha pins s σ H _ I h) fun v s1 ⟨x,H1,I1,r1,q1⟩=>by
    obtain ⟨p,xs,e,hp,q⟩:=q1
    subst e
    exact qkP pins s1 σ H1 _ v Q I1 r1 ⟨_,.inl ⟨xs,SqL.of hp,rfl⟩,q⟩) (he _)
theorem qj9:SlR X sL:=by
  intro pins s σ H x v vl vu lo hi sl Q I rx hs pl pu h
  obtain ⟨a,xs,e,ha,q⟩:=h
  exact qhp pins s σ H x v vl vu lo hi sl Q I rx hs pl pu ⟨a,xs,e,SqL.of ha,q⟩
theorem qfk:qcA X (.type "tuple") qhF:=fun pins s σ H xs us Q I r h=>by
  obtain ⟨p,ys,e,hp,q⟩:=h
  exact qeJ pins s σ H xs us Q I r ⟨p,ys,e,.inl ⟨SqL.of hp,q⟩⟩
theorem qen:qcA X (.type "list") qfj:=fun pins s σ H xs us Q I r h=>by
  obtain ⟨p,ys,e,hp,q⟩:=h
  exact qde pins s σ H xs us Q I r ⟨p,ys,e,.inr (SqT.of hp),q⟩
theorem qgP:qcA X (.type "list") qhG:=fun pins s σ H xs us Q I r h=>by
  obtain ⟨p,ys,e,hp,q⟩:=h
  exact qde pins s σ H xs us Q I r ⟨p,ys,e,.inl (SqL.of hp),q⟩
theorem qa0 {K:W.Frag} {p:Addr} {xs:List V} (h:H p=some (.lst xs)):tyV K "list" (.ref p) H:=.inl ⟨rfl,xs,SqL.of h⟩
end
end Bs
namespace Bs
open PySem L2
noncomputable def qc0 (n:Nat) (t:TGs):TG:=fun v σ H Q=>∃ a xs,v=.ref a∧H a=some (.tup xs)∧xs.length=n∧t xs σ H Q
end Bs
namespace Bs
open PySem PySem.Spec PyProof.Rows L2
theorem qbk {X:Cx} {es:List Expr} {k:Nat} {pos:Pos} {t:TGs} {n:Nat} (hc:X.calm=true) (h:PGs X es t)
    (hn:(assignEach es X.env).length=n:=by rfl) (hst:(assignEach es X.env).findIdx? (·.1)=none:=by rfl):PG X (.Tuple es k pos) (qc0 n t):=fun pins s σ H v u Q I r q=>by
  obtain ⟨a,xs,e,ha,hl,q⟩:=q
  exact qkK hc h hn hst pins s σ H v u Q I r ⟨a,xs,e,SqT.of ha,hl,q⟩
end Bs
namespace Bs
open PySem L2
noncomputable def sT:V→Option Int→Option Int→Hp→VK→Prop:=fun x lo hi H Q=>∃ a xs,x=.ref a∧H a=some (.tup xs)∧∀ p H',(H'=H∧p=a∧qg8 xs lo hi=xs)∨(H p=none∧H'=upd H p (.tup (qg8 xs lo hi)))→Q (.ref p) H'
end Bs
namespace HT
open PySem PySem.Spec PyProof.Rows
end HT
namespace Bs
open PySem PySem.Spec PyProof.Rows L2
end Bs
namespace Bs
open PySem L2
noncomputable def Itd (lo:Int) (n:Nat):It:=⟨fun i _=>i<n,fun i H x H'=>H'=H∧x=.int (lo - i),fun i _=>n≤i⟩
noncomputable def Itv (K:W.Frag) (a:Addr) (n:Nat):It:=⟨fun i H=>i<n∧∃ xs,SqL K H a xs∧xs.length=n,fun i H x H'=>H'=H∧∀ xs,SqL K H a xs→xs[n - 1 - i]?=some x,fun i _=>n=i⟩
noncomputable def ql0 (ta:TA):TI:=fun σ H R=>ta σ H fun vs H1=>∃ i j:Int,vs=[.int i,.int j,.int (-1)]∧(-(2 ^ 62)≤i∧i<2 ^ 62∧-(2 ^ 62)≤j∧j<2 ^ 62)∧R (Itd i (i - j).toNat) H1
noncomputable def qmK (K:W.Frag) (ta:TA):TI:=fun σ H R=>ta σ H fun vs H1=>∃ a xs,vs=[.ref a]∧SqL K H1 a xs∧R (Itv K a xs.length) H1
section
variable {K:W.Frag} {ta:TA} {g:TG} {tb:TS} {D:Ends} {σ:L2.St} {H:Hp} {a:Addr} {xs:List V}
theorem qka:qdJ (ql0 ta) g tb D σ H=ta σ H (fun vs H1=>∃ i j:Int,vs=[.int i,.int j,.int (-1)]∧(-(2 ^ 62)≤i∧i<2 ^ 62∧-(2 ^ 62)≤j∧j<2 ^ 62)∧ForJ (Itd i (i - j).toNat) g tb D σ H1):=rfl
theorem qkb:qdJ (qmK K ta) g tb D σ H=ta σ H (fun vs H1=>∃ a xs,vs=[.ref a]∧SqL K H1 a xs∧ForJ (Itv K a xs.length) g tb D σ H1):=rfl
end
end Bs
namespace Bs
open PySem PySem.Spec PyProof.Rows L2
end Bs
namespace Bs
open PySem L2
noncomputable def qmk:R2:=fun x y H Q=>y=.non∧Q (.bl (decide (x=.non))) H
noncomputable def ql1:R2:=fun x y H Q=>y=.non∧Q (.bl (!decide (x=.non))) H
noncomputable def qml (_ j:Int):Prop:=0<j
noncomputable def qkA (_ j:Int):Prop:=j≠0
noncomputable abbrev qhJ:R2:=rI qml fun i j=>.int (i / j)
noncomputable abbrev qgQ:R2:=rI qkA fun i j=>.int (i.fdiv j)
noncomputable def Itz (K:W.Frag) (a b:Addr):It:=
  ⟨fun i H=>∃ xs ys x y,SqL K H a xs∧SqL K H b ys∧xs[i]?=some x∧ys[i]?=some y,fun i H v H'=>∃ p x y,H p=none∧v=.ref p∧H'=upd H p (.tup [x,y])∧(∀ xs,SqL K H a xs→xs[i]?=some x)∧∀ ys,SqL K H b ys→ys[i]?=some y,fun i H=>∃ xs ys,SqL K H a xs∧SqL K H b ys∧xs.length≤i⟩
noncomputable def qmL (K:W.Frag) (ta:TA):TI:=fun σ H R=>ta σ H fun vs H1=>∃ a b,vs=[.ref a,.ref b]∧(∃ xs,SqL K H1 a xs)∧(∃ ys,SqL K H1 b ys)∧R (Itz K a b) H1
noncomputable def qeo (wi:TI) (capt:List (Option Nat)) (g:TG) (tc:TT) (te:TE):TE:=fun σ H Q=>wi σ H fun J H1=>∃ (n:Nat) (W:Nat→List V→Hp→Prop),W 0 [] H1∧∀ i ys H,W i ys H→i≤n∧ys.length≤sizeLine∧
  ((J.stop i H∧∀ p,H p=none→Q (.ref p) (upd H p (.lst ys)))∨(i<n∧J.go i H∧∀ x H',J.yld i H x H'→g x (qb4 capt σ) H' fun σ2 H2=>tc σ2 H2 fun b H3=>if b=true then te σ2 H3 fun y H4=>W (i+1) (ys++[y]) H4 else W (i+1) ys H3))
noncomputable def CompF (J:It) (capt:List (Option Nat)) (g:TG) (tc:TT) (te:TE) (σ:L2.St) (Q:VK) (H1:Hp):Prop:=∃ (n:Nat) (W:Nat→List V→Hp→Prop),W 0 [] H1∧∀ i ys H,W i ys H→i≤n∧ys.length≤sizeLine∧
  ((J.stop i H∧∀ p,H p=none→Q (.ref p) (upd H p (.lst ys)))∨(i<n∧J.go i H∧∀ x H',J.yld i H x H'→g x (qb4 capt σ) H' fun σ2 H2=>tc σ2 H2 fun b H3=>if b=true then te σ2 H3 fun y H4=>W (i+1) (ys++[y]) H4 else W (i+1) ys H3))
section
variable {K:W.Frag} {ta:TA} {tl:TE} {capt:List (Option Nat)} {g:TG} {tc:TT} {te:TE} {tb:TS} {D:Ends} {σ:L2.St} {H:Hp} {Q:VK} {a b:Addr} {xs ys:List V}
theorem qiQ:qeo (qb6 K tl) capt g tc te σ H Q=tl σ H (fun x H1=>∃ a,x=.ref a∧(∃ xs,SqL K H1 a xs)∧CompF (Itl K a) capt g tc te σ Q H1):=rfl
theorem qkc:qbF (qmL K ta) capt g te σ H Q=ta σ H (fun vs H1=>∃ a b,vs=[.ref a,.ref b]∧(∃ xs,SqL K H1 a xs)∧(∃ ys,SqL K H1 b ys)∧CompJ (Itz K a b) capt g te σ Q H1):=rfl
theorem CompF.lst (W:Nat→List V→Hp→Prop) (h0:W 0 [] H) (hb:∀ i ys H,W i ys H→i≤xs.length∧ys.length≤sizeLine∧SqL K H a xs)
    (hs:∀ i x ys H,xs[i]?=some x→W i ys H→g x (qb4 capt σ) H fun σ2 H2=>tc σ2 H2 fun b H3=>if b=true then te σ2 H3 fun y H4=>W (i+1) (ys++[y]) H4 else W (i+1) ys H3) (hd:∀ ys H,W xs.length ys H→∀ p,H p=none→Q (.ref p) (upd H p (.lst ys))):CompF (Itl K a) capt g tc te σ Q H:=by
  refine ⟨xs.length,W,h0,fun i ys H w=>⟨(hb i ys H w).1,(hb i ys H w).2.1,?_⟩⟩
  have q:SqL K H a xs:=(hb i ys H w).2.2
  by_cases h:i<xs.length
  · refine .inr ⟨h,⟨xs,xs[i],q,by simp [h]⟩,fun x H' y=>?_⟩
    obtain ⟨e,y⟩:=y
    subst e
    exact hs i x ys _ (y xs q) w
  · have e:i=xs.length:=Nat.le_antisymm (hb i ys H w).1 (Nat.not_lt.mp h)
    subst e
    exact .inl ⟨⟨xs,q,Nat.le_refl _⟩,hd ys H w⟩
theorem CompJ.zip (hl:xs.length=ys.length) (W:Nat→List V→Hp→Prop) (h0:W 0 [] H) (hb:∀ i zs H,W i zs H→i≤xs.length∧zs.length≤sizeLine∧SqL K H a xs∧SqL K H b ys)
    (hs:∀ i x y zs H p,xs[i]?=some x→ys[i]?=some y→W i zs H→H p=none→g (.ref p) (qb4 capt σ) (upd H p (.tup [x,y])) fun σ2 H2=>te σ2 H2 fun z H3=>W (i+1) (zs++[z]) H3) (hd:∀ zs H,W xs.length zs H→∀ p,H p=none→Q (.ref p) (upd H p (.lst zs))):CompJ (Itz K a b) capt g te σ Q H:=by
  refine ⟨xs.length,W,h0,fun i zs H w=>⟨(hb i zs H w).1,(hb i zs H w).2.1,?_⟩⟩
  obtain ⟨_,_,q,q2⟩:=hb i zs H w
  by_cases h:i<xs.length
  · refine .inr ⟨h,⟨xs,ys,xs[i],ys[i],q,q2,by simp [h],by simp [hl ▸ h]⟩,fun v H' y=>?_⟩
    obtain ⟨p,x,y,hp,e1,e2,h1,h2⟩:=y
    subst e1 e2
    exact hs i x y zs _ p (h1 xs q) (h2 ys q2) w hp
  · have e:i=xs.length:=Nat.le_antisymm (hb i zs H w).1 (Nat.not_lt.mp h)
    subst e
    exact .inl ⟨⟨xs,ys,q,q2,Nat.le_refl _⟩,hd zs H w⟩
end
noncomputable def qlj:V→Hp→VK→Prop:=fun x H Q=>∃ (p:Addr) (ns:List Int),x=.ref p∧H p=some (.lst (ns.map V.int))∧∀ m:Int,(ns=[]∧m=0∨m∈ns)→Q (.int m) H
noncomputable def ql2 (te:TE):TE:=fun σ H Q=>te σ H fun x H1=>qlj x H1 Q
noncomputable def ql3:List V→Hp→VK→Prop:=fun xs H Q=>∃ (p:Addr) (ns:List Int),xs=[.ref p]∧H p=some (.lst (ns.map V.int))∧Q (.bl (ns.any fun z=>!decide (z=0))) H
end Bs
namespace Bs
open PySem PySem.Spec PyProof.Rows L2
section
variable {X:Cx} {pins:List (Addr×Obj)} {σ:L2.St} {H:Hp} {s:Shared}
theorem qcF:OpR X (binaryOp .FloorDiv) qgQ:=by
  intro pins s σ H x y v u Q I rx ry ⟨i,j,ex,ey,hc,q⟩
  subst ex ey
  obtain ⟨t,rfl⟩:=rx
  obtain ⟨t2,rfl⟩:=ry
  exact floordiv_int hc ⟨.int (i.fdiv j),H,I.tok _,⟨_,rfl⟩,q⟩ (Or.inr (I.ok.plr s I.bk))
theorem qeQ:OpR X (binaryOp .FloorDiv) qhJ:=by
  intro pins s σ H x y v u Q I rx ry ⟨i,j,ex,ey,hc,q⟩
  have hc':0<j:=hc
  replace q:Q (.int (i / j)) H:=q
  rw [← Int.fdiv_eq_ediv_of_nonneg i (Int.le_of_lt hc')] at q
  exact qcF pins s σ H x y v u Q I rx ry ⟨i,j,ex,ey,Int.ne_of_gt hc',q⟩
end
section
variable {X:Cx} {elts:List Expr} {k:Nat} {tpos:Pos} {a b:Expr} {ta:TA} {p pos:Pos}
theorem vals2 {x y:V} {us:List Value} (r:Vals [x,y] us):∃ u v,us=[u,v]∧RelV x u∧RelV y v:=r.two
end
section
variable {X:Cx}
end
section
variable {prog:Program} {w:World} {A:Around} {R:Result→Shared→Prop} {I:Addr} {fp wr:List Addr} {n:Nat} {P:Nat→Value→Prop} {St:Nat→Heap→Prop} {d:Value}
end
section
variable {X:Cx} {e:Expr} {te:TE} {p pos kp1 kp2:Pos} {kk:Nat}
end
end Bs
namespace Bs
open PySem PySem.Spec PyProof.Rows L2
section
variable {X:Cx} {pins:List (Addr×Obj)} {σ:L2.St} {H:Hp} {s:Shared} {N:List Str} {capt:List (Option Nat)} {scope:Scope} {cl:List (Str×Addr)} {C:Addr} {fp:List Addr}
theorem qfl {prog:Program} {w:World} {A:Around} {R:Result→Shared→Prop} {s:Shared} {elt target iter c:Expr} {scope:Scope} {pos:Pos} {it acc:Value} {env:Env} (I:Nat→Shared→Prop)
    (turn:∀ n s,I n s→wpAny (model prog w) A (pyNext it) (fun r s₁=>match r with
      | none=>R (.ok .next) s₁
      | some v=>wpAny (model prog w) A (letOwnedTupleGo target it v) (fun _ s₂=>wpAny (model prog w) A (assign target env v) (fun _ s₃=>wpAny (model prog w) A (isTrue c env (eval c env)) (fun okb s₆=>if okb=true then wpAny (model prog w) A (eval elt env) (fun x s₄=>
          wpAny (model prog w) A (call (.builtin "list.append") [acc,x]) (fun _ s₅=>∃ m,m<n∧I m s₅) (fun _ _=>False) s₄) (fun _ _=>False) s₆ else ∃ m,m<n∧I m s₆) (fun _ _=>False) s₃) (fun _ _=>False) s₂) (fun _ _=>False) s₁) (fun _ _=>False) s)
    (n:Nat) (h:I n s):codeAny (model prog w) A (.compLoop (.ListComp elt [⟨target,iter,[c],0⟩] scope pos) 0 it acc env) R s:=by
  refine codeAny_loop rfl I (fun n s hI=>?_) n h
  show wpAny _ A ((compTurn (.ListComp elt [⟨target,iter,[c],0⟩] scope pos) 0 it acc env).onRaise (fun x=>do noteFrame x env;theTreesLotGoes x)) _ _ s
  refine wpAny_noted ?_
  rw [compTurn_list]
  have no:∀ {E':Value→Shared→Prop} (e:Value) (s':Shared),(fun (_:Value) (_:Shared)=>False) e s'→E' e s':=fun _ _ f=>f.elim
  refine wpAny_bind (wpAny_standAt (wpAny_bind (wpAny_mono (turn n s hI) (fun r s₁ h₁=>?_) no)))
  cases r with
  | none=>exact wpAny_pure h₁
  | some v=>
    refine wpAny_bind (wpAny_mono h₁ (fun _ s₂ h₂=>?_) no)
    refine wpAny_bind (wpAny_mono h₂ (fun _ s₆ h₆=>wpAny_bind (wpAny_tests_one (wpAny_mono h₆ (fun okb s₃ h₃=>?_) no))) no)
    cases okb with
    | false=>exact wpAny_pure ⟨rfl,h₃⟩
    | true=>exact wpAny_bind (wpAny_bind (wpAny_mono h₃ (fun x s₄ h₄=>wpAny_bind (wpAny_mono h₄ (fun _ s₅ h₅=>wpAny_pure (wpAny_pure ⟨rfl,h₅⟩)) no)) no))
theorem qgR {elt iter tg c:Expr} {tc:TT} {pos:Pos} {wi:TI} {g:TG} {te:TE} {pins:List (Addr×Obj)} {s:Shared} {σ:L2.St} {H:Hp} {Q:VK} (RR:Value→Addr→Result→Shared→Prop) (hc:X.calm=true) (B:BlkOk X N capt scope cl) (hi:PI X tg iter wi)
    (hg:∀ C s H fp,PG (blk X N scope cl C s H fp) tg g) (ht:∀ C s H fp,PT (blk X N scope cl C s H fp) c tc) (he:∀ C s H fp,PE (blk X N scope cl C s H fp) elt te) (I:Inv X pins σ H s) (h:qeo wi capt g tc te σ H Q)
    (fin:∀ (D C:Addr) (s4:Shared) (Hq:Hp) (m:Str→Option Value),Inv X pins σ Hq s4→Q (.ref D) Hq→s4.heap.Ns C m→Hq C=none→C≠X.env.locals→X.s₀.heap.objs.size≤C→(∀ x c,X.env.cells.lookup x=some c→c≠C)→(∀ p∈X.pn++pins,p.1≠C)→RR (.ref D) C (.ok .next) s4) :
    wpAny (model X.prog X.w) X.A (eval iter X.env) (fun x s₁=>wpAny (model X.prog X.w) X.A (pyIter x) (fun it s₂=>wpAny (model X.prog X.w) X.A (newList []) (fun acc s₃=>
      wpAny (model X.prog X.w) X.A (newFunctionEnv scope X.env.globals cl [] X.env.qual none .none (some X.env)) (fun cenv s₄=>
        codeAny (model X.prog X.w) X.A (.compStart (.ListComp elt [⟨tg,iter,[c],0⟩] scope pos) 0 it acc { cenv with scope:=relabel scope X.env }) (RR acc cenv.locals) s₄) X.xe s₃) X.xe s₂) X.xe s₁) X.xe s:=by
  refine thn (hi pins s σ H _ I h) fun v s1 h1=>thn h1 fun itv s2 h2=>?_
  obtain ⟨it,fp,tn,J,H2,e,I2,T,st2,f2,n0,W,w0,turn⟩:=h2
  subst e
  have fl:∀ b∈fp,b<s2.heap.objs.size:=fun b hb=>by obtain ⟨o,e,_⟩:=T.obj _ _ st2 b hb;exact Heap.lt_size e
  refine wpAny_newObj_type (wpAny_newFunctionEnv B.nocell (by intro y hy;simp at hy) (fun h₁ hns₁ hsb₁=>?_) B.kind)
  dsimp only at hns₁ hsb₁ ⊢
  generalize hG:s2.heap.push { cls:=.type "list", dict:=none,data:=.seq ([]:List Value).toArray }=G at hns₁ hsb₁ ⊢
  have hC:G.objs.size=s2.heap.objs.size+1:=by rw [← hG,Heap.size_push]
  have hCle:s2.heap.objs.size≤G.objs.size:=by rw [hC];exact Nat.le_succ _
  have hDC:s2.heap.objs.size≠G.objs.size:=by rw [hC];exact Nat.ne_of_lt (Nat.lt_succ_self _)
  have old:∀ b o,s2.heap.get? b=some o→h₁.get? b=some o:=fun b o e=>hsb₁.extBut b o (by rw [hC];exact Nat.ne_of_lt (Nat.lt_succ_of_lt (Heap.lt_size e))) (Heap.get?_push_of_some _ (hG ▸ Heap.get?_push_of_some _ e))
  have hacc:h₁.get? s2.heap.objs.size=some { cls:=.type "list", data:=.seq ([]:List Value).toArray }:=hsb₁.extBut _ _ hDC (Heap.get?_push_of_some _ (hG ▸ Heap.get?_push_size _ rfl))
  have ok':=qhA B I2 f2 fl hCle
  have nsD:s2.heap.objs.size∉frs X.stack:=fun hb=>by
    rcases List.mem_cons.mp (I2.stkSub _ hb) with z | z
    · exact absurd I2.lt (by rw [← z];exact Nat.lt_irrefl _)
    · exact I2.nofs (Nat.le_refl _) z
  have ncD:∀ x c,cl.lookup x=some c→c≠s2.heap.objs.size:=fun x c e z=>by
    obtain ⟨v,q⟩:=I2.cell x c (B.cells x c e)
    exact absurd q.lt (by rw [z];exact Nat.lt_irrefl _)
  have nfD:∀ b∈fp,s2.heap.objs.size≠b:=fun b hb z=>absurd (fl b hb) (by rw [← z];exact Nat.lt_irrefl _)
  have I₁:Inv (blk X N scope cl G.objs.size s2 H2 fp) [] (qb4 capt σ) H2 { s2 with heap:=h₁,toks:=s2.toks+([]:List (Str×Value)).length }:=qhB B I2 f2 fl hCle hns₁ old
  have loop:codeAny (model X.prog X.w) X.A (.compLoop (.ListComp elt [⟨tg,iter,[c],0⟩] scope pos) 0 (.ref it) (.ref s2.heap.objs.size) (compEnvC scope cl G.objs.size X.env))
      (RR (.ref s2.heap.objs.size) G.objs.size) { s2 with heap:=h₁,toks:=s2.toks+([]:List (Str×Value)).length }:=by
    refine qfl (fun n s'=>∃ (i:Nat) (ys:List V) (its:List Value) (k:Nat) (Hc:Hp),Inv (blk X N scope cl G.objs.size s2 H2 fp) [] (qb4 capt σ) Hc s'∧s'.heap.get? s2.heap.objs.size=some { cls:=.type "list", data:=.seq its.toArray k }∧Vals ys its∧
      Hc s2.heap.objs.size=none∧tn i s'.heap∧(∀ b∈fp,Hc b=none)∧W i ys Hc∧n=n0 - i) ?_ n0 ⟨0,[],[],0,H2,I₁,hacc,.nil,I2.hok.fresh (Nat.le_refl _),T.keep _ _ _ st2 (fun b _ o e=>old b o e),fun b hb=>(f2 b hb).1,w0,rfl⟩
    rintro n s3 ⟨i,ys,its,k,Hc,I3,hD,hv,nD,st3,fr3,w3,en⟩
    obtain ⟨_,hl,step⟩:=turn i ys Hc w3
    have hz:its.toArray.size≤sizeLine:=by rw [List.size_toArray,← hv.length];exact hl
    have I3p:Inv (blk X N scope cl G.objs.size s2 H2 fp) [(s2.heap.objs.size,{ cls:=.type "list", data:=.seq its.toArray k })] (qb4 capt σ) Hc s3:=I3.pins_of fun p hp=>by
      rw [List.mem_singleton] at hp
      subst hp
      exact ⟨hD,nD,hDC,nsD,fun v z=>nomatch z⟩
    have fo3:∀ {Hx:Hp} (_:∀ b∈fp,Hx b=none),∀ b∈fp,qgt (blk X N scope cl G.objs.size s2 H2 fp) [(s2.heap.objs.size,{ cls:=.type "list", data:=.seq its.toArray k })] Hx b:=fun hx b hb=>
      ⟨hx b hb,(ok'.exf b hb).1,ok'.exfs b hb,.inl hb,(ok'.exf b hb).2,fun p hp=>by
        have hp':p∈[((s2.heap.objs.size,{ cls:=.type "list", data:=.seq its.toArray k }):Addr×Obj)]:=hp
        rw [List.mem_singleton] at hp'
        subst hp'
        exact nfD b hb⟩
    rcases step with ⟨stop,q⟩ | ⟨ltn,go,nxt⟩
    · refine thn (T.done (blk X N scope cl G.objs.size s2 H2 fp) rfl rfl rfl hc i _ s3 _ Hc _ I3p (fo3 fr3) st3 stop) fun r s4 ⟨hr,I4⟩=>?_
      subst hr
      have hD4:=(I4.pin (s2.heap.objs.size,{ cls:=.type "list", data:=.seq its.toArray k }) (List.mem_append_right _ (List.mem_singleton.mpr rfl))).1
      obtain ⟨m,hn,_⟩:=I4.loc
      have nDt:∀ b u,Hc b=some u→b≠s2.heap.objs.size:=fun b u e z=>by rw [z,nD] at e;cases e
      have oldC:∀ b o,s2.heap.get? b=some o→b≠s2.heap.objs.size:=fun b o e=>Nat.ne_of_lt (Heap.lt_size e)
      have ub:Un (frs X.stack) fp H2 Hc s2.heap s4.heap:=I4.base
      have cC:∀ b,b<s2.heap.objs.size→b≠G.objs.size:=fun b hb z=>absurd (Nat.lt_of_lt_of_le hb hCle) (by rw [z];exact Nat.lt_irrefl _)
      refine fin _ G.objs.size s4 (upd Hc s2.heap.objs.size (.lst ys)) m ?_ (q _ nD) hn (by rw [qai (fun z=>hDC z.symm)];exact I4.free) (fun z=>cC _ I2.lt z.symm) (Nat.le_trans I2.sz hCle)
        (fun x c e=>by obtain ⟨v,q⟩:=I2.cell x c e;exact cC _ q.lt) fun p hp=>cC _ (Heap.lt_size (I2.pin p hp).1)
      refine I2.call' (ch:=fp) (s':=s4) I4.os ?_ ?_ I4.bare fun b hb=>⟨(f2 b hb).2.2.2.1,(f2 b hb).2.1,(f2 b hb).2.2.2.2.1,(f2 b hb).2.2.2.2.2⟩
      · refine ⟨ub.keep,ub.slot,fun b o e n hx=>?_,ub.there,fun b xs e=>?_,fun b o u e=>?_,fun b ps e=>?_⟩
        · rw [qai (oldC b o e)];exact ub.free b o e n hx
        · have z:=ub.tups b xs e
          rw [qai (nDt b _ z)];exact z
        · have z:=ub.frzs b o u e
          rw [qai (nDt b _ z)];exact z
        · obtain ⟨more,z⟩:=ub.tbls b ps e
          exact ⟨more,by rw [qai (nDt b _ z)];exact z⟩
      · intro b u e
        by_cases hb:b=s2.heap.objs.size
        · subst hb
          rw [qab] at e
          cases e
          exact ⟨hl,its,k,hv,hD4⟩
        · rw [qai hb] at e
          exact (I4.hok b u e).stay (fun c v _ q=>q) (fun c q=>by rw [qai (nDt c _ q)];exact q) fun c xs q=>by rw [qai (nDt c _ q)];exact q
    · refine thn (T.item (blk X N scope cl G.objs.size s2 H2 fp) rfl rfl rfl hc i _ s3 _ Hc _ I3p (fo3 fr3) st3 go) fun r s4 ⟨u,hr,h4⟩=>?_
      subst hr
      refine thn h4 fun _ s5 ⟨x,H5,I5,r5,y5,st5,fr5⟩=>?_
      have I5':=I5.pinned (fo3 fr5) (T.obj _ _ st5)
      refine thn (hg _ _ _ _ _ s5 _ H5 x u _ I5' r5 (nxt x H5 y5)) fun _ s6 ⟨σ6,H6,I6,q6⟩=>?_
      refine thn (ht _ _ _ _ _ s6 σ6 H6 _ I6 q6) fun okb s9 ⟨H9,I9,q9⟩=>?_
      have pF9:∀ b∈fp,∀ o,s5.heap.get? b=some o→s9.heap.get? b=some o∧H9 b=none:=fun b hb o e=>by
        have z:=I9.pin (b,o) (List.mem_append_right _ (List.mem_append_right _ (qbE hb e)))
        exact ⟨z.1,z.2.1⟩
      cases okb with
      | false=>
        have w9:W (i+1) ys H9:=q9
        have pD9:=I9.pin (s2.heap.objs.size,{ cls:=.type "list", data:=.seq its.toArray k }) (List.mem_append_right _ (List.mem_append_left _ (List.mem_singleton.mpr rfl)))
        have I9n:Inv (blk X N scope cl G.objs.size s2 H2 fp) [] σ6 H9 s9:=I9.pins_of fun p hp=>nomatch hp
        exact ⟨n0 - (i+1),by omega,i+1,ys,its,k,H9,qdS B I2 f2 I9n,pD9.1,hv,pD9.2.1,T.keep _ _ _ st5 (fun b hb o e=>(pF9 b hb o e).1),(fun b hb=>by
          obtain ⟨o,e,_⟩:=T.obj _ _ st5 b hb
          exact (pF9 b hb o e).2),w9,rfl⟩
      | true=>
      replace q9:te σ6 H9 fun y H4=>W (i+1) (ys++[y]) H4:=q9
      refine thn (he _ _ _ _ _ s9 σ6 H9 _ I9 q9) fun uy s7 ⟨y,H7,I7,r7,w7⟩=>?_
      have pD:=I7.pin (s2.heap.objs.size,{ cls:=.type "list", data:=.seq its.toArray k }) (List.mem_append_right _ (List.mem_append_left _ (List.mem_singleton.mpr rfl)))
      have pF:∀ b∈fp,∀ o,s5.heap.get? b=some o→s7.heap.get? b=some o∧H7 b=none:=fun b hb o e=>by
        have z:=I7.pin (b,o) (List.mem_append_right _ (List.mem_append_right _ (qbE hb e)))
        exact ⟨z.1,z.2.1⟩
      refine append_at (hsz:=hz) pD.1 fun h8 sb8 hD8=>?_
      have I7n:Inv (blk X N scope cl G.objs.size s2 H2 fp) [] σ6 H7 s7:=I7.pins_of fun p hp=>nomatch hp
      have I8:Inv (blk X N scope cl G.objs.size s2 H2 fp) [] σ6 H7 { s7 with heap:=h8,toks:=s7.toks }:=I7n.turned (fun b o hb e=>sb8.extBut b o hb e) pD.2.1 hDC (.inr (Nat.le_refl _)) ncD (fun p hp=>nomatch hp)
      refine ⟨n0 - (i+1),by omega,i+1,ys++[y],its++[uy],k+1,H7,qdS B I2 f2 I8,?_,Paired.snoc hv r7,pD.2.1,T.keep _ _ _ st5 (fun b hb o e=>sb8.extBut b o (nfD b hb).symm (pF b hb o e).1),fun b hb=>?_,w7,rfl⟩
      · show h8.get? _=_
        rw [hD8,List.push_toArray]
      · obtain ⟨o,e,_⟩:=T.obj _ _ st5 b hb
        exact (pF b hb o e).2
  exact codeAny_compStart_list loop (T.self X.A 0 _ _ _ (T.keep _ _ _ st2 (fun b _ o e=>old b o e)) loop)
end
end Bs
namespace Bs
open PySem L2
noncomputable def sS (K:W.Frag):V→Option Int→Option Int→Hp→VK→Prop:=fun x lo hi H Q=>∃ a xs,x=.ref a∧SqL K H a xs∧∀ p,H p=none→Q (.ref p) (upd H p (.lst (qg8 xs lo hi)))
noncomputable def ql4:List V→Hp→VK→Prop:=fun xs H Q=>∃ (p:Addr) (ns:List Int),xs=[.ref p]∧H p=some (.lst (ns.map V.int))∧Q (.int ns.sum) H
end Bs
namespace Bs
open PySem PySem.Spec PyProof.Rows L2
section
variable {X:Cx}
theorem qfm:SlR X (sS X.K):=qhp
end
end Bs
namespace Bs
open PySem L2
noncomputable def ql5 (n:Nat) (t:TGs):TG:=fun v σ H Q=>∃ a xs,v=.ref a∧H a=some (.lst xs)∧xs.length=n∧t xs σ H Q
end Bs
namespace Bs
open PySem PySem.Spec PyProof.Rows L2
theorem qlk {m n:Nat} {a b:Int} (ha:Bd m a) (hb:Bd n b) (h:m+n≤134217728):IntMulOk a b:=IntMulOk.of_le (qhx ha) (qhx hb) h
end Bs
namespace Bs
open PySem L2
end Bs
namespace Bs
open PySem PySem.Spec PyProof.Rows L2
end Bs
namespace Bs
open PySem L2
end Bs
namespace Bs
open PySem PySem.Spec PyProof.Rows L2
end Bs
namespace Bs
open PySem L2
end Bs
namespace Bs
open PySem PySem.Spec PySem.Calls PyProof.Rows L2
section
variable {X:Cx}
theorem Inv.dK {pins:List (Addr×Obj)} {σ:L2.St} {H:Hp} {s:Shared} {p:Addr} {kvs:List (Key×V)} (I:Inv X pins σ H s) (h:H p=some (.dK kvs)) :
    kvs.length≤sizeLine∧(p == sysModules)=false∧∃ vs,KV kvs vs∧s.heap.DictOf (qeE X.prog X.w) p vs:=I.hok p _ h
end
end Bs
namespace Bs
open PySem PySem.Spec PySem.Calls PyProof.Rows L2
section
variable {X:Cx} {pos:Pos}
end
end Bs
namespace Bs
open PySem L2
end Bs
namespace Bs
open PySem PySem.Spec PySem.Calls PyProof.Rows L2
section
variable {X:Cx}
end
end Bs
namespace Bs
open PySem PySem.Spec PyProof.Rows L2
end Bs
namespace Bs
open PySem PySem.Spec PyProof.Rows L2
end Bs
namespace Bs
open PySem PySem.Spec PyProof.Rows L2
section
variable {X:Cx} {pins:List (Addr×Obj)} {σ:L2.St} {H:Hp} {s:Shared} {N:List Str} {capt:List (Option Nat)} {scope:Scope} {cl:List (Str×Addr)} {C:Addr} {fp:List Addr}
theorem qge {i:Nat} {x:Str} {pos' spos:Pos} {elt iter tg c:Expr} {tc:TT} {pos:Pos} {wi:TI} {g:TG} {te:TE} (hN:X.N.Nodup) (hi':X.N[i]?=some x) (hx:Loc X.env.scope x) (hc:X.calm=true) (B:BlkOk X N capt scope cl) (hi:PI X tg iter wi)
    (hg:∀ C s H fp,PG (blk X N scope cl C s H fp) tg g) (ht:∀ C s H fp,PT (blk X N scope cl C s H fp) c tc) (he:∀ C s H fp,PE (blk X N scope cl C s H fp) elt te)
    (hsw:swapsWith (.ListComp elt [⟨tg,iter,[c],0⟩] scope pos) (some (.Name x pos')) spos.line X.env=pure true:=by rfl)
    (hs:∀ x,foldedSetIterable iter X.env x=pure x:=by intro _;rfl) (hf:X.fn x=true∨X.env.scope.names.lookup x=some .local:=by first | exact .inl rfl | exact .inr rfl | assumption) :
    PS X (.Assign [.Name x pos'] (.ListComp elt [⟨tg,iter,[c],0⟩] scope pos) spos) (qa3 (qeo wi capt g tc te) (qam i)):=by
  intro pins s σ H D I h
  rw [exec_Assign_Name_used _ _ _ _ hsw]
  refine wpAny_bind (wpAny_standAt (wpAny_bind ?_))
  show wpAny _ X.A (do let _ ← comprehension (.ListComp elt [⟨tg,iter,[c],0⟩] scope pos) scope X.env _ (newList []) false (eval iter X.env) (some (assign (.Name x pos') X.env))) _ _ s
  refine wpAny_bind (wpAny_mono (wpAny_comprehension_free (use:=some (assign (.Name x pos') X.env)) (Q:=fun _ s'=>SP X pins D .next s') rfl hs B.clos B.kind B.names
    (qgR (fun acc C=>compPost (model X.prog X.w) X.A X.xe (some (assign (.Name x pos') X.env)) (fun _ s'=>SP X pins D .next s') acc C) hc B hi hg ht he I h fun Da C s4 Hq m I4 q hn hfr h1 h2 h3 h4=>?_)) (fun _ s' hq=>wpAny_pure (wpAny_pure hq)) fun _ _ e=>e)
  show wpAny _ X.A (assign (.Name x pos') X.env (.ref Da)) _ _ _
  refine wpAny_assign_Name (qdE I4 hN hi' hx (v:=.ref Da) rfl (fun s5 I5 ⟨a,sb5,ha⟩=>⟨m,hn.sameBut sb5 ?_,fun h' sb=>⟨_,_,I5.turned (fun b o hb e=>sb.extBut b o hb e) hfr h1 (.inr h2) h3 h4,q⟩⟩) hf)
  rcases ha with z | z
  · rw [z];exact h1
  · exact fun e=>h3 x a z e.symm
end
end Bs
namespace Bs
open PySem L2
noncomputable def qhK:List V→Hp→VK→Prop:=fun xs H Q=>∃ (p:Addr) (ns:List Int),xs=[.ref p]∧H p=some (.lst (ns.map V.int))∧ns.length<64∧∀ (r:Addr) (ms:List Int),H r=none→ms.Perm ns→ms.Pairwise (·≤·)→Q (.ref r) (upd H r (.lst (ms.map V.int)))
end Bs
namespace Bs
open PySem PySem.Spec PyProof.Rows L2
section
variable {X:Cx}
theorem qfn:bootBuiltins "sorted" = some (.builtin "sorted"):=by decide +kernel
theorem qkd:∀ {vs:List Value} {ns:List Int},Vals (ns.map V.int) vs→IntsAre vs ns:=by
  intro vs ns
  induction ns generalizing vs with
  | nil=>intro h;cases h;exact .nil
  | cons n ns ih=>intro h;cases h with | cons r t=>obtain ⟨k,rfl⟩:=r;exact .cons n k (ih t)
theorem qfo:qcA X (.builtin "sorted") qhK:=fun pins s σ H xs us Q I r ⟨p,ns,e,hp,hl,q⟩=>by
  subst e
  obtain ⟨u,rfl,ru⟩:=qfz r
  cases ru
  obtain ⟨its,rv,pl,hz⟩:=I.list (SqL.of hp)
  have hle:ns.length=its.length:=by have:=rv.length;simpa using this
  obtain ⟨m,hn,_⟩:=id I.loc
  refine sorted_N (h₀:=Att.noObjs s.heap) (L:=X.env.locals) (m:=m) (news:=Att.ledger s.heap X.env.locals X.env.locals) (Att.fr_all hn) (fun p hp=>?_) pl.isList (qkd rv) (by omega) fun h' vs' ms c F N hv pm sr=>?_
  · obtain ⟨n1,_,e⟩:=Att.mem_ledger.mp hp
    exact ⟨e,n1,Att.noObjs_get _ _⟩
  have kk:∀ b o,b≠X.env.locals→s.heap.get? b=some o→h'.get? b=some o:=fun b o n e=>(N (b,o) (List.mem_cons_of_mem _ (Att.mem_ledger.mpr ⟨n,n,e⟩))).1
  have hD:h'.get? (s.heap.objs.size+1)=some (seqObj "list" vs'.toArray c):=(N _ (List.mem_cons_self ..)).1
  have fr:H (s.heap.objs.size+1)=none:=I.hok.fresh (Nat.le_succ _)
  refine ⟨.ref _,_,?_,rfl,q (s.heap.objs.size+1) ms fr pm sr⟩
  have lm:=pm.length_eq
  refine I.step (g':=s.gens) (d':=s.drawn) (t':=s.toks) (ch:=[]) (fun _ z=>nomatch z) (fun b o n _ _ e _=>kk b o n e) (fun b o n _ _ e _=>⟨o.slots,kk b o n e⟩) (fun b o _ e n=>?_) (fun b o _ e=>?_) (fun b xs e=>?_) (fun b o u e=>?_) (fun b ps e=>⟨#[],?_⟩) (fun m' hm=>?_) (fun b o e=>?_) I.bare
  · rw [qai (Nat.ne_of_lt (Nat.lt_succ_of_lt (Heap.lt_size e)))];exact n
  · by_cases hb:b=X.env.locals
    · obtain ⟨o',_,_,e',_⟩:=F.ns
      exact ⟨o',by rw [hb];exact e'⟩
    · exact ⟨o,kk b o hb e⟩
  · rw [qai (qah e fr)];exact e
  · rw [qai (qah e fr)];exact e
  · rw [qai (qah e fr),e];simp
  · rw [show m'=m from funext fun x=>hm.agree hn x];exact F.ns
  · by_cases hb:b=s.heap.objs.size+1
    · subst hb
      rw [qab] at e;cases e
      exact ⟨by rw [List.length_map];rw [List.length_map] at hz;omega,vs',c,qdN hv,hD⟩
    · rw [qai hb] at e
      refine (I.hok b o e).stay (fun c u hc e'=>kk c u ?_ e') (fun c e'=>?_) fun c xs e'=>?_
      · rintro rfl
        rcases hc with z | z
        · rw [← z,I.free] at e;cases e
        · rw [I.free] at z;cases z
      · rw [qai (qah e' fr)];exact e'
      · rw [qai (qah e' fr)];exact e'
end
section
variable {prog:Program} {w:World} {A:Around} {R:Result→Shared→Prop} {I:Addr} {fp wr:List Addr} {n:Nat} {P:Nat→Value→Prop} {St:Nat→Heap→Prop} {d:Value}
end
section
variable {X:Cx} {e:Expr} {te:TE} {p pos kp1 kp2:Pos} {kk:Nat}
end
end Bs
namespace Bs
open PySem L2
noncomputable def qll (H:Hp) (us:List V) (kz:List Int):Prop:=kz.length=us.length∧∀ (i:Nat) (u:V) (k:Int),us[i]?=some u→kz[i]?=some k→∃ a y,u=.ref a∧H a=some (.tup [y,.int k])
theorem qgf {α β:Type} {g:α→β}:∀ {ps l:List β},ps.Perm l→∀ T:List α,l=T.map g→∃ T':List α,T'.Perm T∧ps=T'.map g:=by
  intro ps l h
  induction h with
  | nil=>intro T e;exact ⟨T,.refl _,e⟩
  | cons x _ ih=>
    intro T e
    cases T with
    | nil=>cases e
    | cons t T=>
      injection e with e1 e2
      obtain ⟨T',p,q⟩:=ih T e2
      exact ⟨t::T',p.cons t,by rw [List.map_cons,e1,q]⟩
  | swap x y l=>
    intro T e
    match T,e with
    | t::u::T,e=>
      injection e with e1 e2
      injection e2 with e2 e3
      exact ⟨u::t::T,.swap t u T,by rw [List.map_cons,List.map_cons,e1,e2,e3]⟩
  | trans _ _ ih1 ih2=>
    intro T e
    obtain ⟨T1,p1,q1⟩:=ih2 T e
    obtain ⟨T2,p2,q2⟩:=ih1 T1 q1
    exact ⟨T2,p2.trans p1,q2⟩
end Bs
namespace Bs
open PySem PySem.Spec PyProof.Rows L2
section
variable {X:Cx} {c P:Addr} {lp:Pos} {params:Arguments} {body:Expr} {scope:Scope}
end
section
variable {prog:Program} {w:World} {A:Around} {E:Value→Shared→Prop} {s:Shared}
theorem qiR {R:Value→Shared→Prop} {f c' a:Addr} {name qual x:Str} {params:Arguments} {scope:Scope} {pm ctv:Value} {its:List Value} {k:Int} {t:Tok} {px pk ps:Pos} {kk:Nat} (hroom:A.depth<recursionLimit)
    (hf:s.heap.get? f=some (PySem.W.kla_obj name qual params (.Subscript (.Name x px) (.Constant (.int 1) kk pk) ps) scope [] pm c' ctv)) (hrec:s.heap.CodeRec (.ref c') qual) (nl:s.heap.NoLimit)
    (hbind:bindArgs (PySem.W.kla_fn name qual params (.Subscript (.Name x px) (.Constant (.int 1) kk pk) ps) scope [] pm (.ref c') ctv) ⟨[.ref a],[]⟩=pure [(x,.ref a)])
    (hloc:scope.names.lookup x=some .local) (hco:scope.isCoroutine=false) (hgen:scope.isGenerator=false) (hk:scope.kind=.function) (hcell:∀ x∈scope.names,x.2≠.cell) (hd:(x == ("__debug__" : Str))=false)
    (ha:IsTup s.heap a its.toArray) (h2:its.length=2) (hi:its[1]?=some (.int k t))
    (h:∀ h' tk,(∀ b o,s.heap.get? b=some o→h'.get? b=some o)→R (.int k t) { s with heap:=h',toks:=tk }):wpAny (model prog w) A (call (.ref f) [.ref a]) R E s:=by
  refine wpAny_call (PySem.W.kla_callFunE hroom hf rfl hco hgen rfl hrec ?_)
  show wpAny _ _ (bindArgs (PySem.W.kla_fn name qual params (.Subscript (.Name x px) (.Constant (.int 1) kk pk) ps) scope [] pm (.ref c') ctv) ⟨[.ref a],[]⟩) _ _ _
  rw [hbind]
  refine wpAny_pure (wpAny_newFunctionEnv hcell (fun y hy=>by rw [List.mem_singleton.mp hy];exact hloc) (fun h₁ hns hsb=>⟨nl.fresh _ hsb,?_⟩) hk)
  have kp:∀ b o,s.heap.get? b=some o→h₁.get? b=some o:=fun b o e=>hsb.extBut b o (Nat.ne_of_lt (Heap.lt_size e)) (Heap.get?_push_of_some _ e)
  have ha1:IsTup h₁ a its.toArray:=by
    obtain ⟨o,e,r⟩:=ha
    exact ⟨o,kp _ _ e,r⟩
  refine PySem.W.kla_codeExpr ?_
  refine Subscript_ (wpAny_Name (wpAny_loadName_local hk ?_ hns (v:=.ref a) ?_ ?_) hd)
  · exact hloc
  · show [(x,Value.ref a)].reverse.lookup x=_
    simp
  · refine wpAny_Constant_int ?_
    refine subscriptTail_builtinR (x:=.int k t) ha1.typeIs slot_tuple_getitem.lookup (getItem_tuple (j:=1) ha1 (by decide) (by decide) (by rw [List.size_toArray,h2];rfl) (by simpa using hi) ⟨rfl,h h₁ _ kp⟩) rfl
end
theorem qiS {T:List (Int×V×Value)} (h:∀ t∈T,RelV t.2.1 t.2.2):Vals (T.map fun t=>t.2.1) (T.map fun t=>t.2.2):=by
  induction T with
  | nil=>exact .nil
  | cons t T ih=>exact .cons (h t (List.mem_cons_self ..)) (ih fun u hu=>h u (List.mem_cons_of_mem _ hu))
theorem qmM {us:List V} {its:List Value} (r:Vals us its):∀ kz:List Int,(∀ t∈kz.zip (us.zip its),RelV t.2.1 t.2.2)∧kz.zip its=(kz.zip (us.zip its)).map (fun t=>(t.1,t.2.2))∧kz.zip us=(kz.zip (us.zip its)).map fun t=>(t.1,t.2.1):=by
  induction r with
  | nil=>intro kz;cases kz <;> exact ⟨(fun _ h=>nomatch h),rfl,rfl⟩
  | cons h t ih=>
    intro kz
    cases kz with
    | nil=>exact ⟨(fun _ h=>nomatch h),rfl,rfl⟩
    | cons k kz=>
      obtain ⟨a,b,c⟩:=ih kz
      refine ⟨fun t ht=>?_,?_,?_⟩
      · rcases List.mem_cons.mp ht with rfl | ht
        · exact h
        · exact a t ht
      · rw [List.zip_cons_cons,List.zip_cons_cons,List.zip_cons_cons,List.map_cons,b]
      · rw [List.zip_cons_cons,List.zip_cons_cons,List.zip_cons_cons,List.map_cons,c]
section
variable {X:Cx} {c P:Addr} {e:Expr} {te:TE} {p pos kp lp px pk ps:Pos} {params:Arguments} {scope:Scope} {x:Str} {kk:Nat}
end
end Bs
namespace Bs
open PySem L2
noncomputable def qhL:V→List V→Hp→VK→Prop:=fun x vs H Q=>∃ (l:Addr) (xs:List V) (y:V) (d:PySem.W.Dat) (ds:List PySem.W.Dat) (j:Nat),x=.ref l∧vs=[y]∧H l=some (.lst xs)∧RepD H y d∧RepA H xs ds∧PySem.W.kqdOk 8 d=true∧(∀ e∈ds,PySem.W.kqdOk 8 e=true)∧ds[j]?=some d∧(∀ i e,i<j→ds[i]?=some e→e≠d)∧Q .non (upd H l (.lst (xs.eraseIdx j)))
noncomputable abbrev qmm:R2:=rI (fun _ j=>0≤j) fun i j=>.int (i.fdiv (2 ^ j.toNat))
end Bs
namespace Bs
open PySem PySem.Spec PySem.Calls PySem.SeqAt PyProof.Rows L2
open AutoSeq1 (wpAny_loadPart')
theorem qeR (l:Addr) (items:Array Value) (n:Nat) (x:Value) (e:Value→Bool) (j:Nat) (hj:j<items.size) (hit:e items[j]=true) (k:Nat) (hs1:items.size≤sizeLine) :
    ∀ i:Nat,j - i=k→i≤j→(∀ m (hm:m<items.size),i≤m→m<j→e items[m]=false)→Meets (Builtin.«list.remove.loop» ⟨[.ref l,x,rawInt i],[]⟩)
      (fun A R s=>s.heap.get? l=some { cls:=.type "list", dict:=none,data:=.seq items n,slots:=#[] }∧(∀ y,y∈items→EqAt A.in1 s y x (e y))∧R (.ok (.ret .none)) { s with heap:=s.heap.update l (Obj.mapSeq fun xs=>xs.eraseIdxIfInBounds j) }):=by
  induction k with
  | zero=>
    intro i hk hij hno prog w A R s h
    obtain ⟨hp,g,d,tk,os⟩:=s;obtain ⟨hl,he,h⟩:=h
    have hij':i=j:=by omega
    subst hij'
    wp_walk using wpAny_loadPart' hl
    have hi:items[((i:Nat):Int).toNat]?=some items[i]:=by simp [hj]
    rw [hi]
    refine wpAny_bind (he _ (Array.getElem_mem hj) prog w _ _ ?_)
    rw [hit]
    have hz':(items.eraseIdxIfInBounds i).size≤sizeLine+1:=Nat.le_trans (MeetsSeq.size_erased items _) (Nat.le_succ_of_le hs1)
    wp_walk using (wpAny_updateSeq hl rfl (hz:=hs1) (_hz':=hz')),wpAny_loadPart' hl
    simpa using h
  | succ k ih=>
    intro i hk hij hno prog w A R s h
    obtain ⟨hp,g,d,tk,os⟩:=s;obtain ⟨hl,he,h⟩:=h
    have hlt:i<items.size:=by omega
    wp_walk using wpAny_loadPart' hl
    have hi:items[((i:Nat):Int).toNat]?=some items[i]:=by simp [hlt]
    have hc:((i:Int)+1)=((i+1:Nat):Int):=by push_cast;rfl
    rw [hi]
    refine wpAny_bind (he _ (Array.getElem_mem hlt) prog w _ _ ?_)
    rw [hno i hlt (Nat.le_refl _) (by omega)]
    wp_walk
    rw [hc]
    exact ⟨plainId_quiet MeetsSeq.plain_remove_loop _,codeAny_builtin MeetsSeq.entry_remove_loop (by
      rw [Around.under_plainId MeetsSeq.plain_remove_loop _]
      exact ih (i+1) (by omega) (by omega) (fun m hm h1 h2=>hno m hm (by omega) h2) prog w A R _ ⟨hl,he,h⟩)⟩
theorem qeS (l:Addr) (items:Array Value) (n:Nat) (x:Value) (e:Value→Bool) (j:Nat) (hj:j<items.size) (hit:e items[j]=true) (hno:∀ m (hm:m<items.size),m<j→e items[m]=false) (hs1:items.size≤sizeLine) :
    Meets (Builtin.«list.remove» ⟨[.ref l,x],[]⟩)
      (fun A R s=>s.heap.get? l=some { cls:=.type "list", dict:=none,data:=.seq items n,slots:=#[] }∧(∀ y,y∈items→EqAt A.in1 s y x (e y))∧R (.ok (.ret .none)) { s with heap:=s.heap.update l (Obj.mapSeq fun xs=>xs.eraseIdxIfInBounds j) }):=by
  intro prog w A R s h
  obtain ⟨hp,g,d,tk,os⟩:=s;obtain ⟨hl,he,h⟩:=h
  wp_walk using wpAny_loadPart' hl
  exact ⟨plainId_quiet MeetsSeq.plain_remove_loop _,codeAny_builtin MeetsSeq.entry_remove_loop (by
    rw [Around.under_plainId MeetsSeq.plain_remove_loop _]
    exact qeR l items n x e j hj hit _ hs1 0 rfl (Nat.zero_le _) (fun m hm _ h2=>hno m hm h2) prog w A R _ ⟨hl,he,h⟩)⟩
theorem qjs:∀ ds:List PySem.W.Dat,PySem.W.kqdPs ds=ds.map PySem.W.kqdP:=by
  intro ds
  induction ds with
  | nil=>rfl
  | cons d ds ih=>rw [PySem.W.kqdPs,ih];rfl
theorem qep:∀ {xs:List V} {vs:List Value},Vals xs vs→∀ j:Nat,Vals (xs.eraseIdx j) (vs.eraseIdx j)
  | _,_,.nil,_=>.nil
  | _,_,.cons _ t,0=>t
  | _,_,.cons h t,j+1=>.cons h (qep t j)
theorem qhM {X:Cx} (hu:X.A.units+64<cLine):MtM X "list.remove" qhL:=by
  intro pins s σ H x vs v us Q I rx rv h
  obtain ⟨l,xs,y,d,ds,j,rfl,rfl,hH,r1,r2,k1,k2,hj,hb,q⟩:=h
  cases rx
  obtain ⟨u,rfl,ru⟩:=rv.one
  obtain ⟨as,q1⟩:=qbG I r1 ru
  obtain ⟨z,its,n,r,hl,e⟩:=I.lstM hH
  obtain ⟨bs,q2⟩:=qeP I r2 r
  have lL:=PySem.W.kqd_layL k2
  have ld:=PySem.W.kqd_lay 8 d k1
  have l2:=ld.2
  have zi:its.toArray.size≤sizeLine:=by rw [List.size_toArray,← hl];exact z
  have rd:its.map (readOf s.heap)=ds.map PySem.W.kqdP:=by rw [← qjs];exact readsAll_map _ _ _ lL.1 q2
  have ln:its.length=ds.length:=by have:=congrArg List.length rd;simpa using this
  have at_:∀ m (hm:m<its.length),readOf s.heap its[m]=PySem.W.kqdP (ds[m]'(by omega)):=fun m hm=>by
    have:=congrArg (fun t=>t[m]?) rd
    simp only [List.getElem?_map] at this
    rw [List.getElem?_eq_getElem hm,List.getElem?_eq_getElem (by omega)] at this
    exact Option.some.inj this
  have one:∀ f,f∈ds→(PyData.eqv (PySem.W.kqdP f) (PySem.W.kqdP d)=true↔f=d):=fun f hf=>by
    have:=PySem.W.kqd_any [f] d (fun e he=>by rw [List.mem_singleton.mp he];exact k2 f hf) k1
    rw [qjs] at this
    simp only [List.map_cons,List.map_nil,List.any_cons,List.any_nil,Bool.or_false,List.mem_singleton] at this
    rw [this];exact eq_comm
  have jl:j<ds.length:=(List.getElem?_eq_some_iff.mp hj).1
  have jd:ds[j]=d:=(List.getElem?_eq_some_iff.mp hj).2
  have jz:j<its.toArray.size:=by rw [List.size_toArray];omega
  have M:=qeS l its.toArray n u (fun y=>PyData.eqv (readOf s.heap y) (PySem.W.kqdP d)) j jz (by
    show PyData.eqv (readOf s.heap its.toArray[j]) _=true
    have:its.toArray[j]=its[j]'(by omega):=by simp
    rw [this,at_ j (by omega),one _ (List.getElem_mem _)];exact jd) (fun m hm hlt=>by
    show PyData.eqv (readOf s.heap its.toArray[m]) _=false
    have hm':m<its.length:=by rw [List.size_toArray] at hm;exact hm
    have:its.toArray[m]=its[m]:=by simp
    rw [this,at_ m hm',Bool.eq_false_iff]
    intro z
    rw [one _ (List.getElem_mem _)] at z
    exact hb m _ hlt (List.getElem?_eq_getElem (by omega)) z) zi
  refine call_meets F.slot_list_remove ⟨_,e,rfl⟩ F.entry_list_remove (F.args_list_remove_2 _ _) M ⟨e,items_eqAt (A:=X.A) (by simpa using q2) q1 lL.1 ld.1 ?_,?_⟩
  · have:=Nat.min_le_right (PyData.depthAll (PySem.W.kqdPs ds)) (PySem.W.kqdP d).depth
    omega
  · refine ⟨.non,_,I.lset (its':=its.eraseIdx j) hH e ?_ ?_ ?_,rfl,q⟩
    · apply Array.ext'
      simp [Array.toList_eraseIdxIfInBounds]
    · exact qep r j
    · exact Nat.le_trans (List.length_eraseIdx_le ..) z
theorem op_shr {X:Cx}:OpR X (binaryOp .RShift) qmm:=opI fun _ _ _ _ _ _ _ hc q=>rshift_int hc q
end Bs
namespace Bs
open PySem PySem.Spec PyProof.Rows L2
theorem Cal.pe0 {X:Cx} {n m:Nat} {x:Str} {ps:List Str} {sp:Sp} {p pos:Pos} (C:Cal X.prog X.w X.K X.mg X.base n x ps sp) (hr:Room m X.A) (hn:n≤m) (hg:Gl X x) (hdb:(x == ("__debug__" : Str))=false:=by decide):PE X (.Call (.Name x p) [] [] pos) (qap sp [] E0 qan):=by
  obtain ⟨f,fd,F,b,k,m⟩:=C.ex
  exact qiy F (hr.mono hn) hg m k b .nil qkU hdb
end Bs
namespace L2
open PySem PySem.Spec PyProof.Rows
theorem qhN {T:Addr} {P:Program} {w:World} {K:W.Frag} {mg mb:Str→Option Value} {CX:CXT} {k:Nat} {fa a:Addr} {fd:FuncData} {x:Str} {sp:Sp} {s₁:Shared} {vs:List Value} {ns:List Int}
    (KX:K.In s₁.heap) (hns:s₁.heap.Ns mainGlobals mg) (hb:s₁.heap.Ns builtinsNs mb) (hbb:∀ x:Str,x ≠ "__name__" → mb x=bootBuiltins x) (hlim:s₁.heap.NoLimit) (hseer:s₁.heap.NoSeer) (htree:(model P w).prog.given.tree=none) (hg:s₁.gens=#[])
    (ha:s₁.heap.get? a=some { cls:=.type "list", data:=.seq vs.toArray }) (hi:IntsAre vs ns) (hl:ns.length≤sizeLine) (hr:Room k callerA)
    (F:∀ base:Heap,K.In base→base.Ns mainGlobals mg→FnOk P w K mg base CX k fa fd [x] sp) (hbind:∀ (s:Shared) (u:Value),BindsTo s fd ⟨[u],[]⟩ [(x,u)])
    (hKT:K.lookup T=none) (hT:s₁.heap.get? T=some { cls:=.none,data:=.fields #[] }) (hcT:isCodeTable s₁.heap T) (hsp:∀ H:Hp,H T=some (.tbl #[])→SqL K H a (ns.map V.int)→sp [.ref a] H (fun v _=>v=.bl true) fun _ _ _=>False)
    (hCX:∀ H e s',CX [] H s₁ (fun _ _ _=>False) e s'→False) :
    codeAny (model P w) callerA (.call (.ref fa) ⟨[.ref a],[]⟩) (fun r s'=>r=.ok (.ret (.bool true))∧OldK s₁.heap s'.heap∧s'.os=s₁.os∧AllBare s'.gens) s₁:=by
  have rv:=qdN hi
  have lenV:=hi.length
  have aT:a≠T:=fun z=>by rw [z,hT] at ha;cases ha
  have core:∀ H:Hp,(∀ b,b≠T→H b=none∨∃ o xs,H b=some (.frz o (.lst xs)))→H T=some (.tbl #[])→SqL K H a (ns.map V.int)→HOk P w H s₁.heap→(∀ b,H b≠none→b=a∨b=T)→(H a≠none→K.lookup a=none)→
      codeAny (model P w) callerA (.call (.ref fa) ⟨[.ref a],[]⟩) (fun r s'=>r=.ok (.ret (.bool true))∧OldK s₁.heap s'.heap∧s'.os=s₁.os∧AllBare s'.gens) s₁:=by
    intro H hO hHT hS hok hA hK
    have base_of:∀ {b:Addr} {o:Obj},s₁.heap.get? b=some o→H b=none→(qip s₁.heap H).get? b=some o:=fun e n=>qis e n
    have noA:∀ {b:Addr} {o:Obj} {es:Array DictEntry} {ep:Nat},s₁.heap.get? b=some o→o.data=.dict es ep→H b=none:=fun {b o es ep} e d=>by
      cases q:H b with
      | none=>rfl
      | some u=>
        rcases hA b (by rw [q];simp) with e' | e'
        · subst e'
          rw [ha] at e;cases e
          have d':Data.seq vs.toArray _=Data.dict es ep:=d
          cases d'
        · subst e'
          rw [hT] at e;cases e
          cases d
    have nsK:∀ {b:Addr} {m:Str→Option Value},s₁.heap.Ns b m→(qip s₁.heap H).Ns b m:=fun {b m} ⟨o,es,ep,e,d,r⟩=>⟨o,es,ep,base_of e (noA e d),d,r⟩
    have hKb:K.In (qip s₁.heap H):=fun b o e=>base_of (KX b o e) (by
      cases q:H b with
      | none=>rfl
      | some u=>
        rcases hA b (by rw [q];simp) with e' | e'
        · subst e'
          rw [hK (by rw [q];simp)] at e;cases e
        · subst e'
          rw [hKT] at e;cases e)
    have hM:Mod K mg (qip s₁.heap H):=⟨hKb,nsK hns,⟨mb,nsK hb,hbb⟩,let ⟨mc,h1,h2⟩:=hlim;⟨mc,nsK h1,h2⟩⟩
    have hSe:(qip s₁.heap H).NoSeer:=⟨let ⟨mc,a,b⟩:=hseer.statics;⟨mc,nsK a,b⟩,let ⟨mc,a,b⟩:=hseer.mods;⟨mc,nsK a,b⟩,let ⟨mc,a,b⟩:=hseer.imp;⟨mc,nsK a,b⟩,
      let ⟨mg',bm,ob,a',b',c',d',e'⟩:=hseer.main;⟨mg',bm,ob,nsK a',b',base_of c' (by
        cases q:H bm with
        | none=>rfl
        | some u=>
          rcases hA bm (by rw [q];simp) with z | z
          · subst z
            rw [ha] at c';cases c'
            simp at d'
          · subst z
            rw [hT] at c';cases c'
            simp at d'),d',e'⟩⟩
    have e0:Env0 P w K mg (qip s₁.heap H) callerA [] s₁ H:=⟨rfl,hM,fun b o e=>qjF e,Nat.le_of_eq (qg9 _ _),trivial,fun b hb=>absurd (show b∈([]:List Addr) from hb) (by simp),hok,.of_eq hg,hSe,htree⟩
    refine codeAny_mono ((F _ hKb (nsK hns)).run callerA [] s₁ H ⟨[.ref a],[]⟩ [.ref a] [.ref a] _ _ hr e0 (hbind s₁ (.ref a)) (.cons rfl .nil) (hsp H hHT hS)) fun r s' h=>?_
    cases r with
    | error e=>exact (hCX H e s' h).elim
    | ok fl=>
      cases fl with
      | next=>exact False.elim h
      | brk=>exact False.elim h
      | cont=>exact False.elim h
      | ret u=>
        obtain ⟨v,H',os,bare,un,hok',r',q⟩:=h
        have q':v=.bl true:=q
        subst q'
        obtain rfl:u=Value.bool true:=r'
        have kpt:∀ b o,b≠T→s₁.heap.get? b=some o→s'.heap.get? b=some o:=fun b o bT e=>by
          cases q:H b with
          | none=>exact un.keep b o e q (by intro z;exact absurd (show b∈([]:List Addr) from z) (by simp)) (by simp)
          | some u=>
            rcases hO b bT with z | ⟨ob,xs,z⟩
            · rw [q] at z;cases z
            · have z2:=un.frzs b ob _ z
              obtain ⟨e1,_⟩:=hok b _ z
              obtain ⟨e2,_⟩:=hok' b _ z2
              rw [e] at e1;cases e1
              exact e2
        obtain ⟨more,hmore⟩:=un.tbls T _ hHT
        have hT':s'.heap.get? T=some { cls:=.none,data:=.fields (#[]++more) }:=hok' T _ hmore
        refine ⟨rfl,⟨fun b o e=>?_,fun b o e=>?_⟩,os,bare⟩
        · by_cases bT:b=T
          · subst bT
            rw [hT] at e;cases e
            exact .inr (.inl ⟨hcT,rfl,#[],more,rfl,hT'⟩)
          · exact .inl (kpt b o bT e)
        · by_cases bT:b=T
          · exact ⟨_,by rw [bT];exact hT'⟩
          · exact ⟨o,kpt b o bT e⟩
  cases hk:K.lookup a with
  | some o=>
    have e:=KX a o hk
    rw [ha] at e
    cases e
    refine core (fun b=>if b=T then some (.tbl #[]) else none) (fun b bT=>.inl (if_neg bT)) (if_pos rfl) (.inr ⟨_,vs.toArray,_,hk,rfl,rfl,rfl,by rw [List.size_toArray,lenV];exact hl,by simpa using rv⟩) (fun b u z=>?_) (fun b z=>?_) fun z=>absurd (if_neg aT) z
    · by_cases hb:b=T
      · have z':=(if_pos hb).symm.trans z
        cases z'
        rw [hb];exact hT
      · have z':=(if_neg hb).symm.trans z
        cases z'
    · by_cases hb:b=T
      · exact .inr hb
      · exact absurd (if_neg hb) z
  | none=>
    have fa':(fun b=>if b=T then some (HO.tbl #[]) else if b=a then some (.frz { cls:=.type "list", data:=.seq vs.toArray } (.lst (ns.map V.int))) else none) a=some (.frz { cls:=.type "list", data:=.seq vs.toArray } (.lst (ns.map V.int))):=by
      show (if a=T then _ else _)=_
      rw [if_neg aT,if_pos rfl]
    refine core (fun b=>if b=T then some (.tbl #[]) else if b=a then some (.frz { cls:=.type "list", data:=.seq vs.toArray } (.lst (ns.map V.int))) else none) (fun b bT=>?_) (if_pos rfl) (.inl (.inr ⟨{ cls:=.type "list", data:=.seq vs.toArray },fa'⟩)) (fun b u z=>?_) (fun b z=>?_) fun _=>hk
    · show (if b=T then _ else _)=none∨∃ o xs,(if b=T then _ else _)=some _
      rw [if_neg bT]
      by_cases hb:b=a
      · exact .inr ⟨_,_,if_pos hb⟩
      · exact .inl (if_neg hb)
    · have z:(if b=T then some (HO.tbl #[]) else if b=a then some (.frz { cls:=.type "list", data:=.seq vs.toArray } (.lst (ns.map V.int))) else none)=some u:=z
      by_cases hT2:b=T
      · rw [if_pos hT2] at z
        cases z
        rw [hT2];exact hT
      · rw [if_neg hT2] at z
        by_cases hb:b=a
        · rw [if_pos hb] at z
          cases z
          subst hb
          exact ⟨ha,by rw [List.length_map];exact hl,vs,_,rv,ha⟩
        · rw [if_neg hb] at z
          cases z
    · by_cases hT2:b=T
      · exact .inr hT2
      · by_cases hb:b=a
        · exact .inl hb
        · exact absurd ((if_neg hT2).trans (if_neg hb)) z
theorem walk_ofT {T:Addr} {l:PySem.W.OpenLaw} {n k:Nat} {q:Program} {loose:List Str} {XP:(Str→Option Value)→Heap→Prop} {YP:World→Heap→Prop} {d:DefRec} {K:Params→W.Frag} {CX:World→CXT} {sp:World→Sp} {x:Str}
    (hn:l.most=some n) (hn2:n≤sizeLine) (hdf:d.params.defaults=[]) (hq:importsNone q=true) (htree:∀ w,(model l.prog w).prog.given.tree=none) (hr:Room k callerA)
    (hY:∀ (w:World) (h:Heap),YP w h→(K w.params).In h)
    (F:∀ (w:World) (mg:Str→Option Value) (fa:Addr) (h:Heap),(K w.params).In h→h.Ns mainGlobals mg→mg d.name=some (.ref fa)→
      ∃ fd:FuncData,(∀ (s:Shared) (u:Value),BindsTo s fd ⟨[u],[]⟩ [(x,u)])∧
        ∀ base:Heap,(K w.params).In base→base.Ns mainGlobals mg→FnOk l.prog w (K w.params) mg base (CX w) k fa fd [x] (sp w))
    (hKT:∀ w:World,(K w.params).lookup T=none) (hT:∀ (w:World) (h:Heap),YP w h→h.get? T=some { cls:=.none,data:=.fields #[] }∧isCodeTable h T) (hsp:∀ (w:World) (H:Hp) (a:Addr) (ns:List Int),ns.length≤n→H T=some (.tbl #[])→SqL (K w.params) H a (ns.map V.int)→sp w [.ref a] H (fun v _=>v=.bl true) fun _ _ _=>False)
    (hCX:∀ (w:World) (H:Hp) (s:Shared) (e:Value) (s':Shared),CX w [] H s (fun _ _ _=>False) e s'→False) :
    PySem.W.WalkO q loose XP YP l.row.toRowW d [] (fun f vs=>PySem.call f vs):=by
  refine Att.attach_call hn hdf fun w s₀ s₁ mg mb fa o pm cd doc a vs ns G Y ho hd hcd hmg hobj hints hlen hg=>?_
  have KX:=hY w _ Y
  obtain ⟨fd,hb,hF⟩:=F w mg fa _ KX G.T.g hmg
  exact qhN (T:=T) KX G.T.g G.T.b G.T.builtins G.T.nolimit (G.T.seer hq) (htree w) hg hobj hints (Nat.le_trans hlen hn2) hr hF hb (hKT w) (hT w _ Y).1 (hT w _ Y).2 (fun H hO hS=>hsp w H a ns hlen hO hS) fun H e s'=>hCX w H s₁ e s'
end L2
namespace Bs
open PySem L2
noncomputable def TabOk (hit:Array Value→Addr→Prop) (code:Addr→Heap→Prop) (P:Addr) (H:Hp):Prop:=∃ ps,H P=some (.tbl ps)∧(ps=#[]∨∃ c,hit ps c∧H c=some (.ext (code c)))
noncomputable def qeT (hit:Array Value→Addr→Prop) (code:Addr→Heap→Prop) (P:Addr) (te:TE):TE:=fun σ H Q=>te σ H fun x H1=>∃ (l:Addr) (us:List V) (kz:List Int),x=.ref l∧H1 l=some (.lst us)∧us.length<64∧qll H1 us kz∧TabOk hit code P H1∧
  ∀ (r:Addr) (qs:List (Int×V)) (H2:Hp),H1 r=none→qs.Perm (kz.zip us)→qs.Pairwise (fun p q=>p.1≤q.1)→Kp P H1 H2→TabOk hit code P H2→H2 r=some (.lst (qs.map (·.2)))→Q (.ref r) H2
theorem TabOk.keep {hit:Array Value→Addr→Prop} {code:Addr→Heap→Prop} {P:Addr} {H H':Hp} (h:TabOk hit code P H) (k:∀ b o,(∀ xs,o≠.lst xs)→H b=some o→H' b=some o):TabOk hit code P H':=by
  obtain ⟨ps,e,r⟩:=h
  refine ⟨ps,k _ _ (fun xs z=>by cases z) e,r.imp id fun ⟨c,a,b⟩=>⟨c,a,k _ _ (fun xs z=>by cases z) b⟩⟩
theorem TabOk.same {hit:Array Value→Addr→Prop} {code:Addr→Heap→Prop} {P:Addr} {H H':Hp} (h:TabOk hit code P H) (s:Same H H'):TabOk hit code P H':=h.keep fun b o _ e=>s b o e
theorem TabOk.ne {hit:Array Value→Addr→Prop} {code:Addr→Heap→Prop} {P b:Addr} {H:Hp} {xs:List V} (h:TabOk hit code P H) (e:H b=some (.tup xs)∨H b=some (.lst xs)):b≠P:=by
  obtain ⟨ps,q,_⟩:=h
  rcases e with e | e
  · exact qeF e q (by intro z;cases z)
  · exact qeF e q (by intro z;cases z)
end Bs
namespace Bs
open PySem PySem.Spec PyProof.Rows L2
section
variable {X:Cx} {c P:Addr} {lp:Pos} {params:Arguments} {body:Expr} {scope:Scope}
theorem qeU {h h':Heap} {c':Addr} {q:Str} (r:h.CodeRec (.ref c') q) (k:∀ o,h.get? c'=some o→h'.get? c'=some o):h'.CodeRec (.ref c') q:=by
  obtain ⟨c2,o,vs,t,e1,e2,e3,e4⟩:=r
  cases e1
  exact ⟨_,o,vs,t,rfl,k _ e2,e3,e4⟩
theorem qlm {prog:Program} {w:World} {H:Hp} {h:Heap} {c':Addr} {q:Str} (r:h.CodeRec (.ref c') q):ObjOk prog w H h c' (.ext fun h=>h.CodeRec (.ref c') q):=⟨r,by
  obtain ⟨c2,o,vs,t,e1,e2,_⟩:=r
  cases e1
  exact ⟨o,e2⟩,fun h1 h2 r1 k=>qeU r1 k⟩
theorem qhO {pins:List (Addr×Obj)} {s:Shared} {σ:L2.St} {H:Hp} {Q:Value→Shared→Prop} {E:Value→Shared→Prop} {ps:Array Value} (I:Inv X pins σ H s) (hcode:X.env.code=.ref c) (hC:PySem.W.CodeHd X.base c P) (hbt:X.base.BuiltinsAt X.mg P)
    (hcl:closureFor scope X.env=pure []) (hdef:defaultsOf params X.env=([],[])) (hP:H P=some (.tbl ps)) (ht:TriplesOk ps.toList) (hnf:codeAmong lp ps.toList=none)
    (k:∀ (f c':Addr) (ctv:Value) (h':Heap) (tk:Nat),H c'=none→Inv X pins σ (upd (upd H P (.tbl (ps++#[rawInt lp.line,rawInt lp.col,.ref c']))) c' (.ext fun h=>h.CodeRec (.ref c') (X.env.qual ++ "<lambda>"))) { s with heap:=h',toks:=tk }→h'.get? f=some (PySem.W.kla_obj "<lambda>" (X.env.qual ++ "<lambda>") params body scope [] ((X.mg "__name__").getD .none) c' ctv)→h'.CodeRec (.ref c') (X.env.qual ++ "<lambda>")→s.heap.objs.size≤f→h'.objs.size=f+1→Q (.ref f) { s with heap:=h',toks:=tk }) :
    wpAny (model X.prog X.w) X.A (eval (.Lambda params body scope lp) X.env) Q E s:=by
  refine PySem.W.kla_eval hdef ?_
  have hPh:s.heap.get? P=some (PySem.W.tabObj ps):=I.hok P _ hP
  have gP:mainGlobals≠P:=fun z=>by
    obtain ⟨o,es,ep,e,_⟩:=I.mod.glob
    have:=(I.bs _ o e).2
    rw [z,hP] at this;cases this
  refine PySem.W.kla_makeFunction (mg:=X.mg) hcl I.ok.glob (I.mod.glob.keeps I.bk) hcode (hC.keeps I.bk) hPh ht hnf gP (hbt.keeps I.bk) fun c' ctv h' tk hx hge hlt hrec htb=>?_
  have fr:H c'=none:=I.hok.fresh hge
  have kk:∀ (o':Obj) b o,b≠P→s.heap.get? b=some o→(h'.push o').get? b=some o:=fun o' b o n e=>Heap.get?_push_of_some _ (hx b o n e)
  have hP':∀ o',(h'.push o').get? P=some (PySem.W.tabObj (ps++#[rawInt lp.line,rawInt lp.col,.ref c'])):=fun o'=>Heap.get?_push_of_some _ htb
  have LP:X.env.locals≠P:=fun z=>by have:=I.free;rw [z,hP] at this;cases this
  have hr':∀ o',(h'.push o').CodeRec (.ref c') (X.env.qual ++ "<lambda>"):=fun o'=>qeU hrec fun o e=>Heap.get?_push_of_some _ e
  have two:∀ {b:Addr} {o:HO},b≠P→H b=some o→upd (upd H P (.tbl (ps++#[rawInt lp.line,rawInt lp.col,.ref c']))) c' (.ext fun h=>h.CodeRec (.ref c') (X.env.qual ++ "<lambda>")) b=some o:=fun n e=>by
    rw [qai (qah e fr),qai n];exact e
  refine k h'.objs.size c' ctv _ tk fr ?_ (Heap.get?_push_size _ rfl) (hr' _) (Nat.le_of_lt (Nat.lt_of_le_of_lt hge hlt)) (Heap.size_push ..)
  refine I.step (g':=s.gens) (d':=s.drawn) (t':=tk) (ch:=[]) (fun _ z=>nomatch z) (fun b o n _ _ e hn=>kk _ b o (fun z=>by rw [z,hP] at hn;cases hn) e) (fun b o n _ _ e hn=>⟨o.slots,kk _ b o (fun z=>by rw [z,hP] at hn;cases hn) e⟩) (fun b o _ e n=>?_) (fun b o _ e=>?_) (fun b xs e=>two (qeF e hP (by intro z;cases z)) e) (fun b o u e=>two (qeF e hP (by intro z;cases z)) e) (fun b qs e=>?_) (fun m hm=>(hm.extBut hx LP).push _) (fun b o e=>?_) I.bare
  · rw [qai (Nat.ne_of_lt (Nat.lt_of_lt_of_le (Heap.lt_size e) hge)),qai (fun z=>by rw [z,hP] at n;cases n)];exact n
  · by_cases hb:b=P
    · exact ⟨_,by rw [hb];exact hP' _⟩
    · exact ⟨o,kk _ b o hb e⟩
  · by_cases hb:b=P
    · subst hb
      rw [hP] at e;cases e
      exact ⟨_,by rw [qai (qah hP fr),qab]⟩
    · exact ⟨#[],by rw [two hb e];simp⟩
  · by_cases hc:b=c'
    · subst hc
      rw [qab] at e;cases e
      exact qlm (hr' _)
    · rw [qai hc] at e
      by_cases hb:b=P
      · subst hb
        rw [qab] at e;cases e
        exact hP' _
      · rw [qai hb] at e
        refine (I.hok b o e).stay (fun d u hd e'=>kk _ d u ?_ e') (fun d e'=>two (qeF e' hP (by intro z;cases z)) e') fun d xs e'=>two (qeF e' hP (by intro z;cases z)) e'
        rintro rfl
        rcases hd with z | z
        · exact hb z.symm
        · rw [hP] at z;cases z
theorem qke {pins:List (Addr×Obj)} {s:Shared} {σ:L2.St} {H:Hp} {Q:Value→Shared→Prop} {E:Value→Shared→Prop} {ps:Array Value} {c':Addr} (I:Inv X pins σ H s) (hcode:X.env.code=.ref c) (hC:PySem.W.CodeHd X.base c P) (hbt:X.base.BuiltinsAt X.mg P)
    (hcl:closureFor scope X.env=pure []) (hdef:defaultsOf params X.env=([],[])) (hP:H P=some (.tbl ps)) (ht:TriplesOk ps.toList) (hf:codeAmong lp ps.toList=some (.ref c')) (hc':H c'=some (.ext fun h=>h.CodeRec (.ref c') (X.env.qual ++ "<lambda>")))
    (k:∀ (f:Addr) (ctv:Value) (h':Heap) (tk:Nat),Inv X pins σ H { s with heap:=h',toks:=tk }→h'.get? f=some (PySem.W.kla_obj "<lambda>" (X.env.qual ++ "<lambda>") params body scope [] ((X.mg "__name__").getD .none) c' ctv)→h'.CodeRec (.ref c') (X.env.qual ++ "<lambda>")→s.heap.objs.size≤f→h'.objs.size=f+1→Q (.ref f) { s with heap:=h',toks:=tk }) :
    wpAny (model X.prog X.w) X.A (eval (.Lambda params body scope lp) X.env) Q E s:=by
  refine PySem.W.kla_eval hdef ?_
  have hPh:s.heap.get? P=some (PySem.W.tabObj ps):=I.hok P _ hP
  refine PySem.W.kla_makeFunctionHit (mg:=X.mg) hcl I.ok.glob (I.mod.glob.keeps I.bk) hcode (hC.keeps I.bk) hPh ht hf (hbt.keeps I.bk) fun ctv h' tk hx hge=>?_
  have kk:∀ (o':Obj) b o,s.heap.get? b=some o→(h'.push o').get? b=some o:=fun o' b o e=>Heap.get?_push_of_some _ (hx b o e)
  refine k h'.objs.size ctv _ tk ?_ (Heap.get?_push_size _ rfl) (qeU (I.hok c' _ hc').1 fun o e=>kk _ _ _ e) hge (Heap.size_push ..)
  exact I.step (g':=s.gens) (d':=s.drawn) (t':=tk) (ch:=[]) (fun _ z=>nomatch z) (fun b o n _ _ e hn=>kk _ b o e) (fun b o n _ _ e hn=>⟨o.slots,kk _ b o e⟩) (fun b o _ e n=>n) (fun b o _ e=>⟨o,kk _ b o e⟩) (fun b xs e=>e) (fun b o u e=>e) (fun b qs e=>⟨#[],by rw [e];simp⟩) (fun m hm=>hm.keeps (kk _)) (fun b o e=>(I.hok b o e).stay (fun d u hd e'=>kk _ d u e') (fun d e'=>e') fun d xs e'=>e') I.bare
end
section
variable {X:Cx} {c P:Addr} {e:Expr} {te:TE} {p pos kp lp px pk ps:Pos} {params:Arguments} {scope:Scope} {x:Str} {kk:Nat}
theorem qhP {pins:List (Addr×Obj)} {s1:Shared} {σ:L2.St} {H2:Hp} {Q:VK} {f c' l:Addr} {ctv pm:Value} {h':Heap} {tk:Nat} {us:List V} {kz:List Int} {qual:Str} (hroom:X.A.in1.in1.depth<recursionLimit)
    (I2:Inv X pins σ H2 { s1 with heap:=h',toks:=tk }) (hf:h'.get? f=some (PySem.W.kla_obj "<lambda>" qual params (.Subscript (.Name x px) (.Constant (.int 1) kk pk) ps) scope [] pm c' ctv)) (hrec:h'.CodeRec (.ref c') qual) (fL:f≠X.env.locals) (fsz:h'.objs.size=f+1)
    (hl2:H2 l=some (.lst us)) (l64:us.length<64) (kl:kz.length=us.length) (kof:∀ (i:Nat) (u:V) (k:Int),us[i]?=some u→kz[i]?=some k→∃ a y,u=.ref a∧H2 a=some (.tup [y,.int k]))
    (hbind:∀ (qual:Str) (pm:Value) (c' a:Addr) (ctv:Value),bindArgs (PySem.W.kla_fn "<lambda>" qual params (.Subscript (.Name x px) (.Constant (.int 1) kk pk) ps) scope [] pm (.ref c') ctv) ⟨[.ref a],[]⟩=pure [(x,.ref a)])
    (hloc:scope.names.lookup x=some .local) (hco:scope.isCoroutine=false) (hgen:scope.isGenerator=false) (hk:scope.kind=.function) (hcell:∀ x∈scope.names,x.2≠.cell) (hd:(x == ("__debug__" : Str))=false)
    (q:∀ (r:Addr) (qs:List (Int×V)),H2 r=none→qs.Perm (kz.zip us)→qs.Pairwise (fun p q=>p.1≤q.1)→Q (.ref r) (upd H2 r (.lst (qs.map (·.2))))) :
    wpAny (model X.prog X.w) X.A (call (.builtin "sorted") [.ref l] [(Str.ofString "key", .ref f)]) (EP X pins σ Q) X.xe { s1 with heap:=h',toks:=tk }:=by
  obtain ⟨its,rv,pl,hz⟩:=I2.list (SqL.of hl2)
  have hle:us.length=its.length:=rv.length
  obtain ⟨m,hn,_⟩:=id I2.loc
  refine ksk_sorted (h₀:=Att.noObjs h') (L:=X.env.locals) (m:=m) (news:=Att.ledger h' X.env.locals X.env.locals) (b:=false) (kz:=kz) (f:=.ref f) (Att.fr_all hn) (fun p hp=>?_) pl.isList (by omega) (by omega) (ksk_s1 _ _) (fun _=>ksk_l1 _ _) (fun x=>ksk_t1 _ _) (fun i v k hv hki h2 tk2 own F N=>?_) fun D h3 tk3 out cc F N lt ko=>?_
  · obtain ⟨n1,_,e⟩:=Att.mem_ledger.mp hp
    exact ⟨e,n1,Att.noObjs_get _ _⟩
  · have kb:∀ b o,b≠X.env.locals→h'.get? b=some o→h2.get? b=some o:=fun b o n e=>(N (b,o) (List.mem_append_left _ (Att.mem_ledger.mpr ⟨n,n,e⟩))).1
    obtain ⟨iu,hiu⟩:∃ u,us[i]?=some u:=⟨us[i]'(by have:=(List.getElem?_eq_some_iff.mp hv).1;omega),List.getElem?_eq_getElem _⟩
    obtain ⟨a,y,rfl,hay2⟩:=kof i iu k hiu hki
    obtain ⟨v',hv',rv'⟩:=rv.get hiu
    rw [hv] at hv';cases hv'
    cases rv'
    obtain ⟨ats,ra,pa,_⟩:=I2.tuple (SqT.of hay2)
    obtain ⟨v0,v1,rfl,_,t1,rfl⟩:=vals2 ra
    have aL:a≠X.env.locals:=fun z=>by have:=I2.free;rw [← z,hay2] at this;cases this
    have pa2:IsTup h2 a [v0,Value.int k t1].toArray:=by
      obtain ⟨o,e,r⟩:=pa
      exact ⟨o,kb _ _ aL e,r⟩
    obtain ⟨c2,oc,vc,tc,ec,hoc,d1,d2⟩:=hrec
    cases ec
    have cL:c'≠X.env.locals:=fun z=>by
      obtain ⟨o,es,ep,eo,ed,_⟩:=hn
      rw [z,eo] at hoc;cases hoc
      rw [ed] at d1;cases d1
    have kbase:∀ b o,X.base.get? b=some o→h2.get? b=some o:=fun b o e=>kb b o (Nat.ne_of_lt (Nat.lt_of_lt_of_le (Heap.lt_size e) (Nat.le_trans I2.ok.bsz I2.ok.above))) (I2.bk b o e)
    refine qiR (s:={ s1 with heap:=h2,toks:=tk2 }) hroom (kb _ _ fL hf) ⟨_,oc,vc,tc,rfl,kb _ _ cL hoc,d1,d2⟩ (I2.mod.nolimit.keeps kbase) (hbind _ _ _ _ _) hloc hco hgen hk hcell hd pa2 rfl rfl fun h4 tk4 kp4=>?_
    exact KskEnd.intro (F.kept kp4) (N.grown kp4) fun _ hp=>hp
  · have k3:∀ b o,b≠X.env.locals→h'.get? b=some o→h3.get? b=some o:=fun b o n e=>(N (b,o) (List.mem_cons_of_mem _ (Att.mem_ledger.mpr ⟨n,n,e⟩))).1
    have hD:h3.get? D=some (seqObj "list" out cc):=(N _ (List.mem_cons_self ..)).1
    have Dge:h'.objs.size≤D:=by have:=lt (f,_) (Att.mem_ledger.mpr ⟨fL,fL,hf⟩);rw [fsz];exact this
    have fr:=I2.hok.fresh Dge
    obtain ⟨qs0,pm,eo,srt⟩:=ko
    obtain ⟨rel,z1,z2⟩:=qmM rv kz
    obtain ⟨T',pT,eT⟩:=qgf pm _ z1
    have q:=q D (T'.map fun t=>(t.1,t.2.1)) fr (by rw [z2];exact pT.map _) (by
      rw [List.pairwise_map]
      rw [eT,List.pairwise_map] at srt
      exact srt.imp fun h=>by simpa using h)
    refine ⟨.ref _,_,?_,rfl,q⟩
    have ov:Vals ((T'.map fun t=>(t.1,t.2.1)).map (·.2)) out.toList:=by
      rw [eo,eT,List.map_map,List.map_map]
      exact qiS fun t ht=>rel t (pT.mem_iff.mp ht)
    have on:((T'.map fun t=>(t.1,t.2.1)).map (·.2)).length=us.length:=by
      rw [List.length_map,List.length_map,pT.length_eq,List.length_zip,List.length_zip,← hle,kl,Nat.min_self,Nat.min_self]
    refine I2.step (g':=s1.gens) (d':=s1.drawn) (t':=tk3) (ch:=[]) (fun _ z=>nomatch z) (fun b o n _ _ e _=>k3 b o n e) (fun b o n _ _ e _=>⟨o.slots,k3 b o n e⟩) (fun b o _ e n=>?_) (fun b o _ e=>?_) (fun b xs e=>?_) (fun b o u e=>?_) (fun b ps e=>⟨#[],?_⟩) (fun m' hm=>?_) (fun b o e=>?_) I2.bare
    · rw [qai (Nat.ne_of_lt (Nat.lt_of_lt_of_le (Heap.lt_size e) Dge))];exact n
    · by_cases hb:b=X.env.locals
      · obtain ⟨o',_,_,e',_⟩:=F.ns
        exact ⟨o',by rw [hb];exact e'⟩
      · exact ⟨o,k3 b o hb e⟩
    · rw [qai (qah e fr)];exact e
    · rw [qai (qah e fr)];exact e
    · rw [qai (qah e fr),e];simp
    · rw [show m'=m from funext fun x=>hm.agree hn x];exact F.ns
    · by_cases hb:b=D
      · subst hb
        rw [qab] at e;cases e
        exact ⟨by rw [on];exact hz,out.toList,cc,ov,by simpa using hD⟩
      · rw [qai hb] at e
        refine (I2.hok b o e).stay (fun c u hc e'=>k3 c u ?_ e') (fun c e'=>?_) fun c xs e'=>?_
        · rintro rfl
          rcases hc with z | z
          · rw [← z,I2.free] at e;cases e
          · rw [I2.free] at z;cases z
        · rw [qai (qah e' fr)];exact e'
        · rw [qai (qah e' fr)];exact e'
theorem qhQ (hcode:X.env.code=.ref c) (hC:PySem.W.CodeHd X.base c P) (hbt:X.base.BuiltinsAt X.mg P) (hroom:X.A.in1.in1.depth<recursionLimit) (hm:X.mg "sorted" = none) (ha:PE X e te)
    (hcl:closureFor scope X.env=pure []:=by rfl) (hdef:defaultsOf params X.env=([],[]):=by rfl)
    (hbind:∀ (qual:Str) (pm:Value) (c' a:Addr) (ctv:Value),bindArgs (PySem.W.kla_fn "<lambda>" qual params (.Subscript (.Name x px) (.Constant (.int 1) kk pk) ps) scope [] pm (.ref c') ctv) ⟨[.ref a],[]⟩=pure [(x,.ref a)]:=by intros;rfl)
    (hloc:scope.names.lookup x=some .local:=by rfl) (hco:scope.isCoroutine=false:=by rfl) (hgen:scope.isGenerator=false:=by rfl) (hk:scope.kind=.function:=by rfl) (hcell:∀ x∈scope.names,x.2≠.cell:=by decide) (hd:(x == ("__debug__" : Str))=false:=by decide)
    (hg:Gl X "sorted" := by rfl) (hs:starEach [e] X.env=(false,eval e X.env)::starEach [] X.env:=by rfl) (hb:backTo pos (starEach [e] X.env)=(false,eval e X.env)::backTo pos (starEach [] X.env):=by rfl) :
    PE X (.Call (.Name "sorted" p) [e] [⟨some "key", .Lambda params (.Subscript (.Name x px) (.Constant (.int 1) kk pk) ps) scope lp,kp⟩] pos) (qeT (fun ps c'=>TriplesOk ps.toList∧codeAmong lp ps.toList=some (.ref c')) (fun c' h=>h.CodeRec (.ref c') (X.env.qual ++ "<lambda>")) P te):=by
  intro pins s σ H Q I h
  refine wpAny_Call_Name_kw (qdF I hg hm qfn ?_ (by decide) (by decide))
  refine PyProof.Rows.callWith_kw ?_ hb (by rw [hb];rfl)
  rw [hb]
  refine Calls.spliced_cons (thn (ha pins s σ H _ I h) fun u s1 ⟨y,H1,I1,r1,q1⟩=>Calls.spliced_nil ?_)
  obtain ⟨l,us,kz,rfl,hl,l64,⟨kl,kof⟩,⟨tp,hP,cs⟩,q⟩:=q1
  cases r1
  have fL:∀ f,s1.heap.objs.size≤f→f≠X.env.locals:=fun f fge z=>by
    obtain ⟨m1,hn1,_⟩:=I1.loc
    have:=hn1.lt
    rw [← z] at this
    exact absurd fge (Nat.not_le.mpr this)
  show wpAny _ _ (evalAll ((do let v ← eval (.Lambda params (.Subscript (.Name x px) (.Constant (.int 1) kk pk) ps) scope lp) X.env;standAt pos;pure v)::[])) _ _ s1
  rcases cs with rfl | ⟨c',⟨ht,hit⟩,hc'⟩
  · refine wpAny_evalAll_cons (wpAny_bind (qhO I1 hcode hC hbt hcl hdef hP trivial rfl fun f c' ctv h' tk fr I2 hf hrec fge fsz=>wpAny_bind (wpAny_standAt (wpAny_pure (wpAny_evalAll_nil ?_)))))
    have two:∀ {b:Addr} {o:HO},b≠P→H1 b=some o→upd (upd H1 P (.tbl (#[]++#[rawInt lp.line,rawInt lp.col,.ref c']))) c' (.ext fun h=>h.CodeRec (.ref c') (X.env.qual ++ "<lambda>")) b=some o:=fun n e=>by
      rw [qai (qah e fr),qai n];exact e
    show wpAny _ _ (call (.builtin "sorted") [.ref l] [(Str.ofString "key", .ref f)]) _ _ _
    refine qhP hroom I2 hf hrec (fL f fge) fsz (two (qeF hl hP (by intro z;cases z)) hl) l64 kl (fun i u k hu hk=>?_) hbind hloc hco hgen hk hcell hd fun r qs hr pm so=>?_
    · obtain ⟨a,y,e1,e2⟩:=kof i u k hu hk
      exact ⟨a,y,e1,two (qeF e2 hP (by intro z;cases z)) e2⟩
    · have rc:r≠c':=fun z=>by rw [z,qab] at hr;cases hr
      rw [qai rc] at hr
      have rP:r≠P:=fun z=>by rw [z,qab] at hr;cases hr
      rw [qai rP] at hr
      refine q r qs _ hr pm so (fun b o n e=>?_) ⟨#[]++#[rawInt lp.line,rawInt lp.col,.ref c'],?_,.inr ⟨c',⟨TriplesOk_snoc lp.line lp.col (.ref c') [] trivial,?_⟩,?_⟩⟩ qab
      · rw [qai (qah e hr)];exact two n e
      · rw [qai rP.symm,qai (qah hP fr),qab]
      · exact codeAmong_snoc [] trivial rfl
      · rw [qai rc.symm,qab]
  · refine wpAny_evalAll_cons (wpAny_bind (qke I1 hcode hC hbt hcl hdef hP ht hit hc' fun f ctv h' tk I2 hf hrec fge fsz=>wpAny_bind (wpAny_standAt (wpAny_pure (wpAny_evalAll_nil ?_)))))
    show wpAny _ _ (call (.builtin "sorted") [.ref l] [(Str.ofString "key", .ref f)]) _ _ _
    refine qhP hroom I2 hf hrec (fL f fge) fsz hl l64 kl kof hbind hloc hco hgen hk hcell hd fun r qs hr pm so=>?_
    exact q r qs _ hr pm so (fun b o n e=>by rw [qai (qah e hr)];exact e) ⟨tp,by rw [qai (qah hP hr)];exact hP,.inr ⟨c',⟨ht,hit⟩,by rw [qai (qah hc' hr)];exact hc'⟩⟩ qab
end
end Bs
namespace Bs
theorem Bd.one:Bd 1 1:=by unfold Bd;decide
theorem Low.swap {t d:Int} (h:Low t d) (ht:0<t):Low d t:=⟨ht,by rw [Int.gcd_comm];exact h.one⟩
end Bs
namespace Bs
noncomputable abbrev Nu:=Int×Int
noncomputable def red (n m:Int):Nu:=(n / ((Int.gcd n m:Nat):Int),m / ((Int.gcd n m:Nat):Int))
noncomputable def nadd (q r:Nu):Nu:=red (q.1*r.2+r.1*q.2) (q.2*r.2)
noncomputable def nmul (q r:Nu):Nu:=red (q.1*r.1) (q.2*r.2)
noncomputable def Wo (q:Nu) (n m:Int):Prop:=q.1*m=n*q.2
theorem qdT {n m:Int} (hm:0<m):Low (red n m).1 (red n m).2:=(qfF (a:=n) hm).1
theorem qln {n m:Int} (hm:0<m):Wo (red n m) n m:=by
  have h:=(qcl (a:=n) (b:=m) (s:=((Int.gcd n m:Nat):Int)) (by omega) (by rw [if_neg (by omega)])).2.2.2.1
  rw [Int.fdiv_eq_ediv_of_nonneg _ (by omega),Int.fdiv_eq_ediv_of_nonneg _ (by omega)] at h
  exact h
theorem qeq {a b d:Int} (h:Low a b) (hd:b∣a*d):b∣d:=by
  have c:Nat.Coprime b.natAbs a.natAbs:=by
    have:Nat.Coprime a.natAbs b.natAbs:=h.one
    exact this.symm
  have z:=Int.natAbs_dvd_natAbs.mpr hd
  rw [Int.natAbs_mul] at z
  exact Int.natAbs_dvd_natAbs.mp (c.dvd_of_dvd_mul_left z)
theorem qgS {a b c d:Int} (h1:Low a b) (h2:Low c d) (h:a*d=c*b):a=c∧b=d:=by
  have d1:b∣d:=qeq h1 ⟨c,by rw [h,Int.mul_comm]⟩
  have d2:d∣b:=qeq h2 ⟨a,by rw [← h,Int.mul_comm]⟩
  have e:b=d:=Int.dvd_antisymm (Int.le_of_lt h1.pos) (Int.le_of_lt h2.pos) d1 d2
  subst e
  exact ⟨Int.eq_of_mul_eq_mul_right (Int.ne_of_gt h1.pos) h,rfl⟩
theorem qdy {q r:Nu} (h1:0<q.2) (h2:0<r.2):Low (nadd q r).1 (nadd q r).2:=qdT (Int.mul_pos h1 h2)
theorem qbL {q r:Nu} (h1:0<q.2) (h2:0<r.2):Low (nmul q r).1 (nmul q r).2:=qdT (Int.mul_pos h1 h2)
noncomputable def qdU (l:List Nu):Prop:=∀ q∈l,Low q.1 q.2
noncomputable def qmn (l:List Nu) (i:Nat):Nu:=l.getD i (0,1)
end Bs
namespace Bs
noncomputable def ps (ns ms:List Int):Nat→Nat→Int
  | 0,_=>0
  | i+1,k=>ps ns ms i k+(if i≤k∧k - i<ms.length then ns.getD i 0*ms.getD (k - i) 0 else 0)
theorem qkf (c:Nat):Bd c 0:=Nat.pow_pos (by decide)
end Bs
namespace Bs
noncomputable def val (q:Nu):Rat:=(q.1:Rat) / (q.2:Rat)
theorem qb8 {z:Int} (h:z≠0):(z:Rat)≠0:=by exact_mod_cast h
theorem qdV {q:Nu} {n m:Int} (hq:q.2≠0) (hm:m≠0) (w:Wo q n m):val q=(n:Rat) / (m:Rat):=by
  have h1:=qb8 hq
  have h2:=qb8 hm
  have w':(q.1:Rat)*m=n*q.2:=by unfold Wo at w;exact_mod_cast w
  unfold val
  grind
theorem qcx {q r:Nu} (h1:Low q.1 q.2) (h2:Low r.1 r.2) (h:val q=val r):q=r:=by
  have a:=qb8 (Int.ne_of_gt h1.pos)
  have b:=qb8 (Int.ne_of_gt h2.pos)
  unfold val at h
  have z:(q.1:Rat)*r.2=r.1*q.2:=by grind
  have z':q.1*r.2=r.1*q.2:=by exact_mod_cast z
  obtain ⟨x,y⟩:=qgS h1 h2 z'
  exact Prod.ext x y
theorem qeV {n m:Int} (hm:0<m):val (red n m)=(n:Rat) / (m:Rat):=qdV (Int.ne_of_gt (qdT hm).pos) (Int.ne_of_gt hm) (qln hm)
theorem qcG {q r:Nu} (h1:0<q.2) (h2:0<r.2):val (nadd q r)=val q+val r:=by
  unfold nadd
  rw [qeV (Int.mul_pos h1 h2)]
  have a:=qb8 (Int.ne_of_gt h1)
  have b:=qb8 (Int.ne_of_gt h2)
  unfold val
  push_cast
  grind
theorem qcp {q r:Nu} (h1:0<q.2) (h2:0<r.2):val (nmul q r)=val q*val r:=by
  unfold nmul
  rw [qeV (Int.mul_pos h1 h2)]
  have a:=qb8 (Int.ne_of_gt h1)
  have b:=qb8 (Int.ne_of_gt h2)
  unfold val
  push_cast
  grind
noncomputable def qgT (n m:Int):Nu:=if m<0 then red (-n) (-m) else red n m
theorem qdz {n m:Int} (hm:m≠0):Low (qgT n m).1 (qgT n m).2:=by
  unfold qgT
  split
  · exact qdT (by omega)
  · exact qdT (by omega)
theorem qdA {n m:Int} (hm:m≠0):val (qgT n m)=(n:Rat) / (m:Rat):=by
  unfold qgT
  split
  · rw [qeV (by omega)]
    have:=qb8 hm
    push_cast
    grind
  · exact qeV (by omega)
noncomputable def Ov (l:List Nu) (M:Int):Prop:=0<M∧∀ q∈l,q.2∣M
theorem Ov.get {l:List Nu} {M:Int} (h:Ov l M) (i:Nat):(qmn l i).2∣M:=by
  unfold qmn
  rw [List.getD_eq_getElem?_getD]
  cases e:l[i]? with
  | none=>exact Int.one_dvd M
  | some q=>exact h.2 q (List.mem_of_getElem? e)
end Bs
namespace Bs
section
variable {α:Type} [Lean.Grind.CommRing α]
noncomputable def cvL:List α→(Nat→α)→Nat→α
  | [],_,_=>0
  | x::a,b,k=>x*b k+(match k with | 0=>0 | k+1=>cvL a b k)
theorem qaZ (b:Nat→α) (k:Nat):cvL [] b k=0:=rfl
theorem qay (x:α) (a:List α) (b:Nat→α):cvL (x::a) b 0=x*b 0+0:=rfl
theorem qaw (x:α) (a:List α) (b:Nat→α) (k:Nat):cvL (x::a) b (k+1)=x*b (k+1)+cvL a b k:=rfl
theorem qcH {b c:Nat→α} (h:∀ k,b k=c k):∀ (a:List α) (k:Nat),cvL a b k=cvL a c k
  | [],_=>rfl
  | x::a,0=>by rw [qay,qay,h 0]
  | x::a,k+1=>by rw [qaw,qaw,h (k+1),qcH h a k]
theorem qfJ (b c:Nat→α):∀ (a:List α) (k:Nat),cvL a (fun k=>b k+c k) k=cvL a b k+cvL a c k
  | [],_=>by rw [qaZ,qaZ,qaZ];grind
  | x::a,0=>by rw [qay,qay,qay];grind
  | x::a,k+1=>by rw [qaw,qaw,qaw,qfJ b c a k];grind
theorem qdB (s:α) (b:Nat→α):∀ (a:List α) (k:Nat),cvL a (fun k=>s*b k) k=s*cvL a b k
  | [],_=>by rw [qaZ,qaZ];grind
  | x::a,0=>by rw [qay,qay];grind
  | x::a,k+1=>by rw [qaw,qaw,qdB s b a k];grind
noncomputable def up1 (b:Nat→α):Nat→α
  | 0=>0
  | k+1=>b k
theorem qeW (x:α) (a:List α) (b:Nat→α) (k:Nat):cvL (x::a) b k=x*b k+up1 (cvL a b) k:=by
  cases k with
  | zero=>exact qay x a b
  | succ k=>exact qaw x a b k
end
end Bs
namespace Bs
structure Pr (p:Nat):Prop where
  two:2≤p
  div:∀ d,d∣p→d=1∨d=p
theorem Pr.cop {p:Nat} (h:Pr p) {a:Nat} (ha:¬ p∣a):Nat.gcd a p=1:=by
  rcases h.div _ (Nat.gcd_dvd_right a p) with e | e
  · exact e
  · exact absurd (e ▸ Nat.gcd_dvd_left a p) ha
theorem Pr.mul {p:Nat} (h:Pr p) {a b:Nat} (hd:p∣a*b):p∣a∨p∣b:=by
  by_cases ha:p∣a
  · exact .inl ha
  · refine .inr (Nat.Coprime.dvd_of_dvd_mul_left (k:=p) (m:=a) ?_ hd)
    have:=h.cop ha
    rw [Nat.gcd_comm] at this
    exact this
theorem Pr.mulI {p:Nat} (h:Pr p) {a b:Int} (hd:(p:Int)∣a*b):(p:Int)∣a∨(p:Int)∣b:=by
  have z:=Int.natAbs_dvd_natAbs.mpr hd
  rw [Int.natAbs_mul,Int.natAbs_natCast] at z
  rcases h.mul z with e | e
  · exact .inl (Int.natAbs_dvd_natAbs.mp (by rw [Int.natAbs_natCast];exact e))
  · exact .inr (Int.natAbs_dvd_natAbs.mp (by rw [Int.natAbs_natCast];exact e))
noncomputable abbrev Rt:=Int×Int
theorem em {a q:Int}:∃ c,a % q=a - q*c:=⟨a / q,by have:=Int.emod_add_mul_ediv a q;omega⟩
noncomputable def rn (q:Int) (x:Rt):Prop:=x.1 % q=x.1∧x.2 % q=x.2
noncomputable def ll (M:Nat):Nat→Nat→Nat
  | 0,s=>s
  | k+1,s=>ll M k ((s*s+(M - 2)) % M)
end Bs
namespace Bs
end Bs
namespace Bs
noncomputable def co (ns:List Int) (k:Nat):Int:=ns.getD k 0
section
variable {α:Type} [Lean.Grind.CommRing α]
noncomputable def qc1:List α→List α→List α
  | [],b=>b
  | a,[]=>a
  | x::a,y::b=>(x+y)::qc1 a b
theorem qhR (a:List α):qc1 a []=a:=by cases a <;> rfl
theorem qa4 (g:Nat→α):∀ (a b:List α) (k:Nat),cvL (qc1 a b) g k=cvL a g k+cvL b g k
  | [],b,k=>by show cvL b g k=0+cvL b g k;grind
  | x::a,[],k=>by rw [qhR,qaZ];grind
  | x::a,y::b,0=>by show cvL ((x+y)::qc1 a b) g 0=_;rw [qay,qay,qay];grind
  | x::a,y::b,k+1=>by show cvL ((x+y)::qc1 a b) g (k+1)=_;rw [qaw,qaw,qaw,qa4 g a b k];grind
theorem qaJ (c:α) (g:Nat→α):∀ (a:List α) (k:Nat),cvL (a.map (c*·)) g k=c*cvL a g k
  | [],k=>by show (0:α)=c*0;grind
  | x::a,0=>by rw [List.map_cons,qay,qay];grind
  | x::a,k+1=>by rw [List.map_cons,qaw,qaw,qaJ c g a k];grind
noncomputable def upS (s:Nat) (f:Nat→α) (k:Nat):α:=if s≤k then f (k - s) else 0
theorem qb9 (g:Nat→α):∀ (s:Nat) (a:List α) (k:Nat),cvL (List.replicate s 0++a) g k=upS s (cvL a g) k
  | 0,a,k=>by unfold upS;rw [if_pos (Nat.zero_le k)];rfl
  | s+1,a,0=>by unfold upS;rw [if_neg (by omega)];show cvL (0::(List.replicate s 0++a)) g 0=0;rw [qay];grind
  | s+1,a,k+1=>by
    show cvL (0::(List.replicate s 0++a)) g (k+1)=_
    rw [qaw,qb9 g s a k]
    unfold upS
    by_cases h:s≤k
    · rw [if_pos h,if_pos (by omega),show k+1 - (s+1)=k - s by omega];grind
    · rw [if_neg h,if_neg (by omega)];grind
noncomputable def qcI:List α→List α→List α
  | [],_=>[]
  | x::a,b=>qc1 (b.map (x*·)) (0::qcI a b)
theorem qbi (g:Nat→α):∀ (a b:List α) (k:Nat),cvL (qcI a b) g k=cvL a (cvL b g) k
  | [],b,k=>rfl
  | x::a,b,k=>by
    show cvL (qc1 (b.map (x*·)) (0::qcI a b)) g k=_
    rw [qa4,qaJ,qeW,qeW]
    have e:up1 (cvL (qcI a b) g) k=up1 (cvL a (cvL b g)) k:=by
      cases k with
      | zero=>rfl
      | succ k=>exact qbi g a b k
    rw [e]
    grind
theorem qdW (g:Nat→α) (s:α):∀ (a:List α) (k:Nat),cvL (a++[s]) g k=cvL a g k+s*upS a.length g k
  | [],0=>by show cvL [s] g 0=0+s*g 0;rw [qay];grind
  | [],k+1=>by show cvL [s] g (k+1)=0+s*g (k+1);rw [qaw,qaZ];grind
  | x::a,0=>by show cvL (x::(a++[s])) g 0=_;rw [qay,qay];unfold upS;rw [if_neg (by simp)];grind
  | x::a,k+1=>by
    show cvL (x::(a++[s])) g (k+1)=_
    rw [qaw,qaw,qdW g s a k]
    have e:upS (x::a).length g (k+1)=upS a.length g k:=by
      unfold upS
      rw [List.length_cons]
      by_cases h:a.length≤k
      · rw [if_pos h,if_pos (by omega),show k+1 - (a.length+1)=k - a.length by omega]
      · rw [if_neg h,if_neg (by omega)]
    rw [e];grind
end
theorem qdg {a:List Int} {k:Nat} (h:a.length≤k):co a k=0:=by
  unfold co;rw [List.getD_eq_getElem?_getD,List.getElem?_eq_none h];rfl
theorem qgg {p:Int} {g:Nat→Int} {n:Nat} (h:∀ i,n<i→p∣g i):∀ (a:List Int) (k:Nat),a.length+n≤k→p∣cvL a g k
  | [],_,_=>Int.dvd_zero p
  | x::a,0,hk=>absurd hk (by rw [List.length_cons];omega)
  | x::a,k+1,hk=>by
    rw [List.length_cons] at hk
    rw [qaw]
    exact Int.dvd_add (Int.dvd_mul_of_dvd_right (h (k+1) (by omega))) (qgg h a k (by omega))
theorem qfp {p:Nat} (hp:Pr p) {g:Nat→Int} {n:Nat} (h0:¬ (p:Int)∣g n) (h:∀ i,n<i→(p:Int)∣g i) (S:List Int) :
    (∀ k,n≤k→(p:Int)∣cvL S g k)→∀ s∈S,(p:Int)∣s:=by
  induction hl:S.length generalizing S with
  | zero=>intro _ s hs;rw [List.length_eq_zero_iff.mp hl] at hs;exact nomatch hs
  | succ m ih=>
    intro hk
    have ne:S≠[]:=fun z=>by rw [z] at hl;simp at hl
    obtain ⟨T,t,rfl⟩:∃ T t,S=T++[t]:=⟨S.dropLast,S.getLast ne,(List.dropLast_concat_getLast ne).symm⟩
    have hT:T.length=m:=by simpa using hl
    have ht:(p:Int)∣t:=by
      have a:=hk (T.length+n) (by omega)
      rw [qdW] at a
      have b:=qgg h T (T.length+n) (Nat.le_refl _)
      have c:(p:Int)∣t*upS T.length g (T.length+n):=by
        have:=Int.dvd_sub a b
        rwa [show ∀ x y:Int,x+y - x=y by intro x y;omega] at this
      unfold upS at c
      rw [if_pos (by omega),show T.length+n - T.length=n by omega] at c
      rcases hp.mulI c with z | z
      · exact z
      · exact absurd z h0
    have hT2:=ih T hT (fun k hk2=>by
      have a:=hk k hk2
      rw [qdW] at a
      have:=Int.dvd_sub a (Int.dvd_mul_of_dvd_left (c:=upS T.length g k) ht)
      rwa [show ∀ x y:Int,x+y - y=x by intro x y;omega] at this)
    intro s hs
    rcases List.mem_append.mp hs with h | h
    · exact hT2 s h
    · rw [List.mem_singleton.mp h];exact ht
noncomputable def Lz (g:List Int):Prop:=0<g.length∧co g (g.length - 1)≠0
noncomputable def QI (r o f:Nat→Int):Prop:=∃ d:Int,d≠0∧∃ U V:List Int,∀ k,d*f k=cvL U r k+cvL V o k
noncomputable def MQ (g f:Nat→Int):Prop:=∃ c:Int,c≠0∧∃ A:List Int,∀ k,c*f k=cvL A g k
theorem QI.congr {r o f h:Nat→Int} (q:QI r o f) (e:∀ k,h k=f k):QI r o h:=by
  obtain ⟨d,d0,U,V,hU⟩:=q
  exact ⟨d,d0,U,V,fun k=>by rw [e k];exact hU k⟩
theorem QI.left (r o:Nat→Int):QI r o r:=⟨1,by decide,[1],[],fun k=>by
  rw [qaZ]
  cases k with
  | zero=>rw [qay];omega
  | succ k=>rw [qaw,qaZ];omega⟩
theorem QI.right (r o:Nat→Int):QI r o o:=⟨1,by decide,[],[1],fun k=>by
  rw [qaZ]
  cases k with
  | zero=>rw [qay];omega
  | succ k=>rw [qaw,qaZ];omega⟩
theorem QI.less {r o f h:Nat→Int} (q:QI r o f) (q':QI r o h) (a w:Int) (s:Nat):QI r o (fun k=>a*f k - w*upS s h k):=by
  obtain ⟨d,d0,U,V,hU⟩:=q
  obtain ⟨d',d0',U',V',hU'⟩:=q'
  refine ⟨d*d',Int.mul_ne_zero d0 d0',qc1 (U.map (d'*a*·)) (List.replicate s 0++U'.map (-(d*w)*·)),qc1 (V.map (d'*a*·)) (List.replicate s 0++V'.map (-(d*w)*·)),fun k=>?_⟩
  show d*d'*(a*f k - w*upS s h k)=_
  rw [qa4,qa4,qaJ,qaJ,qb9,qb9]
  unfold upS
  have e1:=hU k
  by_cases hs:s≤k
  · rw [if_pos hs,if_pos hs,if_pos hs,qaJ,qaJ]
    have e2:=hU' (k - s)
    grind
  · rw [if_neg hs,if_neg hs,if_neg hs]
    grind
theorem QI.scal {r o f:Nat→Int} {c:Int} (c0:c≠0) (q:QI r o (fun k=>c*f k)):QI r o f:=by
  obtain ⟨d,d0,U,V,hU⟩:=q
  exact ⟨d*c,Int.mul_ne_zero d0 c0,U,V,fun k=>by rw [← hU k];grind⟩
theorem QI.trans {r o a b f:Nat→Int} (qa:QI r o a) (qb:QI r o b) (q:QI a b f):QI r o f:=by
  obtain ⟨d,d0,U,V,hU⟩:=q
  obtain ⟨d1,d10,U1,V1,h1⟩:=qa
  obtain ⟨d2,d20,U2,V2,h2⟩:=qb
  refine ⟨d1*d2*d,Int.mul_ne_zero (Int.mul_ne_zero d10 d20) d0,qc1 ((qcI U U1).map (d2*·)) ((qcI V U2).map (d1*·)),qc1 ((qcI U V1).map (d2*·)) ((qcI V V2).map (d1*·)),fun k=>?_⟩
  rw [qa4,qa4,qaJ,qaJ,qaJ,qaJ,qbi,qbi,qbi,qbi]
  have e1:d1*cvL U a k=cvL U (cvL U1 r) k+cvL U (cvL V1 o) k:=by
    rw [← qdB,← qfJ];exact qcH h1 U k
  have e2:d2*cvL V b k=cvL V (cvL U2 r) k+cvL V (cvL V2 o) k:=by
    rw [← qdB,← qfJ];exact qcH h2 V k
  have e3:=hU k
  grind
theorem MQ.refl (g:Nat→Int):MQ g g:=⟨1,by decide,[1],fun k=>by
  cases k with
  | zero=>rw [qay];omega
  | succ k=>rw [qaw,qaZ];omega⟩
theorem MQ.zero (g:Nat→Int) {f:Nat→Int} (h:∀ k,f k=0):MQ g f:=⟨1,by decide,[],fun k=>by rw [qaZ,h k];rfl⟩
theorem MQ.congr {g f h:Nat→Int} (m:MQ g f) (e:∀ k,h k=f k):MQ g h:=by
  obtain ⟨c,c0,A,hA⟩:=m
  exact ⟨c,c0,A,fun k=>by rw [e k];exact hA k⟩
theorem MQ.less {g f h:Nat→Int} (m:MQ g f) (m':MQ g h) (a w:Int) (s:Nat):MQ g (fun k=>a*f k - w*upS s h k):=by
  obtain ⟨d,d0,U,hU⟩:=m
  obtain ⟨d',d0',U',hU'⟩:=m'
  refine ⟨d*d',Int.mul_ne_zero d0 d0',qc1 (U.map (d'*a*·)) (List.replicate s 0++U'.map (-(d*w)*·)),fun k=>?_⟩
  show d*d'*(a*f k - w*upS s h k)=_
  rw [qa4,qaJ,qb9]
  unfold upS
  have e1:=hU k
  by_cases hs:s≤k
  · rw [if_pos hs,if_pos hs,qaJ]
    have e2:=hU' (k - s)
    grind
  · rw [if_neg hs,if_neg hs]
    grind
theorem MQ.scal {g f:Nat→Int} {c:Int} (c0:c≠0) (m:MQ g (fun k=>c*f k)):MQ g f:=by
  obtain ⟨d,d0,A,hA⟩:=m
  exact ⟨d*c,Int.mul_ne_zero d0 c0,A,fun k=>by rw [← hA k];grind⟩
theorem MQ.trans {g f h:Nat→Int} (m:MQ g f) (m':MQ f h):MQ g h:=by
  obtain ⟨c,c0,A,hA⟩:=m
  obtain ⟨d,d0,B,hB⟩:=m'
  refine ⟨c*d,Int.mul_ne_zero c0 d0,qcI B A,fun k=>?_⟩
  rw [qbi]
  have e:c*cvL B f k=cvL B (cvL A g) k:=by rw [← qdB];exact qcH hA B k
  rw [← e,← hB k];grind
end Bs
namespace Bs
theorem qdX {f:List Int} (h:co f (f.length - 1)=0) (k:Nat):co f.dropLast k=co f k:=by
  unfold co at *
  rw [List.getD_eq_getElem?_getD,List.getD_eq_getElem?_getD]
  rw [List.getElem?_dropLast]
  by_cases hk:k<f.length - 1
  · rw [if_pos hk]
  · rw [if_neg hk]
    by_cases e:k=f.length - 1
    · subst e
      rw [List.getD_eq_getElem?_getD] at h
      rw [h];rfl
    · rw [List.getElem?_eq_none (by omega)]
theorem ql6 (f:List Int):(∀ k,co f k=0)∨∃ g,Lz g∧g.length≤f.length∧∀ k,co g k=co f k:=by
  induction hn:f.length generalizing f with
  | zero=>exact .inl fun k=>qdg (by omega)
  | succ n ih=>
    by_cases h:co f (f.length - 1)=0
    · rcases ih f.dropLast (by rw [List.length_dropLast];omega) with z | ⟨g,g1,g2,g3⟩
      · exact .inl fun k=>by rw [← qdX h];exact z k
      · exact .inr ⟨g,g1,by omega,fun k=>by rw [g3,qdX h]⟩
    · exact .inr ⟨f,⟨by omega,h⟩,by omega,fun _=>rfl⟩
theorem qiT (n:Nat) (F:Nat→Int) (k:Nat):co ((List.range n).map F) k=if k<n then F k else 0:=by
  unfold co
  rw [List.getD_eq_getElem?_getD,List.getElem?_map]
  by_cases h:k<n
  · rw [if_pos h,List.getElem?_range h];rfl
  · rw [if_neg h,List.getElem?_eq_none (by rw [List.length_range];omega)];rfl
structure Gen (r o:Nat→Int) (g:List Int):Prop where
  lz:Lz g
  qi:QI r o (co g)
  len:∀ h,Lz h→QI r o (co h)→g.length≤h.length
  last:∀ h,Lz h→QI r o (co h)→h.length=g.length→(co g (g.length - 1)).natAbs≤(co h (h.length - 1)).natAbs
theorem Gen.mq {r o:Nat→Int} {g:List Int} (G:Gen r o g):∀ (n:Nat) (f:List Int),f.length≤n→QI r o (co f)→MQ (co g) (co f)
  | 0,f,h,_=>MQ.zero _ fun k=>qdg (by omega)
  | n+1,f,h,q=>by
    rcases ql6 f with z | ⟨f1,l1,h1,e1⟩
    · exact MQ.zero _ z
    have q1:QI r o (co f1):=q.congr e1
    have gl:=G.len f1 l1 q1
    refine MQ.congr (f:=co f1) ?_ fun k=>(e1 k).symm
    generalize hs:f1.length - g.length=s
    have g0:=G.lz.1
    let F:List Int:=(List.range (f1.length - 1)).map fun k=>co g (g.length - 1)*co f1 k - co f1 (f1.length - 1)*upS s (co g) k
    have eF:∀ k,co F k=co g (g.length - 1)*co f1 k - co f1 (f1.length - 1)*upS s (co g) k:=fun k=>by
      rw [qiT]
      by_cases hk:k<f1.length - 1
      · rw [if_pos hk]
      · rw [if_neg hk]
        unfold upS
        by_cases hk2:k=f1.length - 1
        · rw [if_pos (by omega),hk2,show f1.length - 1 - s=g.length - 1 by omega];grind
        · rw [qdg (a:=f1) (by omega)]
          by_cases hk3:s≤k
          · rw [if_pos hk3,qdg (a:=g) (k:=k - s) (by omega)];omega
          · rw [if_neg hk3];omega
    have qF:QI r o (co F):=QI.congr (q1.less G.qi (co g (g.length - 1)) (co f1 (f1.length - 1)) s) eF
    have lF:F.length≤n:=by
      have:F.length=f1.length - 1:=by show ((List.range (f1.length - 1)).map _).length=_;rw [List.length_map,List.length_range]
      omega
    have m:=Gen.mq G n F lF qF
    have m2:=MQ.less (MQ.congr m fun k=>(eF k).symm) (MQ.refl (co g)) 1 (-(co f1 (f1.length - 1))) s
    refine MQ.scal (c:=co g (g.length - 1)) G.lz.2 (MQ.congr m2 fun k=>?_)
    show _=1*_ - _*upS s (co g) k
    generalize upS s (co g) k=y
    grind
theorem Gen.prim {r o:Nat→Int} {g:List Int} (G:Gen r o g) {p:Nat} (hp:2≤p):∃ n,¬ (p:Int)∣co g n∧∀ i,n<i→(p:Int)∣co g i:=by
  have key:∀ n,(∀ i,n≤i→(p:Int)∣co g i)→(∀ i,(p:Int)∣co g i)∨∃ n,¬ (p:Int)∣co g n∧∀ i,n<i→(p:Int)∣co g i:=by
    intro n
    induction n with
    | zero=>intro h;exact .inl fun i=>h i (Nat.zero_le i)
    | succ n ih=>
      intro h
      by_cases hd:(p:Int)∣co g n
      · exact ih fun i hi=>by
          by_cases e:i=n
          · rw [e];exact hd
          · exact h i (by omega)
      · exact .inr ⟨n,hd,fun i hi=>h i (by omega)⟩
  rcases key g.length (fun i hi=>by rw [qdg hi];exact Int.dvd_zero _) with h | h
  · exfalso
    let h1:List Int:=g.map (· / (p:Int))
    have e1:∀ k,(p:Int)*co h1 k=co g k:=fun k=>by
      have:co h1 k=co g k / (p:Int):=by
        show (g.map (· / (p:Int))).getD k 0=g.getD k 0 / (p:Int)
        rw [List.getD_eq_getElem?_getD,List.getD_eq_getElem?_getD,List.getElem?_map]
        cases g[k]? with
        | none=>exact (Int.zero_ediv _).symm
        | some z=>rfl
      rw [this,Int.mul_ediv_cancel' (h k)]
    have p0:(p:Int)≠0:=by omega
    have qkj:h1.length=g.length:=List.length_map ..
    have ne:co h1 (h1.length - 1)≠0:=fun z=>G.lz.2 (by rw [← e1,← qkj,z];omega)
    have l1:Lz h1:=⟨by rw [qkj];exact G.lz.1,ne⟩
    have q1:QI r o (co h1):=QI.scal (c:=(p:Int)) p0 (QI.congr G.qi e1)
    have lt:=G.last h1 l1 q1 qkj
    have e2:=e1 (g.length - 1)
    rw [← qkj] at e2
    rw [qkj] at e2 lt
    rw [← e2,Int.natAbs_mul,Int.natAbs_natCast] at lt
    rw [qkj] at ne
    have pos:0<(co h1 (g.length - 1)).natAbs:=by omega
    have:=Nat.mul_le_mul_right (co h1 (g.length - 1)).natAbs hp
    omega
  · exact h
theorem Gen.loc {r o:Nat→Int} {g:List Int} (G:Gen r o g) {p:Nat} (hp:Pr p) {f:Nat→Int} (m:MQ (co g) f) :
    ∃ (c:Int) (A:List Int),¬ (p:Int)∣c∧∀ k,c*f k=cvL A (co g) k:=by
  obtain ⟨n,n0,n1⟩:=G.prim hp.two
  obtain ⟨c,c0,A,hA⟩:=m
  have key:∀ (m:Nat) (c:Int) (A:List Int),c.natAbs≤m→c≠0→(∀ k,c*f k=cvL A (co g) k)→∃ (c:Int) (A:List Int),¬ (p:Int)∣c∧∀ k,c*f k=cvL A (co g) k:=by
    intro m
    induction m with
    | zero=>intro c A h h0;omega
    | succ m ih=>
      intro c A h h0 hA
      by_cases hd:(p:Int)∣c
      · have dA:∀ a∈A,(p:Int)∣a:=qfp hp n0 n1 A fun k _=>by rw [← hA k];exact Int.dvd_mul_of_dvd_left hd
        obtain ⟨c',rfl⟩:=hd
        have p2:=hp.two
        have c0':c'≠0:=fun z=>h0 (by rw [z];omega)
        have eA:A=(A.map (· / (p:Int))).map ((p:Int)*·):=by
          rw [List.map_map]
          conv=>lhs;rw [← List.map_id A]
          refine List.map_congr_left fun a ha=>?_
          show a=(p:Int)*(a / (p:Int))
          rw [Int.mul_ediv_cancel' (dA a ha)]
        refine ih c' (A.map (· / (p:Int))) ?_ c0' fun k=>?_
        · rw [Int.natAbs_mul,Int.natAbs_natCast] at h
          have pos:0<c'.natAbs:=by omega
          have:=Nat.mul_le_mul_right c'.natAbs p2
          omega
        · have e:=hA k
          rw [eA,qaJ,Int.mul_assoc] at e
          exact Int.eq_of_mul_eq_mul_left (by omega) e
      · exact ⟨c,A,hd,hA⟩
  exact key _ c A (Nat.le_refl _) c0 hA
noncomputable def Dm (p:Int) (g f:Nat→Int):Prop:=∃ S:List Int,∀ k,p∣f k - cvL S g k
theorem Dm.less {p:Int} {g f h:Nat→Int} (m:Dm p g f) (m':Dm p g h) (a w:Int) (s:Nat):Dm p g (fun k=>a*f k - w*upS s h k):=by
  obtain ⟨S,hS⟩:=m
  obtain ⟨S',hS'⟩:=m'
  refine ⟨qc1 (S.map (a*·)) (List.replicate s 0++S'.map (-w*·)),fun k=>?_⟩
  show p∣a*f k - w*upS s h k - _
  rw [qa4,qaJ,qb9]
  unfold upS
  obtain ⟨x,hx⟩:=hS k
  by_cases hs:s≤k
  · rw [if_pos hs,if_pos hs,qaJ]
    obtain ⟨y,hy⟩:=hS' (k - s)
    exact ⟨a*x - w*y,by grind⟩
  · rw [if_neg hs,if_neg hs]
    exact ⟨a*x,by grind⟩
theorem Dm.congr {p:Int} {g f h:Nat→Int} (m:Dm p g f) (e:∀ k,p∣h k - f k):Dm p g h:=by
  obtain ⟨S,hS⟩:=m
  exact ⟨S,fun k=>by have:=Int.dvd_add (e k) (hS k);rwa [show ∀ x y z:Int,x - y+(y - z)=x - z by intro x y z;omega] at this⟩
theorem Dm.zero (p:Int) (g:Nat→Int) {f:Nat→Int} (h:∀ k,p∣f k):Dm p g f:=⟨[],fun k=>by rw [qaZ];simpa using h k⟩
theorem Dm.len {p:Nat} (hp:Pr p) {g f:List Int} (lg:0<g.length) (hl:¬ (p:Int)∣co g (g.length - 1)) (d:Dm (p:Int) (co g) (co f)) (h0:∃ k,¬ (p:Int)∣co f k):g.length≤f.length:=by
  rcases Nat.lt_or_ge f.length g.length with z | z
  · exfalso
    obtain ⟨S,hS⟩:=d
    have sS:=qfp hp hl (fun i hi=>by rw [qdg (by omega)];exact Int.dvd_zero _) S fun k hk=>by
      have:=hS k
      rw [qdg (by omega)] at this
      have e:=Int.dvd_neg.mpr this
      rwa [show ∀ x:Int,-(0 - x)=x by intro x;omega] at e
    obtain ⟨k,hk⟩:=h0
    apply hk
    have c:∀ (S:List Int),(∀ s∈S,(p:Int)∣s)→∀ k,(p:Int)∣cvL S (co g) k:=by
      intro S
      induction S with
      | nil=>intro _ k;exact Int.dvd_zero _
      | cons x S ih=>
        intro h k
        rw [qeW]
        refine Int.dvd_add (Int.dvd_mul_of_dvd_left (h x (List.mem_cons_self ..))) ?_
        cases k with
        | zero=>exact Int.dvd_zero _
        | succ k=>exact ih (fun s hs=>h s (List.mem_cons_of_mem _ hs)) k
    have:=Int.dvd_add (hS k) (c S sS k)
    rwa [Int.sub_add_cancel] at this
  · exact z
structure RC (r o:Nat→Int) (g:List Int):Prop where
  lz:Lz g
  left:MQ (co g) r
  right:MQ (co g) o
  qi:QI r o (co g)
theorem Gen.rc {R O g:List Int} (G:Gen (co R) (co O) g):RC (co R) (co O) g:=
  ⟨G.lz,G.mq _ R (Nat.le_refl _) (QI.left _ _),G.mq _ O (Nat.le_refl _) (QI.right _ _),G.qi⟩
end Bs
namespace Bs
noncomputable def Prim (g:List Int):Prop:=∀ c:Int,(∀ k,c∣co g k)→c.natAbs=1
theorem Prim.top {g:List Int} (P:Prim g) {p:Nat} (hp:2≤p):∃ n,¬ (p:Int)∣co g n∧∀ i,n<i→(p:Int)∣co g i:=by
  have key:∀ n,(∀ i,n≤i→(p:Int)∣co g i)→(∀ i,(p:Int)∣co g i)∨∃ n,¬ (p:Int)∣co g n∧∀ i,n<i→(p:Int)∣co g i:=by
    intro n
    induction n with
    | zero=>intro h;exact .inl fun i=>h i (Nat.zero_le i)
    | succ n ih=>
      intro h
      by_cases hd:(p:Int)∣co g n
      · exact ih fun i hi=>by
          by_cases e:i=n
          · rw [e];exact hd
          · exact h i (by omega)
      · exact .inr ⟨n,hd,fun i hi=>h i (by omega)⟩
  rcases key g.length (fun i hi=>by rw [qdg hi];exact Int.dvd_zero _) with h | h
  · have:=P (p:Int) h
    omega
  · exact h
end Bs
namespace Bs
open PySem L2
noncomputable def isN (H:Hp) (v:V) (q:Nu):Prop:=∃ p,v=.ref p∧H p=some (.tup [.int q.1,.int q.2])
noncomputable def Nums (H:Hp):List V→List Nu→Prop
  | [],[]=>True
  | x::xs,q::l=>isN H x q∧Nums H xs l
  | _,_=>False
noncomputable def Tp (H H':Hp):Prop:=∀ b xs,H b=some (.tup xs)→H' b=some (.tup xs)
theorem tpS {H H':Hp} (s:Same H H'):Tp H H':=fun b xs h=>s b _ h
theorem Tp.trans {H H1 H2:Hp} (a:Tp H H1) (b:Tp H1 H2):Tp H H2:=fun c xs h=>b c xs (a c xs h)
theorem Kp.tp {p:Addr} {H H':Hp} {xs:List V} (k:Kp p H H') (h:H p=some (.lst xs)):Tp H H':=fun b ys q=>k b _ (qeF q h (by intro z;cases z)) q
theorem Tp.updL {p:Addr} {H:Hp} {xs ys:List V} (h:H p=some (.lst xs)):Tp H (upd H p (.lst ys)):=Kp.tp Kp.upd h
theorem isN.tp {H H':Hp} {v:V} {q:Nu} (h:isN H v q) (t:Tp H H'):isN H' v q:=let ⟨p,e,z⟩:=h;⟨p,e,t _ _ z⟩
theorem Nums.tp {H H':Hp} (t:Tp H H'):∀ {xs:List V} {l:List Nu},Nums H xs l→Nums H' xs l
  | [],[],_=>trivial
  | _::_,_::_,h=>⟨h.1.tp t,Nums.tp t h.2⟩
  | [],_::_,h=>h.elim
  | _::_,[],h=>h.elim
theorem Nums.length {H:Hp}:∀ {xs:List V} {l:List Nu},Nums H xs l→xs.length=l.length
  | [],[],_=>rfl
  | _::_,_::_,h=>congrArg (·+1) (Nums.length h.2)
  | [],_::_,h=>h.elim
  | _::_,[],h=>h.elim
theorem Nums.get {H:Hp}:∀ {xs:List V} {l:List Nu} {i:Nat} {v:V},Nums H xs l→xs[i]?=some v→∃ q,l[i]?=some q∧isN H v q
  | [],[],_,_,_,e=>by simp at e
  | _::_,q::_,0,_,h,e=>by simp at e;subst e;exact ⟨q,rfl,h.1⟩
  | _::_,_::_,i+1,_,h,e=>by
    obtain ⟨q,h1,h2⟩:=Nums.get (i:=i) h.2 (by simpa using e)
    exact ⟨q,by simpa using h1,h2⟩
  | [],_::_,_,_,h,_=>h.elim
  | _::_,[],_,_,h,_=>h.elim
theorem Nums.at {H:Hp} {xs:List V} {l:List Nu} {i:Nat} (h:Nums H xs l) (hi:i<l.length) (d:Nu):∃ v,xs[i]?=some v∧isN H v (l.getD i d):=by
  have hx:i<xs.length:=by rw [h.length];exact hi
  obtain ⟨q,h1,h2⟩:=h.get (List.getElem?_eq_getElem hx)
  refine ⟨_,List.getElem?_eq_getElem hx,?_⟩
  rw [List.getD_eq_getElem?_getD,h1]
  exact h2
theorem Nums.append {H:Hp}:∀ {xs ys:List V} {l m:List Nu},Nums H xs l→Nums H ys m→Nums H (xs++ys) (l++m)
  | [],_,[],_,_,h=>h
  | _::_,_,_::_,_,h,h2=>⟨h.1,Nums.append h.2 h2⟩
  | [],_,_::_,_,h,_=>h.elim
  | _::_,_,[],_,h,_=>h.elim
theorem Nums.one {H:Hp} {v:V} {q:Nu} (h:isN H v q):Nums H [v] [q]:=⟨h,trivial⟩
theorem Nums.take {H:Hp}:∀ {xs:List V} {l:List Nu} (n:Nat),Nums H xs l→Nums H (xs.take n) (l.take n)
  | [],[],n,_=>by simp [Nums]
  | _::_,_::_,0,_=>trivial
  | _::_,_::_,n+1,h=>⟨h.1,Nums.take n h.2⟩
  | [],_::_,_,h=>h.elim
  | _::_,[],_,h=>h.elim
theorem Nums.set {H:Hp} {v:V} {q:Nu} (hv:isN H v q):∀ {xs:List V} {l:List Nu} (i:Nat),Nums H xs l→Nums H (xs.set i v) (l.set i q)
  | [],[],_,_=>trivial
  | _::_,_::_,0,h=>⟨hv,h.2⟩
  | _::_,_::_,i+1,h=>⟨h.1,Nums.set hv i h.2⟩
  | [],_::_,_,h=>h.elim
  | _::_,[],_,h=>h.elim
theorem qer {α:Type} {xs:List α} {i:Int} {j:Nat} {v:α} (e:i=(j:Int)) (h:xs[j]?=some v):atI xs i=some v:=by subst e;exact qjP h
theorem qhS {xs:List V} {m:Nat} (h:m≤xs.length):qg8 xs none (some (m:Int))=xs.take m:=by
  unfold qg8 HT.sIx
  simp only [List.drop_zero,Nat.sub_zero,Int.toNat_natCast]
  rw [if_neg (by omega),Nat.min_eq_left h]
noncomputable def qes (q:Nu):PySem.W.Dat:=.tuple [.int q.1,.int q.2]
theorem qjt {H:Hp} {v:V} {q:Nu} (h:isN H v q):RepD H v (qes q):=by
  obtain ⟨p,rfl,hp⟩:=h
  exact .tup hp (.cons (.int _) (.cons (.int _) .nil))
theorem qlo {H:Hp}:∀ {xs:List V} {l:List Nu},Nums H xs l→RepA H xs (l.map qes)
  | [],[],_=>.nil
  | _::_,_::_,h=>.cons (qjt h.1) (qlo h.2)
  | [],_::_,h=>h.elim
  | _::_,[],h=>h.elim
theorem qmo {H:Hp} {p:Addr} {xs:List V} {l:List Nu} (hp:H p=some (.lst xs)) (h:Nums H xs l):RepD H (.ref p) (.list (l.map qes)):=.lst hp (qlo h)
theorem okN (q:Nu) (n:Nat):PySem.W.kqdOk (n+1) (qes q)=true:=by simp [qes,PySem.W.kqdOk]
end Bs
namespace Bs
open PySem L2
section
variable {σ:L2.St} {H:Hp} {Q:VK} {D:Ends} {rest:TS} {sp:Sp} {E:XK}
theorem qkg {ta:TE} {k:Nat} (h:ta σ H fun x H1=>sp [x] H1 (fun v H'=>rest D (σ.set k (some v)) H') E):qaG (qa3 (qap sp [] E (qac ta qan)) (qam k)) rest D σ H:=h
theorem qfK {ta tb:TE} {k:Nat} (h:ta σ H fun x H1=>tb σ H1 fun y H2=>sp [x,y] H2 (fun v H'=>rest D (σ.set k (some v)) H') E):qaG (qa3 (qap sp [] E (qac ta (qac tb qan))) (qam k)) rest D σ H:=h
theorem qiU {ta:TE} (h:ta σ H fun x H1=>sp [x] H1 Q E):qap sp [] E (qac ta qan) σ H Q:=h
theorem qaV {ta tb:TE} (h:ta σ H fun x H1=>tb σ H1 fun y H2=>sp [x,y] H2 Q E):qap sp [] E (qac ta (qac tb qan)) σ H Q:=h
theorem qgU {ta tb tc:TE} (h:ta σ H fun x H1=>tb σ H1 fun y H2=>tc σ H2 fun z H3=>sp [x,y,z] H3 Q E):qap sp [] E (qac ta (qac tb (qac tc qan))) σ H Q:=h
theorem qbl {te:TE} {k:Nat} (h:te σ H fun x H1=>rest D (σ.set k (some x)) H1):qaG (qa3 te (qam k)) rest D σ H:=h
theorem qea {te:TE} (h:te σ H D.rt):qbB te D σ H:=h
theorem qaF {ta tb:TE} (h:ta σ H fun x H1=>tb σ H1 fun y H2=>[x,y].length≤sizeLine∧∀ p,H2 p=none→Q (.ref p) (upd H2 p (.tup [x,y]))):qbu (qac ta (qac tb qan)) σ H Q:=h
theorem r_c {v:V} (h:Q v H):tC v σ H Q:=h
theorem qir {r:R2} {ta tb:TE} (h:ta σ H fun x H1=>tb σ H1 fun y H2=>r x y H2 Q):tOp r ta tb σ H Q:=h
theorem qhT {b:List V→Hp→VK→Prop} {ta:TE} (h:ta σ H fun x H1=>b [x] H1 Q):tCB b (qac ta qan) σ H Q:=h
theorem qgh {te:TE} {g:TG} (h:te σ H fun x H1=>g x σ H1 (rest D)):qaG (qa3 te g) rest D σ H:=h
theorem qkh {i:Nat} {v:V} {σ:L2.St} {H:Hp} {Q:L2.St→Hp→Prop} (h:Q (σ.set i (some v)) H):qam i v σ H Q:=h
theorem qki {K:W.Frag} {tl:TE} {capt:List (Option Nat)} {g:TG} {te:TE} {σ:L2.St} {H:Hp} {Q:VK} (h:tl σ H (fun x H1=>∃ a,x=.ref a∧(∃ xs,SqT K H1 a xs)∧CompJ (Itt K a) capt g te σ Q H1)):qbF (qit K tl) capt g te σ H Q:=h
theorem qeX {K:W.Frag} {tl:TE} {capt:List (Option Nat)} {g:TG} {te:TE} {σ:L2.St} {H:Hp} {Q:VK} (h:tl σ H (fun x H1=>∃ a,x=.ref a∧(∃ xs,SqL K H1 a xs)∧CompJ (Itl K a) capt g te σ Q H1)):qbF (qb6 K tl) capt g te σ H Q:=h
theorem qlp {te:TE} {k:Nat} {D:Ends} {σ:L2.St} {H:Hp} (h:te σ H fun x H1=>D.nx (σ.set k (some x)) H1):qa3 te (qam k) D σ H:=h
theorem qhU {c:TT} {t u:TS} (h:c σ H fun b H1=>if b=true then t { D with nx:=rest D } σ H1 else u { D with nx:=rest D } σ H1):qaG (qdH c t u) rest D σ H:=h
theorem qlq {te:TE} {Q:Bool→Hp→Prop} (h:te σ H fun x H'=>∃ k,x=.bl k∧Q k H'):qaU te σ H Q:=h
theorem qkj {x:V}:[x].length≤sizeLine:=by show 1≤_;exact sz (by decide)
theorem qcJ {x y:V}:[x,y].length≤sizeLine:=by show 2≤_;exact sz (by decide)
theorem qmN {x y z:V}:[x,y,z].length≤sizeLine:=by show 3≤_;exact sz (by decide)
end
end Bs
set_option maxHeartbeats 4000000
namespace Bs
open PySem
end Bs
namespace Bs
open PySem L2
noncomputable abbrev Nm (H:Hp) (p:Addr) (t d:Int):Prop:=H p=some (.tup [.int t,.int d])
noncomputable def qau (_:W.Frag):Sp:=fun vs H Q _=>∃ a b:Int,vs=[.int a,.int b]∧Q (.int ((Int.gcd a b:Nat):Int)) H
noncomputable def qbM (_:W.Frag):Sp:=fun vs H Q _=>∃ a b:Int,vs=[.int a,.int b]∧b≠0∧∀ (p:Addr),H p=none→Q (.ref p) (upd H p (.tup [.int (qgT a b).1,.int (qgT a b).2]))
noncomputable def qct (f:Nu→Nu→Nu) (_:W.Frag):Sp:=fun vs H Q _=>∃ (p q:Addr) (a b c d:Int),vs=[.ref p,.ref q]∧Nm H p a b∧Nm H q c d∧0<b∧0<d∧Bd 60000000 a∧Bd 60000000 b∧Bd 60000000 c∧Bd 60000000 d∧
  ∀ (r:Addr),H r=none→Q (.ref r) (upd H r (.tup [.int (f (a,b) (c,d)).1,.int (f (a,b) (c,d)).2]))
noncomputable abbrev qdY:=qct nadd
noncomputable abbrev qcq:=qct nmul
noncomputable abbrev qaW:=qbM
noncomputable abbrev qbH:=qct nadd
noncomputable abbrev qaX:=qct nmul
end Bs
namespace Bs
open PySem L2
noncomputable def qgV:Addr:=44
noncomputable def qhV (ps:Array Value) (c:Addr):Prop:=TriplesOk ps.toList∧codeAmong ⟨21,47,21,69⟩ ps.toList=some (.ref c)
noncomputable def qfL (c:Addr) (h:Heap):Prop:=h.CodeRec (.ref c) (("settled_number" : Str) ++ ".<locals>." ++ "<lambda>")
noncomputable def Tab (H:Hp):Prop:=TabOk qhV qfL qgV H
noncomputable def C6 (q:Nu):Prop:=Low q.1 q.2∧∃ k:Int,val q=(k:Rat) / 60∧Bd 9 k
noncomputable def Al {α:Type} (R:V→α→Prop):List V→List α→Prop
  | [],[]=>True
  | u::us,x::xs=>R u x∧Al R us xs
  | _,_=>False
noncomputable def Cz (t:Nat) (q:Nu):Prop:=Low q.1 q.2∧∃ k:Int,val q=(k:Rat) / 3600∧Bd t k
noncomputable abbrev Pce:=Nu×Int
noncomputable def Pc (H:Hp) (u:V) (x:Pce):Prop:=∃ a b,u=.ref a∧H a=some (.tup [.ref b,.int x.2])∧Nm H b x.1.1 x.1.2
noncomputable def Rw (H:Hp) (u:V) (x:Nu×Nu):Prop:=∃ a b d,u=.ref a∧H a=some (.tup [.ref b,.ref d])∧Nm H b x.1.1 x.1.2∧Nm H d x.2.1 x.2.2
noncomputable def vp (p:Nat):Nat→Nat→Nat
  | 0,_=>0
  | n+1,w=>if p∣w then vp p n (w / p)+1 else 0
noncomputable def vpI (p:Nat) (w:Int):Nat:=vp p w.natAbs w.natAbs
noncomputable def WP (p:Nat):List Pce→Rat
  | []=>0
  | x::xs=>val x.1*(vpI p x.2:Rat)+WP p xs
noncomputable def prs:List Nat:=[2,3,5,7,11,101,999983,1000000007]
noncomputable def MM:Int:=(((prs.foldr (·*·) 1) ^ 3:Nat):Int)
noncomputable def Sm (w:Int):Prop:=0<w∧w∣MM
noncomputable def Cp (x y:Pce):Prop:=Int.gcd x.2 y.2=1
noncomputable def qaS (_:W.Frag):Sp:=fun vs H Q _=>∃ (u v:V) (x y:Pce) (t:Nat),vs=[u,v]∧Pc H u x∧Pc H v y∧Cz t x.1∧Cz t y.1∧t≤400000∧0<x.2∧0<y.2∧
  ∀ (r:Addr) (us:List V) (H':Hp),Same H H'→H r=none→H' r=some (.lst us)→Al (Pc H') us [(x.1,x.2 / (Int.gcd x.2 y.2:Nat)),(y.1,y.2 / (Int.gcd x.2 y.2:Nat)),(nadd x.1 y.1,((Int.gcd x.2 y.2:Nat):Int))]→Q (.ref r) H'
noncomputable def qaQ (_:W.Frag):Sp:=fun vs H Q _=>∃ (a:Addr) (us:List V) (xs:List Pce),vs=[.ref a]∧H a=some (.lst us)∧Al (Pc H) us xs∧(∀ x∈xs,Cz 61 x.1∧Sm x.2)∧xs.length≤48∧
  ∀ (r:Addr) (ws:List V) (ys:List Pce) (H':Hp),Same H H'→H' r=some (.lst ws)→Al (Pc H') ws ys→(∀ y∈ys,Cz 200000 y.1∧y.1.1≠0∧1<y.2∧Sm y.2)→ys.Pairwise Cp→(∀ p,Pr p→WP p ys=WP p xs)→Q (.ref r) H'
noncomputable def WR (p:Nat):List (Nu×Nu)→Rat
  | []=>0
  | x::xs=>val x.1*((vpI p x.2.1:Rat) - (vpI p x.2.2:Rat))+WR p xs
noncomputable def qav (_:W.Frag):Sp:=fun vs H Q _=>∃ (v:V) (a:Addr) (us:List V) (xs:List (Nu×Nu)),vs=[v,.ref a]∧H a=some (.lst us)∧Al (Rw H) us xs∧(∀ x∈xs,Cz 60 x.1∧Sm x.2.1∧Sm x.2.2)∧xs.length≤24∧Tab H∧
  ∀ (r b:Addr) (ws:List V) (ys:List Pce) (H':Hp),Kp qgV H H'→Tab H'→H' r=some (.tup [v,.ref b])→H' b=some (.tup ws)→Al (Rw H') ws (ys.map fun y=>(y.1,(y.2,1)))→(∀ y∈ys,Cz 200000 y.1∧y.1.1≠0∧1<y.2∧Sm y.2)→ys.Pairwise Cp→ys.Pairwise (fun x y=>x.2≤y.2)→ys.length≤8→(∀ p,Pr p→WP p ys=WR p xs)→Q (.ref r) H'
end Bs
namespace Bs
open PySem L2
noncomputable def pj (j:Nat):Nat:=prs.getD j 0
noncomputable def Wn (H:Hp) (u:V) (x:Nu×List Int):Prop:=∃ a b w,u=.ref a∧H a=some (.tup [.ref b,.ref w])∧Nm H b x.1.1 x.1.2∧H w=some (.lst (x.2.map V.int))
noncomputable def WW (j:Nat):List (Nu×List Int)→Rat
  | []=>0
  | x::xs=>val x.1*((x.2.getD j 0:Int):Rat)+WW j xs
noncomputable def qc2 (K:W.Frag):Sp:=fun vs H Q _=>∃ (a:Addr) (ns:List Int) (k:Int),vs=[.ref a,.int k]∧SqL K H a (ns.map V.int)∧0≤k∧∀ n:Int,Q (.int n) H
noncomputable def qbm (_:W.Frag):Sp:=fun vs H Q _=>∃ c k m:Int,vs=[.int c,.int k,.int m]∧0≤k∧k≤100∧0<m∧∀ d:Int,0≤d→d<m→Q (.int d) H
noncomputable def qaK (_:W.Frag):Sp:=fun vs H Q _=>∃ (p:Addr) (t d:Int),vs=[.ref p]∧Nm H p t d∧Low t d∧∀ H',Same H H'→Q (.bl true) H'
noncomputable def qbn (_:W.Frag):Sp:=fun vs H Q _=>vs=[]∧∀ r,H r=none→Q (.ref r) (upd H r (.tup (prs.map fun p:Nat=>V.int (p:Int))))
noncomputable def qet (_:W.Frag):Sp:=fun vs H Q _=>∃ c k:Int,vs=[.int c,.int k]∧0≤k∧k≤50∧∀ (r:Addr) (t d:Int),H r=none→C6 (t,d)→Q (.ref r) (upd H r (.tup [.int t,.int d]))
noncomputable def qbN (_:W.Frag):Sp:=fun vs H Q _=>∃ c:Int,vs=[.int c]∧∀ (r b w:Addr) (top bot:Int) (es:List Int) (H':Hp),Same H H'→H' r=some (.tup [.ref b,.ref w])→Nm H' b top bot→H' w=some (.lst (es.map V.int))→es.length=8→Sm top→Sm bot→(∀ e∈es,e.natAbs≤3)→(∀ j,j<8→((vpI (pj j) top:Nat):Int) - ((vpI (pj j) bot:Nat):Int)=es.getD j 0)→Q (.ref r) H'
noncomputable def Wz (t:Nat) (y:Nu×List Int):Prop:=Cz t y.1∧y.2.length=8∧∀ e∈y.2,e.natAbs≤700
noncomputable def qcK (_:W.Frag):Sp:=fun vs H Q _=>∃ (a:Addr) (ns:List Int),vs=[.ref a]∧H a=some (.lst (ns.map V.int))∧ns.length≤12∧
  ∀ (r b d:Addr) (us ws:List V) (xs:List (Nu×Nu)) (ys:List (Nu×List Int)) (H':Hp),Same H H'→H' r=some (.tup [.ref b,.ref d])→H' b=some (.lst us)→Al (Rw H') us xs→H' d=some (.lst ws)→Al (Wn H') ws ys→xs.length≤2*ns.length→ys.length≤2*ns.length→(∀ x∈xs,C6 x.1∧Sm x.2.1∧Sm x.2.2)→(∀ y∈ys,Wz 15 y)→(∀ j,j<8→WR (pj j) xs=WW j ys)→Q (.ref r) H'
noncomputable def qa5 (_:W.Frag):Sp:=fun vs H Q _=>∃ (a:Addr) (us:List V) (ys:List (Nu×List Int)),vs=[.ref a,.int 8]∧H a=some (.lst us)∧Al (Wn H) us ys∧(∀ y∈ys,Wz 200000 y)∧ys.length≤24∧
  ∀ (r:Addr) (ts:List V) (ls:List Nu) (H':Hp),Same H H'→H' r=some (.lst ts)→Nums H' ts ls→ls.length=8→qdU ls→(∀ q∈ls,Cz 200040 q)→(∀ j q,ls[j]?=some q→val q=WW j ys)→Q (.ref r) H'
noncomputable def qbO (_:W.Frag):Sp:=fun vs H Q _=>∃ w:Int,vs=[.int w]∧Sm w∧∀ (r:Addr) (H':Hp),Same H H'→H' r=some (.lst ((prs.map fun p:Nat=>((vpI p w:Nat):Int)).map V.int))→Q (.ref r) H'
noncomputable def qa2 (_:W.Frag):Sp:=fun vs H Q _=>∃ (a:Addr) (ns:List Int),vs=[.ref a]∧H a=some (.lst (ns.map V.int))∧ns.length≤8∧(∀ n∈ns,0<n)∧ns.Pairwise (fun x y=>Int.gcd x y=1)∧∀ H',Same H H'→Q (.bl true) H'
noncomputable def qaO (_:W.Frag):Sp:=fun vs H Q _=>∃ (r a b w a2:Addr) (q:Nu) (ws:List V) (ys:List Pce) (ts:List V) (ls:List Nu),vs=[.ref r,.ref a2,.ref w]∧Nm H a2 q.1 q.2∧H r=some (.tup [.ref a,.ref b])∧Nm H a q.1 q.2∧Low q.1 q.2∧H b=some (.tup ws)∧Al (Rw H) ws (ys.map fun y=>(y.1,(y.2,1)))∧(∀ y∈ys,Cz 200000 y.1∧y.1.1≠0∧1<y.2∧Sm y.2)∧ys.Pairwise Cp∧ys.Pairwise (fun x y=>x.2≤y.2)∧ys.length≤8∧H w=some (.lst ts)∧Nums H ts ls∧ls.length=8∧qdU ls∧(∀ j q,ls[j]?=some q→val q=WP (pj j) ys)∧∀ H',Same H H'→Q (.bl true) H'
noncomputable def qfq (K:W.Frag):Sp:=fun vs H Q _=>∃ (a:Addr) (ns:List Int),vs=[.ref a]∧SqL K H a (ns.map V.int)∧ns.length≤63∧a≠qgV∧H qgV=some (.tbl #[])∧∀ H',Q (.bl true) H'
end Bs
namespace Bs
open PySem L2
noncomputable def LN (H:Hp) (o:Addr) (q:Nu) (xs:List (Nu×Nu)):Prop:=∃ (qa ta:Addr) (us:List V),H o=some (.tup [.ref qa,.ref ta])∧Nm H qa q.1 q.2∧H ta=some (.tup us)∧Al (Rw H) us xs
noncomputable def Rs (x:Nu×Nu):Prop:=C6 x.1∧Sm x.2.1∧Sm x.2.2
noncomputable def Rz (t:Nat) (x:Nu×Nu):Prop:=Cz t x.1∧Sm x.2.1∧Sm x.2.2
structure Sd (t:Nat) (ys:List Pce):Prop where
  sz:∀ y∈ys,Cz t y.1∧y.1.1≠0∧1<y.2∧Sm y.2
  cp:ys.Pairwise Cp
  so:ys.Pairwise (fun x y=>x.2≤y.2)
  l8:ys.length≤8
noncomputable def qkB (y:Pce):Nu×Nu:=(y.1,(y.2,1))
noncomputable def qca (_:W.Frag):Sp:=fun vs H Q _=>∃ (o p:Addr) (q r:Nu) (xs zs:List (Nu×Nu)),vs=[.ref o,.ref p]∧LN H o q xs∧LN H p r zs∧Cz 60 q∧Cz 60 r∧(∀ x∈xs,Rz 60 x)∧(∀ x∈zs,Rz 60 x)∧xs.length+zs.length≤24∧Tab H∧
  ∀ (s:Addr) (ys:List Pce) (H':Hp),Kp qgV H H'→Tab H'→LN H' s (nadd q r) (ys.map qkB)→Sd 200000 ys→(∀ p,Pr p→WP p ys=WR p xs+WR p zs)→Q (.ref s) H'
noncomputable def qa1 (_:W.Frag):Sp:=fun vs H Q _=>∃ (o c:Addr) (q e:Nu) (xs:List (Nu×Nu)),vs=[.ref o,.ref c]∧LN H o q xs∧Nm H c e.1 e.2∧C6 q∧C6 e∧(∀ x∈xs,Rs x)∧xs.length≤24∧Tab H∧
  ∀ (s:Addr) (ys:List Pce) (H':Hp),Kp qgV H H'→Tab H'→LN H' s (nmul q e) (ys.map qkB)→Sd 40 ys→(∀ p,Pr p→WP p ys=val e*WR p xs)→Q (.ref s) H'
noncomputable def qaE (_:W.Frag):Sp:=fun vs H Q _=>∃ (c:Int) (a:Addr) (ns:List Int),vs=[.int c,.ref a]∧H a=some (.lst (ns.map V.int))∧ns.length≤12∧
  ∀ (r o f:Addr) (q:Nu) (xs:List (Nu×Nu)) (ts:List V) (ls:List Nu) (H':Hp),Same H H'→H' r=some (.tup [.ref o,.ref f])→LN H' o q xs→C6 q→(∀ x∈xs,Rs x)→xs.length≤2*ns.length→H' f=some (.lst ts)→Nums H' ts ls→ls.length=8→qdU ls→(∀ q∈ls,Cz 200040 q)→(∀ j q,ls[j]?=some q→val q=WR (pj j) xs)→Q (.ref r) H'
end Bs
namespace Bs
open PySem L2
section
variable (K:W.Frag)
set_option linter.unusedVariables false
noncomputable def qbQ (_:W.Frag):TS:=
  (qaG (qdb (qaU (tOp rNe (qal 1) (tC (.int 0)))) (qaG (qa3 (tOp qkY (qal 0) (qal 1)) (qam 2))
    (qaG (qa3 (qal 1) (qam 0))
    (qa3 (qal 2) (qam 1)))))
    (qbB (tCB qkz (qac (qal 0) qan))))
noncomputable def qhW:TS:=
  (qaG (qa3 (qap (qau K) [] E0 (qac (qal 0) (qac (qal 1) qan))) (qam 2))
    (qaG (qdH (qaU (tOp iLt (qal 1) (tC (.int 0)))) (qa3 (tUn qiF (qal 2)) (qam 2)) qbC)
    (qbB (qbu (qac (tOp qgQ (qal 0) (qal 2)) (qac (tOp qgQ (qal 1) (qal 2)) qan))))))
noncomputable def qju:TS:=
  (qbB (qap (qbM K) [] E0 (qac (tOp qjm (tOp qeM (tOp gT (qal 0) (tC (.int 0))) (tOp gT (qal 1) (tC (.int 1)))) (tOp qeM (tOp gT (qal 1) (tC (.int 0))) (tOp gT (qal 0) (tC (.int 1))))) (qac (tOp qeM (tOp gT (qal 0) (tC (.int 1))) (tOp gT (qal 1) (tC (.int 1)))) qan))))
noncomputable def qhX:TS:=
  (qbB (qap (qbM K) [] E0 (qac (tOp qeM (tOp gT (qal 0) (tC (.int 0))) (tOp gT (qal 1) (tC (.int 0)))) (qac (tOp qeM (tOp gT (qal 0) (tC (.int 1))) (tOp gT (qal 1) (tC (.int 1)))) qan))))
noncomputable def qbv:TS:=
  (qbB (qbu (qac (qal 0) (qac (tCB qhF (qac (qbF (qb6 K (qal 3)) [none,none] (qc0 2 (qbg (qam 0) (qbg (qam 1) qgs))) (qbu (qac (qal 0) (qac (qbu (qac (qal 1) (qac (tC (.int 1)) qan))) qan)))) qan)) qan))))
noncomputable def qbw:TS:=
  (qaG (qa3 (qeT qhV qfL qgV (qap (qaQ K) [] E0 (qac (qal 2) qan))) (qam 3))
    (qbv K))
noncomputable def qdr:TS:=
  (qaG (qa3 (tOp qjR (qbF (qb6 K (qal 1)) [none,none] (qc0 2 (qbg (qam 0) (qbg (qam 1) qgs))) (qbu (qac (qal 0) (qac (tOp gT (qal 1) (tC (.int 0))) qan)))) (qbF (qb6 K (qal 1)) [none,none] (qc0 2 (qbg (qam 0) (qbg (qam 1) qgs))) (qbu (qac (qap (qcq K) [] E0 (qac (qal 0) (qac (qbu (qac (tUn qiF (tC (.int 1))) (qac (tC (.int 1)) qan))) qan))) (qac (tOp gT (qal 1) (tC (.int 1))) qan))))) (qam 2))
    (qbw K))
noncomputable def qa6:TS:=
  (qcw (tBM K "list" qfD (qal 1) (qac (qap (qaS K) [] E0 (qac (qal 3) (qac (tOp gL (qal 4) (tC (.int 0))) qan))) qan)))
noncomputable def qa7:TS:=
  (qaG (qcw (tBM K "list" qhL (qal 2) (qac (tOp gL (qal 4) (tC (.int 0))) qan)))
    (qa6 K))
noncomputable def qa8:TS:=
  (qdH (qiP (qal 4)) (qa7 K) (qcw (tBM K "list" qbd (qal 2) (qac (qal 3) qan))))
noncomputable def qa9:TS:=
  (qaG (qa3 (qeo (qb6 K (qal 2)) [none,some 3] (qam 0) (qaU (tOp iGt (qap (qau K) [] E0 (qac (tOp gT (qal 1) (tC (.int 1))) (qac (tOp gT (qal 0) (tC (.int 1))) qan))) (tC (.int 1)))) (qal 0)) (qam 4))
    (qa8 K))
noncomputable def qba:TS:=
  (qdH (qlI (qaU (tOp rNe (tOp gT (tOp gT (qal 3) (tC (.int 0))) (tC (.int 0))) (tC (.int 0)))) (qaU (tOp iGt (tOp gT (qal 3) (tC (.int 1))) (tC (.int 1))))) (qa9 K) qbC)
noncomputable def qbb:TS:=
  (qaG (qa3 (qlR K "list" qlS (qal 1)) (qam 3))
    (qba K))
noncomputable def qcL (_:W.Frag):TS:=
  (qbB (qal 2))
noncomputable def qbx:TS:=
  (qaG (qdb (qiP (qal 1)) (qbb K))
    (qcL K))
noncomputable def qby:TS:=
  (qaG (qa3 (qg7 qan) (qam 2))
    (qbx K))
noncomputable def qds:TS:=
  (qaG (qa3 (tCB qhG (qac (qal 0) qan)) (qam 1))
    (qby K))
noncomputable def qdZ:TS:=
  (qaG (qa3 (qap (qau K) [] E0 (qac (tOp gT (qal 0) (tC (.int 1))) (qac (tOp gT (qal 1) (tC (.int 1))) qan))) (qam 2))
    (qbB (qg7 (qac (qbu (qac (tOp gT (qal 0) (tC (.int 0))) (qac (tOp qhJ (tOp gT (qal 0) (tC (.int 1))) (qal 2)) qan))) (qac (qbu (qac (tOp gT (qal 1) (tC (.int 0))) (qac (tOp qhJ (tOp gT (qal 1) (tC (.int 1))) (qal 2)) qan))) (qac (qbu (qac (qap (qdY K) [] E0 (qac (tOp gT (qal 0) (tC (.int 0))) (qac (tOp gT (qal 1) (tC (.int 0))) qan))) (qac (qal 2) qan))) qan))))))
noncomputable def qiV:TS:=
  (qbB (qap (qav K) [] E0 (qac (qap (qdY K) [] E0 (qac (tOp gT (qal 0) (tC (.int 0))) (qac (tOp gT (qal 1) (tC (.int 0))) qan))) (qac (tOp qjR (tCB qfj (qac (tOp gT (qal 0) (tC (.int 1))) qan)) (tCB qfj (qac (tOp gT (qal 1) (tC (.int 1))) qan))) qan))))
noncomputable def qgW:TS:=
  (qbB (qap (qav K) [] E0 (qac (qap (qcq K) [] E0 (qac (tOp gT (qal 0) (tC (.int 0))) (qac (qal 1) qan))) (qac (qbF (qit K (tOp gT (qal 0) (tC (.int 1)))) [none,none,some 1] (qc0 2 (qbg (qam 0) (qbg (qam 1) qgs))) (qbu (qac (qap (qcq K) [] E0 (qac (qal 0) (qac (qal 2) qan))) (qac (qal 1) qan)))) qan))))
noncomputable def qlr:TS:=
  (qaG (qdH (qaU (qhj iLe iLt (tC (.int 0)) (qal 1) (tCB (qjV K) (qac (qal 0) qan)))) (qbB (tOp (gS K) (qal 0) (qal 1))) qbC)
    (qbB (tC (.int 0))))
noncomputable def qeu (_:W.Frag):TS:=
  (qbB (tOp qiq (tOp qjU (tOp qiq (tOp qeM (qal 3) (qal 3)) (tC (.int 1999999973))) (tC (.int 7))) (qal 2)))
noncomputable def qev:TS:=
  (qaG (qa3 (tOp qiq (tOp qeM (tOp qjm (tOp qjm (tOp qiq (qal 0) (tC (.int 2147483629))) (tOp qeM (tOp qeM (qal 1) (qal 1)) (tC (.int 7919)))) (tC (.int 11))) (tC (.int 48271))) (tC (.int 2147483647))) (qam 3))
    (qeu K))
noncomputable def qiW:TS:=
  (qaG (qdH (qlI (qaU (tOp iGt (qal 0) (tOp qlW (tC (.int 2)) (tC (.int 60))))) (qaU (tOp iLt (qal 2) (tC (.int 200))))) (qbB (tOp qiq (tOp qiq (tOp qmm (qal 0) (tOp qeM (tC (.int 8)) (qal 1))) (tC (.int 256))) (qal 2))) qbC)
    (qev K))
noncomputable def qew (_:W.Frag):TS:=
  (qaG (qky 2 3 (qac (tCB qkz (qac (qal 0) qan)) (qac (tCB qkz (qac (qal 1) qan)) qan)))
    (qaG (qdb (qaU (tOp iGt (qal 3) (tC (.int 0)))) (qky 2 3 (qac (qal 3) (qac (tOp qiq (qal 2) (qal 3)) qan))))
    (qaG (qdH (qaU (tOp iLt (qal 1) (tC (.int 0)))) (qa3 (tUn qiF (qal 2)) (qam 2)) qbC)
    (qbB (qbu (qac (tOp qgQ (qal 0) (qal 2)) (qac (tOp qgQ (qal 1) (qal 2)) qan)))))))
noncomputable def qgi:TS:=
  (qbB (qap (qaW K) [] E0 (qac (tOp qjm (tOp qeM (tOp gT (qal 0) (tC (.int 0))) (tOp gT (qal 1) (tC (.int 1)))) (tOp qeM (tOp gT (qal 1) (tC (.int 0))) (tOp gT (qal 0) (tC (.int 1))))) (qac (tOp qeM (tOp gT (qal 0) (tC (.int 1))) (tOp gT (qal 1) (tC (.int 1)))) qan))))
noncomputable def qfr:TS:=
  (qbB (qap (qaW K) [] E0 (qac (tOp qeM (tOp gT (qal 0) (tC (.int 0))) (tOp gT (qal 1) (tC (.int 0)))) (qac (tOp qeM (tOp gT (qal 0) (tC (.int 1))) (tOp gT (qal 1) (tC (.int 1)))) qan))))
noncomputable def qcM:TS:=
  (qaG (qdH (tOr (qgr (tB (tCB qjo (qac (qal 0) (qac (tC (.ty "tuple")) qan))))) (qaU (tOp rNe (tCB qhw (qac (qal 0) qan)) (tC (.int 2))))) (qbB (tC (.bl false))) qbC)
    (qaG (qdJ (qit K (qal 0)) (qam 1) (qdH (tOr (qgr (tB (tCB qjo (qac (qal 1) (qac (tC (.ty "int")) qan))))) (tB (tCB qjo (qac (qal 1) (qac (tC (.ty "bool")) qan))))) (qbB (tC (.bl false))) qbC))
    (qbB (qjH (tOp iGt (tOp gT (qal 0) (tC (.int 1))) (tC (.int 0))) (tOp eqT (qal 0) (qap (qaW K) [] E0 (qac (tOp gT (qal 0) (tC (.int 0))) (qac (tOp gT (qal 0) (tC (.int 1))) qan))))))))
noncomputable def qgX (_:W.Frag):TS:=
  (qbB (qbu (qac (tC (.int 2)) (qac (tC (.int 3)) (qac (tC (.int 5)) (qac (tC (.int 7)) (qac (tC (.int 11)) (qac (tC (.int 101)) (qac (tC (.int 999983)) (qac (tC (.int 1000000007)) qan))))))))))
noncomputable def qcb (_:W.Frag):TS:=
  (qdJ (qfx (qac (tCB qkz (qac (qal 6) qan)) qan)) (qam 7) (qdH (qaU (tOp iGt (qal 6) (tC (.int 0)))) (qa3 (tOp qeM (qal 1) (qal 5)) (qam 1)) (qa3 (tOp qeM (qal 2) (qal 5)) (qam 2))))
noncomputable def qcc:TS:=
  (qaG (qcw (tBM K "list" qbd (qal 3) (qac (qal 6) qan)))
    (qcb K))
noncomputable def qcd:TS:=
  (qaG (qa3 (tOp gT (qbu (qac (tC (.int 0)) (qac (tC (.int 0)) (qac (tC (.int 1)) (qac (tC (.int 2)) (qac (tUn qiF (tC (.int 1))) (qac (tC (.int 0)) (qac (tUn qiF (tC (.int 3))) (qac (tC (.int 1)) qan))))))))) (qap (qbm K) [] E0 (qac (qal 0) (qac (qal 4) (qac (tC (.int 8)) qan))))) (qam 6))
    (qcc K))
noncomputable def qdh (_:W.Frag):TS:=
  (qbB (qbu (qac (qbu (qac (qal 1) (qac (qal 2) qan))) (qac (qal 3) qan))))
noncomputable def qdi:TS:=
  (qaG (qdJ (qgc K (qac (qap (qbn K) [] E0 qan) qan)) (qc0 2 (qbg (qam 4) (qbg (qam 5) qgs))) (qcd K))
    (qdh K))
noncomputable def qdj:TS:=
  (qaG (qa3 (qg7 qan) (qam 3))
    (qdi K))
noncomputable def qdk:TS:=
  (qaG (qa3 (tC (.int 1)) (qam 2))
    (qdj K))
noncomputable def qgY:TS:=
  (qaG (qa3 (tC (.int 1)) (qam 1))
    (qdk K))
noncomputable def qbR:TS:=
  (qcw (tBM K "list" qbd (qal 2) (qac (qal 4) qan)))
noncomputable def qbS:TS:=
  (qaG (qdJ (qb6 K (qal 0)) (qc0 2 (qbg (qam 5) (qbg (qam 6) qgs))) (qa3 (qap (qbH K) [] E0 (qac (qal 4) (qac (qap (qaX K) [] E0 (qac (qal 5) (qac (qbu (qac (tOp gL (qal 6) (qal 3)) (qac (tC (.int 1)) qan))) qan))) qan))) (qam 4)))
    (qbR K))
noncomputable def qbT:TS:=
  (qaG (qa3 (qbu (qac (tC (.int 0)) (qac (tC (.int 1)) qan))) (qam 4))
    (qbS K))
noncomputable def qeY (_:W.Frag):TS:=
  (qbB (qal 2))
noncomputable def qcN:TS:=
  (qaG (qdJ (qfx (qac (qal 1) qan)) (qam 3) (qbT K))
    (qeY K))
noncomputable def qfM:TS:=
  (qaG (qa3 (qg7 qan) (qam 2))
    (qcN K))
noncomputable def qce (_:W.Frag):TS:=
  (qa3 (tOp qjm (qal 3) (tC (.int 1))) (qam 3))
noncomputable def qcf:TS:=
  (qaG (qa3 (tOp qhJ (qal 0) (qal 2)) (qam 0))
    (qce K))
noncomputable def qcg:TS:=
  (qcw (tBM K "list" qbd (qal 1) (qac (qal 3) qan)))
noncomputable def qch:TS:=
  (qaG (qdb (qaU (tOp rEq (tOp qiq (qal 0) (qal 2)) (tC (.int 0)))) (qcf K))
    (qcg K))
noncomputable def qci:TS:=
  (qaG (qa3 (tC (.int 0)) (qam 3))
    (qch K))
noncomputable def qfs (_:W.Frag):TS:=
  (qbB (qal 1))
noncomputable def qdl:TS:=
  (qaG (qdH (qaU (tOp rNe (qal 0) (tC (.int 1)))) (qbB (tC .non)) qbC)
    (qfs K))
noncomputable def qdm:TS:=
  (qaG (qdJ (qit K (qap (qbn K) [] E0 qan)) (qam 2) (qci K))
    (qdl K))
noncomputable def qgZ:TS:=
  (qaG (qa3 (qg7 qan) (qam 1))
    (qdm K))
noncomputable def qbz (_:W.Frag):TS:=
  (qdH (qaU (tOp rNe (qal 4) (tC (.int 1)))) (qbB (tC (.bl false))) qbC)
noncomputable def qbA:TS:=
  (qaG (qdb (qaU (tOp iGt (qal 5) (tC (.int 0)))) (qky 4 5 (qac (qal 5) (qac (tOp qiq (qal 4) (qal 5)) qan))))
    (qbz K))
noncomputable def qcO:TS:=
  (qaG (qky 4 5 (qac (qal 2) (qac (qal 3) qan)))
    (qbA K))
noncomputable def qd0 (_:W.Frag):TS:=
  (qbB (tC (.bl true)))
noncomputable def qeZ:TS:=
  (qaG (qdJ (qgb K (qac (qal 0) qan)) (qc0 2 (qbg (qam 1) (qbg (qam 2) qgs))) (qdJ (qb6 K (tSl sL (qal 0) qfA (qfB (qal 1)))) (qam 3) (qcO K)))
    (qd0 K))
noncomputable def qbo:TS:=
  (qcw (tBM K "list" qbd (qal 4) (qac (tOp gT (tOp gT (qal 5) (tC (.int 1))) (tC (.int 0))) qan)))
noncomputable def qbp:TS:=
  (qaG (qcw (tBM K "list" qbd (qal 3) (qac (qbu (qac (tOp gT (qal 5) (tC (.int 0))) (qac (qal 6) qan))) qan)))
    (qbo K))
noncomputable def qbq:TS:=
  (qaG (qdH (qaU (tOp qmk (qal 6) (tC .non))) (qbB (tC (.bl false))) qbC)
    (qbp K))
noncomputable def qbr:TS:=
  (qaG (qa3 (qap (qbO K) [] E0 (qac (tOp gT (tOp gT (qal 5) (tC (.int 1))) (tC (.int 0))) qan)) (qam 6))
    (qbq K))
noncomputable def qbs:TS:=
  (qaG (qdH (tOr (qgr (tB (qap (qaK K) [] E0 (qac (tOp gT (qal 5) (tC (.int 1))) qan)))) (tOr (qaU (tOp rNe (tOp gT (tOp gT (qal 5) (tC (.int 1))) (tC (.int 1))) (tC (.int 1)))) (qaU (tOp iLt (tOp gT (tOp gT (qal 5) (tC (.int 1))) (tC (.int 0))) (tC (.int 2)))))) (qbB (tC (.bl false))) qbC)
    (qbr K))
noncomputable def qbt:TS:=
  (qaG (qdH (tOr (qgr (tB (tCB qjo (qac (qal 5) (qac (tC (.ty "tuple")) qan))))) (tOr (qaU (tOp rNe (tCB qhw (qac (qal 5) qan)) (tC (.int 2)))) (tOr (qgr (tB (qap (qaK K) [] E0 (qac (tOp gT (qal 5) (tC (.int 0))) qan)))) (qaU (tOp eqT (tOp gT (qal 5) (tC (.int 0))) (qbu (qac (tC (.int 0)) (qac (tC (.int 1)) qan)))))))) (qbB (tC (.bl false))) qbC)
    (qbs K))
noncomputable def qbU:TS:=
  (qbB (tOp eqD (qap (qa5 K) [] E0 (qac (qal 3) (qac (tC (.int 8)) qan))) (qal 2)))
noncomputable def qbV:TS:=
  (qaG (qdH (tOr (qaU (tOp neD (qal 4) (tCB qhK (qac (qal 4) qan)))) (qgr (tB (qap (qa2 K) [] E0 (qac (qal 4) qan))))) (qbB (tC (.bl false))) qbC)
    (qbU K))
noncomputable def qbW:TS:=
  (qaG (qdJ (qit K (tOp gT (qal 0) (tC (.int 1)))) (qam 5) (qbt K))
    (qbV K))
noncomputable def qbX:TS:=
  (qaG (qa3 (qg7 qan) (qam 4))
    (qbW K))
noncomputable def qbY:TS:=
  (qaG (qa3 (qg7 qan) (qam 3))
    (qbX K))
noncomputable def qbZ:TS:=
  (qaG (qdH (qgr (tB (tCB qjo (qac (tOp gT (qal 0) (tC (.int 1))) (qac (tC (.ty "tuple")) qan))))) (qbB (tC (.bl false))) qbC)
    (qbY K))
noncomputable def qeb:TS:=
  (qaG (qdH (tOr (qgr (tB (tCB qjo (qac (qal 0) (qac (tC (.ty "tuple")) qan))))) (tOr (qaU (tOp rNe (tCB qhw (qac (qal 0) qan)) (tC (.int 2)))) (tOr (qgr (tB (qap (qaK K) [] E0 (qac (tOp gT (qal 0) (tC (.int 0))) qan)))) (qaU (tOp neD (tOp gT (qal 0) (tC (.int 0))) (qal 1)))))) (qbB (tC (.bl false))) qbC)
    (qbZ K))
noncomputable def ql7:TS:=
  (qbB (qap (qaW K) [] E0 (qac (tOp qmj (qap (qbm K) [] E0 (qac (qal 0) (qac (qal 1) (qac (tC (.int 13)) qan)))) (tC (.int 6))) (qac (tOp qjm (tC (.int 1)) (qap (qbm K) [] E0 (qac (qal 0) (qac (tOp qjm (qal 1) (tC (.int 1))) (qac (tC (.int 5)) qan))))) qan))))
noncomputable def qcP:TS:=
  (qcw (tBM K "list" qbd (qal 2) (qac (qbu (qac (qap (qaX K) [] E0 (qac (qal 6) (qac (qbu (qac (tUn qiF (tC (.int 1))) (qac (tC (.int 1)) qan))) qan))) (qac (qal 5) qan))) qan)))
noncomputable def qcQ:TS:=
  (qaG (qcw (tBM K "list" qbd (qal 1) (qac (qbu (qac (qap (qaX K) [] E0 (qac (qal 6) (qac (qbu (qac (tUn qiF (tC (.int 1))) (qac (tC (.int 1)) qan))) qan))) (qac (qal 4) qan))) qan)))
    (qcP K))
noncomputable def qcR:TS:=
  (qdH (qaU (tOp rEq (qap (qbm K) [] E0 (qac (qal 3) (qac (tC (.int 12)) (qac (tC (.int 4)) qan)))) (tC (.int 0)))) (qcQ K) qbC)
noncomputable def qcS:TS:=
  (qaG (qcw (tBM K "list" qbd (qal 2) (qac (qbu (qac (qal 6) (qac (qal 5) qan))) qan)))
    (qcR K))
noncomputable def qcT:TS:=
  (qaG (qcw (tBM K "list" qbd (qal 1) (qac (qbu (qac (qal 6) (qac (qal 4) qan))) qan)))
    (qcS K))
noncomputable def qcU:TS:=
  (qaG (qa3 (qap (qet K) [] E0 (qac (qal 3) (qac (tC (.int 10)) qan))) (qam 6))
    (qcT K))
noncomputable def qcV:TS:=
  (qaG (qa3 (qap (qbN K) [] E0 (qac (qal 3) qan)) (qc0 2 (qbg (qam 4) (qbg (qam 5) qgs))))
    (qcU K))
noncomputable def qex (_:W.Frag):TS:=
  (qbB (qbu (qac (qal 1) (qac (qal 2) qan))))
noncomputable def qey:TS:=
  (qaG (qdJ (qb6 K (qal 0)) (qam 3) (qcV K))
    (qex K))
noncomputable def qez:TS:=
  (qaG (qa3 (qg7 qan) (qam 2))
    (qey K))
noncomputable def qiX:TS:=
  (qaG (qa3 (qg7 qan) (qam 1))
    (qez K))
noncomputable def qb0:TS:=
  (qbB (qbu (qac (qbu (qac (qap (qet K) [] E0 (qac (qal 0) (qac (tC (.int 3)) qan))) (qac (tCB qhF (qac (qal 4) qan)) qan))) (qac (qap (qa5 K) [] E0 (qac (qal 3) (qac (tC (.int 8)) qan))) qan))))
noncomputable def qb1:TS:=
  (qaG (qa3 (qeo (qb6 K (qal 2)) [none] (qam 0) (qaU (tOp neD (tOp gT (qal 0) (tC (.int 0))) (qbu (qac (tC (.int 0)) (qac (tC (.int 1)) qan))))) (qal 0)) (qam 4))
    (qb0 K))
noncomputable def qec:TS:=
  (qaG (qa3 (qap (qcK K) [] E0 (qac (qal 1) qan)) (qc0 2 (qbg (qam 2) (qbg (qam 3) qgs))))
    (qb1 K))
noncomputable def qhY:TS:=
  (qbB (tOp eqD (qap (qca K) [] E0 (qac (qal 1) (qac (qap (qa1 K) [] E0 (qac (qal 1) (qac (qbu (qac (tUn qiF (tC (.int 1))) (qac (tC (.int 1)) qan))) qan))) qan))) (qbu (qac (qbu (qac (tC (.int 0)) (qac (tC (.int 1)) qan))) (qac (qbu qan) qan)))))
noncomputable def qhZ:TS:=
  (qaG (qdH (qgr (tB (qap (qaO K) [] E0 (qac (qap (qa1 K) [] E0 (qac (qal 1) (qac (qal 6) qan))) (qac (qap (qaX K) [] E0 (qac (qal 6) (qac (tOp gT (qal 1) (tC (.int 0))) qan))) (qac (qal 5) qan)))))) (qbB (tC (.bl false))) qbC)
    (qhY K))
noncomputable def qh0:TS:=
  (qaG (qa3 (qbF (qb6 K (qal 2)) [none,some 6] (qam 0) (qap (qaX K) [] E0 (qac (qal 1) (qac (qal 0) qan)))) (qam 5))
    (qhZ K))
noncomputable def qh1:TS:=
  (qaG (qa3 (qap (qet K) [] E0 (qac (qap (qc2 K) [] E0 (qac (qal 0) (qac (tC (.int 14)) qan))) (qac (tC (.int 5)) qan))) (qam 6))
    (qh0 K))
noncomputable def qh2:TS:=
  (qaG (qdH (qgr (tB (qap (qaO K) [] E0 (qac (qap (qca K) [] E0 (qac (qal 1) (qac (qal 3) qan))) (qac (qap (qbH K) [] E0 (qac (tOp gT (qal 1) (tC (.int 0))) (qac (tOp gT (qal 3) (tC (.int 0))) qan))) (qac (qal 5) qan)))))) (qbB (tC (.bl false))) qbC)
    (qh1 K))
noncomputable def qh3:TS:=
  (qaG (qa3 (qbF (qfx (qac (tC (.int 8)) qan)) [none,some 2,some 4] (qam 0) (qap (qbH K) [] E0 (qac (tOp gL (qal 1) (qal 0)) (qac (tOp gL (qal 2) (qal 0)) qan)))) (qam 5))
    (qh2 K))
noncomputable def qh4:TS:=
  (qaG (qa3 (qap (qaE K) [] E0 (qac (qap (qc2 K) [] E0 (qac (qal 0) (qac (tC (.int 1)) qan))) (qac (tSl (sS K) (qal 0) (qfB (tC (.int 8))) (qfB (tC (.int 14)))) qan))) (qc0 2 (qbg (qam 3) (qbg (qam 4) qgs))))
    (qh3 K))
noncomputable def ql8:TS:=
  (qaG (qa3 (qap (qaE K) [] E0 (qac (qap (qc2 K) [] E0 (qac (qal 0) (qac (tC (.int 0)) qan))) (qac (tSl (sS K) (qal 0) (qfB (tC (.int 2))) (qfB (tC (.int 8)))) qan))) (qc0 2 (qbg (qam 1) (qbg (qam 2) qgs))))
    (qh4 K))
end
end Bs
namespace Bs
open PySem L2
variable {K:W.Frag} {vs:List V} {H:Hp} {Q:VK} {E:XK}
local macro_rules | `(tactic| rwa [$[$t:term],*]) => do
  let l : Array Lean.Term := (("qaG qa3 qap qac qal qan qam qmy L2.start qdH tIf qaU L2.tB tOp rI0 rI L2.tC tUn rU qbC qbB qbu qg7 qky qmz qcw tCB qhj qlI tOr qgr qjH qmv qlL rEq rNe qlQ qjm qmj qeM qjU qlV qiq qkY qlW iLt iLe iGt iGe qiF gT gL gS qkz qmI qmJ qlX qhw qlY qjV qjo qjW qfh qk0 eqT qjY qjZ qk2 qk3 List.map_cons List.map_nil List.length_cons List.length_nil List.replicate List.cons_append List.nil_append List.append_nil List.getElem?_cons_zero List.getElem?_cons_succ Option.some.injEq exists_eq_left' exists_eq_left V.int.injEq V.bl.injEq V.ref.injEq V.ty.injEq HO.tup.injEq HO.lst.injEq List.cons.injEq and_true true_and and_assoc exists_and_left List.set_cons_zero List.set_cons_succ decide_eq_true_eq decide_eq_false_iff_not Bool.not_eq_true' Bool.true_eq_false Bool.false_eq_true Bool.not_true Bool.not_false if_true if_false ite_true ite_false qj0 qj1 qiH qiI qgE qgF qgG qgH qgI Nat.zero_add Nat.reduceAdd Nat.reduceSub qab Int.cast_ofNat_Int decide_true decide_false eq_self not_true_eq_false not_false_eq_true Int.natCast_add Int.natCast_zero reduceCtorEq Nm qc0 qbg qgs qlM tSl qfA qfB sL sT qhF qfj qhG qiP qlZ qmF qjR qbd qfD qlS tBM qlR qiK qiL qj5 qj6 qiM qkc qiQ qj7 qj8 qka qkb ql2 qlj ql3 qmk ql1 qhJ qgQ qml qkA qb4 Option.bind_some Option.bind_none Option.bind Option.join id_eq sS ql4 ql5 qau qbM qct".splitOn " ").map fun s => (⟨(Lean.mkIdent s.toName).raw⟩ : Lean.Term)).toArray
  `(tactic| simp only [$[$(l ++ t):term],*])
theorem qed {a b:Int} (ha:Bd 60000000 a) (hb:Bd 60000000 b):IntMulOk a b:=qlk ha hb (by decide)
theorem qlJ {a b:Int} (h1:-18446744073709551616<b) (h2:b<18446744073709551616):IntMulOk a b:=IntMulOk.of_right (intBits_le_64 (by omega) (by omega))
theorem ql9 {a b:Int} (h1:-18446744073709551616<a) (h2:a<18446744073709551616):IntMulOk a b:=IntMulOk.of_left (intBits_le_64 (by omega) (by omega))
theorem qc3 (h:qau K vs H Q E):qbQ K { nx:=fun _ H'=>Q .non H',rt:=Q } (L2.start ["one", "other", "rest"] vs) H:=by
  obtain ⟨a,b,rfl,q⟩:=h
  unfold qbQ
  rwa []
  refine while_by (fun m σ H'=>∃ (x y:Int) (r:Option V),σ=[some (.int x),some (.int y),r]∧H'=H∧Int.gcd x y=Int.gcd a b∧m=y.natAbs) b.natAbs ⟨a,b,none,rfl,rfl,rfl,rfl⟩ ?_
  rintro m σ H' ⟨x,y,r,rfl,rfl,hg,rfl⟩
  rwa []
  refine qbJ (fun c=>?_) (fun c=>?_)
  · refine ⟨fun σ' H''=>∃ m',m'<y.natAbs∧_,fun _ _ h=>h,?_⟩
    refine ⟨c,_,qhv x c,y,x.fmod y,_,rfl,rfl,?_,rfl⟩
    rw [qf7];exact hg
  · have y0:y=0:=Decidable.not_not.mp c
    subst y0
    have e:(if x<0 then -x else x)=((Int.gcd a b:Nat):Int):=by
      rw [← hg,Int.gcd_zero_right];split <;> omega
    rw [e];exact q
theorem qdC {n m:Int} (h:0<m):qgT n m=red n m:=by unfold qgT;rw [if_neg (by omega)]
theorem qiY (h:qbM K vs H Q E):qhW K { nx:=fun _ H'=>Q .non H',rt:=Q } (L2.start ["top", "bottom", "shared"] vs) H:=by
  obtain ⟨a,b,rfl,hb,q⟩:=h
  unfold qhW
  rwa []
  have go:∀ s:Int,(s=if b<0 then -((Int.gcd a b:Nat):Int) else ((Int.gcd a b:Nat):Int))→qkA a s∧qkA b s∧2≤sizeLine∧∀ (p:Addr),H p=none→Q (V.ref p) (upd H p (HO.tup [V.int (a.fdiv s),V.int (b.fdiv s)])):=fun s hs=>by
    obtain ⟨h1,h2,h3,h4,h5,h6⟩:=qcl hb hs
    have e:qgT a b=(a.fdiv s,b.fdiv s):=by
      refine qcx (qdz hb) h3 ?_
      rw [qdA hb,qdV (q:=(a.fdiv s,b.fdiv s)) (Int.ne_of_gt h3.pos) hb h4]
    rw [e] at q
    exact ⟨h1,h1,sz (by decide),q⟩
  refine qbJ (fun c=>?_) (fun c=>?_)
  · exact go _ (by rw [if_pos c])
  · exact go _ (by rw [if_neg c])
theorem php:∀ (m n:Nat) (f:Nat→Nat),(∀ i,i<n→f i<m)→m<n→∃ i j,i<j∧j<n∧f i=f j
  | 0,n,f,h,hn=>absurd (h 0 hn) (Nat.not_lt_zero _)
  | m+1,n,f,h,hn=>by
    obtain ⟨n,rfl⟩:∃ k,n=k+1:=⟨n - 1,by omega⟩
    by_cases c:∃ i,i<n∧f i=f n
    · obtain ⟨i,hi,e⟩:=c
      exact ⟨i,n,hi,by omega,e⟩
    · have c:∀ i,i<n→f i≠f n:=fun i hi e=>c ⟨i,hi,e⟩
      have hv:=h n (by omega)
      obtain ⟨i,j,hij,hj,e⟩:=php m n (fun i=>if f n<f i then f i - 1 else f i) (fun i hi=>by
        have h1:=h i (by omega)
        have h2:=c i hi
        show (if f n<f i then f i - 1 else f i)<m
        split <;> omega) (by omega)
      refine ⟨i,j,hij,by omega,?_⟩
      have c1:=c i (by omega)
      have c2:=c j hj
      have e:(if f n<f i then f i - 1 else f i)=(if f n<f j then f j - 1 else f j):=e
      split at e <;> split at e <;> omega
theorem qiZ (h:qcq K vs H Q E):qhX K { nx:=fun _ H'=>Q .non H',rt:=Q } (L2.start ["one", "other"] vs) H:=by
  obtain ⟨p,q,a,b,c,d,rfl,hp,hq,b0,d0,ba,bb,bc,bd,k⟩:=h
  unfold qhX
  rwa [hp,hq]
  exact ⟨qed ba bc,qed bb bd,Int.ne_of_gt (Int.mul_pos b0 d0),fun r hr=>by rw [qdC (Int.mul_pos b0 d0)];exact k r hr⟩
theorem qg0 (h:qaX K vs H Q E):qfr K { nx:=fun _ H'=>Q .non H',rt:=Q } (L2.start ["_law_one", "_law_other"] vs) H:=by
  obtain ⟨p,q,a,b,c,d,rfl,hp,hq,b0,d0,ba,bb,bc,bd,k⟩:=h
  unfold qfr
  rwa [hp,hq]
  exact ⟨qed ba bc,qed bb bd,Int.ne_of_gt (Int.mul_pos b0 d0),fun r hr=>by rw [qdC (Int.mul_pos b0 d0)];exact k r hr⟩
theorem qkk (h:qdY K vs H Q E):qju K { nx:=fun _ H'=>Q .non H',rt:=Q } (L2.start ["one", "other"] vs) H:=by
  obtain ⟨p,q,a,b,c,d,rfl,hp,hq,b0,d0,ba,bb,bc,bd,k⟩:=h
  unfold qju
  rwa [hp,hq]
  exact ⟨qed ba bd,qed bc bb,qed bb bd,Int.ne_of_gt (Int.mul_pos b0 d0),fun r hr=>by rw [qdC (Int.mul_pos b0 d0)];exact k r hr⟩
theorem qfN (h:qaW K vs H Q E):qew K { nx:=fun _ H'=>Q .non H',rt:=Q } (L2.start ["_law_top", "_law_bottom", "_law_one", "_law_other"] vs) H:=by
  obtain ⟨a,b,rfl,hb,q⟩:=h
  unfold qew
  rwa []
  have go:∀ s:Int,(s=if b<0 then -((Int.gcd a b:Nat):Int) else ((Int.gcd a b:Nat):Int))→qkA a s∧qkA b s∧2≤sizeLine∧∀ (p:Addr),H p=none→Q (V.ref p) (upd H p (HO.tup [V.int (a.fdiv s),V.int (b.fdiv s)])):=fun s hs=>by
    obtain ⟨h1,h2,h3,h4,h5,h6⟩:=qcl hb hs
    have e:qgT a b=(a.fdiv s,b.fdiv s):=by
      refine qcx (qdz hb) h3 ?_
      rw [qdA hb,qdV (q:=(a.fdiv s,b.fdiv s)) (Int.ne_of_gt h3.pos) hb h4]
    rw [e] at q
    exact ⟨h1,h1,sz (by decide),q⟩
  refine while_by (fun m σ H'=>∃ x y:Int,σ=[some (.int a),some (.int b),some (.int x),some (.int y)]∧H'=H∧0≤x∧0≤y∧Int.gcd x y=Int.gcd a b∧m=y.natAbs) b.natAbs ⟨_,_,rfl,rfl,by split <;> omega,by split <;> omega,?_,by split <;> omega⟩ ?_
  · split <;> split <;> simp [Int.neg_gcd,Int.gcd_neg]
  rintro m σ H' ⟨x,y,rfl,rfl,x0,y0,hg,rfl⟩
  rwa []
  refine qbJ (fun c=>?_) (fun c=>?_)
  · refine ⟨fun σ' H''=>∃ m',m'<y.natAbs∧_,fun _ _ h=>h,?_⟩
    have z1:=Int.emod_nonneg x (show y≠0 by omega)
    have z2:=Int.emod_lt_of_pos x c
    refine ⟨c,(x % y).natAbs,by omega,y,x % y,rfl,rfl,y0,z1,?_,rfl⟩
    rw [qf8 x y0];exact hg
  · have e:y=0:=by omega
    subst e
    have ex:x=((Int.gcd a b:Nat):Int):=by rw [← hg,Int.gcd_zero_right];omega
    refine qbJ (fun c2=>?_) (fun c2=>?_)
    · exact go _ (by rw [if_pos c2,ex])
    · exact go _ (by rw [if_neg c2,ex])
theorem qh5 (h:qbH K vs H Q E):qgi K { nx:=fun _ H'=>Q .non H',rt:=Q } (L2.start ["_law_one", "_law_other"] vs) H:=by
  obtain ⟨p,q,a,b,c,d,rfl,hp,hq,b0,d0,ba,bb,bc,bd,k⟩:=h
  unfold qgi
  rwa [hp,hq]
  exact ⟨qed ba bd,qed bc bb,qed bb bd,Int.ne_of_gt (Int.mul_pos b0 d0),fun r hr=>by rw [qdC (Int.mul_pos b0 d0)];exact k r hr⟩
theorem qh6 {a b c:Int} (h:a∣b*c) (g:Int.gcd a c=1):a∣b:=by
  have h1:Nat.Coprime a.natAbs c.natAbs:=g
  refine Int.natAbs_dvd_natAbs.mp (h1.dvd_of_dvd_mul_right ?_)
  rw [← Int.natAbs_mul]
  exact Int.natAbs_dvd_natAbs.mpr h
theorem qls {p:Nat} (hp:Pr p) {a:Int} (h:¬ (p:Int)∣a):Int.gcd (p:Int) a=1:=by
  rcases hp.div _ (Int.gcd_dvd_natAbs_left (p:Int) a) with z | z
  · exact z
  · exact absurd (z ▸ Int.gcd_dvd_right (p:Int) a) h
theorem qlt {p:Nat} (hp:Pr p) {a:Int} (h:¬ (p:Int)∣a) (j:Nat):Int.gcd ((p ^ j:Nat):Int) a=1:=by
  have h1:Nat.Coprime p a.natAbs:=qls hp h
  exact Nat.Coprime.pow_left j h1
theorem qlu {p:Nat} (hp:Pr p) {a h:Int} (n:¬ (p:Int)∣a) (j:Nat) (d:((p ^ j:Nat):Int)∣h*a):((p ^ j:Nat):Int)∣h:=qh6 d (qlt hp n j)
theorem qjv {p:Nat} (hp:Pr p) {a b:Int} (h:(p:Int)∣a*b):(p:Int)∣a∨(p:Int)∣b:=by
  by_cases c:(p:Int)∣b
  · exact .inr c
  · have:=qlu hp c 1 (h:=a) (by rw [Nat.pow_one];exact h)
    rw [Nat.pow_one] at this
    exact .inl this
theorem qjw {p:Nat} (hp:Pr p) {a:Int}:∀ n:Nat,(p:Int)∣a ^ n→(p:Int)∣a
  | 0,h=>by
    rw [Int.pow_zero] at h
    have:=Int.le_of_dvd (by decide) h
    have:=hp.two
    omega
  | n+1,h=>by
    rw [Int.pow_succ] at h
    rcases qjv hp h with z | z
    · exact qjw hp n z
    · exact z
theorem qi0:([]:List V).length≤sizeLine:=Nat.zero_le _
theorem qlv {σ:L2.St} {H:Hp} {Q:VK} {ta tb tc:TE} (h:ta σ H fun x H1=>tb σ H1 fun y H2=>tc σ H2 fun z H3=>[x,y,z].length≤sizeLine∧∀ p,H3 p=none→Q (.ref p) (upd H3 p (.lst [x,y,z]))):qg7 (qac ta (qac tb (qac tc qan))) σ H Q:=h
theorem Al.ind {α:Type} {R:V→α→Prop} {M:List V→List α→Prop} (h0:M [] []) (h1:∀ u x us xs,R u x→Al R us xs→M us xs→M (u::us) (x::xs)):∀ {us:List V} {xs:List α},Al R us xs→M us xs:=by
  intro us
  induction us with
  | nil=>intro xs a;cases xs with
    | nil=>exact h0
    | cons _ _=>exact a.elim
  | cons u us ih=>intro xs a;cases xs with
    | nil=>exact a.elim
    | cons x xs=>exact h1 u x us xs a.1 a.2 (ih a.2)
theorem Al.mono {α:Type} {R R':V→α→Prop} (h:∀ u x,R u x→R' u x) {us:List V} {xs:List α} (a:Al R us xs):Al R' us xs:=
  Al.ind (M:=fun us xs=>Al R' us xs) trivial (fun u x _ _ r _ ih=>⟨h u x r,ih⟩) a
theorem Al.length {α:Type} {R:V→α→Prop} {us:List V} {xs:List α} (a:Al R us xs):us.length=xs.length:=
  Al.ind (M:=fun (us:List V) (xs:List α)=>us.length=xs.length) rfl (fun _ _ us xs _ _ (ih:us.length=xs.length)=>show us.length+1=xs.length+1 by rw [ih]) a
theorem Al.get {α:Type} {R:V→α→Prop} {us:List V} {xs:List α} (a:Al R us xs):∀ {i:Nat} {u:V},us[i]?=some u→∃ x,xs[i]?=some x∧R u x:=
  Al.ind (M:=fun us xs=>∀ {i:Nat} {u:V},us[i]?=some u→∃ x,xs[i]?=some x∧R u x) (fun e=>by cases e) (fun v x _ _ r _ ih=>fun {i u} e=>by
    cases i with
    | zero=>cases e;exact ⟨x,rfl,r⟩
    | succ i=>exact ih e) a
theorem Al.append {α:Type} {R:V→α→Prop} {us:List V} {xs:List α} {vs:List V} {ys:List α} (a:Al R us xs) (b:Al R vs ys):Al R (us++vs) (xs++ys):=
  Al.ind (M:=fun us xs=>Al R (us++vs) (xs++ys)) (by exact b) (fun u x us xs r _ ih=>show Al R (u::(us++vs)) (x::(xs++ys)) from ⟨r,ih⟩) a
theorem Al.erase {α:Type} {R:V→α→Prop} {us:List V} {xs:List α} (a:Al R us xs):∀ j:Nat,Al R (us.eraseIdx j) (xs.eraseIdx j):=
  Al.ind (M:=fun us xs=>∀ j:Nat,Al R (us.eraseIdx j) (xs.eraseIdx j)) (fun _=>trivial) (fun _ _ _ _ r t ih j=>by
    cases j with
    | zero=>exact t
    | succ j=>exact ⟨r,ih j⟩) a
theorem Al.take {α:Type} {R:V→α→Prop} {us:List V} {xs:List α} (a:Al R us xs):∀ j:Nat,Al R (us.take j) (xs.take j):=
  Al.ind (M:=fun us xs=>∀ j:Nat,Al R (us.take j) (xs.take j)) (fun j=>by rw [List.take_nil,List.take_nil];trivial) (fun _ _ _ _ r t ih j=>by
    cases j with
    | zero=>trivial
    | succ j=>exact ⟨r,ih j⟩) a
theorem Al.dropLast {α:Type} {R:V→α→Prop} {us:List V} {xs:List α} (a:Al R us xs):Al R us.dropLast xs.dropLast:=by
  rw [List.dropLast_eq_take,List.dropLast_eq_take,a.length]
  exact a.take _
theorem Al.snoc {α:Type} {R:V→α→Prop} {us:List V} {xs:List α} {u:V} {x:α} (a:Al R us xs) (h:R u x):Al R (us++[u]) (xs++[x]):=a.append ⟨h,trivial⟩
theorem Pc.tp {H H':Hp} {u:V} {x:Pce} (t:Tp H H') (h:Pc H u x):Pc H' u x:=by
  obtain ⟨a,b,rfl,h1,h2⟩:=h
  exact ⟨a,b,rfl,t _ _ h1,t _ _ h2⟩
theorem Rw.tp {H H':Hp} {u:V} {x:Nu×Nu} (t:Tp H H') (h:Rw H u x):Rw H' u x:=by
  obtain ⟨a,b,d,rfl,h1,h2,h3⟩:=h
  exact ⟨a,b,d,rfl,t _ _ h1,t _ _ h2,t _ _ h3⟩
theorem Cz.mono {s t:Nat} {q:Nu} (h:Cz s q) (l:s≤t):Cz t q:=by
  obtain ⟨lo,k,e,b⟩:=h
  exact ⟨lo,k,e,b.mono l⟩
theorem Cz.bd {t:Nat} {q:Nu} (h:Cz t q):Bd t q.1∧Bd 12 q.2:=by
  obtain ⟨lo,k,e,b⟩:=h
  have p:=lo.pos
  have e:q.1*3600=k*q.2:=by
    unfold val at e
    have d1:(q.2:Rat)≠0:=qb8 (by omega)
    have h1:(q.1:Rat) / (q.2:Rat)*(q.2:Rat)=q.1:=Rat.div_mul_cancel d1
    have:(q.1:Rat)*3600=k*q.2:=by rw [← h1,e];grind
    exact_mod_cast this
  have d60:q.2∣3600:=qh6 (c:=q.1) ⟨k,by rw [Int.mul_comm 3600,e,Int.mul_comm]⟩ (by rw [Int.gcd_comm];exact lo.one)
  obtain ⟨m,hm⟩:=d60
  have m0:0<m:=by
    rcases Int.lt_trichotomy m 0 with y | y | y
    · have:q.2*m≤q.2*(-1):=Int.mul_le_mul_of_nonneg_left (by omega) (by omega)
      omega
    · rw [y] at hm;omega
    · exact y
  have e2:q.1*m=k:=by
    have:(q.1*m)*q.2=k*q.2:=by rw [← e,hm];grind
    exact Int.eq_of_mul_eq_mul_right (by omega) this
  constructor
  · refine b.le ?_
    rw [← e2,Int.natAbs_mul]
    exact Nat.le_mul_of_pos_right _ (by omega)
  · have:q.2≤3600:=Int.le_of_dvd (by decide) ⟨m,hm⟩
    show q.2.natAbs<4096
    omega
theorem Cz.add {t:Nat} {q r:Nu} (h:Cz t q) (h':Cz t r):Cz (t+1) (nadd q r):=by
  obtain ⟨lo,k,e,b⟩:=h
  obtain ⟨lo',k',e',b'⟩:=h'
  exact ⟨qdy lo.pos lo'.pos,k+k',by rw [qcG lo.pos lo'.pos,e,e'];push_cast;grind,b.add b'⟩
theorem Cz.neg {t:Nat} {q:Nu} (h:Cz t q):Cz t (nmul q (-1,1))∧val (nmul q (-1,1)) = - val q:=by
  obtain ⟨lo,k,e,b⟩:=h
  have v:val (nmul q (-1,1)) = - val q:=by
    rw [qcp lo.pos (by decide)]
    have:val (-1,1) = -1:=by show ((-1:Int):Rat) / ((1:Int):Rat) = -1;push_cast;grind
    rw [this];grind
  exact ⟨⟨qbL lo.pos (by decide),-k,by rw [v,e];push_cast;grind,b.neg⟩,v⟩
theorem C6.cz {q:Nu} (h:C6 q):Cz 15 q:=by
  obtain ⟨lo,k,e,b⟩:=h
  exact ⟨lo,k*60,by rw [e];push_cast;grind,b.mul (show Bd 6 60 by unfold Bd;decide)⟩
theorem C6.bd {q:Nu} (h:C6 q):Bd 15 q.1∧Bd 12 q.2:=h.cz.bd
theorem C6.neg {q:Nu} (h:C6 q):C6 (nmul q (-1,1))∧val (nmul q (-1,1)) = - val q:=by
  have z:=h.cz.neg
  obtain ⟨lo,k,e,b⟩:=h
  exact ⟨⟨z.1.1,-k,by rw [z.2,e];push_cast;grind,b.neg⟩,z.2⟩
theorem C6.mul {q r:Nu} (h:C6 q) (h':C6 r):Cz 18 (nmul q r)∧val (nmul q r)=val q*val r:=by
  obtain ⟨lo,k,e,b⟩:=h
  obtain ⟨lo',k',e',b'⟩:=h'
  have v:=qcp lo.pos lo'.pos
  exact ⟨⟨qbL lo.pos lo'.pos,k*k',by rw [v,e,e'];push_cast;grind,b.mul b'⟩,v⟩
theorem qdt (h:qaS K vs H Q E):qdZ K { nx:=fun _ H'=>Q .non H',rt:=Q } (L2.start ["one", "other", "shared"] vs) H:=by
  obtain ⟨u,v,x,y,t,rfl,hx,hy,cx,cy,t4,x0,y0,k⟩:=h
  obtain ⟨a,b,rfl,ha,hb⟩:=hx
  obtain ⟨c,d,rfl,hc,hd⟩:=hy
  have g0:(0:Int)<((Int.gcd x.2 y.2:Nat):Int):=by have:=Int.gcd_pos_of_ne_zero_left y.2 (show x.2≠0 by omega);omega
  refine qfK ⟨_,rfl,_,_,_,_,rfl,rfl,ha,rfl,_,rfl,_,_,_,_,rfl,rfl,hc,rfl,x.2,y.2,rfl,?_⟩
  generalize ((Int.gcd x.2 y.2:Nat):Int)=g at g0 k ⊢
  refine qea (qlv (qaF ⟨_,rfl,_,_,_,_,rfl,rfl,ha,rfl,_,rfl,_,_,_,_,rfl,rfl,ha,rfl,_,rfl,_,_,rfl,rfl,g0,qcJ,fun p1 hp1=>?_⟩))
  have s1:=qaf hp1 (HO.tup [V.ref b,V.int (x.2 / g)])
  have h11:upd H p1 (HO.tup [V.ref b,V.int (x.2 / g)]) p1=_:=qab
  have ha1:=s1 _ _ ha
  have hc1:=s1 _ _ hc
  show qbu _ _ _ _
  generalize upd H p1 (HO.tup [V.ref b,V.int (x.2 / g)])=H1 at s1 h11 ha1 hc1 ⊢
  refine qaF ⟨_,rfl,_,_,_,_,rfl,rfl,hc1,rfl,_,rfl,_,_,_,_,rfl,rfl,hc1,rfl,_,rfl,_,_,rfl,rfl,g0,qcJ,fun p2 hp2=>?_⟩
  have s2:=qaf hp2 (HO.tup [V.ref d,V.int (y.2 / g)])
  have h22:upd H1 p2 (HO.tup [V.ref d,V.int (y.2 / g)]) p2=_:=qab
  have ha2:=s2 _ _ ha1
  have hc2:=s2 _ _ hc1
  have s12:=s1.trans s2
  show qbu _ _ _ _
  generalize upd H1 p2 (HO.tup [V.ref d,V.int (y.2 / g)])=H2 at s2 h22 ha2 hc2 s12 ⊢
  obtain ⟨bx,bx2⟩:=cx.bd
  obtain ⟨by',by2⟩:=cy.bd
  refine qaF (qaV ⟨_,rfl,_,_,_,_,rfl,rfl,ha2,rfl,_,rfl,_,_,_,_,rfl,rfl,hc2,rfl,b,d,x.1.1,x.1.2,y.1.1,y.1.2,rfl,s12 _ _ hb,s12 _ _ hd,cx.1.pos,cy.1.pos,bx.mono (by omega),bx2.mono (by decide),by'.mono (by omega),by2.mono (by decide),fun r hr=>?_⟩)
  have s3:=qaf hr (HO.tup [V.int (nadd (x.1.1,x.1.2) (y.1.1,y.1.2)).1,V.int (nadd (x.1.1,x.1.2) (y.1.1,y.1.2)).2])
  have h33:upd H2 r (HO.tup [V.int (nadd (x.1.1,x.1.2) (y.1.1,y.1.2)).1,V.int (nadd (x.1.1,x.1.2) (y.1.1,y.1.2)).2]) r=_:=qab
  show ∃ _,_
  generalize upd H2 r (HO.tup [V.int (nadd (x.1.1,x.1.2) (y.1.1,y.1.2)).1,V.int (nadd (x.1.1,x.1.2) (y.1.1,y.1.2)).2])=H3 at s3 h33 ⊢
  refine ⟨_,rfl,qcJ,fun p3 hp3=>⟨qmN,fun p4 hp4=>?_⟩⟩
  have s4:=qaf hp3 (HO.tup [V.ref r,V.int g])
  have s5:=qaf hp4 (HO.lst [V.ref p1,V.ref p2,V.ref p3])
  have s35:=s3.trans (s4.trans s5)
  have s05:=s12.trans s35
  refine k p4 _ _ s05 ?_ qab ⟨⟨p1,b,rfl,(s2.trans s35) _ _ h11,s05 _ _ hb⟩,⟨p2,d,rfl,s35 _ _ h22,s05 _ _ hd⟩,⟨p3,r,rfl,s5 _ _ qab,(s4.trans s5) _ _ h33⟩,trivial⟩
  cases e:H p4 with
  | none=>rfl
  | some o=>have:=(s12.trans (s3.trans s4)) _ _ e;rw [hp4] at this;cases this
theorem qc4 {p:Nat} (hp:Pr p):∀ n w:Nat,w≤n→0<w→∃ u,w=p ^ vp p n w*u∧¬ p∣u:=by
  intro n
  induction n with
  | zero=>intro w h0 h1;omega
  | succ n ih=>
    intro w hw w0
    have p2:=hp.two
    show ∃ u,w=p ^ (if p∣w then vp p n (w / p)+1 else 0)*u∧¬ p∣u
    by_cases c:p∣w
    · rw [if_pos c]
      obtain ⟨v,rfl⟩:=c
      have v0:0<v:=Nat.pos_of_mul_pos_left w0
      rw [Nat.mul_div_cancel_left _ (by omega)]
      have lt:v<p*v:=by
        have:2*v≤p*v:=Nat.mul_le_mul_right _ p2
        omega
      obtain ⟨u,e,nu⟩:=ih v (by omega) v0
      refine ⟨u,?_,nu⟩
      rw [Nat.pow_succ]
      have:p ^ vp p n v*p*u=p*(p ^ vp p n v*u):=by grind
      rw [this,← e]
    · rw [if_neg c]
      exact ⟨w,by rw [Nat.pow_zero,Nat.one_mul],c⟩
theorem prN {p:Nat} (hp:Pr p) {a b:Nat} (h:p∣a*b):p∣a∨p∣b:=by
  have h:(p:Int)∣(a:Int)*(b:Int):=by rw [← Int.natCast_mul];exact Int.natCast_dvd_natCast.mpr h
  rcases qjv hp h with y | y
  · exact .inl (Int.natCast_dvd_natCast.mp y)
  · exact .inr (Int.natCast_dvd_natCast.mp y)
theorem qfO {p:Nat} (hp:Pr p):∀ a b u v:Nat,p ^ a*u=p ^ b*v→¬ p∣u→¬ p∣v→a=b:=by
  have p2:=hp.two
  intro a
  induction a with
  | zero=>
    intro b u v e nu nv
    cases b with
    | zero=>rfl
    | succ b=>
      rw [Nat.pow_zero,Nat.one_mul] at e
      exact absurd ⟨p ^ b*v,by rw [e,Nat.pow_succ];grind⟩ nu
  | succ a ih=>
    intro b u v e nu nv
    cases b with
    | zero=>
      rw [Nat.pow_zero,Nat.one_mul] at e
      exact absurd ⟨p ^ a*u,by rw [← e,Nat.pow_succ];grind⟩ nv
    | succ b=>
      refine congrArg (·+1) (ih b u v ?_ nu nv)
      rw [Nat.pow_succ,Nat.pow_succ] at e
      have:p*(p ^ a*u)=p*(p ^ b*v):=by grind
      exact Nat.eq_of_mul_eq_mul_left (by omega) this
theorem qe0 {p:Nat} (hp:Pr p) {w u:Int} (w0:0<w) (u0:0<u):vpI p (w*u)=vpI p w+vpI p u:=by
  obtain ⟨x,ex,nx⟩:=qc4 hp w.natAbs w.natAbs (Nat.le_refl _) (by omega)
  obtain ⟨y,ey,ny⟩:=qc4 hp u.natAbs u.natAbs (Nat.le_refl _) (by omega)
  have wu:0<w*u:=Int.mul_pos w0 u0
  obtain ⟨z,ez,nz⟩:=qc4 hp (w*u).natAbs (w*u).natAbs (Nat.le_refl _) (by omega)
  refine qfO hp _ _ z (x*y) ?_ nz fun h=>(prN hp h).elim nx ny
  show p ^ vp p (w*u).natAbs (w*u).natAbs*z=p ^ (vp p w.natAbs w.natAbs+vp p u.natAbs u.natAbs)*(x*y)
  rw [← ez,Int.natAbs_mul,Nat.pow_add]
  have:p ^ vp p w.natAbs w.natAbs*p ^ vp p u.natAbs u.natAbs*(x*y)=(p ^ vp p w.natAbs w.natAbs*x)*(p ^ vp p u.natAbs u.natAbs*y):=by grind
  rw [this,← ex,← ey]
theorem qgj (p:Nat) (xs ys:List Pce):WP p (xs++ys)=WP p xs+WP p ys:=by
  induction xs with
  | nil=>show WP p ys=0+WP p ys;grind
  | cons x xs ih=>show val x.1*(vpI p x.2:Rat)+WP p (xs++ys)=(val x.1*(vpI p x.2:Rat)+WP p xs)+WP p ys;rw [ih];grind
theorem qh7 (p:Nat) {xs ys:List Pce} (h:xs.Perm ys):WP p xs=WP p ys:=by
  induction h with
  | nil=>rfl
  | cons x _ ih=>show _+_=_+_;rw [ih]
  | swap x y l=>show _+(_+_)=_+(_+_);grind
  | trans _ _ a b=>exact a.trans b
noncomputable def lgP (x:Pce):Nat:=Nat.log2 x.2.natAbs
noncomputable def LG:List Pce→Nat
  | []=>0
  | x::xs=>lgP x+LG xs
theorem qft (xs ys:List Pce):LG (xs++ys)=LG xs+LG ys:=by
  induction xs with
  | nil=>show LG ys=0+LG ys;omega
  | cons x xs ih=>show lgP x+LG (xs++ys)=(lgP x+LG xs)+LG ys;rw [ih];omega
theorem qkl {xs ys:List Pce} (h:xs.Perm ys):LG xs=LG ys:=by
  induction h with
  | nil=>rfl
  | cons x _ ih=>show _+_=_+_;rw [ih]
  | swap x y l=>show _+(_+_)=_+(_+_);omega
  | trans _ _ a b=>exact a.trans b
theorem qg1 {xs:List Pce} {j:Nat} {x:Pce} (h:xs[j]?=some x):xs.Perm (x::xs.eraseIdx j):=by
  induction xs generalizing j with
  | nil=>cases h
  | cons y xs ih=>
    cases j with
    | zero=>cases h;exact .refl _
    | succ j=>exact (List.Perm.cons y (ih h)).trans (.swap x y _)
theorem qh8 {a b:Nat} (a0:0<a) (b0:0<b):a.log2+b.log2≤(a*b).log2:=by
  have ab:a*b≠0:=by have:=Nat.mul_pos a0 b0;omega
  rw [Nat.le_log2 ab,Nat.pow_add]
  exact Nat.mul_le_mul ((Nat.le_log2 (by omega)).mp (Nat.le_refl _)) ((Nat.le_log2 (by omega)).mp (Nat.le_refl _))
theorem qh9 {a:Nat} (h:2≤a):1≤a.log2:=(Nat.le_log2 (by omega)).mpr h
theorem Sm.bd {w:Int} (h:Sm w):w.natAbs.log2≤210:=by
  obtain ⟨w0,d⟩:=h
  have M0:(0:Int)<MM:=by decide +kernel
  have l:=Int.le_of_dvd M0 d
  have M1:MM<2 ^ 210:=by decide +kernel
  rw [← Nat.lt_succ_iff]
  refine (Nat.log2_lt (by omega)).mpr ?_
  have:((w.natAbs:Nat):Int)<((2 ^ 211:Nat):Int):=by
    have e:((2 ^ 211:Nat):Int)=2*2 ^ 210:=by decide +kernel
    rw [e]
    have:(0:Int)<2 ^ 210:=Int.pow_pos (by decide)
    omega
  exact_mod_cast this
theorem Sm.div {w g:Int} (h:Sm w) (g0:0<g) (d:g∣w):Sm (w / g)∧Sm g:=by
  obtain ⟨w0,dM⟩:=h
  obtain ⟨c,rfl⟩:=d
  have c0:0<c:=by
    rcases Int.lt_trichotomy c 0 with y | y | y
    · have:g*c≤g*(-1):=Int.mul_le_mul_of_nonneg_left (by omega) (by omega)
      omega
    · rw [y] at w0;omega
    · exact y
  rw [Int.mul_ediv_cancel_left _ (by omega)]
  exact ⟨⟨c0,Int.dvd_trans (Int.dvd_mul_left ..) dM⟩,⟨g0,Int.dvd_trans (Int.dvd_mul_right ..) dM⟩⟩
theorem qe1 {x y:Pce} (sx:Sm x.2) (sy:Sm y.2) (lx:Low x.1.1 x.1.2) (ly:Low y.1.1 y.1.2) (g:Int) (hg:((Int.gcd x.2 y.2:Nat):Int)=g) :
    Sm (x.2 / g)∧Sm (y.2 / g)∧Sm g∧(∀ p,Pr p→WP p [(x.1,x.2 / g),(y.1,y.2 / g),(nadd x.1 y.1,g)]=WP p [x,y])∧(1<g→LG [(x.1,x.2 / g),(y.1,y.2 / g),(nadd x.1 y.1,g)]+1≤LG [x,y]):=by
  have g0:0<g:=by have:=Int.gcd_pos_of_ne_zero_left y.2 (show x.2≠0 by have:=sx.1;omega);omega
  have d1:g∣x.2:=hg ▸ Int.gcd_dvd_left x.2 y.2
  have d2:g∣y.2:=hg ▸ Int.gcd_dvd_right x.2 y.2
  obtain ⟨s1,s3⟩:=sx.div g0 d1
  obtain ⟨s2,_⟩:=sy.div g0 d2
  have e1:x.2=g*(x.2 / g):=(Int.mul_ediv_cancel' d1).symm
  have e2:y.2=g*(y.2 / g):=(Int.mul_ediv_cancel' d2).symm
  refine ⟨s1,s2,s3,fun p hp=>?_,fun g1=>?_⟩
  · have v1:vpI p x.2=vpI p g+vpI p (x.2 / g):=by rw [← qe0 hp g0 s1.1,← e1]
    have v2:vpI p y.2=vpI p g+vpI p (y.2 / g):=by rw [← qe0 hp g0 s2.1,← e2]
    show val x.1*(vpI p (x.2 / g):Rat)+(val y.1*(vpI p (y.2 / g):Rat)+(val (nadd x.1 y.1)*(vpI p g:Rat)+0))=val x.1*(vpI p x.2:Rat)+(val y.1*(vpI p y.2:Rat)+0)
    rw [qcG lx.pos ly.pos,v1,v2]
    push_cast
    grind
  · have l1:(g.natAbs).log2+((x.2 / g).natAbs).log2≤(x.2.natAbs).log2:=by
      have:=qh8 (a:=g.natAbs) (b:=(x.2 / g).natAbs) (by omega) (by have:=s1.1;omega)
      rw [← Int.natAbs_mul,← e1] at this;exact this
    have l2:(g.natAbs).log2+((y.2 / g).natAbs).log2≤(y.2.natAbs).log2:=by
      have:=qh8 (a:=g.natAbs) (b:=(y.2 / g).natAbs) (by omega) (by have:=s2.1;omega)
      rw [← Int.natAbs_mul,← e2] at this;exact this
    have l3:=qh9 (a:=g.natAbs) (by omega)
    show ((x.2 / g).natAbs).log2+(((y.2 / g).natAbs).log2+((g.natAbs).log2+0))+1≤(x.2.natAbs).log2+((y.2.natAbs).log2+0)
    omega
theorem qgk {K:W.Frag} {tl:TE} {capt:List (Option Nat)} {g:TG} {tc:TT} {te:TE} {σ:L2.St} {H:Hp} {Q:VK} (h:tl σ H (fun x H1=>∃ a,x=.ref a∧(∃ xs,SqL K H1 a xs)∧CompF (Itl K a) capt g tc te σ Q H1)):qeo (qb6 K tl) capt g tc te σ H Q:=h
theorem qmO {K:W.Frag} {r:V→List V→Hp→VK→Prop} {i:Nat} {w:Addr} {ta:TE} {D:Ends} {σ:L2.St} {H:Hp} (h1:σ[i]?=some (some (.ref w))) (h2:tyV K "list" (.ref w) H) (h:ta σ H fun y H1=>r (.ref w) [y] H1 fun _ H2=>D.nx σ H2):qcw (tBM K "list" r (qal i) (qac ta qan)) D σ H:=⟨_,h1,h2,h⟩
noncomputable def qee (x:Pce):PySem.W.Dat:=.tuple [qes x.1,.int x.2]
theorem qlw {H:Hp} {u:V} {x:Pce} (h:Pc H u x):RepD H u (qee x):=by
  obtain ⟨a,b,rfl,h1,h2⟩:=h
  exact .tup h1 (.cons (qjt ⟨b,rfl,h2⟩) (.cons (.int _) .nil))
theorem qlx {H:Hp} {us:List V} {xs:List Pce} (h:Al (Pc H) us xs):RepA H us (xs.map qee):=
  Al.ind (M:=fun us xs=>RepA H us (xs.map qee)) .nil (fun _ _ _ _ r _ ih=>.cons (qlw r) ih) h
theorem qmp (x:Pce):PySem.W.kqdOk 8 (qee x)=true:=by simp [qee,qes,PySem.W.kqdOk]
theorem qkm {x y:Pce} (h:qee x=qee y):x.2=y.2:=by
  unfold qee at h
  injection h with h
  injection h with _ h
  injection h with h _
  injection h
theorem qe2 {p:Nat} (hp:Pr p):vpI p 1=0:=by
  have p2:=hp.two
  show (if p∣1 then vp p 0 (1 / p)+1 else 0)=0
  rw [if_neg fun h=>by have:=Nat.le_of_dvd (by decide) h;omega]
theorem qia {α:Type} {l:List α} {x:α} (h:l[l.length - 1]?=some x):l=l.dropLast++[x]:=by
  have ne:l≠[]:=fun z=>by rw [z] at h;cases h
  have e:=List.dropLast_concat_getLast ne
  have:l.getLast ne=x:=by
    rw [List.getLast_eq_getElem]
    exact (List.getElem?_eq_some_iff.mp h).2
  rw [this] at e
  exact e.symm
structure Wc (H0 H:Hp) (w f:Addr) (xs:List Pce) (wu:List V) (wx:List Pce) (fu:List V) (fx:List Pce) (t m:Nat):Prop where
  same:Same H0 H
  hw:H w=some (.lst wu)
  aw:Al (Pc H) wu wx
  hf:H f=some (.lst fu)
  af:Al (Pc H) fu fx
  pw:∀ x∈wx,Cz t x.1∧Sm x.2
  pf:∀ x∈fx,Cz t x.1∧x.1.1≠0∧1<x.2∧Sm x.2
  cop:fx.Pairwise Cp
  wt:∀ p,Pr p→WP p wx+WP p fx=WP p xs
  ms:m=4*(LG wx+LG fx)+wx.length
  tm:t+m≤200000
theorem qjx {fx:List Pce} (h:∀ x∈fx,1<x.2):fx.length≤LG fx:=by
  induction fx with
  | nil=>exact Nat.le_refl _
  | cons x fx ih=>
    have h1:=qh9 (a:=x.2.natAbs) (by have:=h x (List.mem_cons_self ..);omega)
    have h2:=ih fun y hy=>h y (List.mem_cons_of_mem _ hy)
    show fx.length+1≤(x.2.natAbs).log2+LG fx
    omega
theorem qma {xs:List Pce} (h:∀ x∈xs,Sm x.2):LG xs≤210*xs.length:=by
  induction xs with
  | nil=>exact Nat.le_refl _
  | cons x xs ih=>
    have h1:=(h x (List.mem_cons_self ..)).bd
    have h2:=ih fun y hy=>h y (List.mem_cons_of_mem _ hy)
    show (x.2.natAbs).log2+LG xs≤210*(xs.length+1)
    omega
theorem qc5 (h:qaQ K vs H Q E):qds K { nx:=fun _ H'=>Q .non H',rt:=Q } (L2.start ["pieces", "waiting", "found", "piece", "met"] vs) H:=by
  obtain ⟨a,us,xs,rfl,ha,hA,hx,l48,k⟩:=h
  refine qbl (qhT ⟨_,rfl,a,us,rfl,ha,fun w hw'=>?_⟩)
  have s1:=qaf hw' (HO.lst us)
  have hww:upd H w (HO.lst us) w=some (.lst us):=qab
  show qby K _ [some (.ref a),some (.ref w),none,none,none] _
  generalize upd H w (HO.lst us)=H1 at s1 hww ⊢
  refine qbl ⟨qi0,fun f hf'=>?_⟩
  have s2:=qaf hf' (HO.lst [])
  have hff:upd H1 f (HO.lst []) f=some (.lst []):=qab
  have wf:w≠f:=qah hww hf'
  have hww:=s2 _ _ hww
  have fN:H f=none:=by
    cases e:H f with
    | none=>rfl
    | some o=>have:=s1 _ _ e;rw [hf'] at this;cases this
  have s12:=s1.trans s2
  show qbx K _ [some (.ref a),some (.ref w),some (.ref f),none,none] _
  generalize upd H1 f (HO.lst [])=H2 at s2 hff hww s12 ⊢
  have m0:4*(LG xs+LG [])+xs.length≤100000:=by
    have:=qma fun x h=>(hx x h).2
    show 4*(LG xs+0)+xs.length≤_
    omega
  refine while_by (fun m σ H'=>∃ (wu:List V) (wx:List Pce) (fu:List V) (fx:List Pce) (t:Nat) (o3 o4:Option V),σ=[some (.ref a),some (.ref w),some (.ref f),o3,o4]∧Wc H H' w f xs wu wx fu fx t m) _
    ⟨us,xs,[],[],61,none,none,rfl,s12,hww,hA.mono fun _ _ h=>h.tp (tpS s12),hff,trivial,fun x h=>hx x h,(fun _ h=>nomatch h),.nil,fun p _=>by show WP p xs+0=_;grind,rfl,by omega⟩ ?_
  rintro m σ H3 ⟨wu,wx,fu,fx,t,o3,o4,rfl,W⟩
  refine ⟨_,rfl,w,wu,rfl,W.hw,qbJ (fun c=>?_) (fun c=>?_)⟩
  · -- one more
    have wl:=W.aw.length
    have ne:0<wu.length:=by
      cases wu with
      | nil=>cases c
      | cons _ _=>exact Nat.succ_pos _
    have hu:wu[wu.length - 1]?=some (wu[wu.length - 1]'(by omega)):=List.getElem?_eq_getElem (by omega)
    generalize wu[wu.length - 1]'(by omega)=u at hu
    obtain ⟨x,hx',pu⟩:=W.aw.get hu
    rw [wl] at hx'
    have ew:=qia hx'
    have xm:x∈wx:=by rw [ew];exact List.mem_append_right _ (List.mem_singleton_self _)
    obtain ⟨cx,sx⟩:=W.pw x xm
    refine ⟨_,fun _ _ h=>h,?_⟩
    show qbb K _ _ _
    refine qbl ⟨_,rfl,qa0 W.hw,w,wu,u,rfl,rfl,W.hw,hu,?_⟩
    have tp1:Tp H3 (upd H3 w (HO.lst wu.dropLast)):=Tp.updL W.hw
    have h1w:upd H3 w (HO.lst wu.dropLast) w=some (.lst wu.dropLast):=qab
    have h1f:upd H3 w (HO.lst wu.dropLast) f=_:=(qai wf.symm).trans W.hf
    have h1s:Same H (upd H3 w (HO.lst wu.dropLast)):=fun b o hb=>Kp.upd b o (qah hb hw') (W.same b o hb)
    have a1w:=W.aw.dropLast.mono fun _ _ h=>h.tp tp1
    have a1f:=W.af.mono fun _ _ h=>h.tp tp1
    have pu1:=pu.tp tp1
    have lw1:wx.length=wx.dropLast.length+1:=by rw [List.length_dropLast];omega
    have lg1:LG wx=LG wx.dropLast+lgP x:=by
      have:=congrArg LG ew
      rw [qft] at this
      rw [this];show _+(lgP x+0)=_;omega
    have wt1:∀ p,Pr p→WP p wx=WP p wx.dropLast+val x.1*(vpI p x.2:Rat):=fun p _=>by
      have:=congrArg (WP p) ew
      rw [qgj] at this
      rw [this];show _+(_+0)=_;grind
    have pw1:∀ y∈wx.dropLast,Cz t y.1∧Sm y.2:=fun y hy=>W.pw y (by rw [ew];exact List.mem_append_left _ hy)
    show qba K _ [some (.ref a),some (.ref w),some (.ref f),some u,o4] _
    generalize upd H3 w (HO.lst wu.dropLast)=H4 at tp1 h1w h1f h1s a1w a1f pu1 ⊢
    obtain ⟨pa,pb,rfl,hpa,hpb⟩:=id pu1
    have skip:(∀ p,Pr p→val x.1*(vpI p x.2:Rat)=0)→∃ m',m'<m∧∃ (wu:List V) (wx:List Pce) (fu:List V) (fx:List Pce) (t:Nat) (p3 p4:Option V),[some (.ref a),some (.ref w),some (.ref f),some (.ref pa),o4]=[some (.ref a),some (.ref w),some (.ref f),p3,p4]∧Wc H H4 w f xs wu wx fu fx t m':=fun z=>by
      have ms:=W.ms
      have tm:=W.tm
      refine ⟨4*(LG wx.dropLast+LG fx)+wx.dropLast.length,by omega,wu.dropLast,wx.dropLast,fu,fx,t,_,_,rfl,h1s,h1w,a1w,h1f,a1f,pw1,W.pf,W.cop,fun p hp=>?_,rfl,by omega⟩
      rw [← W.wt p hp,wt1 p hp,z p hp];grind
    refine ⟨_,rfl,_,_,_,_,rfl,rfl,hpa,rfl,_,_,_,_,rfl,rfl,hpb,rfl,rfl,_,rfl,qbJ (fun c1=>?_) (fun c1=>?_)⟩
    · have c1:x.1.1≠0:=fun z=>by
        have c1:(!decide (V.int x.1.1=V.int 0))=true:=c1
        rw [z] at c1;simp at c1
      refine ⟨_,rfl,_,_,_,_,rfl,rfl,hpa,rfl,_,_,rfl,rfl,_,rfl,qbJ (fun c2=>?_) (fun c2=>?_)⟩
      · have c2:x.2 > 1:=of_decide_eq_true c2
        show qa9 K _ _ _
        have fl:=a1f.length
        refine qbl (qgk ⟨_,rfl,f,rfl,⟨_,SqL.of h1f⟩,CompF.lst (xs:=fu) (fun i ys H'=>i≤fu.length∧H'=H4∧ys.length≤i∧((ys=[]∧∀ n y,n<i→fx[n]?=some y→Int.gcd x.2 y.2=1)∨∃ (j:Nat) (v:V) (y:Pce),j<i∧ys[0]?=some v∧fu[j]?=some v∧fx[j]?=some y∧1<Int.gcd x.2 y.2∧∀ n z,n<j→fx[n]?=some z→Int.gcd x.2 z.2=1)) ⟨Nat.zero_le _,rfl,Nat.le_refl _,.inl ⟨rfl,fun n y h=>by omega⟩⟩ ?_ ?_ ?_⟩)
        · rintro i ys H' ⟨hi,rfl,yl,_⟩
          have fl2:=qjx fun y h=>(W.pf y h).2.2.1
          have ms:=W.ms
          have tm:=W.tm
          exact ⟨hi,sz (by omega),SqL.of h1f⟩
        · rintro i v ys H' hv ⟨hi,rfl,yl,st⟩
          obtain ⟨y,hy,pv⟩:=a1f.get hv
          obtain ⟨va,vb,rfl,hva,hvb⟩:=id pv
          have il:=(List.getElem?_eq_some_iff.mp hv).1
          refine qaV ⟨_,rfl,_,_,_,_,rfl,rfl,hpa,rfl,_,rfl,_,_,_,_,rfl,rfl,hva,rfl,x.2,y.2,rfl,_,_,rfl,rfl,_,rfl,qbJ (fun c3=>?_) (fun c3=>?_)⟩
          · have c3:((Int.gcd x.2 y.2:Nat):Int) > 1:=of_decide_eq_true c3
            refine ⟨_,rfl,il,rfl,by rw [List.length_append];exact Nat.succ_le_succ yl,.inr ?_⟩
            rcases st with ⟨rfl,no⟩ | ⟨j,v',y',h1,h2,h3⟩
            · exact ⟨i,_,y,Nat.lt_succ_self _,rfl,hv,hy,by omega,no⟩
            · refine ⟨j,v',y',by omega,?_,h3⟩
              rw [List.getElem?_append_left (List.getElem?_eq_some_iff.mp h2).1];exact h2
          · have c3:¬ ((Int.gcd x.2 y.2:Nat):Int) > 1:=fun z=>c3 (decide_eq_true z)
            have g1:Int.gcd x.2 y.2=1:=by
              have:=Int.gcd_pos_of_ne_zero_left y.2 (show x.2≠0 by omega)
              omega
            refine ⟨il,rfl,by omega,?_⟩
            rcases st with ⟨rfl,no⟩ | ⟨j,v',y',h1,h2⟩
            · refine .inl ⟨rfl,fun n z hn hz=>?_⟩
              rcases Nat.lt_succ_iff_lt_or_eq.mp hn with hn | hn
              · exact no n z hn hz
              · rw [hn,hy] at hz;cases hz;exact g1
            · exact .inr ⟨j,v',y',by omega,h2⟩
        · rintro ys H' ⟨_,rfl,yl,st⟩ q hq
          have sq:=qaf hq (HO.lst ys)
          have hqq:upd H' q (HO.lst ys) q=some (.lst ys):=qab
          have h5w:=sq _ _ h1w
          have h5f:=sq _ _ h1f
          have h5s:=h1s.trans sq
          have a5w:=a1w.mono fun _ _ h=>h.tp (tpS sq)
          have a5f:=a1f.mono fun _ _ h=>h.tp (tpS sq)
          have pu5:=pu1.tp (tpS sq)
          have qf:q≠f:=(qah h1f hq).symm
          have ms:=W.ms
          have tm:=W.tm
          have fl2:=qjx fun y h=>(W.pf y h).2.2.1
          have wl2:wu.dropLast.length=wx.dropLast.length:=a1w.length
          show qa8 K _ [some (.ref a),some (.ref w),some (.ref f),some (.ref pa),some (.ref q)] _
          generalize upd H' q (HO.lst ys)=H5 at sq hqq h5w h5f h5s a5w a5f pu5 ⊢
          refine ⟨_,rfl,q,ys,rfl,hqq,qbJ (fun c3=>?_) (fun c3=>?_)⟩
          · obtain ⟨j,v,y,jl,y0,fj,xj,g1,first⟩:=st.resolve_left fun z=>by rw [z.1] at c3;cases c3
            obtain ⟨y',hy',pv⟩:=a5f.get fj
            rw [xj] at hy';cases hy'
            have ym:y∈fx:=by obtain ⟨z,e⟩:=List.getElem?_eq_some_iff.mp xj;exact e ▸ List.getElem_mem z
            obtain ⟨cy,yn,y1,sy⟩:=W.pf y ym
            show qa7 K _ _ _
            refine ⟨_,rfl,qa0 h5f,_,rfl,_,_,_,v,rfl,rfl,hqq,qer (j:=0) rfl y0,f,fu,v,qee y,fx.map qee,j,rfl,rfl,h5f,qlw pv,qlx a5f,qmp y,fun e he=>?_,by rw [List.getElem?_map,xj];rfl,fun i e hi he z=>?_,?_⟩
            · obtain ⟨z,_,rfl⟩:=List.mem_map.mp he;exact qmp z
            · rw [List.getElem?_map] at he
              cases e2:fx[i]? with
              | none=>rw [e2] at he;cases he
              | some z2=>
                rw [e2] at he
                cases he
                have:=first i z2 hi e2
                rw [qkm z] at this
                omega
            have tp6:Tp H5 (upd H5 f (HO.lst (fu.eraseIdx j))):=Tp.updL h5f
            have h6f:upd H5 f (HO.lst (fu.eraseIdx j)) f=some (.lst (fu.eraseIdx j)):=qab
            have h6w:upd H5 f (HO.lst (fu.eraseIdx j)) w=_:=(qai wf).trans h5w
            have h6q:upd H5 f (HO.lst (fu.eraseIdx j)) q=_:=(qai qf).trans hqq
            have h6s:Same H (upd H5 f (HO.lst (fu.eraseIdx j))):=fun b o hb=>Kp.upd b o (qah hb fN) (h5s b o hb)
            have a6w:=a5w.mono fun _ _ h=>h.tp tp6
            have a6f:=(a5f.erase j).mono fun _ _ h=>h.tp tp6
            have pu6:=pu5.tp tp6
            have pv6:=pv.tp tp6
            show qa6 K _ _ _
            generalize upd H5 f (HO.lst (fu.eraseIdx j))=H6 at tp6 h6f h6w h6q h6s a6w a6f pu6 pv6 ⊢
            obtain ⟨s1',s2',s3',wp3,lg3⟩:=qe1 sx sy cx.1 cy.1 _ rfl
            have lg3:=lg3 (by omega)
            refine qmO rfl (qa0 h6w) (qaV ⟨_,rfl,_,rfl,_,_,_,v,rfl,rfl,h6q,qer (j:=0) rfl y0,.ref pa,v,x,y,t,rfl,pu6,pv6,cx,cy,by omega,sx.1,sy.1,fun r us3 H7 s7 rN hr3 a3=>?_⟩)
            have l3:=a3.length
            have l3:us3.length=3:=l3
            refine ⟨w,r,_,us3,rfl,rfl,s7 _ _ h6w,hr3,sz (by omega),?_⟩
            have h7w:=s7 _ _ h6w
            have tp8:Tp H7 (upd H7 w (HO.lst (wu.dropLast++us3))):=Tp.updL h7w
            have pe:=qg1 xj
            have lge:LG fx=lgP y+LG (fx.eraseIdx j):=qkl pe
            generalize ((Int.gcd x.2 y.2:Nat):Int)=g at s1' s2' s3' wp3 lg3 a3
            have lgx:LG [x,y]=lgP x+lgP y:=by show lgP x+(lgP y+0)=_;omega
            refine ⟨4*(LG (wx.dropLast++[(x.1,x.2 / g),(y.1,y.2 / g),(nadd x.1 y.1,g)])+LG (fx.eraseIdx j))+(wx.dropLast++[(x.1,x.2 / g),(y.1,y.2 / g),(nadd x.1 y.1,g)]).length,?_,_,_,fu.eraseIdx j,fx.eraseIdx j,t+1,_,_,rfl,fun b o hb=>Kp.upd b o (qah hb hw') (s7 b o (h6s b o hb)),qab,((a6w.mono fun _ _ h=>h.tp (tpS s7)).append a3).mono fun _ _ h=>h.tp tp8,(qai wf.symm).trans (s7 _ _ h6f),(a6f.mono fun _ _ h=>h.tp (tpS s7)).mono fun _ _ h=>h.tp tp8,fun z hz=>?_,fun z hz=>?_,?_,fun p hp=>?_,rfl,?_⟩
            · rw [qft,List.length_append]
              show 4*_+(_+3)<m
              omega
            · rcases List.mem_append.mp hz with h | h
              · exact ⟨(pw1 z h).1.mono (by omega),(pw1 z h).2⟩
              · rcases List.mem_cons.mp h with rfl | h
                · exact ⟨cx.mono (by omega),s1'⟩
                · rcases List.mem_cons.mp h with rfl | h
                  · exact ⟨cy.mono (by omega),s2'⟩
                  · rw [List.mem_singleton.mp h];exact ⟨cx.add cy,s3'⟩
            · obtain ⟨h1,h2⟩:=W.pf z (pe.mem_iff.mpr (List.mem_cons_of_mem _ hz))
              exact ⟨h1.mono (by omega),h2⟩
            · exact W.cop.sublist (List.eraseIdx_sublist ..)
            · rw [← W.wt p hp,wt1 p hp,qgj,wp3 p hp,qh7 p pe]
              show WP p wx.dropLast+(val x.1*(vpI p x.2:Rat)+(val y.1*(vpI p y.2:Rat)+0))+WP p (fx.eraseIdx j)=WP p wx.dropLast+val x.1*(vpI p x.2:Rat)+(val y.1*(vpI p y.2:Rat)+WP p (fx.eraseIdx j))
              grind
            · rw [qft,List.length_append]
              show t+1+(4*_+(_+3))≤_
              omega
          · have no:∀ n y,n<fu.length→fx[n]?=some y→Int.gcd x.2 y.2=1:=by
              rcases st with ⟨_,no⟩ | ⟨j,v,y,h1,h2,_⟩
              · exact no
              · cases ys with
                | nil=>cases h2
                | cons _ _=>exact absurd rfl c3
            refine ⟨_,rfl,qa0 h5f,_,rfl,f,fu,_,rfl,rfl,h5f,sz (by omega),?_⟩
            have tp8:Tp H5 (upd H5 f (HO.lst (fu++[V.ref pa]))):=Tp.updL h5f
            refine ⟨4*(LG wx.dropLast+LG (fx++[x]))+wx.dropLast.length,?_,wu.dropLast,wx.dropLast,fu++[.ref pa],fx++[x],t,_,_,rfl,fun b o hb=>Kp.upd b o (qah hb fN) (h5s b o hb),(qai wf).trans h5w,a5w.mono fun _ _ h=>h.tp tp8,qab,(a5f.snoc pu5).mono fun _ _ h=>h.tp tp8,pw1,fun z hz=>?_,?_,fun p hp=>?_,rfl,?_⟩
            · rw [qft]
              show 4*(_+(_+(lgP x+0)))+_<m
              omega
            · rcases List.mem_append.mp hz with h | h
              · exact W.pf z h
              · rw [List.mem_singleton.mp h];exact ⟨cx,c1,c2,sx⟩
            · refine List.pairwise_append.mpr ⟨W.cop,List.pairwise_singleton ..,fun y hy z hz=>?_⟩
              rw [List.mem_singleton.mp hz]
              obtain ⟨i,hi,e⟩:=List.getElem_of_mem hy
              show Int.gcd y.2 x.2=1
              rw [Int.gcd_comm]
              exact no i y (by omega) (by rw [List.getElem?_eq_getElem hi,e])
            · rw [← W.wt p hp,wt1 p hp,qgj]
              show _+(_+(val x.1*(vpI p x.2:Rat)+0))=_
              grind
            · rw [qft]
              show t+(4*(_+(_+(lgP x+0)))+_)≤_
              omega
      · exact skip fun p hp=>by
          have c2:¬ x.2 > 1:=fun z=>c2 (decide_eq_true z)
          have:=sx.1
          rw [show x.2=1 by omega,qe2 hp]
          push_cast;grind
    · exact skip fun p hp=>by
        have z:x.1.1=0:=by
          by_cases z:x.1.1=0
          · exact z
          · exact absurd (show (!decide (V.int x.1.1=V.int 0))=true by simp [z]) c1
        have:val x.1=0:=by unfold val;rw [z,show ((0:Int):Rat)=0 from rfl];grind
        rw [this];grind
  · have wn:wu=[]:=by
      cases wu with
      | nil=>rfl
      | cons _ _=>exact absurd rfl c
    have wn2:wx=[]:=List.length_eq_zero_iff.mp (by rw [← W.aw.length,wn];rfl)
    have tm:=W.tm
    refine ⟨_,rfl,k f fu fx H3 W.same W.hf W.af (fun y hy=>?_) W.cop fun p hp=>?_⟩
    · obtain ⟨h1,h2⟩:=W.pf y hy
      exact ⟨h1.mono (by omega),h2⟩
    · rw [← W.wt p hp,wn2];show _=0+_;grind
noncomputable def chk (p n:Nat):Bool:=decide (2≤p) && (List.range n).all fun d=>decide (d<2) || decide (p≤d) || decide (p % d≠0)
theorem qly {p n:Nat} (h:chk p n=true) (l:p<n*n):Pr p:=by
  unfold chk at h
  rw [Bool.and_eq_true] at h
  obtain ⟨h1,h2⟩:=h
  have h1:=of_decide_eq_true h1
  have sm:∀ d,2≤d→d<n→d<p→¬ d∣p:=fun d d2 dn dp hd=>by
    have:=List.all_eq_true.mp h2 d (List.mem_range.mpr dn)
    rw [Bool.or_eq_true,Bool.or_eq_true] at this
    rcases this with (z | z) | z
    · have:=of_decide_eq_true z;omega
    · have:=of_decide_eq_true z;omega
    · exact of_decide_eq_true z (Nat.mod_eq_zero_of_dvd hd)
  refine ⟨h1,fun d hd=>?_⟩
  obtain ⟨e,he⟩:=hd
  by_cases d1:d=1
  · exact .inl d1
  by_cases dp:d=p
  · exact .inr dp
  exfalso
  have d0:d≠0:=fun z=>by rw [z] at he;omega
  have e0:e≠0:=fun z=>by rw [z] at he;omega
  have e1:e≠1:=fun z=>by rw [z] at he;omega
  rcases Nat.lt_or_ge d n with q | q
  · have dl:d<p:=by
      have:d*2≤d*e:=Nat.mul_le_mul_left d (by omega)
      omega
    exact sm d (by omega) q dl ⟨e,he⟩
  · rcases Nat.lt_or_ge e n with q' | q'
    · have el:e<p:=by
        have:2*e≤d*e:=Nat.mul_le_mul_right e (by omega)
        omega
      exact sm e (by omega) q' el ⟨d,by rw [he,Nat.mul_comm]⟩
    · have:=Nat.mul_le_mul q q'
      omega
theorem qgl:∀ p∈prs,Pr p:=by
  have h:prs.all (fun p=>chk p (if p<1000 then 40 else if p<1000000 then 1001 else 31700) && decide (p<(if p<1000 then 40 else if p<1000000 then 1001 else 31700)*(if p<1000 then 40 else if p<1000000 then 1001 else 31700)))=true:=by decide +kernel
  intro p hp
  have:=List.all_eq_true.mp h p hp
  rw [Bool.and_eq_true] at this
  exact qly this.1 (of_decide_eq_true this.2)
theorem qi1 {w:Nat}:∀ l:List Nat,(∀ p∈l,Pr p∧¬ p∣w)→Nat.Coprime w (l.foldr (·*·) 1):=by
  intro l
  induction l with
  | nil=>intro _;exact Nat.coprime_one_right w
  | cons p l ih=>
    intro h
    obtain ⟨hp,n⟩:=h p (List.mem_cons_self ..)
    have c:Nat.Coprime w p:=hp.cop n
    exact Nat.Coprime.mul_right c (ih fun q hq=>h q (List.mem_cons_of_mem _ hq))
theorem Sm.prime {w:Int} (h:Sm w) (w1:1<w):∃ j,j<8∧(prs.getD j 0)∣w.natAbs:=by
  refine Classical.byContradiction fun no=>?_
  have c:=qi1 (w:=w.natAbs) prs fun p hp=>⟨qgl p hp,fun d=>no ?_⟩
  · have d:w.natAbs∣(prs.foldr (·*·) 1) ^ 3:=by
      have:=Int.natAbs_dvd_natAbs.mpr h.2
      exact this
    have:=(Nat.Coprime.pow_right 3 c).eq_one_of_dvd d
    omega
  · obtain ⟨i,hi,e⟩:=List.getElem_of_mem hp
    refine ⟨i,hi,?_⟩
    rw [List.getD_eq_getElem?_getD,List.getElem?_eq_getElem hi,e];exact d
theorem qkn {ys:List Pce} (h:∀ y∈ys,1<y.2∧Sm y.2) (c:ys.Pairwise Cp):ys.length≤8:=by
  refine Classical.byContradiction fun no=>?_
  have ex:∀ i:Nat,∃ j,j<8∧∀ y:Pce,ys[i]?=some y→(prs.getD j 0)∣y.2.natAbs:=fun i=>by
    cases e:ys[i]? with
    | none=>exact ⟨0,by decide,fun y h=>by cases h⟩
    | some y=>
      obtain ⟨h1,h2⟩:=h y (by obtain ⟨z,e⟩:=List.getElem?_eq_some_iff.mp e;exact e ▸ List.getElem_mem z)
      obtain ⟨j,hj,hd⟩:=h2.prime h1
      exact ⟨j,hj,fun z hz=>by cases hz;exact hd⟩
  obtain ⟨i,j,ij,jn,e⟩:=php 8 ys.length (fun i=>Classical.choose (ex i)) (fun i _=>(Classical.choose_spec (ex i)).1) (by omega)
  have di:=(Classical.choose_spec (ex i)).2 ys[i] (List.getElem?_eq_getElem (by omega))
  have dj:=(Classical.choose_spec (ex j)).2 ys[j] (List.getElem?_eq_getElem jn)
  have e:Classical.choose (ex i)=Classical.choose (ex j):=e
  have hj:=(Classical.choose_spec (ex j)).1
  rw [e] at di
  generalize Classical.choose (ex j)=n at di dj hj
  have pm:prs.getD n 0∈prs:=by
    have:n<prs.length:=hj
    rw [List.getD_eq_getElem?_getD,List.getElem?_eq_getElem this];exact List.getElem_mem _
  have p2:=(qgl _ pm).two
  have g:Int.gcd ys[i].2 ys[j].2=1:=List.pairwise_iff_getElem.mp c i j (by omega) jn ij
  have d:prs.getD n 0∣Int.gcd ys[i].2 ys[j].2:=Nat.dvd_gcd di dj
  rw [g] at d
  have:=Nat.le_of_dvd (by decide) d
  omega
theorem qmb {T:List (Pce×V)} {R:V→Pce→Prop} (h:∀ t∈T,R t.2 t.1):Al R (T.map (·.2)) (T.map (·.1)):=by
  induction T with
  | nil=>trivial
  | cons t T ih=>exact ⟨h t (List.mem_cons_self ..),ih fun u hu=>h u (List.mem_cons_of_mem _ hu)⟩
theorem qlz {R:V→Pce→Prop} {us:List V} {xs:List Pce} (a:Al R us xs):(∀ t∈xs.zip us,R t.2 t.1)∧(xs.map (·.2)).zip us=(xs.zip us).map (fun t=>(t.1.2,t.2))∧(xs.zip us).map (·.1)=xs:=
  Al.ind (M:=fun us xs=>(∀ t∈xs.zip us,R t.2 t.1)∧(xs.map (·.2)).zip us=(xs.zip us).map (fun t=>(t.1.2,t.2))∧(xs.zip us).map (·.1)=xs) ⟨(fun _ h=>nomatch h),rfl,rfl⟩ (fun u x us xs r _ ⟨h1,h2,h3⟩=>by
    refine ⟨fun t ht=>?_,?_,?_⟩
    · rcases List.mem_cons.mp ht with rfl | ht
      · exact r
      · exact h1 t ht
    · rw [List.map_cons,List.zip_cons_cons,List.zip_cons_cons,List.map_cons,h2]
    · rw [List.zip_cons_cons,List.map_cons,h3]) a
theorem qko {p:Nat} {xs:List (Nu×Nu)} (h:∀ x∈xs,Cz 60 x.1):WP p ((xs.map fun x=>(x.1,x.2.1))++xs.map fun x=>(nmul x.1 (-1,1),x.2.2))=WR p xs:=by
  rw [qgj]
  induction xs with
  | nil=>show (0:Rat)+0=0;grind
  | cons x xs ih=>
    have ih:=ih fun y hy=>h y (List.mem_cons_of_mem _ hy)
    have v:=(h x (List.mem_cons_self ..)).neg.2
    show (val x.1*(vpI p x.2.1:Rat)+WP p (xs.map fun x=>(x.1,x.2.1)))+(val (nmul x.1 (-1,1))*(vpI p x.2.2:Rat)+WP p (xs.map fun x=>(nmul x.1 (-1,1),x.2.2)))=val x.1*((vpI p x.2.1:Rat) - (vpI p x.2.2:Rat))+WR p xs
    rw [v,← ih];grind
theorem qi2 {hit:Array Value→Addr→Prop} {code:Addr→Heap→Prop} {P:Addr} {te:TE} {σ:L2.St} {H:Hp} {Q:VK} (h:te σ H fun x H1=>∃ (l:Addr) (us:List V) (kz:List Int),x=.ref l∧H1 l=some (.lst us)∧us.length<64∧qll H1 us kz∧TabOk hit code P H1∧∀ (r:Addr) (qs:List (Int×V)) (H2:Hp),H1 r=none→qs.Perm (kz.zip us)→qs.Pairwise (fun p q=>p.1≤q.1)→Kp P H1 H2→TabOk hit code P H2→H2 r=some (.lst (qs.map (·.2)))→Q (.ref r) H2):qeT hit code P te σ H Q:=h
theorem qc6 (h:qav K vs H Q E):qdr K { nx:=fun _ H'=>Q .non H',rt:=Q } (L2.start ["q", "rows", "pieces", "found"] vs) H:=by
  obtain ⟨v,a,us,xs,rfl,ha,hA,hx,l24,hT,k⟩:=h
  have lu:=hA.length
  refine qbl (qir (qeX ⟨_,rfl,a,rfl,⟨_,SqL.of ha⟩,CompJ.lst (xs:=us) (fun i ys H'=>i≤us.length∧Same H H'∧ys.length=i∧Al (Pc H') ys ((xs.take i).map fun x=>(x.1,x.2.1))) ⟨Nat.zero_le _,Same.refl H,rfl,by rw [List.take_zero];trivial⟩ ?_ ?_ ?_⟩))
  · rintro i ys H' ⟨hi,s1,yl,_⟩
    exact ⟨hi,sz (by omega),SqL.of (s1 _ _ ha)⟩
  · rintro i u ys H' hu ⟨hi,s1,yl,al⟩
    obtain ⟨x,hx',b,c,d,rfl,h1,h2,h3⟩:=hA.get hu
    have il:=(List.getElem?_eq_some_iff.mp hu).1
    have tk:xs.take (i+1)=xs.take i++[x]:=by rw [List.take_add_one,hx'];rfl
    refine ⟨b,_,rfl,s1 _ _ h1,rfl,_,_,rfl,_,_,rfl,rfl,?_⟩
    show qbu _ [some (.ref c),some (.ref d)] _ _
    refine qaF ⟨_,rfl,_,rfl,_,_,_,_,rfl,rfl,s1 _ _ h3,rfl,qcJ,fun p hp=>?_⟩
    have sp:=qaf hp (HO.tup [V.ref c,V.int x.2.1])
    refine ⟨il,s1.trans sp,by rw [List.length_append,yl];rfl,?_⟩
    rw [tk,List.map_append]
    exact (al.mono fun _ _ h=>h.tp (tpS sp)).snoc ⟨p,c,rfl,qab,sp _ _ (s1 _ _ h2)⟩
  rintro ys1 H1 ⟨_,s1,yl1,al1⟩ p1 hp1
  rw [lu,List.take_length] at al1
  have sp1:=qaf hp1 (HO.lst ys1)
  have h11:upd H1 p1 (HO.lst ys1) p1=some (.lst ys1):=qab
  have s1p:=s1.trans sp1
  have al1:=al1.mono fun _ _ h=>h.tp (tpS sp1)
  show qbF _ _ _ _ _ _ _
  generalize upd H1 p1 (HO.lst ys1)=H2 at sp1 h11 s1p al1 ⊢
  refine qeX ⟨_,rfl,a,rfl,⟨_,SqL.of (s1p _ _ ha)⟩,CompJ.lst (xs:=us) (fun i ys H'=>i≤us.length∧Same H2 H'∧ys.length=i∧Al (Pc H') ys ((xs.take i).map fun x=>(nmul x.1 (-1,1),x.2.2))) ⟨Nat.zero_le _,Same.refl _,rfl,by rw [List.take_zero];trivial⟩ ?_ ?_ ?_⟩
  · rintro i ys H' ⟨hi,s2,yl,_⟩
    exact ⟨hi,sz (by omega),SqL.of (s2 _ _ (s1p _ _ ha))⟩
  · rintro i u ys H' hu ⟨hi,s2,yl,al⟩
    obtain ⟨x,hx',b,c,d,rfl,h1,h2,h3⟩:=hA.get hu
    have il:=(List.getElem?_eq_some_iff.mp hu).1
    have xm:x∈xs:=by obtain ⟨z,e⟩:=List.getElem?_eq_some_iff.mp hx';exact e ▸ List.getElem_mem z
    have cx:=(hx x xm).1
    obtain ⟨b1,b2⟩:=cx.bd
    have tk:xs.take (i+1)=xs.take i++[x]:=by rw [List.take_add_one,hx'];rfl
    have s02:=s1p.trans s2
    refine ⟨b,_,rfl,s02 _ _ h1,rfl,_,_,rfl,_,_,rfl,rfl,?_⟩
    show qbu _ [some (.ref c),some (.ref d)] _ _
    refine qaF (qaV ⟨_,rfl,qaF ⟨_,rfl,qcJ,fun p hp=>?_⟩⟩)
    have sp:=qaf hp (HO.tup [V.int (-1),V.int 1])
    have hpp:upd H' p (HO.tup [V.int (-1),V.int 1]) p=_:=qab
    have s03:=s02.trans sp
    show qct nmul K _ _ _ _
    generalize upd H' p (HO.tup [V.int (-1),V.int 1])=H3 at sp hpp s03 ⊢
    refine ⟨c,p,x.1.1,x.1.2,-1,1,rfl,s03 _ _ h2,hpp,cx.1.pos,by decide,b1.mono (by decide),b2.mono (by decide),(show Bd 1 (-1) by unfold Bd;decide).mono (by decide),(show Bd 1 1 by unfold Bd;decide).mono (by decide),fun r hr=>?_⟩
    have sr:=qaf hr (HO.tup [V.int (nmul (x.1.1,x.1.2) (-1,1)).1,V.int (nmul (x.1.1,x.1.2) (-1,1)).2])
    have hrr:upd H3 r (HO.tup [V.int (nmul (x.1.1,x.1.2) (-1,1)).1,V.int (nmul (x.1.1,x.1.2) (-1,1)).2]) r=_:=qab
    show ∃ _,_
    generalize upd H3 r (HO.tup [V.int (nmul (x.1.1,x.1.2) (-1,1)).1,V.int (nmul (x.1.1,x.1.2) (-1,1)).2])=H4 at sr hrr ⊢
    refine ⟨_,rfl,_,_,_,_,rfl,rfl,(s03.trans sr) _ _ h3,rfl,qcJ,fun q hq=>?_⟩
    have sq:=qaf hq (HO.tup [V.ref r,V.int x.2.2])
    have sa:=sp.trans (sr.trans sq)
    refine ⟨il,s2.trans sa,by rw [List.length_append,yl];rfl,?_⟩
    rw [tk,List.map_append]
    exact (al.mono fun _ _ h=>h.tp (tpS sa)).snoc ⟨q,r,rfl,qab,sq _ _ hrr⟩
  rintro ys2 H3 ⟨_,s2,yl2,al2⟩ p2 hp2
  rw [lu,List.take_length] at al2
  have sp2:=qaf hp2 (HO.lst ys2)
  have h22:upd H3 p2 (HO.lst ys2) p2=some (.lst ys2):=qab
  have s23:=s2.trans sp2
  have al2:=al2.mono fun _ _ h=>h.tp (tpS sp2)
  have al1:=al1.mono fun _ _ h=>h.tp (tpS s23)
  show qjR _ _ _ _
  generalize upd H3 p2 (HO.lst ys2)=H4 at sp2 h22 s23 al1 al2 ⊢
  refine ⟨p1,p2,ys1,ys2,rfl,rfl,s23 _ _ h11,h22,sz (by omega),fun p3 hp3=>?_⟩
  have sp3:=qaf hp3 (HO.lst (ys1++ys2))
  have h33:upd H4 p3 (HO.lst (ys1++ys2)) p3=some (.lst (ys1++ys2)):=qab
  have s05:=(s1p.trans s23).trans sp3
  have alA:=(al1.append al2).mono fun _ _ h=>h.tp (tpS sp3)
  have wr:=fun p=>qko (p:=p) fun x hx'=>(hx x hx').1
  show qbw K _ _ _
  generalize upd H4 p3 (HO.lst (ys1++ys2))=H5 at sp3 h33 s05 alA ⊢
  show qaG (qa3 (qeT qhV qfL qgV _) _) _ _ _ _
  refine qbl (qi2 (qiU ⟨_,rfl,p3,_,_,rfl,h33,alA,fun x h=>?_,?_,fun r ws ys H6 s6 hr aw py cop wt=>?_⟩))
  · rcases List.mem_append.mp h with h | h
    · obtain ⟨z,hz,rfl⟩:=List.mem_map.mp h
      exact ⟨(hx z hz).1.mono (by decide),(hx z hz).2.1⟩
    · obtain ⟨z,hz,rfl⟩:=List.mem_map.mp h
      exact ⟨(hx z hz).1.neg.1.mono (by decide),(hx z hz).2.2⟩
  · rw [List.length_append,List.length_map,List.length_map];omega
  have l8:=qkn (fun y h=>(py y h).2.2) cop
  have wl:=aw.length
  have s06:=s05.trans s6
  obtain ⟨z1,z2,z3⟩:=qlz aw
  refine ⟨r,ws,ys.map (·.2),rfl,hr,by omega,⟨by rw [List.length_map];exact wl.symm,fun i u n hu hn=>?_⟩,TabOk.same hT s06,fun r7 qs H7 r7N pm srt k7 t7 h77=>?_⟩
  · obtain ⟨y,hy,a',b',rfl,h1,_⟩:=aw.get hu
    rw [List.getElem?_map,hy] at hn
    cases hn
    exact ⟨a',_,rfl,h1⟩
  obtain ⟨T',pT,eT⟩:=qgf pm _ z2
  have tp7:Tp H6 H7:=fun b xs e=>k7 b _ ((TabOk.same hT s06).ne (.inl e)) e
  have k07:Kp qgV H H7:=fun b o hb e=>k7 b o hb (s06 b o e)
  show qbv K _ _ _
  have eq2:qs.map (·.2)=T'.map (·.2):=by rw [eT,List.map_map];rfl
  have a7:Al (Pc H7) (qs.map (·.2)) (T'.map (·.1)):=by
    rw [eq2]
    exact qmb fun t ht=>(z1 t (pT.mem_iff.mp ht)).tp tp7
  have pY:(T'.map (·.1)).Perm ys:=by
    have:=pT.map (fun t:Pce×V=>t.1)
    rw [z3] at this;exact this
  have srt':(T'.map (·.1)).Pairwise (fun x y=>x.2≤y.2):=by
    rw [eT,List.pairwise_map] at srt
    rw [List.pairwise_map];exact srt
  generalize T'.map (·.1)=zs at a7 pY srt'
  generalize qs.map (·.2)=us7 at h77 a7
  have lz:=a7.length
  have lp:=pY.length_eq
  refine qea (qaF ⟨_,rfl,qhT (qeX ⟨_,rfl,r7,rfl,⟨_,SqL.of h77⟩,CompJ.lst (xs:=us7) (fun i ts H'=>i≤us7.length∧Same H7 H'∧ts.length=i∧Al (Rw H') ts ((zs.take i).map fun y=>(y.1,(y.2,1)))) ⟨Nat.zero_le _,Same.refl _,rfl,by rw [List.take_zero];trivial⟩ ?_ ?_ ?_⟩)⟩)
  · rintro i ts H' ⟨hi,s8,tl,_⟩
    exact ⟨hi,sz (by omega),SqL.of (s8 _ _ h77)⟩
  · rintro i u ts H' hu ⟨hi,s8,tl,al⟩
    obtain ⟨y,hy,b,c,rfl,h1,h2⟩:=a7.get hu
    have il:=(List.getElem?_eq_some_iff.mp hu).1
    have tk:zs.take (i+1)=zs.take i++[y]:=by rw [List.take_add_one,hy];rfl
    refine ⟨b,_,rfl,s8 _ _ h1,rfl,_,_,rfl,_,_,rfl,rfl,?_⟩
    show qbu _ [some (.ref c),some (.int y.2)] _ _
    refine qaF ⟨_,rfl,qaF ⟨_,rfl,qcJ,fun p hp=>?_⟩⟩
    have sp:=qaf hp (HO.tup [V.int y.2,V.int 1])
    have hpp:upd H' p (HO.tup [V.int y.2,V.int 1]) p=_:=qab
    refine ⟨qcJ,fun q hq=>?_⟩
    have sq:=qaf hq (HO.tup [V.ref c,V.ref p])
    have sa:=sp.trans sq
    refine ⟨il,s8.trans sa,by rw [List.length_append,tl];rfl,?_⟩
    rw [tk,List.map_append]
    exact (al.mono fun _ _ h=>h.tp (tpS sa)).snoc ⟨q,c,p,rfl,qab,(s8.trans sa) _ _ h2,sq _ _ hpp⟩
  · rintro ts H8 ⟨_,s8,tl,al8⟩ p8 hp8
    rw [lz,List.take_length] at al8
    have sp8:=qaf hp8 (HO.lst ts)
    have h88:upd H8 p8 (HO.lst ts) p8=some (.lst ts):=qab
    generalize upd H8 p8 (HO.lst ts)=H9 at sp8 h88 ⊢
    refine ⟨p8,ts,rfl,h88,fun b hb=>⟨qcJ,fun r9 hr9=>?_⟩⟩
    have sb:=qaf hb (HO.tup ts)
    have s9:=qaf hr9 (HO.tup [v,V.ref b])
    have sX:=(s8.trans sp8).trans (sb.trans s9)
    refine k r9 b ts zs _ (fun c o hc e=>sX _ _ (k07 c o hc e)) (TabOk.same t7 sX) qab (s9 _ _ qab) (al8.mono fun _ _ h=>h.tp (tpS (sp8.trans (sb.trans s9)))) (fun y hy=>py y (pY.mem_iff.mp hy)) ?_ srt' (by omega) fun p hp=>?_
    · exact (pY.symm.pairwise_iff (fun h=>by show Int.gcd _ _=1;rw [Int.gcd_comm];exact h)).mp cop
    · rw [qh7 p pY,wt p hp,wr p]
theorem qkp (h:qc2 K vs H Q E):qlr K { nx:=fun _ H'=>Q .non H',rt:=Q } (L2.start ["_law_script", "_law_k"] vs) H:=by
  obtain ⟨a,ns,k,rfl,ha,k0,q⟩:=h
  refine qhU ⟨_,rfl,_,_,rfl,rfl,_,rfl,qbJ (fun _=>?_) (fun _=>?_)⟩
  · refine ⟨_,rfl,a,_,rfl,ha,_,_,rfl,rfl,_,rfl,qbJ (fun c=>?_) (fun _=>q 0)⟩
    have c:k<(((ns.map V.int).length:Nat):Int):=of_decide_eq_true c
    have kl:k.toNat<(ns.map V.int).length:=by omega
    have e:atI (ns.map V.int) k=some (V.int (ns.getD k.toNat 0)):=by
      refine qer (j:=k.toNat) (by omega) ?_
      rw [List.length_map] at kl
      rw [List.getElem?_map,List.getD_eq_getElem?_getD,List.getElem?_eq_getElem kl];rfl
    exact ⟨_,rfl,_,rfl,_,_,_,_,rfl,rfl,ha,e,q _⟩
  · exact ⟨_,rfl,qbJ (fun c=>by cases c) (fun _=>q 0)⟩
theorem qib (h:qbm K vs H Q E):qiW K { nx:=fun _ H'=>Q .non H',rt:=Q } (L2.start ["_law_cell", "_law_k", "_law_many", "_law_m"] vs) H:=by
  obtain ⟨c,k,m,rfl,k0,k1,m0,q⟩:=h
  have fin:∀ d:Int,Q (.int (d % m)) H:=fun d=>q _ (Int.emod_nonneg _ (by omega)) (Int.emod_lt_of_pos _ m0)
  have rest:qev K { nx:=fun _ H'=>Q V.non H',rt:=Q } [some (.int c),some (.int k),some (.int m),none] H:=by
    have z1:=Int.emod_nonneg c (show (2147483629:Int)≠0 by decide)
    have z2:=Int.emod_lt_of_pos c (show (0:Int)<2147483629 by decide)
    have kk:0≤k*k∧k*k≤10000:=by
      constructor
      · exact Int.mul_nonneg k0 k0
      · exact Int.le_trans (Int.mul_le_mul k1 k1 k0 (by decide)) (by decide)
    refine qbl ⟨_,rfl,_,_,rfl,rfl,(show (0:Int)<2147483629 by decide),_,rfl,_,rfl,_,_,rfl,rfl,ql9 (by omega) (by omega),_,_,rfl,rfl,qlJ (by decide) (by decide),_,_,rfl,rfl,_,_,rfl,rfl,_,_,rfl,rfl,qlJ (by decide) (by decide),_,_,rfl,rfl,(show (0:Int)<2147483647 by decide),?_⟩
    show qeu K _ _ _
    have y1:=Int.emod_nonneg ((c % 2147483629+k*k*7919+11)*48271) (show (2147483647:Int)≠0 by decide)
    have y2:=Int.emod_lt_of_pos ((c % 2147483629+k*k*7919+11)*48271) (show (0:Int)<2147483647 by decide)
    refine ⟨_,rfl,_,rfl,_,_,rfl,rfl,ql9 (by omega) (by omega),_,_,rfl,rfl,(show (0:Int)<1999999973 by decide),_,_,rfl,rfl,⟨(show (0:Int)<7 by decide),(show Bd 3 7 by unfold Bd;decide).mono (by decide)⟩,_,rfl,_,_,rfl,rfl,m0,fin _⟩
  refine qhU ⟨_,rfl,_,_,rfl,rfl,⟨by decide,by decide,by decide⟩,_,_,rfl,rfl,_,rfl,qbJ (fun _=>?_) (fun _=>?_)⟩
  · refine ⟨_,rfl,_,_,rfl,rfl,_,rfl,qbJ (fun _=>?_) (fun _=>rest)⟩
    exact ⟨_,rfl,_,rfl,_,_,rfl,rfl,ql9 (by decide) (by decide),_,_,rfl,rfl,(by show (0:Int)≤8*k;omega),_,_,rfl,rfl,(show (0:Int)<256 by decide),_,rfl,_,_,rfl,rfl,m0,fin _⟩
  · exact qbJ (fun c=>by cases c) (fun _=>rest)
theorem qi3 {t d:Int} (h:Low t d):qgT t d=(t,d):=qcx (qdz (by have:=h.pos;omega)) h (by rw [qdA (by have:=h.pos;omega)];rfl)
theorem qef (h:qaK K vs H Q E):qcM K { nx:=fun _ H'=>Q .non H',rt:=Q } (L2.start ["_law_found", "_law_part"] vs) H:=by
  obtain ⟨p,t,d,rfl,hp,hl,k⟩:=h
  unfold qcM
  rwa [hp,qeN hp]
  refine ⟨⟨_,SqT.of hp⟩,?_⟩
  refine ForT.by (xs:=[.int t,.int d]) (fun i σ H'=>∃ v,σ=[some (.ref p),v]∧H'=H) ⟨none,rfl,rfl⟩ ?_ ?_ ?_
  · rintro i σ H' _ ⟨v,rfl,rfl⟩
    exact hp
  · rintro i x σ H' hi ⟨v,rfl,rfl⟩
    obtain ⟨z,rfl⟩:∃ z,x=V.int z:=by
      match i,hi with
      | 0,hi=>exact ⟨_,(Option.some.inj hi).symm⟩
      | 1,hi=>exact ⟨_,(Option.some.inj hi).symm⟩
    rwa []
    exact ⟨some (V.int z),rfl⟩
  · rintro σ H' ⟨v,rfl,rfl⟩
    refine ⟨_,rfl,_,_,_,_,rfl,rfl,hp,rfl,_,_,rfl,rfl,_,rfl,qbJ (fun _=>?_) (fun c=>absurd (decide_eq_true (show d > 0 from hl.pos)) c)⟩
    refine qir ⟨_,rfl,qaV ⟨_,rfl,_,_,_,_,rfl,rfl,hp,rfl,_,rfl,_,_,_,_,rfl,rfl,hp,rfl,t,d,rfl,by have:=hl.pos;omega,fun r hr=>?_⟩⟩
    rw [qi3 hl]
    have sr:=qaf hr (HO.tup [V.int t,V.int d])
    refine ⟨p,r,_,_,rfl,rfl,sr _ _ hp,qab,rfl,rfl,?_⟩
    rw [decide_eq_true rfl]
    exact k _ sr
theorem qfP (h:qbn K vs H Q E):qgX K { nx:=fun _ H'=>Q .non H',rt:=Q } (L2.start [] vs) H:=by
  obtain ⟨rfl,k⟩:=h
  exact ⟨sz (by decide),fun p hp=>k p hp⟩
theorem qi4 {a b:Int} (ha:-6≤a∧a≤6) (hb:1≤b∧b≤5):C6 (qgT a b):=by
  have b0:b≠0:=by omega
  refine ⟨qdz b0,a*(60 / b),?_,?_⟩
  · rw [qdA b0]
    have:b=1∨b=2∨b=3∨b=4∨b=5:=by omega
    rcases this with rfl | rfl | rfl | rfl | rfl
    · show (a:Rat) / ((1:Int):Rat)=((a*60:Int):Rat) / 60;push_cast;grind
    · show (a:Rat) / ((2:Int):Rat)=((a*30:Int):Rat) / 60;push_cast;grind
    · show (a:Rat) / ((3:Int):Rat)=((a*20:Int):Rat) / 60;push_cast;grind
    · show (a:Rat) / ((4:Int):Rat)=((a*15:Int):Rat) / 60;push_cast;grind
    · show (a:Rat) / ((5:Int):Rat)=((a*12:Int):Rat) / 60;push_cast;grind
  · have:b=1∨b=2∨b=3∨b=4∨b=5:=by omega
    show (a*(60 / b)).natAbs<512
    rcases this with rfl | rfl | rfl | rfl | rfl <;> omega
theorem qlA (h:qet K vs H Q E):ql7 K { nx:=fun _ H'=>Q .non H',rt:=Q } (L2.start ["_law_cell", "_law_k"] vs) H:=by
  obtain ⟨c,n,rfl,n0,n1,k⟩:=h
  refine qea (qaV (qir (qgU ⟨_,rfl,_,rfl,c,n,13,rfl,n0,by omega,by decide,fun d d0 d1=>⟨_,_,rfl,rfl,?_⟩⟩)))
  refine qir (r_c (qgU ⟨_,rfl,_,rfl,_,_,rfl,rfl,c,n+1,5,rfl,by omega,by omega,by decide,fun e e0 e1=>⟨_,_,rfl,rfl,d - 6,1+e,rfl,by omega,fun r hr=>k r _ _ hr (qi4 (by omega) (by omega))⟩⟩))
theorem qic {K:W.Frag} {tl:TE} {g:TG} {tb rest:TS} {D:Ends} {σ:L2.St} {H:Hp} (h:tl σ H (fun x H1=>∃ a,x=.ref a∧(∃ xs,SqT K H1 a xs)∧ForT K a g tb { D with nx:=rest D } σ H1)):qaG (qdJ (qit K tl) g tb) rest D σ H:=h
theorem qjy {K:W.Frag} {tl:TE} {g:TG} {tb rest:TS} {D:Ends} {σ:L2.St} {H:Hp} (h:tl σ H (fun x H1=>∃ a,x=.ref a∧(∃ xs,SqL K H1 a xs)∧ForL K a g tb { D with nx:=rest D } σ H1)):qaG (qdJ (qb6 K tl) g tb) rest D σ H:=h
theorem qkq {K:W.Frag} {tl:TE} {g:TG} {tb:TS} {D:Ends} {σ:L2.St} {H:Hp} (h:tl σ H (fun x H1=>∃ a,x=.ref a∧(∃ xs,SqL K H1 a xs)∧ForL K a g tb D σ H1)):qdJ (qb6 K tl) g tb D σ H:=h
theorem qid {sp:Sp} {E:XK} {σ:L2.St} {H:Hp} {Q:VK} (h:sp [] H Q E):qap sp [] E qan σ H Q:=h
theorem qe3 {p:Nat} {w:Int} (h:¬ p∣w.natAbs):vpI p w=0:=by
  unfold vpI
  generalize w.natAbs=n at h
  cases n with
  | zero=>rfl
  | succ n=>show (if p∣n+1 then _ else 0)=0;rw [if_neg h]
theorem qeg (h:qa2 K vs H Q E):qeZ K { nx:=fun _ H'=>Q .non H',rt:=Q } (L2.start ["_law_wholes", "_law_k", "_law_entire", "_law_other", "_law_one", "_law_rest"] vs) H:=by
  obtain ⟨a,ns,rfl,ha,l8,pos,cop,k⟩:=h
  refine qiG ⟨_,rfl,a,rfl,⟨_,SqL.of ha⟩,ForJ.enumL (xs:=ns.map V.int) (fun i σ H'=>∃ o1 o2 o3 o4 o5:Option V,σ=[some (.ref a),o1,o2,o3,o4,o5]∧Same H H') ⟨none,none,none,none,none,rfl,Same.refl H⟩ ?_ ?_ ?_⟩
  · rintro i σ H' _ ⟨o1,o2,o3,o4,o5,rfl,s⟩
    exact SqL.of (s _ _ ha)
  · rintro i x p σ H1 hx ⟨o1,o2,o3,o4,o5,rfl,s1⟩ hp
    have sp:=qaf hp (HO.tup [V.int (i:Int),x])
    have hpp:upd H1 p (HO.tup [V.int (i:Int),x]) p=_:=qab
    have s1p:=s1.trans sp
    generalize upd H1 p (HO.tup [V.int (i:Int),x])=H2 at sp hpp s1p ⊢
    have il:i<ns.length:=by have:=(List.getElem?_eq_some_iff.mp hx).1;rw [List.length_map] at this;exact this
    rw [List.getElem?_map,List.getElem?_eq_getElem il] at hx
    obtain rfl:=Option.some.inj hx
    refine ⟨p,_,rfl,hpp,rfl,_,_,rfl,_,_,rfl,rfl,?_⟩
    refine qkq ⟨_,rfl,_,rfl,_,rfl,a,_,rfl,s1p _ _ ha,fun q hq=>?_⟩
    rw [qhS (by rw [List.length_map];omega)]
    have sq:=qaf hq (HO.lst ((ns.map V.int).take i))
    have hqq:upd H2 q (HO.lst ((ns.map V.int).take i)) q=_:=qab
    have s1q:=s1p.trans sq
    generalize upd H2 q (HO.lst ((ns.map V.int).take i))=H3 at sq hqq s1q ⊢
    refine ⟨q,rfl,⟨_,SqL.of hqq⟩,ForL.by (xs:=(ns.map V.int).take i) (fun n σ H'=>∃ o3 o4 o5:Option V,σ=[some (.ref a),some (.int (i:Int)),some (.int ns[i]),o3,o4,o5]∧H'=H3) ⟨o3,o4,o5,rfl,rfl⟩ ?_ ?_ ?_⟩
    · rintro n σ H' _ ⟨o3,o4,o5,rfl,rfl⟩
      exact SqL.of hqq
    · rintro n y σ H' hy ⟨o3,o4,o5,rfl,rfl⟩
      have nl:n<i:=by have:=(List.getElem?_eq_some_iff.mp hy).1;rw [List.length_take] at this;omega
      rw [List.getElem?_take_of_lt nl,List.getElem?_map,List.getElem?_eq_getElem (by omega)] at hy
      obtain rfl:=Option.some.inj hy
      have g1:Int.gcd ns[i] ns[n]=1:=by rw [Int.gcd_comm];exact List.pairwise_iff_getElem.mp cop n i (by omega) il nl
      have p1:=pos ns[i] (List.getElem_mem il)
      have p2:=pos ns[n] (List.getElem_mem (by omega))
      refine ⟨_,rfl,_,rfl,_,_,rfl,?_⟩
      show qbA K _ [some (.ref a),some (.int (i:Int)),some (.int ns[i]),some (.int ns[n]),some (.int ns[i]),some (.int ns[n])] _
      refine while_by (fun m σ H''=>∃ x y:Int,σ=[some (.ref a),some (.int (i:Int)),some (.int ns[i]),some (.int ns[n]),some (.int x),some (.int y)]∧H''=H'∧0≤x∧0≤y∧Int.gcd x y=1∧m=y.natAbs) _ ⟨_,_,rfl,rfl,by omega,by omega,g1,rfl⟩ ?_
      rintro m σ H'' ⟨x,y,rfl,rfl,x0,y0,hg,rfl⟩
      refine ⟨_,rfl,_,_,rfl,rfl,_,rfl,qbJ (fun c=>?_) (fun c=>?_)⟩
      · have c:y > 0:=of_decide_eq_true c
        have z1:=Int.emod_nonneg x (show y≠0 by omega)
        have z2:=Int.emod_lt_of_pos x c
        refine ⟨_,fun _ _ h=>h,_,rfl,_,rfl,_,rfl,_,_,rfl,rfl,c,_,_,rfl,(x % y).natAbs,by omega,y,x % y,rfl,rfl,y0,z1,?_,rfl⟩
        rw [qf8 x y0];exact hg
      · have c:¬ y > 0:=fun z=>c (decide_eq_true z)
        have yz:y=0:=by omega
        subst yz
        rw [Int.gcd_zero_right] at hg
        have x1:x=1:=by omega
        subst x1
        show qbz K _ _ _
        exact ⟨_,rfl,rfl,_,rfl,qbJ (fun c=>by cases c) (fun _=>⟨_,_,_,rfl,rfl⟩)⟩
    · rintro σ H' ⟨o3,o4,o5,rfl,rfl⟩
      exact ⟨_,_,_,_,_,rfl,s1q⟩
  · rintro σ H' ⟨o1,o2,o3,o4,o5,rfl,s⟩
    exact k _ s
theorem qcj {j:Nat} (h:j<8):Pr (pj j):=qgl _ (by
  unfold pj
  have:j<prs.length:=h
  rw [List.getD_eq_getElem?_getD,List.getElem?_eq_getElem this];exact List.getElem_mem _)
theorem qlB {i j:Nat} (hi:i<8) (hj:j<8) (h:i≠j):¬ pj i∣pj j:=fun d=>by
  have:∀ i,i<8→∀ j,j<8→i≠j→pj i≠pj j:=by decide +kernel
  rcases (qcj hj).div _ d with z | z
  · have:=(qcj hi).two;omega
  · exact this i hi j hj h z
theorem qie {p q:Nat} (hq:Pr q) (h:¬ q∣p) (e:Nat):¬ q∣p ^ e:=fun d=>by
  have:(q:Int)∣(p:Int) ^ e:=by rw [← Int.natCast_pow];exact Int.natCast_dvd_natCast.mpr d
  exact h (Int.natCast_dvd_natCast.mp (qjw hq e this))
theorem qfQ (h:qbO K vs H Q E):qgZ K { nx:=fun _ H'=>Q .non H',rt:=Q } (L2.start ["_law_entire", "_law_powers_here", "_law_prime", "_law_e"] vs) H:=by
  obtain ⟨w0,rfl,sm,k⟩:=h
  refine qbl ⟨qi0,fun w hw'=>?_⟩
  have s1:=qaf hw' (HO.lst [])
  have hww:upd H w (HO.lst []) w=some (.lst []):=qab
  show qdm K _ [some (.int w0),some (.ref w),none,none] _
  generalize upd H w (HO.lst [])=H1 at s1 hww ⊢
  refine qic (qid ⟨rfl,fun r hr=>?_⟩)
  have rw':r≠w:=(qah hww hr).symm
  have s2:=qaf hr (HO.tup (prs.map fun p:Nat=>V.int (p:Int)))
  have hrr:upd H1 r (HO.tup (prs.map fun p:Nat=>V.int (p:Int))) r=_:=qab
  have hww:=s2 _ _ hww
  have s12:=s1.trans s2
  generalize upd H1 r (HO.tup (prs.map fun p:Nat=>V.int (p:Int)))=H2 at s2 hrr hww s12 ⊢
  refine ⟨r,rfl,⟨_,SqT.of hrr⟩,ForT.by (xs:=prs.map fun p:Nat=>V.int (p:Int)) (fun i σ H'=>∃ (u:Int) (o2 o3:Option V),σ=[some (.int u),some (.ref w),o2,o3]∧i≤8∧Same H H'∧H' r=some (.tup (prs.map fun p:Nat=>V.int (p:Int)))∧H' w=some (.lst (((prs.take i).map fun p:Nat=>((vpI p w0:Nat):Int)).map V.int))∧Sm u∧(∀ j,j<i→¬ pj j∣u.natAbs)∧∀ j,i≤j→j<8→vpI (pj j) u=vpI (pj j) w0) ⟨w0,none,none,rfl,by decide,s12,hrr,hww,sm,fun j h=>by omega,fun j _ _=>rfl⟩ ?_ ?_ ?_⟩
  · rintro i σ H' _ ⟨u,o2,o3,rfl,_,_,h,_⟩
    exact h
  · rintro i x σ H' hx ⟨u,o2,o3,rfl,_,s3,h3r,h3w,su,nd,vv⟩
    have il:i<8:=by have:=(List.getElem?_eq_some_iff.mp hx).1;rw [List.length_map] at this;exact this
    have ilp:i<prs.length:=il
    have ep:prs[i]?=some (pj i):=by unfold pj;rw [List.getD_eq_getElem?_getD,List.getElem?_eq_getElem ilp];rfl
    rw [List.getElem?_map,ep] at hx
    obtain rfl:=Option.some.inj hx
    have pp:=qcj il
    have p2:=pp.two
    have tk:prs.take (i+1)=prs.take i++[pj i]:=by rw [List.take_add_one,ep];rfl
    show qci K _ [some (.int u),some (.ref w),some (.int (pj i:Int)),o3] _
    refine qbl ?_
    show qch K _ [some (.int u),some (.ref w),some (.int (pj i:Int)),some (.int ((0:Nat):Int))] _
    refine while_by (fun m σ H''=>∃ (u':Int) (e:Nat),σ=[some (.int u'),some (.ref w),some (.int (pj i:Int)),some (.int (e:Int))]∧H''=H'∧0<u'∧u=((pj i ^ e:Nat):Int)*u'∧m=u'.natAbs) _ ⟨u,0,rfl,rfl,su.1,by rw [Nat.pow_zero];show u=1*u;omega,rfl⟩ ?_
    rintro m σ H'' ⟨u',e,rfl,rfl,u0,hu,rfl⟩
    have P0:(0:Int)<((pj i ^ e:Nat):Int):=by have:=Nat.pow_pos (n:=e) (show 0<pj i by omega);omega
    refine ⟨_,rfl,_,rfl,_,_,rfl,rfl,(by show (0:Int)<_;omega),rfl,_,rfl,qbJ (fun c=>?_) (fun c=>?_)⟩
    · have c:V.int (u' % (pj i:Int))=V.int 0:=of_decide_eq_true c
      have c:u' % (pj i:Int)=0:=by injection c
      obtain ⟨v,hv⟩:=Int.dvd_of_emod_eq_zero c
      have ev:u' / (pj i:Int)=v:=by rw [hv];exact Int.mul_ediv_cancel_left _ (by omega)
      have v0:0<v:=by
        rcases Int.lt_trichotomy v 0 with y | y | y
        · have:(pj i:Int)*v≤(pj i:Int)*(-1):=Int.mul_le_mul_of_nonneg_left (by omega) (by omega)
          omega
        · rw [y] at hv;omega
        · exact y
      have vl:v<u':=by
        have:2*v≤(pj i:Int)*v:=Int.mul_le_mul_of_nonneg_right (by omega) (by omega)
        omega
      refine ⟨_,fun _ _ h=>h,?_⟩
      show qcf K _ _ _
      refine qbl ⟨_,rfl,_,rfl,_,_,rfl,rfl,(by show (0:Int)<_;omega),?_⟩
      show qce K _ _ _
      refine ⟨_,rfl,_,_,rfl,rfl,(u' / (pj i:Int)).natAbs,by rw [ev];omega,u' / (pj i:Int),e+1,rfl,rfl,by rw [ev];exact v0,?_,rfl⟩
      rw [ev,hu,hv,Nat.pow_succ];push_cast;grind
    · have c:¬ pj i∣u'.natAbs:=fun d=>c (decide_eq_true (congrArg V.int (Int.emod_eq_zero_of_dvd (Int.natAbs_dvd_natAbs.mp (by rw [Int.natAbs_natCast];exact d)))))
      have ev:e=vpI (pj i) w0:=by
        rw [← vv i (Nat.le_refl _) il]
        obtain ⟨y,ey,ny⟩:=qc4 pp u.natAbs u.natAbs (Nat.le_refl _) (by have:=su.1;omega)
        refine qfO pp e _ u'.natAbs y ?_ c ny
        show _=pj i ^ vp (pj i) u.natAbs u.natAbs*y
        rw [← ey,hu,Int.natAbs_mul,Int.natAbs_natCast]
      have du:u'.natAbs∣u.natAbs:=by rw [hu,Int.natAbs_mul];exact Nat.dvd_mul_left ..
      have su':Sm u':=⟨u0,Int.dvd_trans ⟨((pj i ^ e:Nat):Int),by rw [hu,Int.mul_comm]⟩ su.2⟩
      show qcg K _ _ _
      refine ⟨_,rfl,qa0 h3w,_,rfl,w,_,_,rfl,rfl,h3w,sz (by rw [List.length_map,List.length_map,List.length_take];omega),?_⟩
      refine ⟨u',_,_,rfl,il,fun b o hb=>Kp.upd b o (qah hb hw') (s3 b o hb),(qai rw').trans h3r,?_,su',fun j hj=>?_,fun j h1 h2=>?_⟩
      · rw [qab,tk,List.map_append,List.map_append,ev];rfl
      · rcases Nat.lt_succ_iff_lt_or_eq.mp hj with h | h
        · exact fun d=>nd j h (Nat.dvd_trans d du)
        · rw [h];exact c
      · rw [← vv j (by omega) h2,hu,qe0 (qcj h2) P0 u0,qe3 (p:=pj j) (w:=((pj i ^ e:Nat):Int)) (by rw [Int.natAbs_natCast];exact qie (qcj h2) (qlB h2 il (by omega)) e),Nat.zero_add]
  · rintro σ H' ⟨u,o2,o3,rfl,_,s3,h3r,h3w,su,nd,_⟩
    have u1:u=1:=by
      refine Classical.byContradiction fun z=>?_
      obtain ⟨j,hj,d⟩:=su.prime (by have:=su.1;omega)
      exact nd j hj d
    subst u1
    show qdl K _ _ _
    refine qhU ⟨_,rfl,rfl,_,rfl,qbJ (fun c=>by cases c) (fun _=>⟨_,rfl,k w H' s3 ?_⟩)⟩
    rw [h3w]
    rfl
theorem Wn.same {H H':Hp} {u:V} {x:Nu×List Int} (s:Same H H') (h:Wn H u x):Wn H' u x:=by
  obtain ⟨a,b,w,rfl,h1,h2,h3⟩:=h
  exact ⟨a,b,w,rfl,s _ _ h1,s _ _ h2,s _ _ h3⟩
theorem qjz (j:Nat) (xs ys:List (Nu×List Int)):WW j (xs++ys)=WW j xs+WW j ys:=by
  induction xs with
  | nil=>show WW j ys=0+WW j ys;grind
  | cons x xs ih=>show _+WW j (xs++ys)=(_+WW j xs)+WW j ys;rw [ih];grind
theorem Cz.mulI {t:Nat} {q:Nu} {e:Int} (h:Cz t q) (he:e.natAbs≤700):Cz (t+10) (nmul q (e,1))∧val (nmul q (e,1))=val q*(e:Rat):=by
  obtain ⟨lo,k,ek,b⟩:=h
  have v:val (nmul q (e,1))=val q*(e:Rat):=by
    rw [qcp lo.pos (by show (0:Int)<1;decide)]
    have:val (e,1)=(e:Rat):=by show (e:Rat) / ((1:Int):Rat)=_;push_cast;grind
    rw [this]
  have be:Bd 10 e:=Nat.lt_of_le_of_lt he (by decide)
  exact ⟨⟨qbL lo.pos (by show (0:Int)<1;decide),k*e,by rw [v,ek];push_cast;grind,b.mul be⟩,v⟩
theorem qfu (h:qa5 K vs H Q E):qfM K { nx:=fun _ H'=>Q .non H',rt:=Q } (L2.start ["_law_rows_here", "_law_many", "_law_weights_here", "_law_j", "_law_total", "_law_c_here", "_law_powers_here"] vs) H:=by
  obtain ⟨a,us,ys,rfl,ha,hA,hz,l24,k⟩:=h
  refine qbl ⟨qi0,fun w hw'=>?_⟩
  have s1:=qaf hw' (HO.lst [])
  have hww:upd H w (HO.lst []) w=some (.lst []):=qab
  have lu:=hA.length
  show qcN K _ [some (.ref a),some (.int 8),some (.ref w),none,none,none,none] _
  generalize upd H w (HO.lst [])=H1 at s1 hww ⊢
  refine ⟨_,rfl,_,rfl,by decide,by decide,ForR.by (fun i σ H'=>∃ (ts:List V) (ls:List Nu) (o3 o4 o5 o6:Option V),σ=[some (.ref a),some (.int 8),some (.ref w),o3,o4,o5,o6]∧i≤8∧Same H H'∧H' w=some (.lst ts)∧Nums H' ts ls∧ls.length=i∧qdU ls∧(∀ q∈ls,Cz 200040 q)∧∀ j q,ls[j]?=some q→val q=WW j ys) ⟨[],[],none,none,none,none,rfl,by decide,s1,hww,trivial,rfl,(fun _ h=>nomatch h),(fun _ h=>nomatch h),fun j q h=>by cases h⟩ ?_ ?_⟩
  · rintro i σ H' hi ⟨ts,ls,o3,o4,o5,o6,rfl,_,s2,h2w,n2,l2,lo2,cz2,vl⟩
    have i8:i<8:=hi
    refine qkh ?_
    show qbT K _ [some (.ref a),some (.int 8),some (.ref w),some (.int (0+(i:Int))),o4,o5,o6] _
    refine qbl (qaF ⟨qcJ,fun b hb=>?_⟩)
    have sb:=qaf hb (HO.tup [V.int 0,V.int 1])
    have hbb:upd H' b (HO.tup [V.int 0,V.int 1]) b=_:=qab
    show qbS K _ [some (.ref a),some (.int 8),some (.ref w),some (.int (0+(i:Int))),some (.ref b),o5,o6] _
    have s2b:=s2.trans sb
    have h3w:=sb _ _ h2w
    have n3:=n2.tp (tpS sb)
    generalize upd H' b (HO.tup [V.int 0,V.int 1])=H3 at sb hbb s2b h3w n3 ⊢
    have c0:Cz 200010 (0,1):=⟨⟨by decide,by decide⟩,0,by show ((0:Int):Rat) / ((1:Int):Rat)=((0:Int):Rat) / 3600;push_cast;grind,qkf _⟩
    refine qjy ⟨_,rfl,a,rfl,⟨_,SqL.of (s2b _ _ ha)⟩,ForL.by (xs:=us) (fun n σ H''=>∃ (b:Addr) (q:Nu) (o5 o6:Option V),σ=[some (.ref a),some (.int 8),some (.ref w),some (.int (0+(i:Int))),some (.ref b),o5,o6]∧n≤us.length∧Same H3 H''∧Nm H'' b q.1 q.2∧Cz (200010+n) q∧val q=WW i (ys.take n)) ⟨b,(0,1),o5,o6,rfl,Nat.zero_le _,Same.refl _,hbb,c0,by rw [List.take_zero];show ((0:Int):Rat) / ((1:Int):Rat)=0;push_cast;grind⟩ ?_ ?_ ?_⟩
    · rintro n σ H'' _ ⟨b,q,o5,o6,rfl,_,s4,_⟩
      exact SqL.of (s4 _ _ (s2b _ _ ha))
    · rintro n u σ H4 hu ⟨b,q,o5,o6,rfl,_,s4,h4b,cq,vq⟩
      obtain ⟨y,hy,a',b',w',rfl,h1,h2,h3⟩:=hA.get hu
      have nl:=(List.getElem?_eq_some_iff.mp hu).1
      have ym:y∈ys:=by obtain ⟨z,e⟩:=List.getElem?_eq_some_iff.mp hy;exact e ▸ List.getElem_mem z
      obtain ⟨cy,ly,ey⟩:=hz y ym
      have tk:ys.take (n+1)=ys.take n++[y]:=by rw [List.take_add_one,hy];rfl
      have s04:=s2b.trans s4
      have at':atI (y.2.map V.int) (0+(i:Int))=some (V.int (y.2.getD i 0)):=by
        refine qer (j:=i) (by omega) ?_
        rw [List.getElem?_map,List.getD_eq_getElem?_getD,List.getElem?_eq_getElem (by omega)];rfl
      have e7:(y.2.getD i 0).natAbs≤700:=ey _ (by rw [List.getD_eq_getElem?_getD,List.getElem?_eq_getElem (by omega)];exact List.getElem_mem _)
      obtain ⟨cm,vm⟩:=cy.mulI e7
      obtain ⟨b1,b2⟩:=cy.bd
      refine ⟨a',_,rfl,s04 _ _ h1,rfl,_,_,rfl,_,_,rfl,rfl,?_⟩
      show qa3 _ _ _ [some (.ref a),some (.int 8),some (.ref w),some (.int (0+(i:Int))),some (.ref b),some (.ref b'),some (.ref w')] _
      refine qlp (qaV ⟨_,rfl,qaV ⟨_,rfl,qaF ⟨_,rfl,_,rfl,_,_,_,_,rfl,rfl,s04 _ _ h3,at',qcJ,fun p hp=>?_⟩⟩⟩)
      generalize he:y.2.getD i 0=e at e7 cm vm ⊢
      have sp:=qaf hp (HO.tup [V.int e,V.int 1])
      have hpp:upd H4 p (HO.tup [V.int e,V.int 1]) p=_:=qab
      show qct nmul K _ _ _ _
      generalize upd H4 p (HO.tup [V.int e,V.int 1])=H5 at sp hpp ⊢
      refine ⟨b',p,y.1.1,y.1.2,e,1,rfl,(s04.trans sp) _ _ h2,hpp,cy.1.pos,by decide,b1.mono (by decide),b2.mono (by decide),(show Bd 10 e from Nat.lt_of_le_of_lt e7 (by decide)).mono (by decide),(show Bd 1 1 by unfold Bd;decide).mono (by decide),fun r hr=>?_⟩
      have sr:=qaf hr (HO.tup [V.int (nmul (y.1.1,y.1.2) (e,1)).1,V.int (nmul (y.1.1,y.1.2) (e,1)).2])
      have hrr:upd H5 r (HO.tup [V.int (nmul (y.1.1,y.1.2) (e,1)).1,V.int (nmul (y.1.1,y.1.2) (e,1)).2]) r=_:=qab
      show qct nadd K _ _ _ _
      generalize upd H5 r (HO.tup [V.int (nmul (y.1.1,y.1.2) (e,1)).1,V.int (nmul (y.1.1,y.1.2) (e,1)).2])=H6 at sr hrr ⊢
      have cm:Cz 200010 (nmul (y.1.1,y.1.2) (e,1)):=cm
      obtain ⟨q1,q2⟩:=cq.bd
      obtain ⟨m1,m2⟩:=cm.bd
      refine ⟨b,r,q.1,q.2,_,_,rfl,(sp.trans sr) _ _ h4b,hrr,cq.1.pos,cm.1.pos,q1.mono (by omega),q2.mono (by decide),m1.mono (by decide),m2.mono (by decide),fun r2 hr2=>?_⟩
      have sr2:=qaf hr2 (HO.tup [V.int (nadd (q.1,q.2) (nmul (y.1.1,y.1.2) (e,1))).1,V.int (nadd (q.1,q.2) (nmul (y.1.1,y.1.2) (e,1))).2])
      refine ⟨r2,nadd q (nmul y.1 (e,1)),_,_,rfl,nl,s4.trans (sp.trans (sr.trans sr2)),qab,(cq.add (cm.mono (by omega))).mono (by omega),?_⟩
      rw [qcG cq.1.pos cm.1.pos,tk,qjz,vq]
      show _+val (nmul y.1 (e,1))=_+(val y.1*((y.2.getD i 0:Int):Rat)+0)
      rw [vm,he];grind
    · rintro σ H4 ⟨b,q,o5,o6,rfl,_,s4,h4b,cq,vq⟩
      rw [lu,List.take_length] at vq
      have h4w:=s4 _ _ h3w
      have n4:=n3.tp (tpS s4)
      show qbR K _ _ _
      refine ⟨_,rfl,qa0 h4w,_,rfl,w,ts,_,rfl,rfl,h4w,sz (by have:=n4.length;omega),?_⟩
      have tp:Tp H4 (upd H4 w (HO.lst (ts++[V.ref b]))):=Tp.updL h4w
      refine ⟨ts++[.ref b],ls++[q],_,_,_,_,rfl,i8,fun c o hc=>Kp.upd c o (qah hc hw') ((s2b.trans s4) c o hc),qab,(n4.tp tp).append (Nums.one ⟨b,rfl,tp _ _ h4b⟩),by rw [List.length_append,l2];rfl,fun z hz=>?_,fun z hz=>?_,fun j z hj=>?_⟩
      · rcases List.mem_append.mp hz with h | h
        · exact lo2 z h
        · rw [List.mem_singleton.mp h];exact cq.1
      · rcases List.mem_append.mp hz with h | h
        · exact cz2 z h
        · rw [List.mem_singleton.mp h];exact cq.mono (by omega)
      · rcases Nat.lt_or_ge j ls.length with h | h
        · rw [List.getElem?_append_left h] at hj;exact vl j z hj
        · rw [List.getElem?_append_right h] at hj
          have:j - ls.length=0:=by have:=(List.getElem?_eq_some_iff.mp hj).1;rw [List.length_singleton] at this;omega
          rw [this] at hj
          cases hj
          rw [show j=i by omega];exact vq
  · rintro σ H' ⟨ts,ls,o3,o4,o5,o6,rfl,_,s2,h2w,n2,l2,lo2,cz2,vl⟩
    exact ⟨_,rfl,k w ts ls H' s2 h2w n2 l2 lo2 cz2 vl⟩
theorem qkr {K:W.Frag} {ta:TE} {g:TG} {tb rest:TS} {D:Ends} {σ:L2.St} {H:Hp} (h:ta σ H fun x H1=>∃ a,[x]=[V.ref a]∧(∃ xs,SqT K H1 a xs)∧ForJ (qli K a) g tb { D with nx:=rest D } σ H1):qaG (qdJ (qgc K (qac ta qan)) g tb) rest D σ H:=h
theorem qmc {d:Int} (h0:0≤d) (h8:d<8):∃ e:Int,atI [V.int 0,V.int 0,V.int 1,V.int 2,V.int (-1),V.int 0,V.int (-3),V.int 1] d=some (V.int e)∧e.natAbs≤3:=by
  have:d=0∨d=1∨d=2∨d=3∨d=4∨d=5∨d=6∨d=7:=by omega
  rcases this with rfl | rfl | rfl | rfl | rfl | rfl | rfl | rfl
  · exact ⟨0,rfl,by decide⟩
  · exact ⟨0,rfl,by decide⟩
  · exact ⟨1,rfl,by decide⟩
  · exact ⟨2,rfl,by decide⟩
  · exact ⟨-1,rfl,by decide⟩
  · exact ⟨0,rfl,by decide⟩
  · exact ⟨-3,rfl,by decide⟩
  · exact ⟨1,rfl,by decide⟩
noncomputable def Pi' (i:Nat):Nat:=(prs.take i).foldr (·*·) 1
theorem qg2 (l:List Nat) (p:Nat):(l++[p]).foldr (·*·) 1=l.foldr (·*·) 1*p:=by
  induction l with
  | nil=>show p*1=1*p;omega
  | cons x l ih=>show x*(l++[p]).foldr (·*·) 1=x*l.foldr (·*·) 1*p;rw [ih];grind
structure Sf (i:Nat) (top bot:Int) (es:List Int):Prop where
  t0:0<top
  b0:0<bot
  td:top∣((Pi' i ^ 3:Nat):Int)
  bd:bot∣((Pi' i ^ 3:Nat):Int)
  len:es.length=i
  sm:∀ e∈es,e.natAbs≤3
  old:∀ j,j<i→((vpI (pj j) top:Nat):Int) - ((vpI (pj j) bot:Nat):Int)=es.getD j 0
  new:∀ j,i≤j→j<8→vpI (pj j) top=0∧vpI (pj j) bot=0
theorem qe4 {i n:Nat} (hi:i<8) (hn:n≤3) {top:Int} (td:top∣((Pi' i ^ 3:Nat):Int)):top*((pj i ^ n:Nat):Int)∣((Pi' (i+1) ^ 3:Nat):Int):=by
  have ilp:i<prs.length:=hi
  have ep:prs[i]?=some (pj i):=by unfold pj;rw [List.getD_eq_getElem?_getD,List.getElem?_eq_getElem ilp];rfl
  have e:Pi' (i+1)=Pi' i*pj i:=by unfold Pi';rw [List.take_add_one,ep];exact qg2 _ _
  obtain ⟨c,hc⟩:=td
  rw [e,Nat.mul_pow]
  obtain ⟨m,hm⟩:∃ m,3=n+m:=⟨3 - n,by omega⟩
  have:pj i ^ 3=pj i ^ n*pj i ^ m:=by rw [← Nat.pow_add,← hm]
  refine ⟨c*((pj i ^ m:Nat):Int),?_⟩
  rw [this,Int.natCast_mul,hc,Int.natCast_mul];grind
theorem qgm {i j n:Nat} (hi:i<8) (hj:j<8) {top:Int} (t0:0<top):vpI (pj j) (top*((pj i ^ n:Nat):Int))=vpI (pj j) top+(if j=i then n else 0):=by
  have p2:=(qcj hi).two
  have P0:(0:Int)<((pj i ^ n:Nat):Int):=by have:=Nat.pow_pos (n:=n) (show 0<pj i by omega);omega
  rw [qe0 (qcj hj) t0 P0]
  congr 1
  by_cases e:j=i
  · subst e
    rw [if_pos rfl]
    obtain ⟨y,ey,ny⟩:=qc4 (qcj hj) ((pj j ^ n:Nat):Int).natAbs ((pj j ^ n:Nat):Int).natAbs (Nat.le_refl _) (by omega)
    refine (qfO (qcj hj) n _ 1 y ?_ (fun d=>by have:=Nat.le_of_dvd (by decide) d;omega) ny).symm
    rw [Nat.mul_one]
    rw [Int.natAbs_natCast] at ey
    exact ey
  · rw [if_neg e]
    exact qe3 (by rw [Int.natAbs_natCast];exact qie (qcj hj) (qlB hj hi e) n)
theorem Sf.next {i:Nat} {top bot e:Int} {es:List Int} (h:Sf i top bot es) (hi:i<8) (he:e.natAbs≤3):Sf (i+1) (if e > 0 then top*((pj i ^ e.natAbs:Nat):Int) else top) (if e > 0 then bot else bot*((pj i ^ e.natAbs:Nat):Int)) (es++[e]):=by
  have p2:=(qcj hi).two
  have P0:(0:Int)<((pj i ^ e.natAbs:Nat):Int):=by have:=Nat.pow_pos (n:=e.natAbs) (show 0<pj i by omega);omega
  have one:∀ {x:Int},x∣((Pi' i ^ 3:Nat):Int)→x∣((Pi' (i+1) ^ 3:Nat):Int):=fun {x} d=>by
    have:=qe4 hi (Nat.zero_le 3) d
    rw [Nat.pow_zero] at this
    have e1:x*((1:Nat):Int)=x:=by show x*1=x;omega
    rw [e1] at this;exact this
  have g1:∀ j,j<i→(es++[e]).getD j 0=es.getD j 0:=fun j hj=>by
    rw [List.getD_eq_getElem?_getD,List.getD_eq_getElem?_getD,List.getElem?_append_left (by rw [h.len];exact hj)]
  have g2:(es++[e]).getD i 0=e:=by
    rw [List.getD_eq_getElem?_getD,List.getElem?_append_right (by rw [h.len];exact Nat.le_refl _),h.len,Nat.sub_self];rfl
  have sm':∀ z∈es++[e],z.natAbs≤3:=fun z hz=>by
    rcases List.mem_append.mp hz with y | y
    · exact h.sm z y
    · rw [List.mem_singleton.mp y];exact he
  have len':(es++[e]).length=i+1:=by rw [List.length_append,h.len];rfl
  by_cases c:e > 0
  · rw [if_pos c,if_pos c]
    refine ⟨Int.mul_pos h.t0 P0,h.b0,qe4 hi he h.td,one h.bd,len',sm',fun j hj=>?_,fun j h1 h2=>?_⟩
    · rw [qgm hi (by omega) h.t0]
      rcases Nat.lt_succ_iff_lt_or_eq.mp hj with y | y
      · rw [if_neg (by omega),g1 j y,Nat.add_zero];exact h.old j y
      · subst y
        obtain ⟨n1,n2⟩:=h.new j (Nat.le_refl _) hi
        rw [if_pos rfl,g2,n1,n2];omega
    · obtain ⟨n1,n2⟩:=h.new j (by omega) h2
      rw [qgm hi h2 h.t0,if_neg (by omega)]
      exact ⟨by omega,n2⟩
  · rw [if_neg c,if_neg c]
    refine ⟨h.t0,Int.mul_pos h.b0 P0,one h.td,qe4 hi he h.bd,len',sm',fun j hj=>?_,fun j h1 h2=>?_⟩
    · rw [qgm hi (by omega) h.b0]
      rcases Nat.lt_succ_iff_lt_or_eq.mp hj with y | y
      · rw [if_neg (by omega),g1 j y,Nat.add_zero];exact h.old j y
      · subst y
        obtain ⟨n1,n2⟩:=h.new j (Nat.le_refl _) hi
        rw [if_pos rfl,g2,n1,n2];omega
    · obtain ⟨n1,n2⟩:=h.new j (by omega) h2
      rw [qgm hi h2 h.b0,if_neg (by omega)]
      exact ⟨n1,by omega⟩
theorem qmP {a b c d e f g h:V}:[a,b,c,d,e,f,g,h].length≤sizeLine:=by show 8≤_;exact sz (by decide)
theorem qfR (h:qbN K vs H Q E):qgY K { nx:=fun _ H'=>Q .non H',rt:=Q } (L2.start ["_law_cell", "_law_top", "_law_bottom", "_law_powers_here", "_law_j", "_law_prime", "_law_e", "_law_turn"] vs) H:=by
  obtain ⟨c,rfl,k⟩:=h
  refine qbl ?_
  show qdk K _ _ _
  refine qbl ?_
  show qdj K _ _ _
  refine qbl ⟨qi0,fun w hw'=>?_⟩
  have s1:=qaf hw' (HO.lst [])
  have hww:upd H w (HO.lst []) w=some (.lst []):=qab
  show qdi K _ [some (.int c),some (.int 1),some (.int 1),some (.ref w),none,none,none,none] _
  generalize upd H w (HO.lst [])=H1 at s1 hww ⊢
  refine qkr (qid ⟨rfl,fun r hr=>?_⟩)
  have rw':r≠w:=(qah hww hr).symm
  have s2:=qaf hr (HO.tup (prs.map fun p:Nat=>V.int (p:Int)))
  have hrr:upd H1 r (HO.tup (prs.map fun p:Nat=>V.int (p:Int))) r=_:=qab
  have hww:=s2 _ _ hww
  have s12:=s1.trans s2
  generalize upd H1 r (HO.tup (prs.map fun p:Nat=>V.int (p:Int)))=H2 at s2 hrr hww s12 ⊢
  have S0:Sf 0 1 1 []:=⟨by decide,by decide,Int.one_dvd _,Int.one_dvd _,rfl,(fun _ h=>nomatch h),fun j h=>by omega,fun j _ h=>⟨qe2 (qcj h),qe2 (qcj h)⟩⟩
  refine ⟨r,rfl,⟨_,SqT.of hrr⟩,ForJ.enumT (xs:=prs.map fun p:Nat=>V.int (p:Int)) (fun i σ H'=>∃ (top bot:Int) (es:List Int) (o4 o5 o6 o7:Option V),σ=[some (.int c),some (.int top),some (.int bot),some (.ref w),o4,o5,o6,o7]∧i≤8∧Same H H'∧H' r=some (.tup (prs.map fun p:Nat=>V.int (p:Int)))∧H' w=some (.lst (es.map V.int))∧Sf i top bot es) ⟨1,1,[],none,none,none,none,rfl,by decide,s12,hrr,hww,S0⟩ ?_ ?_ ?_⟩
  · rintro i σ H' _ ⟨top,bot,es,o4,o5,o6,o7,rfl,_,_,h,_⟩
    exact h
  · rintro i x p σ H3 hx ⟨top,bot,es,o4,o5,o6,o7,rfl,_,s3,h3r,h3w,S⟩ hp
    have il:i<8:=by have:=(List.getElem?_eq_some_iff.mp hx).1;rw [List.length_map] at this;exact this
    have ilp:i<prs.length:=il
    have ep:prs[i]?=some (pj i):=by unfold pj;rw [List.getD_eq_getElem?_getD,List.getElem?_eq_getElem ilp];rfl
    rw [List.getElem?_map,ep] at hx
    obtain rfl:=Option.some.inj hx
    have pb:(pj i:Int)<18446744073709551616:=by
      have:∀ i,i<8→pj i<18446744073709551616:=by decide +kernel
      have:=this i il
      omega
    have sp:=qaf hp (HO.tup [V.int (i:Int),V.int (pj i:Int)])
    have hpp:upd H3 p (HO.tup [V.int (i:Int),V.int (pj i:Int)]) p=_:=qab
    have h4r:=sp _ _ h3r
    have h4w:=sp _ _ h3w
    have s4:=s3.trans sp
    generalize upd H3 p (HO.tup [V.int (i:Int),V.int (pj i:Int)])=H4 at sp hpp h4r h4w s4 ⊢
    refine ⟨p,_,rfl,hpp,rfl,_,_,rfl,_,_,rfl,rfl,?_⟩
    show qcd K _ [some (.int c),some (.int top),some (.int bot),some (.ref w),some (.int (i:Int)),some (.int (pj i:Int)),o6,o7] _
    refine qbl (qir ⟨_,rfl,_,rfl,qmP,fun q hq=>?_⟩)
    refine qgU ⟨_,rfl,_,rfl,c,i,8,rfl,by omega,by omega,by decide,fun d d0 d1=>?_⟩
    obtain ⟨e,he,e3⟩:=qmc d0 d1
    have sq:=qaf hq (HO.tup [V.int 0,V.int 0,V.int 1,V.int 2,V.int (-1),V.int 0,V.int (-3),V.int 1])
    refine ⟨q,d,_,_,rfl,rfl,qab,he,?_⟩
    have h5r:=sq _ _ h4r
    have h5w:=sq _ _ h4w
    have s5:=s4.trans sq
    show qcc K _ [some (.int c),some (.int top),some (.int bot),some (.ref w),some (.int (i:Int)),some (.int (pj i:Int)),some (.int e),o7] (upd H4 q (HO.tup [V.int 0,V.int 0,V.int 1,V.int 2,V.int (-1),V.int 0,V.int (-3),V.int 1]))
    generalize upd H4 q (HO.tup [V.int 0,V.int 0,V.int 1,V.int 2,V.int (-1),V.int 0,V.int (-3),V.int 1])=H5 at sq h5r h5w s5 ⊢
    refine ⟨_,rfl,qa0 h5w,_,rfl,w,_,_,rfl,rfl,h5w,sz (by rw [List.length_map];have:=S.len;omega),?_⟩
    have h6w:upd H5 w (HO.lst (es.map V.int++[V.int e])) w=some (.lst ((es++[e]).map V.int)):=by rw [qab,List.map_append];rfl
    have h6r:upd H5 w (HO.lst (es.map V.int++[V.int e])) r=_:=(qai rw').trans h5r
    have s6:Same H (upd H5 w (HO.lst (es.map V.int++[V.int e]))):=fun b o hb=>Kp.upd b o (qah hb hw') (s5 b o hb)
    show qcb K _ _ _
    generalize upd H5 w (HO.lst (es.map V.int++[V.int e]))=H6 at h6w h6r s6 ⊢
    have ea:(if e<0 then -e else e).toNat=e.natAbs:=by split <;> omega
    refine ⟨_,rfl,_,rfl,_,rfl,by split <;> omega,by split <;> omega,?_⟩
    rw [ea]
    refine ForR.by (fun n σ H'=>n≤e.natAbs∧∃ o7,σ=[some (.int c),some (.int (if e > 0 then top*((pj i ^ n:Nat):Int) else top)),some (.int (if e > 0 then bot else bot*((pj i ^ n:Nat):Int))),some (.ref w),some (.int (i:Int)),some (.int (pj i:Int)),some (.int e),o7]∧H'=H6) ⟨Nat.zero_le _,o7,by
      rw [Nat.pow_zero,show top*((1:Nat):Int)=top by show top*1=top;omega,show bot*((1:Nat):Int)=bot by show bot*1=bot;omega]
      by_cases z:e > 0
      · rw [if_pos z,if_pos z]
      · rw [if_neg z,if_neg z],rfl⟩ ?_ ?_
    · rintro n σ H' hn ⟨_,o7,rfl,rfl⟩
      refine qkh ?_
      have pw:∀ x:Int,x*((pj i ^ n:Nat):Int)*(pj i:Int)=x*((pj i ^ (n+1):Nat):Int):=fun x=>by rw [Nat.pow_succ];push_cast;grind
      refine ⟨_,rfl,_,_,rfl,rfl,_,rfl,qbJ (fun z=>?_) (fun z=>?_)⟩
      · have z:e > 0:=of_decide_eq_true z
        refine ⟨_,rfl,_,rfl,_,_,rfl,rfl,qlJ (by omega) (by omega),hn,some (.int (0+(n:Int))),?_,rfl⟩
        show [some (V.int c),some (V.int ((if e > 0 then top*((pj i ^ n:Nat):Int) else top)*(pj i:Int))),some (V.int (if e > 0 then bot else bot*((pj i ^ n:Nat):Int))),some (V.ref w),some (V.int (i:Int)),some (V.int (pj i:Int)),some (V.int e),some (V.int (0+(n:Int)))]=_
        rw [if_pos z,if_pos z,if_pos z,if_pos z,pw]
      · have z:¬ e > 0:=fun y=>z (decide_eq_true y)
        refine ⟨_,rfl,_,rfl,_,_,rfl,rfl,qlJ (by omega) (by omega),hn,some (.int (0+(n:Int))),?_,rfl⟩
        show [some (V.int c),some (V.int (if e > 0 then top*((pj i ^ n:Nat):Int) else top)),some (V.int ((if e > 0 then bot else bot*((pj i ^ n:Nat):Int))*(pj i:Int))),some (V.ref w),some (V.int (i:Int)),some (V.int (pj i:Int)),some (V.int e),some (V.int (0+(n:Int)))]=_
        rw [if_neg z,if_neg z,if_neg z,if_neg z,pw]
    · rintro σ H' ⟨_,o7,rfl,rfl⟩
      exact ⟨_,_,es++[e],_,_,_,_,rfl,il,s6,h6r,h6w,S.next il e3⟩
  · rintro σ H' ⟨top,bot,es,o4,o5,o6,o7,rfl,_,s3,h3r,h3w,S⟩
    have S:Sf 8 top bot es:=S
    have eM:((Pi' 8 ^ 3:Nat):Int)=MM:=by decide +kernel
    show qdh K _ _ _
    refine qea (qaF (qaF ⟨_,rfl,_,rfl,qcJ,fun b hb=>?_⟩))
    have sb:=qaf hb (HO.tup [V.int top,V.int bot])
    have hbb:upd H' b (HO.tup [V.int top,V.int bot]) b=_:=qab
    show ∃ _,_
    generalize upd H' b (HO.tup [V.int top,V.int bot])=H4 at sb hbb ⊢
    refine ⟨_,rfl,qcJ,fun r2 hr2=>?_⟩
    have sr:=qaf hr2 (HO.tup [V.ref b,V.ref w])
    exact k r2 b w top bot es _ ((s3.trans sb).trans sr) qab (sr _ _ hbb) ((sb.trans sr) _ _ h3w) S.len ⟨S.t0,eM ▸ S.td⟩ ⟨S.b0,eM ▸ S.bd⟩ S.sm S.old
theorem Al.with {α:Type} {R:V→α→Prop} {P:α→Prop} {us:List V} {xs:List α} (a:Al R us xs):(∀ x∈xs,P x)→Al (fun u x=>R u x∧P x) us xs:=
  Al.ind (M:=fun us xs=>(∀ x∈xs,P x)→Al (fun u x=>R u x∧P x) us xs) (fun _=>trivial) (fun u x _ _ r _ ih h=>⟨⟨r,h x (List.mem_cons_self ..)⟩,ih fun y hy=>h y (List.mem_cons_of_mem _ hy)⟩) a
theorem qfv (p:Nat) (xs ys:List (Nu×Nu)):WR p (xs++ys)=WR p xs+WR p ys:=by
  induction xs with
  | nil=>show WR p ys=0+WR p ys;grind
  | cons x xs ih=>show _+WR p (xs++ys)=(_+WR p xs)+WR p ys;rw [ih];grind
theorem qi5 {α:Type} {R:V→α→Prop} (hr:∀ u x,R u x→∃ p,u=.ref p) {us:List V} {xs:List α} (a:Al R us xs) {es:List Int} (l:es.length=8) (e:us=es.map V.int):False:=by
  cases es with
  | nil=>cases l
  | cons z es=>
    rw [e] at a
    cases xs with
    | nil=>exact a.elim
    | cons x xs=>obtain ⟨p,hp⟩:=hr _ _ a.1;cases hp
theorem Rw.ref {H:Hp} {u:V} {x:Nu×Nu} (h:Rw H u x):∃ p,u=.ref p:=by obtain ⟨a,b,d,rfl,_⟩:=h;exact ⟨a,rfl⟩
theorem Wn.ref {H:Hp} {u:V} {x:Nu×List Int} (h:Wn H u x):∃ p,u=.ref p:=by obtain ⟨a,b,d,rfl,_⟩:=h;exact ⟨a,rfl⟩
theorem Wn.keep {α:Type} {H:Hp} {u:V} {y:Nu×List Int} {b:Addr} {us zs:List V} {R:V→α→Prop} (hr:∀ u x,R u x→∃ p,u=.ref p) {xs:List α} (a:Al R us xs) (hb:H b=some (.lst us)) (l:y.2.length=8) (h:Wn H u y):Wn (upd H b (.lst zs)) u y:=by
  obtain ⟨p,q,w,rfl,h1,h2,h3⟩:=h
  have tp:Tp H (upd H b (.lst zs)):=Tp.updL hb
  have n:w≠b:=fun e=>by
    rw [e,hb] at h3
    exact qi5 hr a l (by injection h3 with h3;injection h3)
  exact ⟨p,q,w,rfl,tp _ _ h1,tp _ _ h2,(qai n).trans h3⟩
structure Rg (H0 H:Hp) (b d:Addr) (us ws:List V) (xs:List (Nu×Nu)) (ys:List (Nu×List Int)):Prop where
  s:Same H0 H
  hb:H b=some (.lst us)
  hx:Al (Rw H) us xs
  hd:H d=some (.lst ws)
  hy:Al (Wn H) ws ys
  b0:H0 b=none
  d0:H0 d=none
  bd:b≠d
  py:∀ y∈ys,Wz 15 y
theorem Rg.mono {H0 H H':Hp} {b d:Addr} {us ws:List V} {xs:List (Nu×Nu)} {ys:List (Nu×List Int)} (g:Rg H0 H b d us ws xs ys) (s:Same H H'):Rg H0 H' b d us ws xs ys:=
  ⟨g.s.trans s,s _ _ g.hb,g.hx.mono fun _ _ h=>h.tp (tpS s),s _ _ g.hd,g.hy.mono fun _ _ h=>h.same s,g.b0,g.d0,g.bd,g.py⟩
theorem Rg.addb {H0 H:Hp} {b d:Addr} {us ws:List V} {xs:List (Nu×Nu)} {ys:List (Nu×List Int)} {u:V} {x:Nu×Nu} (g:Rg H0 H b d us ws xs ys) (h:Rw H u x):Rg H0 (upd H b (.lst (us++[u]))) b d (us++[u]) ws (xs++[x]) ys:=by
  have tp:Tp H (upd H b (.lst (us++[u]))):=Tp.updL g.hb
  exact ⟨fun c o hc=>Kp.upd c o (qah hc g.b0) (g.s c o hc),qab,(g.hx.mono fun _ _ h=>h.tp tp).snoc (h.tp tp),(qai g.bd.symm).trans g.hd,(g.hy.with g.py).mono fun _ _ h=>h.1.keep (R:=Rw H) (fun _ _=>Rw.ref) g.hx g.hb h.2.2.1,g.b0,g.d0,g.bd,g.py⟩
theorem Rg.addd {H0 H:Hp} {b d:Addr} {us ws:List V} {xs:List (Nu×Nu)} {ys:List (Nu×List Int)} {u:V} {y:Nu×List Int} (g:Rg H0 H b d us ws xs ys) (h:Wn H u y) (z:Wz 15 y):Rg H0 (upd H d (.lst (ws++[u]))) b d us (ws++[u]) xs (ys++[y]):=by
  have tp:Tp H (upd H d (.lst (ws++[u]))):=Tp.updL g.hd
  exact ⟨fun c o hc=>Kp.upd c o (qah hc g.d0) (g.s c o hc),(qai g.bd).trans g.hb,(g.hx.mono fun _ _ h=>h.tp tp),qab,((g.hy.with g.py).mono fun _ _ h=>h.1.keep (R:=Wn H) (fun _ _=>Wn.ref) g.hy g.hd h.2.2.1).snoc (h.keep (R:=Wn H) (fun _ _=>Wn.ref) g.hy g.hd z.2.1),g.b0,g.d0,g.bd,fun v hv=>by
    rcases List.mem_append.mp hv with e | e
    · exact g.py v e
    · rw [List.mem_singleton.mp e];exact z⟩
theorem qjA {xs:List (Nu×Nu)} {x:Nu×Nu} (h:∀ x∈xs,Rs x) (hx:Rs x):∀ v∈xs++[x],Rs v:=fun v hv=>by
  rcases List.mem_append.mp hv with e | e
  · exact h v e
  · rw [List.mem_singleton.mp e];exact hx
theorem qjB {xs:List (Nu×Nu)} {ys:List (Nu×List Int)} {c:Nu} {top bot:Int} {es:List Int} (h:∀ j,j<8→WR (pj j) xs=WW j ys) (v:∀ j,j<8→((vpI (pj j) top:Nat):Int) - ((vpI (pj j) bot:Nat):Int)=es.getD j 0):∀ j,j<8→WR (pj j) (xs++[(c,(top,bot))])=WW j (ys++[(c,es)]):=fun j hj=>by
  rw [qfv,qjz,h j hj]
  show _+(val c*((vpI (pj j) top:Rat) - (vpI (pj j) bot:Rat))+0)=_+(val c*((es.getD j 0:Int):Rat)+0)
  rw [← v j hj];push_cast;rfl
theorem qif (h:qcK K vs H Q E):qiX K { nx:=fun _ H'=>Q .non H',rt:=Q } (L2.start ["_law_cells", "_law_rows_here", "_law_wanted", "_law_cell", "_law_r", "_law_powers_here", "_law_c_here"] vs) H:=by
  obtain ⟨a,ns,rfl,ha,l12,k⟩:=h
  refine qbl ⟨qi0,fun b hb=>?_⟩
  show qez K _ _ _
  refine qbl ⟨qi0,fun d hd=>?_⟩
  have s1:=qaf hb (HO.lst [])
  have s2:=qaf hd (HO.lst [])
  have hd0:H d=none:=by
    cases e:H d with
    | none=>rfl
    | some o=>have:=s1 _ _ e;rw [hd] at this;cases this
  have G0:Rg H (upd (upd H b (HO.lst [])) d (HO.lst [])) b d [] [] [] []:=⟨s1.trans s2,s2 _ _ qab,trivial,qab,trivial,hb,hd0,qah qab hd,(fun _ h=>nomatch h)⟩
  show qey K _ [some (.ref a),some (.ref b),some (.ref d),none,none,none,none] _
  generalize upd (upd H b (HO.lst [])) d (HO.lst [])=H1 at G0 ⊢
  refine qjy ⟨_,rfl,a,rfl,⟨_,SqL.of (G0.s _ _ ha)⟩,ForL.by (xs:=ns.map V.int) (fun n σ H'=>∃ (us ws:List V) (xs:List (Nu×Nu)) (ys:List (Nu×List Int)) (o3 o4 o5 o6:Option V),σ=[some (.ref a),some (.ref b),some (.ref d),o3,o4,o5,o6]∧n≤ns.length∧Rg H H' b d us ws xs ys∧xs.length≤2*n∧ys.length≤2*n∧(∀ x∈xs,Rs x)∧∀ j,j<8→WR (pj j) xs=WW j ys) ⟨[],[],[],[],none,none,none,none,rfl,Nat.zero_le _,G0,Nat.le_refl _,Nat.le_refl _,(fun _ h=>nomatch h),fun _ _=>rfl⟩ ?_ ?_ ?_⟩
  · rintro n σ H' _ ⟨us,ws,xs,ys,o3,o4,o5,o6,rfl,_,G,_⟩
    exact SqL.of (G.s _ _ ha)
  · rintro n u σ H' hu ⟨us,ws,xs,ys,o3,o4,o5,o6,rfl,_,G,lx,ly,px,wr⟩
    have nl:n<ns.length:=by have:=(List.getElem?_eq_some_iff.mp hu).1;rw [List.length_map] at this;exact this
    rw [List.getElem?_map,List.getElem?_eq_getElem nl] at hu
    obtain rfl:=Option.some.inj hu
    generalize ns[n]=cell
    refine qkh ?_
    show qcV K _ [some (.ref a),some (.ref b),some (.ref d),some (.int cell),o4,o5,o6] _
    refine qgh (qiU ⟨_,rfl,cell,rfl,fun r p w top bot es H2 s2 h2r h2p h2w l8 st sb e3 v=>?_⟩)
    have G:=G.mono s2
    refine ⟨r,_,rfl,h2r,rfl,_,_,rfl,_,_,rfl,rfl,?_⟩
    show qcU K _ [some (.ref a),some (.ref b),some (.ref d),some (.int cell),some (.ref p),some (.ref w),o6] _
    refine qfK ⟨_,rfl,cell,10,rfl,by decide,by decide,fun c t e hc cz=>?_⟩
    have sc:=qaf hc (HO.tup [V.int t,V.int e])
    have hcc:upd H2 c (HO.tup [V.int t,V.int e]) c=_:=qab
    have G:=G.mono sc
    have h3p:=sc _ _ h2p
    have h3w:=sc _ _ h2w
    have e7:∀ e∈es,e.natAbs≤700:=fun e he=>Nat.le_trans (e3 e he) (by decide)
    show qcT K _ [some (.ref a),some (.ref b),some (.ref d),some (.int cell),some (.ref p),some (.ref w),some (.ref c)] _
    generalize upd H2 c (HO.tup [V.int t,V.int e])=H3 at hcc G h3p h3w ⊢
    refine ⟨_,rfl,qa0 G.hb,qaF ⟨_,rfl,_,rfl,qcJ,fun m hm=>?_⟩⟩
    have sm:=qaf hm (HO.tup [V.ref c,V.ref p])
    have hmm:upd H3 m (HO.tup [V.ref c,V.ref p]) m=_:=qab
    have G:=G.mono sm
    have h4c:=sm _ _ hcc
    have h4p:=sm _ _ h3p
    have h4w:=sm _ _ h3w
    show ∃ _,_
    generalize upd H3 m (HO.tup [V.ref c,V.ref p])=H4 at hmm G h4c h4p h4w ⊢
    have lu:=G.hx.length
    have lw:=G.hy.length
    refine ⟨b,us,_,rfl,rfl,G.hb,sz (by omega),?_⟩
    have R1:Rw H4 (.ref m) ((t,e),(top,bot)):=⟨m,c,p,rfl,hmm,h4c,h4p⟩
    have W1:Wn H4 (.ref m) ((t,e),es)→True:=fun _=>trivial
    have G':=G.addb R1
    have tp:Tp H4 (upd H4 b (.lst (us++[.ref m]))):=Tp.updL G.hb
    have nw:w≠b:=fun q=>by
      rw [q,G.hb] at h4w
      exact qi5 (R:=Rw H4) (fun _ _=>Rw.ref) G.hx l8 (by injection h4w with h;injection h)
    have h5c:=tp _ _ h4c
    have h5p:=tp _ _ h4p
    have h5w:upd H4 b (.lst (us++[.ref m])) w=_:=(qai nw).trans h4w
    show qcS K _ _ _
    generalize upd H4 b (.lst (us++[.ref m]))=H5 at G' h5c h5p h5w ⊢
    refine ⟨_,rfl,qa0 G'.hd,qaF ⟨_,rfl,_,rfl,qcJ,fun m2 hm2=>?_⟩⟩
    have sm:=qaf hm2 (HO.tup [V.ref c,V.ref w])
    have hmm:upd H5 m2 (HO.tup [V.ref c,V.ref w]) m2=_:=qab
    have G':=G'.mono sm
    have h6c:=sm _ _ h5c
    have h6p:=sm _ _ h5p
    have h6w:=sm _ _ h5w
    show ∃ _,_
    generalize upd H5 m2 (HO.tup [V.ref c,V.ref w])=H6 at hmm G' h6c h6p h6w ⊢
    refine ⟨d,ws,_,rfl,rfl,G'.hd,sz (by omega),?_⟩
    have W1:Wn H6 (.ref m2) ((t,e),es):=⟨m2,c,w,rfl,hmm,h6c,h6w⟩
    have tp:Tp H6 (upd H6 d (.lst (ws++[.ref m2]))):=Tp.updL G'.hd
    have nw:w≠d:=fun q=>by
      rw [q,G'.hd] at h6w
      exact qi5 (R:=Wn H6) (fun _ _=>Wn.ref) G'.hy l8 (by injection h6w with h;injection h)
    have G2:=G'.addd W1 ⟨cz.cz,l8,e7⟩
    have h7c:=tp _ _ h6c
    have h7p:=tp _ _ h6p
    have h7w:upd H6 d (.lst (ws++[.ref m2])) w=_:=(qai nw).trans h6w
    show qcR K _ _ _
    generalize upd H6 d (.lst (ws++[.ref m2]))=H7 at G2 h7c h7p h7w ⊢
    have px2:=qjA px (x:=((t,e),(top,bot))) ⟨cz,st,sb⟩
    have wr2:=qjB (c:=(t,e)) wr v
    have lx2:(xs++[((t,e),(top,bot))]).length≤2*n+1:=by rw [List.length_append];show xs.length+1≤_;omega
    have ly2:(ys++[((t,e),es)]).length≤2*n+1:=by rw [List.length_append];show ys.length+1≤_;omega
    have lu2:(us++[V.ref m]).length≤2*n+1:=by rw [G2.hx.length];exact lx2
    have lw2:(ws++[V.ref m2]).length≤2*n+1:=by rw [G2.hy.length];exact ly2
    generalize us++[V.ref m]=us at G2 lu2 ⊢
    generalize ws++[V.ref m2]=ws at G2 lw2 ⊢
    generalize xs++[((t,e),(top,bot))]=xs at G2 px2 wr2 lx2 ⊢
    generalize ys++[((t,e),es)]=ys at G2 wr2 ly2 ⊢
    refine qgU ⟨_,rfl,cell,12,4,rfl,by decide,by decide,by decide,fun dr _ _=>⟨rfl,_,rfl,qbJ (fun _=>?_) (fun _=>?_)⟩⟩
    · obtain ⟨cn,vn⟩:=cz.neg
      obtain ⟨b1,b2⟩:=cz.bd
      show qcQ K _ _ _
      refine ⟨_,rfl,qa0 G2.hb,qaF (qaV ⟨_,rfl,qaF ⟨_,rfl,qcJ,fun q hq=>?_⟩⟩)⟩
      have sq:=qaf hq (HO.tup [V.int (-1),V.int 1])
      have hqq:upd H7 q (HO.tup [V.int (-1),V.int 1]) q=_:=qab
      have G2:=G2.mono sq
      have h8c:=sq _ _ h7c
      have h8p:=sq _ _ h7p
      have h8w:=sq _ _ h7w
      show qct nmul K _ (upd H7 q (HO.tup [V.int (-1),V.int 1])) _ _
      generalize upd H7 q (HO.tup [V.int (-1),V.int 1])=H8 at hqq G2 h8c h8p h8w ⊢
      refine ⟨c,q,t,e,-1,1,rfl,h8c,hqq,cz.1.pos,by decide,b1.mono (by decide),b2.mono (by decide),(show Bd 1 (-1) by unfold Bd;decide).mono (by decide),(show Bd 1 1 by unfold Bd;decide).mono (by decide),fun r2 hr2=>?_⟩
      generalize nmul (t,e) (-1,1)=nc at cn vn ⊢
      have sr:=qaf hr2 (HO.tup [V.int nc.1,V.int nc.2])
      have hrr:upd H8 r2 (HO.tup [V.int nc.1,V.int nc.2]) r2=_:=qab
      have G2:=G2.mono sr
      have h9c:=sr _ _ h8c
      have h9p:=sr _ _ h8p
      have h9w:=sr _ _ h8w
      show ∃ _,_
      generalize upd H8 r2 (HO.tup [V.int nc.1,V.int nc.2])=H9 at hrr G2 h9c h9p h9w ⊢
      refine ⟨_,rfl,qcJ,fun m3 hm3=>?_⟩
      have sm:=qaf hm3 (HO.tup [V.ref r2,V.ref p])
      have hmm:upd H9 m3 (HO.tup [V.ref r2,V.ref p]) m3=_:=qab
      have G2:=G2.mono sm
      have h9c:=sm _ _ h9c
      have h9p:=sm _ _ h9p
      have h9w:=sm _ _ h9w
      have hrr:=sm _ _ hrr
      show ∃ _,_
      generalize upd H9 m3 (HO.tup [V.ref r2,V.ref p])=H10 at hmm hrr G2 h9c h9p h9w ⊢
      refine ⟨b,us,_,rfl,rfl,G2.hb,sz (by omega),?_⟩
      have R1:Rw H10 (.ref m3) (nc,(top,bot)):=⟨m3,r2,p,rfl,hmm,hrr,h9p⟩
      have tp:Tp H10 (upd H10 b (.lst (us++[.ref m3]))):=Tp.updL G2.hb
      have nw:w≠b:=fun q=>by
        rw [q,G2.hb] at h9w
        exact qi5 (R:=Rw H10) (fun _ _=>Rw.ref) G2.hx l8 (by injection h9w with h;injection h)
      have G3:=G2.addb R1
      have h9c:=tp _ _ h9c
      have h9w:upd H10 b (.lst (us++[.ref m3])) w=_:=(qai nw).trans h9w
      show qcP K _ _ _
      generalize upd H10 b (.lst (us++[.ref m3]))=H11 at G3 h9c h9w ⊢
      refine ⟨_,rfl,qa0 G3.hd,qaF (qaV ⟨_,rfl,qaF ⟨_,rfl,qcJ,fun q hq=>?_⟩⟩)⟩
      have sq:=qaf hq (HO.tup [V.int (-1),V.int 1])
      have hqq:upd H11 q (HO.tup [V.int (-1),V.int 1]) q=_:=qab
      have G3:=G3.mono sq
      have h9c:=sq _ _ h9c
      have h9w:=sq _ _ h9w
      show qct nmul K _ (upd H11 q (HO.tup [V.int (-1),V.int 1])) _ _
      generalize upd H11 q (HO.tup [V.int (-1),V.int 1])=H12 at hqq G3 h9c h9w ⊢
      obtain ⟨cn',vn'⟩:=cz.neg
      refine ⟨c,q,t,e,-1,1,rfl,h9c,hqq,cz.1.pos,by decide,b1.mono (by decide),b2.mono (by decide),(show Bd 1 (-1) by unfold Bd;decide).mono (by decide),(show Bd 1 1 by unfold Bd;decide).mono (by decide),fun r3 hr3=>?_⟩
      have en:nc=nmul (t,e) (-1,1):=qcx cn.1 cn'.1 (vn.trans vn'.symm)
      rw [← en]
      have sr:=qaf hr3 (HO.tup [V.int nc.1,V.int nc.2])
      have hrr:upd H12 r3 (HO.tup [V.int nc.1,V.int nc.2]) r3=_:=qab
      have G3:=G3.mono sr
      have h9w:=sr _ _ h9w
      show ∃ _,_
      generalize upd H12 r3 (HO.tup [V.int nc.1,V.int nc.2])=H13 at hrr G3 h9w ⊢
      refine ⟨_,rfl,qcJ,fun m4 hm4=>?_⟩
      have sm:=qaf hm4 (HO.tup [V.ref r3,V.ref w])
      have hmm:upd H13 m4 (HO.tup [V.ref r3,V.ref w]) m4=_:=qab
      have G3:=G3.mono sm
      have h9w:=sm _ _ h9w
      have hrr:=sm _ _ hrr
      show ∃ _,_
      generalize upd H13 m4 (HO.tup [V.ref r3,V.ref w])=H14 at hmm hrr G3 h9w ⊢
      refine ⟨d,ws,_,rfl,rfl,G3.hd,sz (by omega),?_⟩
      have W1:Wn H14 (.ref m4) (nc,es):=⟨m4,r3,w,rfl,hmm,hrr,h9w⟩
      refine ⟨_,_,_,_,_,_,_,_,rfl,nl,G3.addd W1 ⟨cn.cz,l8,e7⟩,?_,?_,qjA px2 ⟨cn,st,sb⟩,qjB wr2 v⟩
      · rw [List.length_append];show xs.length+1≤_;omega
      · rw [List.length_append];show ys.length+1≤_;omega
    · exact ⟨us,ws,xs,ys,_,_,_,_,rfl,nl,G2,by omega,by omega,px2,wr2⟩
  · rintro σ H' ⟨us,ws,xs,ys,o3,o4,o5,o6,rfl,_,G,lx,ly,px,wr⟩
    rw [List.length_map] at lx ly
    show qex K _ _ _
    refine qea (qaF ⟨_,rfl,_,rfl,qcJ,fun r hr=>?_⟩)
    have G:=G.mono (qaf hr (HO.tup [V.ref b,V.ref d]))
    exact k r b d us ws xs ys _ G.s qab G.hb G.hx G.hd G.hy (by omega) (by omega) px G.py wr
theorem qmq (l:List Nu):PySem.W.kqdOk 8 (.list (l.map qes))=true:=by
  show (l.map qes).all (PySem.W.kqdOk 7)=true
  rw [List.all_eq_true]
  intro x hx
  obtain ⟨p,_,rfl⟩:=List.mem_map.mp hx
  exact okN p 6
theorem qmd {H:Hp}:∀ (ns:List Int),RepA H (ns.map V.int) (ns.map PySem.W.Dat.int)
  | []=>.nil
  | n::ns=>.cons (.int n) (qmd ns)
theorem okI (l:List Int):PySem.W.kqdOk 8 (.list (l.map PySem.W.Dat.int))=true:=by
  show (l.map PySem.W.Dat.int).all (PySem.W.kqdOk 7)=true
  rw [List.all_eq_true]
  intro x hx
  obtain ⟨p,_,rfl⟩:=List.mem_map.mp hx
  rfl
theorem Wn.off {H:Hp} {u:V} {y:Nu×List Int} {b:Addr} {us zs:List V} (hb:H b=some (.lst us)) (l:us≠y.2.map V.int) (h:Wn H u y):Wn (upd H b (.lst zs)) u y:=by
  obtain ⟨p,q,w,rfl,h1,h2,h3⟩:=h
  have tp:Tp H (upd H b (.lst zs)):=Tp.updL hb
  have n:w≠b:=fun e=>by
    rw [e,hb] at h3
    exact l (by injection h3 with h3;injection h3)
  exact ⟨p,q,w,rfl,tp _ _ h1,tp _ _ h2,(qai n).trans h3⟩
noncomputable def pwI (w:Int):List Int:=prs.map fun p:Nat=>((vpI p w:Nat):Int)
theorem qe5 (w:Int):(pwI w).length=8:=by unfold pwI;rw [List.length_map];rfl
theorem Sm.vp {w:Int} (h:Sm w) {p:Nat} (hp:Pr p):vpI p w≤210:=by
  have w0:=h.1
  obtain ⟨x,ex,nx⟩:=qc4 hp w.natAbs w.natAbs (Nat.le_refl _) (by omega)
  refine Nat.le_trans ((Nat.le_log2 (by omega)).mpr ?_) h.bd
  have x0:0<x:=Nat.pos_of_ne_zero fun z=>nx (z ▸ Nat.dvd_zero _)
  have a:2 ^ vpI p w≤p ^ vpI p w:=Nat.pow_le_pow_left hp.two _
  have b:p ^ vpI p w≤p ^ vpI p w*x:=Nat.le_mul_of_pos_right _ x0
  have c:w.natAbs=p ^ vpI p w*x:=ex
  omega
theorem Sm.wz {w:Int} {q:Nu} {t:Nat} (h:Sm w) (c:Cz t q):Wz t (q,pwI w):=⟨c,qe5 w,fun e he=>by
  obtain ⟨p,pm,rfl⟩:=List.mem_map.mp he
  have:=h.vp (qgl p pm)
  omega⟩
noncomputable def zP (y:Pce):Nu×List Int:=(y.1,pwI y.2)
theorem qme (j:Nat) (hj:j<8) (ys:List Pce):WW j (ys.map zP)=WP (pj j) ys:=by
  induction ys with
  | nil=>rfl
  | cons y ys ih=>
    show val y.1*(((pwI y.2).getD j 0:Int):Rat)+WW j (ys.map zP)=val y.1*(vpI (pj j) y.2:Rat)+WP (pj j) ys
    have:(pwI y.2).getD j 0=((vpI (pj j) y.2:Nat):Int):=by
      have jl:j<prs.length:=hj
      unfold pwI pj
      rw [List.getD_eq_getElem?_getD,List.getElem?_map,List.getD_eq_getElem?_getD,List.getElem?_eq_getElem jl];rfl
    rw [ih,this];push_cast;rfl
theorem qd1 (h:qaO K vs H Q E):qeb K { nx:=fun _ H'=>Q .non H',rt:=Q } (L2.start ["_law_found", "_law_q", "_law_weights_here", "_law_rows_here", "_law_wholes", "_law_pair", "_law_powers_here"] vs) H:=by
  obtain ⟨r,a,b,w,a2,q,ws,ys,ts,ls,rfl,ha2,hr,ha,lq,hb,hA,hz,cop,sor,l8,hw,hn,ll,lo,vl,k⟩:=h
  refine qhU ⟨_,rfl,_,_,_,rfl,qeN hr,_,rfl,qbJ (fun c=>by cases c) fun _=>⟨_,rfl,r,_,rfl,hr,rfl,_,rfl,qbJ (fun c=>by cases c) fun _=>⟨_,rfl,r,0,_,_,rfl,rfl,hr,rfl,a,q.1,q.2,rfl,ha,lq,fun H1 s1=>⟨_,rfl,qbJ (fun c=>by cases c) fun _=>⟨_,rfl,r,0,_,_,rfl,rfl,s1 _ _ hr,rfl,_,rfl,qes q,qes q,true,qjt ⟨a,rfl,s1 _ _ ha⟩,qjt ⟨a2,rfl,s1 _ _ ha2⟩,okN q 7,okN q 7,⟨fun _=>rfl,fun _=>rfl⟩,_,rfl,qbJ (fun c=>by cases c) fun _=>?_⟩⟩⟩⟩⟩
  have h1r:=s1 _ _ hr
  have h1b:=s1 _ _ hb
  have h1w:=s1 _ _ hw
  have hA:=hA.mono fun _ _ h=>h.tp (tpS s1)
  have hn:=hn.tp (tpS s1)
  show qbZ K _ _ _
  clear hr ha hb hw
  refine qhU ⟨_,rfl,r,1,_,_,rfl,rfl,h1r,rfl,_,_,_,rfl,qeN h1b,_,rfl,qbJ (fun c=>by cases c) fun _=>?_⟩
  show qbY K _ _ _
  refine qbl ⟨qi0,fun e1 he1=>?_⟩
  show qbX K _ _ _
  refine qbl ⟨qi0,fun e2 he2=>?_⟩
  have s2:=qaf he1 (HO.lst [])
  have s3:=qaf he2 (HO.lst [])
  have he20:H1 e2=none:=by
    cases e:H1 e2 with
    | none=>rfl
    | some o=>have:=s2 _ _ e;rw [he2] at this;cases this
  have s23:=s2.trans s3
  have h11:=s3 _ _ (show upd H1 e1 (HO.lst []) e1=some (.lst []) from qab)
  have h22:upd (upd H1 e1 (HO.lst [])) e2 (HO.lst []) e2=some (.lst []):=qab
  have n12:e1≠e2:=qah qab he2
  show qbW K _ [some (.ref r),some (.ref a2),some (.ref w),some (.ref e1),some (.ref e2),none,none] _
  generalize upd (upd H1 e1 (HO.lst [])) e2 (HO.lst [])=H2 at s23 h11 h22 ⊢
  have lw:ws.length=ys.length:=by rw [hA.length,List.length_map]
  refine qic ⟨_,rfl,r,1,_,_,rfl,rfl,s23 _ _ h1r,rfl,b,rfl,⟨_,SqT.of (s23 _ _ h1b)⟩,ForT.by (xs:=ws) (fun i σ H'=>∃ (us:List V) (o5 o6:Option V),σ=[some (.ref r),some (.ref a2),some (.ref w),some (.ref e1),some (.ref e2),o5,o6]∧i≤ws.length∧Same H1 H'∧H' e1=some (.lst us)∧Al (Wn H') us ((ys.take i).map zP)∧H' e2=some (.lst (((ys.take i).map (·.2)).map V.int))) ⟨[],none,none,rfl,Nat.zero_le _,s23,h11,trivial,h22⟩ ?_ ?_ ?_⟩
  · rintro i σ H' _ ⟨us,o5,o6,rfl,_,s,_⟩
    exact s _ _ h1b
  · rintro i u σ H' hu ⟨us,o5,o6,rfl,_,s4,h41,hU,h42⟩
    have il:i<ys.length:=by have:=(List.getElem?_eq_some_iff.mp hu).1;omega
    obtain ⟨x,hx,p,c,d,rfl,hp,hc,hd⟩:=hA.get hu
    rw [List.getElem?_map,List.getElem?_eq_getElem il] at hx
    obtain rfl:=Option.some.inj hx
    have tk:ys.take (i+1)=ys.take i++[ys[i]]:=by rw [List.take_add_one,List.getElem?_eq_getElem il];rfl
    obtain ⟨cy,y0,y1,sy⟩:=hz ys[i] (List.getElem_mem il)
    generalize ys[i]=y at hc hd tk cy y0 y1 sy ⊢
    have hp:=s4 _ _ hp
    have hc:Nm H' c y.1.1 y.1.2:=s4 _ _ hc
    have hd:Nm H' d y.2 1:=s4 _ _ hd
    refine qkh ?_
    show qbt K _ [some (.ref r),some (.ref a2),some (.ref w),some (.ref e1),some (.ref e2),some (.ref p),o6] _
    refine qhU ⟨_,rfl,_,_,_,rfl,qeN hp,_,rfl,qbJ (fun c=>by cases c) fun _=>⟨_,rfl,p,_,rfl,hp,rfl,_,rfl,qbJ (fun c=>by cases c) fun _=>⟨_,rfl,p,0,_,_,rfl,rfl,hp,rfl,c,y.1.1,y.1.2,rfl,hc,cy.1,fun H5 s5=>⟨_,rfl,qbJ (fun c=>by cases c) fun _=>?_⟩⟩⟩⟩
    refine qir ⟨_,rfl,p,0,_,_,rfl,rfl,s5 _ _ hp,rfl,qcJ,fun z hz=>?_⟩
    have s6:=qaf hz (HO.tup [V.int 0,V.int 1])
    refine ⟨c,z,_,_,rfl,rfl,(s5.trans s6) _ _ hc,qab,rfl,rfl,_,rfl,qbJ (fun e=>?_) fun _=>?_⟩
    · have e:=of_decide_eq_true e
      injection e with e _
      injection e with e
      exact absurd e y0
    have s46:=s5.trans s6
    show qbs K _ _ (upd H5 z (HO.tup [V.int 0,V.int 1]))
    generalize upd H5 z (HO.tup [V.int 0,V.int 1])=H6 at s46 ⊢
    have hp:=s46 _ _ hp
    have hc:Nm H6 c y.1.1 y.1.2:=s46 _ _ hc
    have hd:Nm H6 d y.2 1:=s46 _ _ hd
    refine qhU ⟨_,rfl,p,1,_,_,rfl,rfl,hp,rfl,d,y.2,1,rfl,hd,⟨by decide,Int.gcd_one_right ..⟩,fun H7 s7=>⟨_,rfl,qbJ (fun c=>by cases c) fun _=>⟨_,rfl,p,1,_,_,rfl,rfl,s7 _ _ hp,rfl,d,1,_,_,rfl,rfl,s7 _ _ hd,rfl,rfl,_,rfl,qbJ (fun c=>by cases c) fun _=>⟨_,rfl,p,1,_,_,rfl,rfl,s7 _ _ hp,rfl,d,0,_,_,rfl,rfl,s7 _ _ hd,rfl,_,_,rfl,rfl,_,rfl,qbJ (fun c=>?_) fun _=>?_⟩⟩⟩⟩
    · have:y.2<2:=of_decide_eq_true c
      omega
    show qbr K _ _ _
    have hp:=s7 _ _ hp
    have hd:Nm H7 d y.2 1:=s7 _ _ hd
    refine qkg ⟨_,rfl,p,1,_,_,rfl,rfl,hp,rfl,d,0,_,_,rfl,rfl,hd,rfl,y.2,rfl,sy,fun pw H8 s8 h8=>?_⟩
    have s48:=s46.trans (s7.trans s8)
    have hp:=s8 _ _ hp
    have hd:Nm H8 d y.2 1:=s8 _ _ hd
    have hc:Nm H8 c y.1.1 y.1.2:=(s7.trans s8) _ _ hc
    have s18:=s4.trans s48
    have h81:=s48 _ _ h41
    have h82:=s48 _ _ h42
    have hU:=hU.mono fun _ _ h=>h.same s48
    show qbq K _ [some (.ref r),some (.ref a2),some (.ref w),some (.ref e1),some (.ref e2),some (.ref p),some (.ref pw)] _
    refine qhU ⟨_,rfl,rfl,_,rfl,qbJ (fun c=>by cases c) fun _=>?_⟩
    show qbp K _ _ _
    refine ⟨_,rfl,qa0 h81,qaF ⟨_,rfl,p,0,_,_,rfl,rfl,hp,rfl,_,rfl,qcJ,fun m hm=>?_⟩⟩
    have sm:=qaf hm (HO.tup [V.ref c,V.ref pw])
    have hmm:upd H8 m (HO.tup [V.ref c,V.ref pw]) m=_:=qab
    have s19:=s18.trans sm
    have h91:=sm _ _ h81
    have h92:=sm _ _ h82
    have hp:=sm _ _ hp
    have hd:Nm _ d y.2 1:=sm _ _ hd
    have hc:Nm _ c y.1.1 y.1.2:=sm _ _ hc
    have h9:=sm _ _ h8
    have hU:=hU.mono fun _ _ h=>h.same sm
    have lU:=hU.length
    rw [List.length_map,List.length_take] at lU
    show ∃ _,_
    generalize upd H8 m (HO.tup [V.ref c,V.ref pw])=H9 at hmm s19 h91 h92 hp hd hc h9 hU ⊢
    have W1:Wn H9 (.ref m) (zP y):=⟨m,c,pw,rfl,hmm,hc,h9⟩
    have al8:∀ x∈(ys.take i).map zP,x.2.length=8:=fun x hx=>by
      obtain ⟨v,_,rfl⟩:=List.mem_map.mp hx
      exact qe5 _
    refine ⟨e1,us,_,rfl,rfl,h91,sz (by omega),?_⟩
    have tp:Tp H9 (upd H9 e1 (.lst (us++[.ref m]))):=Tp.updL h91
    have hU2:Al (Wn (upd H9 e1 (.lst (us++[.ref m])))) (us++[.ref m]) ((ys.take i).map zP++[zP y]):=((hU.with al8).mono fun _ _ h=>h.1.keep (R:=Wn H9) (fun _ _=>Wn.ref) hU h91 h.2).snoc (W1.keep (R:=Wn H9) (fun _ _=>Wn.ref) hU h91 (qe5 _))
    have h102:upd H9 e1 (.lst (us++[.ref m])) e2=_:=(qai n12.symm).trans h92
    have s10:Same H1 (upd H9 e1 (.lst (us++[.ref m]))):=fun c o hc=>Kp.upd c o (qah hc he1) (s19 c o hc)
    have h101:upd H9 e1 (.lst (us++[.ref m])) e1=_:=qab
    have hp:=tp _ _ hp
    have hd:Nm _ d y.2 1:=tp _ _ hd
    show qbo K _ _ _
    generalize upd H9 e1 (.lst (us++[.ref m]))=H10 at hU2 h102 s10 h101 hp hd ⊢
    refine ⟨_,rfl,qa0 h102,_,rfl,p,1,_,_,rfl,rfl,hp,rfl,d,0,_,_,rfl,rfl,hd,rfl,e2,_,_,rfl,rfl,h102,sz (by rw [List.length_map,List.length_map,List.length_take];omega),?_⟩
    have al9:∀ x∈(ys.take i).map zP++[zP y],x.2.length=8:=fun x hx=>by
      rcases List.mem_append.mp hx with h | h
      · exact al8 x h
      · rw [List.mem_singleton.mp h];exact qe5 _
    refine ⟨us++[.ref m],_,_,rfl,by omega,fun c o hc=>Kp.upd c o (qah hc he20) (s10 c o hc),(qai n12).trans h101,?_,?_⟩
    · rw [tk,List.map_append]
      refine (hU2.with al9).mono fun _ x h=>h.1.off h102 fun e=>?_
      have:=congrArg List.length e
      rw [List.length_map,List.length_map,List.length_map,List.length_take,h.2] at this
      omega
    · rw [qab,tk,List.map_append,List.map_append];rfl
  · rintro σ H' ⟨us,o5,o6,rfl,_,s4,h41,hU,h42⟩
    rw [lw,List.take_length] at hU h42
    have lns:(ys.map (·.2)).length≤8:=by rw [List.length_map];exact l8
    have so:(ys.map (·.2)).Pairwise (·≤·):=List.pairwise_map.mpr sor
    have hcp:(ys.map (·.2)).Pairwise (fun x y=>Int.gcd x y=1):=List.pairwise_map.mpr cop
    have hps:∀ n∈ys.map (·.2),0<n:=fun n hn=>by
      obtain ⟨y,ym,rfl⟩:=List.mem_map.mp hn
      exact (hz y ym).2.2.2.1
    generalize ys.map (·.2)=ns at h42 lns so hcp hps
    show qbV K _ _ _
    refine qhU ⟨_,rfl,_,rfl,e2,ns,rfl,h42,by omega,fun z ms hz0 pm so2=>?_⟩
    have ems:ms=ns:=List.Perm.eq_of_pairwise (fun _ _ _ _ h1 h2=>Int.le_antisymm h1 h2) so2 so pm
    subst ems
    have sz':=qaf hz0 (HO.lst (ms.map V.int))
    have hzz:upd H' z (HO.lst (ms.map V.int)) z=_:=qab
    show neD _ _ _ _
    generalize upd H' z (HO.lst (ms.map V.int))=H5 at sz' hzz ⊢
    refine ⟨_,_,true,.lst (sz' _ _ h42) (qmd ms),.lst hzz (qmd ms),okI ms,okI ms,⟨fun _=>rfl,fun _=>rfl⟩,_,rfl,qbJ (fun c=>by cases c) fun _=>?_⟩
    refine qiU ⟨_,rfl,e2,ms,rfl,sz' _ _ h42,lns,hps,hcp,fun H6 s6=>⟨_,rfl,qbJ (fun c=>by cases c) fun _=>?_⟩⟩
    have s46:=sz'.trans s6
    have s16:=s4.trans s46
    show qbU K _ _ _
    refine qea (qir (qaV ⟨_,rfl,e1,us,ys.map zP,rfl,s46 _ _ h41,hU.mono fun _ _ h=>h.same s46,fun y hy=>?_,by rw [List.length_map];omega,fun g ts' ls' H7 s7 hg hn' l' lo' _ vl'=>?_⟩))
    · obtain ⟨x,xm,rfl⟩:=List.mem_map.mp hy
      obtain ⟨cx,_,_,sx⟩:=hz x xm
      exact sx.wz cx
    have s17:=s16.trans s7
    have el:ls'=ls:=by
      refine List.ext_getElem? fun j=>?_
      rcases Nat.lt_or_ge j 8 with hj | hj
      · have j1:j<ls'.length:=by omega
        have j2:j<ls.length:=by omega
        rw [List.getElem?_eq_getElem j1,List.getElem?_eq_getElem j2]
        refine congrArg some (qcx (lo' _ (List.getElem_mem j1)) (lo _ (List.getElem_mem j2)) ?_)
        rw [vl' j _ (List.getElem?_eq_getElem j1),vl j _ (List.getElem?_eq_getElem j2),qme j hj]
      · rw [List.getElem?_eq_none (by omega),List.getElem?_eq_none (by omega)]
    subst el
    exact ⟨_,rfl,_,_,true,qmo hg hn',qmo (s17 _ _ h1w) (hn.tp (tpS s17)),qmq _,qmq _,⟨fun _=>rfl,fun _=>rfl⟩,k _ (s1.trans s17)⟩
theorem qks {p:Nat} {zs:List Pce} (h:∀ z∈zs,vpI p z.2=0):WP p zs=0:=by
  induction zs with
  | nil=>rfl
  | cons z zs ih=>
    show val z.1*(vpI p z.2:Rat)+WP p zs=0
    rw [ih fun y hy=>h y (List.mem_cons_of_mem _ hy),h z (List.mem_cons_self ..)]
    push_cast;grind
theorem qjC {p:Nat} {w:Int} (w0:0<w) (d:p∣w.natAbs):1≤vpI p w:=by
  unfold vpI
  obtain ⟨n,hn⟩:∃ n,w.natAbs=n+1:=⟨w.natAbs - 1,by omega⟩
  rw [hn] at d ⊢
  show 1≤(if p∣n+1 then _ else 0)
  rw [if_pos d];omega
theorem qig {p:Nat} (hp:Pr p) {x y:Int} (d:p∣x.natAbs) (c:Int.gcd x y=1):vpI p y=0:=qe3 fun d2=>by
  have:p∣Int.gcd x y:=Nat.dvd_gcd d d2
  rw [c] at this
  have:=Nat.le_of_dvd (by decide) this
  have:=hp.two
  omega
theorem qgn {p:Nat} (hp:Pr p) {ys:List Pce} (cop:ys.Pairwise Cp) {y:Pce} (hy:y∈ys) (d:p∣y.2.natAbs):WP p ys=val y.1*(vpI p y.2:Rat):=by
  induction ys with
  | nil=>cases hy
  | cons z zs ih=>
    obtain ⟨c1,c2⟩:=List.pairwise_cons.mp cop
    show val z.1*(vpI p z.2:Rat)+WP p zs=_
    rcases List.mem_cons.mp hy with rfl | hy
    · rw [qks fun x hx=>qig hp d (c1 x hx)];grind
    · have c:Int.gcd y.2 z.2=1:=by rw [Int.gcd_comm];exact c1 y hy
      rw [ih c2 hy,qig hp d c];push_cast;grind
theorem qi6 {p:Nat} (hp:Pr p) {t:Nat} {xs:List (Nu×Nu)} (h:∀ x∈xs,Rz t x):∃ k:Int,WR p xs=(k:Rat) / 3600∧k.natAbs≤xs.length*(210*2 ^ t):=by
  induction xs with
  | nil=>exact ⟨0,by show (0:Rat)=_;push_cast;grind,Nat.zero_le _⟩
  | cons x xs ih=>
    obtain ⟨k,e,b⟩:=ih fun y hy=>h y (List.mem_cons_of_mem _ hy)
    obtain ⟨⟨_,m,em,bm⟩,s1,s2⟩:=h x (List.mem_cons_self ..)
    have v1:=s1.vp hp
    have v2:=s2.vp hp
    refine ⟨m*((vpI p x.2.1:Int) - (vpI p x.2.2:Int))+k,?_,?_⟩
    · show val x.1*((vpI p x.2.1:Rat) - (vpI p x.2.2:Rat))+WR p xs=_
      rw [em,e];push_cast;grind
    · have a1:=Int.natAbs_add_le (m*((vpI p x.2.1:Int) - (vpI p x.2.2:Int))) k
      have a2:(m*((vpI p x.2.1:Int) - (vpI p x.2.2:Int))).natAbs≤2 ^ t*210:=by
        rw [Int.natAbs_mul]
        exact Nat.mul_le_mul (Nat.le_of_lt bm) (by omega)
      have a3:(xs.length+1)*(210*2 ^ t)=xs.length*(210*2 ^ t)+2 ^ t*210:=by grind
      show _≤(xs.length+1)*(210*2 ^ t)
      omega
theorem sharp {s t:Nat} {ys:List Pce} {xs:List (Nu×Nu)} (h:Sd s ys) (hx:∀ x∈xs,Rz t x) (l:xs.length≤24) (wt:∀ p,Pr p→WP p ys=WR p xs):Sd (t+13) ys:=by
  refine ⟨fun y hy=>?_,h.cp,h.so,h.l8⟩
  obtain ⟨⟨lo,k,ek,_⟩,y0,y1,sy⟩:=h.sz y hy
  refine ⟨⟨lo,k,ek,?_⟩,y0,y1,sy⟩
  obtain ⟨j,hj,d⟩:=sy.prime y1
  have hp:Pr (pj j):=qcj hj
  obtain ⟨m,em,bm⟩:=qi6 hp hx
  have v1:1≤vpI (pj j) y.2:=qjC (by omega) d
  have e:=(qgn hp h.cp hy d).symm.trans ((wt _ hp).trans em)
  have ki:k*((vpI (pj j) y.2:Nat):Int)=m:=by
    rw [ek] at e
    have:(k:Rat)*((vpI (pj j) y.2:Nat):Rat)=(m:Rat):=by
      have e:(k:Rat) / 3600*((vpI (pj j) y.2:Nat):Rat)=(m:Rat) / 3600:=e
      grind
    exact_mod_cast this
  have b1:k.natAbs≤m.natAbs:=by
    rw [← ki,Int.natAbs_mul,Int.natAbs_natCast]
    exact Nat.le_mul_of_pos_right _ (by omega)
  have b2:xs.length*(210*2 ^ t)≤24*(210*2 ^ t):=Nat.mul_le_mul_right _ l
  have b3:2 ^ (t+13)=8192*2 ^ t:=by rw [Nat.pow_add];omega
  have b4:0<2 ^ t:=Nat.pow_pos (by decide)
  show k.natAbs<2 ^ (t+13)
  omega
theorem qi7 {p:Nat} {e:Nu} (ce:C6 e) {xs:List (Nu×Nu)} (hx:∀ x∈xs,C6 x.1):WR p (xs.map fun x=>(nmul x.1 e,x.2))=val e*WR p xs:=by
  induction xs with
  | nil=>show (0:Rat)=_*0;grind
  | cons x xs ih=>
    have i2:=ih fun y hy=>hx y (List.mem_cons_of_mem _ hy)
    show val (nmul x.1 e)*((vpI p x.2.1:Rat) - (vpI p x.2.2:Rat))+WR p (xs.map fun x=>(nmul x.1 e,x.2))=val e*(val x.1*((vpI p x.2.1:Rat) - (vpI p x.2.2:Rat))+WR p xs)
    rw [i2,((hx x (List.mem_cons_self ..)).mul ce).2]
    generalize val e=a,val x.1=b,(vpI p x.2.1:Rat) - (vpI p x.2.2:Rat)=c,WR p xs=d
    grind
theorem LN.kp {H H':Hp} {o:Addr} {q:Nu} {xs:List (Nu×Nu)} (t:Tp H H') (h:LN H o q xs):LN H' o q xs:=by
  obtain ⟨qa,ta,us,h1,h2,h3,h4⟩:=h
  exact ⟨qa,ta,us,t _ _ h1,t _ _ h2,t _ _ h3,h4.mono fun _ _ h=>h.tp t⟩
theorem Tab.tp {H H':Hp} (h:Tab H) (k:Kp qgV H H'):Tp H H':=fun b xs e=>k b _ (TabOk.ne h (.inl e)) e
theorem Cz.bd' {q:Nu} (h:Cz 60 q):Bd 400 q.1∧Bd 400 q.2:=⟨h.bd.1.mono (by decide),h.bd.2.mono (by decide)⟩
theorem qih (h:qca K vs H Q E):qiV K { nx:=fun _ H'=>Q .non H',rt:=Q } (L2.start ["one", "other"] vs) H:=by
  obtain ⟨o,p,q,r,xs,zs,rfl,⟨qa,ta,us,ho,hqa,hta,hA⟩,⟨ra,tb,ws,hp,hra,htb,hB⟩,cq,cr,hx,hz,l24,hT,k⟩:=h
  have lu:=hA.length
  have lw:=hB.length
  obtain ⟨q1,q2⟩:=cq.bd'
  obtain ⟨r1,r2⟩:=cr.bd'
  refine qea (qaV (qaV ⟨_,rfl,o,0,_,_,rfl,rfl,ho,rfl,_,rfl,p,0,_,_,rfl,rfl,hp,rfl,qa,ra,q.1,q.2,r.1,r.2,rfl,hqa,hra,cq.1.pos,cr.1.pos,q1.mono (by decide),q2.mono (by decide),r1.mono (by decide),r2.mono (by decide),fun s hs=>?_⟩))
  have s1:=qaf hs (HO.tup [V.int (nadd (q.1,q.2) (r.1,r.2)).1,V.int (nadd (q.1,q.2) (r.1,r.2)).2])
  have hss:upd H s (HO.tup [V.int (nadd (q.1,q.2) (r.1,r.2)).1,V.int (nadd (q.1,q.2) (r.1,r.2)).2]) s=_:=qab
  show tOp qjR _ _ _ _ _
  generalize upd H s (HO.tup [V.int (nadd (q.1,q.2) (r.1,r.2)).1,V.int (nadd (q.1,q.2) (r.1,r.2)).2])=H1 at s1 hss ⊢
  refine qir (qhT ⟨_,rfl,o,1,_,_,rfl,rfl,s1 _ _ ho,rfl,ta,us,rfl,s1 _ _ hta,fun l1 hl1=>?_⟩)
  have s2:=qaf hl1 (HO.lst us)
  have h11:upd H1 l1 (HO.lst us) l1=_:=qab
  have s12:=s1.trans s2
  show tCB qfj _ _ _ _
  generalize upd H1 l1 (HO.lst us)=H2 at s2 h11 s12 ⊢
  refine qhT ⟨_,rfl,p,1,_,_,rfl,rfl,s12 _ _ hp,rfl,tb,ws,rfl,s12 _ _ htb,fun l2 hl2=>?_⟩
  have s3:=qaf hl2 (HO.lst ws)
  have h22:upd H2 l2 (HO.lst ws) l2=_:=qab
  have s13:=s12.trans s3
  show qjR _ _ _ _
  generalize upd H2 l2 (HO.lst ws)=H3 at s3 h22 s13 ⊢
  refine ⟨l1,l2,us,ws,rfl,rfl,s3 _ _ h11,h22,sz (by omega),fun l3 hl3=>?_⟩
  have s4:=qaf hl3 (HO.lst (us++ws))
  have h33:upd H3 l3 (HO.lst (us++ws)) l3=_:=qab
  have s14:=s13.trans s4
  have hss:=(s2.trans (s3.trans s4)) _ _ hss
  show qav K _ _ _ _
  generalize upd H3 l3 (HO.lst (us++ws))=H4 at s4 h33 s14 hss ⊢
  have hT4:Tab H4:=TabOk.same hT s14
  refine ⟨.ref s,l3,us++ws,xs++zs,rfl,h33,(hA.append hB).mono fun _ _ h=>h.tp (tpS s14),fun x h=>?_,by rw [List.length_append];exact l24,hT4,fun rr bb ws' ys H' kp tb' h1 h2 h3 h4 h5 h6 h7 h8=>?_⟩
  · rcases List.mem_append.mp h with h | h
    · exact hx x h
    · exact hz x h
  · exact k rr ys H' (fun c o n e=>kp c o n (s14 c o e)) tb' ⟨s,bb,ws',h1,hT4.tp kp _ _ hss,h2,h3⟩ ⟨h4,h5,h6,h7⟩ fun p hp=>by rw [h8 p hp,qfv]
theorem qfS (h:qa1 K vs H Q E):qgW K { nx:=fun _ H'=>Q .non H',rt:=Q } (L2.start ["one", "c"] vs) H:=by
  obtain ⟨o,c,q,e,xs,rfl,⟨qa,ta,us,ho,hqa,hta,hA⟩,hc,cq,ce,hx,l24,hT,k⟩:=h
  have lu:=hA.length
  obtain ⟨q1,q2⟩:=cq.bd
  obtain ⟨e1,e2⟩:=ce.bd
  refine qea (qaV (qaV ⟨_,rfl,o,0,_,_,rfl,rfl,ho,rfl,_,rfl,qa,c,q.1,q.2,e.1,e.2,rfl,hqa,hc,cq.1.pos,ce.1.pos,q1.mono (by decide),q2.mono (by decide),e1.mono (by decide),e2.mono (by decide),fun s hs=>?_⟩))
  have s1:=qaf hs (HO.tup [V.int (nmul (q.1,q.2) (e.1,e.2)).1,V.int (nmul (q.1,q.2) (e.1,e.2)).2])
  have hss:upd H s (HO.tup [V.int (nmul (q.1,q.2) (e.1,e.2)).1,V.int (nmul (q.1,q.2) (e.1,e.2)).2]) s=_:=qab
  show qbF _ _ _ _ _ _ _
  generalize upd H s (HO.tup [V.int (nmul (q.1,q.2) (e.1,e.2)).1,V.int (nmul (q.1,q.2) (e.1,e.2)).2])=H1 at s1 hss ⊢
  refine qki ⟨_,rfl,o,1,_,_,rfl,rfl,s1 _ _ ho,rfl,ta,rfl,⟨_,SqT.of (s1 _ _ hta)⟩,CompJ.tup (xs:=us) (fun i ys H'=>i≤us.length∧Same H1 H'∧ys.length=i∧Al (Rw H') ys ((xs.take i).map fun x=>(nmul x.1 e,x.2))) ⟨Nat.zero_le _,Same.refl _,rfl,by rw [List.take_zero];trivial⟩ ?_ ?_ ?_⟩
  · rintro i ys H' ⟨hi,s2,yl,_⟩
    exact ⟨hi,sz (by omega),s2 _ _ (s1 _ _ hta)⟩
  · rintro i u ys H' hu ⟨hi,s2,yl,al⟩
    obtain ⟨x,hx',b,d,f,rfl,h1,h2,h3⟩:=hA.get hu
    have il:=(List.getElem?_eq_some_iff.mp hu).1
    have xm:x∈xs:=by obtain ⟨z,e⟩:=List.getElem?_eq_some_iff.mp hx';exact e ▸ List.getElem_mem z
    have cx:=(hx x xm).1
    obtain ⟨b1,b2⟩:=cx.bd
    have tk:xs.take (i+1)=xs.take i++[x]:=by rw [List.take_add_one,hx'];rfl
    have s02:=s1.trans s2
    refine ⟨b,_,rfl,s02 _ _ h1,rfl,_,_,rfl,_,_,rfl,rfl,?_⟩
    show qbu _ [some (.ref d),some (.ref f),some (.ref c)] _ _
    refine qaF (qaV ⟨_,rfl,_,rfl,d,c,x.1.1,x.1.2,e.1,e.2,rfl,s02 _ _ h2,s02 _ _ hc,cx.1.pos,ce.1.pos,b1.mono (by decide),b2.mono (by decide),e1.mono (by decide),e2.mono (by decide),fun r hr=>?_⟩)
    have sr:=qaf hr (HO.tup [V.int (nmul (x.1.1,x.1.2) (e.1,e.2)).1,V.int (nmul (x.1.1,x.1.2) (e.1,e.2)).2])
    have hrr:upd H' r (HO.tup [V.int (nmul (x.1.1,x.1.2) (e.1,e.2)).1,V.int (nmul (x.1.1,x.1.2) (e.1,e.2)).2]) r=_:=qab
    show ∃ _,_
    generalize upd H' r (HO.tup [V.int (nmul (x.1.1,x.1.2) (e.1,e.2)).1,V.int (nmul (x.1.1,x.1.2) (e.1,e.2)).2])=H4 at sr hrr ⊢
    refine ⟨_,rfl,qcJ,fun p hp=>?_⟩
    have sq:=qaf hp (HO.tup [V.ref r,V.ref f])
    have sa:=sr.trans sq
    refine ⟨il,s2.trans sa,by rw [List.length_append,yl];rfl,?_⟩
    rw [tk,List.map_append]
    exact (al.mono fun _ _ h=>h.tp (tpS sa)).snoc ⟨p,r,f,rfl,qab,sq _ _ hrr,(s02.trans sa) _ _ h3⟩
  rintro ys2 H3 ⟨_,s2,yl2,al2⟩ p2 hp2
  rw [lu,List.take_length] at al2
  have sp2:=qaf hp2 (HO.lst ys2)
  have h22:upd H3 p2 (HO.lst ys2) p2=some (.lst ys2):=qab
  have al2:=al2.mono fun _ _ h=>h.tp (tpS sp2)
  have s14:=s1.trans (s2.trans sp2)
  have hss:=(s2.trans sp2) _ _ hss
  show qav K _ _ _ _
  generalize upd H3 p2 (HO.lst ys2)=H4 at sp2 h22 s14 al2 hss ⊢
  have hT4:Tab H4:=TabOk.same hT s14
  have hz:∀ x∈xs.map fun x=>(nmul x.1 e,x.2),Rz 18 x:=fun x h=>by
    obtain ⟨z,hz,rfl⟩:=List.mem_map.mp h
    exact ⟨((hx z hz).1.mul ce).1,(hx z hz).2⟩
  have lz:(xs.map fun x=>(nmul x.1 e,x.2)).length≤24:=by rw [List.length_map];exact l24
  have wz:=fun p=>qi7 (p:=p) ce fun x h=>(hx x h).1
  refine ⟨.ref s,p2,ys2,_,rfl,h22,al2,fun x h=>⟨(hz x h).1.mono (by decide),(hz x h).2⟩,lz,hT4,fun rr bb ws' ys H' kp tb' h1 h2 h3 h4 h5 h6 h7 h8=>?_⟩
  have sd:=sharp (s:=200000) ⟨h4,h5,h6,h7⟩ hz lz h8
  exact k rr ys H' (fun c o n e=>kp c o n (s14 c o e)) tb' ⟨s,bb,ws',h1,hT4.tp kp _ _ hss,h2,h3⟩ ⟨fun y hy=>⟨(sd.sz y hy).1.mono (by decide),(sd.sz y hy).2⟩,h5,h6,h7⟩ fun p hp=>by rw [h8 p hp,wz p]
theorem qi8 {q r:Nu} (h:qes q=qes r):q=r:=by
  unfold qes at h
  injection h with h
  injection h with h1 h2
  injection h2 with h2 _
  injection h1 with h1
  injection h2 with h2
  exact Prod.ext h1 h2
theorem qi9 (q r:Nu):decide (q=r)=true↔qes q=qes r:=⟨fun h=>by rw [of_decide_eq_true h],fun h=>decide_eq_true (qi8 h)⟩
theorem Rs.rz {x:Nu×Nu} {t:Nat} (h:Rs x) (ht:15≤t):Rz t x:=⟨h.1.cz.mono ht,h.2⟩
theorem qd2 (h:qaE K vs H Q E):qec K { nx:=fun _ H'=>Q .non H',rt:=Q } (L2.start ["_law_cell", "_law_cells", "_law_rows_here", "_law_wanted", "_law_pairs"] vs) H:=by
  obtain ⟨cell,a,ns,rfl,ha,l12,k⟩:=h
  refine qgh (qiU ⟨_,rfl,a,ns,rfl,ha,l12,fun r b d us ws xs ys H2 s2 hr hb hx hd hy lx ly px py wr=>?_⟩)
  refine ⟨r,_,rfl,hr,rfl,_,_,rfl,_,_,rfl,rfl,?_⟩
  show qb1 K _ [some (.int cell),some (.ref a),some (.ref b),some (.ref d),none] _
  have lu:=hx.length
  refine qbl (qgk ⟨_,rfl,b,rfl,⟨_,SqL.of hb⟩,CompF.lst (xs:=us) (fun i vs H'=>i≤us.length∧Same H2 H'∧∃ zs:List (Nu×Nu),Al (Rw H') vs zs∧zs.length≤i∧(∀ z∈zs,z∈xs)∧∀ p,WR p zs=WR p (xs.take i)) ⟨Nat.zero_le _,Same.refl _,[],trivial,Nat.le_refl _,(fun _ h=>nomatch h),fun p=>by rw [List.take_zero]⟩ ?_ ?_ ?_⟩)
  · rintro i vs H' ⟨hi,s3,zs,al,zl,_⟩
    exact ⟨hi,sz (by have:=al.length;omega),SqL.of (s3 _ _ hb)⟩
  · rintro i u vs H' hu ⟨hi,s3,zs,al,zl,zm,zw⟩
    obtain ⟨x,hx',m,c,e,rfl,h1,h2,h3⟩:=hx.get hu
    have il:=(List.getElem?_eq_some_iff.mp hu).1
    have xm:x∈xs:=by obtain ⟨z,e⟩:=List.getElem?_eq_some_iff.mp hx';exact e ▸ List.getElem_mem z
    have tk:xs.take (i+1)=xs.take i++[x]:=by rw [List.take_add_one,hx'];rfl
    refine qkh ?_
    show qaU _ [some (.ref m)] _ _
    refine qlq (qir ⟨_,rfl,m,0,_,_,rfl,rfl,s3 _ _ h1,rfl,qcJ,fun p hp=>?_⟩)
    have sp:=qaf hp (HO.tup [V.int 0,V.int 1])
    have hpp:upd H' p (HO.tup [V.int 0,V.int 1]) p=_:=qab
    have s4:=s3.trans sp
    have al4:=al.mono fun _ _ h=>h.tp (tpS sp)
    show neD _ _ _ _
    generalize upd H' p (HO.tup [V.int 0,V.int 1])=H4 at sp hpp s4 al4 ⊢
    have h2:Nm H4 c x.1.1 x.1.2:=s4 _ _ h2
    refine ⟨qes x.1,qes (0,1),decide (x.1=(0,1)),qjt ⟨c,rfl,h2⟩,qjt ⟨p,rfl,hpp⟩,okN _ 7,okN _ 7,qi9 _ _,_,rfl,qbJ (fun _=>?_) (fun z=>?_)⟩
    · refine ⟨_,rfl,il,s4,zs++[x],al4.snoc ⟨m,c,e,rfl,s4 _ _ h1,h2,s4 _ _ h3⟩,by rw [List.length_append];exact Nat.succ_le_succ zl,fun z hz=>?_,fun p=>?_⟩
      · rcases List.mem_append.mp hz with h | h
        · exact zm z h
        · rw [List.mem_singleton.mp h];exact xm
      · rw [tk,qfv,qfv,zw p]
    · refine ⟨il,s4,zs,al4,Nat.le_succ_of_le zl,zm,fun p=>?_⟩
      have z:x.1=(0,1):=by
        cases q:decide (x.1=(0,1)) with
        | true=>exact of_decide_eq_true q
        | false=>rw [q] at z;exact absurd rfl z
      rw [tk,qfv,zw p]
      show WR p (xs.take i)=WR p (xs.take i)+(val x.1*((vpI p x.2.1:Rat) - (vpI p x.2.2:Rat))+0)
      have:val x.1=0:=by rw [z];show ((0:Int):Rat) / ((1:Int):Rat)=0;push_cast;grind
      rw [this];grind
  rintro vs H3 ⟨_,s3,zs,al,zl,zm,zw⟩ l hl
  have zw:∀ p,WR p zs=WR p xs:=fun p=>by have:=zw p;rw [lu,List.take_length] at this;exact this
  have sl:=qaf hl (HO.lst vs)
  have hll:upd H3 l (HO.lst vs) l=_:=qab
  have al:=al.mono fun _ _ h=>h.tp (tpS sl)
  have s24:=s3.trans sl
  show qb0 K _ [some (.int cell),some (.ref a),some (.ref b),some (.ref d),some (.ref l)] _
  generalize upd H3 l (HO.lst vs)=H4 at sl hll al s24 ⊢
  refine qea (qaF (qaF (qaV ⟨_,rfl,cell,3,rfl,by decide,by decide,fun qa t e hqa c6=>?_⟩)))
  have sq:=qaf hqa (HO.tup [V.int t,V.int e])
  have hqq:upd H4 qa (HO.tup [V.int t,V.int e]) qa=_:=qab
  have s25:=s24.trans sq
  have al:=al.mono fun _ _ h=>h.tp (tpS sq)
  show tCB qhF _ _ _ _
  generalize upd H4 qa (HO.tup [V.int t,V.int e])=H5 at sq hqq al s25 ⊢
  refine qhT ⟨_,rfl,l,vs,rfl,sq _ _ hll,fun ta hta=>⟨qcJ,fun o ho=>?_⟩⟩
  have st:=qaf hta (HO.tup vs)
  have so:=qaf ho (HO.tup [V.ref qa,V.ref ta])
  have hoo:upd (upd H5 ta (HO.tup vs)) o (HO.tup [V.ref qa,V.ref ta]) o=_:=qab
  have htt:=so _ _ (show upd H5 ta (HO.tup vs) ta=some (.tup vs) from qab)
  have sto:=st.trans so
  have s27:=s25.trans sto
  have al:=al.mono fun _ _ h=>h.tp (tpS sto)
  have hqq:=sto _ _ hqq
  show qap _ _ _ _ _ _ _
  generalize upd (upd H5 ta (HO.tup vs)) o (HO.tup [V.ref qa,V.ref ta])=H7 at hoo htt s27 al hqq ⊢
  refine qaV ⟨_,rfl,d,ws,ys,rfl,s27 _ _ hd,hy.mono fun _ _ h=>h.same s27,fun y hy=>⟨(py y hy).1.mono (by decide),(py y hy).2⟩,by omega,fun f ts ls H8 s8 hf hn l8 lo cz vl=>⟨qcJ,fun r2 hr2=>?_⟩⟩
  have s9:=qaf hr2 (HO.tup [V.ref o,V.ref f])
  have s89:=s8.trans s9
  have lnz:LN _ o (t,e) zs:=LN.kp (tpS s89) ⟨qa,ta,vs,hoo,hqq,htt,al⟩
  refine k r2 o f (t,e) zs ts ls _ (s2.trans (s27.trans s89)) qab lnz c6 (fun z hz=>px z (zm z hz)) (by omega) (s9 _ _ hf) (hn.tp (tpS s9)) l8 lo cz fun j q hj=>?_
  have j8:j<8:=by have:=(List.getElem?_eq_some_iff.mp hj).1;omega
  rw [vl j q hj,← wr j j8,zw]
theorem qmr (ns:List Int) {lo hi:Int} (h:0≤lo) (h2:lo≤hi):∃ ms:List Int,qg8 (ns.map V.int) (some lo) (some hi)=ms.map V.int∧(ms.length:Int)≤hi - lo:=by
  unfold qg8 HT.sIx
  rw [← List.map_drop,← List.map_take]
  refine ⟨_,rfl,?_⟩
  rw [List.length_take,List.length_drop]
  simp only [if_neg (show ¬ lo<0 by omega),if_neg (show ¬ hi<0 by omega)]
  omega
theorem qja {ta:TA} {capt:List (Option Nat)} {g:TG} {te:TE} {σ:L2.St} {H:Hp} {Q:VK} (h:ta σ H (fun vs H1=>∃ j:Int,vs=[.int j]∧-(2 ^ 62)≤j∧j<2 ^ 62∧CompJ (Itr 0 j.toNat) capt g te σ Q H1)):qbF (qfx ta) capt g te σ H Q:=h
structure Lg (H:Hp) (o f:Addr) (q:Nu) (xs:List (Nu×Nu)) (ts:List V) (ls:List Nu):Prop where
  ln:LN H o q xs
  hf:H f=some (.lst ts)
  hn:Nums H ts ls
structure Ls (q:Nu) (xs:List (Nu×Nu)) (ls:List Nu):Prop where
  c6:C6 q
  rs:∀ x∈xs,Rs x
  l12:xs.length≤12
  l8:ls.length=8
  lo:qdU ls
  cz:∀ q∈ls,Cz 200040 q
  wt:∀ j q,ls[j]?=some q→val q=WR (pj j) xs
theorem Lg.same {H H':Hp} {o f:Addr} {q:Nu} {xs:List (Nu×Nu)} {ts:List V} {ls:List Nu} (h:Lg H o f q xs ts ls) (s:Same H H'):Lg H' o f q xs ts ls:=⟨h.ln.kp (tpS s),s _ _ h.hf,h.hn.tp (tpS s)⟩
theorem Lg.kp {H H':Hp} {o f:Addr} {q:Nu} {xs:List (Nu×Nu)} {ts:List V} {ls:List Nu} (h:Lg H o f q xs ts ls) (t:Tab H) (k:Kp qgV H H'):Lg H' o f q xs ts ls:=⟨h.ln.kp (t.tp k),k _ _ (TabOk.ne t (.inr h.hf)) h.hf,h.hn.tp (t.tp k)⟩
theorem qkt (p:Nat) (hp:Pr p) (ys:List Pce):WR p (ys.map qkB)=WP p ys:=by
  induction ys with
  | nil=>rfl
  | cons y ys ih=>
    show val y.1*((vpI p y.2:Rat) - (vpI p 1:Rat))+WR p (ys.map qkB)=val y.1*(vpI p y.2:Rat)+WP p ys
    rw [ih,qe2 hp];push_cast;grind
theorem Sd.rz {t:Nat} {ys:List Pce} (h:Sd t ys):∀ x∈ys.map qkB,Rz t x:=fun x hx=>by
  obtain ⟨y,hy,rfl⟩:=List.mem_map.mp hx
  obtain ⟨a,_,b,c⟩:=h.sz y hy
  exact ⟨a,c,⟨by show (0:Int)<1;decide,Int.one_dvd _⟩⟩
theorem Sd.nil {t:Nat} {ys:List Pce} (h:Sd t ys) (w:∀ p,Pr p→WP p ys=0):ys=[]:=by
  cases ys with
  | nil=>rfl
  | cons y ys=>
    obtain ⟨⟨lo,_⟩,y0,y1,sy⟩:=h.sz y (List.mem_cons_self ..)
    obtain ⟨j,hj,d⟩:=sy.prime y1
    have hp:Pr (pj j):=qcj hj
    have v1:1≤vpI (pj j) y.2:=qjC (by omega) d
    have e:=(qgn hp h.cp (List.mem_cons_self ..) d).symm.trans (w _ hp)
    have v2:((vpI (pj j) y.2:Nat):Rat)≠0:=by
      intro z
      have:vpI (pj j) y.2=0:=by exact_mod_cast z
      omega
    have:val y.1=0:=by
      rcases Rat.mul_eq_zero.mp e with z | z
      · exact z
      · exact absurd z v2
    unfold val at this
    have d1:(y.1.2:Rat)≠0:=qb8 (by have:=lo.pos;omega)
    have h1:(y.1.1:Rat) / (y.1.2:Rat)*(y.1.2:Rat)=y.1.1:=Rat.div_mul_cancel d1
    rw [this] at h1
    have:(y.1.1:Rat)=0:=by rw [← h1];grind
    exact absurd (by exact_mod_cast this) y0
theorem qmf:C6 (-1,1):=⟨⟨by decide,by decide⟩,-60,by show ((-1:Int):Rat) / ((1:Int):Rat)=((-60:Int):Rat) / 60;push_cast;grind,by unfold Bd;decide⟩
theorem qlC:val (-1,1) = -1:=by show ((-1:Int):Rat) / ((1:Int):Rat) = -1;push_cast;grind
theorem C6.cz60 {q:Nu} (h:C6 q):Cz 60 q:=h.cz.mono (by decide)
theorem qlD (h:qfq K vs H Q E):ql8 K { nx:=fun _ H'=>Q .non H',rt:=Q } (L2.start ["_law_script", "_law_one", "_law_first", "_law_other", "_law_second", "_law_due", "_law_c_here"] vs) H:=by
  obtain ⟨a,ns,rfl,hS,_,aT,hT,k⟩:=h
  have T0:Tab H:=⟨#[],hT,.inl rfl⟩
  clear hT
  obtain ⟨ms,ems,l6⟩:=qmr ns (lo:=2) (hi:=8) (by decide) (by decide)
  obtain ⟨ms',ems',l6'⟩:=qmr ns (lo:=8) (hi:=14) (by decide) (by decide)
  refine qgh (qaV (qaV ⟨_,rfl,a,ns,0,rfl,hS,by decide,fun n0=>?_⟩))
  refine ⟨_,rfl,2,rfl,8,rfl,a,_,rfl,hS,fun p hp=>?_⟩
  rw [ems]
  have s1:=qaf hp (HO.lst (ms.map V.int))
  have hpp:upd H p (HO.lst (ms.map V.int)) p=_:=qab
  show qaE K _ _ _ _
  generalize upd H p (HO.lst (ms.map V.int))=H1 at s1 hpp ⊢
  refine ⟨n0,p,ms,rfl,hpp,by omega,fun r o f q xs ts ls H2 s2 hr ln c6 rs lx hf hn l8 lo cz wt=>?_⟩
  have s02:=s1.trans s2
  have L1:Lg H2 o f q xs ts ls:=⟨ln,hf,hn⟩
  have M1:Ls q xs ls:=⟨c6,rs,by omega,l8,lo,cz,wt⟩
  clear ln hf hn c6 rs lx l8 lo cz wt
  refine ⟨r,_,rfl,hr,rfl,_,_,rfl,_,_,rfl,rfl,?_⟩
  show qh4 K _ [some (.ref a),some (.ref o),some (.ref f),none,none,none,none] _
  have hS:=s02.seq hS
  have T2:Tab H2:=TabOk.same T0 s02
  clear T0 hr hpp
  refine qgh (qaV (qaV ⟨_,rfl,a,ns,1,rfl,hS,by decide,fun n1=>?_⟩))
  refine ⟨_,rfl,8,rfl,14,rfl,a,_,rfl,hS,fun p hp=>?_⟩
  rw [ems']
  have s1:=qaf hp (HO.lst (ms'.map V.int))
  have hpp:upd H2 p (HO.lst (ms'.map V.int)) p=_:=qab
  show qaE K _ _ _ _
  generalize upd H2 p (HO.lst (ms'.map V.int))=H3 at s1 hpp ⊢
  refine ⟨n1,p,ms',rfl,hpp,by omega,fun r o2 f2 q2 xs2 ts2 ls2 H4 s2 hr ln c6 rs lx hf hn l8 lo cz wt=>?_⟩
  have s24:=s1.trans s2
  have L1:=L1.same s24
  have L2:Lg H4 o2 f2 q2 xs2 ts2 ls2:=⟨ln,hf,hn⟩
  have M2:Ls q2 xs2 ls2:=⟨c6,rs,by omega,l8,lo,cz,wt⟩
  clear ln hf hn c6 rs lx l8 lo cz wt
  refine ⟨r,_,rfl,hr,rfl,_,_,rfl,_,_,rfl,rfl,?_⟩
  show qh3 K _ [some (.ref a),some (.ref o),some (.ref f),some (.ref o2),some (.ref f2),none,none] _
  have hS:=s24.seq hS
  have T4:Tab H4:=TabOk.same T2 s24
  clear T2 hr hpp
  refine qbl (qja ⟨8,rfl,by decide,by decide,CompJ.range (fun i ys H'=>i≤8∧Same H4 H'∧∃ dl:List Nu,Nums H' ys dl∧dl.length=i∧qdU dl∧∀ j q,dl[j]?=some q→val q=WR (pj j) xs+WR (pj j) xs2) ⟨by decide,Same.refl _,[],trivial,rfl,(fun _ h=>nomatch h),fun j q h=>by cases h⟩ ?_ ?_ ?_⟩)
  · rintro i ys H' ⟨hi,s5,dl,n5,l5,_⟩
    exact ⟨hi,sz (by have:=n5.length;omega)⟩
  · rintro i ys H' hi ⟨_,s5,dl,n5,l5,lo5,v5⟩
    have i8:i<8:=hi
    have L1:=L1.same s5
    have L2:=L2.same s5
    obtain ⟨v1,hv1,p1,rfl,hp1⟩:=L1.hn.at (i:=i) (by rw [M1.l8];exact i8) (0,1)
    obtain ⟨v2,hv2,p2,rfl,hp2⟩:=L2.hn.at (i:=i) (by rw [M2.l8];exact i8) (0,1)
    have e1:ls[i]?=some (ls.getD i (0,1)):=by rw [List.getD_eq_getElem?_getD,List.getElem?_eq_getElem (by rw [M1.l8];exact i8)];rfl
    have e2:ls2[i]?=some (ls2.getD i (0,1)):=by rw [List.getD_eq_getElem?_getD,List.getElem?_eq_getElem (by rw [M2.l8];exact i8)];rfl
    have w1:=M1.wt i _ e1
    have w2:=M2.wt i _ e2
    have c1:=M1.cz _ (by obtain ⟨z,e⟩:=List.getElem?_eq_some_iff.mp e1;exact e ▸ List.getElem_mem z)
    have c2:=M2.cz _ (by obtain ⟨z,e⟩:=List.getElem?_eq_some_iff.mp e2;exact e ▸ List.getElem_mem z)
    generalize ls.getD i (0,1)=u1 at hp1 w1 c1
    generalize ls2.getD i (0,1)=u2 at hp2 w2 c2
    obtain ⟨b1,b2⟩:=c1.bd
    obtain ⟨b3,b4⟩:=c2.bd
    refine qkh ?_
    show qap _ _ _ _ [some (.int (0+(i:Int))),some (.ref f),some (.ref f2)] _ _
    refine qaV ⟨_,rfl,_,rfl,f,_,ts,_,rfl,rfl,L1.hf,qer (j:=i) (by omega) hv1,_,rfl,_,rfl,f2,_,ts2,_,rfl,rfl,L2.hf,qer (j:=i) (by omega) hv2,p1,p2,u1.1,u1.2,u2.1,u2.2,rfl,hp1,hp2,c1.1.pos,c2.1.pos,b1.mono (by decide),b2.mono (by decide),b3.mono (by decide),b4.mono (by decide),fun r hr=>?_⟩
    have sr:=qaf hr (HO.tup [V.int (nadd (u1.1,u1.2) (u2.1,u2.2)).1,V.int (nadd (u1.1,u1.2) (u2.1,u2.2)).2])
    refine ⟨i8,s5.trans sr,dl++[nadd u1 u2],(n5.tp (tpS sr)).append (Nums.one ⟨r,rfl,qab⟩),by rw [List.length_append,l5];rfl,fun z hz=>?_,fun j z hj=>?_⟩
    · rcases List.mem_append.mp hz with h | h
      · exact lo5 z h
      · rw [List.mem_singleton.mp h];exact qdy c1.1.pos c2.1.pos
    · rcases Nat.lt_or_ge j dl.length with h | h
      · rw [List.getElem?_append_left h] at hj;exact v5 j z hj
      · rw [List.getElem?_append_right h] at hj
        have:j - dl.length=0:=by have:=(List.getElem?_eq_some_iff.mp hj).1;rw [List.length_singleton] at this;omega
        rw [this] at hj
        cases hj
        rw [show j=i by omega,qcG c1.1.pos c2.1.pos,w1,w2]
  rintro ys H5 ⟨_,s5,dl,n5,l5,lo5,v5⟩ g hg
  have sg:=qaf hg (HO.lst ys)
  have hgg:upd H5 g (HO.lst ys) g=_:=qab
  have n6:=n5.tp (tpS sg)
  have s46:=s5.trans sg
  show qh2 K _ [some (.ref a),some (.ref o),some (.ref f),some (.ref o2),some (.ref f2),some (.ref g),none] _
  generalize upd H5 g (HO.lst ys)=H6 at sg hgg n6 s46 ⊢
  have L1:=L1.same s46
  have L2:=L2.same s46
  have T6:Tab H6:=TabOk.same T4 s46
  have hS:=s46.seq hS
  clear T4 n5
  have m1:=M1.l12
  have m2:=M2.l12
  refine qhU (qgU (qaV ⟨_,rfl,_,rfl,o,o2,q,q2,xs,xs2,rfl,L1.ln,L2.ln,M1.c6.cz60,M2.c6.cz60,fun x hx=>(M1.rs x hx).rz (by decide),fun x hx=>(M2.rs x hx).rz (by decide),by omega,T6,fun s zs H7 kp T7 ln sd wz=>?_⟩))
  have L1:=L1.kp T6 kp
  have L2:=L2.kp T6 kp
  have hS:=Kp.seq kp aT hS
  have hgg:=kp _ _ (TabOk.ne T6 (.inr hgg)) hgg
  have n7:=n6.tp (T6.tp kp)
  clear n6 T6
  show qap _ _ _ _ _ _ _
  obtain ⟨qa,ta,us,ho,hqa,hta,hA⟩:=L1.ln
  obtain ⟨qb,tb,us2,ho2,hqb,htb,hB⟩:=L2.ln
  obtain ⟨b1,b2⟩:=M1.c6.bd
  obtain ⟨b3,b4⟩:=M2.c6.bd
  refine qaV ⟨_,rfl,o,0,_,_,rfl,rfl,ho,rfl,_,rfl,o2,0,_,_,rfl,rfl,ho2,rfl,qa,qb,q.1,q.2,q2.1,q2.2,rfl,hqa,hqb,M1.c6.1.pos,M2.c6.1.pos,b1.mono (by decide),b2.mono (by decide),b3.mono (by decide),b4.mono (by decide),fun s2 hs2=>?_⟩
  have sq:=qaf hs2 (HO.tup [V.int (nadd (q.1,q.2) (q2.1,q2.2)).1,V.int (nadd (q.1,q.2) (q2.1,q2.2)).2])
  have hqq:upd H7 s2 (HO.tup [V.int (nadd (q.1,q.2) (q2.1,q2.2)).1,V.int (nadd (q.1,q.2) (q2.1,q2.2)).2]) s2=_:=qab
  show ∃ _,_
  generalize upd H7 s2 (HO.tup [V.int (nadd (q.1,q.2) (q2.1,q2.2)).1,V.int (nadd (q.1,q.2) (q2.1,q2.2)).2])=H8 at sq hqq ⊢
  obtain ⟨qc,tc,us3,h1,h2,h3,h4⟩:=ln.kp (tpS sq)
  refine ⟨_,rfl,s,qc,tc,g,s2,nadd q q2,us3,zs,ys,dl,rfl,hqq,h1,h2,qdy M1.c6.1.pos M2.c6.1.pos,h3,h4,sd.sz,sd.cp,sd.so,sd.l8,sq _ _ hgg,n7.tp (tpS sq),l5,lo5,fun j u hj=>?_,fun H9 s9=>⟨_,rfl,qbJ (fun c=>by cases c) fun _=>?_⟩⟩
  · have j8:j<8:=by have:=(List.getElem?_eq_some_iff.mp hj).1;omega
    rw [v5 j u hj,wz _ (qcj j8)]
  show qh1 K _ _ _
  have s79:=sq.trans s9
  have L1:=L1.same s79
  have T9:Tab H9:=TabOk.same T7 s79
  have hS:=s79.seq hS
  clear L2 M2 hqa hqb hta htb hA hB ho ho2 h1 h2 h3 h4 n7 hgg ln sd wz T7
  refine qfK (qaV ⟨_,rfl,a,ns,14,rfl,hS,by decide,fun n2=>⟨n2,5,rfl,by decide,by decide,fun c t e hc ce=>?_⟩⟩)
  have sc:=qaf hc (HO.tup [V.int t,V.int e])
  have hcc:upd H9 c (HO.tup [V.int t,V.int e]) c=_:=qab
  show qh0 K _ [some (.ref a),some (.ref o),some (.ref f),some (.ref o2),some (.ref f2),some (.ref g),some (.ref c)] _
  generalize upd H9 c (HO.tup [V.int t,V.int e])=H10 at sc hcc ⊢
  have L1:=L1.same sc
  have T10:Tab H10:=TabOk.same T9 sc
  have lt:=L1.hn.length
  have m8:=M1.l8
  clear T9 hS
  obtain ⟨e1,e2⟩:=ce.bd
  refine qbl (qeX ⟨_,rfl,f,rfl,⟨_,SqL.of L1.hf⟩,CompJ.lst (xs:=ts) (fun i ys H'=>i≤ts.length∧Same H10 H'∧∃ dl:List Nu,Nums H' ys dl∧dl.length=i∧qdU dl∧∀ j q,dl[j]?=some q→val q=val (t,e)*WR (pj j) xs) ⟨Nat.zero_le _,Same.refl _,[],trivial,rfl,(fun _ h=>nomatch h),fun j q h=>by cases h⟩ ?_ ?_ ?_⟩)
  · rintro i ys H' ⟨hi,s5,dl,n5,l5,_⟩
    exact ⟨hi,sz (by have:=n5.length;omega),SqL.of (s5 _ _ L1.hf)⟩
  · rintro i u ys H' hu ⟨_,s5,dl,n5,l5,lo5,v5⟩
    have il:=(List.getElem?_eq_some_iff.mp hu).1
    obtain ⟨w,hw,p1,rfl,hp1⟩:=L1.hn.get hu
    have w1:=M1.wt i _ hw
    have c1:=M1.cz _ (by obtain ⟨z,e⟩:=List.getElem?_eq_some_iff.mp hw;exact e ▸ List.getElem_mem z)
    obtain ⟨b1,b2⟩:=c1.bd
    refine qkh ?_
    show qap _ _ _ _ [some (.ref p1),some (.ref c)] _ _
    refine qaV ⟨_,rfl,_,rfl,c,p1,t,e,w.1,w.2,rfl,s5 _ _ hcc,s5 _ _ hp1,ce.1.pos,c1.1.pos,e1.mono (by decide),e2.mono (by decide),b1.mono (by decide),b2.mono (by decide),fun r hr=>?_⟩
    have sr:=qaf hr (HO.tup [V.int (nmul (t,e) (w.1,w.2)).1,V.int (nmul (t,e) (w.1,w.2)).2])
    refine ⟨il,s5.trans sr,dl++[nmul (t,e) w],(n5.tp (tpS sr)).append (Nums.one ⟨r,rfl,qab⟩),by rw [List.length_append,l5];rfl,fun z hz=>?_,fun j z hj=>?_⟩
    · rcases List.mem_append.mp hz with h | h
      · exact lo5 z h
      · rw [List.mem_singleton.mp h];exact qbL ce.1.pos c1.1.pos
    · rcases Nat.lt_or_ge j dl.length with h | h
      · rw [List.getElem?_append_left h] at hj;exact v5 j z hj
      · rw [List.getElem?_append_right h] at hj
        have:j - dl.length=0:=by have:=(List.getElem?_eq_some_iff.mp hj).1;rw [List.length_singleton] at this;omega
        rw [this] at hj
        cases hj
        rw [show j=i by omega,qcp ce.1.pos c1.1.pos,w1]
  rintro ys2 H11 ⟨_,s5',dl2,n5',l5',lo5',v5'⟩ g2 hg2
  have sg:=qaf hg2 (HO.lst ys2)
  have hgg:upd H11 g2 (HO.lst ys2) g2=_:=qab
  have n6:=n5'.tp (tpS sg)
  have s46:=s5'.trans sg
  show qhZ K _ [some (.ref a),some (.ref o),some (.ref f),some (.ref o2),some (.ref f2),some (.ref g2),some (.ref c)] _
  generalize upd H11 g2 (HO.lst ys2)=H12 at sg hgg n6 s46 ⊢
  have L1:=L1.same s46
  have T12:Tab H12:=TabOk.same T10 s46
  have hcc:=s46 _ _ hcc
  clear T10 n5'
  refine qhU (qgU (qaV ⟨_,rfl,_,rfl,o,c,q,(t,e),xs,rfl,L1.ln,hcc,M1.c6,ce,M1.rs,by omega,T12,fun s zs H13 kp T13 ln sd wz=>?_⟩))
  have L1:=L1.kp T12 kp
  have hgg:=kp _ _ (TabOk.ne T12 (.inr hgg)) hgg
  have n7:=n6.tp (T12.tp kp)
  have hcc:=T12.tp kp _ _ hcc
  clear n6 T12
  show qap _ _ _ _ _ _ _
  obtain ⟨qa,ta,us,ho,hqa,hta,hA⟩:=L1.ln
  refine qaV ⟨_,rfl,_,rfl,o,0,_,_,rfl,rfl,ho,rfl,c,qa,t,e,q.1,q.2,rfl,hcc,hqa,ce.1.pos,M1.c6.1.pos,e1.mono (by decide),e2.mono (by decide),b1.mono (by decide),b2.mono (by decide),fun s3 hs3=>?_⟩
  have ec:nmul (t,e) (q.1,q.2)=nmul q (t,e):=qcx (qbL ce.1.pos M1.c6.1.pos) (qbL M1.c6.1.pos ce.1.pos) (by rw [qcp ce.1.pos M1.c6.1.pos,qcp M1.c6.1.pos ce.1.pos];exact Rat.mul_comm _ _)
  rw [ec]
  have sq:=qaf hs3 (HO.tup [V.int (nmul q (t,e)).1,V.int (nmul q (t,e)).2])
  have hqq:upd H13 s3 (HO.tup [V.int (nmul q (t,e)).1,V.int (nmul q (t,e)).2]) s3=_:=qab
  show ∃ _,_
  generalize upd H13 s3 (HO.tup [V.int (nmul q (t,e)).1,V.int (nmul q (t,e)).2])=H14 at sq hqq ⊢
  obtain ⟨qc,tc,us3,h1,h2,h3,h4⟩:=ln.kp (tpS sq)
  refine ⟨_,rfl,s,qc,tc,g2,s3,nmul q (t,e),us3,zs,ys2,dl2,rfl,hqq,h1,h2,qbL M1.c6.1.pos ce.1.pos,h3,h4,fun y hy=>⟨(sd.sz y hy).1.mono (by decide),(sd.sz y hy).2⟩,sd.cp,sd.so,sd.l8,sq _ _ hgg,n7.tp (tpS sq),by omega,lo5',fun j u hj=>?_,fun H15 s15=>⟨_,rfl,qbJ (fun c=>by cases c) fun _=>?_⟩⟩
  · have j8:j<8:=by have:=(List.getElem?_eq_some_iff.mp hj).1;omega
    rw [v5' j u hj,wz _ (qcj j8)]
  have s79:=sq.trans s15
  have L1:=L1.same s79
  have T15:Tab H15:=TabOk.same T13 s79
  clear hqa hta hA ho h1 h2 h3 h4 n7 hgg ln sd wz T13
  show qhY K _ _ _
  refine qea (qir (qaV ⟨_,rfl,qaV ⟨_,rfl,qaF ⟨_,rfl,qcJ,fun m hm=>?_⟩⟩⟩))
  have sm:=qaf hm (HO.tup [V.int (-1),V.int 1])
  have hmm:upd H15 m (HO.tup [V.int (-1),V.int 1]) m=_:=qab
  show qa1 K _ (upd H15 m (HO.tup [V.int (-1),V.int 1])) _ _
  generalize upd H15 m (HO.tup [V.int (-1),V.int 1])=H16 at sm hmm ⊢
  have L1:=L1.same sm
  have T16:Tab H16:=TabOk.same T15 sm
  refine ⟨o,m,q,(-1,1),xs,rfl,L1.ln,hmm,M1.c6,qmf,M1.rs,by omega,T16,fun s zs H17 kp T17 ln sd wz=>?_⟩
  have L1:=L1.kp T16 kp
  have cn:=M1.c6.neg
  have l8:=sd.l8
  refine ⟨o,s,q,nmul q (-1,1),xs,zs.map qkB,rfl,L1.ln,ln,M1.c6.cz60,cn.1.cz60,fun x hx=>(M1.rs x hx).rz (by decide),fun x hx=>⟨(sd.rz x hx).1.mono (by decide),(sd.rz x hx).2⟩,by rw [List.length_map];omega,T17,fun s' zs' H18 kp' T18 ln' sd' wz'=>?_⟩
  have e0:zs'=[]:=sd'.nil fun p hp=>by rw [wz' p hp,qkt p hp,wz p hp,qlC];grind
  subst e0
  have eq0:nadd q (nmul q (-1,1))=(0,1):=qcx (qdy M1.c6.1.pos cn.1.1.pos) ⟨by decide,by decide⟩ (by
    rw [qcG M1.c6.1.pos cn.1.1.pos,cn.2]
    show _=((0:Int):Rat) / ((1:Int):Rat)
    push_cast;grind)
  rw [eq0] at ln'
  obtain ⟨qc,tc,us3,h1,h2,h3,h4⟩:=ln'
  have u0:us3=[]:=by
    have:=h4.length
    exact List.length_eq_zero_iff.mp this
  subst u0
  show qbu _ _ _ _
  refine qaF (qaF ⟨qcJ,fun x1 hx1=>⟨qi0,fun x2 hx2=>⟨qcJ,fun x3 hx3=>?_⟩⟩⟩)
  have y1:=qaf hx1 (HO.tup [V.int 0,V.int 1])
  have y2:=qaf hx2 (HO.tup [])
  have y3:=qaf hx3 (HO.tup [V.ref x1,V.ref x2])
  have y13:=y1.trans (y2.trans y3)
  refine ⟨.tuple [qes (0,1),.tuple []],.tuple [qes (0,1),.tuple []],true,.tup (y13 _ _ h1) (.cons (qjt ⟨qc,rfl,y13 _ _ h2⟩) (.cons (.tup (y13 _ _ h3) .nil) .nil)),.tup qab (.cons (qjt ⟨x1,rfl,(y2.trans y3) _ _ qab⟩) (.cons (.tup (y3 _ _ qab) .nil) .nil)),rfl,rfl,⟨fun _=>rfl,fun _=>rfl⟩,k _⟩
end Bs
namespace Bs
open PySem PySem.Spec PyProof.Rows L2
set_option maxHeartbeats 4000000
open Hd
structure Bl (K:W.Frag) (mg:Str→Option Value):Prop where
  abs:mg "abs" = none
  sorted:mg "sorted" = none
  tuple:mg "tuple" = none
  list:mg "list" = none
  len:mg "len" = none
  isinstance:mg "isinstance" = none
  int:mg "int" = none
  bool:mg "bool" = none
  enumerate:mg "enumerate" = none
  range:mg "range" = none
section
variable (P:Program) (w:World) (K:W.Frag) (mg:Str→Option Value) (base:Heap)
noncomputable abbrev qaT:Prop:=Cal P w K mg base 1 "common_divisor" ["one", "other"] (qau K)
noncomputable abbrev qfT:Prop:=Cal P w K mg base 2 "ratio" ["top", "bottom"] (qbM K)
noncomputable abbrev qii:Prop:=Cal P w K mg base 3 "plus" ["one", "other"] (qdY K)
noncomputable abbrev qfU:Prop:=Cal P w K mg base 3 "times" ["one", "other"] (qcq K)
noncomputable abbrev qbe:Prop:=Cal P w K mg base 6 "settled_number" ["q", "rows"] (qav K)
noncomputable abbrev qb2:Prop:=Cal P w K mg base 5 "without_common" ["pieces"] (qaQ K)
noncomputable abbrev qck:Prop:=Cal P w K mg base 4 "pieces_of_two" ["one", "other"] (qaS K)
noncomputable abbrev qgo:Prop:=Cal P w K mg base 7 "n_plus" ["one", "other"] (qca K)
noncomputable abbrev qeA:Prop:=Cal P w K mg base 7 "n_scaled" ["one", "c"] (qa1 K)
noncomputable abbrev qjD:Prop:=Cal P w K mg base 1 "_law_at" ["_law_script", "_law_k"] (qc2 K)
noncomputable abbrev qdD:Prop:=Cal P w K mg base 1 "_law_draw" ["_law_cell", "_law_k", "_law_many"] (qbm K)
noncomputable abbrev qbI:Prop:=Cal P w K mg base 1 "_law_number" ["_law_top", "_law_bottom"] (qaW K)
noncomputable abbrev qe6:Prop:=Cal P w K mg base 2 "_law_plus" ["_law_one", "_law_other"] (qbH K)
noncomputable abbrev qcW:Prop:=Cal P w K mg base 2 "_law_times" ["_law_one", "_law_other"] (qaX K)
noncomputable abbrev qcX:Prop:=Cal P w K mg base 2 "_law_is_number" ["_law_found"] (qaK K)
noncomputable abbrev qc7:Prop:=Cal P w K mg base 1 "_law_primes" [] (qbn K)
noncomputable abbrev qeB:Prop:=Cal P w K mg base 2 "_law_smooth" ["_law_cell"] (qbN K)
noncomputable abbrev qcy:Prop:=Cal P w K mg base 3 "_law_weights" ["_law_rows_here", "_law_many"] (qa5 K)
noncomputable abbrev qeC:Prop:=Cal P w K mg base 2 "_law_powers" ["_law_entire"] (qbO K)
noncomputable abbrev qcY:Prop:=Cal P w K mg base 1 "_law_no_common" ["_law_wholes"] (qa2 K)
noncomputable abbrev qcu:Prop:=Cal P w K mg base 4 "_law_is_settled" ["_law_found", "_law_q", "_law_weights_here"] (qaO K)
noncomputable abbrev qjb:Prop:=Cal P w K mg base 2 "_law_c" ["_law_cell", "_law_k"] (qet K)
noncomputable abbrev qgp:Prop:=Cal P w K mg base 3 "_law_rows" ["_law_cells"] (qcK K)
noncomputable abbrev qcv:Prop:=Cal P w K mg base 4 "_law_log_number" ["_law_cell", "_law_cells"] (qaE K)
end
section
variable {P:Program} {w:World} {K:W.Frag} {mg:Str→Option Value} {base:Heap} {f:Addr} {fd:FuncData}
theorem okm {n:Str} {st:Stmt} {N ps:List Str} {k:Nat} {sp:Sp} {t:TS} (F:Fun K n n st f fd) (v:∀ {vs:List V} {H:Hp} {Q:VK} {E:XK},sp vs H Q E→t { nx:=fun _ H'=>Q .non H',rt:=Q } (start N vs) H) (d:∀ {cdv:Value} {A:Around} {outer:List Env} {s:Shared} {H:Hp} {E:XK} (hr:Room k (A.deeper (envOfC n (qao st) s.heap.objs.size f cdv))) (nd:N.Nodup) (hu:(A.deeper (envOfC n (qao st) s.heap.objs.size f cdv)).units<cLine) (hu64:(A.deeper (envOfC n (qao st) s.heap.objs.size f cdv)).units+64<cLine),PSs (qiz CX0 P w K mg base N n (qao st) f cdv A outer s H E).nox (qaM st) t) (S:FnScope N ps (qao st):=by exact ⟨rfl,rfl,rfl,by decide +kernel,rfl,by decide +kernel,by decide +kernel⟩) (len:∀ vs H Q E,sp vs H Q E→vs.length=ps.length:=by intro vs H Q E h;repeat (first | (obtain ⟨rfl,_⟩:=h;rfl) | obtain ⟨_,h⟩:=h)):FnOk P w K mg base CX0 (k+1) f fd ps sp:=F.ok S len fun cdv A outer s H vs Q E hr h=>⟨t,d hr S.nd hr.units0 hr.units,v h⟩
theorem qmQ {n:Str} {st:Stmt} {c:Addr} {pm:Value} {N ps:List Str} {k:Nat} {sp:Sp} {t:TS} (l:K.lookup f=some ⟨.type "function", none,.func (PySem.W.fnOf n n (qaY st) (qaM st) (qao st) .none .none .none pm none (.ref c) .none),#[]⟩) (e:PySem.W.codeIn K (.ref c) n=true) (v:∀ {vs:List V} {H:Hp} {Q:VK} {E:XK},sp vs H Q E→t { nx:=fun _ H'=>Q .non H',rt:=Q } (start N vs) H) (d:∀ {A:Around} {outer:List Env} {s:Shared} {H:Hp} {E:XK} (hr:Room k (A.deeper (envOfC n (qao st) s.heap.objs.size f (.ref c)))) (nd:N.Nodup) (hu:(A.deeper (envOfC n (qao st) s.heap.objs.size f (.ref c))).units<cLine) (hu64:(A.deeper (envOfC n (qao st) s.heap.objs.size f (.ref c))).units+64<cLine),PSs (qiz CX0 P w K mg base N n (qao st) f (.ref c) A outer s H E).nox (qaM st) t) (S:FnScope N ps (qao st):=by exact ⟨rfl,rfl,rfl,by decide +kernel,rfl,by decide +kernel,by decide +kernel⟩) (len:∀ vs H Q E,sp vs H Q E→vs.length=ps.length:=by intro vs H Q E h;repeat (first | (obtain ⟨rfl,_⟩:=h;rfl) | obtain ⟨_,h⟩:=h)):FnOk P w K mg base CX0 (k+1) f (PySem.W.fnOf n n (qaY st) (qaM st) (qao st) .none .none .none pm none (.ref c) .none) ps sp:=qkQ l e S len fun A outer s H vs Q E hr h=>⟨t,(d hr S.nd hr.units0 hr.units).nox,v h⟩
theorem li {a:Prop} {α:Type} {x:α}:x=x∨a:=Or.inl rfl
theorem qc8 (F:Fun K "common_divisor" "common_divisor" qdp f fd) (B:Bl K mg)  : FnOk P w K mg base CX0 1 f fd ["one", "other"] (qau K):=okm F (qc3 ) fun hr nd hu ht=>(qag (qcz PassesOwn.never (qaz qfb (pv 1) qad (nomark _)) (qag (qaB (i:=2) nd rfl li (qaC qjK (pv 0) (pv 1)))
    (qag (qaB (i:=0) nd rfl li (pv 1))
    (qak (qaB (i:=1) nd rfl li (pv 2))))))
    (qak (qas (qaI qcD rfl B.abs qf9 (qaa (pv 0) qae)))))
theorem qjc (F:Fun K "ratio" "ratio" qjS f fd) (B:Bl K mg) (c0:qaT P w K mg base):FnOk P w K mg base CX0 2 f fd ["top", "bottom"] (qbM K):=okm F (qiY ) fun hr nd hu ht=>(qag (qaB (i:=2) nd rfl li (c0.pe hr (by decide) rfl (qaa (pv 0) (qaa (pv 1) qae))))
    (qag (qbD (qaz qhi (pv 1) qad (nomark _)) (qak (qaB (i:=2) nd rfl li (qfa qdc (pv 2)))) qaL)
    (qak (qas (qax (qaa (qaC qcF (pv 0) (pv 2)) (qaa (qaC qcF (pv 1) (pv 2)) qae)))))))
theorem qku (F:Fun K "plus" "plus" qkW f fd) (B:Bl K mg) (c0:qfT P w K mg base):FnOk P w K mg base CX0 3 f fd ["one", "other"] (qdY K):=okm F (qkk ) fun hr nd hu ht=>(qak (qas (c0.pe hr (by decide) rfl (qaa (qaC qdK (qaC qaN (qaq qaj (pv 0) qad (fun _ _=>rfl)) (qaq qaj (pv 1) qad (fun _ _=>rfl))) (qaC qaN (qaq qaj (pv 1) qad (fun _ _=>rfl)) (qaq qaj (pv 0) qad (fun _ _=>rfl)))) (qaa (qaC qaN (qaq qaj (pv 0) qad (fun _ _=>rfl)) (qaq qaj (pv 1) qad (fun _ _=>rfl))) qae)))))
theorem qjd (F:Fun K "times" "times" qjT f fd) (B:Bl K mg) (c0:qfT P w K mg base):FnOk P w K mg base CX0 3 f fd ["one", "other"] (qcq K):=okm F (qiZ ) fun hr nd hu ht=>(qak (qas (c0.pe hr (by decide) rfl (qaa (qaC qaN (qaq qaj (pv 0) qad (fun _ _=>rfl)) (qaq qaj (pv 1) qad (fun _ _=>rfl))) (qaa (qaC qaN (qaq qaj (pv 0) qad (fun _ _=>rfl)) (qaq qaj (pv 1) qad (fun _ _=>rfl))) qae)))))
theorem qc9 {pm:Value} (l:K.lookup f=some ⟨.type "function", none,.func (PySem.W.fnOf "settled_number" "settled_number" (qaY qaA) (qaM qaA) (qao qaA) .none .none .none pm none (.ref 46) .none),#[]⟩) (e:PySem.W.codeIn K (.ref 46) "settled_number" = true) (hC:PySem.W.CodeHd base 46 qgV) (hbt:base.BuiltinsAt mg qgV) (B:Bl K mg) (c0:qfU P w K mg base) (c1:qb2 P w K mg base):FnOk P w K mg base CX0 6 f (PySem.W.fnOf "settled_number" "settled_number" (qaY qaA) (qaM qaA) (qao qaA) .none .none .none pm none (.ref 46) .none) ["q", "rows"] (qav K):=qmQ l e (qc6 ) fun {A outer s H E} hr nd hu ht=>by
  have hcd:(qiz CX0 P w K mg base ["q", "rows", "pieces", "found"] "settled_number" (qao qaA) f (.ref 46) A outer s H E).nox.env.code=.ref 46:=rfl
  have hrm:=hr.depth
  exact (qag (qaB (i:=2) nd rfl li (qaC qjl (qeO (N:=["c", "r"]) (capt:=[none,none]) rfl (BlkOk.of rfl rfl rfl rfl (fun _ h=>nomatch h) rfl rfl rfl) (qbK (pv 1)) (fun _ _ _ _=>(qbk rfl (qat (qar (i:=0) (show (["c", "r"]:List PySem.Str).Nodup by decide +kernel) rfl li) (qat (qar (i:=1) (show (["c", "r"]:List PySem.Str).Nodup by decide +kernel) rfl li) qbj)))) (fun _ _ _ _=>(qax (qaa (pv 0) (qaa (qaq qaj (pv 1) qad (fun _ _=>rfl)) qae))))) (qeO (N:=["c", "r"]) (capt:=[none,none]) rfl (BlkOk.of rfl rfl rfl rfl (fun _ h=>nomatch h) rfl rfl rfl) (qbK (pv 1)) (fun _ _ _ _=>(qbk rfl (qat (qar (i:=0) (show (["c", "r"]:List PySem.Str).Nodup by decide +kernel) rfl li) (qat (qar (i:=1) (show (["c", "r"]:List PySem.Str).Nodup by decide +kernel) rfl li) qbj)))) (fun _ _ _ _=>(qax (qaa (c0.pe hr (by decide) rfl (qaa (pv 0) (qaa (qax (qaa (qfa qdc qad) (qaa qad qae))) qae))) (qaa (qaq qaj (pv 1) qad (fun _ _=>rfl)) qae)))))))
    (qag (qaB (i:=3) nd rfl li (qhQ hcd hC hbt hrm B.sorted (c1.pe hr (by decide) rfl (qaa (pv 2) qae))))
    (qak (qas (qax (qaa (pv 0) (qaa (qb7 qfk rfl B.tuple qcm (qaa (qeO (N:=["c", "whole"]) (capt:=[none,none]) rfl (BlkOk.of rfl rfl rfl rfl (fun _ h=>nomatch h) rfl rfl rfl) (qbK (pv 3)) (fun _ _ _ _=>(qbk rfl (qat (qar (i:=0) (show (["c", "whole"]:List PySem.Str).Nodup by decide +kernel) rfl li) (qat (qar (i:=1) (show (["c", "whole"]:List PySem.Str).Nodup by decide +kernel) rfl li) qbj)))) (fun _ _ _ _=>(qax (qaa (pv 0) (qaa (qax (qaa (pv 1) (qaa qad qae))) qae))))) qae)) qae)))))))
theorem qda (F:Fun K "without_common" "without_common" qdq f fd) (B:Bl K mg) (c0:qaT P w K mg base) (c1:qck P w K mg base):FnOk P w K mg base CX0 5 f fd ["pieces"] (qaQ K):=okm F (qc5 ) fun hr nd hu ht=>(qag (qaB (i:=1) nd rfl li (qb7 qgP rfl B.list qfG (qaa (pv 0) qae)))
    (qag (qaB (i:=2) nd rfl li (qcC qae))
    (qag (qcz PassesOwn.never (qhI (pv 1) (fun _=>rfl)) (qag (qaB (i:=3) nd rfl (Or.inr rfl) (qkS PySem.F.plainAttrs_list PySem.F.slot_list_pop PySem.F.type_list_pop qkT (pv 1)))
    (qak (qbD (PW.pt (qjh (qaz qfb (qaq qaj (qaq qaj (pv 3) qad (fun _ _=>rfl)) qad (fun _ _=>rfl)) qad (nomark _)) (qhb (qaz qfy (qaq qaj (pv 3) qad (fun _ _=>rfl)) qad (nomark _))))) (qag (qge (i:=4) (N:=["other", "piece"]) (capt:=[none,some 3]) nd rfl li rfl (BlkOk.of rfl rfl rfl rfl (List.forall_mem_singleton.mpr rfl) rfl rfl rfl) (qbK (pv 2)) (fun _ _ _ _=>(qar (i:=0) (show (["other", "piece"]:List PySem.Str).Nodup by decide +kernel) rfl li)) (fun _ _ _ _=>(qaz qfy (c0.pe hr (by decide) rfl (qaa (qaq qaj (pv 1) qad (fun _ _=>rfl)) (qaa (qaq qaj (pv 0) qad (fun _ _=>rfl)) qae))) qad (nomark _))) (fun _ _ _ _=>(pv 0)))
    (qak (qbD (qhI (pv 4) (fun _=>rfl)) (qag (qbc (qdo PySem.F.plainAttrs_list PySem.F.slot_list_remove PySem.F.type_list_remove (qhM ht) (pv 2) (qaa (qaq qdQ (pv 4) qad (fun _ _=>rfl)) qae)))
    (qak (qbc (qdo PySem.F.plainAttrs_list PySem.F.slot_list_extend PySem.F.type_list_extend qhq (pv 1) (qaa (c1.pe hr (by decide) rfl (qaa (pv 3) (qaa (qaq qdQ (pv 4) qad (fun _ _=>rfl)) qae))) qae))))) (qak (qbc (qdo PySem.F.plainAttrs_list PySem.F.slot_list_append PySem.F.type_list_append qaR (pv 2) (qaa (pv 3) qae))))))) qaL))))
    (qak (qas (pv 2))))))
theorem qdu (F:Fun K "pieces_of_two" "pieces_of_two" qdO f fd) (B:Bl K mg) (c0:qaT P w K mg base) (c1:qii P w K mg base):FnOk P w K mg base CX0 4 f fd ["one", "other"] (qaS K):=okm F (qdt ) fun hr nd hu ht=>(qag (qaB (i:=2) nd rfl li (c0.pe hr (by decide) rfl (qaa (qaq qaj (pv 0) qad (fun _ _=>rfl)) (qaa (qaq qaj (pv 1) qad (fun _ _=>rfl)) qae))))
    (qak (qas (qcC (qaa (qax (qaa (qaq qaj (pv 0) qad (fun _ _=>rfl)) (qaa (qaC qeQ (qaq qaj (pv 0) qad (fun _ _=>rfl)) (pv 2)) qae))) (qaa (qax (qaa (qaq qaj (pv 1) qad (fun _ _=>rfl)) (qaa (qaC qeQ (qaq qaj (pv 1) qad (fun _ _=>rfl)) (pv 2)) qae))) (qaa (qax (qaa (c1.pe hr (by decide) rfl (qaa (qaq qaj (pv 0) qad (fun _ _=>rfl)) (qaa (qaq qaj (pv 1) qad (fun _ _=>rfl)) qae))) (qaa (pv 2) qae))) qae)))))))
theorem qij (F:Fun K "n_plus" "n_plus" qiB f fd) (B:Bl K mg) (c0:qii P w K mg base) (c1:qbe P w K mg base):FnOk P w K mg base CX0 7 f fd ["one", "other"] (qca K):=okm F (qih ) fun hr nd hu ht=>(qak (qas (c1.pe hr (by decide) rfl (qaa (c0.pe hr (by decide) rfl (qaa (qaq qaj (pv 0) qad (fun _ _=>rfl)) (qaa (qaq qaj (pv 1) qad (fun _ _=>rfl)) qae))) (qaa (qaC qjl (qb7 qen rfl B.list qfG (qaa (qaq qaj (pv 0) qad (fun _ _=>rfl)) qae)) (qb7 qen rfl B.list qfG (qaa (qaq qaj (pv 1) qad (fun _ _=>rfl)) qae))) qae)))))
theorem qfV (F:Fun K "n_scaled" "n_scaled" qgz f fd) (B:Bl K mg) (c0:qfU P w K mg base) (c1:qbe P w K mg base):FnOk P w K mg base CX0 7 f fd ["one", "c"] (qa1 K):=okm F (qfS ) fun hr nd hu ht=>(qak (qas (c1.pe hr (by decide) rfl (qaa (c0.pe hr (by decide) rfl (qaa (qaq qaj (pv 0) qad (fun _ _=>rfl)) (qaa (pv 1) qae))) (qaa (qeO (N:=["e", "r", "c"]) (capt:=[none,none,some 1]) rfl (BlkOk.of rfl rfl rfl rfl (List.forall_mem_singleton.mpr rfl) rfl rfl rfl) (qf3 (qaq qaj (pv 0) qad (fun _ _=>rfl))) (fun _ _ _ _=>(qbk rfl (qat (qar (i:=0) (show (["e", "r", "c"]:List PySem.Str).Nodup by decide +kernel) rfl li) (qat (qar (i:=1) (show (["e", "r", "c"]:List PySem.Str).Nodup by decide +kernel) rfl li) qbj)))) (fun _ _ _ _=>(qax (qaa (c0.pe hr (by decide) rfl (qaa (pv 0) (qaa (pv 2) qae))) (qaa (pv 1) qae))))) qae)))))
theorem qkv (F:Fun K "_law_at" "_law_at" qkX f fd) (B:Bl K mg)  : FnOk P w K mg base CX0 1 f fd ["_law_script", "_law_k"] (qc2 K):=okm F (qkp ) fun hr nd hu ht=>(qag (qbD (qiw qlP qhi qad (pv 1) (qaI qhz rfl B.len qga (qaa (pv 0) qae))) (qak (qas (qaq qhy (pv 0) (pv 1) (fun _ _=>rfl)))) qaL)
    (qak (qas qad)))
theorem qik (F:Fun K "_law_draw" "_law_draw" qiC f fd) (B:Bl K mg)  : FnOk P w K mg base CX0 1 f fd ["_law_cell", "_law_k", "_law_many"] (qbm K):=okm F (qib ) fun hr nd hu ht=>(qag (qbD (PW.pt (qjh (qaz qfy (pv 0) (qaC qj3 qad qad) (nomark _)) (qhb (qaz qhi (pv 2) qad (nomark _))))) (qak (qas (qaC qcB (qaC qcB (qaC op_shr (pv 0) (qaC qaN qad (pv 1))) qad) (pv 2)))) qaL)
    (qag (qaB (i:=3) nd rfl li (qaC qcB (qaC qaN (qaC qdK (qaC qdK (qaC qcB (pv 0) qad) (qaC qaN (qaC qaN (pv 1) (pv 1)) qad)) qad) qad) qad))
    (qak (qas (qaC qcB (qaC qiJ (qaC qcB (qaC qaN (pv 3) (pv 3)) qad) qad) (pv 2))))))
theorem qfW (F:Fun K "_law_number" "_law_number" qgA f fd) (B:Bl K mg)  : FnOk P w K mg base CX0 1 f fd ["_law_top", "_law_bottom"] (qaW K):=okm F (qfN ) fun hr nd hu ht=>(qag (qf2 (i:=2) (j:=3) rfl nd rfl rfl (by decide) rfl rfl (qaa (qaI qcD rfl B.abs qf9 (qaa (pv 0) qae)) (qaa (qaI qcD rfl B.abs qf9 (qaa (pv 1) qae)) qae)) rfl)
    (qag (qcz PassesOwn.never (qaz qfy (pv 3) qad (nomark _)) (qak (qf2 (i:=2) (j:=3) rfl nd rfl rfl (by decide) rfl rfl (qaa (pv 3) (qaa (qaC qcB (pv 2) (pv 3)) qae)) rfl)))
    (qag (qbD (qaz qhi (pv 1) qad (nomark _)) (qak (qaB (i:=2) nd rfl li (qfa qdc (pv 2)))) qaL)
    (qak (qas (qax (qaa (qaC qcF (pv 0) (pv 2)) (qaa (qaC qcF (pv 1) (pv 2)) qae))))))))
theorem qil (F:Fun K "_law_plus" "_law_plus" qiD f fd) (B:Bl K mg) (c0:qbI P w K mg base):FnOk P w K mg base CX0 2 f fd ["_law_one", "_law_other"] (qbH K):=okm F (qh5 ) fun hr nd hu ht=>(qak (qas (c0.pe hr (by decide) rfl (qaa (qaC qdK (qaC qaN (qaq qaj (pv 0) qad (fun _ _=>rfl)) (qaq qaj (pv 1) qad (fun _ _=>rfl))) (qaC qaN (qaq qaj (pv 1) qad (fun _ _=>rfl)) (qaq qaj (pv 0) qad (fun _ _=>rfl)))) (qaa (qaC qaN (qaq qaj (pv 0) qad (fun _ _=>rfl)) (qaq qaj (pv 1) qad (fun _ _=>rfl))) qae)))))
theorem qg3 (F:Fun K "_law_times" "_law_times" qht f fd) (B:Bl K mg) (c0:qbI P w K mg base):FnOk P w K mg base CX0 2 f fd ["_law_one", "_law_other"] (qaX K):=okm F (qg0 ) fun hr nd hu ht=>(qak (qas (c0.pe hr (by decide) rfl (qaa (qaC qaN (qaq qaj (pv 0) qad (fun _ _=>rfl)) (qaq qaj (pv 1) qad (fun _ _=>rfl))) (qaa (qaC qaN (qaq qaj (pv 0) qad (fun _ _=>rfl)) (qaq qaj (pv 1) qad (fun _ _=>rfl))) qae)))))
theorem qeh (F:Fun K "_law_is_number" "_law_is_number" qeK f fd) (B:Bl K mg) (c0:qbI P w K mg base):FnOk P w K mg base CX0 2 f fd ["_law_found"] (qaK K):=okm F (qef ) fun hr nd hu ht=>(qag (qbD (PW.pt (qdG (qb5 (qbP (qaI qcn rfl B.isinstance qaP (qaa (pv 0) (qaa (qcZ rfl B.tuple qcm rfl) qae))))) (qel (qaz qfb (qaI qdR rfl B.len qga (qaa (pv 0) qae)) qad (nomark _))))) (qak (qas qdn)) qaL)
    (qag (qcs PassesOwn.never rfl (qf3 (pv 0)) (qar (i:=1) nd rfl li) (qak (qbD (PW.pt (qdG (qb5 (qbP (qaI qcn rfl B.isinstance qaP (qaa (pv 1) (qaa (qcZ rfl B.int qk4 rfl) qae))))) (qel (qbP (qaI qcn rfl B.isinstance qaP (qaa (pv 1) (qaa (qcZ rfl B.bool qj2 rfl) qae))))))) (qak (qas qdn)) qaL)))
    (qak (qas (qkJ (qeG qfy (qaq qaj (pv 0) qad (fun _ _=>rfl)) qad (nomark _)) (qkI (qeG (qjp hu) (pv 0) (c0.pe hr (by decide) rfl (qaa (qaq qaj (pv 0) qad (fun _ _=>rfl)) (qaa (qaq qaj (pv 0) qad (fun _ _=>rfl)) qae))) (nomark _))))))))
theorem qfX (F:Fun K "_law_primes" "_law_primes" qgB f fd) (B:Bl K mg)  : FnOk P w K mg base CX0 1 f fd [] (qbn K):=okm F (qfP ) fun hr nd hu ht=>(qak (qas (qax (qaa qad (qaa qad (qaa qad (qaa qad (qaa qad (qaa qad (qaa qad (qaa qad qae)))))))))))
theorem qfY (F:Fun K "_law_smooth" "_law_smooth" qgC f fd) (B:Bl K mg) (c0:qc7 P w K mg base) (c1:qdD P w K mg base):FnOk P w K mg base CX0 2 f fd ["_law_cell"] (qbN K):=okm F (qfR ) fun hr nd hu ht=>(qag (qaB (i:=1) nd rfl li qad)
    (qag (qaB (i:=2) nd rfl li qad)
    (qag (qaB (i:=3) nd rfl li (qcC qae))
    (qag (qcs PassesOwn.never rfl (qiO rfl B.enumerate (qaa (c0.pe0 hr (by decide) rfl) qae)) (qbk rfl (qat (qar (i:=4) nd rfl li) (qat (qar (i:=5) nd rfl li) qbj))) (qag (qaB (i:=6) nd rfl li (qaq qaj (qax (qaa qad (qaa qad (qaa qad (qaa qad (qaa (qfa qdc qad) (qaa qad (qaa (qfa qdc qad) (qaa qad qae))))))))) (c1.pe hr (by decide) rfl (qaa (pv 0) (qaa (pv 4) (qaa qad qae)))) (fun _ _=>rfl)))
    (qag (qbc (qdo PySem.F.plainAttrs_list PySem.F.slot_list_append PySem.F.type_list_append qaR (pv 3) (qaa (pv 6) qae)))
    (qak (qcs PassesOwn.never rfl (qdI rfl B.range (qaa (qaI qcD rfl B.abs qf9 (qaa (pv 6) qae)) qae)) (qar (i:=7) nd rfl li) (qak (qbD (qaz qfy (pv 6) qad (nomark _)) (qak (qaB (i:=1) nd rfl li (qaC qaN (pv 1) (pv 5)))) (qak (qaB (i:=2) nd rfl li (qaC qaN (pv 2) (pv 5)))))))))))
    (qak (qas (qax (qaa (qax (qaa (pv 1) (qaa (pv 2) qae))) (qaa (pv 3) qae)))))))))
theorem qfw (F:Fun K "_law_weights" "_law_weights" qfE f fd) (B:Bl K mg) (c0:qcW P w K mg base) (c1:qe6 P w K mg base):FnOk P w K mg base CX0 3 f fd ["_law_rows_here", "_law_many"] (qa5 K):=okm F (qfu ) fun hr nd hu ht=>(qag (qaB (i:=2) nd rfl li (qcC qae))
    (qag (qcs PassesOwn.never rfl (qdI rfl B.range (qaa (pv 1) qae)) (qar (i:=3) nd rfl li) (qag (qaB (i:=4) nd rfl li (qax (qaa qad (qaa qad qae))))
    (qag (qcs PassesOwn.never rfl (qbK (pv 0)) (qbk rfl (qat (qar (i:=5) nd rfl li) (qat (qar (i:=6) nd rfl li) qbj))) (qak (qaB (i:=4) nd rfl li (c1.pe hr (by decide) rfl (qaa (pv 4) (qaa (c0.pe hr (by decide) rfl (qaa (pv 5) (qaa (qax (qaa (qaq qdQ (pv 6) (pv 3) (fun _ _=>rfl)) (qaa qad qae))) qae))) qae))))))
    (qak (qbc (qdo PySem.F.plainAttrs_list PySem.F.slot_list_append PySem.F.type_list_append qaR (pv 2) (qaa (pv 4) qae)))))))
    (qak (qas (pv 2)))))
theorem qfZ (F:Fun K "_law_powers" "_law_powers" qgD f fd) (B:Bl K mg) (c0:qc7 P w K mg base):FnOk P w K mg base CX0 2 f fd ["_law_entire"] (qbO K):=okm F (qfQ ) fun hr nd hu ht=>(qag (qaB (i:=1) nd rfl li (qcC qae))
    (qag (qcs PassesOwn.never rfl (qf3 (c0.pe0 hr (by decide) rfl)) (qar (i:=2) nd rfl li) (qag (qaB (i:=3) nd rfl li qad)
    (qag (qcz PassesOwn.never (qaz qkN (qaC qcB (pv 0) (pv 2)) qad (nomark _)) (qag (qaB (i:=0) nd rfl li (qaC qeQ (pv 0) (pv 2)))
    (qak (qaB (i:=3) nd rfl li (qaC qdK (pv 3) qad)))))
    (qak (qbc (qdo PySem.F.plainAttrs_list PySem.F.slot_list_append PySem.F.type_list_append qaR (pv 1) (qaa (pv 3) qae)))))))
    (qag (qbD (qaz qfb (pv 0) qad (nomark _)) (qak (qas qjg)) qaL)
    (qak (qas (pv 1))))))
theorem qei (F:Fun K "_law_no_common" "_law_no_common" qeL f fd) (B:Bl K mg)  : FnOk P w K mg base CX0 1 f fd ["_law_wholes"] (qa2 K):=okm F (qeg ) fun hr nd hu ht=>(qag (qcs PassesOwn.never rfl (qiN rfl B.enumerate (qaa (pv 0) qae)) (qbk rfl (qat (qar (i:=1) nd rfl li) (qat (qar (i:=2) nd rfl li) qbj))) (qak (qcs PassesOwn.never rfl (qbK (qeH qj9 (pv 0) qjN (qdL (pv 1)))) (qar (i:=3) nd rfl li) (qag (qf2 (i:=4) (j:=5) rfl nd rfl rfl (by decide) rfl rfl (qaa (pv 2) (qaa (pv 3) qae)) rfl)
    (qag (qcz PassesOwn.never (qaz qfy (pv 5) qad (nomark _)) (qak (qf2 (i:=4) (j:=5) rfl nd rfl rfl (by decide) rfl rfl (qaa (pv 5) (qaa (qaC qcB (pv 4) (pv 5)) qae)) rfl)))
    (qak (qbD (qaz qfb (pv 4) qad (nomark _)) (qak (qas qdn)) qaL)))))))
    (qak (qas qdn)))
theorem qd3 (F:Fun K "_law_is_settled" "_law_is_settled" qd8 f fd) (B:Bl K mg) (c0:qcX P w K mg base) (c1:qeC P w K mg base) (c2:qcY P w K mg base) (c3:qcy P w K mg base):FnOk P w K mg base CX0 4 f fd ["_law_found", "_law_q", "_law_weights_here"] (qaO K):=okm F (qd1 ) fun hr nd hu ht=>(qag (qbD (PW.pt (qdG (qb5 (qbP (qaI qcn rfl B.isinstance qaP (qaa (pv 0) (qaa (qcZ rfl B.tuple qcm rfl) qae))))) (qdG (qaz qfb (qaI qdR rfl B.len qga (qaa (pv 0) qae)) qad (nomark _)) (qdG (qb5 (qbP (c0.pe hr (by decide) rfl (qaa (qaq qaj (pv 0) qad (fun _ _=>rfl)) qae)))) (qel (qaz (qhH ht) (qaq qaj (pv 0) qad (fun _ _=>rfl)) (pv 1) (nomark _))))))) (qak (qas qdn)) qaL)
    (qag (qbD (qb5 (qbP (qaI qcn rfl B.isinstance qaP (qaa (qaq qaj (pv 0) qad (fun _ _=>rfl)) (qaa (qcZ rfl B.tuple qcm rfl) qae))))) (qak (qas qdn)) qaL)
    (qag (qaB (i:=3) nd rfl li (qcC qae))
    (qag (qaB (i:=4) nd rfl li (qcC qae))
    (qag (qcs PassesOwn.never rfl (qf3 (qaq qaj (pv 0) qad (fun _ _=>rfl))) (qar (i:=5) nd rfl li) (qag (qbD (PW.pt (qdG (qb5 (qbP (qaI qcn rfl B.isinstance qaP (qaa (pv 5) (qaa (qcZ rfl B.tuple qcm rfl) qae))))) (qdG (qaz qfb (qaI qdR rfl B.len qga (qaa (pv 5) qae)) qad (nomark _)) (qdG (qb5 (qbP (c0.pe hr (by decide) rfl (qaa (qaq qaj (pv 5) qad (fun _ _=>rfl)) qae)))) (qel (qaz (qjp hu) (qaq qaj (pv 5) qad (fun _ _=>rfl)) (qax (qaa qad (qaa qad qae))) (nomark _))))))) (qak (qas qdn)) qaL)
    (qag (qbD (PW.pt (qdG (qb5 (qbP (c0.pe hr (by decide) rfl (qaa (qaq qaj (pv 5) qad (fun _ _=>rfl)) qae)))) (qdG (qaz qfb (qaq qaj (qaq qaj (pv 5) qad (fun _ _=>rfl)) qad (fun _ _=>rfl)) qad (nomark _)) (qel (qaz qhi (qaq qaj (qaq qaj (pv 5) qad (fun _ _=>rfl)) qad (fun _ _=>rfl)) qad (nomark _)))))) (qak (qas qdn)) qaL)
    (qag (qaB (i:=6) nd rfl li (c1.pe hr (by decide) rfl (qaa (qaq qaj (qaq qaj (pv 5) qad (fun _ _=>rfl)) qad (fun _ _=>rfl)) qae)))
    (qag (qbD (qaz qkO (pv 6) qjg (nomark _)) (qak (qas qdn)) qaL)
    (qag (qbc (qdo PySem.F.plainAttrs_list PySem.F.slot_list_append PySem.F.type_list_append qaR (pv 3) (qaa (qax (qaa (qaq qaj (pv 5) qad (fun _ _=>rfl)) (qaa (pv 6) qae))) qae)))
    (qak (qbc (qdo PySem.F.plainAttrs_list PySem.F.slot_list_append PySem.F.type_list_append qaR (pv 4) (qaa (qaq qaj (qaq qaj (pv 5) qad (fun _ _=>rfl)) qad (fun _ _=>rfl)) qae))))))))))
    (qag (qbD (PW.pt (qdG (qaz (qhH ht) (pv 4) (qaI qfo rfl B.sorted qfn (qaa (pv 4) qae)) (nomark _)) (qel (qb5 (qbP (c2.pe hr (by decide) rfl (qaa (pv 4) qae))))))) (qak (qas qdn)) qaL)
    (qak (qas (qeG (qjr ht) (c3.pe hr (by decide) rfl (qaa (pv 3) (qaa qad qae))) (pv 2) (nomark _))))))))))
theorem qlE (F:Fun K "_law_c" "_law_c" qlT f fd) (B:Bl K mg) (c0:qdD P w K mg base) (c1:qbI P w K mg base):FnOk P w K mg base CX0 2 f fd ["_law_cell", "_law_k"] (qet K):=okm F (qlA ) fun hr nd hu ht=>(qak (qas (c1.pe hr (by decide) rfl (qaa (qaC qkM (c0.pe hr (by decide) rfl (qaa (pv 0) (qaa (pv 1) (qaa qad qae)))) qad) (qaa (qaC qdK qad (c0.pe hr (by decide) rfl (qaa (pv 0) (qaa (qaC qdK (pv 1) qad) (qaa qad qae))))) qae)))))
theorem qim (F:Fun K "_law_rows" "_law_rows" qiE f fd) (B:Bl K mg) (c0:qeB P w K mg base) (c1:qjb P w K mg base) (c2:qdD P w K mg base) (c3:qcW P w K mg base):FnOk P w K mg base CX0 3 f fd ["_law_cells"] (qcK K):=okm F (qif ) fun hr nd hu ht=>(qag (qaB (i:=1) nd rfl li (qcC qae))
    (qag (qaB (i:=2) nd rfl li (qcC qae))
    (qag (qcs PassesOwn.never rfl (qbK (pv 0)) (qar (i:=3) nd rfl li) (qag (qf1 (c0.pe hr (by decide) rfl (qaa (pv 3) qae)) (qbk rfl (qat (qar (i:=4) nd rfl li) (qat (qar (i:=5) nd rfl li) qbj))))
    (qag (qaB (i:=6) nd rfl li (c1.pe hr (by decide) rfl (qaa (pv 3) (qaa qad qae))))
    (qag (qbc (qdo PySem.F.plainAttrs_list PySem.F.slot_list_append PySem.F.type_list_append qaR (pv 1) (qaa (qax (qaa (pv 6) (qaa (pv 4) qae))) qae)))
    (qag (qbc (qdo PySem.F.plainAttrs_list PySem.F.slot_list_append PySem.F.type_list_append qaR (pv 2) (qaa (qax (qaa (pv 6) (qaa (pv 5) qae))) qae)))
    (qak (qbD (qaz qkN (c2.pe hr (by decide) rfl (qaa (pv 3) (qaa qad (qaa qad qae)))) qad (nomark _)) (qag (qbc (qdo PySem.F.plainAttrs_list PySem.F.slot_list_append PySem.F.type_list_append qaR (pv 1) (qaa (qax (qaa (c3.pe hr (by decide) rfl (qaa (pv 6) (qaa (qax (qaa (qfa qdc qad) (qaa qad qae))) qae))) (qaa (pv 4) qae))) qae)))
    (qak (qbc (qdo PySem.F.plainAttrs_list PySem.F.slot_list_append PySem.F.type_list_append qaR (pv 2) (qaa (qax (qaa (c3.pe hr (by decide) rfl (qaa (pv 6) (qaa (qax (qaa (qfa qdc qad) (qaa qad qae))) qae))) (qaa (pv 5) qae))) qae))))) qaL)))))))
    (qak (qas (qax (qaa (pv 1) (qaa (pv 2) qae))))))))
theorem qd4 (F:Fun K "_law_log_number" "_law_log_number" qd9 f fd) (B:Bl K mg) (c0:qgp P w K mg base) (c1:qjb P w K mg base) (c2:qcy P w K mg base):FnOk P w K mg base CX0 4 f fd ["_law_cell", "_law_cells"] (qaE K):=okm F (qd2 ) fun hr nd hu ht=>(qag (qf1 (c0.pe hr (by decide) rfl (qaa (pv 1) qae)) (qbk rfl (qat (qar (i:=2) nd rfl li) (qat (qar (i:=3) nd rfl li) qbj))))
    (qag (qge (i:=4) (N:=["_law_pair"]) (capt:=[none]) nd rfl li rfl (BlkOk.of rfl rfl rfl rfl (fun _ h=>nomatch h) rfl rfl rfl) (qbK (pv 2)) (fun _ _ _ _=>(qar (i:=0) (show (["_law_pair"]:List PySem.Str).Nodup by decide +kernel) rfl li)) (fun _ _ _ _=>(qaz (qhH ht) (qaq qaj (pv 0) qad (fun _ _=>rfl)) (qax (qaa qad (qaa qad qae))) (nomark _))) (fun _ _ _ _=>(pv 0)))
    (qak (qas (qax (qaa (qax (qaa (c1.pe hr (by decide) rfl (qaa (pv 0) (qaa qad qae))) (qaa (qb7 qfk rfl B.tuple qcm (qaa (pv 4) qae)) qae))) (qaa (c2.pe hr (by decide) rfl (qaa (pv 3) (qaa qad qae))) qae)))))))
theorem qlF (F:Fun K "law" "law" qhu f fd) (B:Bl K mg) (c0:qjD P w K mg base) (c1:qcv P w K mg base) (c2:qe6 P w K mg base) (c3:qgo P w K mg base) (c4:qcu P w K mg base) (c5:qjb P w K mg base) (c6:qcW P w K mg base) (c7:qeA P w K mg base):FnOk P w K mg base CX0 8 f fd ["_law_script"] (qfq K):=okm F (qlD ) fun hr nd hu ht=>(qag (qf1 (c1.pe hr (by decide) rfl (qaa (c0.pe hr (by decide) rfl (qaa (pv 0) (qaa qad qae))) (qaa (qeH qfm (pv 0) (qdL qad) (qdL qad)) qae))) (qbk rfl (qat (qar (i:=1) nd rfl li) (qat (qar (i:=2) nd rfl (Or.inr rfl)) qbj))))
    (qag (qf1 (c1.pe hr (by decide) rfl (qaa (c0.pe hr (by decide) rfl (qaa (pv 0) (qaa qad qae))) (qaa (qeH qfm (pv 0) (qdL qad) (qdL qad)) qae))) (qbk rfl (qat (qar (i:=3) nd rfl li) (qat (qar (i:=4) nd rfl (Or.inr rfl)) qbj))))
    (qag (qhC (i:=5) (N:=["_law_j", "_law_first", "_law_second"]) (capt:=[none,some 2,some 4]) nd rfl li rfl (BlkOk.of rfl rfl rfl rfl (List.forall_mem_cons.mpr ⟨rfl,(List.forall_mem_singleton.mpr rfl)⟩) rfl rfl rfl) (qdI rfl B.range (qaa qad qae)) (fun _ _ _ _=>(qar (i:=0) (show (["_law_j", "_law_first", "_law_second"]:List PySem.Str).Nodup by decide +kernel) rfl li)) (fun _ _ _ _=>(c2.pe hr (by decide) rfl (qaa (qaq qdQ (pv 1) (pv 0) (fun _ _=>rfl)) (qaa (qaq qdQ (pv 2) (pv 0) (fun _ _=>rfl)) qae)))))
    (qag (qbD (qb5 (qbP (c4.pe hr (by decide) rfl (qaa (c3.pe hr (by decide) rfl (qaa (pv 1) (qaa (pv 3) qae))) (qaa (c2.pe hr (by decide) rfl (qaa (qaq qaj (pv 1) qad (fun _ _=>rfl)) (qaa (qaq qaj (pv 3) qad (fun _ _=>rfl)) qae))) (qaa (pv 5) qae)))))) (qak (qas qdn)) qaL)
    (qag (qaB (i:=6) nd rfl (Or.inr rfl) (c5.pe hr (by decide) rfl (qaa (c0.pe hr (by decide) rfl (qaa (pv 0) (qaa qad qae))) (qaa qad qae))))
    (qag (qhC (i:=5) (N:=["_law_weight", "_law_c_here"]) (capt:=[none,some 6]) nd rfl li rfl (BlkOk.of rfl rfl rfl rfl (List.forall_mem_singleton.mpr rfl) rfl rfl rfl) (qbK (pv 2)) (fun _ _ _ _=>(qar (i:=0) (show (["_law_weight", "_law_c_here"]:List PySem.Str).Nodup by decide +kernel) rfl li)) (fun _ _ _ _=>(c6.pe hr (by decide) rfl (qaa (pv 1) (qaa (pv 0) qae)))))
    (qag (qbD (qb5 (qbP (c4.pe hr (by decide) rfl (qaa (c7.pe hr (by decide) rfl (qaa (pv 1) (qaa (pv 6) qae))) (qaa (c6.pe hr (by decide) rfl (qaa (pv 6) (qaa (qaq qaj (pv 1) qad (fun _ _=>rfl)) qae))) (qaa (pv 5) qae)))))) (qak (qas qdn)) qaL)
    (qak (qas (qeG (qjr ht) (c3.pe hr (by decide) rfl (qaa (pv 1) (qaa (c7.pe hr (by decide) rfl (qaa (pv 1) (qaa (qax (qaa (qfa qdc qad) (qaa qad qae))) qae))) qae))) (qax (qaa (qax (qaa qad (qaa qad qae))) (qaa (qax qae) qae))) (nomark _)))))))))))
end
end Bs
namespace Bs
open PySem PySem.Spec PyProof.Rows L2
set_option maxHeartbeats 4000000
open Hd
theorem qkw {K:W.Frag} {st:Stmt} {f c:Addr} {n:Str} {pm:Value} (l:K.lookup f=some (fnO n st pm c)) (e:PySem.W.codeIn K (.ref c) n=true) (k:PySem.W.keepIn K (.ref f)=true):Fun K n n st f (PySem.W.fnOf n n (qaY st) (qaM st) (qao st) .none .none .none pm none (.ref c) .none):=qkV (st:=st) l e k
theorem qlG {P:Program} {K:W.Frag} {w:World} {h base:Heap} {mg:Str→Option Value} {k:Nat} {f:Addr} {fd:FuncData} {n:Str} {ps:List Str} {sp:Sp} (X:K.In h) (G:h.Ns mainGlobals mg) (ok:FnOk P w K mg base CX0 k f fd ps sp) (b:Binds K fd ps []) (e:PySem.W.keepIn K (.ref f)=true) (a:PySem.W.nsIn K mainGlobals n=some (some (.ref f))):Cal P w K mg base k n ps sp:=⟨f,fd,ok,b,e,PySem.W.mg_of X G a⟩
theorem qmg {us:List Value} {n:Nat} (h:us.length=n+1):∃ x t,us=x::t∧t.length=n:=by cases us with | nil=>cases h | cons x t=>exact ⟨x,t,rfl,Nat.succ.inj h⟩
theorem qms (us:List Value) (h:us.length=1):∃ x0,us=[x0]:=by obtain ⟨x,t,rfl,q⟩:=qmg h;exact ⟨x,by rw [List.length_eq_zero_iff.mp q]⟩
theorem qmt (us:List Value) (h:us.length=2):∃ x0 x1,us=[x0,x1]:=by obtain ⟨x,t,rfl,q⟩:=qmg h;obtain ⟨x1,rfl⟩:=qms t q;exact ⟨x,x1,rfl⟩
theorem qmR (us:List Value) (h:us.length=3):∃ x0 x1 x2,us=[x0,x1,x2]:=by obtain ⟨x,t,rfl,q⟩:=qmg h;obtain ⟨x1,x2,rfl⟩:=qmt t q;exact ⟨x,x1,x2,rfl⟩
theorem qbh {P:Program} {K:W.Frag} {w:World} {h base:Heap} {mg:Str→Option Value} {k:Nat} {f c:Addr} {n:Str} {ps:List Str} {sp:Sp} {st:Stmt} {pm:Value} (X:K.In h) (G:h.Ns mainGlobals mg) (ok:Fun K n n st f (PySem.W.fnOf n n (qaY st) (qaM st) (qao st) .none .none .none pm none (.ref c) .none)→FnOk P w K mg base CX0 k f (PySem.W.fnOf n n (qaY st) (qaM st) (qao st) .none .none .none pm none (.ref c) .none) ps sp) (l:K.lookup f=some (fnO n st pm c):=by kernel_rfl) (e:PySem.W.codeIn K (.ref c) n=true:=by kernel_rfl) (q:PySem.W.keepIn K (.ref f)=true:=by kernel_rfl) (a:PySem.W.nsIn K mainGlobals n=some (some (.ref f)):=by kernel_rfl) (b:∀ (kV doc pm:Value) (an:Option Addr) (cdv ct:Value) (us:List Value),us.length=ps.length→bindArgs (PySem.W.fnOf n n (qaY st) (qaM st) (qao st) .none kV doc pm an cdv ct) ⟨us,[]⟩=pure (ps.zip us):=by first | exact fun _ _ _ _ _ _ us hl=>by obtain ⟨_,rfl⟩:=qms us hl;rfl | exact fun _ _ _ _ _ _ us hl=>by obtain ⟨_,_,rfl⟩:=qmt us hl;rfl | exact fun _ _ _ _ _ _ us hl=>by obtain ⟨_,_,_,rfl⟩:=qmR us hl;rfl | exact fun _ _ _ _ _ _ us hl=>by cases List.length_eq_zero_iff.mp hl;rfl):Cal P w K mg base k n ps sp:=qlG X G (ok (qkw l e q)) ((qkw l e q).binds b) q a
section
variable {P:Program} {w:World} {mg:Str→Option Value} {base h:Heap} (X:(hp w.params).In h) (G:h.Ns mainGlobals mg) (B:Bl (hp w.params) mg)
include X G B
theorem qbf:qaT P w (hp w.params) mg base:=qbh (f:=21) (c:=20) (pm:=mo0) X G fun F=>qc8 F B
theorem qlH:qjD P w (hp w.params) mg base:=qbh (f:=78) (c:=77) (pm:=mo3) X G fun F=>qkv F B
theorem qe7:qdD P w (hp w.params) mg base:=qbh (f:=85) (c:=84) (pm:=mo3) X G fun F=>qik F B
theorem qcr:qbI P w (hp w.params) mg base:=qbh (f:=92) (c:=91) (pm:=mo3) X G fun F=>qfW F B
theorem qeD:qc7 P w (hp w.params) mg base:=qbh (f:=127) (c:=126) (pm:=mo3) X G fun F=>qfX F B
theorem qe8:qcY P w (hp w.params) mg base:=qbh (f:=155) (c:=154) (pm:=mo3) X G fun F=>qei F B
theorem qin:qfT P w (hp w.params) mg base:=qbh (f:=28) (c:=27) (pm:=mo1) X G fun F=>qjc F B (qbf X G B)
theorem qgq:qe6 P w (hp w.params) mg base:=qbh (f:=99) (c:=98) (pm:=mo3) X G fun F=>qil F B (qcr X G B)
theorem qd5:qcW P w (hp w.params) mg base:=qbh (f:=106) (c:=105) (pm:=mo3) X G fun F=>qg3 F B (qcr X G B)
theorem qe9:qcX P w (hp w.params) mg base:=qbh (f:=120) (c:=119) (pm:=mo3) X G fun F=>qeh F B (qcr X G B)
theorem qg4:qeB P w (hp w.params) mg base:=qbh (f:=134) (c:=133) (pm:=mo3) X G fun F=>qfY F B (qeD X G B) (qe7 X G B)
theorem qg5:qeC P w (hp w.params) mg base:=qbh (f:=148) (c:=147) (pm:=mo3) X G fun F=>qfZ F B (qeD X G B)
theorem qkx:qjb P w (hp w.params) mg base:=qbh (f:=169) (c:=168) (pm:=mo3) X G fun F=>qlE F B (qe7 X G B) (qcr X G B)
theorem qjE:qii P w (hp w.params) mg base:=qbh (f:=35) (c:=34) (pm:=mo1) X G fun F=>qku F B (qin X G B)
theorem qio:qfU P w (hp w.params) mg base:=qbh (f:=42) (c:=41) (pm:=mo1) X G fun F=>qjd F B (qin X G B)
theorem qd6:qcy P w (hp w.params) mg base:=qbh (f:=141) (c:=140) (pm:=mo3) X G fun F=>qfw F B (qd5 X G B) (qgq X G B)
theorem qje:qgp P w (hp w.params) mg base:=qbh (f:=176) (c:=175) (pm:=mo3) X G fun F=>qim F B (qg4 X G B) (qkx X G B) (qe7 X G B) (qd5 X G B)
theorem qd7:qck P w (hp w.params) mg base:=qbh (f:=59) (c:=58) (pm:=mo2) X G fun F=>qdu F B (qbf X G B) (qjE X G B)
theorem qej:qcu P w (hp w.params) mg base:=qbh (f:=162) (c:=161) (pm:=mo3) X G fun F=>qd3 F B (qe9 X G B) (qg5 X G B) (qe8 X G B) (qd6 X G B)
theorem qek:qcv P w (hp w.params) mg base:=qbh (f:=181) (c:=180) (pm:=mo3) X G fun F=>qd4 F B (qje X G B) (qkx X G B) (qd6 X G B)
theorem qdv:qb2 P w (hp w.params) mg base:=qbh (f:=52) (c:=51) (pm:=mo2) X G fun F=>qda F B (qbf X G B) (qd7 X G B)
theorem qb3 (XB:(hp w.params).In base):qbe P w (hp w.params) mg base:=qbh (f:=47) (c:=46) (pm:=mo2) X G fun _=>qc9 (by kernel_rfl) (by kernel_rfl) (PySem.W.codeHd_of_K XB (by kernel_rfl)) ⟨4,⟨.type "module", some builtinsNs,.plain,#[]⟩,PySem.W.mg_of X G (n := "__builtins__") (v:=.ref 4) (by kernel_rfl),by decide,by decide,by decide,XB 4 _ (by kernel_rfl),rfl,rfl,rfl⟩ B (qio X G B) (qdv X G B)
theorem qjf (XB:(hp w.params).In base):qgo P w (hp w.params) mg base:=qbh (f:=66) (c:=65) (pm:=mo2) X G fun F=>qij F B (qjE X G B) (qb3 X G B XB)
theorem qg6 (XB:(hp w.params).In base):qeA P w (hp w.params) mg base:=qbh (f:=71) (c:=70) (pm:=mo2) X G fun F=>qfV F B (qio X G B) (qb3 X G B XB)
end
theorem all_mk {l:PySem.W.OpenLaw} {w:World} {h:Heap} {mg:Str→Option Value} {fa:Addr} (X:(hp w.params).In h) (G:h.Ns mainGlobals mg) (hfa:mg "law" = some (.ref fa))
    : ∃ fd:FuncData,(∀ (s:Shared) (v:Value),BindsTo s fd ⟨[v],[]⟩ [("_law_script", v)])∧∀ base:Heap,(hp w.params).In base→base.Ns mainGlobals mg→FnOk l.prog w (hp w.params) mg base CX0 8 fa fd ["_law_script"] (qfq (hp w.params)):=by
  have e:=hfa.symm.trans (PySem.W.mg_of X G (n := "law") (v:=.ref 186) (by kernel_rfl))
  cases e
  have B:Bl (hp w.params) mg:=⟨PySem.W.mg_none_of X G (by kernel_rfl),PySem.W.mg_none_of X G (by kernel_rfl),PySem.W.mg_none_of X G (by kernel_rfl),PySem.W.mg_none_of X G (by kernel_rfl),PySem.W.mg_none_of X G (by kernel_rfl),PySem.W.mg_none_of X G (by kernel_rfl),PySem.W.mg_none_of X G (by kernel_rfl),PySem.W.mg_none_of X G (by kernel_rfl),PySem.W.mg_none_of X G (by kernel_rfl),PySem.W.mg_none_of X G (by kernel_rfl)⟩
  have FL:=qkw (K:=hp w.params) (st:=qhu) (f:=186) (c:=185) (n := "law") (pm:=mo3) (by kernel_rfl) (by kernel_rfl) (by kernel_rfl)
  refine ⟨PySem.W.fnOf "law" "law" (qaY qhu) (qaM qhu) (qao qhu) .none .none .none mo3 none (.ref 185) .none,fun s v=>.of_eq rfl,fun base KB _=>?_⟩
  exact qlF FL B (qlH X G B) (qek X G B) (qgq X G B) (qjf X G B KB) (qej X G B) (qkx X G B) (qd5 X G B) (qg6 X G B KB)
theorem qmh {K:W.Frag} {H:Hp} {a T:Addr} {xs:List V} {ps:Array Value} (hK:K.lookup T=none) (hT:H T=some (.tbl ps)) (hS:SqL K H a xs):a≠T:=fun z=>by
  subst z
  rcases hS with (h | ⟨o,h⟩) | ⟨o,its,n,h,_⟩
  · rw [hT] at h;cases h
  · rw [hT] at h;cases h
  · rw [hK] at h;cases h
theorem ctab {h:Heap} (e:h.get? 46=some (cdO "settled_number" 227 19 2 3 43 (R 44) N N N (R 45) 230 231)):isCodeTable h 44:=⟨46,_,_,e,rfl,rfl,rfl⟩
theorem walk {l:PySem.W.OpenLaw} {q:Program} {loose:List Str} {XP:(Str→Option Value)→Heap→Prop} {YP:World→Heap→Prop} {d:DefRec} {K:Params→W.Frag} (hn:l.most=some 63) (hdf:d.params.defaults=[]) (hq:importsNone q=true) (ht:∀ w,(model l.prog w).prog.given.tree=none)
    (hY:∀ (w:World) (h:Heap),YP w h→(K w.params).In h)
    (F:∀ (w:World) (mg:Str→Option Value) (fa:Addr) (h:Heap),(K w.params).In h→h.Ns mainGlobals mg→mg d.name=some (.ref fa)→
      ∃ fd:FuncData,(∀ (s:Shared) (u:Value),BindsTo s fd ⟨[u],[]⟩ [("_law_script", u)])∧∀ base:Heap,(K w.params).In base→base.Ns mainGlobals mg→FnOk l.prog w (K w.params) mg base CX0 8 fa fd ["_law_script"] (qfq (K w.params)))
    (hKT:∀ w:World,(K w.params).lookup 44=none) (hT:∀ (w:World) (h:Heap),YP w h→h.get? 44=some { cls:=.none,data:=.fields #[] }∧isCodeTable h 44) :
    PySem.W.WalkO q loose XP YP l.row.toRowW d [] (fun f vs=>PySem.call f vs):=
  L2.walk_ofT (T:=44) (n:=63) (k:=8) (x := "_law_script") (CX:=fun _=>CX0) (sp:=fun w=>qfq (K w.params)) hn (by decide) hdf hq ht ⟨rfl,by decide,by decide⟩ hY F hKT hT (fun w _ a ns hl hT hS=>⟨a,ns,rfl,hS,hl,qmh (hKT w) hT hS,hT,fun _=>rfl⟩) fun _ _ _ _ _ z=>z
end Bs
open PySem PySem.W PyProof.Rows
set_option maxRecDepth 100000 in
set_option maxHeartbeats 0 in
theorem PySem.Challenge.cw_backslope_k72_sums_of_log_numbers_holds : PySem.Challenge.rw_backslope_k72_sums_of_log_numbers.Holds := by
  w_on; o_law
  refine PySem.W.holds_open (q := Bs.Hd.vw) (loose := []) (Xt := fun s => PySem.W.xlAt Bs.Hd.vw [] s && PySem.W.recOk (PySem.W.RowW.records (PySem.W.OpenRow.toRowW (PySem.W.OpenLaw.row PySem.Challenge.rw_backslope_k72_sums_of_log_numbers))) s) (XP := PySem.W.XL Bs.Hd.vw []) (Yf := Bs.Hd.hk.obs) (Ya := Bs.Hd.hk.val) (YP := Bs.Hd.hk.says) (N := 1782) Bs.Hd.left Bs.Hd.hk.of Bs.Hd.hk.keeps (fun s e => PySem.W.xl_of s (Bool.and_eq_true_iff.mp e).1) PySem.W.XL.keeps (by rfl) (by rfl) (by rfl) (fun s e => PySem.W.recFacts_of (Bool.and_eq_true_iff.mp e).2) (by rfl) (by first | assumption | decide +kernel) (by decide +kernel) ⟨rfl, rfl, rfl, rfl, rfl, by decide +kernel⟩ ?hw ?hc
  case hw => w_witness2
  case hc => exact Bs.walk (l := PySem.Challenge.rw_backslope_k72_sums_of_log_numbers) (K := Bs.Hd.hp) rfl rfl (by decide +kernel) (fun _ => rfl) (fun w h Y => Y.1) (fun w mg fa h KX G hmg => Bs.all_mk KX G hmg) (fun w => by kernel_rfl) (fun w h Y => ⟨Y.2 44 (by decide), Bs.ctab (Y.1 46 _ (by kernel_rfl))⟩)
#print axioms PySem.Challenge.cw_backslope_k72_sums_of_log_numbers_holds
