import PyProof.Rows.All
import Wide.All
import OpenK.AllK
import Wide.FinOn
import Lean
import PyProof.EqAt
import PyProof.EqKinds
import PyProof.TupleCall
import PySem.Challenge.RW_backslope_k97_logarithms_near_nought
set_option Elab.async false
set_option linter.all false
set_option maxRecDepth 100000
namespace L2
open PySem PySem.Spec PyProof.Rows
noncomputable abbrev Key := Sum Int Str
noncomputable def qlM : Key → Value → Bool
  | .inl k, v => Value.isInt k v
  | .inr x, v => Value.isStrOf x v
noncomputable def qn9 (w : World) : Key → Int
  | .inl k => hashInt k
  | .inr x => hashStr w x
theorem qaH : ∀ {k : Key} {v : Value}, qlM k v = true → (∃ i t, k = Sum.inl i ∧ v = Value.int i t) ∨ (∃ x t, k = Sum.inr x ∧ v = Value.str x t)
  | .inl i, v, h => by
    obtain ⟨t, e⟩ := Value.isInt_shape (k := i) (v := v) h
    exact .inl ⟨i, t, rfl, e⟩
  | .inr x, v, h => by
    obtain ⟨t, e⟩ := Value.isStrOf_shape (x := x) (v := v) h
    exact .inr ⟨x, t, rfl, e⟩
theorem qlN (a b : Int) : decide ((Sum.inl a : Key) = Sum.inl b) = (a == b) := by
  by_cases e : a = b
  · subst e; simp
  · have h : ¬ (Sum.inl a : Key) = Sum.inl b := fun q => e (Sum.inl.inj q)
    rw [decide_eq_false h]
    exact (beq_eq_false_iff_ne.mpr e).symm
theorem qlO (a b : Str) : decide ((Sum.inr a : Key) = Sum.inr b) = decide (a = b) := by
  by_cases e : a = b
  · subst e; simp
  · have h : ¬ (Sum.inr a : Key) = Sum.inr b := fun q => e (Sum.inr.inj q)
    rw [decide_eq_false h, decide_eq_false e]
theorem qlP (a : Int) (b : Str) : decide ((Sum.inl a : Key) = Sum.inr b) = false := decide_eq_false (fun q => nomatch q)
theorem qlQ (a : Str) (b : Int) : decide ((Sum.inr a : Key) = Sum.inl b) = false := decide_eq_false (fun q => nomatch q)
noncomputable def qeq (prog : Program) (w : World) : PySem.KeyKind prog w Key where
  is := qlM
  hash := qn9 w
  inj := fun v a b ha hb => by
    rcases qaH ha with ⟨i, t, rfl, rfl⟩ | ⟨x, t, rfl, rfl⟩
    · rcases qaH hb with ⟨j, u, rfl, e⟩ | ⟨y, u, rfl, e⟩
      · injection e with e1 _; rw [e1]
      · exact nomatch e
    · rcases qaH hb with ⟨j, u, rfl, e⟩ | ⟨y, u, rfl, e⟩
      · exact nomatch e
      · injection e with e1 _; rw [e1]
  byValue := fun k v h => by
    rcases qaH h with ⟨i, t, rfl, rfl⟩ | ⟨x, t, rfl, rfl⟩ <;> rfl
  pyHash := fun hv h => by
    rcases qaH hv with ⟨i, t, rfl, rfl⟩ | ⟨x, t, rfl, rfl⟩
    · exact wpAny_pyHash_int h
    · exact wpAny_pyHash_str h
  eqBool := fun hu hv h => by
    rcases qaH hu with ⟨i, t, rfl, rfl⟩ | ⟨x, t, rfl, rfl⟩
    · rcases qaH hv with ⟨j, u, rfl, rfl⟩ | ⟨y, u, rfl, rfl⟩
      · rw [qlN] at h; exact wpAny_eqBool_int h
      · rw [qlP] at h; exact SeqAt.EqAt.int_str i t y u _ _ _ _ h
    · rcases qaH hv with ⟨j, u, rfl, rfl⟩ | ⟨y, u, rfl, rfl⟩
      · rw [qlQ] at h; exact SeqAt.EqAt.str_int x t j u _ _ _ _ h
      · rw [qlO] at h; exact wpAny_eqBool_str h
  «strs» := fun k x t v h => by
    rcases qaH h with ⟨i, u, rfl, e⟩ | ⟨y, u, rfl, e⟩
    · exact nomatch e
    · injection e with e1 _
      subst e1
      cases v <;> rfl
end L2
namespace L2
open PySem PySem.Spec PyProof.Rows
inductive V where
  | non | bl (b : Bool) | int (i : Int) | str (x : Str) | byt (b : Array UInt8) | flt (b : UInt64) | ref (a : Addr) | ty (n : String)
  deriving DecidableEq
noncomputable def RelV : V → Value → Prop
  | .non, u => u = Value.none
  | .bl b, u => u = Value.bool b
  | .int i, u => ∃ t, u = Value.int i t
  | .str x, u => ∃ t, u = Value.str x t
  | .byt b, u => ∃ t, u = Value.bytes b t
  | .flt b, u => ∃ t, u = Value.float b t
  | .ref a, u => u = Value.ref a
  | .ty n, u => u = Value.type n
noncomputable abbrev Vals : List V → List Value → Prop := Paired RelV
theorem Vals.length {xs : List V} {us : List Value} (r : Vals xs us) : xs.length = us.length := Paired.length r
theorem Vals.get : ∀ {xs : List V} {us : List Value} {i : Nat} {x : V}, Vals xs us → xs[i]? = some x → ∃ u, us[i]? = some u ∧ RelV x u
  | _, _, _, _, .nil, e => by simp at e
  | _, _, 0, _, .cons r _, e => by simp at e; subst e; exact ⟨_, rfl, r⟩
  | _, _, i + 1, x, .cons _ t, e => by
    obtain ⟨u, h1, h2⟩ := Vals.get (i := i) (x := x) t (by simpa using e)
    exact ⟨u, by simpa using h1, h2⟩
theorem Vals.set {x : V} {u : Value} (r : RelV x u) : ∀ {xs : List V} {us : List Value} (i : Nat), Vals xs us → Vals (xs.set i x) (us.set i u)
  | _, _, _, .nil => .nil
  | _, _, 0, .cons _ t => .cons r t
  | _, _, i + 1, .cons q t => .cons q (Vals.set r i t)
theorem Vals.append : ∀ {xs ys : List V} {us ws : List Value}, Vals xs us → Vals ys ws → Vals (xs ++ ys) (us ++ ws)
  | _, _, _, _, .nil, s => s
  | _, _, _, _, .cons r t, s => .cons r (Vals.append t s)
theorem Vals.take : ∀ {xs : List V} {us : List Value} (n : Nat), Vals xs us → Vals (xs.take n) (us.take n)
  | _, _, 0, _ => .nil
  | _, _, _ + 1, .nil => .nil
  | _, _, n + 1, .cons r t => .cons r (Vals.take n t)
theorem Vals.drop : ∀ {xs : List V} {us : List Value} (n : Nat), Vals xs us → Vals (xs.drop n) (us.drop n)
  | _, _, 0, r => r
  | _, _, _ + 1, .nil => .nil
  | _, _, n + 1, .cons _ t => Vals.drop n t
noncomputable def qnj : Option V → Option Value → Prop
  | some v, some u => RelV v u
  | none, none => True
  | _, _ => False
noncomputable def KV {κ : Type} : List (κ × V) → List (κ × Value) → Prop := Paired fun (p : κ × V) (q : κ × Value) => p.1 = q.1 ∧ RelV p.2 q.2
noncomputable def kV : Key → V
  | .inl i => .int i
  | .inr x => .str x
inductive HO where

  | lst (xs : List V)

  | tup (xs : List V)

  | dK (kvs : List (Key × V)) | dT (kvs : List (List Key × V))

  | set (S : Int → Bool) (n : Nat)

  | ins (C dx : Addr) (fs : List (Str × V))

  | own (x : Addr)

  | xd (fs : List (Str × V))

  | met (f x : Addr)

  | rng (lo hi : Int)

  | frz (o : Obj) (u : HO)

  | tbl (ps : Array Value)

  | ext (φ : Heap → Prop)
noncomputable abbrev Hp := Addr → Option HO
noncomputable def upd (H : Hp) (a : Addr) (o : HO) : Hp := fun b => if b = a then some o else H b
theorem qad {H : Hp} {a : Addr} {o : HO} : upd H a o a = some o := by unfold upd; rw [if_pos rfl]
theorem qal {H : Hp} {a b : Addr} {o : HO} (h : b ≠ a) : upd H a o b = H b := by unfold upd; rw [if_neg h]
theorem qer {H : Hp} {a b : Addr} {o u : HO} (h : H a = some o) (h' : H b = some u) (d : o ≠ u) : a ≠ b := by
  intro e; subst e; rw [h] at h'; exact d (Option.some.inj h')
theorem qak {H : Hp} {a b : Addr} {o : HO} (h : H a = some o) (h' : H b = none) : a ≠ b := by
  intro e; subst e; rw [h] at h'; cases h'
section
variable (P : Program) (w : World)
noncomputable def ObjOk (H : Hp) (h : Heap) (a : Addr) : HO → Prop
  | .lst xs => xs.length ≤ sizeLine ∧ ∃ (its : List Value) (n : Nat), Vals xs its ∧ h.get? a = some { cls := .type "list", data := .seq its.toArray n }
  | .tup xs => xs.length ≤ sizeLine ∧ ∃ its : List Value, Vals xs its ∧ IsTup h a its.toArray
  | .dK kvs => kvs.length ≤ sizeLine ∧ (a == sysModules) = false ∧ ∃ vs, KV kvs vs ∧ h.DictOf (qeq P w) a vs
  | .dT kvs => kvs.length ≤ sizeLine ∧ (a == sysModules) = false ∧ ∃ xs : List (List Key × Addr × Value),
      Paired (fun (p : List Key × V) (q : List Key × Addr × Value) => p.1 = q.1 ∧ H q.2.1 = some (.tup (p.1.map kV)) ∧ RelV p.2 q.2.2) kvs xs ∧
      ∃ o es ep, h.get? a = some o ∧ o.ExactDict ∧ o.data = .dict es ep ∧ es.toList = xs.map (entryOfKey (tupleKind (qeq P w))) ∧ (xs.map (·.1)).Nodup
  | .set S n => h.SetOf (intKind P w) a S n
  | .ins C dx fs => H dx = some (.own a) ∧ fs.length ≤ 1000 ∧ dx ≠ a ∧ h.get? a = some (PySem.W.instObj C dx) ∧
      ∃ mA, h.Ns1 dx mA ∧ (∀ f, qnj (fs.lookup f) (mA f)) ∧ PySem.Within mA (fs.map (·.1))
  | .own _ => ∃ o, h.get? a = some o
  | .xd fs => ∃ mA, h.Ns1 a mA ∧ ∀ f, qnj (fs.lookup f) (mA f)
  | .rng lo hi => ∃ t u v, h.get? a = some { cls := .type "range", data := .fields #[.int lo t, .int hi u, .int 1 v] }
  | .frz o u => h.get? a = some o ∧ ObjOk H h a u
  | .tbl ps => h.get? a = some { cls := .none, data := .fields ps }
  | .met f x => h.get? a = some (PySem.W.methodObj (.ref f) (.ref x))
  | .ext φ => φ h ∧ (∃ o, h.get? a = some o) ∧ ∀ h1 h2 : Heap, φ h1 → (∀ o, h1.get? a = some o → h2.get? a = some o) → φ h2
noncomputable def HOk (H : Hp) (h : Heap) : Prop := ∀ a o, H a = some o → ObjOk P w H h a o
end
section
variable {P : Program} {w : World} {H H' : Hp} {h h' : Heap} {a : Addr} {o : HO}
theorem ObjOk.lt (x : ObjOk P w H h a o) : a < h.objs.size := by
  cases o with
  | lst xs => obtain ⟨_, _, _, _, e⟩ := x; exact Heap.lt_size e
  | tup xs => obtain ⟨_, _, _, p⟩ := x; exact p.lt
  | dK kvs => obtain ⟨_, _, _, _, o, _, _, e, _⟩ := x; exact Heap.lt_size e
  | dT kvs => obtain ⟨_, _, _, _, o, _, _, e, _⟩ := x; exact Heap.lt_size e
  | set S n => obtain ⟨o, _, _, _, e, _⟩ := x; exact Heap.lt_size e
  | ins C dx fs => obtain ⟨_, _, _, e, _⟩ := x; exact Heap.lt_size e
  | own y => obtain ⟨_, e⟩ := x; exact Heap.lt_size e
  | xd fs => obtain ⟨_, ⟨_, _, _, e, _⟩, _⟩ := x; exact Heap.lt_size e
  | rng lo hi => obtain ⟨_, _, _, e⟩ := x; exact Heap.lt_size e
  | frz ob u => obtain ⟨e, _⟩ := x; exact Heap.lt_size e
  | tbl ps => exact Heap.lt_size (show h.get? a = some _ from x)
  | met f y => exact Heap.lt_size (show h.get? a = some _ from x)
  | ext φ => obtain ⟨_, ⟨_, e⟩, _⟩ := x; exact Heap.lt_size e
theorem Paired.mapP {α β : Type} {F G : α → β → Prop} : ∀ {l₁ : List α} {l₂ : List β}, Paired F l₁ l₂ → (∀ a b, F a b → G a b) → Paired G l₁ l₂
  | _, _, .nil, _ => .nil
  | _, _, .cons r t, f => .cons (f _ _ r) (Paired.mapP t f)
theorem ObjOk.stay (x : ObjOk P w H h a o) (k : ∀ b u, (b = a ∨ H b = some (.own a)) → h.get? b = some u → h'.get? b = some u)
    (ho : ∀ b, H b = some (.own a) → H' b = some (.own a)) (ht : ∀ b xs, H b = some (.tup xs) → H' b = some (.tup xs)) : ObjOk P w H' h' a o := by
  induction o with
  | lst xs => obtain ⟨z, its, n, r, e⟩ := x; exact ⟨z, its, n, r, k _ _ (.inl rfl) e⟩
  | tup xs => obtain ⟨z, its, r, ob, e, c⟩ := x; exact ⟨z, its, r, ob, k _ _ (.inl rfl) e, c⟩
  | dK kvs => obtain ⟨z, y, vs, r, ob, es, ep, e, c⟩ := x; exact ⟨z, y, vs, r, ob, es, ep, k _ _ (.inl rfl) e, c⟩
  | dT kvs =>
    obtain ⟨z, y, xs, r, ob, es, ep, e, c⟩ := x
    exact ⟨z, y, xs, Paired.mapP r fun p q z => ⟨z.1, ht _ _ z.2.1, z.2.2⟩, ob, es, ep, k _ _ (.inl rfl) e, c⟩
  | set S n => obtain ⟨ob, es, ep, t, e, c⟩ := x; exact ⟨ob, es, ep, t, k _ _ (.inl rfl) e, c⟩
  | ins C dx fs =>
    obtain ⟨d, z, ne, e, mA, ⟨od, es, ep, e2, c⟩, r⟩ := x
    exact ⟨ho _ d, z, ne, k _ _ (.inl rfl) e, mA, ⟨od, es, ep, k _ _ (.inr d) e2, c⟩, r⟩
  | own y => obtain ⟨ob, e⟩ := x; exact ⟨ob, k _ _ (.inl rfl) e⟩
  | xd fs => obtain ⟨mA, ⟨od, es, ep, e, c⟩, r⟩ := x; exact ⟨mA, ⟨od, es, ep, k _ _ (.inl rfl) e, c⟩, r⟩
  | rng lo hi => obtain ⟨t, u, v, e⟩ := x; exact ⟨t, u, v, k _ _ (.inl rfl) e⟩
  | frz ob u ih => obtain ⟨e, q⟩ := x; exact ⟨k _ _ (.inl rfl) e, ih q⟩
  | tbl ps =>
    have e : h.get? a = some { cls := .none, data := .fields ps } := x
    show h'.get? a = some { cls := .none, data := .fields ps }
    exact k a _ (.inl rfl) e
  | met f y =>
    have e : h.get? a = some (PySem.W.methodObj (.ref f) (.ref y)) := x
    show h'.get? a = some (PySem.W.methodObj (.ref f) (.ref y))
    exact k a _ (.inl rfl) e
  | ext φ => obtain ⟨p, ⟨o, e⟩, st⟩ := x; exact ⟨st _ _ p fun o q => k _ _ (.inl rfl) q, ⟨o, k _ _ (.inl rfl) e⟩, st⟩
theorem HOk.lt (x : HOk P w H h) (e : H a = some o) : a < h.objs.size := (x a o e).lt
theorem HOk.fresh (x : HOk P w H h) (e : h.objs.size ≤ a) : H a = none := by
  cases q : H a with
  | none => rfl
  | some u => exact absurd (Nat.lt_of_lt_of_le (x.lt q) e) (Nat.lt_irrefl _)
theorem HOk.kept (x : HOk P w H h) (k : ∀ b u, h.get? b = some u → h'.get? b = some u) : HOk P w H h' := fun a o e =>
  (x a o e).stay (fun b u _ q => k b u q) (fun _ q => q) fun _ _ q => q
theorem HOk.laid (x : HOk P w H h) (k : ∀ b u, h.get? b = some u → h'.get? b = some u) (hp : h.objs.size ≤ a) (new : ObjOk P w (upd H a o) h' a o) : HOk P w (upd H a o) h' := fun b u e => by
  have hn := x.fresh hp
  by_cases hb : b = a
  · subst hb; rw [qad] at e; cases e; exact new
  · rw [qal hb] at e
    exact (x b u e).stay (fun c v _ q => k c v q) (fun c q => by rw [qal (qak q hn)]; exact q) fun c xs q => by rw [qal (qak q hn)]; exact q
end
noncomputable def Rd (H : Hp) (a : Addr) (u : HO) : Prop := H a = some u ∨ ∃ o, H a = some (.frz o u)
theorem Rd.of {H : Hp} {a : Addr} {u : HO} (h : H a = some u) : Rd H a u := .inl h
theorem Rd.ok {P : Program} {w : World} {H : Hp} {h : Heap} {a : Addr} {u : HO} (r : Rd H a u) (x : HOk P w H h) : ObjOk P w H h a u := by
  rcases r with r | ⟨o, r⟩
  · exact x a u r
  · obtain ⟨_, q⟩ := x a _ r
    exact q
noncomputable def Mut : Option HO → Prop
  | some (.lst _) => True
  | some (.dK _) => True
  | some (.dT _) => True
  | some (.set _ _) => True
  | some (.ins _ _ _) => True
  | some (.ext _) => True
  | _ => False
section
variable {P : Program} {w : World} {H : Hp} {h h' : Heap} {x e : Addr} {o' : HO}
theorem HOk.write (ok : HOk P w H h) (mu : Mut (H x)) (he : e = x ∨ H e = some (.own x)) (k : ∀ b u, b ≠ e → h.get? b = some u → h'.get? b = some u) (heo : ∃ u, h'.get? e = some u)
    (new : ObjOk P w (upd H x o') h' x o') : HOk P w (upd H x o') h' := fun b u q => by
  have nown : ∀ c y, H c = some (.own y) → c ≠ x := fun c y r z => by subst z; rw [r] at mu; exact mu
  have ntup : ∀ c xs, H c = some (.tup xs) → c ≠ x := fun c xs r z => by subst z; rw [r] at mu; exact mu
  by_cases hb : b = x
  · subst hb; rw [qad] at q; cases q; exact new
  · rw [qal hb] at q
    by_cases hbe : b = e
    · have q' : H b = some (.own x) := by
        rcases he with z | z
        · exact absurd (hbe.trans z) hb
        · rw [hbe]; exact z
      rw [q] at q'; cases q'
      obtain ⟨v, hv⟩ := heo
      exact ⟨v, by rw [hbe]; exact hv⟩
    · refine (ok b u q).stay (fun c v hc r => k c v ?_ r) (fun c r => by rw [qal (nown c b r)]; exact r) fun c xs r => by rw [qal (ntup c xs r)]; exact r
      rcases hc with rfl | hc
      · exact hbe
      · rintro rfl
        rcases he with z | z
        · exact nown c b hc z
        · rw [hc] at z; cases z; exact hb rfl
end
structure Un (fs ex : List Addr) (H H' : Hp) (h h' : Heap) : Prop where
  keep : ∀ b o, h.get? b = some o → H b = none → b ∉ fs → b ∉ ex → h'.get? b = some o
  slot : ∀ b o, h.get? b = some o → H b = none → b ∈ fs → b ∉ ex → ∃ sl, h'.get? b = some { o with slots := sl }
  free : ∀ b o, h.get? b = some o → H b = none → b ∉ ex → H' b = none
  there : ∀ b o, h.get? b = some o → b ∉ ex → ∃ o', h'.get? b = some o'
  tups : ∀ b xs, H b = some (.tup xs) → H' b = some (.tup xs)
  frzs : ∀ b o u, H b = some (.frz o u) → H' b = some (.frz o u)
  tbls : ∀ b ps, H b = some (.tbl ps) → ∃ more, H' b = some (.tbl (ps ++ more))
section
variable {fs fs' ex ex' : List Addr} {H H1 H2 : Hp} {h h1 h2 h' : Heap} {a x e : Addr} {o : HO}
theorem Un.any (u : Un fs ex H H1 h h1) {b : Addr} {ob : Obj} (q : h.get? b = some ob) (n : H b = none) (hx : b ∉ ex) : ∃ sl, h1.get? b = some { ob with slots := sl } := by
  by_cases hb : b ∈ fs
  · exact u.slot b ob q n hb hx
  · exact ⟨ob.slots, u.keep b ob q n hb hx⟩
theorem Un.trans (a : Un fs ex H H1 h h1) (b : Un fs ex H1 H2 h1 h2) : Un fs ex H H2 h h2 where
  keep := fun c ob q n hc hx => b.keep c ob (a.keep c ob q n hc hx) (a.free c ob q n hx) hc hx
  slot := fun c ob q n hc hx => by
    obtain ⟨sl, e1⟩ := a.slot c ob q n hc hx
    obtain ⟨sl', e2⟩ := b.slot c _ e1 (a.free c ob q n hx) hc hx
    exact ⟨sl', e2⟩
  free := fun c ob q n hx => by
    obtain ⟨o', e1⟩ := a.there c ob q hx
    exact b.free c o' e1 (a.free c ob q n hx) hx
  there := fun c ob q hx => by
    obtain ⟨o', e1⟩ := a.there c ob q hx
    exact b.there c o' e1 hx
  tups := fun c xs q => b.tups c xs (a.tups c xs q)
  frzs := fun c ob xs q => b.frzs c ob xs (a.frzs c ob xs q)
  tbls := fun c ps q => by
    obtain ⟨m1, e1⟩ := a.tbls c ps q
    obtain ⟨m2, e2⟩ := b.tbls c _ e1
    exact ⟨m1 ++ m2, by rw [e2, Array.append_assoc]⟩
theorem Un.kept (k : ∀ b u, h.get? b = some u → h'.get? b = some u) : Un fs ex H H h h' :=
  ⟨fun b ob q _ _ _ => k b ob q, fun b ob q _ _ _ => ⟨ob.slots, k b ob q⟩, fun _ _ _ n _ => n, fun b ob q _ => ⟨ob, k b ob q⟩, fun _ _ q => q, fun _ _ _ q => q, fun _ ps q => ⟨#[], by rw [q]; simp⟩⟩
theorem Un.refl : Un fs ex H H h h := Un.kept fun _ _ q => q
theorem Un.laid (k : ∀ b u, h.get? b = some u → h'.get? b = some u) (hp : h.objs.size ≤ a) (hn : H a = none) : Un fs ex H (upd H a o) h h' where
  keep := fun b u q _ _ _ => k b u q
  slot := fun b u q _ _ _ => ⟨u.slots, k b u q⟩
  free := fun b u q n _ => by rw [qal (Nat.ne_of_lt (Nat.lt_of_lt_of_le (Heap.lt_size q) hp))]; exact n
  there := fun b u q _ => ⟨u, k b u q⟩
  tups := fun b xs q => by rw [qal (qak q hn)]; exact q
  frzs := fun b u xs q => by rw [qal (qak q hn)]; exact q
  tbls := fun b ps q => ⟨#[], by rw [qal (qak q hn), q]; simp⟩
theorem Un.write (mu : Mut (H x)) (he : e = x ∨ H e = some (.own x)) (k : ∀ b u, b ≠ e → h.get? b = some u → h'.get? b = some u) (heo : ∃ u, h'.get? e = some u) : Un fs ex H (upd H x o) h h' := by
  have hx : ∀ b, H b = none → b ≠ x := fun b n z => by subst z; rw [n] at mu; exact mu
  have hb : ∀ b, H b = none → b ≠ e := fun b n z => by
    subst z
    rcases he with r | r
    · exact hx b n r
    · rw [n] at r; cases r
  have hm : ∀ b u, H b = some u → ¬ Mut (some u) → b ≠ x := fun b u q nm z => by subst z; rw [q] at mu; exact nm mu
  refine ⟨fun b u q n _ _ => k b u (hb b n) q, fun b u q n _ _ => ⟨u.slots, k b u (hb b n) q⟩, fun b u q n _ => by rw [qal (hx b n)]; exact n, fun b u q _ => ?_,
    fun b xs q => by rw [qal (hm b _ q fun z => z)]; exact q, fun b u xs q => by rw [qal (hm b _ q fun z => z)]; exact q, fun b ps q => ⟨#[], by rw [qal (hm b _ q fun z => z), q]; simp⟩⟩
  by_cases hbe : b = e
  · subst hbe; exact heo
  · exact ⟨u, k b u hbe q⟩
theorem Un.mono (u : Un fs ex H H1 h h1) (hs : ∀ b ∈ fs, b ∈ fs') (hx : ∀ b ∈ ex, b ∈ ex') : Un fs' ex' H H1 h h1 :=
  ⟨fun b ob q n hb he => u.keep b ob q n (fun z => hb (hs b z)) fun z => he (hx b z), fun _ _ q n _ he => u.any q n fun z => he (hx _ z), fun b ob q n he => u.free b ob q n fun z => he (hx b z), fun b ob q he => u.there b ob q fun z => he (hx b z), u.tups, u.frzs, u.tbls⟩
end
noncomputable def trk (h : Heap) (H : Hp) : List Addr := (List.range h.objs.size).filter fun a => (H a).isSome
noncomputable def qi8 (h : Heap) (H : Hp) : Heap := PySem.W.hideAll h (trk h H)
theorem qhi (h : Heap) (H : Hp) : (qi8 h H).objs.size = h.objs.size := PySem.W.hideAll_size _ _
theorem qjb {h : Heap} {H : Hp} {b : Addr} {o : Obj} (e : h.get? b = some o) (n : H b = none) : (qi8 h H).get? b = some o :=
  PySem.W.hideAll_get _ e fun hm => by
    have q : (H b).isSome = true := (List.mem_filter.mp hm).2
    rw [n] at q; simp at q
theorem qkw {h : Heap} {H : Hp} {b : Addr} {o : Obj} (e : (qi8 h H).get? b = some o) : h.get? b = some o ∧ H b = none := by
  have e' : h.get? b = some o := PySem.W.of_hideAll (trk h H) e
  refine ⟨e', ?_⟩
  cases q : H b with
  | none => rfl
  | some x =>
    have hm : b ∈ trk h H := List.mem_filter.mpr ⟨List.mem_range.mpr (Heap.lt_size e'), by simp [q]⟩
    have z : (qi8 h H).get? b = none := PySem.W.hideAll_none (trk h H) hm
    rw [z] at e; cases e
noncomputable def qkx (g h : Heap) (L : Addr) : List (Addr × Obj) := (List.range h.objs.size).filterMap fun a => if a = L ∨ (g.get? a).isSome = true then none else (h.get? a).map fun o => (a, o)
noncomputable def rest (g h : Heap) (L d : Addr) : List (Addr × Obj) := (qkx g h L).filter fun p => decide (p.1 ≠ d)
end L2
namespace L2
open PySem PySem.Spec PyProof.Rows
structure Mod (K : PySem.W.Frag) (mg : Str → Option Value) (base : Heap) : Prop where
  kin : K.In base
  glob : base.Ns mainGlobals mg
  blt : ∃ mb, base.Ns builtinsNs mb ∧ ∀ x : Str, x ≠ "__name__" → mb x = bootBuiltins x
  nolimit : base.NoLimit
structure Cx where
  prog : Program
  w : World
  K : PySem.W.Frag
  mg : Str → Option Value
  base : Heap
  A : Around
  N : List Str
  s₀ : Shared
  H₀ : Hp
  env : Env
  outer : List Env
  stack : List Env
  ex : List Addr
  fn : Str → Bool
  calm : Bool
  pn : List (Addr × Obj)
  xe : Value → Shared → Prop
noncomputable def frs (l : List Env) : List Addr := l.filterMap (·.frame)
noncomputable abbrev Cx.fs (X : Cx) : List Addr := frs X.outer
noncomputable def Vis (sc : Scope) (x : Str) : Prop := sc.names.lookup x = some .local ∨ sc.names.lookup x = some .cell ∨ sc.names.lookup x = some .free
noncomputable def Loc (sc : Scope) (x : Str) : Prop := sc.names.lookup x = some .local ∨ sc.names.lookup x = some .cell
noncomputable def Look (env : Env) (h : Heap) (m : Str → Option Value) (x : Str) (u : Value) : Prop :=
  (env.kindOf x = some .local ∧ m x = some u) ∨ ((env.kindOf x = some .cell ∨ env.kindOf x = some .free) ∧ ∃ c, env.cells.lookup x = some c ∧ h.IsCell c (some u))
structure Cx.Ok (X : Cx) : Prop where
  mod : Mod X.K X.mg X.base
  kind : X.env.scope.kind = .function
  glob : X.env.globals = mainGlobals
  blt : X.env.builtins = builtinsNs
  above : X.s₀.heap.objs.size ≤ X.env.locals
  inj : ∀ x y c, X.env.cells.lookup x = some c → X.env.cells.lookup y = some c → x = y
  has : ∀ x, (X.env.kindOf x = some .cell ∨ X.env.kindOf x = some .free) → ∃ c, X.env.cells.lookup x = some c
  cab : ∀ x c, X.fn x = true → X.env.cells.lookup x = some c → X.s₀.heap.objs.size ≤ c
  hd : X.calm = true → X.A.handled = none
  frames : X.A.frames = some X.stack
  stk : X.stack = X.outer ∨ (X.stack = X.env :: X.outer ∧ X.env.frame = some X.env.locals)
  exf : ∀ b ∈ X.ex, b ≠ X.env.locals ∧ ∀ x c, X.env.cells.lookup x = some c → c ≠ b
  bs : ∀ b o, X.base.get? b = some o → X.s₀.heap.get? b = some o ∧ X.H₀ b = none
  bsz : X.base.objs.size ≤ X.s₀.heap.objs.size
  noex : ∀ b o, X.base.get? b = some o → b ∉ X.ex
  exfs : ∀ b ∈ X.ex, b ∉ X.fs
  funs : X.s₀.heap.FunFrames X.base X.outer
  frf : ∀ b ∈ X.fs, X.H₀ b = none
  seer : X.base.NoSeer
  tree : (model X.prog X.w).prog.given.tree = none
  plr : ∀ s : Shared, (∀ b o, X.base.get? b = some o → s.heap.get? b = some o) → PySem.PylongRoom (model X.prog X.w) X.A s
structure Inv (X : Cx) (pins : List (Addr × Obj)) (σ : List (Option V)) (H : Hp) (s : Shared) : Prop where
  ok : X.Ok
  os : s.os = X.s₀.os
  bare : AllBare s.gens
  base : Un X.fs X.ex X.H₀ H X.s₀.heap s.heap
  loc : ∃ m, s.heap.Ns X.env.locals m ∧ ∀ (i : Nat) (x : Str) (v : V), X.N[i]? = some x → σ[i]? = some (some v) → Vis X.env.scope x → ∃ u, RelV v u ∧ Look X.env s.heap m x u
  cell : ∀ x c, X.env.cells.lookup x = some c → ∃ v, s.heap.IsCell c v
  free : H X.env.locals = none
  freeC : ∀ x c, X.env.cells.lookup x = some c → H c = none
  pin : ∀ p ∈ X.pn ++ pins, s.heap.get? p.1 = some p.2 ∧ H p.1 = none ∧ p.1 ≠ X.env.locals ∧ p.1 ∉ X.fs ∧ ∀ v, p.2.data ≠ .cell v
  hok : HOk X.prog X.w H s.heap
  len : σ.length = X.N.length
section
variable {X : Cx} {pins : List (Addr × Obj)} {σ : List (Option V)} {H H' : Hp} {s : Shared} {h' : Heap}
theorem Cx.Ok.nofr (ok : X.Ok) {b : Addr} {o : Obj} (e : X.base.get? b = some o) : b ∉ X.fs := fun hb => by
  have := (ok.funs.mem hb).1
  rw [e] at this; cases this
theorem Inv.bs (I : Inv X pins σ H s) : ∀ b o, X.base.get? b = some o → s.heap.get? b = some o ∧ H b = none := fun b o e =>
  ⟨I.base.keep b o (I.ok.bs b o e).1 (I.ok.bs b o e).2 (I.ok.nofr e) (I.ok.noex b o e), I.base.free b o (I.ok.bs b o e).1 (I.ok.bs b o e).2 (I.ok.noex b o e)⟩
theorem Inv.bk (I : Inv X pins σ H s) : ∀ b o, X.base.get? b = some o → s.heap.get? b = some o := fun b o e => (I.bs b o e).1
theorem Inv.mod (I : Inv X pins σ H s) : Mod X.K X.mg X.base := I.ok.mod
theorem Inv.kIn (I : Inv X pins σ H s) : X.K.In s.heap := I.ok.mod.kin.keeps I.bk
theorem Inv.nolimit (I : Inv X pins σ H s) : s.heap.NoLimit := I.ok.mod.nolimit.keeps I.bk
theorem Inv.fr (I : Inv X pins σ H s) : ∃ m, Fr X.base X.env.locals s.heap m :=
  let ⟨m, hn, _⟩ := I.loc
  ⟨m, hn, I.bk, Nat.le_trans I.ok.bsz I.ok.above⟩
theorem Inv.lt (I : Inv X pins σ H s) : X.env.locals < s.heap.objs.size := let ⟨_, hn, _⟩ := I.loc; hn.lt
theorem Inv.sz (I : Inv X pins σ H s) : X.s₀.heap.objs.size ≤ s.heap.objs.size := Nat.le_trans I.ok.above (Nat.le_of_lt I.lt)
theorem Inv.nofs (I : Inv X pins σ H s) {a : Addr} (h : s.heap.objs.size ≤ a) : a ∉ X.fs := fun hb => by
  obtain ⟨_, o, ho, _⟩ := I.ok.funs.mem hb
  exact absurd (Nat.lt_of_lt_of_le (Heap.lt_size ho) (Nat.le_trans I.sz h)) (Nat.lt_irrefl _)
theorem Inv.cne (I : Inv X pins σ H s) : ∀ x c, X.env.cells.lookup x = some c → c ≠ X.env.locals := fun x c e z => by
  obtain ⟨v, o, ho, hd⟩ := I.cell x c e
  obtain ⟨m, ⟨o', es, ep, ho', hd', _⟩, _⟩ := I.loc
  rw [z, ho'] at ho; cases ho; rw [hd'] at hd; cases hd
theorem Inv.funs (I : Inv X pins σ H s) : s.heap.FunFrames X.base X.outer := by
  have all : ∀ (l : List Env), (∀ b ∈ frs l, b ∈ X.fs) → X.s₀.heap.FunFrames X.base l → s.heap.FunFrames X.base l := by
    intro l
    induction l with
    | nil => intro _ _; trivial
    | cons env r ih =>
      intro hs hl
      obtain ⟨hk, ⟨L, o, hf, hn, ho, hd⟩, hr⟩ := hl
      have hL : L ∈ X.fs := hs L (by unfold frs; rw [List.filterMap_cons, hf]; exact List.mem_cons_self)
      obtain ⟨sl, e⟩ := I.base.slot L o ho (I.ok.frf L hL) hL fun z => I.ok.exfs L z hL
      exact ⟨hk, ⟨L, _, hf, hn, e, hd⟩, ih (fun b hb => hs b (by unfold frs; rw [List.filterMap_cons, hf]; exact List.mem_cons_of_mem _ hb)) hr⟩
  exact all X.outer (fun _ hb => hb) I.ok.funs
theorem Inv.stack (I : Inv X pins σ H s) : s.heap.FunFrames X.base X.stack := by
  rcases I.ok.stk with e | ⟨e, hf⟩
  · rw [e]; exact I.funs
  · rw [e]
    obtain ⟨m, hn, _⟩ := I.loc
    refine .cons (by rw [I.ok.kind]; decide) hf hn ?_ I.funs
    exact Heap.get?_none_of_le (Nat.le_trans I.ok.bsz I.ok.above)
theorem Inv.stkSub (I : Inv X pins σ H s) : ∀ b ∈ frs X.stack, b ∈ X.env.locals :: X.fs := fun b hb => by
  rcases I.ok.stk with e | ⟨e, hf⟩
  · rw [e] at hb; exact List.mem_cons_of_mem _ hb
  · rw [e] at hb
    unfold frs at hb
    rw [List.filterMap_cons, hf] at hb
    exact hb
theorem Inv.stkFree (I : Inv X pins σ H s) : ∀ b ∈ frs X.stack, H b = none := fun b hb => by
  rcases List.mem_cons.mp (I.stkSub b hb) with e | hb
  · rw [e]; exact I.free
  · obtain ⟨_, o, ho, _⟩ := I.ok.funs.mem hb
    exact I.base.free b o ho (I.ok.frf b hb) fun z => I.ok.exfs b z hb
theorem Inv.step {g' : Array GenState} {t' : Nat} {d' : Drawn} {ch : List Addr} (I : Inv X pins σ H s)
    (hch : ∀ b ∈ ch, (b ∈ X.ex ∨ X.s₀.heap.objs.size ≤ b) ∧ b ≠ X.env.locals ∧ (∀ x c, X.env.cells.lookup x = some c → c ≠ b) ∧ ∀ p ∈ X.pn ++ pins, p.1 ≠ b)
    (keep : ∀ b o, b ≠ X.env.locals → b ∉ X.fs → b ∉ ch → s.heap.get? b = some o → H b = none → h'.get? b = some o)
    (slot : ∀ b o, b ≠ X.env.locals → b ∈ X.fs → b ∉ ch → s.heap.get? b = some o → H b = none → ∃ sl, h'.get? b = some { o with slots := sl }) (free : ∀ b o, b ∉ ch → s.heap.get? b = some o → H b = none → H' b = none)
    (there : ∀ b o, b ∉ ch → s.heap.get? b = some o → ∃ o', h'.get? b = some o')
    (tups : ∀ b xs, H b = some (.tup xs) → H' b = some (.tup xs)) (frzs : ∀ b o u, H b = some (.frz o u) → H' b = some (.frz o u)) (tbls : ∀ b ps, H b = some (.tbl ps) → ∃ more, H' b = some (.tbl (ps ++ more)))
    (ns : ∀ m, s.heap.Ns X.env.locals m → h'.Ns X.env.locals m) (hok : HOk X.prog X.w H' h') (hg : AllBare g') :
    Inv X pins σ H' { s with heap := h', gens := g', drawn := d', toks := t' } := by
  have neL : ∀ b o, X.s₀.heap.get? b = some o → b ≠ X.env.locals := fun b o e => Nat.ne_of_lt (Nat.lt_of_lt_of_le (Heap.lt_size e) I.ok.above)
  have neC : ∀ b o, X.s₀.heap.get? b = some o → b ∉ X.ex → b ∉ ch := fun b o e hx hb => by
    rcases (hch b hb).1 with z | z
    · exact hx z
    · exact absurd (Nat.lt_of_lt_of_le (Heap.lt_size e) z) (Nat.lt_irrefl _)
  have cellK : ∀ x c, X.env.cells.lookup x = some c → ∀ v, s.heap.IsCell c v → h'.IsCell c v := fun x c e v ⟨o, ho, hd⟩ => by
    have nch : c ∉ ch := fun z => (hch c z).2.2.1 x c e rfl
    by_cases hc : c ∈ X.fs
    · obtain ⟨sl, q⟩ := slot c o (I.cne x c e) hc nch ho (I.freeC x c e)
      exact ⟨_, q, hd⟩
    · exact ⟨o, keep c o (I.cne x c e) hc nch ho (I.freeC x c e), hd⟩
  refine ⟨I.ok, I.os, hg, ⟨fun b o e n hb hx => ?_, fun b o e n hb hx => ?_, fun b o e n hx => ?_, fun b o e hx => ?_, fun b xs e => tups b xs (I.base.tups b xs e), fun b o xs e => frzs b o xs (I.base.frzs b o xs e), fun b ps e => ?_⟩, ?_, fun x c e => ?_, ?_, fun x c e => ?_, fun p hp => ?_, hok, I.len⟩
  · exact keep b o (neL b o e) hb (neC b o e hx) (I.base.keep b o e n hb hx) (I.base.free b o e n hx)
  · obtain ⟨sl, e1⟩ := I.base.slot b o e n hb hx
    obtain ⟨sl', e2⟩ := slot b _ (neL b o e) hb (neC b o e hx) e1 (I.base.free b o e n hx)
    exact ⟨sl', e2⟩
  · obtain ⟨o', e1⟩ := I.base.there b o e hx
    exact free b o' (neC b o e hx) e1 (I.base.free b o e n hx)
  · obtain ⟨o', e1⟩ := I.base.there b o e hx
    exact there b o' (neC b o e hx) e1
  · obtain ⟨m1, e1⟩ := I.base.tbls b ps e
    obtain ⟨m2, e2⟩ := tbls b _ e1
    exact ⟨m1 ++ m2, by rw [e2, Array.append_assoc]⟩
  · obtain ⟨m, hn, hl⟩ := I.loc
    refine ⟨m, ns m hn, fun i x v e1 e2 e3 => ?_⟩
    obtain ⟨u, r, l⟩ := hl i x v e1 e2 e3
    refine ⟨u, r, ?_⟩
    rcases l with l | ⟨k, c, e, z⟩
    · exact .inl l
    · exact .inr ⟨k, c, e, cellK x c e _ z⟩
  · obtain ⟨v, z⟩ := I.cell x c e
    exact ⟨v, cellK x c e v z⟩
  · obtain ⟨m, ⟨o, _, _, ho, _⟩, _⟩ := I.loc
    exact free _ o (fun z => (hch _ z).2.1 rfl) ho I.free
  · obtain ⟨v, o, ho, hd⟩ := I.cell x c e
    exact free c o (fun z => (hch c z).2.2.1 x c e rfl) ho (I.freeC x c e)
  · obtain ⟨e, n, ne, nf, d⟩ := I.pin p hp
    have nch : p.1 ∉ ch := fun z => (hch p.1 z).2.2.2 p hp rfl
    exact ⟨keep p.1 p.2 ne nf nch e n, free p.1 p.2 nch e n, ne, nf, d⟩
theorem Inv.un {t' : Nat} (I : Inv X pins σ H s) (u : Un X.fs [] H H' s.heap h') (hok : HOk X.prog X.w H' h') : Inv X pins σ H' { s with heap := h', toks := t' } := by
  obtain ⟨m, ⟨o, es, ep, ho, r⟩, _⟩ := id I.loc
  obtain ⟨sl, hL⟩ := u.any ho I.free (by simp)
  exact I.step (g' := s.gens) (d' := s.drawn) (ch := []) (fun _ z => nomatch z) (fun b o _ hb _ e n => u.keep b o e n hb (by simp)) (fun b o _ hb _ e n => u.slot b o e n hb (by simp)) (fun b o _ e n => u.free b o e n (by simp)) (fun b o _ e => u.there b o e (by simp)) u.tups u.frzs u.tbls (fun m' hm => by
    obtain ⟨o', es', ep', ho', r'⟩ := hm
    rw [ho] at ho'; cases ho'
    exact ⟨_, es', ep', hL, r'⟩) hok I.bare
theorem Inv.call {g' : Array GenState} {t' : Nat} {d' : Drawn} {ch : List Addr} (I : Inv X pins σ H s) (u : Un (frs X.stack) ch H H' s.heap h') (hok : HOk X.prog X.w H' h') (hg : AllBare g')
    (hch : ∀ b ∈ ch, (b ∈ X.ex ∨ X.s₀.heap.objs.size ≤ b) ∧ b ≠ X.env.locals ∧ (∀ x c, X.env.cells.lookup x = some c → c ≠ b) ∧ ∀ p ∈ X.pn ++ pins, p.1 ≠ b) :
    Inv X pins σ H' { s with heap := h', gens := g', drawn := d', toks := t' } := by
  obtain ⟨m, ⟨o, es, ep, ho, r⟩, _⟩ := id I.loc
  obtain ⟨sl, hL⟩ := u.any ho I.free fun z => (hch _ z).2.1 rfl
  exact I.step (ch := ch) hch (fun b o hL hb hc e n => u.keep b o e n (fun z => (List.mem_cons.mp (I.stkSub b z)).elim hL hb) hc) (fun b o _ _ hc e n => u.any e n hc) (fun b o hc e n => u.free b o e n hc) (fun b o hc e => u.there b o e hc) u.tups u.frzs u.tbls (fun m' hm => by
    obtain ⟨o', es', ep', ho', r'⟩ := hm
    rw [ho] at ho'; cases ho'
    exact ⟨_, es', ep', hL, r'⟩) hok hg
theorem Inv.turned {t' : Nat} {it : Addr} (I : Inv X pins σ H s) (k : ∀ b o, b ≠ it → s.heap.get? b = some o → h'.get? b = some o) (hn : H it = none) (hL : it ≠ X.env.locals)
    (h1 : it ∈ X.ex ∨ X.s₀.heap.objs.size ≤ it) (h2 : ∀ x c, X.env.cells.lookup x = some c → c ≠ it) (h3 : ∀ p ∈ X.pn ++ pins, p.1 ≠ it) : Inv X pins σ H { s with heap := h', toks := t' } := by
  have nit : ∀ b u, H b = some u → b ≠ it := fun b u e z => by rw [z, hn] at e; cases e
  refine I.step (g' := s.gens) (d' := s.drawn) (ch := [it]) (fun b hb => ?_) (fun b o _ _ hc e _ => k b o (fun z => hc (by simp [z])) e) (fun b o _ _ hc e _ => ⟨o.slots, k b o (fun z => hc (by simp [z])) e⟩) (fun _ _ _ _ n => n)
    (fun b o hc e => ⟨o, k b o (fun z => hc (by simp [z])) e⟩) (fun _ _ e => e) (fun _ _ _ e => e) (fun b ps e => ⟨#[], by rw [e]; simp⟩) (fun m hm => ?_) (fun b u e => ?_) I.bare
  · have e : b = it := by simpa using hb
    subst e
    exact ⟨h1, hL, h2, h3⟩
  · obtain ⟨o, es, ep, ho, r⟩ := hm
    exact ⟨o, es, ep, k _ o (Ne.symm hL) ho, r⟩
  · refine (I.hok b u e).stay (fun c v hc q => k c v ?_ q) (fun _ q => q) fun _ _ q => q
    rcases hc with z | z
    · rw [z]; exact nit b u e
    · exact nit c _ z
theorem Inv.tok (I : Inv X pins σ H s) (t : Nat) : Inv X pins σ H { s with toks := t } := I.un (h' := s.heap) (t' := t) Un.refl I.hok
theorem Inv.kept {t' : Nat} (I : Inv X pins σ H s) (k : ∀ b u, s.heap.get? b = some u → h'.get? b = some u) : Inv X pins σ H { s with heap := h', toks := t' } := I.un (Un.kept k) (I.hok.kept k)
theorem Inv.laid {a : Addr} {o : HO} {t' : Nat} (I : Inv X pins σ H s) (k : ∀ b u, s.heap.get? b = some u → h'.get? b = some u) (hp : s.heap.objs.size ≤ a) (new : ObjOk X.prog X.w (upd H a o) h' a o) :
    Inv X pins σ (upd H a o) { s with heap := h', toks := t' } := I.un (Un.laid k hp (I.hok.fresh hp)) (I.hok.laid k hp new)
theorem Inv.write {x e : Addr} {o : HO} {t' : Nat} (I : Inv X pins σ H s) (mu : Mut (H x)) (he : e = x ∨ H e = some (.own x)) (k : ∀ b u, b ≠ e → s.heap.get? b = some u → h'.get? b = some u) (heo : ∃ u, h'.get? e = some u)
    (new : ObjOk X.prog X.w (upd H x o) h' x o) : Inv X pins σ (upd H x o) { s with heap := h', toks := t' } := I.un (Un.write mu he k heo) (I.hok.write mu he k heo new)
theorem Inv.pins_of {pins' : List (Addr × Obj)} (I : Inv X pins σ H s) (h : ∀ p ∈ pins', s.heap.get? p.1 = some p.2 ∧ H p.1 = none ∧ p.1 ≠ X.env.locals ∧ p.1 ∉ X.fs ∧ ∀ v, p.2.data ≠ .cell v) : Inv X pins' σ H s :=
  ⟨I.ok, I.os, I.bare, I.base, I.loc, I.cell, I.free, I.freeC, fun p hp => (List.mem_append.mp hp).elim (fun z => I.pin p (List.mem_append_left _ z)) (h p), I.hok, I.len⟩
theorem qfY {N : List Str} (hN : N.Nodup) {i j : Nat} {x : Str} (a : N[i]? = some x) (b : N[j]? = some x) : i = j := by
  obtain ⟨h1, e1⟩ := List.getElem?_eq_some_iff.mp a
  obtain ⟨h2, e2⟩ := List.getElem?_eq_some_iff.mp b
  exact (List.getElem_inj hN).mp (e1.trans e2.symm)
theorem qdc {M : Model} {A : Around} {E : Value → Shared → Prop} {i : Nat} {x : Str} {v : V} {u : Value} {Q : Unit → Shared → Prop} (I : Inv X pins σ H s) (hN : X.N.Nodup) (hi : X.N[i]? = some x) (hx : Loc X.env.scope x) (r : RelV v u)
    (h : ∀ s', Inv X pins (σ.set i (some v)) H s' → (∃ a, Heap.SameBut a s.heap s'.heap ∧ (a = X.env.locals ∨ X.env.cells.lookup x = some a)) → Q () s') (hf : X.fn x = true ∨ X.env.scope.names.lookup x = some .local := by first | exact .inl rfl | exact .inr rfl | assumption) : wpAny M A (storeName X.env x u) Q E s := by
  obtain ⟨m, hn, hl⟩ := id I.loc
  have hcls : (X.env.scope.kind == .class || (X.env.scope.kind == .module && X.env.locals != X.env.globals)) = false := by rw [I.ok.kind]; rfl
  have hiσ : i < σ.length := by rw [I.len]; exact (List.getElem?_eq_some_iff.mp hi).1
  have cne := I.cne
  have tracked : ∀ {a : Addr} {h' : Heap}, (∃ o, s.heap.get? a = some o ∧ H a = none) → Heap.SameBut a s.heap h' → HOk X.prog X.w H h' := fun {a h'} ha hs b ob e => by
    obtain ⟨_, _, hfree⟩ := ha
    refine (I.hok b ob e).stay (fun c w' hc q => (hs.2 c ?_).trans q) (fun _ q => q) fun _ _ q => q
    rintro rfl
    rcases hc with rfl | hc
    · rw [hfree] at e; cases e
    · rw [hfree] at hc; cases hc
  rcases hx with hk | hk
  · refine wpAny_storeName_local hk hn (fun h' hn' hs => ?_) hcls
    obtain ⟨oL, _, _, hoL, _⟩ := id hn
    refine h _ ⟨I.ok, I.os, I.bare, ⟨fun b o e n hb hx => ?_, fun b o e n hb hx => ?_, I.base.free, fun b o e hx => ?_, I.base.tups, I.base.frzs, I.base.tbls⟩, ⟨_, hn', fun j y v' e1 e2 e3 => ?_⟩, fun y c e => ?_, I.free, I.freeC, fun p hp => ?_, tracked ⟨oL, hoL, I.free⟩ hs, by simpa using I.len⟩ ⟨_, hs, .inl rfl⟩
    · exact (hs.2 b (Nat.ne_of_lt (Nat.lt_of_lt_of_le (Heap.lt_size e) I.ok.above))).trans (I.base.keep b o e n hb hx)
    · obtain ⟨sl, e1⟩ := I.base.slot b o e n hb hx
      exact ⟨sl, (hs.2 b (Nat.ne_of_lt (Nat.lt_of_lt_of_le (Heap.lt_size e) I.ok.above))).trans e1⟩
    · obtain ⟨o', e1⟩ := I.base.there b o e hx
      exact ⟨o', (hs.2 b (Nat.ne_of_lt (Nat.lt_of_lt_of_le (Heap.lt_size e) I.ok.above))).trans e1⟩
    · by_cases hj : j = i
      · subst hj
        rw [hi] at e1; cases e1
        rw [List.getElem?_set_self hiσ] at e2
        cases e2
        exact ⟨u, r, .inl ⟨hk, by simp⟩⟩
      · rw [List.getElem?_set_ne (Ne.symm hj)] at e2
        obtain ⟨u', r', q⟩ := hl j y v' e1 e2 e3
        refine ⟨u', r', ?_⟩
        rcases q with ⟨k, e⟩ | ⟨k, c, e, z⟩
        · refine .inl ⟨k, ?_⟩
          have : y ≠ x := fun e => hj (qfY hN e1 (e ▸ hi))
          simp [this, e]
        · exact .inr ⟨k, c, e, z.sameBut hs (cne y c e)⟩
    · obtain ⟨w', z⟩ := I.cell y c e
      exact ⟨w', z.sameBut hs (cne y c e)⟩
    · obtain ⟨e, n, ne, nf, d⟩ := I.pin p hp
      exact ⟨(hs.2 p.1 ne).trans e, n, ne, nf, d⟩
  · have hfn : X.fn x = true := by
      rcases hf with z | z
      · exact z
      · rw [z] at hk; cases hk
    obtain ⟨c, hc⟩ := I.ok.has x (.inl hk)
    obtain ⟨w', z⟩ := I.cell x c hc
    refine wpAny_storeName_cell I.ok.kind hk hc z (fun h' hc' hs => ?_)
    obtain ⟨oc, hoc, hocd⟩ := id z
    refine h { s with heap := h' } ⟨I.ok, I.os, I.bare, ⟨fun b o e n hb hx => ?_, fun b o e n hb hx => ?_, I.base.free, fun b o e hx => ?_, I.base.tups, I.base.frzs, I.base.tbls⟩, ⟨m, hn.sameBut hs (Ne.symm (cne x c hc)), fun j y v' e1 e2 e3 => ?_⟩, fun y c' e => ?_, I.free, I.freeC, fun p hp => ?_, tracked ⟨oc, hoc, I.freeC x c hc⟩ hs, by simpa using I.len⟩ ⟨c, hs, .inr hc⟩
    · exact (hs.2 b (Nat.ne_of_lt (Nat.lt_of_lt_of_le (Heap.lt_size e) (I.ok.cab x c hfn hc)))).trans (I.base.keep b o e n hb hx)
    · obtain ⟨sl, e1⟩ := I.base.slot b o e n hb hx
      exact ⟨sl, (hs.2 b (Nat.ne_of_lt (Nat.lt_of_lt_of_le (Heap.lt_size e) (I.ok.cab x c hfn hc)))).trans e1⟩
    · obtain ⟨o', e1⟩ := I.base.there b o e hx
      exact ⟨o', (hs.2 b (Nat.ne_of_lt (Nat.lt_of_lt_of_le (Heap.lt_size e) (I.ok.cab x c hfn hc)))).trans e1⟩
    · by_cases hj : j = i
      · subst hj
        rw [hi] at e1; cases e1
        rw [List.getElem?_set_self hiσ] at e2
        cases e2
        exact ⟨u, r, .inr ⟨.inl hk, c, hc, hc'⟩⟩
      · rw [List.getElem?_set_ne (Ne.symm hj)] at e2
        obtain ⟨u', r', q⟩ := hl j y v' e1 e2 e3
        refine ⟨u', r', ?_⟩
        rcases q with q | ⟨k, c', e, z'⟩
        · exact .inl q
        · refine .inr ⟨k, c', e, z'.sameBut hs ?_⟩
          rintro rfl
          exact hj (qfY hN e1 (I.ok.inj _ _ _ e hc ▸ hi))
    · by_cases hcc : c' = c
      · subst hcc; exact ⟨_, hc'⟩
      · obtain ⟨w2, z2⟩ := I.cell y c' e
        exact ⟨w2, z2.sameBut hs hcc⟩
    · obtain ⟨e, n, ne, nf, d⟩ := I.pin p hp
      refine ⟨(hs.2 p.1 ?_).trans e, n, ne, nf, d⟩
      intro q
      rw [q, hoc] at e
      have q' : oc = p.2 := Option.some.inj e
      exact d w' (by rw [← q']; exact hocd)
theorem qcl {M : Model} {A : Around} {E : Value → Shared → Prop} {i : Nat} {x : Str} {v : V} {u : Value} {Q : Unit → Shared → Prop} (I : Inv X pins σ H s) (hN : X.N.Nodup) (hi : X.N[i]? = some x) (hx : Loc X.env.scope x) (r : RelV v u)
    (h : ∀ s', Inv X pins (σ.set i (some v)) H s' → Q () s') (hf : X.fn x = true ∨ X.env.scope.names.lookup x = some .local := by first | exact .inl rfl | exact .inr rfl | assumption) : wpAny M A (storeName X.env x u) Q E s :=
  qdc I hN hi hx r (fun s' I' _ => h s' I') hf
theorem Inv.call' {s' : Shared} {ch : List Addr} (I : Inv X pins σ H s) (ho : s'.os = s.os) (u : Un (frs X.stack) ch H H' s.heap s'.heap) (hok : HOk X.prog X.w H' s'.heap) (hg : AllBare s'.gens)
    (hch : ∀ b ∈ ch, (b ∈ X.ex ∨ X.s₀.heap.objs.size ≤ b) ∧ b ≠ X.env.locals ∧ (∀ x c, X.env.cells.lookup x = some c → c ≠ b) ∧ ∀ p ∈ X.pn ++ pins, p.1 ≠ b) : Inv X pins σ H' s' := by
  obtain ⟨h', g', d', t', o'⟩ := s'
  have e : o' = s.os := ho
  subst e
  exact I.call (g' := g') (t' := t') (d' := d') u hok hg hch
end
noncomputable abbrev XK := Value → Option Addr → Hp → Prop
noncomputable abbrev St := List (Option V)
noncomputable abbrev VK := V → Hp → Prop
noncomputable abbrev TE := St → Hp → VK → Prop
noncomputable abbrev TT := St → Hp → (Bool → Hp → Prop) → Prop
noncomputable abbrev TA := St → Hp → (List V → Hp → Prop) → Prop
structure Ends where
  nx : St → Hp → Prop
  rt : VK
  bk : St → Hp → Prop := fun _ _ => False
  ct : St → Hp → Prop := fun _ _ => False
noncomputable abbrev TS := Ends → St → Hp → Prop
noncomputable def EP (X : Cx) (pins : List (Addr × Obj)) (σ : St) (Q : VK) (u : Value) (s' : Shared) : Prop := ∃ v H', Inv X pins σ H' s' ∧ RelV v u ∧ Q v H'
noncomputable def TP (X : Cx) (pins : List (Addr × Obj)) (σ : St) (Q : Bool → Hp → Prop) (b : Bool) (s' : Shared) : Prop := ∃ H', Inv X pins σ H' s' ∧ Q b H'
noncomputable def AP (X : Cx) (pins : List (Addr × Obj)) (σ : St) (Q : List V → Hp → Prop) (us : List Value) (s' : Shared) : Prop := ∃ vs H', Inv X pins σ H' s' ∧ Vals vs us ∧ Q vs H'
noncomputable def SP (X : Cx) (pins : List (Addr × Obj)) (D : Ends) (f : Flow) (s' : Shared) : Prop :=
  match f with
  | .next => ∃ σ' H', Inv X pins σ' H' s' ∧ D.nx σ' H'
  | .brk => ∃ σ' H', Inv X pins σ' H' s' ∧ D.bk σ' H'
  | .cont => ∃ σ' H', Inv X pins σ' H' s' ∧ D.ct σ' H'
  | .ret u => ∃ v σ' H', Inv X pins σ' H' s' ∧ RelV v u ∧ D.rt v H'
noncomputable def PE (X : Cx) (e : Expr) (t : TE) : Prop :=
  ∀ (pins : List (Addr × Obj)) (s : Shared) (σ : St) (H : Hp) (Q : VK), Inv X pins σ H s → t σ H Q → wpAny (model X.prog X.w) X.A (eval e X.env) (EP X pins σ Q) X.xe s
noncomputable def PT (X : Cx) (e : Expr) (t : TT) : Prop :=
  ∀ (pins : List (Addr × Obj)) (s : Shared) (σ : St) (H : Hp) (Q : Bool → Hp → Prop), Inv X pins σ H s → t σ H Q → wpAny (model X.prog X.w) X.A (isTrue e X.env (eval e X.env)) (TP X pins σ Q) X.xe s
noncomputable def PW (X : Cx) (e : Expr) (t : TT) : Prop :=
  ∀ (whole : Sem Value) (pins : List (Addr × Obj)) (s : Shared) (σ : St) (H : Hp) (Q : Bool → Hp → Prop), Inv X pins σ H s → t σ H Q → wpAny (model X.prog X.w) X.A (isTrue e X.env whole) (TP X pins σ Q) X.xe s
theorem PW.pt {X : Cx} {e : Expr} {t : TT} (h : PW X e t) : PT X e t := h _
noncomputable def PA (X : Cx) (es : List Expr) (t : TA) : Prop :=
  ∀ (pos : Pos) (pins : List (Addr × Obj)) (s : Shared) (σ : St) (H : Hp) (Q : List V → Hp → Prop), Inv X pins σ H s → t σ H Q → wpAny (model X.prog X.w) X.A (spliced (backTo pos (starEach es X.env))) (AP X pins σ Q) X.xe s
noncomputable def PS (X : Cx) (st : Stmt) (t : TS) : Prop :=
  ∀ (pins : List (Addr × Obj)) (s : Shared) (σ : St) (H : Hp) (D : Ends), Inv X pins σ H s → t D σ H → wpAny (model X.prog X.w) X.A (exec st X.env) (SP X pins D) X.xe s
noncomputable def PSs (X : Cx) (st : List Stmt) (t : TS) : Prop :=
  ∀ (pins : List (Addr × Obj)) (s : Shared) (σ : St) (H : Hp) (D : Ends), Inv X pins σ H s → t D σ H → wpAny (model X.prog X.w) X.A (execs st X.env) (SP X pins D) X.xe s
theorem thn {α : Type} {t : Sem α} {Q Q' : α → Shared → Prop} {M : Model} {A : Around} {E : Value → Shared → Prop} {s : Shared} (h : wpAny M A t Q E s) (hQ : ∀ a s, Q a s → Q' a s) : wpAny M A t Q' E s := wpAny_mono h hQ fun _ _ x => x
end L2
namespace L2
open PySem PySem.Spec PyProof.Rows
section
variable {X : Cx}
noncomputable def qai (i : Nat) : TE := fun σ H Q => ∃ v, σ[i]? = some (some v) ∧ Q v H
noncomputable def tC (v : V) : TE := fun _ H Q => Q v H
theorem qlR {i : Nat} {x : Str} {pos : Pos} (hN : X.N[i]? = some x) (hv : Vis X.env.scope x) (hd : (x == ("__debug__" : Str)) = false := by decide) (hcd : (x == ("__classdict__" : Str)) = false := by decide) : PE X (.Name x pos) (qai i) := by
  intro pins s σ H Q I h
  obtain ⟨v, e, h⟩ := h
  obtain ⟨m, hn, hl⟩ := I.loc
  obtain ⟨u, r, l⟩ := hl i x v hN e hv
  have fin : EP X pins σ Q u s := ⟨v, H, I, r, h⟩
  rcases l with ⟨hk, hm⟩ | ⟨hk, c, hc, hcell⟩
  · exact wpAny_Name (wpAny_loadName_local I.ok.kind hk hn hm fin) hd
  · rcases hk with hk | hk
    · exact wpAny_Name (wpAny_loadName_cell I.ok.kind hk hc hcell fin) hd
    · exact wpAny_Name (wpAny_loadName_free I.ok.kind hk hc hcell fin hcd) hd
theorem qab {i j pos} : PE X (.Constant (.int i) j pos) (tC (.int i)) := fun _ _ _ H _ I h => wpAny_Constant_int ⟨.int i, H, I.tok _, ⟨_, rfl⟩, h⟩
theorem qfz {b j pos} : PE X (.Constant (.bool b) j pos) (tC (.bl b)) := fun _ _ _ H _ I h => Constant_bool ⟨.bl b, H, I, rfl, h⟩
noncomputable def Gl (X : Cx) (x : Str) : Prop := X.env.kindOf x = some .globalImplicit
theorem qhj {E : Value → Shared → Prop} {pins : List (Addr × Obj)} {s : Shared} {σ : St} {H : Hp} {x : Str} {u : Value} {pos : Pos} {Q : Value → Shared → Prop} (I : Inv X pins σ H s) (hg : Gl X x) (hm : X.mg x = some u) (h : Q u s)
    (hd : (x == ("__debug__" : Str)) = false := by decide) : wpAny (model X.prog X.w) X.A (eval (.Name x pos) X.env) Q E s :=
  Calls.Name_function_global I.ok.kind hg (Calls.loadGlobal_global (by rw [I.ok.glob]; exact I.mod.glob.keeps I.bk) hm h) hd
theorem qd4 {E : Value → Shared → Prop} {pins : List (Addr × Obj)} {s : Shared} {σ : St} {H : Hp} {x : Str} {u : Value} {pos : Pos} {Q : Value → Shared → Prop} (I : Inv X pins σ H s) (hg : Gl X x) (hm : X.mg x = none) (hv : bootBuiltins x = some u) (h : Q u s)
    (hn : x ≠ "__name__" := by decide) (hd : (x == ("__debug__" : Str)) = false := by decide) : wpAny (model X.prog X.w) X.A (eval (.Name x pos) X.env) Q E s := by
  obtain ⟨mb, h1, h2⟩ := I.mod.blt
  exact Calls.Name_function_global I.ok.kind hg (Calls.loadGlobal_builtin (by rw [I.ok.glob]; exact I.mod.glob.keeps I.bk) hm (by rw [I.ok.blt]; exact h1.keeps I.bk) ((h2 x hn).trans hv) h) hd
theorem qhk {x : Str} {v : V} {u : Value} {pos : Pos} (hg : Gl X x) (hm : X.mg x = some u) (r : RelV v u) (hd : (x == ("__debug__" : Str)) = false := by decide) : PE X (.Name x pos) (tC v) :=
  fun _ _ _ H _ I h => qhj I hg hm ⟨v, H, I, r, h⟩ hd
theorem qdd {x : Str} {v : V} {u : Value} {pos : Pos} (hg : Gl X x) (hm : X.mg x = none) (hv : bootBuiltins x = some u) (r : RelV v u) (hn : x ≠ "__name__" := by decide) (hd : (x == ("__debug__" : Str)) = false := by decide) : PE X (.Name x pos) (tC v) :=
  fun _ _ _ H _ I h => qd4 I hg hm hv ⟨v, H, I, r, h⟩ hn hd
variable {a b : Expr} {ta tb : TE} {pos : Pos}
noncomputable def tB (t : TE) : TT := fun σ H Q => t σ H fun x H1 => ∃ c, x = .bl c ∧ Q c H1
theorem qbI {e : Expr} {t : TE} (h : PE X e t) (he : ∀ whole, isTrue e X.env whole = (do let v ← whole; standAt e.pos; holding [v] (truthy v)) := by intro _; rfl) : PT X e (tB t) := by
  intro pins s σ H Q I hw
  refine isTrue_plain (thn (h pins s σ H _ I hw) fun v s1 ⟨x, H1, I1, r1, q1⟩ => ?_) (he _)
  obtain ⟨d, rfl, q⟩ := q1
  cases r1
  exact wpAny_truthy_bool ⟨H1, I1, q⟩
variable {tA tB' : TT} {rest : List Expr}
noncomputable def qlS (t u : TT) : TT := fun σ H Q => t σ H fun c H1 => if c = true then u σ H1 Q else Q false H1
noncomputable def tOr (t u : TT) : TT := fun σ H Q => t σ H fun c H1 => if c = true then Q true H1 else u σ H1 Q
noncomputable def qhl (t : TT) : TT := fun σ H Q => t σ H fun c H1 => Q (!c) H1
theorem qfA (ha : PT X a tA) : PW X (.BoolOp .And [a] pos) tA := by
  intro wh pins s σ H Q I h
  refine isTrue_and (thn (ha pins s σ H Q I h) fun c s1 e => ?_)
  cases c with
  | true => exact isTrue_and_nil e
  | false => exact e
theorem qd5 (ha : PT X a tA) : PW X (.BoolOp .Or [a] pos) tA := by
  intro wh pins s σ H Q I h
  refine isTrue_or (thn (ha pins s σ H Q I h) fun c s1 e => ?_)
  cases c with
  | false => exact isTrue_or_nil e
  | true => exact e
theorem qhm (ha : PT X a tA) (hb : PW X (.BoolOp .And (b :: rest) pos) tB') : PW X (.BoolOp .And (a :: b :: rest) pos) (qlS tA tB') := by
  intro wh pins s σ H Q I h
  refine isTrue_and (thn (ha pins s σ H _ I h) fun c s1 ⟨H1, I1, q1⟩ => ?_)
  cases c with
  | true => exact hb wh pins s1 σ H1 Q I1 q1
  | false => exact ⟨H1, I1, q1⟩
theorem qeW (ha : PT X a tA) (hb : PW X (.BoolOp .Or (b :: rest) pos) tB') : PW X (.BoolOp .Or (a :: b :: rest) pos) (tOr tA tB') := by
  intro wh pins s σ H Q I h
  refine isTrue_or (thn (ha pins s σ H _ I h) fun c s1 ⟨H1, I1, q1⟩ => ?_)
  cases c with
  | true => exact ⟨H1, I1, q1⟩
  | false => exact hb wh pins s1 σ H1 Q I1 q1
theorem qcm (ha : PT X a tA) : PT X (.UnaryOp .Not a pos) (qhl tA) := by
  intro pins s σ H Q I h
  exact isTrue_not (ha pins s σ H (fun c H1 => Q (!c) H1) I h)
noncomputable def qhn (ta tb : TE) : TE := fun σ H Q => ta σ H fun x H1 => ∃ c, x = .bl c ∧ if c = true then tb σ H1 Q else Q (.bl false) H1
noncomputable def qoa (ta tb : TE) : TE := fun σ H Q => ta σ H fun x H1 => ∃ c, x = .bl c ∧ if c = true then Q (.bl true) H1 else tb σ H1 Q
noncomputable def qnk (ta : TE) : TE := fun σ H Q => ta σ H fun x H1 => ∃ c, x = .bl c ∧ Q (.bl (!c)) H1
theorem qho {op} {t : TE} (h : PE X a t) : PE X (.BoolOp op [a] pos) t := fun pins s σ H Q I hw => BoolOp_one (h pins s σ H Q I hw)
theorem qhp (ha : PE X a ta) (hb : PE X (.BoolOp .And (b :: rest) pos) tb) : PE X (.BoolOp .And (a :: b :: rest) pos) (qhn ta tb) := by
  intro pins s σ H Q I h
  refine BoolOp_and (thn (ha pins s σ H _ I h) fun v s1 ⟨x, H1, I1, r1, q1⟩ => ?_)
  obtain ⟨c, rfl, q1⟩ := q1
  cases r1
  refine wpAny_truthy_bool ?_
  cases c with
  | true => exact hb pins s1 σ H1 Q I1 q1
  | false => exact ⟨.bl false, H1, I1, rfl, q1⟩
noncomputable def tIf (t : TT) (ta tb : TE) : TE := fun σ H Q => t σ H fun c H1 => if c = true then ta σ H1 Q else tb σ H1 Q
theorem qjc {c : Expr} (hc : PT X c tA) (ha : PE X a ta) (hb : PE X b tb) : PE X (.IfExp c a b pos) (tIf tA ta tb) := by
  intro pins s σ H Q I h
  refine wpAny_IfExp (thn (hc pins s σ H _ I h) fun d s1 ⟨H1, I1, q1⟩ => ?_)
  cases d with
  | true => exact ha pins s1 σ H1 Q I1 q1
  | false => exact hb pins s1 σ H1 Q I1 q1
end
end L2
namespace L2
open PySem PySem.Spec PyProof.Rows
noncomputable def SqL (K : PySem.W.Frag) (H : Hp) (a : Addr) (xs : List V) : Prop :=
  Rd H a (.lst xs) ∨
    ∃ (o : Obj) (its : Array Value) (n : Nat), K.lookup a = some o ∧ o.cls = .type "list" ∧ o.dict = none ∧ o.data = .seq its n ∧ its.size ≤ sizeLine ∧ Vals xs its.toList
noncomputable def SqT (K : PySem.W.Frag) (H : Hp) (a : Addr) (xs : List V) : Prop :=
  Rd H a (.tup xs) ∨
    ∃ (o : Obj) (its : Array Value) (n : Nat), K.lookup a = some o ∧ o.cls = .type "tuple" ∧ o.data = .seq its n ∧ its.size ≤ sizeLine ∧ Vals xs its.toList
noncomputable def qob : Value → Option V
  | .none => some .non
  | .bool b => some (.bl b)
  | .int i _ => some (.int i)
  | .str x _ => some (.str x)
  | .bytes b _ => some (.byt b)
  | .float b _ => some (.flt b)
  | .ref a => some (.ref a)
  | .type n => some (.ty n)
  | _ => none
theorem RelV.abs {x : V} {u : Value} (r : RelV x u) : qob u = some x := by
  cases x with
  | non => cases r; rfl
  | bl _ => cases r; rfl
  | int _ => obtain ⟨t, rfl⟩ := r; rfl
  | str _ => obtain ⟨t, rfl⟩ := r; rfl
  | byt _ => obtain ⟨t, rfl⟩ := r; rfl
  | flt _ => obtain ⟨t, rfl⟩ := r; rfl
  | ref _ => cases r; rfl
  | ty _ => cases r; rfl
theorem RelV.inj {x y : V} {u : Value} (r : RelV x u) (q : RelV y u) : x = y := Option.some.inj (r.abs.symm.trans q.abs)
theorem Vals.inj : ∀ {xs ys : List V} {us : List Value}, Vals xs us → Vals ys us → xs = ys
  | _, _, _, .nil, .nil => rfl
  | _, _, _, .cons r t, .cons r' t' => by rw [r.inj r', Vals.inj t t']
section
variable {X : Cx} {pins : List (Addr × Obj)} {σ : St} {H : Hp} {s : Shared} {a : Addr} {xs ys : List V}
theorem SqL.of {K : PySem.W.Frag} (h : H a = some (.lst xs)) : SqL K H a xs := .inl (.inl h)
theorem SqT.of {K : PySem.W.Frag} (h : H a = some (.tup xs)) : SqT K H a xs := .inl (.inl h)
theorem Inv.list (I : Inv X pins σ H s) (h : SqL X.K H a xs) : ∃ its : List Value, Vals xs its ∧ PlainL s.heap a its.toArray ∧ xs.length ≤ sizeLine := by
  rcases h with h | ⟨o, its, n, hk, hc, hd, hs, hz, r⟩
  · obtain ⟨z, its, n, r, e⟩ := h.ok I.hok
    exact ⟨its, r, ⟨_, n, e, rfl, rfl, rfl⟩, z⟩
  · refine ⟨its.toList, r, ⟨o, n, I.kIn a o hk, hc, hd, by simpa using hs⟩, ?_⟩
    have e := r.length
    simp only [Array.length_toList] at e
    omega
theorem Inv.tuple (I : Inv X pins σ H s) (h : SqT X.K H a xs) : ∃ its : List Value, Vals xs its ∧ IsTup s.heap a its.toArray ∧ xs.length ≤ sizeLine := by
  rcases h with h | ⟨o, its, n, hk, hc, hs, hz, r⟩
  · obtain ⟨z, its, r, p⟩ := h.ok I.hok
    exact ⟨its, r, p, z⟩
  · refine ⟨its.toList, r, ⟨o, I.kIn a o hk, hc, n, by simpa using hs⟩, ?_⟩
    have e := r.length
    simp only [Array.length_toList] at e
    omega
theorem Inv.list_inj (I : Inv X pins σ H s) (h : SqL X.K H a xs) (h' : SqL X.K H a ys) : xs = ys := by
  obtain ⟨its, r, ⟨o, n, e, _, _, d⟩, _⟩ := I.list h
  obtain ⟨its', r', ⟨o', n', e', _, _, d'⟩, _⟩ := I.list h'
  rw [e] at e'; cases e'
  rw [d] at d'
  injection d' with d1 _
  have : its = its' := by simpa using congrArg Array.toList d1
  subst this
  exact r.inj r'
theorem Inv.tuple_inj (I : Inv X pins σ H s) (h : SqT X.K H a xs) (h' : SqT X.K H a ys) : xs = ys := by
  obtain ⟨its, r, ⟨o, e, _, n, d⟩, _⟩ := I.tuple h
  obtain ⟨its', r', ⟨o', e', _, n', d'⟩, _⟩ := I.tuple h'
  rw [e] at e'; cases e'
  rw [d] at d'
  injection d' with d1 _
  have : its = its' := by simpa using congrArg Array.toList d1
  subst this
  exact r.inj r'
end
noncomputable abbrev Cx.wish (X : Cx) (E : Value → Shared → Prop) : Cx := { X with xe := E }
noncomputable abbrev Cx.nox (X : Cx) : Cx := X.wish fun _ _ => False
theorem Cx.Ok.wish {X : Cx} (ok : X.Ok) (E : Value → Shared → Prop) : (X.wish E).Ok :=
  ⟨ok.mod, ok.kind, ok.glob, ok.blt, ok.above, ok.inj, ok.has, ok.cab, ok.hd, ok.frames, ok.stk, ok.exf, ok.bs, ok.bsz, ok.noex, ok.exfs, ok.funs, ok.frf, ok.seer, ok.tree, ok.plr⟩
theorem Cx.Ok.unwish {X : Cx} {E : Value → Shared → Prop} (ok : (X.wish E).Ok) : X.Ok :=
  ⟨ok.mod, ok.kind, ok.glob, ok.blt, ok.above, ok.inj, ok.has, ok.cab, ok.hd, ok.frames, ok.stk, ok.exf, ok.bs, ok.bsz, ok.noex, ok.exfs, ok.funs, ok.frf, ok.seer, ok.tree, ok.plr⟩
section
variable {X : Cx} {pins : List (Addr × Obj)} {σ : St} {H : Hp} {s : Shared} {E : Value → Shared → Prop}
theorem Inv.wish (I : Inv X pins σ H s) (E : Value → Shared → Prop) : Inv (X.wish E) pins σ H s := ⟨I.ok.wish E, I.os, I.bare, I.base, I.loc, I.cell, I.free, I.freeC, I.pin, I.hok, I.len⟩
theorem Inv.unwish (I : Inv (X.wish E) pins σ H s) : Inv X pins σ H s := ⟨I.ok.unwish, I.os, I.bare, I.base, I.loc, I.cell, I.free, I.freeC, I.pin, I.hok, I.len⟩
theorem SP.unwish {D : Ends} {f : Flow} {s' : Shared} (h : SP (X.wish E) pins D f s') : SP X pins D f s' := by
  cases f with
  | next => obtain ⟨σ', H', I, q⟩ := h; exact ⟨σ', H', I.unwish, q⟩
  | brk => obtain ⟨σ', H', I, q⟩ := h; exact ⟨σ', H', I.unwish, q⟩
  | cont => obtain ⟨σ', H', I, q⟩ := h; exact ⟨σ', H', I.unwish, q⟩
  | ret u => obtain ⟨v, σ', H', I, r, q⟩ := h; exact ⟨v, σ', H', I.unwish, r, q⟩
theorem PE.nox {e : Expr} {t : TE} (h : PE X.nox e t) : PE X e t := fun pins s σ H Q I hw =>
  wpAny_mono (h pins s σ H Q (I.wish _) hw) (fun _ _ ⟨v, H', I', r, q⟩ => ⟨v, H', I'.unwish, r, q⟩) fun _ _ z => False.elim z
theorem PT.nox {e : Expr} {t : TT} (h : PT X.nox e t) : PT X e t := fun pins s σ H Q I hw =>
  wpAny_mono (h pins s σ H Q (I.wish _) hw) (fun _ _ ⟨H', I', q⟩ => ⟨H', I'.unwish, q⟩) fun _ _ z => False.elim z
theorem PSs.nox {st : List Stmt} {t : TS} (h : PSs X.nox st t) : PSs X st t := fun pins s σ H D I hw =>
  wpAny_mono (h pins s σ H D (I.wish _) hw) (fun _ _ q => q.unwish) fun _ _ z => False.elim z
end
section
variable {X : Cx} {st : Stmt} {rest : List Stmt} {t u : TS} {e : Expr} {te : TE} {pos : Pos}
noncomputable def qbP : TS := fun D σ H => D.nx σ H
noncomputable def qaG (t u : TS) : TS := fun D σ H => t { D with nx := u D } σ H
theorem qaX : PSs X [] qbP := fun _ _ σ H _ I h => wpAny_execs_nil ⟨σ, H, I, h⟩
theorem qah (h1 : PS X st t) (h2 : PSs X rest u) : PSs X (st :: rest) (qaG t u) := by
  intro pins s σ H D I h
  refine wpAny_execs_cons (thn (h1 pins s σ H { D with nx := u D } I h) fun f s1 q => ?_)
  cases f with
  | next =>
    obtain ⟨σ', H', I', q⟩ := q
    exact h2 pins s1 σ' H' D I' q
  | ret v => exact q
  | brk => exact q
  | cont => exact q
theorem qaj (h1 : PS X st t) : PSs X [st] t := by
  intro pins s σ H D I h
  refine wpAny_execs_cons (thn (h1 pins s σ H D I h) fun f s1 q => ?_)
  cases f with
  | next => exact wpAny_execs_nil q
  | ret v => exact q
  | brk => exact q
  | cont => exact q
theorem Inv.quiet {pins : List (Addr × Obj)} {σ : St} {H : Hp} {s : Shared} (I : Inv X pins σ H s) : interactive X.env = false := by simp [interactive, I.ok.kind]
noncomputable def qeX (te : TE) : TS := fun D σ H => te σ H fun _ H1 => D.nx σ H1
theorem qde (he : PE X e te) (hs : swapsWith e none pos.line X.env = pure false := by rfl) : PS X (.Expr e pos) (qeX te) := by
  intro pins s σ H D I h
  exact wpAny_Expr_any (thn (he pins s σ H _ I h) fun v s1 ⟨x, H1, I1, r1, q1⟩ => ⟨σ, H1, I1, q1⟩) I.quiet hs
noncomputable def qbB (te : TE) : TS := fun D σ H => te σ H D.rt
theorem qaw (he : PE X e te) : PS X (.Return (some e) pos) (qbB te) := by
  intro pins s σ H D I h
  exact wpAny_Return_some (thn (he pins s σ H _ I h) fun v s1 ⟨x, H1, I1, r1, q1⟩ => ⟨x, σ, H1, I1, r1, q1⟩)
noncomputable def qes (c : TT) (t u : TS) : TS := fun D σ H => c σ H fun b H1 => if b = true then t D σ H1 else u D σ H1
theorem qb9 {c : Expr} {a b : List Stmt} {tc : TT} (hc : PT X c tc) (ha : PSs X a t) (hb : PSs X b u) : PS X (.If c a b pos) (qes tc t u) := by
  intro pins s σ H D I h
  refine wpAny_If (thn (hc pins s σ H _ I h) fun d s1 ⟨H1, I1, q1⟩ => ?_)
  cases d with
  | true => exact ha pins s1 σ H1 D I1 q1
  | false => exact hb pins s1 σ H1 D I1 q1
end
noncomputable abbrev TG := V → St → Hp → (St → Hp → Prop) → Prop
noncomputable abbrev TGs := List V → St → Hp → (St → Hp → Prop) → Prop
noncomputable def PG (X : Cx) (target : Expr) (t : TG) : Prop :=
  ∀ (pins : List (Addr × Obj)) (s : Shared) (σ : St) (H : Hp) (v : V) (u : Value) (Q : St → Hp → Prop), Inv X pins σ H s → RelV v u → t v σ H Q →
    wpAny (model X.prog X.w) X.A (assign target X.env u) (fun _ s' => ∃ σ' H', Inv X pins σ' H' s' ∧ Q σ' H') X.xe s
noncomputable def PGs (X : Cx) (ts : List Expr) (t : TGs) : Prop :=
  ∀ (pins : List (Addr × Obj)) (s : Shared) (σ : St) (H : Hp) (vs : List V) (us : List Value) (Q : St → Hp → Prop), Inv X pins σ H s → Vals vs us → t vs σ H Q →
    wpAny (model X.prog X.w) X.A (assignInOrder ((assignEach ts X.env).map (·.2)) us) (fun _ s' => ∃ σ' H', Inv X pins σ' H' s' ∧ Q σ' H') X.xe s
noncomputable abbrev TSet := V → V → V → Hp → (Hp → Prop) → Prop
noncomputable abbrev TIp := V → V → Hp → VK → Prop
noncomputable def PIp (X : Cx) (op : Operator) (t : TIp) : Prop :=
  ∀ (pins : List (Addr × Obj)) (s : Shared) (σ : St) (H : Hp) (x y : V) (v u : Value) (Q : VK), Inv X pins σ H s → RelV x v → RelV y u → t x y H Q →
    wpAny (model X.prog X.w) X.A (inplaceOp op v u) (EP X pins σ Q) X.xe s
section
variable {X : Cx} {pos : Pos}
noncomputable def qap (i : Nat) : TG := fun v σ H Q => Q (σ.set i (some v)) H
theorem qaK {i : Nat} {x : Str} (hN : X.N.Nodup) (hi : X.N[i]? = some x) (hx : Loc X.env.scope x) (hf : X.fn x = true ∨ X.env.scope.names.lookup x = some .local := by first | exact .inl rfl | exact .inr rfl | assumption) : PG X (.Name x pos) (qap i) := by
  intro pins s σ H v u Q I r h
  exact wpAny_assign_Name (qcl I hN hi hx r (fun s' I' => ⟨_, H, I', h⟩) hf)
noncomputable def qkb : TGs := fun vs σ H Q => vs = [] ∧ Q σ H
noncomputable def qcn (t : TG) (u : TGs) : TGs := fun vs σ H Q => ∃ v r, vs = v :: r ∧ t v σ H fun σ' H' => u r σ' H' Q
theorem qcE : PGs X [] qkb := by
  intro pins s σ H vs us Q I r h
  obtain ⟨e, h⟩ := h
  subst e
  cases r
  exact assignInOrder_nil ⟨σ, H, I, h⟩
theorem qaT {e : Expr} {es : List Expr} {t : TG} {u : TGs} (h1 : PG X e t) (h2 : PGs X es u)
    (hs : (assignEach (e :: es) X.env).map (·.2) = assign e X.env :: (assignEach es X.env).map (·.2) := by rfl) : PGs X (e :: es) (qcn t u) := by
  intro pins s σ H vs us Q I r h
  obtain ⟨v, vr, e1, h⟩ := h
  subst e1
  cases r with
  | cons r rr =>
    rw [hs]
    refine assignInOrder_cons (thn (h1 pins s σ H _ _ _ I r h) fun _ s1 ⟨σ1, H1, I1, q1⟩ => ?_)
    exact h2 pins s1 σ1 H1 _ _ Q I1 rr q1
noncomputable def qoc (K : PySem.W.Frag) (n : Nat) (t : TGs) : TG := fun v σ H Q => ∃ a xs, v = .ref a ∧ SqT K H a xs ∧ xs.length = n ∧ t xs σ H Q
theorem qlT {es : List Expr} {k : Nat} {t : TGs} {n : Nat} (hc : X.calm = true) (h : PGs X es t)
    (hn : (assignEach es X.env).length = n := by rfl) (hst : (assignEach es X.env).findIdx? (·.1) = none := by rfl) : PG X (.Tuple es k pos) (qoc X.K n t) := by
  intro pins s σ H v u Q I r hw
  obtain ⟨a, xs, e1, hq, hl, hw⟩ := hw
  subst e1
  cases r
  obtain ⟨its, rv, ht, hz⟩ := I.tuple hq
  refine assign_Tuple_tuple (I.ok.hd hc) ht (by simp [hn, ← hl, rv.length]) hst fun h' hx => ?_
  have I1 : Inv X pins σ H { s with heap := h' } := I.kept (t' := s.toks) fun b o e => hx b o (Nat.ne_of_lt (Heap.lt_size e)) e
  exact h pins _ σ H xs _ Q I1 (by simpa using rv) hw
noncomputable def qod (to ti : TE) (t : TSet) : TG := fun v σ H Q => to σ H fun o H1 => ti σ H1 fun i H2 => t o i v H2 fun H3 => Q σ H3
noncomputable def qaY (te : TE) (g : TG) : TS := fun D σ H => te σ H fun x H1 => g x σ H1 D.nx
theorem qas {i : Nat} {x : Str} {e : Expr} {te : TE} {pos' : Pos} (hN : X.N.Nodup) (hi : X.N[i]? = some x) (hx : Loc X.env.scope x) (he : PE X e te) (hs : swapsWith e (some (.Name x pos')) pos.line X.env = pure false := by rfl) (hf : X.fn x = true ∨ X.env.scope.names.lookup x = some .local := by first | exact .inl rfl | exact .inr rfl | assumption) :
    PS X (.Assign [.Name x pos'] e pos) (qaY te (qap i)) := by
  intro pins s σ H D I h
  refine wpAny_Assign_Name (thn (he pins s σ H _ I h) fun v s1 ⟨y, H1, I1, r1, q1⟩ => ?_) hs
  exact qcl I1 hN hi hx r1 (fun s2 I2 => ⟨_, H1, I2, q1⟩) hf
noncomputable def qnd (i j : Nat) (ta : TA) : TS := fun D σ H => ta σ H fun vs H1 => ∃ v w, vs = [v, w] ∧ D.nx ((σ.set i (some v)).set j (some w)) H1
theorem qkc {i j : Nat} {x y : Str} {a b : Expr} {ta : TA} {px py pt : Pos} {kt k2 pt2} (hc : X.calm = true) (hN : X.N.Nodup) (hi : X.N[i]? = some x) (hj : X.N[j]? = some y) (hij : i ≠ j)
    (hx : X.env.scope.names.lookup x = some .local) (hy : X.env.scope.names.lookup y = some .local) (ha : PA X [a, b] ta)
    (hw : swappedStores [.Tuple [.Name x px, .Name y py] kt pt] (.Tuple [a, b] k2 pt2) X.env = pure (some [x, y]))
    (hs : swapsWithSole [.Tuple [.Name x px, .Name y py] kt pt] (.Tuple [a, b] k2 pt2) pos.line X.env = pure false := by rfl) :
    PS X (.Assign [.Tuple [.Name x px, .Name y py] kt pt] (.Tuple [a, b] k2 pt2) pos) (qnd i j ta) := by
  intro pins s σ H D I h
  rw [exec_Assign_arm]
  refine wpAny_bind (wpAny_standAt ?_)
  rw [hs]
  refine wpAny_bind (wpAny_pure ?_)
  rw [if_neg (by decide)]
  refine wpAny_bind (Tuple_ (thn (ha _ pins s σ H _ I h) fun us s1 ⟨vs, H1, I1, r1, q1⟩ => ?_))
  obtain ⟨v, w, e1, q1⟩ := q1
  subst e1
  obtain ⟨u1, u2, rfl, rv, rw'⟩ : ∃ u1 u2, us = [u1, u2] ∧ RelV v u1 ∧ RelV w u2 := by
    cases r1 with
    | cons p q =>
      cases q with
      | cons p' q' =>
        cases q'
        exact ⟨_, _, rfl, p, p'⟩
  refine wpAny_newObj_type ?_ (by show 2 ≤ sizeLine; decide)
  have I2 : Inv X pins σ H1 { s1 with heap := s1.heap.push { cls := .type "tuple", data := .seq [u1, u2].toArray } } := I1.kept (t' := s1.toks) fun b o e => Heap.get?_push_of_some _ e
  rw [hw]
  refine wpAny_bind (wpAny_pure ?_)
  show wpAny (model X.prog X.w) X.A (do rule "assign.swapped-stores"; let items ← unpackItems (.ref s1.heap.objs.size) 2 none; assignInOrder [fun v => bindName X.env y v, fun v => bindName X.env x v] items.reverse; pure Flow.next) _ _ _
  refine wpAny_bind (wpAny_rule (wpAny_bind (unpackItems_tuple (items := #[u1, u2]) (I.ok.hd hc) (IsTup.new s1.heap _) fun h' hx' => ?_)))
  have I3 := I2.kept (h' := h') (t' := s1.toks) fun b o e => hx' b o (Nat.ne_of_lt (Heap.lt_size e)) e
  show wpAny _ _ (assignInOrder [fun v => bindName X.env y v, fun v => bindName X.env x v] [u2, u1] >>= fun _ => pure Flow.next) _ _ _
  refine wpAny_bind (assignInOrder_cons (wpAny_bindName (qcl I3 hN hj (.inl hy) rw' (fun s2 I4 => ?_) (.inr hy))))
  refine assignInOrder_cons (wpAny_bindName (qcl I4 hN hi (.inl hx) rv (fun s3 I5 => assignInOrder_nil (wpAny_pure ?_)) (.inr hx)))
  rw [List.set_comm _ _ (Ne.symm hij)] at I5
  exact ⟨_, H1, I5, q1⟩
noncomputable def qlI (i : Nat) (te : TE) (ti : TIp) : TS := fun D σ H => ∃ x, σ[i]? = some (some x) ∧ te σ H fun y H1 => ti x y H1 fun z H2 => D.nx (σ.set i (some z)) H2
theorem qfZ {i : Nat} {x : Str} {e : Expr} {te : TE} {op : Operator} {ti : TIp} {pos' : Pos} (hN : X.N.Nodup) (hi : X.N[i]? = some x) (hx : Loc X.env.scope x) (he : PE X e te) (ho : PIp X op ti) (hf : X.fn x = true ∨ X.env.scope.names.lookup x = some .local := by first | exact .inl rfl | exact .inr rfl | assumption) :
    PS X (.AugAssign (.Name x pos') op e pos) (qlI i te ti) := by
  intro pins s σ H D I h
  obtain ⟨v, e1, h⟩ := h
  obtain ⟨m, hn, hl⟩ := I.loc
  have vis : Vis X.env.scope x := by rcases hx with k | k; exact .inl k; exact .inr (.inl k)
  obtain ⟨u, r, l⟩ := hl i x v hi e1 vis
  refine wpAny_AugAssign_Name ?_
  have go : wpAny (model X.prog X.w) X.A (eval e X.env) (fun w s₂ => wpAny (model X.prog X.w) X.A (inplaceOp op u w) (fun r s₃ => wpAny (model X.prog X.w) X.A (storeName X.env x r) (fun _ => SP X pins D .next) X.xe s₃) X.xe s₂) X.xe s := by
    refine thn (he pins s σ H _ I h) fun w s1 ⟨y, H1, I1, r1, q1⟩ => ?_
    refine thn (ho pins s1 σ H1 v y u w _ I1 r r1 q1) fun z s2 ⟨zv, H2, I2, r2, q2⟩ => ?_
    exact qcl I2 hN hi hx r2 (fun s3 I3 => ⟨_, H2, I3, q2⟩) hf
  rcases l with ⟨hk, hm⟩ | ⟨hk, c, hc, hcell⟩
  · exact wpAny_loadName_local I.ok.kind hk hn hm go
  · rcases hk with hk | hk
    · exact wpAny_loadName_cell I.ok.kind hk hc hcell go
    · rcases hx with k | k
      · have : X.env.scope.names.lookup x = some .free := hk
        rw [k] at this; cases this
      · have : X.env.scope.names.lookup x = some .free := hk
        rw [k] at this; cases this
noncomputable def qnl (to ti te : TE) (tget : V → V → Hp → VK → Prop) (tip : TIp) (tset : TSet) : TS := fun D σ H => to σ H fun o H1 => ti σ H1 fun i H2 => tget o i H2 fun x H3 => te σ H3 fun y H4 => tip x y H4 fun z H5 => tset o i z H5 fun H6 => D.nx σ H6
end
section
variable {X : Cx} {pos : Pos}
noncomputable def qco (c : TT) (tb : TS) : TS := fun D σ H => ∃ W : Nat → St → Hp → Prop, (∃ m, W m σ H) ∧ ∀ m σ H, W m σ H →
  c σ H fun b H1 => if b = true then ∃ N : St → Hp → Prop, (∀ σ' H', N σ' H' → ∃ m', m' < m ∧ W m' σ' H') ∧ tb { D with nx := N, ct := N, bk := D.nx } σ H1 else D.nx σ H1
theorem qb1 {c : Expr} {body : List Stmt} {tc : TT} {tb : TS} (hp : PassesOwn (model X.prog X.w) X.A X.env X.xe) (hc : PT X c tc) (hb : PSs X body tb) : PS X (.While c body [] pos) (qco tc tb) := by
  intro pins s σ H D I h
  obtain ⟨W, ⟨m0, w0⟩, turn⟩ := h
  refine wpAny_While (codeAny_whileLoop (fun n s' => ∃ σ' H', Inv X pins σ' H' s' ∧ W n σ' H') ?_ m0 ⟨σ, H, I, w0⟩)
  rintro n s1 ⟨σ1, H1, I1, w1⟩
  refine wpAny_passesOwn hp (thn (hc pins s1 σ1 H1 _ I1 (turn n σ1 H1 w1)) fun b s2 ⟨H2, I2, q2⟩ => ?_)
  cases b with
  | true =>
    obtain ⟨N, hN, q2⟩ := q2
    rw [if_pos rfl]
    refine wpAny_passesOwn hp (thn (hb pins s2 σ1 H2 _ I2 q2) fun f s3 q3 => ?_)
    cases f with
    | next =>
      obtain ⟨σ3, H3, I3, n3⟩ := q3
      obtain ⟨m', hm, w3⟩ := hN σ3 H3 n3
      exact ⟨m', hm, σ3, H3, I3, w3⟩
    | cont =>
      obtain ⟨σ3, H3, I3, n3⟩ := q3
      obtain ⟨m', hm, w3⟩ := hN σ3 H3 n3
      exact ⟨m', hm, σ3, H3, I3, w3⟩
    | brk => exact q3
    | ret v => exact q3
  | false =>
    rw [if_neg Bool.false_ne_true]
    exact wpAny_execs_nil ⟨σ1, H2, I2, q2⟩
end
structure It where
  go : Nat → Hp → Prop
  yld : Nat → Hp → V → Hp → Prop
  stop : Nat → Hp → Prop
noncomputable def qgD (X : Cx) (pins : List (Addr × Obj)) (H : Hp) (b : Addr) : Prop :=
  H b = none ∧ b ≠ X.env.locals ∧ b ∉ X.fs ∧ (b ∈ X.ex ∨ X.s₀.heap.objs.size ≤ b) ∧ (∀ x c, X.env.cells.lookup x = some c → c ≠ b) ∧ ∀ p ∈ X.pn ++ pins, p.1 ≠ b
theorem Inv.fpOk {X : Cx} {pins : List (Addr × Obj)} {σ : St} {H H' : Hp} {s : Shared} {b : Addr} (I : Inv X pins σ H s) (hb : s.heap.objs.size ≤ b) (hn : H' b = none) : qgD X pins H' b := by
  refine ⟨hn, Nat.ne_of_gt (Nat.lt_of_lt_of_le I.lt hb), I.nofs hb, .inr (Nat.le_trans I.sz hb), fun x c e z => ?_, fun p hp z => ?_⟩
  · obtain ⟨v, q⟩ := I.cell x c e
    exact absurd (Nat.lt_of_lt_of_le q.lt (by rw [z]; exact hb)) (Nat.lt_irrefl _)
  · exact absurd (Nat.lt_of_lt_of_le (Heap.lt_size (I.pin p hp).1) (by rw [z]; exact hb)) (Nat.lt_irrefl _)
structure Turn (P : Program) (w : World) (K : PySem.W.Frag) (tg : Expr) (J : It) (fp : List Addr) (it : Addr) (tn : Nat → Heap → Prop) : Prop where
  mem : it ∈ fp
  obj : ∀ i h, tn i h → ∀ b ∈ fp, ∃ o, h.get? b = some o ∧ ∀ v, o.data ≠ .cell v
  keep : ∀ i h h', tn i h → (∀ b ∈ fp, ∀ o, h.get? b = some o → h'.get? b = some o) → tn i h'
  item : ∀ (X : Cx), X.prog = P → X.w = w → X.K = K → X.calm = true → ∀ (i : Nat) (pins : List (Addr × Obj)) (s : Shared) (σ : St) (H : Hp) (E : Value → Shared → Prop), Inv X pins σ H s → (∀ b ∈ fp, qgD X pins H b) → tn i s.heap → J.go i H →
    wpAny (model P w) X.A (pyNext (.ref it)) (fun r s1 => ∃ u, r = some u ∧
      wpAny (model P w) X.A (letOwnedTupleGo tg (.ref it) u) (fun _ s2 => ∃ x H', Inv X pins σ H' s2 ∧ RelV x u ∧ J.yld i H x H' ∧ tn (i + 1) s2.heap ∧ ∀ b ∈ fp, H' b = none) E s1) E s
  done : ∀ (X : Cx), X.prog = P → X.w = w → X.K = K → X.calm = true → ∀ (i : Nat) (pins : List (Addr × Obj)) (s : Shared) (σ : St) (H : Hp) (E : Value → Shared → Prop), Inv X pins σ H s → (∀ b ∈ fp, qgD X pins H b) → tn i s.heap → J.stop i H →
    wpAny (model P w) X.A (pyNext (.ref it)) (fun r s1 => r = none ∧ Inv X pins σ H s1) E s
  self : ∀ (A : Around) (i : Nat) (s : Shared) (Q : Value → Shared → Prop) (E : Value → Shared → Prop), tn i s.heap → Q (.ref it) s → wpAny (model P w) A (pyIter (.ref it)) Q E s
noncomputable abbrev TI := St → Hp → (It → Hp → Prop) → Prop
noncomputable def PIE (X : Cx) (pins : List (Addr × Obj)) (σ : St) (tg : Expr) (R : It → Hp → Prop) (itv : Value) (s2 : Shared) : Prop :=
  ∃ (it : Addr) (fp : List Addr) (tn : Nat → Heap → Prop) (J : It) (H' : Hp), itv = .ref it ∧ Inv X pins σ H' s2 ∧ Turn X.prog X.w X.K tg J fp it tn ∧ tn 0 s2.heap ∧ (∀ b ∈ fp, qgD X pins H' b) ∧ R J H'
noncomputable def PI (X : Cx) (tg iter : Expr) (wi : TI) : Prop :=
  ∀ (pins : List (Addr × Obj)) (s : Shared) (σ : St) (H : Hp) (R : It → Hp → Prop), Inv X pins σ H s → wi σ H R →
    wpAny (model X.prog X.w) X.A (eval iter X.env) (fun v s1 => wpAny (model X.prog X.w) X.A (pyIter v) (PIE X pins σ tg R) X.xe s1) X.xe s
theorem qky {M : Model} {A : Around} {E : Value → Shared → Prop} {s : Shared} {tg : Expr} {it : Addr} {u : Value} {o : Obj} {n : String} {vs : Array Value} {Q : Unit → Shared → Prop} (ho : s.heap.get? it = some o) (hc : o.cls = .type n) (hd : o.data = .fields vs)
    (hn : ["enumerate", "zip", "dict_itemiterator", "dict_reverseitemiterator", "odict_iterator", "itertools.zip_longest", "itertools.pairwise"].contains n = false) (hQ : Q () s) : wpAny M A (letOwnedTupleGo tg (.ref it) u) Q E s := by
  unfold letOwnedTupleGo
  cases tg <;> first
    | exact wpAny_pure hQ
    | (cases u <;> first
        | exact wpAny_pure hQ
        | (refine wpAny_bind (wpAny_load ho ?_)
           rw [hc, hd]
           show wpAny M A (if (["enumerate", "zip", "dict_itemiterator", "dict_reverseitemiterator", "odict_iterator", "itertools.zip_longest", "itertools.pairwise"].contains n && vs[0]? == some (rawInt _)) = true then _ else _) Q E s
           rw [if_neg (by intro h; rw [hn, Bool.false_and] at h; cases h)]
           exact wpAny_pure hQ))
noncomputable def Itl (K : PySem.W.Frag) (a : Addr) : It :=
  ⟨fun i H => ∃ xs x, SqL K H a xs ∧ xs[i]? = some x, fun i H x H' => H' = H ∧ ∀ xs, SqL K H a xs → xs[i]? = some x, fun i H => ∃ xs, SqL K H a xs ∧ xs.length ≤ i⟩
noncomputable def Itt (K : PySem.W.Frag) (a : Addr) : It :=
  ⟨fun i H => ∃ xs x, SqT K H a xs ∧ xs[i]? = some x, fun i H x H' => H' = H ∧ ∀ xs, SqT K H a xs → xs[i]? = some x, fun i H => ∃ xs, SqT K H a xs ∧ xs.length ≤ i⟩
noncomputable def Itr (lo : Int) (n : Nat) : It := ⟨fun i _ => i < n, fun i H x H' => H' = H ∧ x = .int (lo + i), fun i _ => n ≤ i⟩
theorem qhq {P : Program} {w : World} {K : PySem.W.Frag} {tg : Expr} (a it : Addr) : Turn P w K tg (Itl K a) [it] it (fun i h => h.IsListIter it a i) where
  mem := by simp
  obj := fun i h st b hb => by
    have e : b = it := by simpa using hb
    subst e
    obtain ⟨o, e, c, d⟩ := st
    exact ⟨o, e, fun v z => by rw [d] at z; cases z⟩
  keep := fun i h h' st k => st.at fun o e => k it (by simp) o e
  item := by
    intro X hP hw hK hc i pins s σ H E I hf st hg
    subst hP hw hK
    obtain ⟨xs, x, hq, hx⟩ := hg
    obtain ⟨its, rv, p, hz⟩ := I.list hq
    obtain ⟨u, hu, ru⟩ := rv.get hx
    obtain ⟨f0, f1, f2, f3, f4, f5⟩ := hf it (by simp)
    refine wpAny_pyNext_list_item st p.isList (x := u) (by simpa using hu) fun h' st' sb => ?_
    have I1 : Inv X pins σ H { s with heap := h' } := I.turned (t' := s.toks) (fun b o hb e => (sb.2 b hb).trans e) f0 f1 f3 f4 f5
    obtain ⟨o, e, c, d⟩ := id st'
    exact ⟨u, rfl, qky (s := { s with heap := h' }) e c d (by decide) ⟨x, H, I1, ru, ⟨rfl, fun ys hy => by rw [I.list_inj hy hq]; exact hx⟩, st', fun b hb => (hf b hb).1⟩⟩
  done := by
    intro X hP hw hK hc i pins s σ H E I hf st hg
    subst hP hw hK
    obtain ⟨xs, hq, hx⟩ := hg
    obtain ⟨its, rv, p, hz⟩ := I.list hq
    obtain ⟨f0, f1, f2, f3, f4, f5⟩ := hf it (by simp)
    have hl := rv.length
    exact wpAny_pyNext_list_end (I.ok.hd hc) st p.isList (by simp; omega) fun h' eb => ⟨rfl, I.turned (t' := s.toks) (fun b o hb e => eb b o hb e) f0 f1 f3 f4 f5⟩
  self := fun _ _ _ _ _ st h => wpAny_pyIter_listiter st h
theorem qgE {P : Program} {w : World} {K : PySem.W.Frag} {tg : Expr} (a it : Addr) : Turn P w K tg (Itt K a) [it] it (fun i h => h.IsTupleIter it a i) where
  mem := by simp
  obj := fun i h st b hb => by
    have e : b = it := by simpa using hb
    subst e
    obtain ⟨o, e, c, d⟩ := st
    exact ⟨o, e, fun v z => by rw [d] at z; cases z⟩
  keep := fun i h h' st k => st.at fun o e => k it (by simp) o e
  item := by
    intro X hP hw hK hc i pins s σ H E I hf st hg
    subst hP hw hK
    obtain ⟨xs, x, hq, hx⟩ := hg
    obtain ⟨its, rv, p, hz⟩ := I.tuple hq
    obtain ⟨u, hu, ru⟩ := rv.get hx
    obtain ⟨f0, f1, f2, f3, f4, f5⟩ := hf it (by simp)
    refine wpAny_pyNext_tuple_item st (show s.heap.IsTuple a its.toArray from p) (x := u) (by simpa using hu) fun h' st' sb => ?_
    have I1 : Inv X pins σ H { s with heap := h' } := I.turned (t' := s.toks) (fun b o hb e => (sb.2 b hb).trans e) f0 f1 f3 f4 f5
    obtain ⟨o, e, c, d⟩ := id st'
    exact ⟨u, rfl, qky (s := { s with heap := h' }) e c d (by decide) ⟨x, H, I1, ru, ⟨rfl, fun ys hy => by rw [I.tuple_inj hy hq]; exact hx⟩, st', fun b hb => (hf b hb).1⟩⟩
  done := by
    intro X hP hw hK hc i pins s σ H E I hf st hg
    subst hP hw hK
    obtain ⟨xs, hq, hx⟩ := hg
    obtain ⟨its, rv, p, hz⟩ := I.tuple hq
    obtain ⟨f0, f1, f2, f3, f4, f5⟩ := hf it (by simp)
    have hl := rv.length
    exact wpAny_pyNext_tuple_end (I.ok.hd hc) st (show s.heap.IsTuple a its.toArray from p) (by simp; omega) fun h' eb => ⟨rfl, I.turned (t' := s.toks) (fun b o hb e => eb b o hb e) f0 f1 f3 f4 f5⟩
  self := fun _ _ _ _ _ st h => wpAny_pyIter_tupleiter st h
theorem qgF {P : Program} {w : World} {K : PySem.W.Frag} {tg : Expr} (it : Addr) (lo : Int) (n : Nat) : Turn P w K tg (Itr lo n) [it] it (fun i h => IsRangeIter h it (lo + (i : Nat) * 1) ((n : Int) - (i : Nat)) 1) where
  mem := by simp
  obj := fun i h st b hb => by
    have e : b = it := by simpa using hb
    subst e
    exact ⟨_, st, fun v z => by
      have z' : Data.fields _ = Data.cell v := z
      cases z'⟩
  keep := fun i h h' st k => k it (by simp) _ st
  item := by
    intro X hP hw hK hc i pins s σ H E I hf st hg
    subst hP hw hK
    obtain ⟨f0, f1, f2, f3, f4, f5⟩ := hf it (by simp)
    have W := Walks.range (prog := X.prog) (w := X.w) (I.ok.hd hc) it lo 1 n
    refine W.item i s _ _ hg st fun v h' tk hv st' kk => ?_
    obtain ⟨t, rfl⟩ := hv
    have I1 : Inv X pins σ H { s with heap := h', toks := tk } := I.turned (fun b o hb e => kk b o (by simpa using hb) e) f0 f1 f3 f4 f5
    refine ⟨_, rfl, qky (s := { s with heap := h', toks := tk }) (n := "range_iterator") st' rfl rfl (by decide) ⟨.int (lo + i), H, I1, ⟨t, ?_⟩, ⟨rfl, rfl⟩, st', fun b hb => (hf b hb).1⟩⟩
    rw [Int.mul_one]
  done := by
    intro X hP hw hK hc i pins s σ H E I hf st hg
    subst hP hw hK
    obtain ⟨f0, f1, f2, f3, f4, f5⟩ := hf it (by simp)
    exact wpAny_pyNext_range_end (I.ok.hd hc) st (by have : n ≤ i := hg; omega) fun h' eb => ⟨rfl, I.turned (t' := s.toks) (fun b o hb e => eb b o hb e) f0 f1 f3 f4 f5⟩
  self := fun _ _ _ _ _ st h => wpAny_pyIter_rangeiter st h
end L2
namespace L2
open PySem PySem.Spec PyProof.Rows
section
variable {X : Cx} {tg : Expr}
noncomputable def qdf (K : PySem.W.Frag) (tl : TE) : TI := fun σ H R => tl σ H fun x H1 => ∃ a, x = .ref a ∧ (∃ xs, SqL K H1 a xs) ∧ R (Itl K a) H1
noncomputable def qjd (K : PySem.W.Frag) (tl : TE) : TI := fun σ H R => tl σ H fun x H1 => ∃ a, x = .ref a ∧ (∃ xs, SqT K H1 a xs) ∧ R (Itt K a) H1
theorem qdg {l : Expr} {tl : TE} (hl : PE X l tl) : PI X tg l (qdf X.K tl) := by
  intro pins s σ H R I h
  refine thn (hl pins s σ H _ I h) fun v s1 ⟨x, H1, I1, r1, q1⟩ => ?_
  obtain ⟨a, e, ⟨xs, hq⟩, q⟩ := q1
  subst e
  cases r1
  obtain ⟨its, rv, p, hz⟩ := I1.list hq
  refine wpAny_pyIter_list p.isList ?_
  refine ⟨s1.heap.objs.size, [s1.heap.objs.size], _, _, H1, rfl, I1.kept (t' := s1.toks) fun b o e => Heap.get?_push_of_some _ e, qhq a _, ⟨_, Heap.get?_push_size _ rfl, rfl, rfl⟩, fun b hb => ?_, q⟩
  have e : b = s1.heap.objs.size := by simpa using hb
  subst e
  exact I1.fpOk (Nat.le_refl _) (I1.hok.fresh (Nat.le_refl _))
theorem qf0 {l : Expr} {tl : TE} (hl : PE X l tl) : PI X tg l (qjd X.K tl) := by
  intro pins s σ H R I h
  refine thn (hl pins s σ H _ I h) fun v s1 ⟨x, H1, I1, r1, q1⟩ => ?_
  obtain ⟨a, e, ⟨xs, hq⟩, q⟩ := q1
  subst e
  cases r1
  obtain ⟨its, rv, p, hz⟩ := I1.tuple hq
  refine wpAny_pyIter_tuple (show s1.heap.IsTuple a its.toArray from p) ?_
  refine ⟨s1.heap.objs.size, [s1.heap.objs.size], _, _, H1, rfl, I1.kept (t' := s1.toks) fun b o e => Heap.get?_push_of_some _ e, qgE a _, ⟨_, Heap.get?_push_size _ rfl, rfl, rfl⟩, fun b hb => ?_, q⟩
  have e : b = s1.heap.objs.size := by simpa using hb
  subst e
  exact I1.fpOk (Nat.le_refl _) (I1.hok.fresh (Nat.le_refl _))
theorem qje {pins : List (Addr × Obj)} {σ : St} {H : Hp} {s : Shared} {R : It → Hp → Prop} {E : Value → Shared → Prop} {lo hi : Int} {t u v : Tok} {tk : Nat} (I : Inv X pins σ H s) (h1 : -(2 ^ 62) ≤ lo) (h2 : lo < 2 ^ 62) (h3 : -(2 ^ 62) ≤ hi) (h4 : hi < 2 ^ 62)
    (q : R (Itr lo (hi - lo).toNat) H) : wpAny (model X.prog X.w) X.A (pyIter (.ref s.heap.objs.size)) (PIE X pins σ tg R) E { s with heap := s.heap.push { cls := .type "range", data := .fields #[.int lo t, .int hi u, .int 1 v] }, toks := tk } := by
  refine wpAny_pyIter_range (IsRange.new ..) (small_one h1 h2 h3 h4) ?_
  have I1 : Inv X pins σ H { s with heap := s.heap.push { cls := .type "range", data := .fields #[.int lo t, .int hi u, .int 1 v] }, toks := tk } := I.kept fun b o e => Heap.get?_push_of_some _ e
  refine ⟨(s.heap.push { cls := .type "range", data := .fields #[.int lo t, .int hi u, .int 1 v] }).objs.size, [(s.heap.push { cls := .type "range", data := .fields #[.int lo t, .int hi u, .int 1 v] }).objs.size], _, _, H, rfl,
    I1.kept (t' := tk) fun b o e => Heap.get?_push_of_some _ e, qgF _ lo (hi - lo).toNat, ?_, fun b hb => ?_, q⟩
  · have e1 : lo + ((0 : Nat) : Int) * 1 = lo := by simp
    have e2 : (((hi - lo).toNat : Nat) : Int) - ((0 : Nat) : Int) = Builtin.Range.rangeSize lo hi 1 := by rw [rangeSize_one]; split <;> omega
    show IsRangeIter _ _ (lo + ((0 : Nat) : Int) * 1) ((((hi - lo).toNat : Nat) : Int) - ((0 : Nat) : Int)) 1
    rw [e1, e2]
    exact Heap.get?_push_size _ rfl
  · have e : b = (s.heap.push { cls := .type "range", data := .fields #[.int lo t, .int hi u, .int 1 v] }).objs.size := by simpa using hb
    subst e
    exact I1.fpOk (Nat.le_refl _) (I1.hok.fresh (Nat.le_refl _))
noncomputable def qhr (ta : TA) : TI := fun σ H R => ta σ H fun vs H1 => ∃ j : Int, vs = [.int j] ∧ -(2 ^ 62) ≤ j ∧ j < 2 ^ 62 ∧ R (Itr 0 j.toNat) H1
noncomputable def qlU (ta : TA) : TI := fun σ H R => ta σ H fun vs H1 => ∃ i j : Int, vs = [.int i, .int j] ∧ (-(2 ^ 62) ≤ i ∧ i < 2 ^ 62 ∧ -(2 ^ 62) ≤ j ∧ j < 2 ^ 62) ∧ R (Itr i (j - i).toNat) H1
theorem qeY {a : Expr} {ta : TA} {p pos : Pos} (hg : Gl X "range") (hm : X.mg "range" = none) (ha : PA X [a] ta) (hs : starEach [a] X.env = [(false, eval a X.env)] := by rfl) : PI X tg (.Call (.Name "range" p) [a] [] pos) (qhr ta) := by
  intro pins s σ H R I h
  refine Call_ (qd4 I hg hm boot_range (PyProof.Rows.callWith_type1 (thn (ha pos pins s σ H _ I h) fun us s1 ⟨vs, H1, I1, r1, q1⟩ => ?_) hs rfl))
  obtain ⟨j, e, q1, q2, q⟩ := q1
  subst e
  cases r1 with
  | cons r rr =>
    cases rr
    obtain ⟨t, rfl⟩ := r
    exact call_range_1 (qje I1 (by omega) (by omega) q1 q2 (by simpa using q))
noncomputable def qfy (wi : TI) (g : TG) (tb : TS) : TS := fun D σ H => wi σ H fun J H1 => ∃ W : Nat → Nat → St → Hp → Prop, (∃ m, W 0 m σ H1) ∧ ∀ i m σ H, W i m σ H →
  (J.stop i H ∧ D.nx σ H) ∨ (J.go i H ∧ ∃ N : St → Hp → Prop, (∀ σ' H', N σ' H' → ∃ m', m' < m ∧ W (i + 1) m' σ' H') ∧ ∀ x H', J.yld i H x H' → g x σ H' fun σ2 H2 => tb { D with nx := N, ct := N, bk := D.nx } σ2 H2)
noncomputable def qf1 (fp : List Addr) (h : Heap) : List (Addr × Obj) := fp.filterMap fun b => (h.get? b).map fun o => (b, o)
theorem qbv {fp : List Addr} {h : Heap} {b : Addr} {o : Obj} (hb : b ∈ fp) (e : h.get? b = some o) : (b, o) ∈ qf1 fp h := List.mem_filterMap.mpr ⟨b, hb, by rw [e]; rfl⟩
theorem qhs {fp : List Addr} {h : Heap} {p : Addr × Obj} (hp : p ∈ qf1 fp h) : p.1 ∈ fp ∧ h.get? p.1 = some p.2 := by
  obtain ⟨b, hb, e⟩ := List.mem_filterMap.mp hp
  cases q : h.get? b with
  | none => rw [q] at e; cases e
  | some o =>
    rw [q] at e
    have e' : (b, o) = p := Option.some.inj e
    subst e'
    exact ⟨hb, q⟩
theorem Inv.pinned {pins : List (Addr × Obj)} {σ : St} {H : Hp} {s : Shared} {fp : List Addr} (I : Inv X pins σ H s) (hf : ∀ b ∈ fp, qgD X pins H b) (ho : ∀ b ∈ fp, ∃ o, s.heap.get? b = some o ∧ ∀ v, o.data ≠ .cell v) : Inv X (pins ++ qf1 fp s.heap) σ H s :=
  I.pins_of fun p hp => (List.mem_append.mp hp).elim (fun z => I.pin p (List.mem_append_right _ z)) fun z => by
    obtain ⟨hb, e⟩ := qhs z
    obtain ⟨f0, f1, f2, _⟩ := hf p.1 hb
    obtain ⟨o, e', d⟩ := ho p.1 hb
    rw [e] at e'; cases e'
    exact ⟨e, f0, f1, f2, d⟩
theorem Inv.unpinned {pins pl : List (Addr × Obj)} {σ : St} {H : Hp} {s : Shared} (I : Inv X (pins ++ pl) σ H s) : Inv X pins σ H s := I.pins_of fun p hp => I.pin p (List.mem_append_right _ (List.mem_append_left _ hp))
theorem qeZ {iter : Expr} {body : List Stmt} {wi : TI} {g : TG} {tb : TS} {pos : Pos} (hp : PassesOwn (model X.prog X.w) X.A X.env X.xe) (hc : X.calm = true) (hi : PI X tg iter wi) (hg : PG X tg g) (hb : PSs X body tb)
    (hs : ∀ x, foldedSetIterable iter X.env x = pure x := by intro _; rfl) : PS X (.For tg iter body [] pos) (qfy wi g tb) := by
  intro pins s σ H D I h
  refine wpAny_For (thn (hi pins s σ H _ I h) fun v s1 h1 => thn h1 fun itv s2 h2 => ?_) hs
  obtain ⟨it, fp, tn, J, H2, e, I2, T, st2, f2, W, ⟨m0, w0⟩, turn⟩ := h2
  subst e
  have stat : ∀ {H' : Hp}, (∀ b ∈ fp, H' b = none) → ∀ b ∈ fp, qgD X pins H' b := fun hn b hb => ⟨hn b hb, (f2 b hb).2⟩
  refine codeAny_forLoop_any (fun n s' => ∃ i σ' H', Inv X pins σ' H' s' ∧ tn i s'.heap ∧ (∀ b ∈ fp, H' b = none) ∧ W i n σ' H') ?_ m0 ⟨0, σ, H2, I2, st2, fun b hb => (f2 b hb).1, w0⟩
  rintro n s3 ⟨i, σ3, H3, I3, st3, fr3, w3⟩
  rcases turn i n σ3 H3 w3 with ⟨stop, qn⟩ | ⟨go, N, hN, step⟩
  · refine wpAny_passesOwn hp (thn (T.done X rfl rfl rfl hc i pins s3 σ3 H3 X.xe I3 (stat fr3) st3 stop) fun r s4 ⟨hr, I4⟩ => ?_)
    subst hr
    exact wpAny_execs_nil ⟨σ3, H3, I4, qn⟩
  · refine wpAny_passesOwn hp (thn (T.item X rfl rfl rfl hc i pins s3 σ3 H3 X.xe I3 (stat fr3) st3 go) fun r s4 ⟨u, hr, h4⟩ => ?_)
    subst hr
    refine wpAny_passesOwn hp (thn h4 fun _ s5 ⟨x, H5, I5, r5, y5, st5, fr5⟩ => ?_)
    have I5' := I5.pinned (stat fr5) (T.obj _ _ st5)
    refine wpAny_passesOwn hp (thn (hg _ s5 σ3 H5 x u _ I5' r5 (step x H5 y5)) fun _ s6 ⟨σ6, H6, I6, q6⟩ => ?_)
    refine wpAny_passesOwn hp (thn (hb _ s6 σ6 H6 _ I6 q6) fun f s7 q7 => ?_)
    have again : ∀ {σ7 : St} {H7 : Hp}, Inv X (pins ++ qf1 fp s5.heap) σ7 H7 s7 → N σ7 H7 → ∃ m, m < n ∧ ∃ i σ' H', Inv X pins σ' H' s7 ∧ tn i s7.heap ∧ (∀ b ∈ fp, H' b = none) ∧ W i m σ' H' := fun {σ7 H7} I7 n7 => by
      obtain ⟨m', hm, w7⟩ := hN σ7 H7 n7
      refine ⟨m', hm, i + 1, σ7, H7, I7.unpinned, T.keep _ _ _ st5 fun b hb o e => (I7.pin (b, o) (List.mem_append_right _ (List.mem_append_right _ (qbv hb e)))).1, fun b hb => ?_, w7⟩
      obtain ⟨o, e, d⟩ := T.obj _ _ st5 b hb
      exact (I7.pin (b, o) (List.mem_append_right _ (List.mem_append_right _ (qbv hb e)))).2.1
    cases f with
    | next => obtain ⟨σ7, H7, I7, n7⟩ := q7; exact again I7 n7
    | cont => obtain ⟨σ7, H7, I7, n7⟩ := q7; exact again I7 n7
    | brk => obtain ⟨σ7, H7, I7, q7⟩ := q7; exact ⟨σ7, H7, I7.unpinned, q7⟩
    | ret v => obtain ⟨x7, σ7, H7, I7, r7, q7⟩ := q7; exact ⟨x7, σ7, H7, I7.unpinned, r7, q7⟩
end
theorem qjf {K : PySem.W.Frag} {a : Addr} {xs : List V} {g : TG} {tb : TS} {D : Ends} {σ : St} {H : Hp} (Pv : Nat → St → Hp → Prop) (h0 : Pv 0 σ H) (hl : ∀ i σ H, i ≤ xs.length → Pv i σ H → SqL K H a xs)
    (hs : ∀ i x σ H, xs[i]? = some x → Pv i σ H → g x σ H fun σ2 H2 => tb { D with nx := Pv (i + 1), ct := Pv (i + 1), bk := D.nx } σ2 H2) (hd : ∀ σ H, Pv xs.length σ H → D.nx σ H) :
    ∃ W : Nat → Nat → St → Hp → Prop, (∃ m, W 0 m σ H) ∧ ∀ i m σ H, W i m σ H →
      ((Itl K a).stop i H ∧ D.nx σ H) ∨ ((Itl K a).go i H ∧ ∃ N : St → Hp → Prop, (∀ σ' H', N σ' H' → ∃ m', m' < m ∧ W (i + 1) m' σ' H') ∧ ∀ x H', (Itl K a).yld i H x H' → g x σ H' fun σ2 H2 => tb { D with nx := N, ct := N, bk := D.nx } σ2 H2) := by
  refine ⟨fun i m σ H => m = xs.length - i ∧ i ≤ xs.length ∧ Pv i σ H, ⟨xs.length, by simp, Nat.zero_le _, h0⟩, ?_⟩
  rintro i m σ H ⟨rfl, hi, p⟩
  have q := hl i σ H hi p
  by_cases hlt : i < xs.length
  · refine .inr ⟨⟨xs, xs[i], q, by simp [hlt]⟩, Pv (i + 1), fun σ' H' p' => ⟨xs.length - (i + 1), by omega, rfl, hlt, p'⟩, fun x H' y => ?_⟩
    obtain ⟨e, y⟩ := y
    subst e
    exact hs i x σ _ (y xs q) p
  · have e : i = xs.length := by omega
    subst e
    exact .inl ⟨⟨xs, q, Nat.le_refl _⟩, hd σ H p⟩
theorem qkz {K : PySem.W.Frag} {a : Addr} {xs : List V} {g : TG} {tb : TS} {D : Ends} {σ : St} {H : Hp} (Pv : Nat → St → Hp → Prop) (h0 : Pv 0 σ H) (hl : ∀ i σ H, i ≤ xs.length → Pv i σ H → SqT K H a xs)
    (hs : ∀ i x σ H, xs[i]? = some x → Pv i σ H → g x σ H fun σ2 H2 => tb { D with nx := Pv (i + 1), ct := Pv (i + 1), bk := D.nx } σ2 H2) (hd : ∀ σ H, Pv xs.length σ H → D.nx σ H) :
    ∃ W : Nat → Nat → St → Hp → Prop, (∃ m, W 0 m σ H) ∧ ∀ i m σ H, W i m σ H →
      ((Itt K a).stop i H ∧ D.nx σ H) ∨ ((Itt K a).go i H ∧ ∃ N : St → Hp → Prop, (∀ σ' H', N σ' H' → ∃ m', m' < m ∧ W (i + 1) m' σ' H') ∧ ∀ x H', (Itt K a).yld i H x H' → g x σ H' fun σ2 H2 => tb { D with nx := N, ct := N, bk := D.nx } σ2 H2) := by
  refine ⟨fun i m σ H => m = xs.length - i ∧ i ≤ xs.length ∧ Pv i σ H, ⟨xs.length, by simp, Nat.zero_le _, h0⟩, ?_⟩
  rintro i m σ H ⟨rfl, hi, p⟩
  have q := hl i σ H hi p
  by_cases hlt : i < xs.length
  · refine .inr ⟨⟨xs, xs[i], q, by simp [hlt]⟩, Pv (i + 1), fun σ' H' p' => ⟨xs.length - (i + 1), by omega, rfl, hlt, p'⟩, fun x H' y => ?_⟩
    obtain ⟨e, y⟩ := y
    subst e
    exact hs i x σ _ (y xs q) p
  · have e : i = xs.length := by omega
    subst e
    exact .inl ⟨⟨xs, q, Nat.le_refl _⟩, hd σ H p⟩
theorem qht {lo : Int} {n : Nat} {g : TG} {tb : TS} {D : Ends} {σ : St} {H : Hp} (Pv : Nat → St → Hp → Prop) (h0 : Pv 0 σ H)
    (hs : ∀ i σ H, i < n → Pv i σ H → g (.int (lo + i)) σ H fun σ2 H2 => tb { D with nx := Pv (i + 1), ct := Pv (i + 1), bk := D.nx } σ2 H2) (hd : ∀ σ H, Pv n σ H → D.nx σ H) :
    ∃ W : Nat → Nat → St → Hp → Prop, (∃ m, W 0 m σ H) ∧ ∀ i m σ H, W i m σ H →
      ((Itr lo n).stop i H ∧ D.nx σ H) ∨ ((Itr lo n).go i H ∧ ∃ N : St → Hp → Prop, (∀ σ' H', N σ' H' → ∃ m', m' < m ∧ W (i + 1) m' σ' H') ∧ ∀ x H', (Itr lo n).yld i H x H' → g x σ H' fun σ2 H2 => tb { D with nx := N, ct := N, bk := D.nx } σ2 H2) := by
  refine ⟨fun i m σ H => m = n - i ∧ i ≤ n ∧ Pv i σ H, ⟨n, by simp, Nat.zero_le _, h0⟩, ?_⟩
  rintro i m σ H ⟨rfl, hi, p⟩
  by_cases hlt : i < n
  · refine .inr ⟨hlt, Pv (i + 1), fun σ' H' p' => ⟨n - (i + 1), by omega, rfl, hlt, p'⟩, fun x H' y => ?_⟩
    obtain ⟨e, y⟩ := y
    subst e y
    exact hs i σ _ hlt p
  · have e : i = n := by omega
    subst e
    exact .inl ⟨Nat.le_refl _, hd σ H p⟩
theorem while_by {c : TT} {tb : TS} {D : Ends} {σ : St} {H : Hp} (Pv : St → Hp → Prop) (μ : St → Hp → Nat) (h0 : Pv σ H)
    (hs : ∀ σ H, Pv σ H → c σ H fun b H1 => if b = true then tb { D with nx := fun σ' H' => Pv σ' H' ∧ μ σ' H' < μ σ H, ct := fun σ' H' => Pv σ' H' ∧ μ σ' H' < μ σ H, bk := D.nx } σ H1 else D.nx σ H1)
    (mono : ∀ σ H Q Q', (∀ b H1, Q b H1 → Q' b H1) → c σ H Q → c σ H Q') : qco c tb D σ H := by
  refine ⟨fun m σ H => m = μ σ H ∧ Pv σ H, ⟨_, rfl, h0⟩, ?_⟩
  rintro m σ H ⟨rfl, p⟩
  refine mono σ H _ _ (fun b H1 q => ?_) (hs σ H p)
  cases b with
  | true => exact ⟨_, fun σ' H' ⟨p', l⟩ => ⟨_, l, rfl, p'⟩, q⟩
  | false => exact q
end L2
namespace L2
open PySem PySem.Spec PyProof.Rows
noncomputable abbrev R2 := V → V → Hp → VK → Prop
noncomputable def OpR (X : Cx) (f : Value → Value → Sem Value) (r : R2) : Prop :=
  ∀ (pins : List (Addr × Obj)) (s : Shared) (σ : St) (H : Hp) (x y : V) (v u : Value) (Q : VK), Inv X pins σ H s → RelV x v → RelV y u → r x y H Q →
    wpAny (model X.prog X.w) X.A (f v u) (EP X pins σ Q) X.xe s
noncomputable def UnR (X : Cx) (f : Value → Sem Value) (r : V → Hp → VK → Prop) : Prop :=
  ∀ (pins : List (Addr × Obj)) (s : Shared) (σ : St) (H : Hp) (x : V) (v : Value) (Q : VK), Inv X pins σ H s → RelV x v → r x H Q →
    wpAny (model X.prog X.w) X.A (f v) (EP X pins σ Q) X.xe s
noncomputable def qca (X : Cx) (f : Value) (r : List V → Hp → VK → Prop) : Prop :=
  ∀ (pins : List (Addr × Obj)) (s : Shared) (σ : St) (H : Hp) (xs : List V) (us : List Value) (Q : VK), Inv X pins σ H s → Vals xs us → r xs H Q →
    wpAny (model X.prog X.w) X.A (call f us) (EP X pins σ Q) X.xe s
noncomputable def qoe (X : Cx) (r : V → Hp → (Bool → Hp → Prop) → Prop) : Prop :=
  ∀ (pins : List (Addr × Obj)) (s : Shared) (σ : St) (H : Hp) (x : V) (v : Value) (Q : Bool → Hp → Prop), Inv X pins σ H s → RelV x v → r x H Q →
    wpAny (model X.prog X.w) X.A (truthy v) (TP X pins σ Q) X.xe s
noncomputable def tOp (r : R2) (ta tb : TE) : TE := fun σ H Q => ta σ H fun x H1 => tb σ H1 fun y H2 => r x y H2 Q
noncomputable def tUn (r : V → Hp → VK → Prop) (ta : TE) : TE := fun σ H Q => ta σ H fun x H1 => r x H1 Q
noncomputable def rI (C : Int → Int → Prop) (g : Int → Int → V) : R2 := fun x y H Q => ∃ i j, x = .int i ∧ y = .int j ∧ C i j ∧ Q (g i j) H
noncomputable def rI0 (g : Int → Int → V) : R2 := fun x y H Q => ∃ i j, x = .int i ∧ y = .int j ∧ Q (g i j) H
noncomputable def rU (g : Int → V) : V → Hp → VK → Prop := fun x H Q => ∃ i, x = .int i ∧ Q (g i) H
section
variable {X : Cx} {a b c : Expr} {ta tb tc : TE} {pos : Pos}
theorem qnm (ha : PE X a ta) (hb : PE X b tb) {pins : List (Addr × Obj)} {s : Shared} {σ : St} {H : Hp} {R : V → V → Hp → Prop} (I : Inv X pins σ H s)
    (h : ta σ H fun x H1 => tb σ H1 fun y H2 => R x y H2) {Q : Value → Shared → Prop} {f : Value → Value → Sem Value}
    (hf : ∀ v u s2 x y H2, Inv X pins σ H2 s2 → RelV x v → RelV y u → R x y H2 → wpAny (model X.prog X.w) X.A (f v u) Q X.xe s2) :
    wpAny (model X.prog X.w) X.A (eval a X.env) (fun v s₁ => wpAny (model X.prog X.w) X.A (eval b X.env) (fun u s₂ => wpAny (model X.prog X.w) X.A (f v u) Q X.xe s₂) X.xe s₁) X.xe s := by
  refine thn (ha pins s σ H _ I h) fun v s1 ⟨x, H1, I1, r1, q1⟩ => ?_
  refine thn (hb pins s1 σ H1 _ I1 q1) fun u s2 ⟨y, H2, I2, r2, q2⟩ => ?_
  exact hf v u s2 x y H2 I2 r1 r2 q2
theorem qao {op : Operator} {r : R2} (ho : OpR X (binaryOp op) r) (ha : PE X a ta) (hb : PE X b tb) : PE X (.BinOp a op b pos) (tOp r ta tb) := by
  intro pins s σ H Q I h
  exact wpAny_BinOp (qnm ha hb I h fun v u s2 x y H2 I2 rx ry q => ho pins s2 σ H2 x y v u Q I2 rx ry q)
theorem qdh {op : UnaryOp} {r : V → Hp → VK → Prop} (ho : UnR X (unaryOp op) r) (ha : PE X a ta) : PE X (.UnaryOp op a pos) (tUn r ta) := by
  intro pins s σ H Q I h
  exact UnaryOp_ (thn (ha pins s σ H _ I h) fun v s1 ⟨x, H1, I1, r1, q1⟩ => ho pins s1 σ H1 x v Q I1 r1 q1)
theorem opI {f : Value → Value → Sem Value} {C : Int → Int → Prop} {g : Int → Int → Int}
    (rule : ∀ (i j : Int) (t u : Tok) (s : Shared) (Q : Value → Shared → Prop) (E : Value → Shared → Prop), C i j → Q (.int (g i j) s.toks) { s with toks := s.toks + 1 } → wpAny (model X.prog X.w) X.A (f (.int i t) (.int j u)) Q E s) :
    OpR X f (rI C fun i j => .int (g i j)) := by
  intro pins s σ H x y v u Q I rx ry h
  obtain ⟨i, j, rfl, rfl, hc, q⟩ := h
  obtain ⟨t, rfl⟩ := rx
  obtain ⟨t', rfl⟩ := ry
  exact rule i j t t' s _ _ hc ⟨.int (g i j), H, I.tok _, ⟨_, rfl⟩, q⟩
theorem qnn {f : Value → Value → Sem Value} {g : Int → Int → Int}
    (rule : ∀ (i j : Int) (t u : Tok) (s : Shared) (Q : Value → Shared → Prop) (E : Value → Shared → Prop), Q (.int (g i j) s.toks) { s with toks := s.toks + 1 } → wpAny (model X.prog X.w) X.A (f (.int i t) (.int j u)) Q E s) :
    OpR X f (rI0 fun i j => .int (g i j)) := by
  intro pins s σ H x y v u Q I rx ry h
  obtain ⟨i, j, rfl, rfl, q⟩ := h
  obtain ⟨t, rfl⟩ := rx
  obtain ⟨t', rfl⟩ := ry
  exact rule i j t t' s _ _ ⟨.int (g i j), H, I.tok _, ⟨_, rfl⟩, q⟩
theorem qne {f : Value → Value → Sem Value} {g : Int → Int → Bool}
    (rule : ∀ (i j : Int) (t u : Tok) (s : Shared) (Q : Value → Shared → Prop) (E : Value → Shared → Prop), Q (.bool (g i j)) s → wpAny (model X.prog X.w) X.A (f (.int i t) (.int j u)) Q E s) :
    OpR X f (rI0 fun i j => .bl (g i j)) := by
  intro pins s σ H x y v u Q I rx ry h
  obtain ⟨i, j, rfl, rfl, q⟩ := h
  obtain ⟨t, rfl⟩ := rx
  obtain ⟨t', rfl⟩ := ry
  exact rule i j t t' s _ _ ⟨.bl (g i j), H, I, rfl, q⟩
noncomputable def CPow (i j : Int) : Prop := 0 ≤ j ∧ j ≤ 1000000 ∧ i.natAbs < 2 ^ 64
noncomputable def CMul (i j : Int) : Prop := (-(2 ^ 64) < i ∧ i < 2 ^ 64) ∨ (-(2 ^ 64) < j ∧ j < 2 ^ 64)
theorem CMul.ok {i j : Int} (h : CMul i j) : IntMulOk i j := by
  rcases h with ⟨h1, h2⟩ | ⟨h1, h2⟩
  · exact .of_left (intBits_le_64 h1 h2)
  · exact .of_right (intBits_le_64 h1 h2)
theorem qgG (k : Nat) : (0 : Int) ≤ 2 ^ k := by
  rw [two_pow_cast]
  exact Int.natCast_nonneg _
theorem qaQ : OpR X (binaryOp .Add) (rI0 fun i j => .int (i + j)) := qnn fun _ _ _ _ _ _ _ q => add_int q
theorem qf2 : OpR X (binaryOp .Sub) (rI0 fun i j => .int (i - j)) := qnn fun _ _ _ _ _ _ _ q => sub_int q
theorem qcp : OpR X (binaryOp .Mod) (rI (fun _ j => 0 < j) fun i j => .int (i % j)) := opI fun i j _ _ _ _ _ hc q => by
  have h1 : (0 : Int) < j := hc
  exact mod_int' (by omega) (by rw [Int.fmod_eq_emod_of_nonneg i (by omega)]; exact q)
theorem qkA : OpR X (binaryOp .Mod) (rI (fun _ j => j ≠ 0) fun i j => .int (i.fmod j)) := opI fun _ _ _ _ _ _ _ hc q => mod_int' hc q
theorem op_shl : OpR X (binaryOp .LShift) (rI CPow fun i j => .int (i * 2 ^ j.toNat)) := opI fun _ _ _ _ _ _ _ hc q => lshift_int_small hc.1 hc.2.1 hc.2.2 q
theorem op_shr : OpR X (binaryOp .RShift) (rI (fun _ j => 0 ≤ j) fun i j => .int (i / 2 ^ j.toNat)) := opI fun i j _ _ _ _ _ hc q =>
  rshift_int hc (by rw [Int.fdiv_eq_ediv_of_nonneg i (qgG _)]; exact q)
theorem qhu : OpR X (inplaceOp .Add) (rI0 fun i j => .int (i + j)) := qnn fun _ _ _ _ _ _ _ q => iadd_int q
theorem unI {f : Value → Sem Value} {g : Int → Int}
    (rule : ∀ (i : Int) (t : Tok) (s : Shared) (Q : Value → Shared → Prop) (E : Value → Shared → Prop), Q (.int (g i) s.toks) { s with toks := s.toks + 1 } → wpAny (model X.prog X.w) X.A (f (.int i t)) Q E s) :
    UnR X f (rU fun i => .int (g i)) := by
  intro pins s σ H x v Q I rx h
  obtain ⟨i, rfl, q⟩ := h
  obtain ⟨t, rfl⟩ := rx
  exact rule i t s _ _ ⟨.int (g i), H, I.tok _, ⟨_, rfl⟩, q⟩
theorem qbQ : UnR X (unaryOp .USub) (rU fun i => .int (-i)) := unI fun _ _ _ _ _ q => neg_int q
end
noncomputable def scal : V → V → Bool
  | .non, .non => true | .non, .int _ => true | .int _, .non => true | .non, .bl _ => true | .bl _, .non => true | .non, .str _ => true | .str _, .non => true
  | .int _, .int _ => true | .bl _, .bl _ => true | .str _, .str _ => true | .byt _, .byt _ => true
  | .int _, .str _ => true | .str _, .int _ => true | .bl _, .str _ => true | .str _, .bl _ => true
  | _, _ => false
noncomputable def rEq : R2 := fun x y H Q => scal x y = true ∧ Q (.bl (decide (x = y))) H
noncomputable def rNe : R2 := fun x y H Q => scal x y = true ∧ Q (.bl (!decide (x = y))) H
theorem qhv {i j : Int} : decide (V.int i = V.int j) = (i == j) := by
  rw [Bool.eq_iff_iff]
  simp
theorem qkd {i j : Bool} : decide (V.bl i = V.bl j) = (i == j) := by
  rw [Bool.eq_iff_iff]
  simp
theorem qhw {i j : Str} : decide (V.str i = V.str j) = (i == j) := by
  rw [Bool.eq_iff_iff]
  simp
theorem qhx {i j : Array UInt8} : decide (V.byt i = V.byt j) = (i.toList == j.toList) := by
  rw [Bool.eq_iff_iff]
  cases i
  cases j
  simp
section
variable {X : Cx} {a b c : Expr} {ta tb tc : TE} {pos : Pos}
theorem qaC {pins : List (Addr × Obj)} {σ : St} {H : Hp} {s : Shared} {Q : VK} {k k' : Bool} (I : Inv X pins σ H s) (q : Q (.bl k) H) (e : k = k') : EP X pins σ Q (.bool k') s := by
  subst e
  exact ⟨.bl k, H, I, rfl, q⟩
theorem qkB : OpR X (compareOp .Eq) rEq := by
  intro pins s σ H x y v u Q I rx ry h
  obtain ⟨hs, q⟩ := h
  cases x with
  | non =>
    cases rx
    cases y with
    | non => cases ry; exact PySem.EqNone.eq_none_none (qaC I q (by simp))
    | bl j => cases ry; exact PySem.EqNone.eq_none_bool (qaC I q (by simp))
    | int j => obtain ⟨t', rfl⟩ := ry; exact PySem.EqNone.eq_none_int (qaC I q (by simp))
    | str j => obtain ⟨t', rfl⟩ := ry; exact PySem.EqNone.eq_none_str (qaC I q (by simp))
    | _ => exact absurd (show false = true from hs) Bool.false_ne_true
  | bl i =>
    cases rx
    cases y with
    | non => cases ry; exact PySem.EqNone.eq_bool_none (qaC I q (by simp))
    | bl j => cases ry; exact eq_bool (qaC I q qkd)
    | str j => obtain ⟨t', rfl⟩ := ry; exact PySem.EqMixed.eq_bool_str (qaC I q (by simp))
    | _ => exact absurd (show false = true from hs) Bool.false_ne_true
  | int i =>
    obtain ⟨t, rfl⟩ := rx
    cases y with
    | non => cases ry; exact PySem.EqNone.eq_int_none (qaC I q (by simp))
    | int j => obtain ⟨t', rfl⟩ := ry; exact eq_int (qaC I q qhv)
    | str j => obtain ⟨t', rfl⟩ := ry; exact PySem.EqMixed.eq_int_str (qaC I q (by simp))
    | _ => exact absurd (show false = true from hs) Bool.false_ne_true
  | str i =>
    obtain ⟨t, rfl⟩ := rx
    cases y with
    | non => cases ry; exact PySem.EqNone.eq_str_none (qaC I q (by simp))
    | bl j => cases ry; exact PySem.EqMixed.eq_str_bool (qaC I q (by simp))
    | int j => obtain ⟨t', rfl⟩ := ry; exact PySem.EqMixed.eq_str_int (qaC I q (by simp))
    | str j => obtain ⟨t', rfl⟩ := ry; exact eq_str (qaC I q qhw)
    | _ => exact absurd (show false = true from hs) Bool.false_ne_true
  | byt i =>
    obtain ⟨t, rfl⟩ := rx
    cases y with
    | byt j => obtain ⟨t', rfl⟩ := ry; exact PySem.W.eq_bytes (qaC I q qhx)
    | _ => exact absurd (show false = true from hs) Bool.false_ne_true
  | _ => cases y <;> exact absurd (show false = true from hs) Bool.false_ne_true
theorem qjg : OpR X (compareOp .NotEq) rNe := by
  intro pins s σ H x y v u Q I rx ry h
  obtain ⟨hs, q⟩ := h
  cases x with
  | non =>
    cases rx
    cases y with
    | non => cases ry; exact PySem.EqNone.ne_none_none (qaC I q (by simp))
    | bl j => cases ry; exact PySem.EqNone.ne_none_bool (qaC I q (by simp))
    | int j => obtain ⟨t', rfl⟩ := ry; exact PySem.EqNone.ne_none_int (qaC I q (by simp))
    | str j => obtain ⟨t', rfl⟩ := ry; exact PySem.EqNone.ne_none_str (qaC I q (by simp))
    | _ => exact absurd (show false = true from hs) Bool.false_ne_true
  | bl i =>
    cases rx
    cases y with
    | non => cases ry; exact PySem.EqNone.ne_bool_none (qaC I q (by simp))
    | bl j => cases ry; exact ne_bool (qaC I q (congrArg not qkd))
    | str j => obtain ⟨t', rfl⟩ := ry; exact PySem.EqMixed.ne_bool_str (qaC I q (by simp))
    | _ => exact absurd (show false = true from hs) Bool.false_ne_true
  | int i =>
    obtain ⟨t, rfl⟩ := rx
    cases y with
    | non => cases ry; exact PySem.EqNone.ne_int_none (qaC I q (by simp))
    | int j => obtain ⟨t', rfl⟩ := ry; exact ne_int (qaC I q (congrArg not qhv))
    | str j => obtain ⟨t', rfl⟩ := ry; exact PySem.EqMixed.ne_int_str (qaC I q (by simp))
    | _ => exact absurd (show false = true from hs) Bool.false_ne_true
  | str i =>
    obtain ⟨t, rfl⟩ := rx
    cases y with
    | non => cases ry; exact PySem.EqNone.ne_str_none (qaC I q (by simp))
    | bl j => cases ry; exact PySem.EqMixed.ne_str_bool (qaC I q (by simp))
    | int j => obtain ⟨t', rfl⟩ := ry; exact PySem.EqMixed.ne_str_int (qaC I q (by simp))
    | str j => obtain ⟨t', rfl⟩ := ry; exact ne_str (qaC I q (congrArg not qhw))
    | _ => exact absurd (show false = true from hs) Bool.false_ne_true
  | byt i =>
    obtain ⟨t, rfl⟩ := rx
    cases y with
    | byt j => obtain ⟨t', rfl⟩ := ry; exact PySem.W.ne_bytes (qaC I q (congrArg not qhx))
    | _ => exact absurd (show false = true from hs) Bool.false_ne_true
  | _ => cases y <;> exact absurd (show false = true from hs) Bool.false_ne_true
theorem qe0 : OpR X (compareOp .Lt) (rI0 fun i j => .bl (decide (i < j))) := qne fun _ _ _ _ _ _ _ q => lt_int q
theorem qkC : OpR X (compareOp .LtE) (rI0 fun i j => .bl (decide (i ≤ j))) := qne fun _ _ _ _ _ _ _ q => le_int q
theorem qe1 : OpR X (compareOp .Gt) (rI0 fun i j => .bl (decide (j < i))) := qne fun _ _ _ _ _ _ _ q => gt_int q
theorem qno : OpR X (compareOp .GtE) (rI0 fun i j => .bl (decide (j ≤ i))) := qne fun _ _ _ _ _ _ _ q => ge_int q
theorem nomark (b : Expr) {op : CmpOp} (h : op ≠ .In := by decide) (h2 : op ≠ .NotIn := by decide) : behindInMarks op b = false := by
  have e1 : (op == CmpOp.In) = false := by cases op <;> first | rfl | exact absurd rfl h
  have e2 : (op == CmpOp.NotIn) = false := by cases op <;> first | rfl | exact absurd rfl h2
  cases b <;> simp [behindInMarks, e1, e2]
theorem qbR {op : CmpOp} {r : R2} (ho : OpR X (compareOp op) r) (ha : PE X a ta) (hb : PE X b tb) (hm : behindInMarks op b = false) : PE X (.Compare a [op] [b] pos) (tOp r ta tb) := by
  intro pins s σ H Q I h
  exact wpAny_Compare1 (qnm ha hb I h fun v u s2 x y H2 I2 rx ry q => ho pins s2 σ H2 x y v u Q I2 rx ry q) hm
noncomputable def qbi (t : TE) : TT := fun σ H Q => t σ H fun x H' => ∃ k, x = .bl k ∧ Q k H'
theorem qaF {op : CmpOp} {r : R2} (ho : OpR X (compareOp op) r) (ha : PE X a ta) (hb : PE X b tb) (hm : behindInMarks op b = false) : PT X (.Compare a [op] [b] pos) (qbi (tOp r ta tb)) := by
  intro pins s σ H Q I h
  refine wpAny_isTrue_Compare1 (thn (ha pins s σ H _ I h) fun v s1 ⟨x, H1, I1, r1, q1⟩ => thn (hb pins s1 σ H1 _ I1 q1) fun u s2 ⟨y, H2, I2, r2, q2⟩ =>
    thn (ho pins s2 σ H2 x y v u _ I2 r1 r2 q2) fun c s3 ⟨z, H3, I3, r3, k, e, q3⟩ => ?_) hm
  subst e
  cases r3
  exact wpAny_truthy_bool ⟨H3, I3, q3⟩
noncomputable def qhy (r r' : R2) (ta tb tc : TE) : TE := fun σ H Q => ta σ H fun x H1 => tb σ H1 fun y H2 => r x y H2 fun z H3 => ∃ k, z = .bl k ∧
  (if k = true then tc σ H3 fun w' H4 => r' y w' H4 Q else Q (.bl false) H3)
theorem qjh {op op' : CmpOp} {r r' : R2} (ho : OpR X (compareOp op) r) (ho' : OpR X (compareOp op') r') (ha : PE X a ta) (hb : PE X b tb) (hc : PE X c tc)
    (hm : lastMarks [op, op'] [b, c] = false := by with_unfolding_all rfl) : PT X (.Compare a [op, op'] [b, c] pos) (qbi (qhy r r' ta tb tc)) := by
  intro pins s σ H Q I h
  refine isTrue_chain (thn (ha pins s σ H _ I h) fun v s1 ⟨x, H1, I1, r1, q1⟩ => test_link (thn (hb pins s1 σ H1 _ I1 q1) fun u s2 ⟨y, H2, I2, r2, q2⟩ =>
    thn (ho pins s2 σ H2 x y v u _ I2 r1 r2 q2) fun d s3 ⟨z, H3, I3, r3, k, e, q3⟩ => ?_)) hm
  subst e
  cases r3
  refine wpAny_truthy_bool ?_
  cases k with
  | false =>
    obtain ⟨k', e', q'⟩ := q3
    cases e'
    exact ite_ff ⟨H3, I3, q'⟩
  | true =>
    refine ite_tt (test_last (thn (hc pins s3 σ H3 _ I3 q3) fun w' s4 ⟨z', H4, I4, r4, q4⟩ => thn (ho' pins s4 σ H4 y z' u w' _ I4 r2 r4 q4) fun d' s5 ⟨z2, H5, I5, r5, k2, e2, q5⟩ => ?_))
    subst e2
    cases r5
    exact wpAny_truthy_bool ⟨H5, I5, q5⟩
noncomputable def qof (K : PySem.W.Frag) (x : V) (H : Hp) (k : Bool) : Prop :=
  match x with
  | .non => k = false
  | .bl b => k = b
  | .int i => k = (i != 0)
  | .str y => y.length ≤ sizeLine ∧ k = ((y.length : Int) != 0)
  | .byt y => y.size ≤ sizeLine ∧ k = ((y.size : Int) != 0)
  | .ref p => (∃ xs, SqL K H p xs ∧ k = !xs.isEmpty) ∨ (∃ xs, SqT K H p xs ∧ k = !xs.isEmpty) ∨ ∃ kvs, H p = some (.dK kvs) ∧ k = !kvs.isEmpty
  | _ => False
theorem qgH {κ : Type} {kvs : List (κ × V)} {vs : List (κ × Value)} (r : KV kvs vs) : (!vs.isEmpty) = !kvs.isEmpty := by
  cases r <;> rfl
theorem qd6 {xs : List V} {its : List Value} (r : Vals xs its) : (!its.toArray.isEmpty) = !xs.isEmpty := by
  cases r <;> simp
theorem qf3 : (sizeLine : Nat) < 2 ^ 63 := by rw [sizeLine_eq]; decide
theorem qlV : qoe X (fun x H Q => ∃ k, qof X.K x H k ∧ Q k H) := by
  intro pins s σ H x v Q I rx h
  obtain ⟨k, e, q⟩ := h
  have hl := qf3
  have hs : sizeLine = 16777216 := sizeLine_eq
  cases x with
  | non =>
    cases rx
    have e' : k = false := e
    subst e'
    exact truthy_none ⟨H, I, q⟩
  | bl b =>
    cases rx
    have e' : k = b := e
    subst e'
    exact wpAny_truthy_bool ⟨H, I, q⟩
  | int i =>
    obtain ⟨t, rfl⟩ := rx
    have e' : k = (i != 0) := e
    subst e'
    exact PySem.P.truthy_int ⟨H, I, q⟩
  | str y =>
    obtain ⟨t, rfl⟩ := rx
    obtain ⟨hy, e'⟩ : y.length ≤ sizeLine ∧ k = ((y.length : Int) != 0) := e
    subst e'
    exact PySem.P.truthy_str (by omega) ⟨H, I.tok _, q⟩
  | byt y =>
    obtain ⟨t, rfl⟩ := rx
    obtain ⟨hy, e'⟩ : y.size ≤ sizeLine ∧ k = ((y.size : Int) != 0) := e
    subst e'
    exact PySem.W.truthy_bytes (by omega) ⟨H, I.tok _, q⟩
  | ref p =>
    cases rx
    have e' : (∃ xs, SqL X.K H p xs ∧ k = !xs.isEmpty) ∨ (∃ xs, SqT X.K H p xs ∧ k = !xs.isEmpty) ∨ ∃ kvs, H p = some (.dK kvs) ∧ k = !kvs.isEmpty := e
    rcases e' with ⟨xs, hx, e'⟩ | ⟨xs, hx, e'⟩ | ⟨kvs, hx, e'⟩
    · subst e'
      obtain ⟨its, r, pl, hz⟩ := I.list hx
      have hlen := r.length
      exact wpAny_truthy_list pl.isList (by simp only [List.size_toArray]; omega) ⟨H, I.tok _, by rw [qd6 r]; exact q⟩
    · subst e'
      obtain ⟨its, r, pl, hz⟩ := I.tuple hx
      have hlen := r.length
      exact truthy_tuple pl (by simp only [List.size_toArray]; omega) ⟨H, I.tok _, by rw [qd6 r]; exact q⟩
    · subst e'
      obtain ⟨hz, hS, vs, r, m⟩ : kvs.length ≤ sizeLine ∧ (p == sysModules) = false ∧ ∃ vs, KV kvs vs ∧ s.heap.DictOf (qeq X.prog X.w) p vs := I.hok p _ hx
      have hlen : kvs.length = vs.length := Paired.length r
      exact wpAny_truthy_dict hS m (by omega) ⟨H, I.tok _, by rw [qgH r]; exact q⟩
  | _ => exact (show False from e).elim
theorem qe2 {x : V} {us : List Value} (r : Vals [x] us) : ∃ u, us = [u] ∧ RelV x u := by
  cases r with
  | cons r1 r2 => cases r2; exact ⟨_, rfl, r1⟩
theorem vals2 {x y : V} {us : List Value} (r : Vals [x, y] us) : ∃ u w', us = [u, w'] ∧ RelV x u ∧ RelV y w' := by
  cases r with
  | cons r1 r2 =>
    cases r2 with
    | cons r3 r4 => cases r4; exact ⟨_, _, rfl, r1, r3⟩
theorem qji : qca X (.builtin "abs") (fun xs H Q => ∃ i, xs = [.int i] ∧ Q (.int (if i < 0 then -i else i)) H) := by
  intro pins s σ H xs us Q I r h
  obtain ⟨i, rfl, q⟩ := h
  obtain ⟨u, rfl, t, rfl⟩ := qe2 r
  exact call_abs_int fun u tk => ⟨.int (if i < 0 then -i else i), H, I.tok _, ⟨_, rfl⟩, q⟩
theorem qhz : qca X (.type "int") (fun xs H Q => (∃ i, xs = [.int i] ∧ Q (.int i) H) ∨ ∃ k, xs = [.bl k] ∧ Q (.int (if k then 1 else 0)) H) := by
  intro pins s σ H xs us Q I r h
  rcases h with ⟨i, rfl, q⟩ | ⟨k, rfl, q⟩
  · obtain ⟨u, rfl, t, rfl⟩ := qe2 r
    exact call_int_int ⟨.int i, H, I, ⟨_, rfl⟩, q⟩
  · obtain ⟨u, rfl, r1⟩ := qe2 r
    cases r1
    exact call_int_bool ⟨.int (if k then 1 else 0), H, I.tok _, ⟨_, rfl⟩, q⟩
end
end L2
namespace L2
open PySem PySem.Spec PyProof.Rows
structure ObjM (h : Heap) (x dx C : Addr) (mA : Str → Option Value) : Prop where
  obj : h.get? x = some (PySem.W.instObj C dx)
  ns : h.Ns1 dx mA
  ne : dx ≠ x
theorem qhA {h : Heap} {dx : Addr} {mA : Str → Option Value} (n : h.Ns1 dx mA) : ∃ od, h.get? dx = some od ∧ ∀ name, PySem.W.lookIn name od = some (mA name) := by
  obtain ⟨o, es, ep, ho, hd, hk, _, hm⟩ := n
  refine ⟨o, ho, fun name => ?_⟩
  have e := hm name
  unfold nsFind findBy at e
  rw [← Array.find?_toList] at e
  unfold PySem.W.lookIn
  rw [hd]
  dsimp only
  split
  · rename_i y q
    rw [q] at e
    exact congrArg some e
  · rename_i q
    rw [q] at e
    have a : es.toList.any (·.refKey) = false := by
      rw [List.any_eq_false]
      intro y hy
      obtain ⟨z, t, hkey⟩ := hk y (Array.mem_toList_iff.mp hy)
      simp [DictEntry.refKey, hkey]
    have a' : ¬ es.toList.any (·.refKey) = true := by rw [a]; exact Bool.false_ne_true
    rw [if_neg a']
    exact congrArg some e
theorem ObjM.look {h : Heap} {x dx C : Addr} {mA : Str → Option Value} (I : ObjM h x dx C mA) : ∃ od, PySem.W.InstAt h x (PySem.W.instObj C dx) C (some od) ∧ ∀ name, PySem.W.lookIn name od = some (mA name) :=
  let ⟨od, ho, hl⟩ := qhA I.ns
  ⟨od, ⟨I.obj, rfl, rfl, ho⟩, hl⟩
section
variable {prog : Program} {w : World} {A : Around} {E : Value → Shared → Prop} {s : Shared} {K : PySem.W.Frag} {x dx C f : Addr} {mA : Str → Option Value} {name : Str} {v : Value}
end
section
variable {P : Program} {w : World} {H H' : Hp} {h h' : Heap} {a C dx : Addr} {fs fs' : List (Str × V)}
theorem qkD (hok : HOk P w H h) (e : H a = some (.ins C dx fs)) : ∃ mA, ObjM h a dx C mA ∧ (∀ f, qnj (fs.lookup f) (mA f)) ∧ PySem.Within mA (fs.map (·.1)) ∧ fs.length ≤ 1000 ∧ H dx = some (.own a) := by
  obtain ⟨d, z, ne, ob, mA, n, r, q⟩ := (show ObjOk P w H h a (.ins C dx fs) from hok a _ e)
  exact ⟨mA, ⟨ob, n, ne⟩, r, q, z, d⟩
end
structure Cls (K : PySem.W.Frag) (C : Addr) : Prop where
  pg : PySem.W.plainGet K C Str.empty = true
  hd : PySem.W.hasDictIn K C = true
  po : PySem.W.plainOver K C = true
  sa : PySem.W.findIn K (.ref C) "__setattr__" = some (some (.builtin "object.__setattr__"))
theorem Cls.get {K : PySem.W.Frag} {C : Addr} (c : Cls K C) (f : Str) : PySem.W.plainGet K C f = true := c.pg
structure Con (K : PySem.W.Frag) (C : Addr) (f : Str) (v : V) (u : Value) : Prop where
  at_ : PySem.W.findIn K (.ref C) f = some (some u)
  rel : RelV v u
  get : PySem.W.specialIn K u "__get__" = some none
  cp : PySem.W.copiedNames.contains f = false
structure Meth (K : PySem.W.Frag) (C : Addr) (m : Str) (f : Addr) : Prop where
  at_ : PySem.W.findIn K (.ref C) m = some (some (.ref f))
  fn : PySem.W.isFn K (.ref f) = true
  kp : PySem.W.keepIn K (.ref f) = true
section
variable {X : Cx} {pins : List (Addr × Obj)} {σ : St} {H : Hp} {s : Shared} {a C dx : Addr} {fs : List (Str × V)} {f : Str} {v : V} {A : Around} {E : Value → Shared → Prop}
end
section
variable {X : Cx} {o e value : Expr} {f : Str} {pos pos' tpos : Pos} {ta tv : TE}
end
section
variable {X : Cx} {pins : List (Addr × Obj)} {σ : St} {H : Hp} {s : Shared} {A : Around} {E : Value → Shared → Prop} {Q : Value → Shared → Prop} {c : Value} {b : Bool}
inductive TyOf (K : PySem.W.Frag) (H : Hp) : V → Value → Prop where
  | non : TyOf K H .non (.type "NoneType")
  | bl (x : Bool) : TyOf K H (.bl x) (.type "bool")
  | int (i : Int) : TyOf K H (.int i) (.type "int")
  | str (x : Str) : TyOf K H (.str x) (.type "str")
  | flt (x : UInt64) : TyOf K H (.flt x) (.type "float")
  | lst {a : Addr} {xs : List V} (e : H a = some (.lst xs)) : TyOf K H (.ref a) (.type "list")
  | frz {a : Addr} {o : Obj} {xs : List V} (e : H a = some (.frz o (.lst xs))) : TyOf K H (.ref a) (.type "list")
  | tup {a : Addr} {xs : List V} (e : H a = some (.tup xs)) : TyOf K H (.ref a) (.type "tuple")
  | dK {a : Addr} {kvs : List (Key × V)} (e : H a = some (.dK kvs)) : TyOf K H (.ref a) (.type "dict")
  | dT {a : Addr} {kvs : List (List Key × V)} (e : H a = some (.dT kvs)) : TyOf K H (.ref a) (.type "dict")
  | ins {a C dx : Addr} {fs : List (Str × V)} (e : H a = some (.ins C dx fs)) (cl : Cls K C) (ha : PySem.W.findIn K (.ref C) "__class__" = some (some (.builtin "object.__class__")))
      (hn : PySem.W.specialIn K (.builtin "object.__class__") "__get__" = some (some (.builtin "getset_descriptor.__get__"))) (htk : PySem.W.takesIn K (.builtin "object.__class__") = some true)
      (hm : PySem.W.mroIn K C (.type "object") = some true) : TyOf K H (.ref a) (.ref C)
theorem qhB {x : V} {u t : Value} (I : Inv X pins σ H s) (rx : RelV x u) (ty : TyOf X.K H x t) (e : PySem.W.kitOne X.K t c = some b) (h : ∀ tk, Q (.bool b) { s with toks := tk }) :
    wpAny (model X.prog X.w) A (call (.builtin "isinstance") [u, c]) Q E s := by
  cases ty with
  | non => cases (show u = Value.none from rx); exact PySem.W.kia_one PySem.W.kitx_none I.kIn True.intro e (fun z => nomatch z) h
  | bl y => cases (show u = Value.bool y from rx); exact PySem.W.kia_one PySem.W.kitx_bool I.kIn True.intro e (fun z => nomatch z) h
  | int i => obtain ⟨t, q⟩ := (show ∃ t, u = Value.int i t from rx); cases q; exact PySem.W.kia_one PySem.W.kitx_int I.kIn True.intro e (fun z => nomatch z) h
  | str y => obtain ⟨t, q⟩ := (show ∃ t, u = Value.str y t from rx); cases q; exact PySem.W.kia_one PySem.W.kitx_str I.kIn True.intro e (fun z => nomatch z) h
  | flt y => obtain ⟨t, q⟩ := (show ∃ t, u = Value.float y t from rx); cases q; exact PySem.W.kia_one PySem.W.kitx_float I.kIn True.intro e (fun z => nomatch z) h
  | @lst a xs ea =>
    cases (show u = Value.ref a from rx)
    obtain ⟨_, _, n, _, h1⟩ := (show ObjOk X.prog X.w H s.heap a (.lst xs) from I.hok a _ ea)
    exact PySem.W.kia_one PySem.W.kitx_list I.kIn ⟨_, h1, rfl⟩ e (fun z => nomatch z) h
  | @frz a ob xs ea =>
    cases (show u = Value.ref a from rx)
    obtain ⟨_, _, _, n, _, h1⟩ := (show ObjOk X.prog X.w H s.heap a (.frz ob (.lst xs)) from I.hok a _ ea)
    exact PySem.W.kia_one PySem.W.kitx_list I.kIn ⟨_, h1, rfl⟩ e (fun z => nomatch z) h
  | @tup a xs ea =>
    cases (show u = Value.ref a from rx)
    obtain ⟨_, _, _, p⟩ := (show ObjOk X.prog X.w H s.heap a (.tup xs) from I.hok a _ ea)
    obtain ⟨o, h1, h2, _⟩ := p
    exact PySem.W.kia_one PySem.W.kitx_tuple I.kIn ⟨o, h1, h2⟩ e (fun z => nomatch z) h
  | @dK a kvs ea =>
    cases (show u = Value.ref a from rx)
    obtain ⟨_, _, vs, _, p⟩ := (show ObjOk X.prog X.w H s.heap a (.dK kvs) from I.hok a _ ea)
    obtain ⟨o, es, ep, h1, h2, _⟩ := p
    exact PySem.W.kia_one PySem.W.kitx_dict I.kIn ⟨o, h1, h2.1⟩ e (fun z => nomatch z) h
  | @dT a kvs ea =>
    cases (show u = Value.ref a from rx)
    obtain ⟨_, _, xs, _, o, es, ep, h1, h2, _⟩ := (show ObjOk X.prog X.w H s.heap a (.dT kvs) from I.hok a _ ea)
    exact PySem.W.kia_one PySem.W.kitx_dict I.kIn ⟨o, h1, h2.1⟩ e (fun z => nomatch z) h
  | @ins a C dx fs ea cl ha hn htk hm =>
    cases (show u = Value.ref a from rx)
    obtain ⟨mA, O, _⟩ := qkD I.hok ea
    obtain ⟨od, J, _⟩ := O.look
    exact PySem.W.kia_one (PySem.W.kitx_own (cl.get _) cl.hd ha hn htk hm) I.kIn J e (fun z => nomatch z) h
end
end L2
namespace L2
open PySem PySem.Spec PyProof.Rows
structure Room (k : Nat) (A : Around) : Prop where
  hd : A.handled = none
  dp : A.depth + 3 * k + 105 < recursionLimit
  un : A.units + 16 * k + 200 < cLine
theorem Room.mono {j k : Nat} {A : Around} (r : Room k A) (h : j ≤ k) : Room j A := ⟨r.hd, by have := r.dp; omega, by have := r.un; omega⟩
theorem Room.deeper {k : Nat} {A : Around} (r : Room (k + 1) A) (env : Env) : Room k (A.deeper env) :=
  ⟨r.hd, by have := r.dp; show A.depth + 1 + 3 * k + 105 < _; omega, by have := r.un; show A.units + 3 + 16 * k + 200 < _; omega⟩
theorem Room.in1 {k : Nat} {A : Around} (r : Room (k + 1) A) : Room k A.in1 :=
  ⟨r.hd, by have := r.dp; show A.depth + 3 * k + 105 < _; omega, by have := r.un; show A.units + 1 + 16 * k + 200 < _; omega⟩
theorem Room.depth {k : Nat} {A : Around} (r : Room k A) : A.depth < recursionLimit := by have := r.dp; omega
theorem Room.units {k : Nat} {A : Around} (r : Room k A) : A.units + 64 < cLine := by have := r.un; omega
theorem Room.units0 {k : Nat} {A : Around} (r : Room k A) : A.units < cLine := by have := r.un; omega
noncomputable def qaq : TA := fun _ H Q => Q [] H
noncomputable def qac (ta : TE) (tr : TA) : TA := fun σ H Q => ta σ H fun x H1 => tr σ H1 fun xs H2 => Q (x :: xs) H2
section
variable {X : Cx} {e : Expr} {es : List Expr} {te : TE} {t : TA} {pos : Pos}
theorem qae : PA X [] qaq := fun _ _ _ _ H Q I h => Calls.spliced_nil ⟨[], H, I, .nil, h⟩
theorem qaa (ha : PE X e te) (hr : PA X es t) (hs : starEach (e :: es) X.env = (false, eval e X.env) :: starEach es X.env := by rfl) : PA X (e :: es) (qac te t) := by
  intro pos pins s σ H Q I h
  rw [hs]
  show wpAny _ _ (spliced ((false, eval e X.env) :: backTo pos (starEach es X.env))) _ _ s
  refine Calls.spliced_cons (thn (ha pins s σ H _ I h) fun u s1 ⟨x, H1, I1, r1, q1⟩ => ?_)
  exact thn (hr pos pins s1 σ H1 _ I1 q1) fun us s2 ⟨xs, H2, I2, r2, q2⟩ => ⟨x :: xs, H2, I2, .cons r1 r2, q2⟩
noncomputable def qbh (t : TA) : TE := fun σ H Q => t σ H fun xs H1 => xs.length ≤ sizeLine ∧ ∀ p, H1 p = none → Q (.ref p) (upd H1 p (.tup xs))
noncomputable def qhf (t : TA) : TE := fun σ H Q => t σ H fun xs H1 => xs.length ≤ sizeLine ∧ ∀ p, H1 p = none → Q (.ref p) (upd H1 p (.lst xs))
theorem qav {x1} (h : PA X es t) : PE X (.Tuple es x1 pos) (qbh t) := by
  intro pins s σ H Q I hq
  refine wpAny_Tuple_spliced (thn (h pos pins s σ H _ I hq) fun us s1 ⟨xs, H1, I1, r, z, q⟩ => ⟨by rw [← r.length]; exact z, ?_⟩)
  have hf : H1 s1.heap.objs.size = none := I1.hok.fresh (Nat.le_refl _)
  refine ⟨.ref s1.heap.objs.size, upd H1 s1.heap.objs.size (.tup xs), I1.laid (t' := s1.toks) (fun b u e => Heap.get?_push_of_some _ e) (Nat.le_refl _) ?_, rfl, q _ hf⟩
  exact ⟨z, us, r, ⟨_, Heap.get?_push_size _ rfl, rfl, _, rfl⟩⟩
theorem qd7 (h : PA X es t) : PE X (.List es pos) (qhf t) := by
  intro pins s σ H Q I hq
  refine wpAny_List_spliced (thn (h pos pins s σ H _ I hq) fun us s1 ⟨xs, H1, I1, r, z, q⟩ => ⟨by rw [← r.length]; exact z, ?_⟩)
  have hf : H1 s1.heap.objs.size = none := I1.hok.fresh (Nat.le_refl _)
  refine ⟨.ref s1.heap.objs.size, upd H1 s1.heap.objs.size (.lst xs), I1.laid (t' := s1.toks) (fun b u e => Heap.get?_push_of_some _ e) (Nat.le_refl _) ?_, rfl, q _ hf⟩
  exact ⟨z, us, 0, r, Heap.get?_push_size _ rfl⟩
end
noncomputable abbrev Sp := List V → Hp → VK → XK → Prop
noncomputable abbrev CXT := List Env → Hp → Shared → XK → Value → Shared → Prop
structure Env0 (P : Program) (w : World) (K : PySem.W.Frag) (mg : Str → Option Value) (base : Heap) (A : Around) (outer : List Env) (s : Shared) (H : Hp) : Prop where
  frames : A.frames = some outer
  mod : Mod K mg base
  bs : ∀ b o, base.get? b = some o → s.heap.get? b = some o ∧ H b = none
  bsz : base.objs.size ≤ s.heap.objs.size
  funs : s.heap.FunFrames base outer
  frf : ∀ b ∈ frs outer, H b = none
  hok : HOk P w H s.heap
  bare : AllBare s.gens
  seer : base.NoSeer
  tree : (model P w).prog.given.tree = none
noncomputable def CE (outer : List Env) (P : Program) (w : World) (H : Hp) (s : Shared) (Q : VK) (u : Value) (s' : Shared) : Prop :=
  ∃ v H', s'.os = s.os ∧ AllBare s'.gens ∧ Un (frs outer) [] H H' s.heap s'.heap ∧ HOk P w H' s'.heap ∧ RelV v u ∧ Q v H'
noncomputable def CR (CX : CXT) (outer : List Env) (P : Program) (w : World) (H : Hp) (s : Shared) (Q : VK) (E : XK) (r : Result) (s' : Shared) : Prop :=
  match r with
  | .ok (.ret u) => CE outer P w H s Q u s'
  | .ok _ => False
  | .error e => CX outer H s E e s'
structure FnOk (P : Program) (w : World) (K : PySem.W.Frag) (mg : Str → Option Value) (base : Heap) (CX : CXT) (k : Nat) (f : Addr) (fd : FuncData) (ps : List Str) (sp : Sp) : Prop where
  len : ∀ vs H Q E, sp vs H Q E → vs.length = ps.length
  run : ∀ (A : Around) (outer : List Env) (s : Shared) (H : Hp) (args : Args) (us : List Value) (vs : List V) (Q : VK) (E : XK), Room k A → Env0 P w K mg base A outer s H → BindsTo s fd args (ps.zip us) → Vals vs us → sp vs H Q E →
    codeAny (model P w) A (.call (.ref f) args) (CR CX outer P w H s Q E) s
theorem FnOk.mono {P : Program} {w : World} {K : PySem.W.Frag} {mg : Str → Option Value} {base : Heap} {CX : CXT} {j k : Nat} {f : Addr} {fd : FuncData} {ps : List Str} {sp : Sp} (F : FnOk P w K mg base CX j f fd ps sp) (h : j ≤ k) :
    FnOk P w K mg base CX k f fd ps sp := ⟨F.len, fun A outer s H args us vs Q E hr => F.run A outer s H args us vs Q E (hr.mono h)⟩
theorem FnOk.imp {P : Program} {w : World} {K : PySem.W.Frag} {mg : Str → Option Value} {base : Heap} {CX : CXT} {k : Nat} {f : Addr} {fd : FuncData} {ps : List Str} {sp sp' : Sp} (F : FnOk P w K mg base CX k f fd ps sp)
    (h : ∀ vs H Q E, sp' vs H Q E → sp vs H Q E) : FnOk P w K mg base CX k f fd ps sp' :=
  ⟨fun vs H Q E q => F.len vs H Q E (h _ _ _ _ q), fun A outer s H args us vs Q E hr he hb hv hs => F.run A outer s H args us vs Q E hr he hb hv (h _ _ _ _ hs)⟩
theorem Env0.in1 {P : Program} {w : World} {K : PySem.W.Frag} {mg : Str → Option Value} {base : Heap} {A : Around} {outer : List Env} {s : Shared} {H : Hp} (e : Env0 P w K mg base A outer s H) :
    Env0 P w K mg base A.in1 outer s H := ⟨e.frames, e.mod, e.bs, e.bsz, e.funs, e.frf, e.hok, e.bare, e.seer, e.tree⟩
section
variable {X : Cx} {pins : List (Addr × Obj)} {σ : St} {H : Hp} {s s' : Shared}
theorem Inv.env0 (I : Inv X pins σ H s) : Env0 X.prog X.w X.K X.mg X.base X.A X.stack s H :=
  ⟨I.ok.frames, I.ok.mod, I.bs, Nat.le_trans I.ok.bsz I.sz, I.stack, I.stkFree, I.hok, I.bare, I.ok.seer, I.ok.tree⟩
theorem Inv.after {Q : VK} {u : Value} (I : Inv X pins σ H s) (h : CE X.stack X.prog X.w H s Q u s') : EP X pins σ Q u s' := by
  obtain ⟨v, H', os, bare, un, hok, r, q⟩ := h
  obtain ⟨hh, g, d, t, os'⟩ := s'
  obtain rfl : os' = s.os := os
  exact ⟨v, H', I.call (h' := hh) (g' := g) (d' := d) (t' := t) (ch := []) un hok bare (fun b z => absurd z (by simp)), r, q⟩
end
noncomputable def qar (sp : Sp) (dvs : List V) (E : XK) (t : TA) : TE := fun σ H Q => t σ H fun vs H1 => sp (vs ++ dvs) H1 Q E
noncomputable def Binds (K : PySem.W.Frag) (fd : FuncData) (ps : List Str) (ds : List Value) : Prop :=
  ∀ (s : Shared) (us : List Value), K.In s.heap → (us ++ ds).length = ps.length → BindsTo s fd ⟨us, []⟩ (ps.zip (us ++ ds))
theorem Binds.all {K : PySem.W.Frag} {fd : FuncData} {ps : List Str} (h : ∀ us : List Value, us.length = ps.length → bindArgs fd ⟨us, []⟩ = pure (ps.zip us)) : Binds K fd ps [] := fun s us _ hl => by
  rw [List.append_nil] at hl ⊢
  exact .of_eq (h us hl)
noncomputable def Passes (CX : CXT) (X : Cx) (E : XK) : Prop := ∀ (pins : List (Addr × Obj)) (σ : St) (H : Hp) (s : Shared) (e : Value) (s' : Shared), Inv X pins σ H s → CX X.stack H s E e s' → X.xe e s'
section
variable {X : Cx} {CX : CXT} {k : Nat} {f C : Addr} {fd : FuncData} {ps : List Str} {sp : Sp} {dvs : List V} {ds : List Value} {E : XK} {x m : Str} {p pos apos : Pos} {e o : Expr} {es : List Expr} {ta : TE} {t : TA}
theorem qlW {pins : List (Addr × Obj)} {σ : St} {H : Hp} {s : Shared} {Q : VK} {us : List Value} {vs : List V} (F : FnOk X.prog X.w X.K X.mg X.base CX k f fd ps sp) (hr : Room k X.A) (hb : Binds X.K fd ps ds) (hd : Vals dvs ds) (hx : Passes CX X E)
    (I : Inv X pins σ H s) (r : Vals vs us) (h : sp (vs ++ dvs) H Q E) : wpAny (model X.prog X.w) X.A (call (.ref f) us) (EP X pins σ Q) X.xe s := by
  have r2 : Vals (vs ++ dvs) (us ++ ds) := r.append hd
  have hl : (us ++ ds).length = ps.length := by rw [← r2.length]; exact F.len _ _ _ _ h
  refine wpAny_call (codeAny_mono (F.run X.A X.stack s H ⟨us, []⟩ (us ++ ds) (vs ++ dvs) Q E hr I.env0 (hb s us I.kIn hl) r2 h) fun r s' hq => ?_)
  cases r with
  | error e => exact hx pins σ H s e s' I hq
  | ok fl =>
    cases fl with
    | ret u => exact I.after hq
    | next => exact False.elim hq
    | brk => exact False.elim hq
    | cont => exact False.elim hq
theorem qkE (F : FnOk X.prog X.w X.K X.mg X.base CX k f fd ps sp) (hr : Room k X.A) (hg : Gl X x) (hm : X.mg x = some (.ref f)) (hk : PySem.W.keepIn X.K (.ref f) = true) (hb : Binds X.K fd ps ds) (hd : Vals dvs ds) (hx : Passes CX X E)
    (ha : PA X (e :: es) t) (hdb : (x == ("__debug__" : Str)) = false := by decide) (he : starEach (e :: es) X.env = (false, eval e X.env) :: starEach es X.env := by rfl) (hpl : (backTo pos (starEach es X.env)).any (·.1) = false := by rfl) :
    PE X (.Call (.Name x p) (e :: es) [] pos) (qar sp dvs E t) := by
  intro pins s σ H Q I h
  refine wpAny_Call_Name_kw (qhj I hg hm ?_ hdb)
  refine PySem.W.callWith_K (h₀ := X.base) I.ok.mod.kin hk (thn (ha pos pins s σ H _ I h) fun us s1 ⟨vs, H1, I1, r, q⟩ => ⟨I1.kIn, ?_⟩) he hpl
  exact qlW F hr hb hd hx I1 r q
structure Mk (K : PySem.W.Frag) (C f : Addr) : Prop where
  makes : PySem.W.makesIn K C = true
  init : PySem.W.findIn K (.ref C) "__init__" = some (some (.ref f))
  fn : PySem.W.isFn K (.ref f) = true
  kp : PySem.W.keepIn K (.ref C) = true
end
section
variable {X : Cx} {CX : CXT} {k : Nat} {f C : Addr} {fd : FuncData} {ps ks : List Str} {sp : Sp} {E : XK} {x m : Str} {p pos apos kpos : Pos} {e o : Expr} {es : List Expr} {kws : List Keyword} {te ta : TE} {t tk : TA} {nm : Option Str}
structure KBinds (K : PySem.W.Frag) (fd : FuncData) (ps ks : List Str) (g : List Value → List Value → List Value) (gV : List V → List V → List V) : Prop where
  to : ∀ (s : Shared) (us ws : List Value), K.In s.heap → (g us ws).length = ps.length → BindsTo s fd ⟨us, ks.zip ws⟩ (ps.zip (g us ws))
  rel : ∀ {vs : List V} {us : List Value} {zs : List V} {ws : List Value}, Vals vs us → Vals zs ws → Vals (gV vs zs) (g us ws)
variable {g : List Value → List Value → List Value} {gV : List V → List V → List V}
end
structure FnScope (N P : List Str) (sc : Scope) : Prop where
  kind : sc.kind = .function
  co : sc.isCoroutine = false
  gen : sc.isGenerator = false
  nd : N.Nodup
  pre : N.take P.length = P
  par : ∀ x ∈ P, sc.names.lookup x = some .local ∨ sc.names.lookup x = some .cell
  nofree : ∀ y ∈ sc.names, y.2 ≠ .free
theorem qe3 {kindOf : Str → Option NameKind} {x : Str} : ∀ {binds : List (Str × Value)} {m : Str → Option Value}, (∀ v, (x, v) ∉ binds) → bindL kindOf binds m x = m x
  | [], _, _ => rfl
  | (n, v) :: r, m, h => by
    unfold bindL
    rw [qe3 fun w hw => h w (List.mem_cons_of_mem _ hw)]
    split
    · have : x ≠ n := by rintro rfl; exact h v List.mem_cons_self
      simp [this]
    · rfl
theorem qe4 {kindOf : Str → Option NameKind} {x : Str} : ∀ {binds : List (Str × Value)} {m : Str → Option Value}, (∀ v, (x, v) ∉ binds) → bindC kindOf binds m x = m x
  | [], _, _ => rfl
  | (n, v) :: r, m, h => by
    unfold bindC
    rw [qe4 fun w hw => h w (List.mem_cons_of_mem _ hw)]
    split
    · rfl
    · have : x ≠ n := by rintro rfl; exact h v List.mem_cons_self
      simp [this]
theorem qe5 {kindOf : Str → Option NameKind} {x : Str} {v : Value} : ∀ {P : List Str} {vs : List Value} {i : Nat} {m : Str → Option Value}, P.Nodup → P[i]? = some x → vs[i]? = some v → kindOf x = some .local →
    bindL kindOf (P.zip vs) m x = some v
  | [], _, _, _, _, h, _, _ => by simp at h
  | _ :: _, [], _, _, _, _, h, _ => by simp at h
  | p :: P, w :: vs, 0, m, nd, h1, h2, hk => by
    simp at h1 h2; subst h1; subst h2
    show bindL kindOf ((p, w) :: P.zip vs) m p = _
    unfold bindL
    rw [qe3 fun v hv => (List.nodup_cons.mp nd).1 (List.of_mem_zip hv).1, if_pos hk]
    simp
  | p :: P, w :: vs, i + 1, m, nd, h1, h2, hk => by
    show bindL kindOf ((p, w) :: P.zip vs) m x = _
    unfold bindL
    exact qe5 (i := i) (List.nodup_cons.mp nd).2 (by simpa using h1) (by simpa using h2) hk
theorem qe6 {kindOf : Str → Option NameKind} {x : Str} {v : Value} : ∀ {P : List Str} {vs : List Value} {i : Nat} {m : Str → Option Value}, P.Nodup → P[i]? = some x → vs[i]? = some v → kindOf x ≠ some .local →
    bindC kindOf (P.zip vs) m x = some v
  | [], _, _, _, _, h, _, _ => by simp at h
  | _ :: _, [], _, _, _, _, h, _ => by simp at h
  | p :: P, w :: vs, 0, m, nd, h1, h2, hk => by
    simp at h1 h2; subst h1; subst h2
    show bindC kindOf ((p, w) :: P.zip vs) m p = _
    unfold bindC
    rw [qe4 fun v hv => (List.nodup_cons.mp nd).1 (List.of_mem_zip hv).1, if_neg hk]
    simp
  | p :: P, w :: vs, i + 1, m, nd, h1, h2, hk => by
    show bindC kindOf ((p, w) :: P.zip vs) m x = _
    unfold bindC
    exact qe6 (i := i) (List.nodup_cons.mp nd).2 (by simpa using h1) (by simpa using h2) hk
noncomputable def start (N : List Str) (vs : List V) : St := vs.map some ++ List.replicate (N.length - vs.length) none
noncomputable def qjj (CX : CXT) (P : Program) (w : World) (K : PySem.W.Frag) (mg : Str → Option Value) (base : Heap) (N : List Str) (qual : Str) (scope : Scope) (f : Addr) (cd : Value) (A : Around) (outer : List Env) (s : Shared) (H : Hp) (E : XK) : Cx where
  prog := P
  w := w
  K := K
  mg := mg
  base := base
  A := A.deeper (envOfC qual scope s.heap.objs.size f cd)
  N := N
  s₀ := s
  H₀ := H
  env := envOfC qual scope s.heap.objs.size f cd
  outer := outer
  stack := envOfC qual scope s.heap.objs.size f cd :: outer
  ex := []
  calm := true
  fn := fun _ => true
  pn := []
  xe := fun e s' => wpAny (model P w) (A.deeper (envOfC qual scope s.heap.objs.size f cd)) (leaving (envOfC qual scope s.heap.objs.size f cd) e) (fun _ s'' => CX outer H s E e s'') (fun e' s'' => CX outer H s E e' s'') s'
theorem qf4 {sc : Scope} {n : Nat} {x : Str} (h : sc.names.lookup x = some .cell) : ∃ c, (cellsFrom n sc.names []).lookup x = some c := by
  have q := PySem.W.cellsFrom_some sc.names n [] (.inl h)
  exact Option.isSome_iff_exists.mp q
theorem qhC {CX : CXT} {P : Program} {w : World} {K : PySem.W.Frag} {mg : Str → Option Value} {base : Heap} {N ps : List Str} {qual : Str} {scope : Scope} {f : Addr} {cd : Value} {A : Around} {outer : List Env} {s s1 : Shared} {H : Hp} {E : XK} {us : List Value} {vs : List V}
    (S : FnScope N ps scope) (hd : A.handled = none) (hdp : (A.deeper (envOfC qual scope s.heap.objs.size f cd)).depth + Builtin.pylongFrames < recursionLimit) (e0 : Env0 P w K mg base A outer s H) (hl : vs.length = ps.length) (r : Vals vs us)
    (x : InCallC s s.heap.objs.size (bindL (envOfC qual scope s.heap.objs.size f cd).kindOf (ps.zip us) fun _ => none) (cellsFrom (s.heap.objs.size + 1) scope.names []) (bindC (envOfC qual scope s.heap.objs.size f cd).kindOf (ps.zip us) fun _ => none) s1) :
    Inv (qjj CX P w K mg base N qual scope f cd A outer s H E) [] (start N vs) H s1 := by
  have hpl : ps.length ≤ N.length := by have := congrArg List.length S.pre; rw [List.length_take] at this; omega
  obtain ⟨h1, tk, rfl, hk⟩ := x.done
  have noA : ∀ b : Addr, b ∉ (qjj CX P w K mg base N qual scope f cd A outer s H E).ex := fun b z => absurd (show b ∈ ([] : List Addr) from z) (by simp)
  refine ⟨⟨e0.mod, S.kind, rfl, rfl, Nat.le_refl _, fun y z c h1 h2 => ?_, fun y hy => ?_, fun y c _ h => ?_, fun _ => hd, Around.frames_deeper e0.frames, .inr ⟨rfl, rfl⟩, fun b z => absurd z (noA b), e0.bs, e0.bsz, fun b _ _ => noA b, fun b z => absurd z (noA b), e0.funs, e0.frf, e0.seer, e0.tree, fun s' hk' => PySem.PylongRoom.of (e0.mod.nolimit.keeps hk') hdp (PySem.SeerAt.of (e0.seer.keeps hk') e0.tree (Around.frames_deeper e0.frames) S.gen S.co rfl rfl)⟩,
    rfl, e0.bare, Un.kept hk, ⟨_, x.toInCall.ns, fun i y v h1 h2 h3 => ?_⟩, fun y c h => ⟨_, x.cell y c h⟩, e0.hok.fresh (Nat.le_refl _), fun y c h => ?_, fun p hp => absurd (show p ∈ ([] : List (Addr × Obj)) from hp) (by simp), e0.hok.kept hk, ?_⟩
  · exact name_of_addr x.apart (PySem.mem_of_lookup h1) (PySem.mem_of_lookup h2)
  · have hy : scope.names.lookup y = some .cell ∨ scope.names.lookup y = some .free := hy
    rcases hy with hy | hy
    · exact qf4 hy
    · exact absurd rfl (S.nofree _ (PySem.mem_of_lookup hy))
  · exact Nat.le_of_lt (x.above y c (PySem.mem_of_lookup h))
  · have hi : i < vs.length := by
      unfold start at h2
      by_cases hi : i < vs.length
      · exact hi
      · rw [List.getElem?_append_right (by simpa using hi)] at h2
        rw [List.getElem?_replicate] at h2
        split at h2 <;> cases h2
    have ha : vs[i]? = some v := by
      unfold start at h2
      rw [List.getElem?_append_left (by simpa using hi), List.getElem?_map] at h2
      cases e : vs[i]? with
      | none => rw [e] at h2; cases h2
      | some a => rw [e] at h2; cases h2; rfl
    obtain ⟨u, hu, rv⟩ := r.get ha
    have hp : ps[i]? = some y := by
      rw [← S.pre, List.getElem?_take_of_lt (by omega)]; exact h1
    have ndP : ps.Nodup := by rw [← S.pre]; exact S.nd.sublist (List.take_sublist _ _)
    refine ⟨u, rv, ?_⟩
    rcases S.par y (List.mem_of_getElem? hp) with k | k
    · exact .inl ⟨k, qe5 ndP hp hu k⟩
    · obtain ⟨c, e⟩ := qf4 (n := s.heap.objs.size + 1) k
      refine .inr ⟨.inl k, c, e, ?_⟩
      have q := x.cell y c e
      rw [qe6 ndP hp hu (by show scope.names.lookup y ≠ _; rw [k]; decide)] at q
      exact q
  · exact e0.hok.fresh (Nat.le_of_lt (x.above y c (PySem.mem_of_lookup h)))
  · unfold start
    show _ = N.length
    rw [List.length_append, List.length_map, List.length_replicate]
    omega
theorem qlX {CX : CXT} {P : Program} {w : World} {K : PySem.W.Frag} {mg : Str → Option Value} {base : Heap} {k : Nat} {f : Addr} {name qual : Str} {params : Arguments} {body : List Stmt} {scope : Scope} {dV kV doc pm cdv ct oc : Value} {an od : Option Addr}
    {osl : Array (Option Value)} {N ps : List Str} {sp : Sp} (lk : K.lookup f = some ⟨oc, od, .func (PySem.W.fnOf name qual params body scope dV kV doc pm an cdv ct), osl⟩) (hcd : PySem.W.codeIn K cdv qual = true) (S : FnScope N ps scope)
    (len : ∀ vs H Q E, sp vs H Q E → vs.length = ps.length)
    (hbody : ∀ (A : Around) (outer : List Env) (s : Shared) (H : Hp) (vs : List V) (Q : VK) (E : XK), Room k (A.deeper (envOfC qual scope s.heap.objs.size f cdv)) → sp vs H Q E →
      ∃ t, PSs (qjj CX P w K mg base N qual scope f cdv A outer s H E) body t ∧ t { nx := fun _ H' => Q .non H', rt := Q } (start N vs) H) :
    FnOk P w K mg base CX (k + 1) f (PySem.W.fnOf name qual params body scope dV kV doc pm an cdv ct) ps sp := by
  refine ⟨len, fun A outer s H args us vs Q E hr e0 hb r hsp => ?_⟩
  have hl := len _ _ _ _ hsp
  have KX : K.In s.heap := e0.mod.kin.keeps fun b o e => (e0.bs b o e).1
  have lim : s.heap.NoLimit := e0.mod.nolimit.keeps fun b o e => (e0.bs b o e).1
  have hkind : ∀ y ∈ ps.zip us, scope.names.lookup y.1 = some .local ∨ (scope.names.lookup y.1 = some .cell ∧ ((cellsFrom (s.heap.objs.size + 1) scope.names []).lookup y.1).isSome = true) := fun ⟨n, v⟩ hy => by
    rcases S.par n (List.of_mem_zip hy).1 with q | q
    · exact .inl q
    · exact .inr ⟨q, PySem.W.cellsFrom_some _ _ _ (.inl q)⟩
  refine codeAny_call_function hr.depth (KX _ _ lk) rfl S.co S.gen rfl (PySem.W.codeRec_of KX hcd) (hb _ _ _ _ ?_)
  refine wpAny_newFunctionEnv_cells S.kind hkind fun env he s1 x => ?_
  subst he
  refine ⟨lim.keeps x.toInCall.keep, codeAny_func ?_⟩
  obtain ⟨t, ht, hq⟩ := hbody A outer s H vs Q E (hr.deeper _) hsp
  have I : Inv (qjj CX P w K mg base N qual scope f cdv A outer s H E) [] (start N vs) H s1 := qhC S hr.hd (by have := (hr.deeper (envOfC qual scope s.heap.objs.size f cdv)).dp; show _ + 100 < _; omega) e0 hl r x
  refine wpAny_mono (ht [] s1 (start N vs) H _ I hq) (fun fl s' hs => ?_) fun e s' hs => hs
  have fin : ∀ {σ' : St} {H' : Hp} {v : V} {u : Value}, Inv (qjj CX P w K mg base N qual scope f cdv A outer s H E) [] σ' H' s' → RelV v u → Q v H' → CE outer P w H s Q u s' :=
    fun {σ' H' v u} J rv q => ⟨v, H', J.os, J.bare, J.base, J.hok, rv, q⟩
  cases fl with
  | ret u =>
    obtain ⟨v, σ', H', J, rv, q⟩ := hs
    exact fin J rv q
  | next =>
    obtain ⟨σ', H', J, q⟩ := hs
    exact fin (v := V.non) (u := Value.none) J rfl q
  | brk =>
    obtain ⟨_, _, _, q⟩ := hs
    exact False.elim q
  | cont =>
    obtain ⟨_, _, _, q⟩ := hs
    exact False.elim q
end L2
namespace L2
open PySem PySem.Spec PyProof.Rows
section
variable {X : Cx} {x : Str} {p pos : Pos} {e : Expr} {es : List Expr} {t : TA} {id T : String} {r : List V → Hp → VK → Prop}
noncomputable def tCB (r : List V → Hp → VK → Prop) (t : TA) : TE := fun σ H Q => t σ H fun vs H1 => r vs H1 Q
theorem qaU (hc : qca X (.builtin id) r) (hg : Gl X x) (hm : X.mg x = none) (hv : bootBuiltins x = some (.builtin id)) (ha : PA X (e :: es) t) (hn : x ≠ "__name__" := by decide) (hdb : (x == ("__debug__" : Str)) = false := by decide)
    (he : starEach (e :: es) X.env = (false, eval e X.env) :: starEach es X.env := by rfl) (hpl : (backTo pos (starEach es X.env)).any (·.1) = false := by rfl) : PE X (.Call (.Name x p) (e :: es) [] pos) (tCB r t) := by
  intro pins s σ H Q I h
  refine wpAny_Call_Name_kw (qd4 I hg hm hv ?_ hn hdb)
  exact PyProof.Rows.callWith_builtin1 (thn (ha pos pins s σ H _ I h) fun us s1 ⟨vs, H1, I1, r1, q1⟩ => hc pins s1 σ H1 vs us Q I1 r1 q1) he hpl
theorem qa1 (hc : qca X (.type T) r) (hg : Gl X x) (hm : X.mg x = none) (hv : bootBuiltins x = some (.type T)) (ha : PA X (e :: es) t) (hn : x ≠ "__name__" := by decide) (hdb : (x == ("__debug__" : Str)) = false := by decide)
    (he : starEach (e :: es) X.env = (false, eval e X.env) :: starEach es X.env := by rfl) (hpl : (backTo pos (starEach es X.env)).any (·.1) = false := by rfl) : PE X (.Call (.Name x p) (e :: es) [] pos) (tCB r t) := by
  intro pins s σ H Q I h
  refine wpAny_Call_Name_kw (qd4 I hg hm hv ?_ hn hdb)
  exact PyProof.Rows.callWith_type1 (thn (ha pos pins s σ H _ I h) fun us s1 ⟨vs, H1, I1, r1, q1⟩ => hc pins s1 σ H1 vs us Q I1 r1 q1) he hpl
end
end L2
namespace HT
open PySem PyProof.Rows
section
open PySem.SeqAt
open PySem.AutoSeq1 (wpAny_loadPart')
open PySem.MeetsSeq PySem.MeetsSeq2 PySem.MeetsSeq3
end
section
variable {prog : Program} {w : World} {A : Around} {E : Value → Shared → Prop} {s : Shared}
noncomputable def sIx (n d : Nat) : Option Int → Nat
  | none => d
  | some v => if v < 0 then (v + (n : Int)).toNat else min v.toNat n
end
end HT
namespace L2
open PySem PySem.Spec PyProof.Rows
noncomputable abbrev TO := St → Hp → (Option Int → Hp → Prop) → Prop
noncomputable def PO (X : Cx) (e : Option Expr) (t : TO) : Prop :=
  ∀ (pins : List (Addr × Obj)) (s : Shared) (σ : St) (H : Hp) (Q : Option Int → Hp → Prop), Inv X pins σ H s → t σ H Q →
    wpAny (model X.prog X.w) X.A (evalPart e X.env) (fun u s' => ∃ o H', Inv X pins σ H' s' ∧ IsPart u o ∧ Q o H') X.xe s
noncomputable def qfB : TO := fun _ H Q => Q none H
noncomputable def qkF (t : TE) : TO := fun σ H Q => t σ H fun x H1 => ∃ i, x = .int i ∧ Q (some i) H1
section
variable {X : Cx} {e : Expr} {te : TE} {lo hi : Option Expr} {tl th : TO} {pos p2 : Pos}
theorem qkG : PO X none qfB := by
  intro pins s σ H Q I h
  rw [evalPart_none]
  exact wpAny_pure ⟨none, H, I, .none, h⟩
theorem qhD (h : PE X e te) : PO X (some e) (qkF te) := by
  intro pins s σ H Q I hw
  rw [evalPart_some]
  refine thn (h pins s σ H _ I hw) fun u s1 ⟨x, H1, I1, r1, q1⟩ => ?_
  obtain ⟨i, rfl, q⟩ := q1
  obtain ⟨t, rfl⟩ := r1
  exact ⟨some i, H1, I1, .int i t, q⟩
noncomputable def SlR (X : Cx) (r : V → Option Int → Option Int → Hp → VK → Prop) : Prop :=
  ∀ (pins : List (Addr × Obj)) (s : Shared) (σ : St) (H : Hp) (x : V) (v vl vu : Value) (lo hi : Option Int) (sl : Addr) (Q : VK), Inv X pins σ H s → RelV x v → s.heap.IsSliceOf sl vl vu .none → IsPart vl lo → IsPart vu hi → r x lo hi H Q →
    ∃ T id, typeLookup (.type T) "__getitem__" = pure (some (.builtin id)) ∧ s.TypeIs v T ∧ wpAny (model X.prog X.w) X.A (getItem v (.ref sl)) (EP X pins σ Q) X.xe s
noncomputable def tSl (r : V → Option Int → Option Int → Hp → VK → Prop) (te : TE) (tl th : TO) : TE := fun σ H Q => te σ H fun x H1 => tl σ H1 fun l H2 => th σ H2 fun u H3 => r x l u H3 Q
theorem qjk {r : V → Option Int → Option Int → Hp → VK → Prop} (hr : SlR X r) (he : PE X e te) (hl : PO X lo tl) (hu : PO X hi th) : PE X (.Subscript e (.Slice lo hi none p2) pos) (tSl r te tl th) := by
  intro pins s σ H Q I h
  refine Subscript_ (thn (he pins s σ H _ I h) fun v s1 ⟨x, H1, I1, r1, q1⟩ => ?_)
  refine wpAny_Slice (thn (hl pins s1 σ H1 _ I1 q1) fun vl s2 ⟨l, H2, I2, pl, q2⟩ => thn (hu pins s2 σ H2 _ I2 q2) fun vu s3 ⟨u, H3, I3, pu, q3⟩ => ?_)
  rw [evalPart_none]
  refine wpAny_pure ?_
  have I4 : Inv X pins σ H3 { s3 with heap := s3.heap.push { cls := .type "slice", data := .fields #[vl, vu, .none] } } := I3.kept (t' := s3.toks) fun b ob q => Heap.get?_push_of_some _ q
  obtain ⟨T, id, hT, ht, hg⟩ := hr pins { s3 with heap := s3.heap.push { cls := .type "slice", data := .fields #[vl, vu, .none] } } σ H3 x v vl vu l u s3.heap.objs.size Q I4 r1 (Heap.IsSliceOf.new ..) pl pu q3
  show wpAny (model X.prog X.w) X.A (subscriptTail e (.Slice lo hi none p2) v (.ref s3.heap.objs.size)) (EP X pins σ Q) X.xe { s3 with heap := s3.heap.push { cls := .type "slice", data := .fields #[vl, vu, .none] } }
  exact tail_any (ops := [.ref s3.heap.objs.size, v]) ht hT hg (by with_unfolding_all rfl)
noncomputable def qi9 (xs : List V) (lo hi : Option Int) : List V := (xs.drop (HT.sIx xs.length 0 lo)).take (HT.sIx xs.length xs.length hi - HT.sIx xs.length 0 lo)
theorem qfC (xs : List V) (lo hi : Option Int) : (qi9 xs lo hi).length ≤ xs.length := by
  unfold qi9
  rw [List.length_take, List.length_drop]
  omega
end
end L2
namespace L2
open PySem PySem.Spec PyProof.Rows
noncomputable def ixN (n : Nat) (i : Int) : Option Nat := if 0 ≤ i then (if i < n then some i.toNat else none) else if -(n : Int) ≤ i then some (i + n).toNat else none
noncomputable def atI {α : Type} (xs : List α) (i : Int) : Option α := (ixN xs.length i).bind fun j => xs[j]?
theorem qkH {n : Nat} {i : Int} {j : Nat} (h : ixN n i = some j) : seqIndex? i n = some j ∧ j < n ∧ -(n : Int) ≤ i ∧ i < n := by
  unfold ixN at h
  by_cases h0 : 0 ≤ i
  · rw [if_pos h0] at h
    by_cases h1 : i < n
    · rw [if_pos h1] at h
      have e : i.toNat = j := Option.some.inj h
      exact ⟨by rw [seqIndex_of h0 h1, e], by omega, by omega, h1⟩
    · rw [if_neg h1] at h; cases h
  · rw [if_neg h0] at h
    by_cases h1 : -(n : Int) ≤ i
    · rw [if_pos h1] at h
      have e : (i + n).toNat = j := Option.some.inj h
      exact ⟨by rw [seqIndex_neg (by omega) h1, e], by omega, h1, by omega⟩
    · rw [if_neg h1] at h; cases h
theorem qhE {α : Type} {xs : List α} {i : Int} {v : α} (h : atI xs i = some v) : ∃ j, seqIndex? i xs.length = some j ∧ xs[j]? = some v ∧ j < xs.length ∧ -(xs.length : Int) ≤ i ∧ i < xs.length := by
  unfold atI at h
  cases e : ixN xs.length i with
  | none => rw [e] at h; cases h
  | some j =>
    rw [e] at h
    obtain ⟨h1, h2, h3, h4⟩ := qkH e
    exact ⟨j, h1, h, h2, h3, h4⟩
theorem qkI {α : Type} {xs : List α} {j : Nat} {v : α} (h : xs[j]? = some v) : atI xs (j : Int) = some v := by
  have hj : j < xs.length := (List.getElem?_eq_some_iff.mp h).1
  have e : ixN xs.length (j : Int) = some j := by
    unfold ixN
    rw [if_pos (by omega), if_pos (by omega)]; simp
  unfold atI; rw [e]; exact h
noncomputable def qkJ (b : Expr) : Prop := ∀ o i, subscripted b false o i = operate [o, i] (getItem o i)
noncomputable def IxR (X : Cx) (r : R2) : Prop :=
  ∀ (value slice : Expr) (pins : List (Addr × Obj)) (s : Shared) (σ : St) (H : Hp) (x y : V) (v u : Value) (Q : VK), Inv X pins σ H s → RelV x v → RelV y u → r x y H Q →
    subscripted slice false v u = operate [v, u] (getItem v u) → wpAny (model X.prog X.w) X.A (subscriptTail value slice v u) (EP X pins σ Q) X.xe s
noncomputable def MtR (X : Cx) (id : String) (r : V → List V → Hp → VK → Prop) : Prop :=
  ∀ (pins : List (Addr × Obj)) (s : Shared) (σ : St) (H : Hp) (x : V) (xs : List V) (v : Value) (us : List Value) (Q : VK), Inv X pins σ H s → RelV x v → Vals xs us → r x xs H Q →
    wpAny (model X.prog X.w) X.A (call (.builtin id) (v :: us)) (EP X pins σ Q) X.xe s
section
variable {X : Cx} {a b : Expr} {ta tb : TE} {pos : Pos}
theorem qam {r : R2} (hr : IxR X r) (ha : PE X a ta) (hb : PE X b tb) (hs : qkJ b) : PE X (.Subscript a b pos) (tOp r ta tb) := by
  intro pins s σ H Q I h
  exact Subscript_ (qnm ha hb I h fun v u s2 x y H2 I2 rx ry q => hr a b pins s2 σ H2 x y v u Q I2 rx ry q (hs _ _))
noncomputable def qog (K : PySem.W.Frag) : R2 := fun x y H Q => ∃ p xs i v, x = .ref p ∧ y = .int i ∧ SqL K H p xs ∧ atI xs i = some v ∧ Q v H
noncomputable def qoh (K : PySem.W.Frag) : R2 := fun x y H Q => ∃ p xs i v, x = .ref p ∧ y = .int i ∧ SqT K H p xs ∧ atI xs i = some v ∧ Q v H
theorem qhF : IxR X (qog X.K) := by
  intro value slice pins s σ H x y v u Q I rx ry h hs
  obtain ⟨p, xs, i, z, rfl, rfl, hq, he, q⟩ := h
  cases rx
  obtain ⟨t, rfl⟩ := ry
  obtain ⟨its, r, pl, hz⟩ := I.list hq
  obtain ⟨j, h1, h2, h3, h4, h5⟩ := qhE he
  obtain ⟨w, ew, rw'⟩ := r.get h2
  have hl := r.length
  have hn := qf3
  have fin : EP X pins σ Q w s := ⟨z, H, I, rw', q⟩
  by_cases h0 : 0 ≤ i
  · have hj : i.toNat = j := by
      rw [seqIndex_of h0 h5] at h1
      exact Option.some.inj h1
    exact item_listR pl.isList h0 (by omega) (by rw [hj]; simpa using ew) fin hs
  · have hj : (i + (its.toArray.size : Int)).toNat = j := by
      rw [seqIndex_neg (by omega) h4] at h1
      rw [List.size_toArray, ← hl]
      exact Option.some.inj h1
    exact subscriptTail_builtinR (x := w) pl.isList.typeIs slot_list_getitem.lookup
      (wpAny_getItem_list_neg (Q := fun r s' => r = w ∧ EP X pins σ Q r s') pl.isList (by omega) (by rw [List.size_toArray] <;> omega) (by omega) (by rw [hj]; simpa using ew) ⟨rfl, fin⟩) hs
theorem qlY : IxR X (qoh X.K) := by
  intro value slice pins s σ H x y v u Q I rx ry h hs
  obtain ⟨p, xs, i, z, rfl, rfl, hq, he, q⟩ := h
  cases rx
  obtain ⟨t, rfl⟩ := ry
  obtain ⟨its, r, pl, hz⟩ := I.tuple hq
  obtain ⟨j, h1, h2, h3, h4, h5⟩ := qhE he
  obtain ⟨w, ew, rw'⟩ := r.get h2
  have hl := r.length
  have hn := qf3
  have fin : EP X pins σ Q w s := ⟨z, H, I, rw', q⟩
  exact subscriptTail_builtinR (x := w) pl.typeIs slot_tuple_getitem.lookup
    (getItem_tuple (j := j) (Q := fun r s' => r = w ∧ EP X pins σ Q r s') pl (by omega) (by omega) (by rw [List.size_toArray, ← hl]; exact h1) (by simpa using ew) ⟨rfl, fin⟩) hs
theorem Inv.lst {pins : List (Addr × Obj)} {σ : St} {H : Hp} {s : Shared} {p : Addr} {xs : List V} (I : Inv X pins σ H s) (h : H p = some (.lst xs)) :
    ∃ (its : List Value) (n : Nat), Vals xs its ∧ s.heap.get? p = some { cls := .type "list", data := .seq its.toArray n } ∧ xs.length ≤ sizeLine := by
  obtain ⟨z, its, n, r, e⟩ := I.hok p _ h
  exact ⟨its, n, r, e, z⟩
noncomputable def qnp : V → V → V → Hp → (Hp → Prop) → Prop := fun o i v H Q => ∃ p xs k j, o = .ref p ∧ i = .int k ∧ H p = some (.lst xs) ∧ ixN xs.length k = some j ∧ Q (upd H p (.lst (xs.set j v)))
theorem qe7 (lo hi : Option Int) (n : Nat) : (sliceBounds lo hi none n).1 = ((HT.sIx n 0 lo : Nat) : Int) ∧ (sliceBounds lo hi none n).2.1 = ((HT.sIx n n hi : Nat) : Int) ∧ (sliceBounds lo hi none n).2.2 = 1 := by
  refine ⟨?_, ?_, rfl⟩
  · cases lo with
    | none => simp [sliceBounds, HT.sIx]
    | some i =>
      simp only [sliceBounds, HT.sIx, Option.getD_none, show (1 : Int) > 0 by decide, if_true]
      by_cases h : i < 0
      · simp only [h, if_true] <;> omega
      · simp only [h, if_false] <;> omega
  · cases hi with
    | none => simp [sliceBounds, HT.sIx]
    | some i =>
      simp only [sliceBounds, HT.sIx, Option.getD_none, show (1 : Int) > 0 by decide, if_true]
      by_cases h : i < 0
      · simp only [h, if_true] <;> omega
      · simp only [h, if_false] <;> omega
theorem qet (its : List Value) (lo hi : Option Int) : slicePick its.toArray lo hi none = ((its.drop (HT.sIx its.length 0 lo)).take (HT.sIx its.length its.length hi - HT.sIx its.length 0 lo)).toArray := by
  obtain ⟨h1, h2, h3⟩ := qe7 lo hi its.toArray.size
  unfold slicePick
  rw [h1, h2, h3]
  simp only [sliceRange_one, pick_run, List.size_toArray] <;> rfl
noncomputable def qoi (K : PySem.W.Frag) : V → Option Int → Option Int → Hp → VK → Prop := fun x lo hi H Q => ∃ a xs, x = .ref a ∧ SqL K H a xs ∧ ∀ p, H p = none → Q (.ref p) (upd H p (.lst (qi9 xs lo hi)))
theorem qkK : SlR X (qoi X.K) := by
  intro pins s σ H x v vl vu lo hi sl Q I rx hs pl pu h
  obtain ⟨a, xs, rfl, hx, q⟩ := h
  cases rx
  obtain ⟨its, r, ht, hz⟩ := I.list hx
  have hlen := r.length
  refine ⟨"list", _, slot_list_getitem.lookup, ht.isList.typeIs, ?_⟩
  refine wpAny_getItem_list_slice ht.isList hs pl pu .none (by simp) ?_ (by rw [List.size_toArray] <;> omega)
  rw [qet, ← hlen]
  refine ⟨.ref s.heap.objs.size, _, I.laid (t' := s.toks) (o := .lst (qi9 xs lo hi)) (fun b ob q => Heap.get?_push_of_some _ q) (Nat.le_refl _) ?_, rfl, q _ (I.hok.fresh (Nat.le_refl _))⟩
  exact ⟨Nat.le_trans (qfC xs lo hi) hz, _, 0, (r.drop (HT.sIx xs.length 0 lo)).take (HT.sIx xs.length xs.length hi - HT.sIx xs.length 0 lo), Heap.get?_push_size _ rfl⟩
theorem qcR : qca X (.builtin "len") (fun xs H Q => ∃ p ys, xs = [.ref p] ∧ (SqL X.K H p ys ∨ SqT X.K H p ys) ∧ Q (.int ys.length) H) := by
  intro pins s σ H xs us Q I r h
  obtain ⟨p, ys, rfl, hq, q⟩ := h
  obtain ⟨u, rfl, rx⟩ := qe2 r
  cases rx
  have hn := qf3
  rcases hq with hq | hq
  · obtain ⟨its, r', pl, hz⟩ := I.list hq
    have hlen := r'.length
    exact Calls.call_len_list pl.isList (by simp only [List.size_toArray] <;> omega) ⟨.int ys.length, H, I.tok _, ⟨s.toks + 1, by rw [List.size_toArray, hlen]⟩, q⟩
  · obtain ⟨its, r', pl, hz⟩ := I.tuple hq
    have hlen := r'.length
    exact len_tuple pl (by simp only [List.size_toArray] <;> omega) ⟨.int ys.length, H, I.tok _, ⟨s.toks + 1, by rw [List.size_toArray, hlen]⟩, q⟩
theorem qcS : qca X (.type "list") (fun xs H Q => ∃ p ys, xs = [.ref p] ∧ (SqL X.K H p ys ∨ SqT X.K H p ys) ∧ ∀ l, H l = none → Q (.ref l) (upd H l (.lst ys))) := by
  intro pins s σ H xs us Q I r h
  obtain ⟨p, ys, rfl, hq, q⟩ := h
  obtain ⟨u, rfl, rx⟩ := qe2 r
  cases rx
  have fin : ∀ (its : List Value), Vals ys its → ys.length ≤ sizeLine → ∀ (h' : Heap) (c' : Nat), (∀ b o', s.heap.get? b = some o' → h'.get? b = some o') →
      h'.get? s.heap.objs.size = some { cls := .type "list", dict := none, data := .seq its.toArray c', slots := #[] } → EP X pins σ Q (.ref s.heap.objs.size) { s with heap := h' } := fun its r' hz h' c' kp e =>
    ⟨.ref s.heap.objs.size, _, I.laid (t' := s.toks) kp (Nat.le_refl _) (show ObjOk X.prog X.w _ h' _ (.lst ys) from ⟨hz, its, c', r', e⟩), rfl, q _ (I.hok.fresh (Nat.le_refl _))⟩
  rcases hq with hq | hq
  · obtain ⟨its, r', pl, hz⟩ := I.list hq
    have hlen := r'.length
    obtain ⟨o, ho, hc, n, hd⟩ := pl.isList
    exact call_list_seq p (.inl rfl) ho hc hd (fun h' c' kp e => fin its r' hz h' c' kp e) (by simp only [List.size_toArray] <;> omega)
  · obtain ⟨its, r', pl, hz⟩ := I.tuple hq
    have hlen := r'.length
    obtain ⟨o, ho, hc, n, hd⟩ := pl
    exact call_list_seq p (.inr rfl) ho hc hd (fun h' c' kp e => fin its r' hz h' c' kp e) (by simp only [List.size_toArray] <;> omega)
theorem qeu : qca X (.type "tuple") (fun xs H Q => ∃ p ys, xs = [.ref p] ∧ ((SqL X.K H p ys ∧ ∀ l, H l = none → Q (.ref l) (upd H l (.tup ys))) ∨ (SqT X.K H p ys ∧ Q (.ref p) H))) := by
  intro pins s σ H xs us Q I r h
  obtain ⟨p, ys, rfl, h⟩ := h
  obtain ⟨u, rfl, rx⟩ := qe2 r
  cases rx
  rcases h with ⟨hq, q⟩ | ⟨hq, q⟩
  · obtain ⟨its, r', pl, hz⟩ := I.list hq
    have hlen := r'.length
    refine call_tuple_list pl.isList (fun h' kp => ?_) (by simp only [List.size_toArray] <;> omega)
    have I1 : Inv X pins σ H { s with heap := h' } := I.kept (t' := s.toks) kp
    have I2 : Inv X pins σ (upd H h'.objs.size (.tup ys)) { s with heap := h'.push { cls := .type "tuple", data := .seq its.toArray } } :=
      I1.laid (t' := s.toks) (fun b o e => Heap.get?_push_of_some _ e) (Nat.le_refl _) (show ObjOk X.prog X.w _ _ _ (.tup ys) from ⟨hz, its, r', IsTup.new _ _⟩)
    exact ⟨.ref h'.objs.size, _, I2, rfl, q _ (I1.hok.fresh (Nat.le_refl _))⟩
  · obtain ⟨its, r', pl, hz⟩ := I.tuple hq
    exact call_tuple_same pl ⟨.ref p, H, I, rfl, q⟩
noncomputable def tyV (K : PySem.W.Frag) (T : String) (x : V) (H : Hp) : Prop := match x with
  | .str _ => T = "str"
  | .int _ => T = "int"
  | .ref p => (T = "list" ∧ ∃ xs, SqL K H p xs) ∨ (T = "tuple" ∧ ∃ o, K.lookup p = some o ∧ o.cls = .type "tuple" ∧ o.dict = none) ∨
      (T = "dict" ∧ ((∃ kvs, H p = some (.dK kvs)) ∨ ∃ kvs, H p = some (.dT kvs))) ∨ (T = "set" ∧ ∃ S n, H p = some (.set S n))
  | _ => False
theorem qke {pins : List (Addr × Obj)} {σ : St} {H : Hp} {s : Shared} {T : String} {x : V} {v : Value} (I : Inv X pins σ H s) (r : RelV x v) (ty : tyV X.K T x H) :
    s.TypeIs v T ∧ ∀ a, v = .ref a → ∃ ob, s.heap.get? a = some ob ∧ ob.dict = none := by
  cases x with
  | str z =>
    obtain ⟨t, rfl⟩ := r
    cases (show T = "str" from ty)
    exact ⟨typeIs_str s z t, fun _ e => nomatch e⟩
  | int i =>
    obtain ⟨t, rfl⟩ := r
    cases (show T = "int" from ty)
    exact ⟨typeIs_int s i t, fun _ e => nomatch e⟩
  | ref p =>
    cases r
    rcases ty with ⟨rfl, xs, hq⟩ | ⟨rfl, o, hk, hc, hd⟩ | ⟨rfl, hk⟩ | ⟨rfl, S, n, hk⟩
    · obtain ⟨its, _, pl, _⟩ := I.list hq
      refine ⟨pl.isList.typeIs, fun a e => ?_⟩
      cases e
      obtain ⟨o, n, e, c, hd, _⟩ := pl
      exact ⟨o, e, hd⟩
    · refine ⟨⟨o, I.kIn p o hk, hc⟩, fun a e => ?_⟩
      cases e
      exact ⟨o, I.kIn _ o hk, hd⟩
    · have z : ∃ o, s.heap.get? p = some o ∧ o.ExactDict := by
        rcases hk with ⟨kvs, hk⟩ | ⟨kvs, hk⟩
        · obtain ⟨_, _, _, _, o, _, _, e, ex, _⟩ := I.hok p _ hk
          exact ⟨o, e, ex⟩
        · obtain ⟨_, _, _, _, o, _, _, e, ex, _⟩ := I.hok p _ hk
          exact ⟨o, e, ex⟩
      obtain ⟨o, e, ex⟩ := z
      refine ⟨⟨o, e, ex.1⟩, fun a e2 => ?_⟩
      cases e2
      exact ⟨o, e, ex.2.1⟩
    · obtain ⟨o, _, _, _, e, ex, _⟩ := I.hok p _ hk
      refine ⟨⟨o, e, ex.1⟩, fun a e2 => ?_⟩
      cases e2
      exact ⟨o, e, ex.2.1⟩
  | _ => exact False.elim ty
noncomputable def qlZ (K : PySem.W.Frag) (T : String) (r : V → List V → Hp → VK → Prop) (to : TE) : TE := fun σ H Q => to σ H fun x H1 => tyV K T x H1 ∧ r x [] H1 Q
noncomputable def tBM (K : PySem.W.Frag) (T : String) (r : V → List V → Hp → VK → Prop) (to : TE) (t : TA) : TE := fun σ H Q => to σ H fun x H1 => tyV K T x H1 ∧ t σ H1 fun xs H2 => r x xs H2 Q
variable {o e : Expr} {es : List Expr} {to : TE} {t : TA} {name : Str} {apos cpos : Pos} {T id : String} {r : V → List V → Hp → VK → Prop}
theorem qhG (pa : PlainAttrs T) (slot : Slot T name id) (hty : typeOf (.builtin id) = pure (.type "method_descriptor")) (hm : MtR X id r) (ho : PE X o to)
    (hbase : attributeBase o name X.env (eval o X.env) = eval o X.env := by rfl) (hline : (apos.endLine == cpos.line) = true := by rfl) : PE X (.Call (.Attribute o name apos) [] [] cpos) (qlZ X.K T r to) := by
  intro pins s σ H Q I h
  refine wpAny_Call_method0_late hbase hline (thn (ho pins s σ H _ I h) fun v s1 ⟨x, H1, I1, r1, ty, q1⟩ => ?_)
  obtain ⟨h1, h2⟩ := qke I1 r1 ty
  exact ⟨T, id, pa, slot, hty, h1, h2, Calls.callWith_builtin rfl (PySem.evalArgs_none (hm pins s1 σ H1 x [] v [] Q I1 r1 .nil q1))⟩
theorem qjl (pa : PlainAttrs T) (slot : Slot T name id) (hty : typeOf (.builtin id) = pure (.type "method_descriptor")) (hm : MtR X id r) (ho : PE X o to) (ha : PA X (e :: es) t)
    (hbase : attributeBase o name X.env (eval o X.env) = eval o X.env := by rfl)
    (hfew : ((backTo cpos (starEach (e :: es) X.env)).all (fun x => !x.1) && (backToKw cpos (keywordEach [] X.env)).all (fun x => x.1.isSome)
      && decide ((e :: es).length + ([] : List Keyword).length + (if ([] : List Keyword).isEmpty then 0 else 1) < 30)) = true := by rfl)
    (hline : (apos.endLine == cpos.line) = true := by rfl) (hs : starEach (e :: es) X.env = (false, eval e X.env) :: starEach es X.env := by rfl) (hplain : (backTo cpos (starEach es X.env)).any (·.1) = false := by rfl) :
    PE X (.Call (.Attribute o name apos) (e :: es) [] cpos) (tBM X.K T r to t) := by
  intro pins s σ H Q I h
  refine wpAny_Call_method_late hbase hfew hline rfl (thn (ho pins s σ H _ I h) fun v s1 ⟨x, H1, I1, r1, ty, q1⟩ => ?_)
  obtain ⟨h1, h2⟩ := qke I1 r1 ty
  refine ⟨T, id, pa, slot, hty, h1, h2, ?_⟩
  have hA := ha cpos pins s1 σ H1 _ I1 q1
  rw [hs] at hA ⊢
  refine Calls.callWith_builtin (by show (false || (backTo cpos (starEach es X.env)).any (·.1)) = false; rw [hplain] <;> rfl) (Calls.evalArgs_plain ?_)
  exact thn hA fun us s2 ⟨vs, H2, I2, r2, q2⟩ => hm pins s2 σ H2 x vs v us Q I2 r1 r2 q2
end
end L2
namespace L2
open PySem PySem.Spec PyProof.Rows
noncomputable def MtM (X : Cx) (id : String) (r : V → List V → Hp → VK → Prop) : Prop :=
  ∀ (pins : List (Addr × Obj)) (s : Shared) (σ : St) (H : Hp) (x : V) (xs : List V) (v : Value) (us : List Value) (Q : VK), Inv X pins σ H s → RelV x v → Vals xs us → r x xs H Q →
    wpAny (model X.prog X.w) X.A (call (.builtin id) (v :: us)) (EP X pins σ Q) X.xe s
theorem Vals.zero {us : List Value} (h : Vals [] us) : us = [] := by cases h; rfl
theorem Vals.inv {x : V} {xs : List V} {us : List Value} (h : Vals (x :: xs) us) : ∃ u t, us = u :: t ∧ RelV x u ∧ Vals xs t := by cases h with | cons r t => exact ⟨_, _, rfl, r, t⟩
theorem Vals.one {x : V} {us : List Value} (h : Vals [x] us) : ∃ u, us = [u] ∧ RelV x u := by obtain ⟨u, t, rfl, r, h⟩ := h.inv; exact ⟨u, by rw [h.zero], r⟩
theorem Vals.two {x y : V} {us : List Value} (h : Vals [x, y] us) : ∃ u v, us = [u, v] ∧ RelV x u ∧ RelV y v := by obtain ⟨u, t, rfl, r, h⟩ := h.inv; obtain ⟨v, rfl, q⟩ := h.one; exact ⟨u, v, rfl, r, q⟩
theorem Vals.dropLast {xs : List V} {us : List Value} (h : Vals xs us) : Vals xs.dropLast us.dropLast := by
  induction h with
  | nil => exact .nil
  | cons r t ih =>
    cases t with
    | nil => exact .nil
    | cons q t' => exact .cons r ih
theorem Vals.eraseIdx : ∀ {xs : List V} {us : List Value} (i : Nat), Vals xs us → Vals (xs.eraseIdx i) (us.eraseIdx i)
  | _, _, _, .nil => .nil
  | _, _, 0, .cons _ t => t
  | _, _, i + 1, .cons r t => .cons r (Vals.eraseIdx i t)
theorem Vals.reverse {xs : List V} {us : List Value} (h : Vals xs us) : Vals xs.reverse us.reverse := by
  induction h with
  | nil => exact .nil
  | cons r t ih => rw [List.reverse_cons, List.reverse_cons]; exact Vals.append ih (.cons r .nil)
theorem qgI {α : Type} (l : List α) : l.eraseIdx (l.length - 1) = l.dropLast := by
  induction l with
  | nil => rfl
  | cons a r ih =>
    cases r with
    | nil => rfl
    | cons b r =>
      have e : (a :: b :: r).length - 1 = ((b :: r).length - 1) + 1 := by
        have h1 : (a :: b :: r).length = r.length + 2 := rfl
        have h2 : (b :: r).length = r.length + 1 := rfl
        omega
      rw [e, List.eraseIdx_cons_succ, ih]
      all_goals rfl
section
variable {X : Cx} {pins : List (Addr × Obj)} {σ : St} {H : Hp} {s : Shared} {l b : Addr} {xs ys zs : List V}
theorem Inv.lset {its its' : List Value} {n : Nat} {f : Array Value → Array Value} {t' : Nat} (I : Inv X pins σ H s) (hH : H l = some (.lst xs))
    (e : s.heap.get? l = some { cls := .type "list", data := .seq its.toArray n }) (hf : f its.toArray = its'.toArray) (hv : Vals ys its') (hz : ys.length ≤ sizeLine) :
    Inv X pins σ (upd H l (.lst ys)) { s with heap := s.heap.update l (Obj.mapSeq f), toks := t' } := by
  have q := PySem.IsL.update e f
  rw [hf] at q
  refine I.write (x := l) (e := l) (by rw [hH]; exact trivial) (.inl rfl) (fun b' u hb hu => (Heap.get?_update_other s.heap (Obj.mapSeq f) (Ne.symm hb)).trans hu) ⟨_, q⟩ ?_
  exact ⟨hz, its', _, hv, q⟩
theorem Inv.lnew {its : List Value} {t' : Nat} (I : Inv X pins σ H s) (hv : Vals ys its) (hz : ys.length ≤ sizeLine) :
    Inv X pins σ (upd H s.heap.objs.size (.lst ys)) { s with heap := s.heap.push { cls := .type "list", data := .seq its.toArray }, toks := t' } :=
  I.laid (fun _ _ q => Heap.get?_push_of_some _ q) (Nat.le_refl _) ⟨hz, its, 0, hv, Heap.get?_push_size _ rfl⟩
theorem Inv.fresh (I : Inv X pins σ H s) : H s.heap.objs.size = none := I.hok.fresh (Nat.le_refl _)
theorem Inv.lstM (I : Inv X pins σ H s) (hH : H l = some (.lst xs)) : xs.length ≤ sizeLine ∧ ∃ (its : List Value) (n : Nat), Vals xs its ∧ xs.length = its.length ∧ s.heap.get? l = some { cls := .type "list", data := .seq its.toArray n } := by
  obtain ⟨z, its, n, r, e⟩ := I.hok l _ hH
  exact ⟨z, its, n, r, r.length, e⟩
theorem qjm {n : Nat} (h : n ≤ sizeLine) : Builtin.List.listTooLong n = false := by
  unfold Builtin.List.listTooLong
  exact decide_eq_false (by omega)
end
section
variable {X : Cx}
noncomputable def qev : V → List V → Hp → VK → Prop := fun x vs H Q => ∃ l xs y, x = .ref l ∧ vs = [y] ∧ H l = some (.lst xs) ∧ xs.length < sizeLine ∧ Q .non (upd H l (.lst (xs ++ [y])))
theorem qe8 : MtM X "list.append" qev := by
  intro pins s σ H x vs v us Q I rx rv h
  obtain ⟨l, xs, y, rfl, rfl, hH, hz, q⟩ := h
  cases rx
  obtain ⟨u, rfl, ru⟩ := rv.one
  obtain ⟨z, its, n, r, hl, e⟩ := I.lstM hH
  refine call_meets F.slot_list_append ⟨_, e, rfl⟩ F.entry_list_append (F.args_list_append_2 _ _) (PySem.list_append l its.toArray n u (by rw [List.size_toArray]; omega)) ⟨e, ?_⟩
  refine ⟨.non, _, I.lset (its' := its ++ [u]) hH e (by simp) (r.append (.cons ru .nil)) ?_, rfl, q⟩
  rw [List.length_append, List.length_singleton]
  omega
noncomputable def qfD : V → List V → Hp → VK → Prop := fun x vs H Q => ∃ l b xs zs, x = .ref l ∧ vs = [.ref b] ∧ H l = some (.lst xs) ∧ H b = some (.lst zs) ∧ xs.length + zs.length ≤ sizeLine ∧ Q .non (upd H l (.lst (xs ++ zs)))
theorem qhH : MtM X "list.extend" qfD := by
  intro pins s σ H x vs v us Q I rx rv h
  obtain ⟨l, b, xs, zs, rfl, rfl, hH, hB, hz, q⟩ := h
  cases rx
  obtain ⟨u, rfl, ru⟩ := rv.one
  cases ru
  obtain ⟨z, its, n, r, hl, e⟩ := I.lstM hH
  obtain ⟨z2, its2, n2, r2, hl2, e2⟩ := I.lstM hB
  have hsz : its.toArray.size + its2.toArray.size ≤ sizeLine := by rw [List.size_toArray, List.size_toArray]; omega
  have hlong : ¬ (!its.toArray.isEmpty && Builtin.List.listTooLong (its.toArray.size + its2.toArray.size)) = true := by
    rw [qjm hsz, Bool.and_false]
    exact Bool.false_ne_true
  refine call_meets F.slot_list_extend ⟨_, e, rfl⟩ F.entry_list_extend (F.args_list_extend_2 _ _)
    (AutoSeq1.list_extend_list_list_0 l its.toArray n b its2.toArray n2 hlong (by rw [List.size_toArray]; omega) (by omega)) ⟨e, e2, ?_⟩
  refine ⟨.non, _, I.lset (its' := its ++ its2) hH e (by simp) (r.append r2) ?_, rfl, q⟩
  rw [List.length_append]
  omega
noncomputable def qnq : V → List V → Hp → VK → Prop := fun x vs H Q => ∃ l xs y, x = .ref l ∧ vs = [] ∧ H l = some (.lst xs) ∧ xs[xs.length - 1]? = some y ∧ Q y (upd H l (.lst xs.dropLast))
theorem ql0 : MtM X "list.pop" qnq := by
  intro pins s σ H x vs v us Q I rx rv h
  obtain ⟨l, xs, y, rfl, rfl, hH, hy, q⟩ := h
  cases rx
  have hus := rv.zero
  subst hus
  obtain ⟨z, its, n, r, hl, e⟩ := I.lstM hH
  obtain ⟨u, hu, ru⟩ := r.get hy
  have hy' : its.toArray[its.toArray.size - 1]? = some u := by
    show its.toArray[its.length - 1]? = some u
    rw [← Array.getElem?_toList, ← hl]
    exact hu
  refine call_meets F.slot_list_pop ⟨_, e, rfl⟩ F.entry_list_pop (F.args_list_pop_1 _) (MeetsSeq.list_pop_last l its.toArray n u hy' (by rw [List.size_toArray]; omega)) ⟨e, ?_⟩
  refine ⟨y, _, I.lset (its' := its.dropLast) hH e ?_ r.dropLast ?_, ru, q⟩
  · show its.toArray.eraseIdxIfInBounds (its.toArray.size - 1) = its.dropLast.toArray
    rw [List.size_toArray, List.eraseIdxIfInBounds_toArray, qgI]
  · rw [List.length_dropLast]
    omega
noncomputable def qf5 : V → List V → Hp → VK → Prop := fun x vs H Q => ∃ l xs, x = .ref l ∧ vs = [] ∧ H l = some (.lst xs) ∧ Q .non (upd H l (.lst xs.reverse))
theorem qgJ : MtM X "list.reverse" qf5 := by
  intro pins s σ H x vs v us Q I rx rv h
  obtain ⟨l, xs, rfl, rfl, hH, q⟩ := h
  cases rx
  have hus := rv.zero
  subst hus
  obtain ⟨z, its, n, r, hl, e⟩ := I.lstM hH
  refine call_meets F.slot_list_reverse ⟨_, e, rfl⟩ F.entry_list_reverse (F.args_list_reverse_1 _) (AutoSeq1.list_reverse_list_0 l its.toArray n (by rw [List.size_toArray]; omega)) ⟨e, ?_⟩
  refine ⟨.non, _, I.lset (its' := its.reverse) hH e (by simp) r.reverse ?_, rfl, q⟩
  rw [List.length_reverse]
  omega
noncomputable def qjn : R2 := fun x y H Q => ∃ l b xs zs, x = .ref l ∧ y = .ref b ∧ H l = some (.lst xs) ∧ H b = some (.lst zs) ∧ xs.length + zs.length ≤ sizeLine ∧ ∀ p, H p = none → Q (.ref p) (upd H p (.lst (xs ++ zs)))
theorem qhI : OpR X (binaryOp .Add) qjn := by
  intro pins s σ H x y v u Q I rx ry h
  obtain ⟨l, b, xs, zs, rfl, rfl, hH, hB, hz, q⟩ := h
  cases rx
  cases ry
  obtain ⟨z, its, n, r, hl, e⟩ := I.lstM hH
  obtain ⟨z2, its2, n2, r2, hl2, e2⟩ := I.lstM hB
  refine PySem.P.add_list e e2 ?_ (by rw [List.size_toArray, List.size_toArray]; omega)
  have ea : its.toArray ++ its2.toArray = (its ++ its2).toArray := by simp
  rw [ea]
  exact ⟨.ref _, _, I.lnew (t' := s.toks) (r.append r2) (by rw [List.length_append]; omega), rfl, q _ I.fresh⟩
noncomputable def qoj : R2 := fun x y H Q => ∃ l k xs, x = .ref l ∧ y = .int k ∧ H l = some (.lst xs) ∧ -(2 ^ 63) ≤ k ∧ k < 2 ^ 63 ∧ xs.length * k.toNat ≤ sizeLine ∧
  ∀ p, H p = none → Q (.ref p) (upd H p (.lst (List.replicate k.toNat xs).flatten))
end
section
variable {prog : Program} {w : World} {A : Around} {E : Value → Shared → Prop} {s : Shared}
end
section
variable {X : Cx}
end
end L2
namespace Att
open PySem PySem.W PySem.Calls PyProof.Rows
theorem qdi {P : Params} {h : Heap} : ∀ (ns : List Int) (vs : List Value), WellAll P h vs (ns.map WData.int) → IntsAre vs ns := by
  intro ns
  induction ns with
  | nil =>
    intro vs w
    rw [List.map_nil] at w
    cases w
    exact .nil
  | cons n ns ih =>
    intro vs w
    rw [List.map_cons] at w
    cases w with
    | cons a b =>
      cases a
      exact .cons _ _ (ih _ b)
theorem qhJ {l : OpenLaw} {n : Nat} (hn : l.most = some n) {P : Params} {h : Heap} {args : List WData} {vals : List Value}
    (hpre : l.row.toRowW.claim.pre args = true) (hwl : WellAll P h vals args) :
    ∃ a vs ns, vals = [Value.ref a] ∧ args = [WData.list (ns.map WData.int)] ∧ h.get? a = some { cls := .type "list", data := .seq vs.toArray } ∧ IntsAre vs ns ∧ ns.length ≤ n := by
  have hsh : WShape.hasAll [] args [.list .int] = true := (pre_splitW hpre).1
  have hc : l.pre.holds [] { args := args } = true := (pre_splitW hpre).2
  obtain ⟨d, r, rfl, h1, h2⟩ := hasAllW_cons hsh
  obtain rfl := hasAllW_nil h2
  obtain ⟨xs, rfl, h3⟩ := hasW_list h1
  obtain ⟨ns, rfl⟩ := items_int h3
  have hlen : ns.length ≤ n := by
    unfold OpenLaw.pre at hc
    have h4 : (WTm.not (.lt (.lit (.int (n : Int))) (.len (.arg 0)))).holds [] { args := [.list (ns.map .int)] } = true := by
      have h4 := (holds_andW hc).1
      rw [hn] at h4
      exact h4
    have h5 := condW_of h4 (w_not (w_lt w_lit (w_len_list (w_arg rfl))))
    rw [List.length_map] at h5
    refine Nat.le_of_not_lt fun q => ?_
    have q' : (n : Int) < ((ns.length : Nat) : Int) := by omega
    first
      | (rw [decide_eq_true q'] at h5; exact absurd h5 (by decide))
      | (simp at h5; omega)
  cases hwl with
  | cons w1 w2 =>
    cases w2
    cases w1 with
    | list ho hall => exact ⟨_, _, ns, rfl, rfl, ho, qdi ns _ hall, hlen⟩
theorem qhK (l : OpenLaw) (args : List WData) : l.row.toRowW.claim.post args (.bool true) args = true :=
  postW_of (r := l.row.toRowW) (X := (true == true))
    (show WShape.has [] (.bool true) .bool = true by first | rfl | decide | simp [WShape.has, WShape.arms, WShape.armsAll])
    (show (WTm.eq .res (.lit (.bool true))).value [] { args := args, res := some (.bool true), after := args } = some (.bool (true == true)) from w_eq_bool (w_res rfl) w_lit) rfl
theorem attach_call {l : OpenLaw} {n : Nat} {q : Program} {loose : List Str} {XP : (Str → Option Value) → Heap → Prop} {YP : World → Heap → Prop} {d : DefRec}
    (hn : l.most = some n) (hdf : d.params.defaults = [])
    (call : ∀ (w : World) (s₀ s₁ : Shared) (mg mb : Str → Option Value) (fa : Addr) (o : Obj) (pm cd doc : Value) (a : Addr) (vs : List Value) (ns : List Int),
      Ground q loose [] XP w s₀ mg mb s₁.heap → YP w s₁.heap →
      s₁.heap.get? fa = some o → o.data = .func (docDef d.name d.params d.body d.scope pm cd doc) → s₁.heap.CodeRec cd d.name → mg d.name = some (.ref fa) →
      s₁.heap.get? a = some { cls := .type "list", data := .seq vs.toArray } → IntsAre vs ns → ns.length ≤ n → s₁.gens = #[] →
      codeAny (model l.prog w) callerA (.call (.ref fa) ⟨[.ref a], []⟩) (fun r s' => r = .ok (.ret (.bool true)) ∧ OldK s₁.heap s'.heap ∧ s'.os = s₁.os ∧ AllBare s'.gens) s₁) :
    WalkO q loose XP YP l.row.toRowW d [] (fun f vs => PySem.call f vs) := by
  intro w s₀ s₁ mg mb G Y fa o pm cd doc dV kV ho hd hcd hD hmg hg args vals as hpre hlay hrd hwl hlo
  obtain rfl : dV = .none := Dflts.none hD hdf
  obtain rfl : kV = .none := Dflts.noKw hD
  obtain ⟨a, vs, ns, rfl, rfl, hobj, hints, hlen⟩ := qhJ hn hpre hwl
  refine enter_call (codeAny_mono (call w s₀ s₁ mg mb fa o pm cd doc a vs ns G Y ho (fd_plain hd) hcd hmg hobj hints hlen hg) fun r s' hq => ?_)
  obtain ⟨rfl, h2, h3, h4⟩ := hq
  exact ⟨.inl ⟨.bool true, .bool true, [], rfl, fun _ => rfl, .bool true, qhK l _, fun _ => ⟨List.Pairwise.nil, fun _ hm => (nomatch hm)⟩⟩, h2, h3, h4⟩
section
variable {prog : Program} {w : World} {A : Around} {E : Value → Shared → Prop} {s : Shared} {K : Frag}
noncomputable def noObjs (h : Heap) : Heap := { h with objs := #[] }
theorem noObjs_get (h : Heap) (b : Addr) : (noObjs h).get? b = none := by
  cases e : (noObjs h).get? b with
  | none => rfl
  | some o => exact absurd (Heap.lt_size e) (Nat.not_lt_zero _)
noncomputable def ledger (h : Heap) (L d : Addr) : List (Addr × Obj) := (List.range h.objs.size).filterMap fun a => if a = L ∨ a = d then none else (h.get? a).map fun o => (a, o)
theorem mem_ledger {h : Heap} {L d a : Addr} {o : Obj} : (a, o) ∈ ledger h L d ↔ a ≠ L ∧ a ≠ d ∧ h.get? a = some o := by
  unfold ledger
  rw [List.mem_filterMap]
  constructor
  · rintro ⟨b, _, e⟩
    split at e
    · cases e
    · rename_i hb
      obtain ⟨o', ho, e'⟩ := Option.map_eq_some_iff.mp e
      cases e'
      exact ⟨fun q => hb (.inl q), fun q => hb (.inr q), ho⟩
  · rintro ⟨n1, n2, ho⟩
    refine ⟨a, List.mem_range.mpr (Heap.lt_size ho), ?_⟩
    rw [if_neg (show ¬ (a = L ∨ a = d) from fun q => q.elim n1 n2), ho] <;> rfl
theorem fr_all {h : Heap} {L : Addr} {m : Str → Option Value} (n : h.Ns L m) : Fr (noObjs h) L h m :=
  ⟨n, fun b o e => (by rw [noObjs_get] at e; cases e), Nat.zero_le _⟩
end
end Att
namespace L2
open PySem PySem.Spec PyProof.Rows
theorem qe9 : ∀ {vs : List Value} {ns : List Int}, IntsAre vs ns → Vals (ns.map V.int) vs
  | _, _, .nil => .nil
  | _, _, .cons n t h => .cons ⟨t, rfl⟩ (qe9 h)
end L2
namespace L2
open PySem PySem.Spec PyProof.Rows
end L2
namespace L2
open PySem PySem.Spec PyProof.Rows
noncomputable def qa2 (s : Stmt) : Arguments := match s with
  | .FunctionDef _ a _ _ _ _ _ _ _ _ => a
  | _ => { posonlyargs := [], args := [], vararg := none, kwonlyargs := [], kw_defaults := [], kwarg := none, defaults := [] }
noncomputable def qaL (s : Stmt) : List Stmt := match s with
  | .FunctionDef _ _ b _ _ _ _ _ _ _ => b
  | _ => []
noncomputable def qat (s : Stmt) : Scope := match s with
  | .FunctionDef _ _ _ _ _ _ sc _ _ _ => sc
  | _ => { kind := .function, names := [], isGenerator := false, isCoroutine := false }
noncomputable abbrev CX0 : CXT := fun _ _ _ _ _ _ => False
noncomputable abbrev E0 : XK := fun _ _ _ => False
theorem qnr {X : Cx} : Passes CX0 X E0 := fun _ _ _ _ _ _ _ h => h.elim
structure Fun (K : PySem.W.Frag) (x qual : Str) (st : Stmt) (f : Addr) (fd : FuncData) : Prop where
  ex : ∃ (oc : Value) (od : Option Addr) (kV doc pm : Value) (an : Option Addr) (cdv ct : Value) (osl : Array (Option Value)),
    fd = PySem.W.fnOf x qual (qa2 st) (qaL st) (qat st) .none kV doc pm an cdv ct ∧ K.lookup f = some ⟨oc, od, .func fd, osl⟩ ∧ PySem.W.codeIn K cdv qual = true
  kp : PySem.W.keepIn K (.ref f) = true
section
variable {P : Program} {w : World} {K : PySem.W.Frag} {mg : Str → Option Value} {base : Heap}
theorem Fun.ok {x qual : Str} {st : Stmt} {f : Addr} {fd : FuncData} {N ps : List Str} {k : Nat} {sp : Sp} (F : Fun K x qual st f fd) (S : FnScope N ps (qat st)) (len : ∀ vs H Q E, sp vs H Q E → vs.length = ps.length)
    (hbody : ∀ (cdv : Value) (A : Around) (outer : List Env) (s : Shared) (H : Hp) (vs : List V) (Q : VK) (E : XK), Room k (A.deeper (envOfC qual (qat st) s.heap.objs.size f cdv)) → sp vs H Q E →
      ∃ t, PSs (qjj CX0 P w K mg base N qual (qat st) f cdv A outer s H E).nox (qaL st) t ∧ t { nx := fun _ H' => Q .non H', rt := Q } (start N vs) H) : FnOk P w K mg base CX0 (k + 1) f fd ps sp := by
  obtain ⟨oc, od, kV, doc, pm, an, cdv, ct, osl, rfl, lk, hcd⟩ := F.ex
  refine qlX lk hcd S len fun A outer s H vs Q E hr hsp => ?_
  obtain ⟨t, h, q⟩ := hbody cdv A outer s H vs Q E hr hsp
  exact ⟨t, h.nox, q⟩
theorem Fun.binds {x qual : Str} {st : Stmt} {f : Addr} {fd : FuncData} {ps : List Str} (F : Fun K x qual st f fd)
    (h : ∀ (kV doc pm : Value) (an : Option Addr) (cdv ct : Value) (us : List Value), us.length = ps.length → bindArgs (PySem.W.fnOf x qual (qa2 st) (qaL st) (qat st) .none kV doc pm an cdv ct) ⟨us, []⟩ = pure (ps.zip us)) : Binds K fd ps [] := by
  obtain ⟨oc, od, kV, doc, pm, an, cdv, ct, osl, rfl, lk, hcd⟩ := F.ex
  exact .all (h kV doc pm an cdv ct)
theorem ql1 {x qual : Str} {st : Stmt} {f : Addr} {oc : Value} {od an : Option Addr} {osl : Array (Option Value)} {kV doc pm cdv ct : Value} (l : K.lookup f = some ⟨oc, od, .func (PySem.W.fnOf x qual (qa2 st) (qaL st) (qat st) .none kV doc pm an cdv ct), osl⟩)
    (c : PySem.W.codeIn K cdv qual = true) (k : PySem.W.keepIn K (.ref f) = true) : Fun K x qual st f (PySem.W.fnOf x qual (qa2 st) (qaL st) (qat st) .none kV doc pm an cdv ct) := ⟨⟨oc, od, kV, doc, pm, an, cdv, ct, osl, rfl, l, c⟩, k⟩
end
section
variable {X : Cx}
theorem pv (i : Nat) {x : Str} {pos : Pos} (hN : X.N[i]? = some x := by rfl) (hv : Vis X.env.scope x := by first | exact Or.inl rfl | exact Or.inr (Or.inl rfl) | exact Or.inr (Or.inr rfl)) (hd : (x == ("__debug__" : Str)) = false := by decide)
    (hcd : (x == ("__classdict__" : Str)) = false := by decide) : PE X (.Name x pos) (qai i) := qlR hN hv hd hcd
end
theorem qbJ {c A B : Prop} [Decidable c] (h1 : c → A) (h2 : ¬ c → B) : if c then A else B := by
  by_cases h : c
  · rw [if_pos h]
    exact h1 h
  · rw [if_neg h]
    exact h2 h
noncomputable def Same (H H' : Hp) : Prop := ∀ b o, H b = some o → H' b = some o
theorem Same.refl (H : Hp) : Same H H := fun _ _ h => h
theorem Same.trans {H H1 H2 : Hp} (a : Same H H1) (b : Same H1 H2) : Same H H2 := fun c o h => b c o (a c o h)
theorem Same.free {H H' : Hp} (e : Same H H') {l : Addr} (h : H' l = Option.none) : H l = Option.none := by
  cases q : H l with
  | none => rfl
  | some o =>
    rw [e l o q] at h
    cases h
theorem Same.seq {K : PySem.W.Frag} {H H' : Hp} {a : Addr} {xs : List V} (e : Same H H') (h : SqL K H a xs) : SqL K H' a xs := by
  rcases h with (h | ⟨o, h⟩) | h
  · exact .inl (.inl (e _ _ h))
  · exact .inl (.inr ⟨o, e _ _ h⟩)
  · exact .inr h
end L2
local macro_rules | `(tactic| omega) => `(tactic| lia)
namespace Bs.Hd
open PySem PySem.Spec PyProof.Rows L2
set_option maxRecDepth 100000
set_option maxHeartbeats 4000000
noncomputable def top (i:Nat):Stmt:=PySem.Challenge.pw_backslope_k97_logarithms_near_nought.main.body.getD i (.Pass ⟨0,0,0,0⟩)
noncomputable abbrev qcZ:Stmt:=top 1
noncomputable abbrev qkL:Stmt:=top 3
noncomputable abbrev ql2:Stmt:=top 4
noncomputable abbrev qkM:Stmt:=top 5
noncomputable abbrev qkN:Stmt:=top 6
noncomputable abbrev qjo:Stmt:=top 7
noncomputable abbrev qaA:Stmt:=top 10
noncomputable abbrev qc0:Stmt:=top 11
noncomputable abbrev qdj:Stmt:=top 12
noncomputable abbrev qjp:Stmt:=top 13
noncomputable abbrev qgK:Stmt:=top 14
noncomputable abbrev qhL:Stmt:=top 15
noncomputable abbrev ql3:Stmt:=top 16
noncomputable abbrev qhM:Stmt:=top 17
noncomputable abbrev qgL:Stmt:=top 18
noncomputable abbrev qew:Stmt:=top 19
noncomputable abbrev ql4:Stmt:=top 21
noncomputable abbrev qjq:Stmt:=top 22
noncomputable abbrev qgM:Stmt:=top 23
noncomputable abbrev qjr:Stmt:=top 24
noncomputable abbrev qhN:Stmt:=top 25
noncomputable abbrev qex:Stmt:=top 26
noncomputable abbrev qey:Stmt:=top 27
noncomputable abbrev qns:Stmt:=top 28
noncomputable abbrev qhO:Stmt:=top 29
noncomputable abbrev qhP:Stmt:=top 30
noncomputable abbrev qjs:Stmt:=top 31
noncomputable abbrev qhQ:Stmt:=top 32
noncomputable abbrev N:Value:=.none
noncomputable abbrev S (x:Str) (t:Tok):Value:=.str x t
noncomputable abbrev I (i:Int):Value:=.int i 0
noncomputable abbrev R (a:Addr):Value:=.ref a
noncomputable def en (P:Params) (k:Str) (t:Tok) (v:Value):DictEntry:=⟨PyData.keyHash P k,.str k t,v⟩
noncomputable def cdO (n:Str) (t:Tok) (l c u:Int) (a:Addr) (b g d e f:Value) (x:Int) (y:Tok):Obj:=⟨.type "code", none,.fields #[S n t,S n (t+1),S "/claim/cut.py" (t+2),I l,I c,I 0,I 0,I u,R a,.bool true,I 181,b,g,d,e,f,I x,I l,S "/claim/cut.py" y],#[]⟩
noncomputable def fnO (n:Str) (s:Stmt) (pm:Value) (c:Addr):Obj:=⟨.type "function", none,.func (PySem.W.fnOf n n (qa2 s) (qaL s) (qat s) .none .none .none pm none (.ref c) .none),#[]⟩
noncomputable abbrev mo0:Value:=S "backslope.wholes" 187
noncomputable abbrev mo1:Value:=S "backslope.numbers" 198
noncomputable abbrev mo2:Value:=S "backslope.lognumbers" 241
noncomputable abbrev mo3:Value:=S "law_backslope_k97_logarithms_near_nought" 332
noncomputable def hp (P:Params):W.Frag:=[
  (3,⟨.type "dict", none,.dict #[en P "__name__" 165 (S "law_backslope_k97_logarithms_near_nought" 332),en P "__doc__" 166 N,en P "__package__" 167 N,en P "__loader__" 168 (.builtin "__main__.__loader__#opaque"),en P "__spec__" 169 N,en P "__annotations__" 170 (R 6),en P "__builtins__" 171 (R 4),en P "__file__" 173 (S "/claim/cut.py" 172),en P "__cached__" 174 N,en P "common_divisor" 197 (R 21),en P "ratio" 208 (R 28),en P "plus" 216 (R 35),en P "minus" 224 (R 42),en P "times" 232 (R 49),en P "before" 240 (R 56),en P "FIRST_BITS" 244 (.int 64 243),en P "settled_number" 250 (R 61),en P "without_common" 256 (R 66),en P "pieces_of_two" 265 (R 73),en P "n_plus" 273 (R 80),en P "n_scaled" 279 (R 85),en P "sign_of" 289 (R 92),en P "held" 300 (R 99),en P "ends_of" 306 (R 104),en P "log_ends" 318 (R 111),en P "series_ends" 331 (R 118),en P "_law_at" 341 (R 125),en P "_law_draw" 351 (R 132),en P "_law_number" 361 (R 139),en P "_law_plus" 369 (R 146),en P "_law_times" 377 (R 153),en P "_law_not_above" 385 (R 160),en P "_law_is_number" 393 (R 167),en P "_law_c" 401 (R 174),en P "_law_whole" 411 (R 181),en P "_law_signs" 417 (R 186),en P "_law_held" 430 (R 193),en P "law" 441 (R 200)] 38,#[]⟩),
  (20,cdO "common_divisor" 189 2 2 3 15 (R 16) N (R 17) (R 18) (R 19) 195 196),
  (21,fnO "common_divisor" (top 1) mo0 20),
  (27,cdO "ratio" 200 9 2 3 22 (R 23) N (R 24) (R 25) (R 26) 206 207),
  (28,fnO "ratio" (top 3) mo1 27),
  (34,cdO "plus" 209 14 2 3 29 (R 30) N (R 31) (R 32) (R 33) 214 215),
  (35,fnO "plus" (top 4) mo1 34),
  (41,cdO "minus" 217 16 2 3 36 (R 37) N (R 38) (R 39) (R 40) 222 223),
  (42,fnO "minus" (top 5) mo1 41),
  (48,cdO "times" 225 18 2 3 43 (R 44) N (R 45) (R 46) (R 47) 230 231),
  (49,fnO "times" (top 6) mo1 48),
  (55,cdO "before" 233 20 2 3 50 (R 51) N (R 52) (R 53) (R 54) 238 239),
  (56,fnO "before" (top 7) mo1 55),
  (60,cdO "settled_number" 245 24 2 3 57 (R 58) N N N (R 59) 248 249),
  (61,fnO "settled_number" (top 10) mo2 60),
  (65,cdO "without_common" 251 28 1 3 62 (R 63) N N N (R 64) 254 255),
  (66,fnO "without_common" (top 11) mo2 65),
  (72,cdO "pieces_of_two" 257 41 2 3 67 (R 68) N (R 69) (R 70) (R 71) 263 264),
  (73,fnO "pieces_of_two" (top 12) mo2 72),
  (79,cdO "n_plus" 266 44 2 3 74 (R 75) N (R 76) (R 77) (R 78) 271 272),
  (80,fnO "n_plus" (top 13) mo2 79),
  (84,cdO "n_scaled" 274 46 2 3 81 (R 82) N N N (R 83) 277 278),
  (85,fnO "n_scaled" (top 14) mo2 84),
  (91,cdO "sign_of" 280 48 1 3 86 (R 87) N (R 88) (R 89) (R 90) 287 288),
  (92,fnO "sign_of" (top 15) mo2 91),
  (98,cdO "held" 290 58 2 3 93 (R 94) N (R 95) (R 96) (R 97) 298 299),
  (99,fnO "held" (top 16) mo2 98),
  (103,cdO "ends_of" 301 66 2 3 100 (R 101) N N N (R 102) 304 305),
  (104,fnO "ends_of" (top 17) mo2 103),
  (110,cdO "log_ends" 307 76 2 3 105 (R 106) N (R 107) (R 108) (R 109) 316 317),
  (111,fnO "log_ends" (top 18) mo2 110),
  (117,cdO "series_ends" 319 82 3 3 112 (R 113) N (R 114) (R 115) (R 116) 329 330),
  (118,fnO "series_ends" (top 19) mo2 117),
  (124,cdO "_law_at" 334 93 2 3 119 (R 120) N (R 121) (R 122) (R 123) 339 340),
  (125,fnO "_law_at" (top 21) mo3 124),
  (131,cdO "_law_draw" 342 97 3 3 126 (R 127) N (R 128) (R 129) (R 130) 349 350),
  (132,fnO "_law_draw" (top 22) mo3 131),
  (138,cdO "_law_number" 352 102 2 3 133 (R 134) N (R 135) (R 136) (R 137) 359 360),
  (139,fnO "_law_number" (top 23) mo3 138),
  (145,cdO "_law_plus" 362 109 2 3 140 (R 141) N (R 142) (R 143) (R 144) 367 368),
  (146,fnO "_law_plus" (top 24) mo3 145),
  (152,cdO "_law_times" 370 111 2 3 147 (R 148) N (R 149) (R 150) (R 151) 375 376),
  (153,fnO "_law_times" (top 25) mo3 152),
  (159,cdO "_law_not_above" 378 113 2 3 154 (R 155) N (R 156) (R 157) (R 158) 383 384),
  (160,fnO "_law_not_above" (top 26) mo3 159),
  (166,cdO "_law_is_number" 386 115 1 3 161 (R 162) N (R 163) (R 164) (R 165) 391 392),
  (167,fnO "_law_is_number" (top 27) mo3 166),
  (173,cdO "_law_c" 394 122 1 3 168 (R 169) N (R 170) (R 171) (R 172) 399 400),
  (174,fnO "_law_c" (top 28) mo3 173),
  (180,cdO "_law_whole" 402 127 2 3 175 (R 176) N (R 177) (R 178) (R 179) 409 410),
  (181,fnO "_law_whole" (top 29) mo3 180),
  (185,cdO "_law_signs" 412 132 2 3 182 (R 183) N N N (R 184) 415 416),
  (186,fnO "_law_signs" (top 30) mo3 185),
  (192,cdO "_law_held" 418 142 3 3 187 (R 188) N (R 189) (R 190) (R 191) 428 429),
  (193,fnO "_law_held" (top 31) mo3 192),
  (199,cdO "law" 431 155 1 3 194 (R 195) N (R 196) (R 197) (R 198) 439 440),
  (200,fnO "law" (top 32) mo3 199),
  (4,⟨.type "module", some builtinsNs,.plain,#[]⟩)]
noncomputable def as:List Addr:=[3,20,21,27,28,34,35,41,42,48,49,55,56,60,61,65,66,72,73,79,80,84,85,91,92,98,99,103,104,110,111,117,118,124,125,131,132,138,139,145,146,152,153,159,160,166,167,173,174,180,181,185,186,192,193,199,200,4]
noncomputable def vw:Program:=PySem.W.view PySem.Challenge.pw_backslope_k97_logarithms_near_nought [1,3,4,5,6,7,9,10,11,12,13,14,15,16,17,18,19,21,22,23,24,25,26,27,28,29,30,31,32]
noncomputable def hk:PySem.W.Hook:=PySem.W.kmHook hp as (fun _=>by kernel_rfl) [58]
theorem left:PySem.W.LeftO PySem.Challenge.pw_backslope_k97_logarithms_near_nought vw [] (fun s=>PySem.W.xlAt vw [] s && PySem.W.recOk (PySem.W.RowW.records (PySem.W.OpenRow.toRowW (PySem.W.OpenLaw.row PySem.Challenge.rw_backslope_k97_logarithms_near_nought))) s) hk.obs hk.val 1918:=fun w=>by kernel_rfl
end Bs.Hd
namespace Bs
noncomputable def Bd (n:Nat) (x:Int):Prop:=x.natAbs<2 ^ n
theorem Bd.mono {m n:Nat} {x:Int} (h:Bd m x) (hn:m≤n):Bd n x:=Nat.lt_of_lt_of_le h (Nat.pow_le_pow_right (by decide) hn)
theorem Bd.le {n:Nat} {x y:Int} (h:Bd n x) (hy:y.natAbs≤x.natAbs):Bd n y:=Nat.lt_of_le_of_lt hy h
theorem Bd.neg {n:Nat} {x:Int} (h:Bd n x):Bd n (-x):=by unfold Bd at *;rw [Int.natAbs_neg];exact h
theorem Bd.add {n:Nat} {x y:Int} (h:Bd n x) (h':Bd n y):Bd (n+1) (x+y):=by
  unfold Bd at *
  have:=Int.natAbs_add_le x y
  rw [Nat.pow_succ]
  omega
theorem Bd.sub {n:Nat} {x y:Int} (h:Bd n x) (h':Bd n y):Bd (n+1) (x - y):=by
  rw [Int.sub_eq_add_neg];exact h.add h'.neg
theorem Bd.mul {m n:Nat} {x y:Int} (h:Bd m x) (h':Bd n y):Bd (m+n) (x*y):=by
  unfold Bd at *
  rw [Int.natAbs_mul,Nat.pow_add]
  exact Nat.mul_lt_mul'' h h'
theorem Bd.log2 {n:Nat} {x:Int} (h:Bd n x) (hn:0<n):x.natAbs.log2<n:=by
  unfold Bd at h
  rcases Nat.eq_zero_or_pos x.natAbs with h0 | hp
  · rw [h0];simpa using hn
  · exact (Nat.log2_lt (Nat.ne_of_gt hp)).mpr h
structure Low (t d:Int):Prop where
  pos:0<d
  one:Int.gcd t d=1
theorem qf6 (a b:Int):Int.gcd b (a.fmod b)=Int.gcd a b:=by
  have e:a.fmod b=a - b*a.fdiv b:=Int.fmod_def a b
  rw [e]
  apply Nat.dvd_antisymm
  · apply Int.dvd_gcd
    · have h1:=Int.gcd_dvd_left b (a - b*a.fdiv b)
      have h2:=Int.gcd_dvd_right b (a - b*a.fdiv b)
      have h3:=Int.dvd_add h2 (Int.dvd_mul_of_dvd_left (c:=a.fdiv b) h1)
      rw [Int.sub_add_cancel] at h3
      exact h3
    · exact Int.gcd_dvd_left b _
  · apply Int.dvd_gcd
    · exact Int.gcd_dvd_right a b
    · exact Int.dvd_sub (Int.gcd_dvd_left a b) (Int.dvd_mul_of_dvd_left (Int.gcd_dvd_right a b))
theorem qjt (a:Int) {b:Int} (h:0≤b):Int.gcd b (a % b)=Int.gcd a b:=by
  rw [← Int.fmod_eq_emod_of_nonneg a h,qf6]
theorem qhR (a:Int) {b:Int} (h:b≠0):(a.fmod b).natAbs<b.natAbs:=by
  rcases Int.lt_or_gt_of_ne h with hb | hb
  · rw [Int.fmod_eq_emod]
    have h1:=Int.emod_nonneg a h
    have h2:=Int.emod_lt a h
    split
    · rename_i h'
      rcases h' with h' | h'
      · omega
      · have:a % b=0:=Int.emod_eq_zero_of_dvd h'
        omega
    · rename_i h'
      have:a % b≠0:=fun z=>h' (.inr (Int.dvd_of_emod_eq_zero z))
      omega
  · rw [Int.fmod_eq_emod_of_nonneg a (Int.le_of_lt hb)]
    have h1:=Int.emod_nonneg a h
    have h2:=Int.emod_lt_of_pos a hb
    omega
theorem qb2 {a b s:Int} (hb:b≠0) (hs:s=if b<0 then -((Int.gcd a b:Nat):Int) else ((Int.gcd a b:Nat):Int)) :
    s≠0∧s.natAbs≤b.natAbs∧Low (a.fdiv s) (b.fdiv s)∧a.fdiv s*b=a*b.fdiv s∧(a.fdiv s).natAbs≤a.natAbs∧(b.fdiv s).natAbs≤b.natAbs:=by
  have g0:0<Int.gcd a b:=Int.gcd_pos_of_ne_zero_right a hb
  have sn:s.natAbs=Int.gcd a b:=by rw [hs];split <;> simp
  have s0:s≠0:=by intro z;rw [z] at sn;simp at sn;omega
  have da:s∣a:=by
    rw [← Int.natAbs_dvd,sn];exact Int.gcd_dvd_left a b
  have db:s∣b:=by
    rw [← Int.natAbs_dvd,sn];exact Int.gcd_dvd_right a b
  obtain ⟨t,rfl⟩:=da
  obtain ⟨d,rfl⟩:=db
  rw [Int.mul_fdiv_cancel_left _ s0,Int.mul_fdiv_cancel_left _ s0]
  have d0:d≠0:=by rintro rfl;simp at hb
  have sp:1≤s.natAbs:=by omega
  have gd:Int.gcd t d=1:=by
    rw [Int.gcd_mul_left] at sn
    have h2:s.natAbs*Int.gcd t d=s.natAbs*1:=by omega
    exact Nat.eq_of_mul_eq_mul_left sp h2
  have dp:0<d:=by
    by_cases h:s*d<0
    · rw [if_pos h] at hs
      have sneg:s<0:=by omega
      rcases Int.lt_or_gt_of_ne d0 with h' | h'
      · have:=Int.mul_pos_of_neg_of_neg sneg h';omega
      · exact h'
    · rw [if_neg h] at hs
      have spos:0<s:=by omega
      rcases Int.lt_or_gt_of_ne d0 with h' | h'
      · have:=Int.mul_neg_of_pos_of_neg spos h';omega
      · exact h'
  have le1:∀ y:Int,y.natAbs≤(s*y).natAbs:=fun y=>by
    rw [Int.natAbs_mul];exact Nat.le_mul_of_pos_left _ sp
  refine ⟨s0,?_,⟨dp,gd⟩,?_,le1 t,le1 d⟩
  · rw [Int.natAbs_mul];exact Nat.le_mul_of_pos_right _ (by omega)
  · grind
theorem qfE {a b:Int} (hb:0<b):Low (a / ((Int.gcd a b:Nat):Int)) (b / ((Int.gcd a b:Nat):Int))∧(a / ((Int.gcd a b:Nat):Int)).natAbs≤a.natAbs∧(b / ((Int.gcd a b:Nat):Int)).natAbs≤b.natAbs∧0<((Int.gcd a b:Nat):Int)∧((Int.gcd a b:Nat):Int)≤b:=by
  have g0:0<Int.gcd a b:=Int.gcd_pos_of_ne_zero_right a (by omega)
  obtain ⟨_,h1,h2,h3,h4,h5⟩:=qb2 (a:=a) (b:=b) (s:=((Int.gcd a b:Nat):Int)) (by omega) (by rw [if_neg (by omega)])
  rw [Int.fdiv_eq_ediv_of_nonneg _ (by omega),Int.fdiv_eq_ediv_of_nonneg _ (by omega)] at h2
  rw [Int.fdiv_eq_ediv_of_nonneg _ (by omega)] at h4 h5
  exact ⟨h2,h4,h5,by omega,by omega⟩
end Bs
namespace Bs
open PySem L2
noncomputable def qok (_ j:Int):Prop:=0<j∧Bd 9000 j
noncomputable def qol (_ j:Int):Prop:=j≠0∧Bd 9000 j
noncomputable def qnt (i j:Int):Prop:=0≤j∧j≤1000000∧i.natAbs<2 ^ 64
noncomputable abbrev qc6:R2:=rI0 fun i j=>.int (i+j)
noncomputable abbrev ql5:R2:=rI0 fun i j=>.int (i - j)
noncomputable abbrev qbK:R2:=rI IntMulOk fun i j=>.int (i*j)
noncomputable abbrev qkO:R2:=rI qok fun i j=>.int (i / j)
noncomputable abbrev qnu:R2:=rI qol fun i j=>.int (i.fdiv j)
noncomputable abbrev qja:R2:=rI (fun _ j=>0<j) fun i j=>.int (i % j)
noncomputable abbrev ql6:R2:=rI (fun _ j=>j≠0) fun i j=>.int (i.fmod j)
noncomputable abbrev qnf:R2:=rI qnt fun i j=>.int (i ^ j.toNat)
noncomputable abbrev iLt:R2:=rI0 fun i j=>.bl (decide (i<j))
noncomputable abbrev iLe:R2:=rI0 fun i j=>.bl (decide (i≤j))
noncomputable abbrev iGt:R2:=rI0 fun i j=>.bl (decide (j<i))
noncomputable abbrev iGe:R2:=rI0 fun i j=>.bl (decide (j≤i))
noncomputable abbrev qhg:V→Hp→VK→Prop:=rU fun i=>.int (-i)
noncomputable def gT:R2:=fun x y H Q=>∃ p i xs v,x=.ref p∧y=.int i∧H p=some (.tup xs)∧atI xs i=some v∧Q v H
noncomputable def gL:R2:=fun x y H Q=>∃ p i xs v,x=.ref p∧y=.int i∧H p=some (.lst xs)∧atI xs i=some v∧Q v H
noncomputable def gS (K:W.Frag):R2:=fun x y H Q=>∃ p i xs v,x=.ref p∧y=.int i∧SqL K H p xs∧atI xs i=some v∧Q v H
noncomputable def ql7:List V→Hp→VK→Prop:=fun xs H Q=>∃ i,xs=[.int i]∧Q (.int (if i<0 then -i else i)) H
noncomputable def qom:List V→Hp→VK→Prop:=fun xs H Q=>∃ i j,xs=[.int i,.int j]∧Q (.int (if j > i then j else i)) H
noncomputable def qon:List V→Hp→VK→Prop:=fun xs H Q=>∃ i j,xs=[.int i,.int j]∧Q (.int (if j<i then j else i)) H
noncomputable def qju:List V→Hp→VK→Prop:=fun xs H Q=>∃ k,xs=[.bl k]∧Q (.int (if k=true then 1 else 0)) H
noncomputable def qjv:List V→Hp→VK→Prop:=fun xs H Q=>∃ p ys,xs=[.ref p]∧H p=some (.tup ys)∧Q (.int ys.length) H
noncomputable def qnv:List V→Hp→VK→Prop:=fun xs H Q=>∃ p ys,xs=[.ref p]∧H p=some (.lst ys)∧Q (.int ys.length) H
noncomputable def qkP (K:W.Frag):List V→Hp→VK→Prop:=fun xs H Q=>∃ p ys,xs=[.ref p]∧SqL K H p ys∧Q (.int ys.length) H
noncomputable def ql8:Option HO→String→Option Bool
  | some (.tup _),n=>if n = "tuple" then some true else if n = "bool" ∨ n = "int" ∨ n = "list" then some false else none
  | some (.lst _),n=>if n = "list" then some true else if n = "bool" ∨ n = "int" ∨ n = "tuple" then some false else none
  | _,_=>none
noncomputable def qkf (H:Hp):V→String→Option Bool
  | .int _,n=>if n = "int" then some true else if n = "bool" ∨ n = "tuple" ∨ n = "list" then some false else none
  | .bl _,n=>if n = "int" ∨ n = "bool" then some true else if n = "tuple" ∨ n = "list" then some false else none
  | .ref p,n=>ql8 (H p) n
  | _,_=>none
noncomputable def qkQ:List V→Hp→VK→Prop:=fun xs H Q=>∃ x n b,xs=[x,.ty n]∧qkf H x n=some b∧Q (.bl b) H
theorem qkR (H:Hp) (i:Int):qkf H (.int i) "int" = some true:=rfl
theorem qfa (H:Hp) (i:Int):qkf H (.int i) "bool" = some false:=rfl
theorem ql9 (H:Hp) (b:Bool):qkf H (.bl b) "bool" = some true:=rfl
theorem qhS {H:Hp} {p:Addr} {xs:List V} (h:H p=some (.tup xs)):qkf H (.ref p) "tuple" = some true:=by
  show ql8 (H p) "tuple" = _
  rw [h];rfl
noncomputable def qma:V→Bool
  | .int _=>true
  | _=>false
noncomputable def eqJ (xs ys:List V) (j:Nat):Bool:=match xs[j]?,ys[j]? with
  | some (.int a),some (.int b)=>a == b
  | _,_=>false
theorem qdk {xs:List V} {j:Nat} (h:xs.all qma=true) (hj:j<xs.length):∃ a,xs[j]?=some (.int a):=by
  have m:=List.all_eq_true.mp h xs[j] (List.getElem_mem hj)
  rw [List.getElem?_eq_getElem hj]
  generalize xs[j]=v at m
  cases v with
  | int a=>exact ⟨a,rfl⟩
  | _=>exact absurd m Bool.false_ne_true
theorem qkS {xs ys:List V} (hx:xs.all qma=true) (hy:ys.all qma=true):((List.range (min xs.length ys.length)).all (eqJ xs ys) && xs.length == ys.length)=decide (xs=ys):=by
  rw [Bool.eq_iff_iff]
  simp only [Bool.and_eq_true,List.all_eq_true,List.mem_range,beq_iff_eq,decide_eq_true_eq]
  constructor
  · rintro ⟨h1,h2⟩
    apply List.ext_getElem?
    intro j
    by_cases hj:j<xs.length
    · obtain ⟨a,ea⟩:=qdk hx hj
      obtain ⟨b,eb⟩:=qdk hy (by omega:j<ys.length)
      have h:=h1 j (by omega)
      unfold eqJ at h
      rw [ea,eb] at h
      rw [ea,eb,eq_of_beq h]
    · rw [List.getElem?_eq_none (by omega),List.getElem?_eq_none (by omega)]
  · rintro rfl
    refine ⟨fun j hj=>?_,rfl⟩
    obtain ⟨a,ea⟩:=qdk hx (by omega:j<xs.length)
    unfold eqJ
    rw [ea]
    exact beq_self_eq_true a
noncomputable def eqT:R2:=fun x y H Q=>∃ a b xs ys,x=.ref a∧y=.ref b∧H a=some (.tup xs)∧H b=some (.tup ys)∧xs.all qma=true∧ys.all qma=true∧Q (.bl (decide (xs=ys))) H
noncomputable def ForR (lo:Int) (n:Nat) (g:TG) (tb:TS) (D:Ends) (σ:St) (H:Hp):Prop:=∃ W:Nat→Nat→St→Hp→Prop,(∃ m,W 0 m σ H)∧∀ i m σ H,W i m σ H→
  ((Itr lo n).stop i H∧D.nx σ H)∨((Itr lo n).go i H∧∃ N:St→Hp→Prop,(∀ σ' H',N σ' H'→∃ m',m'<m∧W (i+1) m' σ' H')∧∀ x H',(Itr lo n).yld i H x H'→g x σ H' fun σ2 H2=>tb { D with nx:=N,ct:=N,bk:=D.nx } σ2 H2)
theorem qkT {ta:TA} {g:TG} {tb:TS} {D:Ends} {σ:St} {H:Hp}:qfy (qhr ta) g tb D σ H=ta σ H (fun vs H1=>∃ j:Int,vs=[.int j]∧-(2 ^ 62)≤j∧j<2 ^ 62∧ForR 0 j.toNat g tb D σ H1):=rfl
theorem qkU {ta:TA} {g:TG} {tb:TS} {D:Ends} {σ:St} {H:Hp}:qfy (qlU ta) g tb D σ H=ta σ H (fun vs H1=>∃ i j:Int,vs=[.int i,.int j]∧(-(2 ^ 62)≤i∧i<2 ^ 62∧-(2 ^ 62)≤j∧j<2 ^ 62)∧ForR i (j - i).toNat g tb D σ H1):=rfl
theorem ForR.by {lo:Int} {n:Nat} {g:TG} {tb:TS} {D:Ends} {σ:St} {H:Hp} (Pv:Nat→St→Hp→Prop) (h0:Pv 0 σ H)
    (hs:∀ i σ H,i<n→Pv i σ H→g (.int (lo+i)) σ H fun σ2 H2=>tb { D with nx:=Pv (i+1),ct:=Pv (i+1),bk:=D.nx } σ2 H2) (hd:∀ σ H,Pv n σ H→D.nx σ H):ForR lo n g tb D σ H:=qht Pv h0 hs hd
noncomputable def ForT (K:W.Frag) (a:Addr) (g:TG) (tb:TS) (D:Ends) (σ:St) (H:Hp):Prop:=∃ W:Nat→Nat→St→Hp→Prop,(∃ m,W 0 m σ H)∧∀ i m σ H,W i m σ H→
  ((Itt K a).stop i H∧D.nx σ H)∨((Itt K a).go i H∧∃ N:St→Hp→Prop,(∀ σ' H',N σ' H'→∃ m',m'<m∧W (i+1) m' σ' H')∧∀ x H',(Itt K a).yld i H x H'→g x σ H' fun σ2 H2=>tb { D with nx:=N,ct:=N,bk:=D.nx } σ2 H2)
noncomputable def ForL (K:W.Frag) (a:Addr) (g:TG) (tb:TS) (D:Ends) (σ:St) (H:Hp):Prop:=∃ W:Nat→Nat→St→Hp→Prop,(∃ m,W 0 m σ H)∧∀ i m σ H,W i m σ H→
  ((Itl K a).stop i H∧D.nx σ H)∨((Itl K a).go i H∧∃ N:St→Hp→Prop,(∀ σ' H',N σ' H'→∃ m',m'<m∧W (i+1) m' σ' H')∧∀ x H',(Itl K a).yld i H x H'→g x σ H' fun σ2 H2=>tb { D with nx:=N,ct:=N,bk:=D.nx } σ2 H2)
theorem qmb {K:W.Frag} {tl:TE} {g:TG} {tb:TS} {D:Ends} {σ:St} {H:Hp}:qfy (qjd K tl) g tb D σ H=tl σ H (fun x H1=>∃ a,x=.ref a∧(∃ xs,SqT K H1 a xs)∧ForT K a g tb D σ H1):=rfl
theorem qmc {K:W.Frag} {tl:TE} {g:TG} {tb:TS} {D:Ends} {σ:St} {H:Hp}:qfy (qdf K tl) g tb D σ H=tl σ H (fun x H1=>∃ a,x=.ref a∧(∃ xs,SqL K H1 a xs)∧ForL K a g tb D σ H1):=rfl
theorem ForT.by {K:W.Frag} {a:Addr} {xs:List V} {g:TG} {tb:TS} {D:Ends} {σ:St} {H:Hp} (Pv:Nat→St→Hp→Prop) (h0:Pv 0 σ H) (hl:∀ i σ H,i≤xs.length→Pv i σ H→H a=some (.tup xs))
    (hs:∀ i x σ H,xs[i]?=some x→Pv i σ H→g x σ H fun σ2 H2=>tb { D with nx:=Pv (i+1),ct:=Pv (i+1),bk:=D.nx } σ2 H2) (hd:∀ σ H,Pv xs.length σ H→D.nx σ H):ForT K a g tb D σ H:=
  qkz Pv h0 (fun i σ H h p=>SqT.of (hl i σ H h p)) hs hd
theorem ForL.by {K:W.Frag} {a:Addr} {xs:List V} {g:TG} {tb:TS} {D:Ends} {σ:St} {H:Hp} (Pv:Nat→St→Hp→Prop) (h0:Pv 0 σ H) (hl:∀ i σ H,i≤xs.length→Pv i σ H→SqL K H a xs)
    (hs:∀ i x σ H,xs[i]?=some x→Pv i σ H→g x σ H fun σ2 H2=>tb { D with nx:=Pv (i+1),ct:=Pv (i+1),bk:=D.nx } σ2 H2) (hd:∀ σ H,Pv xs.length σ H→D.nx σ H):ForL K a g tb D σ H:=
  qjf Pv h0 hl hs hd
theorem while_by {c:TT} {tb:TS} {D:Ends} {σ:St} {H:Hp} (W:Nat→St→Hp→Prop) (m:Nat) (h0:W m σ H)
    (hs:∀ m σ H,W m σ H→c σ H fun b H1=>if b=true then ∃ N:St→Hp→Prop,(∀ σ' H',N σ' H'→∃ m',m'<m∧W m' σ' H')∧tb { D with nx:=N,ct:=N,bk:=D.nx } σ H1 else D.nx σ H1):qco c tb D σ H:=⟨W,⟨m,h0⟩,hs⟩
noncomputable def Kp (p:Addr) (H H':Hp):Prop:=∀ b o,b≠p→H b=some o→H' b=some o
theorem Kp.trans {p:Addr} {H H1 H2:Hp} (a:Kp p H H1) (b:Kp p H1 H2):Kp p H H2:=fun c o n h=>b c o n (a c o n h)
theorem Kp.same {p:Addr} {H H1 H2:Hp} (a:Kp p H H1) (b:Same H1 H2):Kp p H H2:=fun c o n h=>b c o (a c o n h)
theorem Kp.upd {p:Addr} {H:Hp} {o:HO}:Kp p H (upd H p o):=fun b u n h=>by rw [qal n];exact h
theorem qag {H:Hp} {p:Addr} (h:H p=none) (o:HO):Same H (upd H p o):=fun b u q=>by rw [qal (qak q h)];exact q
theorem Kp.new {p:Addr} {H H1:Hp} (a:Kp p H H1) (h:H p=none):Same H H1:=fun b o q=>a b o (qak q h) q
theorem Kp.seq {K:W.Frag} {p:Addr} {H H':Hp} {a:Addr} {xs:List V} (e:Kp p H H') (n:a≠p) (h:SqL K H a xs):SqL K H' a xs:=by
  rcases h with (h | ⟨o,h⟩) | h
  · exact .inl (.inl (e _ _ n h))
  · exact .inl (.inr ⟨o,e _ _ n h⟩)
  · exact .inr h
theorem sz {n:Nat} (h:n≤1000000):n≤sizeLine:=by rw [sizeLine_eq];omega
end Bs
namespace Bs
open PySem L2
theorem qjw {α:Type} (a b:α):atI [a,b] 0=some a:=rfl
theorem qjx {α:Type} (a b:α):atI [a,b] 1=some b:=rfl
theorem qgN {α:Type} (a b c:α):atI [a,b,c] 0=some a:=rfl
theorem qgO {α:Type} (a b c:α):atI [a,b,c] 1=some b:=rfl
theorem qgP {α:Type} (a b c:α):atI [a,b,c] 2=some c:=rfl
theorem qkV (a b:Int):scal (.int a) (.int b)=true:=rfl
theorem qkW (a b:Bool):scal (.bl a) (.bl b)=true:=rfl
theorem qgQ:ixN 3 0=some 0:=rfl
theorem qgR:ixN 3 2=some 2:=rfl
end Bs
namespace Bs
open PySem PySem.Spec PyProof.Rows L2
theorem qhT:bootBuiltins "abs" = some (.builtin "abs"):=by decide +kernel
theorem qhU:bootBuiltins "len" = some (.builtin "len"):=by decide +kernel
theorem qa3:bootBuiltins "isinstance" = some (.builtin "isinstance"):=by decide +kernel
theorem qhV:bootBuiltins "int" = some (.type "int"):=by decide +kernel
theorem qhW:bootBuiltins "bool" = some (.type "bool"):=by decide +kernel
theorem qez:bootBuiltins "tuple" = some (.type "tuple"):=by decide +kernel
theorem qcF:bootBuiltins "list" = some (.type "list"):=by decide +kernel
theorem qfb:bootBuiltins "enumerate" = some (.type "enumerate"):=by decide +kernel
section
variable {X:Cx}
theorem qhX {n:Nat} {x:Int} (h:Bd n x):Builtin.Int.intBits x≤n:=by
  unfold Builtin.Int.intBits
  split
  · exact Nat.zero_le _
  · rename_i h0
    have hn:x.natAbs≠0:=fun z=>h0 (by have e:x=0:=by omega
                                      subst e;rfl)
    have:=(Nat.log2_lt hn).mpr h
    omega
theorem qau:OpR X (binaryOp .Mult) qbK:=opI fun _ _ _ _ _ _ _ hc q=>mul_int q hc
theorem qf7:OpR X (inplaceOp .Mult) qbK:=opI fun _ _ _ _ _ _ _ hc q=>imul_int q hc
theorem qjy:OpR X (binaryOp .FloorDiv) qkO:=opI fun i j _ _ _ _ _ hc q=>by
  refine floordiv_int (Int.ne_of_gt hc.1) ?_ (.inl (PyProof.noPylong_of_log2 (hc.2.log2 (by decide))))
  rw [Int.fdiv_eq_ediv_of_nonneg i (Int.le_of_lt hc.1)]
  exact q
theorem qhY:OpR X (binaryOp .Pow) qnf:=opI fun _ _ _ _ _ _ _ hc q=>pow_int_small hc.1 hc.2.1 hc.2.2 q
theorem qaf:IxR X gT:=by
  intro value slice pins s σ H x y v u Q I rx ry h hs
  obtain ⟨p,i,xs,w,e1,e2,hp,ha,q⟩:=h
  exact qlY value slice pins s σ H x y v u Q I rx ry ⟨p,xs,i,w,e1,e2,SqT.of hp,ha,q⟩ hs
theorem qcG:IxR X gL:=by
  intro value slice pins s σ H x y v u Q I rx ry h hs
  obtain ⟨p,i,xs,w,e1,e2,hp,ha,q⟩:=h
  exact qhF value slice pins s σ H x y v u Q I rx ry ⟨p,xs,i,w,e1,e2,SqL.of hp,ha,q⟩ hs
theorem qhZ:IxR X (gS X.K):=by
  intro value slice pins s σ H x y v u Q I rx ry h hs
  obtain ⟨p,i,xs,w,e1,e2,hp,ha,q⟩:=h
  exact qhF value slice pins s σ H x y v u Q I rx ry ⟨p,xs,i,w,e1,e2,hp,ha,q⟩ hs
theorem qdl:qca X (.builtin "abs") ql7:=qji
theorem qfc:qca X (.type "int") qju:=fun pins s σ H xs us Q I r h=>qhz pins s σ H xs us Q I r (.inr h)
theorem qfd:qca X (.builtin "len") qjv:=fun pins s σ H xs us Q I r h=>by
  obtain ⟨p,ys,e,hp,q⟩:=h
  exact qcR pins s σ H xs us Q I r ⟨p,ys,e,.inr (SqT.of hp),q⟩
theorem qh0:qca X (.builtin "len") (qkP X.K):=fun pins s σ H xs us Q I r h=>by
  obtain ⟨p,ys,e,hp,q⟩:=h
  exact qcR pins s σ H xs us Q I r ⟨p,ys,e,.inl hp,q⟩
theorem qmd (K:W.Frag):PySem.W.kitOne K (.type "int") (.type "bool")=some false:=by kernel_rfl
theorem qme (K:W.Frag):PySem.W.kitOne K (.type "int") (.type "tuple")=some false:=by kernel_rfl
theorem qmf (K:W.Frag):PySem.W.kitOne K (.type "int") (.type "list")=some false:=by kernel_rfl
theorem qmg (K:W.Frag):PySem.W.kitOne K (.type "bool") (.type "int")=some true:=by kernel_rfl
theorem qmh (K:W.Frag):PySem.W.kitOne K (.type "bool") (.type "tuple")=some false:=by kernel_rfl
theorem qmi (K:W.Frag):PySem.W.kitOne K (.type "bool") (.type "list")=some false:=by kernel_rfl
theorem qmj (K:W.Frag):PySem.W.kitOne K (.type "tuple") (.type "bool")=some false:=by kernel_rfl
theorem qmk (K:W.Frag):PySem.W.kitOne K (.type "tuple") (.type "int")=some false:=by kernel_rfl
theorem qml (K:W.Frag):PySem.W.kitOne K (.type "tuple") (.type "list")=some false:=by kernel_rfl
theorem qmm (K:W.Frag):PySem.W.kitOne K (.type "list") (.type "bool")=some false:=by kernel_rfl
theorem qmn (K:W.Frag):PySem.W.kitOne K (.type "list") (.type "int")=some false:=by kernel_rfl
theorem qmo (K:W.Frag):PySem.W.kitOne K (.type "list") (.type "tuple")=some false:=by kernel_rfl
theorem qc7 (K:W.Frag) (n:String):PySem.W.kitOne K (.type n) (.type n)=some true:=by
  unfold PySem.W.kitOne
  rw [if_pos (beq_self_eq_true _)]
theorem qkX {H:Hp} {x:V} {n:String} {b:Bool} (K:W.Frag) (h:qkf H x n=some b):∃ t,TyOf K H x t∧PySem.W.kitOne K t (.type n)=some b:=by
  cases x with
  | int i=>
    refine ⟨_,.int i,?_⟩
    unfold qkf at h
    dsimp only at h
    split at h
    · rename_i e;cases h;subst e;exact qc7 K _
    · split at h
      · rename_i e;cases h
        rcases e with rfl | rfl | rfl
        · exact qmd K
        · exact qme K
        · exact qmf K
      · cases h
  | bl i=>
    refine ⟨_,.bl i,?_⟩
    unfold qkf at h
    dsimp only at h
    split at h
    · rename_i e;cases h
      rcases e with rfl | rfl
      · exact qmg K
      · exact qc7 K _
    · split at h
      · rename_i e;cases h
        rcases e with rfl | rfl
        · exact qmh K
        · exact qmi K
      · cases h
  | ref p=>
    have h':ql8 (H p) n=some b:=h
    cases e:H p with
    | none=>rw [e] at h';cases h'
    | some o=>
      rw [e] at h'
      cases o with
      | tup xs=>
        refine ⟨_,.tup e,?_⟩
        unfold ql8 at h'
        dsimp only at h'
        split at h'
        · rename_i e;cases h';subst e;exact qc7 K _
        · split at h'
          · rename_i e;cases h'
            rcases e with rfl | rfl | rfl
            · exact qmj K
            · exact qmk K
            · exact qml K
          · cases h'
      | lst xs=>
        refine ⟨_,.lst e,?_⟩
        unfold ql8 at h'
        dsimp only at h'
        split at h'
        · rename_i e;cases h';subst e;exact qc7 K _
        · split at h'
          · rename_i e;cases h'
            rcases e with rfl | rfl | rfl
            · exact qmm K
            · exact qmn K
            · exact qmo K
          · cases h'
      | _=>cases h'
  | _=>cases h
theorem qcq:qca X (.builtin "isinstance") qkQ:=fun pins s σ H xs us Q I r h=>by
  obtain ⟨x,n,b,rfl,e,q⟩:=h
  obtain ⟨u,w',rfl,rx,rn⟩:=vals2 r
  have rn':w'=Value.type n:=rn
  subst rn'
  obtain ⟨t,ty,k⟩:=qkX X.K e
  exact qhB I rx ty k fun tk=>⟨.bl b,H,I.tok tk,rfl,q⟩
theorem qmp (hu:X.A.units<cLine):OpR X (compareOp .Eq) eqT:=by
  intro pins s σ H x y v u Q I rx ry h
  obtain ⟨a,b,xs,ys,rfl,rfl,ha,hb,ix,iy,q⟩:=h
  cases rx
  cases ry
  obtain ⟨its,r1,p1,_⟩:=I.tuple (SqT.of ha)
  obtain ⟨its2,r2,p2,_⟩:=I.tuple (SqT.of hb)
  have l1:its.toArray.size=xs.length:=by rw [List.size_toArray];exact r1.length.symm
  have l2:its2.toArray.size=ys.length:=by rw [List.size_toArray];exact r2.length.symm
  refine SeqAt.eq_tupleAt (e:=eqJ xs ys) p1 p2 hu (fun j h1 h2=>?_) ?_
  · rw [l1] at h1
    rw [l2] at h2
    obtain ⟨i,ei⟩:=qdk ix h1
    obtain ⟨k,ek⟩:=qdk iy h2
    obtain ⟨u1,g1,⟨t1,z1⟩⟩:=r1.get ei
    obtain ⟨u2,g2,⟨t2,z2⟩⟩:=r2.get ek
    have a1:its.toArray[j]=.int i t1:=by
      have z:=(List.getElem?_eq_some_iff.mp g1).2
      simpa [z1] using z
    have a2:its2.toArray[j]=.int k t2:=by
      have z:=(List.getElem?_eq_some_iff.mp g2).2
      simpa [z2] using z
    have e:eqJ xs ys j=(i == k):=by unfold eqJ;rw [ei,ek]
    rw [a1,a2,e]
    exact SeqAt.EqAt.int_int i t1 k t2
  · rw [l1,l2,qkS ix iy]
    exact ⟨.bl (decide (xs=ys)),H,I,rfl,q⟩
end
structure Cal (P:Program) (w:World) (K:W.Frag) (mg:Str→Option Value) (base:Heap) (n:Nat) (x:Str) (ps:List Str) (sp:Sp):Prop where
  ex:∃ (f:Addr) (fd:FuncData),FnOk P w K mg base CX0 n f fd ps sp∧Binds K fd ps []∧PySem.W.keepIn K (.ref f)=true∧mg x=some (.ref f)
theorem Cal.pe {X:Cx} {n m:Nat} {x:Str} {ps:List Str} {sp:Sp} {e:Expr} {es:List Expr} {t:TA} {p pos:Pos} (C:Cal X.prog X.w X.K X.mg X.base n x ps sp) (hr:Room m X.A) (hn:n≤m) (hg:Gl X x) (ha:PA X (e::es) t)
    (hdb:(x == ("__debug__" : Str))=false:=by decide) (he:starEach (e::es) X.env=(false,eval e X.env)::starEach es X.env:=by rfl) (hpl:(backTo pos (starEach es X.env)).any (·.1)=false:=by rfl) :
    PE X (.Call (.Name x p) (e::es) [] pos) (qar sp [] E0 t):=by
  obtain ⟨f,fd,F,b,k,m⟩:=C.ex
  exact qkE F (hr.mono hn) hg m k b .nil qnr ha hdb he hpl
end Bs
namespace Bs
open PySem L2
noncomputable def qbN (capt:List (Option Nat)) (σ:L2.St):L2.St:=capt.map fun o=>o.bind fun j=>(σ[j]?).join
noncomputable def qbC (wi:TI) (capt:List (Option Nat)) (g:TG) (te:TE):TE:=fun σ H Q=>wi σ H fun J H1=>∃ (n:Nat) (W:Nat→List V→Hp→Prop),W 0 [] H1∧∀ i ys H,W i ys H→i≤n∧ys.length≤sizeLine∧
  ((J.stop i H∧∀ p,H p=none→Q (.ref p) (upd H p (.lst ys)))∨(i<n∧J.go i H∧∀ x H',J.yld i H x H'→g x (qbN capt σ) H' fun σ2 H2=>te σ2 H2 fun y H3=>W (i+1) (ys++[y]) H3))
noncomputable def CompJ (J:It) (capt:List (Option Nat)) (g:TG) (te:TE) (σ:L2.St) (Q:VK) (H1:Hp):Prop:=∃ (n:Nat) (W:Nat→List V→Hp→Prop),W 0 [] H1∧∀ i ys H,W i ys H→i≤n∧ys.length≤sizeLine∧
  ((J.stop i H∧∀ p,H p=none→Q (.ref p) (upd H p (.lst ys)))∨(i<n∧J.go i H∧∀ x H',J.yld i H x H'→g x (qbN capt σ) H' fun σ2 H2=>te σ2 H2 fun y H3=>W (i+1) (ys++[y]) H3))
section
variable {K:W.Frag} {ta:TA} {tl:TE} {capt:List (Option Nat)} {g:TG} {te:TE} {σ:L2.St} {H:Hp} {Q:VK}
theorem qjz:qbC (qhr ta) capt g te σ H Q=ta σ H (fun vs H1=>∃ j:Int,vs=[.int j]∧-(2 ^ 62)≤j∧j<2 ^ 62∧CompJ (Itr 0 j.toNat) capt g te σ Q H1):=rfl
theorem qjA:qbC (qlU ta) capt g te σ H Q=ta σ H (fun vs H1=>∃ i j:Int,vs=[.int i,.int j]∧(-(2 ^ 62)≤i∧i<2 ^ 62∧-(2 ^ 62)≤j∧j<2 ^ 62)∧CompJ (Itr i (j - i).toNat) capt g te σ Q H1):=rfl
theorem qkY:qbC (qjd K tl) capt g te σ H Q=tl σ H (fun x H1=>∃ a,x=.ref a∧(∃ xs,SqT K H1 a xs)∧CompJ (Itt K a) capt g te σ Q H1):=rfl
theorem qkZ:qbC (qdf K tl) capt g te σ H Q=tl σ H (fun x H1=>∃ a,x=.ref a∧(∃ xs,SqL K H1 a xs)∧CompJ (Itl K a) capt g te σ Q H1):=rfl
theorem CompJ.range {lo:Int} {n:Nat} (W:Nat→List V→Hp→Prop) (h0:W 0 [] H) (hb:∀ i ys H,W i ys H→i≤n∧ys.length≤sizeLine)
    (hs:∀ i ys H,i<n→W i ys H→g (.int (lo+i)) (qbN capt σ) H fun σ2 H2=>te σ2 H2 fun y H3=>W (i+1) (ys++[y]) H3) (hd:∀ ys H,W n ys H→∀ p,H p=none→Q (.ref p) (upd H p (.lst ys))):CompJ (Itr lo n) capt g te σ Q H:=by
  refine ⟨n,W,h0,fun i ys H w=>⟨(hb i ys H w).1,(hb i ys H w).2,?_⟩⟩
  by_cases h:i<n
  · refine .inr ⟨h,h,fun x H' y=>?_⟩
    obtain ⟨e,y⟩:=y
    subst e y
    exact hs i ys _ h w
  · have e:i=n:=Nat.le_antisymm (hb i ys H w).1 (Nat.not_lt.mp h)
    subst e
    exact .inl ⟨Nat.le_refl _,hd ys H w⟩
theorem CompJ.tup {a:Addr} {xs:List V} (W:Nat→List V→Hp→Prop) (h0:W 0 [] H) (hb:∀ i ys H,W i ys H→i≤xs.length∧ys.length≤sizeLine∧H a=some (.tup xs))
    (hs:∀ i x ys H,xs[i]?=some x→W i ys H→g x (qbN capt σ) H fun σ2 H2=>te σ2 H2 fun y H3=>W (i+1) (ys++[y]) H3) (hd:∀ ys H,W xs.length ys H→∀ p,H p=none→Q (.ref p) (upd H p (.lst ys))):CompJ (Itt K a) capt g te σ Q H:=by
  refine ⟨xs.length,W,h0,fun i ys H w=>⟨(hb i ys H w).1,(hb i ys H w).2.1,?_⟩⟩
  have q:SqT K H a xs:=SqT.of (hb i ys H w).2.2
  by_cases h:i<xs.length
  · refine .inr ⟨h,⟨xs,xs[i],q,by simp [h]⟩,fun x H' y=>?_⟩
    obtain ⟨e,y⟩:=y
    subst e
    exact hs i x ys _ (y xs q) w
  · have e:i=xs.length:=Nat.le_antisymm (hb i ys H w).1 (Nat.not_lt.mp h)
    subst e
    exact .inl ⟨⟨xs,q,Nat.le_refl _⟩,hd ys H w⟩
theorem CompJ.lst {a:Addr} {xs:List V} (W:Nat→List V→Hp→Prop) (h0:W 0 [] H) (hb:∀ i ys H,W i ys H→i≤xs.length∧ys.length≤sizeLine∧SqL K H a xs)
    (hs:∀ i x ys H,xs[i]?=some x→W i ys H→g x (qbN capt σ) H fun σ2 H2=>te σ2 H2 fun y H3=>W (i+1) (ys++[y]) H3) (hd:∀ ys H,W xs.length ys H→∀ p,H p=none→Q (.ref p) (upd H p (.lst ys))):CompJ (Itl K a) capt g te σ Q H:=by
  refine ⟨xs.length,W,h0,fun i ys H w=>⟨(hb i ys H w).1,(hb i ys H w).2.1,?_⟩⟩
  have q:SqL K H a xs:=(hb i ys H w).2.2
  by_cases h:i<xs.length
  · refine .inr ⟨h,⟨xs,xs[i],q,by simp [h]⟩,fun x H' y=>?_⟩
    obtain ⟨e,y⟩:=y
    subst e
    exact hs i x ys _ (y xs q) w
  · have e:i=xs.length:=Nat.le_antisymm (hb i ys H w).1 (Nat.not_lt.mp h)
    subst e
    exact .inl ⟨⟨xs,q,Nat.le_refl _⟩,hd ys H w⟩
end
noncomputable def qlJ (K:W.Frag) (a:Addr):It:=
  ⟨fun i H=>∃ xs x,SqL K H a xs∧xs[i]?=some x,fun i H v H'=>∃ p x,H p=none∧v=.ref p∧H'=upd H p (.tup [.int i,x])∧∀ xs,SqL K H a xs→xs[i]?=some x,fun i H=>∃ xs,SqL K H a xs∧xs.length≤i⟩
noncomputable def qn0 (K:W.Frag) (a:Addr):It:=
  ⟨fun i H=>∃ xs x,SqT K H a xs∧xs[i]?=some x,fun i H v H'=>∃ p x,H p=none∧v=.ref p∧H'=upd H p (.tup [.int i,x])∧∀ xs,SqT K H a xs→xs[i]?=some x,fun i H=>∃ xs,SqT K H a xs∧xs.length≤i⟩
noncomputable def qfe (K:W.Frag) (ta:TA):TI:=fun σ H R=>ta σ H fun vs H1=>∃ a,vs=[.ref a]∧(∃ xs,SqL K H1 a xs)∧R (qlJ K a) H1
noncomputable def qmq (K:W.Frag) (ta:TA):TI:=fun σ H R=>ta σ H fun vs H1=>∃ a,vs=[.ref a]∧(∃ xs,SqT K H1 a xs)∧R (qn0 K a) H1
noncomputable def ForJ (J:It) (g:TG) (tb:TS) (D:Ends) (σ:L2.St) (H:Hp):Prop:=∃ W:Nat→Nat→L2.St→Hp→Prop,(∃ m,W 0 m σ H)∧∀ i m σ H,W i m σ H→
  (J.stop i H∧D.nx σ H)∨(J.go i H∧∃ N:L2.St→Hp→Prop,(∀ σ' H',N σ' H'→∃ m',m'<m∧W (i+1) m' σ' H')∧∀ x H',J.yld i H x H'→g x σ H' fun σ2 H2=>tb { D with nx:=N,ct:=N,bk:=D.nx } σ2 H2)
section
variable {K:W.Frag} {ta:TA} {g:TG} {tb:TS} {D:Ends} {σ:L2.St} {H:Hp} {a:Addr} {xs:List V}
theorem qk0:qfy (qfe K ta) g tb D σ H=ta σ H (fun vs H1=>∃ a,vs=[.ref a]∧(∃ xs,SqL K H1 a xs)∧ForJ (qlJ K a) g tb D σ H1):=rfl
theorem qk1:qfy (qmq K ta) g tb D σ H=ta σ H (fun vs H1=>∃ a,vs=[.ref a]∧(∃ xs,SqT K H1 a xs)∧ForJ (qn0 K a) g tb D σ H1):=rfl
theorem qjB {capt:List (Option Nat)} {te:TE} {Q:VK}:qbC (qfe K ta) capt g te σ H Q=ta σ H (fun vs H1=>∃ a,vs=[.ref a]∧(∃ xs,SqL K H1 a xs)∧CompJ (qlJ K a) capt g te σ Q H1):=rfl
theorem ForJ.enumL (Pv:Nat→L2.St→Hp→Prop) (h0:Pv 0 σ H) (hl:∀ i σ H,i≤xs.length→Pv i σ H→SqL K H a xs)
    (hs:∀ i x p σ H,xs[i]?=some x→Pv i σ H→H p=none→g (.ref p) σ (upd H p (.tup [.int i,x])) fun σ2 H2=>tb { D with nx:=Pv (i+1),ct:=Pv (i+1),bk:=D.nx } σ2 H2) (hd:∀ σ H,Pv xs.length σ H→D.nx σ H):ForJ (qlJ K a) g tb D σ H:=by
  refine ⟨fun i m σ H=>m=xs.length - i∧i≤xs.length∧Pv i σ H,⟨xs.length,by simp,Nat.zero_le _,h0⟩,?_⟩
  rintro i m σ H ⟨rfl,hi,pv⟩
  have q:=hl i σ H hi pv
  by_cases lt:i<xs.length
  · refine .inr ⟨⟨xs,xs[i],q,by simp [lt]⟩,Pv (i+1),fun σ' H' p'=>⟨xs.length - (i+1),by omega,rfl,lt,p'⟩,fun x H' y=>?_⟩
    obtain ⟨p,x',hp,rfl,rfl,y⟩:=y
    exact hs i x' p σ _ (y xs q) pv hp
  · have e:i=xs.length:=by omega
    subst e
    exact .inl ⟨⟨xs,q,Nat.le_refl _⟩,hd σ H pv⟩
end
end Bs
namespace Bs
open PySem PySem.Spec PyProof.Rows L2
noncomputable def blk (X:Cx) (N:List Str) (scope:Scope) (cl:List (Str×Addr)) (C:Addr) (s:Shared) (H:Hp) (fp:List Addr):Cx:=
  { X with N:=N,s₀:=s,H₀:=H,env:=compEnvC scope cl C X.env,outer:=X.stack,stack:=X.stack,ex:=fp,fn:=fun _=>false,pn:=[],xe:=fun _ _=>False }
structure BlkOk (X:Cx) (N:List Str) (capt:List (Option Nat)) (scope:Scope) (cl:List (Str×Addr)):Prop where
  kind:scope.kind=.function
  clos:closureFor scope X.env=pure cl
  nocell:∀ y∈scope.names,y.2≠.cell
  names:∀ y∈scope.names,y.2=.local→scope.names.lookup y.1=some .local
  cells:∀ y c,cl.lookup y=some c→X.env.cells.lookup y=some c
  has:∀ y,((relabel scope X.env).names.lookup y=some .cell∨(relabel scope X.env).names.lookup y=some .free)→∃ c,cl.lookup y=some c
  cap:∀ (i:Nat) (x:Str) (j:Nat),N[i]?=some x→capt[i]?=some (some j)→X.N[j]?=some x∧Vis X.env.scope x∧X.env.kindOf x≠some .local∧((relabel scope X.env).names.lookup x=some .cell∨(relabel scope X.env).names.lookup x=some .free)
  len:capt.length=N.length
section
variable {X:Cx} {pins:List (Addr×Obj)} {σ:L2.St} {H:Hp} {s:Shared} {N:List Str} {capt:List (Option Nat)} {scope:Scope} {cl:List (Str×Addr)} {C:Addr} {fp:List Addr}
theorem qh1 (B:BlkOk X N capt scope cl) (I:Inv X pins σ H s) (fo:∀ b∈fp,qgD X pins H b) (fl:∀ b∈fp,b<s.heap.objs.size) (hC:s.heap.objs.size≤C):(blk X N scope cl C s H fp).Ok where
  mod:=I.ok.mod
  kind:=B.kind
  glob:=I.ok.glob
  blt:=I.ok.blt
  above:=hC
  inj:=fun x y c h1 h2=>I.ok.inj x y c (B.cells x c h1) (B.cells y c h2)
  has:=fun x h=>B.has x h
  cab:=fun _ _ h=>nomatch h
  hd:=I.ok.hd
  frames:=I.ok.frames
  stk:=.inl rfl
  exf:=fun b hb=>⟨fun e=>absurd (Nat.lt_of_lt_of_le (fl b hb) hC) (by rw [show b=C from e];exact Nat.lt_irrefl _),fun x c e=>(fo b hb).2.2.2.2.1 x c (B.cells x c e)⟩
  bs:=I.bs
  bsz:=Nat.le_trans I.ok.bsz I.sz
  noex:=fun b o e hb=>by
    rcases (fo b hb).2.2.2.1 with z | z
    · exact I.ok.noex b o e z
    · exact absurd (Nat.lt_of_lt_of_le (Heap.lt_size e) (Nat.le_trans I.ok.bsz z)) (Nat.lt_irrefl _)
  exfs:=fun b hb hf=>by
    rcases List.mem_cons.mp (I.stkSub b hf) with z | z
    · exact (fo b hb).2.1 z
    · exact (fo b hb).2.2.1 z
  funs:=I.stack
  frf:=I.stkFree
  seer:=I.ok.seer
  tree:=I.ok.tree
  plr:=I.ok.plr
theorem qh2 (B:BlkOk X N capt scope cl) (I:Inv X pins σ H s) (fo:∀ b∈fp,qgD X pins H b) (fl:∀ b∈fp,b<s.heap.objs.size) (hC:s.heap.objs.size≤C) {h1:Heap} {m:Str→Option Value} {tk:Nat}
    (hn:h1.Ns C m) (hk:∀ b o,s.heap.get? b=some o→h1.get? b=some o):Inv (blk X N scope cl C s H fp) [] (qbN capt σ) H { s with heap:=h1,toks:=tk } where
  ok:=qh1 B I fo fl hC
  os:=rfl
  bare:=I.bare
  base:=Un.kept hk
  loc:=by
    refine ⟨m,hn,fun i x v e1 e2 e3=>?_⟩
    have e2':(capt.map fun o=>o.bind fun j=>(σ[j]?).join)[i]?=some (some v):=e2
    rw [List.getElem?_map] at e2'
    cases ec:capt[i]? with
    | none=>rw [ec] at e2';cases e2'
    | some o=>
      rw [ec] at e2'
      cases o with
      | none=>cases e2'
      | some j=>
        have e4:(σ[j]?).join=some v:=Option.some.inj e2'
        obtain ⟨c1,c2,c3,c4⟩:=B.cap i x j e1 ec
        have e5:σ[j]?=some (some v):=by
          cases q:σ[j]? with
          | none=>rw [q] at e4;cases e4
          | some w=>rw [q] at e4;exact congrArg some e4
        obtain ⟨m',_,hl⟩:=I.loc
        obtain ⟨u,r,l⟩:=hl j x v c1 e5 c2
        refine ⟨u,r,.inr ⟨c4,?_⟩⟩
        rcases l with ⟨l,_⟩ | ⟨_,c,lc,ic⟩
        · exact absurd l c3
        · obtain ⟨c',hc'⟩:=B.has x c4
          have:=B.cells x c' hc'
          rw [lc] at this
          cases this
          obtain ⟨o,ho,hd⟩:=ic
          exact ⟨c,hc',o,hk c o ho,hd⟩
  cell:=fun x c e=>by
    obtain ⟨v,o,ho,hd⟩:=I.cell x c (B.cells x c e)
    exact ⟨v,o,hk c o ho,hd⟩
  free:=I.hok.fresh hC
  freeC:=fun x c e=>I.freeC x c (B.cells x c e)
  pin:=fun p hp=>nomatch hp
  hok:=I.hok.kept hk
  len:=by show (capt.map _).length=N.length;rw [List.length_map];exact B.len
theorem qdm {σ6:L2.St} {H7:Hp} {s7:Shared} {pins':List (Addr×Obj)} (B:BlkOk X N capt scope cl) (I:Inv X pins σ H s) (fo:∀ b∈fp,qgD X pins H b) (I7:Inv (blk X N scope cl C s H fp) pins' σ6 H7 s7):Inv (blk X N scope cl C s H fp) pins' (qbN capt σ) H7 s7:=
  ⟨I7.ok,I7.os,I7.bare,I7.base,by
    obtain ⟨m,hn,_⟩:=I7.loc
    refine ⟨m,hn,fun i x v e1 e2 e3=>?_⟩
    have e2':(capt.map fun o=>o.bind fun j=>(σ[j]?).join)[i]?=some (some v):=e2
    rw [List.getElem?_map] at e2'
    cases ec:capt[i]? with
    | none=>rw [ec] at e2';cases e2'
    | some o=>
      rw [ec] at e2'
      cases o with
      | none=>cases e2'
      | some j=>
        have e4:(σ[j]?).join=some v:=Option.some.inj e2'
        obtain ⟨c1,c2,c3,c4⟩:=B.cap i x j e1 ec
        have e5:σ[j]?=some (some v):=by
          cases q:σ[j]? with
          | none=>rw [q] at e4;cases e4
          | some w=>rw [q] at e4;exact congrArg some e4
        obtain ⟨m',_,hl⟩:=I.loc
        obtain ⟨u,r,l⟩:=hl j x v c1 e5 c2
        refine ⟨u,r,.inr ⟨c4,?_⟩⟩
        rcases l with ⟨l,_⟩ | ⟨_,c,lc,ic⟩
        · exact absurd l c3
        · obtain ⟨c',hc'⟩:=B.has x c4
          have:=B.cells x c' hc'
          rw [lc] at this
          cases this
          obtain ⟨o,ho,hd⟩:=ic
          obtain ⟨sl,hk⟩:=I7.base.any ho (I.freeC x c lc) fun hb=>(fo c hb).2.2.2.2.1 x c lc rfl
          exact ⟨c,hc',_,hk,hd⟩,I7.cell,I7.free,I7.freeC,I7.pin,I7.hok,by show (capt.map _).length=N.length;rw [List.length_map];exact B.len⟩
theorem qb3 {κ β:Type} [BEq κ] [LawfulBEq κ]:∀ {l:List (κ×β)} {y:κ} {c:β},l.lookup y=some c→(y,c)∈l
  | (k,v)::l,y,c,h=>by
    rw [List.lookup_cons] at h
    cases e:y == k with
    | true=>
      rw [e] at h
      cases h
      rw [eq_of_beq e]
      exact List.mem_cons_self ..
    | false=>
      rw [e] at h
      exact List.mem_cons_of_mem _ (qb3 h)
theorem BlkOk.of (k:scope.kind=.function) (c:closureFor scope X.env=pure cl) (n1:(scope.names.all fun y=>y.2 != .cell)=true) (n2:(scope.names.all fun y=>y.2 != .local || scope.names.lookup y.1 == some .local)=true)
    (cs:∀ pr∈cl,X.env.cells.lookup pr.1=some pr.2) (hs:((relabel scope X.env).names.all fun pr=>(pr.2 != .cell && pr.2 != .free) || (cl.lookup pr.1).isSome)=true)
    (cp:((List.range N.length).all fun i=>match N[i]?,capt[i]? with
      | some x,some (some j)=>X.N[j]? == some x && (X.env.scope.names.lookup x == some .cell || X.env.scope.names.lookup x == some .free) && ((relabel scope X.env).names.lookup x == some .cell || (relabel scope X.env).names.lookup x == some .free)
      | _,_=>true)=true) (ln:capt.length=N.length):BlkOk X N capt scope cl where
  kind:=k
  clos:=c
  nocell:=fun y hy e=>by
    have z:=List.all_eq_true.mp n1 y hy
    rw [e] at z
    exact absurd z (by decide)
  names:=fun y hy e=>by
    have z:=List.all_eq_true.mp n2 y hy
    rw [e] at z
    simpa using z
  cells:=fun y c h=>cs (y,c) (qb3 h)
  has:=fun y h=>by
    have m:∃ kd,(y,kd)∈(relabel scope X.env).names∧(kd=.cell∨kd=.free):=by
      rcases h with h | h
      · exact ⟨_,qb3 h,.inl rfl⟩
      · exact ⟨_,qb3 h,.inr rfl⟩
    obtain ⟨kd,m,e⟩:=m
    have z:=List.all_eq_true.mp hs _ m
    have z2:(cl.lookup y).isSome=true:=by
      rcases e with rfl | rfl
      · simpa using z
      · simpa using z
    exact Option.isSome_iff_exists.mp z2
  cap:=fun i x j e1 e2=>by
    have li:i<N.length:=(List.getElem?_eq_some_iff.mp e1).1
    have z:=List.all_eq_true.mp cp i (List.mem_range.mpr li)
    rw [e1,e2] at z
    simp only [Bool.and_eq_true,Bool.or_eq_true,beq_iff_eq] at z
    obtain ⟨⟨z1,z2⟩,z3⟩:=z
    refine ⟨z1,.inr z2,fun q=>?_,z3⟩
    have q':X.env.scope.names.lookup x=some .local:=q
    rcases z2 with z2 | z2 <;> (rw [z2] at q';cases q')
  len:=ln
theorem qfF {prog:Program} {w:World} {A:Around} {R:Result→Shared→Prop} {s:Shared} {elt target iter:Expr} {scope:Scope} {pos:Pos} {it acc:Value} {env:Env} (I:Nat→Shared→Prop)
    (turn:∀ n s,I n s→wpAny (model prog w) A (pyNext it) (fun r s₁=>match r with
      | none=>R (.ok .next) s₁
      | some v=>wpAny (model prog w) A (letOwnedTupleGo target it v) (fun _ s₂=>wpAny (model prog w) A (assign target env v) (fun _ s₃=>wpAny (model prog w) A (eval elt env) (fun x s₄=>
          wpAny (model prog w) A (call (.builtin "list.append") [acc,x]) (fun _ s₅=>∃ m,m<n∧I m s₅) (fun _ _=>False) s₄) (fun _ _=>False) s₃) (fun _ _=>False) s₂) (fun _ _=>False) s₁) (fun _ _=>False) s)
    (n:Nat) (h:I n s):codeAny (model prog w) A (.compLoop (.ListComp elt [⟨target,iter,[],0⟩] scope pos) 0 it acc env) R s:=by
  refine codeAny_loop rfl I (fun n s hI=>?_) n h
  show wpAny _ A ((compTurn (.ListComp elt [⟨target,iter,[],0⟩] scope pos) 0 it acc env).onRaise (fun x=>do noteFrame x env;theTreesLotGoes x)) _ _ s
  refine wpAny_noted ?_
  rw [compTurn_list]
  have no:∀ {E':Value→Shared→Prop} (e:Value) (s':Shared),(fun (_:Value) (_:Shared)=>False) e s'→E' e s':=fun _ _ f=>f.elim
  refine wpAny_bind (wpAny_standAt (wpAny_bind (wpAny_mono (turn n s hI) (fun r s₁ h₁=>?_) no)))
  cases r with
  | none=>exact wpAny_pure h₁
  | some v=>
    refine wpAny_bind (wpAny_mono h₁ (fun _ s₂ h₂=>?_) no)
    refine wpAny_bind (wpAny_mono h₂ (fun _ s₃ h₃=>wpAny_bind (wpAny_tests_nil ?_)) no)
    exact wpAny_bind (wpAny_bind (wpAny_mono h₃ (fun x s₄ h₄=>wpAny_bind (wpAny_mono h₄ (fun _ s₅ h₅=>wpAny_pure (wpAny_pure ⟨rfl,h₅⟩)) no)) no))
theorem qff {elt iter tg:Expr} {pos:Pos} {wi:TI} {g:TG} {te:TE} {pins:List (Addr×Obj)} {s:Shared} {σ:L2.St} {H:Hp} {Q:VK} (RR:Value→Addr→Result→Shared→Prop) (hc:X.calm=true) (B:BlkOk X N capt scope cl) (hi:PI X tg iter wi)
    (hg:∀ C s H fp,PG (blk X N scope cl C s H fp) tg g) (he:∀ C s H fp,PE (blk X N scope cl C s H fp) elt te) (I:Inv X pins σ H s) (h:qbC wi capt g te σ H Q)
    (fin:∀ (D C:Addr) (s4:Shared) (Hq:Hp) (m:Str→Option Value),Inv X pins σ Hq s4→Q (.ref D) Hq→s4.heap.Ns C m→Hq C=none→C≠X.env.locals→X.s₀.heap.objs.size≤C→(∀ x c,X.env.cells.lookup x=some c→c≠C)→(∀ p∈X.pn++pins,p.1≠C)→RR (.ref D) C (.ok .next) s4) :
    wpAny (model X.prog X.w) X.A (eval iter X.env) (fun x s₁=>wpAny (model X.prog X.w) X.A (pyIter x) (fun it s₂=>wpAny (model X.prog X.w) X.A (newList []) (fun acc s₃=>
      wpAny (model X.prog X.w) X.A (newFunctionEnv scope X.env.globals cl [] X.env.qual none .none (some X.env)) (fun cenv s₄=>
        codeAny (model X.prog X.w) X.A (.compStart (.ListComp elt [⟨tg,iter,[],0⟩] scope pos) 0 it acc { cenv with scope:=relabel scope X.env }) (RR acc cenv.locals) s₄) X.xe s₃) X.xe s₂) X.xe s₁) X.xe s:=by
  refine thn (hi pins s σ H _ I h) fun v s1 h1=>thn h1 fun itv s2 h2=>?_
  obtain ⟨it,fp,tn,J,H2,e,I2,T,st2,f2,n0,W,w0,turn⟩:=h2
  subst e
  have fl:∀ b∈fp,b<s2.heap.objs.size:=fun b hb=>by obtain ⟨o,e,_⟩:=T.obj _ _ st2 b hb;exact Heap.lt_size e
  refine wpAny_newObj_type (wpAny_newFunctionEnv B.nocell (by intro y hy;simp at hy) (fun h₁ hns₁ hsb₁=>?_) B.kind)
  dsimp only at hns₁ hsb₁ ⊢
  generalize hG:s2.heap.push { cls:=.type "list", dict:=none,data:=.seq ([]:List Value).toArray }=G at hns₁ hsb₁ ⊢
  have hC:G.objs.size=s2.heap.objs.size+1:=by rw [← hG,Heap.size_push]
  have hCle:s2.heap.objs.size≤G.objs.size:=by rw [hC];exact Nat.le_succ _
  have hDC:s2.heap.objs.size≠G.objs.size:=by rw [hC];exact Nat.ne_of_lt (Nat.lt_succ_self _)
  have old:∀ b o,s2.heap.get? b=some o→h₁.get? b=some o:=fun b o e=>hsb₁.extBut b o (by rw [hC];exact Nat.ne_of_lt (Nat.lt_succ_of_lt (Heap.lt_size e))) (Heap.get?_push_of_some _ (hG ▸ Heap.get?_push_of_some _ e))
  have hacc:h₁.get? s2.heap.objs.size=some { cls:=.type "list", data:=.seq ([]:List Value).toArray }:=hsb₁.extBut _ _ hDC (Heap.get?_push_of_some _ (hG ▸ Heap.get?_push_size _ rfl))
  have ok':=qh1 B I2 f2 fl hCle
  have nsD:s2.heap.objs.size∉frs X.stack:=fun hb=>by
    rcases List.mem_cons.mp (I2.stkSub _ hb) with z | z
    · exact absurd I2.lt (by rw [← z];exact Nat.lt_irrefl _)
    · exact I2.nofs (Nat.le_refl _) z
  have ncD:∀ x c,cl.lookup x=some c→c≠s2.heap.objs.size:=fun x c e z=>by
    obtain ⟨v,q⟩:=I2.cell x c (B.cells x c e)
    exact absurd q.lt (by rw [z];exact Nat.lt_irrefl _)
  have nfD:∀ b∈fp,s2.heap.objs.size≠b:=fun b hb z=>absurd (fl b hb) (by rw [← z];exact Nat.lt_irrefl _)
  have I₁:Inv (blk X N scope cl G.objs.size s2 H2 fp) [] (qbN capt σ) H2 { s2 with heap:=h₁,toks:=s2.toks+([]:List (Str×Value)).length }:=qh2 B I2 f2 fl hCle hns₁ old
  have loop:codeAny (model X.prog X.w) X.A (.compLoop (.ListComp elt [⟨tg,iter,[],0⟩] scope pos) 0 (.ref it) (.ref s2.heap.objs.size) (compEnvC scope cl G.objs.size X.env))
      (RR (.ref s2.heap.objs.size) G.objs.size) { s2 with heap:=h₁,toks:=s2.toks+([]:List (Str×Value)).length }:=by
    refine qfF (fun n s'=>∃ (i:Nat) (ys:List V) (its:List Value) (k:Nat) (Hc:Hp),Inv (blk X N scope cl G.objs.size s2 H2 fp) [] (qbN capt σ) Hc s'∧s'.heap.get? s2.heap.objs.size=some { cls:=.type "list", data:=.seq its.toArray k }∧Vals ys its∧
      Hc s2.heap.objs.size=none∧tn i s'.heap∧(∀ b∈fp,Hc b=none)∧W i ys Hc∧n=n0 - i) ?_ n0 ⟨0,[],[],0,H2,I₁,hacc,.nil,I2.hok.fresh (Nat.le_refl _),T.keep _ _ _ st2 (fun b _ o e=>old b o e),fun b hb=>(f2 b hb).1,w0,rfl⟩
    rintro n s3 ⟨i,ys,its,k,Hc,I3,hD,hv,nD,st3,fr3,w3,en⟩
    obtain ⟨_,hl,step⟩:=turn i ys Hc w3
    have hz:its.toArray.size≤sizeLine:=by rw [List.size_toArray,← hv.length];exact hl
    have I3p:Inv (blk X N scope cl G.objs.size s2 H2 fp) [(s2.heap.objs.size,{ cls:=.type "list", data:=.seq its.toArray k })] (qbN capt σ) Hc s3:=I3.pins_of fun p hp=>by
      rw [List.mem_singleton] at hp
      subst hp
      exact ⟨hD,nD,hDC,nsD,fun v z=>nomatch z⟩
    have fo3:∀ {Hx:Hp} (_:∀ b∈fp,Hx b=none),∀ b∈fp,qgD (blk X N scope cl G.objs.size s2 H2 fp) [(s2.heap.objs.size,{ cls:=.type "list", data:=.seq its.toArray k })] Hx b:=fun hx b hb=>
      ⟨hx b hb,(ok'.exf b hb).1,ok'.exfs b hb,.inl hb,(ok'.exf b hb).2,fun p hp=>by
        have hp':p∈[((s2.heap.objs.size,{ cls:=.type "list", data:=.seq its.toArray k }):Addr×Obj)]:=hp
        rw [List.mem_singleton] at hp'
        subst hp'
        exact nfD b hb⟩
    rcases step with ⟨stop,q⟩ | ⟨ltn,go,nxt⟩
    · refine thn (T.done (blk X N scope cl G.objs.size s2 H2 fp) rfl rfl rfl hc i _ s3 _ Hc _ I3p (fo3 fr3) st3 stop) fun r s4 ⟨hr,I4⟩=>?_
      subst hr
      have hD4:=(I4.pin (s2.heap.objs.size,{ cls:=.type "list", data:=.seq its.toArray k }) (List.mem_append_right _ (List.mem_singleton.mpr rfl))).1
      obtain ⟨m,hn,_⟩:=I4.loc
      have nDt:∀ b u,Hc b=some u→b≠s2.heap.objs.size:=fun b u e z=>by rw [z,nD] at e;cases e
      have oldC:∀ b o,s2.heap.get? b=some o→b≠s2.heap.objs.size:=fun b o e=>Nat.ne_of_lt (Heap.lt_size e)
      have ub:Un (frs X.stack) fp H2 Hc s2.heap s4.heap:=I4.base
      have cC:∀ b,b<s2.heap.objs.size→b≠G.objs.size:=fun b hb z=>absurd (Nat.lt_of_lt_of_le hb hCle) (by rw [z];exact Nat.lt_irrefl _)
      refine fin _ G.objs.size s4 (upd Hc s2.heap.objs.size (.lst ys)) m ?_ (q _ nD) hn (by rw [qal (fun z=>hDC z.symm)];exact I4.free) (fun z=>cC _ I2.lt z.symm) (Nat.le_trans I2.sz hCle)
        (fun x c e=>by obtain ⟨v,q⟩:=I2.cell x c e;exact cC _ q.lt) fun p hp=>cC _ (Heap.lt_size (I2.pin p hp).1)
      refine I2.call' (ch:=fp) (s':=s4) I4.os ?_ ?_ I4.bare fun b hb=>⟨(f2 b hb).2.2.2.1,(f2 b hb).2.1,(f2 b hb).2.2.2.2.1,(f2 b hb).2.2.2.2.2⟩
      · refine ⟨ub.keep,ub.slot,fun b o e n hx=>?_,ub.there,fun b xs e=>?_,fun b o u e=>?_,fun b ps e=>?_⟩
        · rw [qal (oldC b o e)];exact ub.free b o e n hx
        · have z:=ub.tups b xs e
          rw [qal (nDt b _ z)];exact z
        · have z:=ub.frzs b o u e
          rw [qal (nDt b _ z)];exact z
        · obtain ⟨more,z⟩:=ub.tbls b ps e
          exact ⟨more,by rw [qal (nDt b _ z)];exact z⟩
      · intro b u e
        by_cases hb:b=s2.heap.objs.size
        · subst hb
          rw [qad] at e
          cases e
          exact ⟨hl,its,k,hv,hD4⟩
        · rw [qal hb] at e
          exact (I4.hok b u e).stay (fun c v _ q=>q) (fun c q=>by rw [qal (nDt c _ q)];exact q) fun c xs q=>by rw [qal (nDt c _ q)];exact q
    · refine thn (T.item (blk X N scope cl G.objs.size s2 H2 fp) rfl rfl rfl hc i _ s3 _ Hc _ I3p (fo3 fr3) st3 go) fun r s4 ⟨u,hr,h4⟩=>?_
      subst hr
      refine thn h4 fun _ s5 ⟨x,H5,I5,r5,y5,st5,fr5⟩=>?_
      have I5':=I5.pinned (fo3 fr5) (T.obj _ _ st5)
      refine thn (hg _ _ _ _ _ s5 _ H5 x u _ I5' r5 (nxt x H5 y5)) fun _ s6 ⟨σ6,H6,I6,q6⟩=>?_
      refine thn (he _ _ _ _ _ s6 σ6 H6 _ I6 q6) fun uy s7 ⟨y,H7,I7,r7,w7⟩=>?_
      have pD:=I7.pin (s2.heap.objs.size,{ cls:=.type "list", data:=.seq its.toArray k }) (List.mem_append_right _ (List.mem_append_left _ (List.mem_singleton.mpr rfl)))
      have pF:∀ b∈fp,∀ o,s5.heap.get? b=some o→s7.heap.get? b=some o∧H7 b=none:=fun b hb o e=>by
        have z:=I7.pin (b,o) (List.mem_append_right _ (List.mem_append_right _ (qbv hb e)))
        exact ⟨z.1,z.2.1⟩
      refine append_at (hsz:=hz) pD.1 fun h8 sb8 hD8=>?_
      have I7n:Inv (blk X N scope cl G.objs.size s2 H2 fp) [] σ6 H7 s7:=I7.pins_of fun p hp=>nomatch hp
      have I8:Inv (blk X N scope cl G.objs.size s2 H2 fp) [] σ6 H7 { s7 with heap:=h8,toks:=s7.toks }:=I7n.turned (fun b o hb e=>sb8.extBut b o hb e) pD.2.1 hDC (.inr (Nat.le_refl _)) ncD (fun p hp=>nomatch hp)
      refine ⟨n0 - (i+1),by omega,i+1,ys++[y],its++[uy],k+1,H7,qdm B I2 f2 I8,?_,Paired.snoc hv r7,pD.2.1,T.keep _ _ _ st5 (fun b hb o e=>sb8.extBut b o (nfD b hb).symm (pF b hb o e).1),fun b hb=>?_,w7,rfl⟩
      · show h8.get? _=_
        rw [hD8,List.push_toArray]
      · obtain ⟨o,e,_⟩:=T.obj _ _ st5 b hb
        exact (pF b hb o e).2
  exact codeAny_compStart_list loop (T.self X.A 0 _ _ _ (T.keep _ _ _ st2 (fun b _ o e=>old b o e)) loop)
theorem qdn {elt iter tg:Expr} {pos:Pos} {wi:TI} {g:TG} {te:TE} (hc:X.calm=true) (B:BlkOk X N capt scope cl) (hi:PI X tg iter wi)
    (hg:∀ C s H fp,PG (blk X N scope cl C s H fp) tg g) (he:∀ C s H fp,PE (blk X N scope cl C s H fp) elt te)
    (hs:∀ x,foldedSetIterable iter X.env x=pure x:=by intro _;rfl):PE X (.ListComp elt [⟨tg,iter,[],0⟩] scope pos) (qbC wi capt g te):=by
  intro pins s σ H Q I h
  rw [eval_ListComp]
  refine wpAny_comprehension_free (use:=none) rfl hs B.clos B.kind B.names (qff (fun acc C=>compPost (model X.prog X.w) X.A X.xe none (EP X pins σ Q) acc C) hc B hi hg he I h fun D C s4 Hq m I4 q hn hf h1 h2 h3 h4=>?_)
  exact ⟨m,hn,fun h' sb=>⟨.ref D,Hq,I4.turned (fun b o hb e=>sb.extBut b o hb e) hf h1 (.inr h2) h3 h4,rfl,q⟩⟩
theorem qk2 {i:Nat} {x:Str} {pos' spos:Pos} {elt iter tg:Expr} {pos:Pos} {wi:TI} {g:TG} {te:TE} (hN:X.N.Nodup) (hi':X.N[i]?=some x) (hx:Loc X.env.scope x) (hc:X.calm=true) (B:BlkOk X N capt scope cl) (hi:PI X tg iter wi)
    (hg:∀ C s H fp,PG (blk X N scope cl C s H fp) tg g) (he:∀ C s H fp,PE (blk X N scope cl C s H fp) elt te)
    (hsw:swapsWith (.ListComp elt [⟨tg,iter,[],0⟩] scope pos) (some (.Name x pos')) spos.line X.env=pure true:=by rfl)
    (hs:∀ x,foldedSetIterable iter X.env x=pure x:=by intro _;rfl) (hf:X.fn x=true∨X.env.scope.names.lookup x=some .local:=by first | exact .inl rfl | exact .inr rfl | assumption) :
    PS X (.Assign [.Name x pos'] (.ListComp elt [⟨tg,iter,[],0⟩] scope pos) spos) (qaY (qbC wi capt g te) (qap i)):=by
  intro pins s σ H D I h
  rw [exec_Assign_Name_used _ _ _ _ hsw]
  refine wpAny_bind (wpAny_standAt (wpAny_bind ?_))
  show wpAny _ X.A (do let _ ← comprehension (.ListComp elt [⟨tg,iter,[],0⟩] scope pos) scope X.env _ (newList []) false (eval iter X.env) (some (assign (.Name x pos') X.env))) _ _ s
  refine wpAny_bind (wpAny_mono (wpAny_comprehension_free (use:=some (assign (.Name x pos') X.env)) (Q:=fun _ s'=>SP X pins D .next s') rfl hs B.clos B.kind B.names
    (qff (fun acc C=>compPost (model X.prog X.w) X.A X.xe (some (assign (.Name x pos') X.env)) (fun _ s'=>SP X pins D .next s') acc C) hc B hi hg he I h fun Da C s4 Hq m I4 q hn hfr h1 h2 h3 h4=>?_)) (fun _ s' hq=>wpAny_pure (wpAny_pure hq)) fun _ _ e=>e)
  show wpAny _ X.A (assign (.Name x pos') X.env (.ref Da)) _ _ _
  refine wpAny_assign_Name (qdc I4 hN hi' hx (v:=.ref Da) rfl (fun s5 I5 ⟨a,sb5,ha⟩=>⟨m,hn.sameBut sb5 ?_,fun h' sb=>⟨_,_,I5.turned (fun b o hb e=>sb.extBut b o hb e) hfr h1 (.inr h2) h3 h4,q⟩⟩) hf)
  rcases ha with z | z
  · rw [z];exact h1
  · exact fun e=>h3 x a z e.symm
end
end Bs
namespace Bs
open PySem PySem.Spec PyProof.Rows L2
open PySem.AutoSeq1 (wpAny_loadPart')
section
variable {prog:Program} {w:World} {A:Around} {E:Value→Shared→Prop} {s:Shared} {e it t:Addr} {i:Nat} {zs:Array Value}
end
section
variable {X:Cx} {pins:List (Addr×Obj)} {σ:L2.St} {H:Hp} {s:Shared}
theorem qjC {e it:Addr} {g:Heap} {tk:Nat} {xs:List V} {its:List Value} (I:Inv X pins σ H s) (fe:qgD X pins H e) (fi:qgD X pins H it) (k:∀ b o,b≠e→b≠it→s.heap.get? b=some o→g.get? b=some o)
    (hz:xs.length≤sizeLine) (rv:Vals xs its) (ht:g.get? s.heap.objs.size=some { cls:=.type "tuple", data:=.seq its.toArray }):Inv X pins σ (upd H s.heap.objs.size (.tup xs)) { s with heap:=g,toks:=tk }:=by
  have nT:H s.heap.objs.size=none:=I.hok.fresh (Nat.le_refl _)
  have old:∀ b o,s.heap.get? b=some o→b≠s.heap.objs.size:=fun b o q=>Nat.ne_of_lt (Heap.lt_size q)
  have tr:∀ b u,H b=some u→b≠s.heap.objs.size∧b≠e∧b≠it:=fun b u q=>⟨qak q nT,qak q fe.1,qak q fi.1⟩
  have off:∀ b,b∉[e,it]→b≠e∧b≠it:=fun b hb=>⟨fun z=>hb (by simp [z]),fun z=>hb (by simp [z])⟩
  refine I.step (g':=s.gens) (d':=s.drawn) (ch:=[e,it]) (fun b hb=>?_) (fun b o _ _ hc q _=>k b o (off b hc).1 (off b hc).2 q) (fun b o _ _ hc q _=>⟨o.slots,k b o (off b hc).1 (off b hc).2 q⟩) (fun b o _ q n=>?_) (fun b o hc q=>⟨o,k b o (off b hc).1 (off b hc).2 q⟩)
    (fun b ys q=>?_) (fun b o u q=>?_) (fun b ps q=>⟨#[],?_⟩) (fun m hm=>?_) (fun b u q=>?_) I.bare
  · have z:b=e∨b=it:=by simpa using hb
    rcases z with rfl | rfl
    · exact ⟨fe.2.2.2.1,fe.2.1,fe.2.2.2.2.1,fe.2.2.2.2.2⟩
    · exact ⟨fi.2.2.2.1,fi.2.1,fi.2.2.2.2.1,fi.2.2.2.2.2⟩
  · rw [qal (old b o q)];exact n
  · rw [qal (tr b _ q).1];exact q
  · rw [qal (tr b _ q).1];exact q
  · rw [qal (tr b _ q).1,q];simp
  · obtain ⟨o,es,ep,ho,hr⟩:=hm
    exact ⟨o,es,ep,k _ o fe.2.1.symm fi.2.1.symm ho,hr⟩
  · by_cases hb:b=s.heap.objs.size
    · subst hb
      rw [qad] at q
      cases q
      exact ⟨hz,its,rv,⟨_,ht,rfl,_,rfl⟩⟩
    · rw [qal hb] at q
      refine (I.hok b u q).stay (fun c v hc z=>?_) (fun c z=>by rw [qal (tr c _ z).1];exact z) fun c ys z=>by rw [qal (tr c _ z).1];exact z
      rcases hc with y | y
      · subst y;exact k _ v (tr _ u q).2.1 (tr _ u q).2.2 z
      · exact k c v (tr c _ y).2.1 (tr c _ y).2.2 z
end
theorem qgS {P:Program} {w:World} {K:W.Frag} {elts:List Expr} {k:Nat} {pos:Pos} (a e it:Addr) (ne:e≠it):Turn P w K (.Tuple elts k pos) (qlJ K a) [e,it] e (fun i h=>(∃ old,IsEnum h e it i old)∧h.IsListIter it a i) where
  mem:=by simp
  obj:=fun i h st b hb=>by
    obtain ⟨⟨old,se⟩,o,ho,c,d⟩:=st
    have z:b=e∨b=it:=by simpa using hb
    rcases z with rfl | rfl
    · exact ⟨_,se,fun v z=>nomatch z⟩
    · exact ⟨o,ho,fun v z=>by rw [d] at z;cases z⟩
  keep:=fun i h h' st kk=>⟨let ⟨old,se⟩:=st.1;⟨old,kk e (by simp) _ se⟩,st.2.at fun o q=>kk it (by simp) o q⟩
  item:=by
    intro X hP hw hK hc i pins s σ H E I hf st hg
    subst hP hw hK
    obtain ⟨xs,x,hq,hx⟩:=hg
    obtain ⟨⟨old,se⟩,si⟩:=st
    obtain ⟨its,rv,p,hz⟩:=I.list hq
    obtain ⟨u,hu,ru⟩:=rv.get hx
    refine wpAny_pyNext_enum_item se si p.isList (x:=u) (by simpa using hu) ne fun g eo gi gt _ gk=>?_
    refine ⟨_,rfl,wpAny_letOwnedTupleGo_enum eo fun g' se' sb=>?_⟩
    have I1:=qjC (g:=g') (tk:=s.toks+1) (xs:=[.int i,x]) (its:=[.int i s.toks,u]) I (hf e (by simp)) (hf it (by simp)) (fun b o h1 h2 q=>sb.extBut b o h1 (gk b o h1 h2 q)) (sz (by simp)) (.cons ⟨_,rfl⟩ (.cons ru .nil)) (sb.extBut _ _ (Nat.ne_of_gt (Heap.lt_size se)) gt)
    refine ⟨.ref s.heap.objs.size,_,I1,rfl,⟨_,x,I.hok.fresh (Nat.le_refl _),rfl,rfl,fun ys hy=>by rw [I.list_inj hy hq];exact hx⟩,⟨⟨_,by simpa using se'⟩,gi.at fun o q=>sb.extBut it o ne.symm q⟩,fun b hb=>?_⟩
    rw [qal]
    · exact (hf b hb).1
    · have z:b=e∨b=it:=by simpa using hb
      rcases z with rfl | rfl
      · exact Nat.ne_of_lt (Heap.lt_size se)
      · obtain ⟨o,ho,_⟩:=si;exact Nat.ne_of_lt (Heap.lt_size ho)
  done:=by
    intro X hP hw hK hc i pins s σ H E I hf st hg
    subst hP hw hK
    obtain ⟨xs,hq,hx⟩:=hg
    obtain ⟨⟨old,se⟩,si⟩:=st
    obtain ⟨its,rv,p,hz⟩:=I.list hq
    obtain ⟨f0,f1,f2,f3,f4,f5⟩:=hf it (by simp)
    have hl:=rv.length
    exact wpAny_pyNext_enum_end (I.ok.hd hc) se si p.isList (by simp;omega) fun g eb=>⟨rfl,I.turned (t':=s.toks) (fun b o hb q=>eb b o hb q) f0 f1 f3 f4 f5⟩
  self:=fun _ _ _ _ _ st h=>let ⟨_,se⟩:=st.1;wpAny_pyIter_enum se h
section
variable {X:Cx} {elts:List Expr} {k:Nat} {tpos:Pos} {a:Expr} {ta:TA} {p pos:Pos}
theorem qjD (hg:Gl X "enumerate") (hm:X.mg "enumerate" = none) (ha:PA X [a] ta) (hs:starEach [a] X.env=[(false,eval a X.env)]:=by rfl):PI X (.Tuple elts k tpos) (.Call (.Name "enumerate" p) [a] [] pos) (qfe X.K ta):=by
  intro pins s σ H R I h
  refine Call_ (qd4 I hg hm qfb (PyProof.Rows.callWith_type1 (thn (ha pos pins s σ H _ I h) fun us s1 ⟨vs,H1,I1,r1,q1⟩=>?_) hs rfl))
  obtain ⟨b,rfl,⟨xs,hq⟩,q⟩:=q1
  obtain ⟨u,rfl,ru⟩:=qe2 r1
  cases ru
  obtain ⟨its,rv,pl,hz⟩:=I1.list hq
  refine call_enumerate_list pl.isList fun g se si _ gk=>?_
  have I2:Inv X pins σ H1 { s1 with heap:=g }:=I1.kept (t':=s1.toks) gk
  refine wpAny_pyIter_enum se ⟨_,[s1.heap.objs.size+1,s1.heap.objs.size],_,_,H1,rfl,I2,qgS b _ _ (Nat.succ_ne_self _),⟨⟨_,se⟩,si⟩,fun c hc=>?_,q⟩
  have z:c=s1.heap.objs.size+1∨c=s1.heap.objs.size:=by simpa using hc
  rcases z with rfl | rfl
  · exact I1.fpOk (Nat.le_succ _) (I1.hok.fresh (Nat.le_succ _))
  · exact I1.fpOk (Nat.le_refl _) (I1.hok.fresh (Nat.le_refl _))
end
end Bs
namespace Bs
open PySem L2
mutual
inductive RepD (H:Hp):V→PySem.W.Dat→Prop
  | non:RepD H .non .none
  | int (i:Int):RepD H (.int i) (.int i)
  | tup {p:Addr} {xs:List V} {ds:List PySem.W.Dat} (h:H p=some (.tup xs)) (r:RepA H xs ds):RepD H (.ref p) (.tuple ds)
  | lst {p:Addr} {xs:List V} {ds:List PySem.W.Dat} (h:H p=some (.lst xs)) (r:RepA H xs ds):RepD H (.ref p) (.list ds)
inductive RepA (H:Hp):List V→List PySem.W.Dat→Prop
  | nil:RepA H [] []
  | cons {x:V} {xs:List V} {d:PySem.W.Dat} {ds:List PySem.W.Dat} (h:RepD H x d) (r:RepA H xs ds):RepA H (x::xs) (d::ds)
end
noncomputable def eqD:R2:=fun x y H Q=>∃ (d e:PySem.W.Dat) (b:Bool),RepD H x d∧RepD H y e∧PySem.W.kqdOk 8 d=true∧PySem.W.kqdOk 8 e=true∧(b=true↔d=e)∧Q (.bl b) H
noncomputable def neD:R2:=fun x y H Q=>∃ (d e:PySem.W.Dat) (b:Bool),RepD H x d∧RepD H y e∧PySem.W.kqdOk 8 d=true∧PySem.W.kqdOk 8 e=true∧(b=true↔d=e)∧Q (.bl (!b)) H
noncomputable def qjE (te:TE):TT:=fun σ H Q=>te σ H fun x H'=>∃ p xs,x=.ref p∧H' p=some (.lst xs)∧Q (!xs.isEmpty) H'
noncomputable def qnw (te:TE):TT:=fun σ H Q=>te σ H fun x H'=>∃ p xs,x=.ref p∧H' p=some (.tup xs)∧Q (!xs.isEmpty) H'
noncomputable def sL:V→Option Int→Option Int→Hp→VK→Prop:=fun x lo hi H Q=>∃ a xs,x=.ref a∧H a=some (.lst xs)∧∀ p,H p=none→Q (.ref p) (upd H p (.lst (qi9 xs lo hi)))
noncomputable def qk3:List V→Hp→VK→Prop:=fun xs H Q=>∃ p ys,xs=[.ref p]∧H p=some (.lst ys)∧∀ l,H l=none→Q (.ref l) (upd H l (.tup ys))
noncomputable def qcT:List V→Hp→VK→Prop:=fun xs H Q=>∃ p ys,xs=[.ref p]∧H p=some (.tup ys)∧∀ l,H l=none→Q (.ref l) (upd H l (.lst ys))
noncomputable def qh3:List V→Hp→VK→Prop:=fun xs H Q=>∃ p ys,xs=[.ref p]∧H p=some (.lst ys)∧∀ l,H l=none→Q (.ref l) (upd H l (.lst ys))
end Bs
namespace Bs
open PySem PySem.Spec PyProof.Rows L2
section
variable {X:Cx} {pins:List (Addr×Obj)} {σ:L2.St} {H:Hp} {s:Shared}
mutual
theorem qbw (I:Inv X pins σ H s):∀ {x:V} {d:PySem.W.Dat} {u:Value},RepD H x d→RelV x u→∃ as,Reads s.heap u (PySem.W.kqdP d) as
  | _,_,_,.non,e=>by cases e;rw [PySem.W.kqdP];exact ⟨_,Reads.none⟩
  | _,_,_,.int i,⟨t,e⟩=>by subst e;rw [PySem.W.kqdP];exact ⟨_,Reads.int i t⟩
  | _,_,_,.tup h r,e=>by
    cases e
    obtain ⟨its,rv,p,_⟩:=I.tuple (SqT.of h)
    obtain ⟨as,q⟩:=qeA I r rv
    obtain ⟨o,ho,hc,n,hd⟩:=p
    rw [PySem.W.kqdP]
    exact ⟨as,reads_tuple_at ho hc hd (by simpa using q)⟩
  | _,_,_,.lst h r,e=>by
    cases e
    obtain ⟨its,rv,p,_⟩:=I.list (SqL.of h)
    obtain ⟨as,q⟩:=qeA I r rv
    obtain ⟨o,n,ho,hc,_,hd⟩:=p
    rw [PySem.W.kqdP]
    exact ⟨_,reads_list_at ho hc hd (by simpa using q)⟩
theorem qeA (I:Inv X pins σ H s):∀ {xs:List V} {ds:List PySem.W.Dat} {us:List Value},RepA H xs ds→Vals xs us→∃ as,ReadsAll s.heap us (PySem.W.kqdPs ds) as
  | _,_,_,.nil,.nil=>by rw [PySem.W.kqdPs];exact ⟨_,ReadsAll.nil⟩
  | _,_,_,.cons h r,.cons e es=>by
    obtain ⟨as,q⟩:=qbw I h e
    obtain ⟨bs,q2⟩:=qeA I r es
    rw [PySem.W.kqdPs]
    exact ⟨_,ReadsAll.cons q q2⟩
end
theorem qcr {d:PySem.W.Dat} (h:PySem.W.kqdOk 8 d=true):SeqAt.shaped (PySem.W.kqdP d)=true:=by
  have z:=PySem.W.kqd_lay 8 d h
  unfold SeqAt.shaped
  rw [z.1,Bool.true_and]
  exact decide_eq_true (Nat.le_trans z.2 (by decide))
theorem qkg {d e:PySem.W.Dat} {b:Bool} (h1:PySem.W.kqdOk 8 d=true) (h2:PySem.W.kqdOk 8 e=true) (hb:b=true↔d=e):PyData.eqv (PySem.W.kqdP d) (PySem.W.kqdP e)=b:=by
  rw [Bool.eq_iff_iff,hb]
  exact PySem.W.kqd_eqv 8 d e 8 h1 h2
theorem qmr (hu:X.A.units+64<cLine):OpR X (compareOp .Eq) eqD:=by
  intro pins s σ H x y v u Q I rx ry h
  obtain ⟨d,e,b,r1,r2,k1,k2,hb,q⟩:=h
  obtain ⟨as,q1⟩:=qbw I r1 rx
  obtain ⟨bs,q2⟩:=qbw I r2 ry
  exact eq_dataH q1 q2 (qcr k1) (qcr k2) hu (by rw [qkg k1 k2 hb];exact ⟨.bl b,H,I,rfl,q⟩)
theorem qms (hu:X.A.units+64<cLine):OpR X (compareOp .NotEq) neD:=by
  intro pins s σ H x y v u Q I rx ry h
  obtain ⟨d,e,b,r1,r2,k1,k2,hb,q⟩:=h
  obtain ⟨as,q1⟩:=qbw I r1 rx
  obtain ⟨bs,q2⟩:=qbw I r2 ry
  exact ne_dataH q1 q2 (qcr k1) (qcr k2) hu (by rw [qkg k1 k2 hb];exact ⟨.bl (!b),H,I,rfl,q⟩)
theorem qh4 {a:Expr} {ta:TE} (ha:PE X a ta) (he:∀ whole,isTrue a X.env whole=(do let v ← whole;standAt a.pos;holding [v] (truthy v))):PT X a (qjE ta):=fun pins s σ H Q I h=>
  isTrue_plain (thn (ha pins s σ H _ I h) fun v s1 ⟨x,H1,I1,r1,q1⟩=>by
    obtain ⟨p,xs,e,hp,q⟩:=q1
    subst e
    exact qlV pins s1 σ H1 _ v Q I1 r1 ⟨_,.inl ⟨xs,SqL.of hp,rfl⟩,q⟩) (he _)
theorem qh5:qca X (.type "tuple") qk3:=fun pins s σ H xs us Q I r h=>by
  obtain ⟨p,ys,e,hp,q⟩:=h
  exact qeu pins s σ H xs us Q I r ⟨p,ys,e,.inl ⟨SqL.of hp,q⟩⟩
theorem qbx:qca X (.type "list") qcT:=fun pins s σ H xs us Q I r h=>by
  obtain ⟨p,ys,e,hp,q⟩:=h
  exact qcS pins s σ H xs us Q I r ⟨p,ys,e,.inr (SqT.of hp),q⟩
theorem qgT:qca X (.type "list") qh3:=fun pins s σ H xs us Q I r h=>by
  obtain ⟨p,ys,e,hp,q⟩:=h
  exact qcS pins s σ H xs us Q I r ⟨p,ys,e,.inl (SqL.of hp),q⟩
theorem qfg:∀ {bs:List Bool} {us:List Value},Vals (bs.map V.bl) us→us=bs.map Value.bool
  | [],_,.nil=>rfl
  | b::bs,_,.cons e r=>by rw [show _=Value.bool b from e,qfg r];rfl
theorem qcH {K:W.Frag} {p:Addr} {xs:List V} (h:H p=some (.lst xs)):tyV K "list" (.ref p) H:=.inl ⟨rfl,xs,SqL.of h⟩
end
end Bs
namespace Bs
open PySem L2
noncomputable def qfh (n:Nat) (t:TGs):TG:=fun v σ H Q=>∃ a xs,v=.ref a∧H a=some (.tup xs)∧xs.length=n∧t xs σ H Q
end Bs
namespace Bs
open PySem PySem.Spec PyProof.Rows L2
theorem qcI {X:Cx} {es:List Expr} {k:Nat} {pos:Pos} {t:TGs} {n:Nat} (hc:X.calm=true) (h:PGs X es t)
    (hn:(assignEach es X.env).length=n:=by rfl) (hst:(assignEach es X.env).findIdx? (·.1)=none:=by rfl):PG X (.Tuple es k pos) (qfh n t):=fun pins s σ H v u Q I r q=>by
  obtain ⟨a,xs,e,ha,hl,q⟩:=q
  exact qlT hc h hn hst pins s σ H v u Q I r ⟨a,xs,e,SqT.of ha,hl,q⟩
end Bs
namespace Bs
open PySem L2
noncomputable def sT:V→Option Int→Option Int→Hp→VK→Prop:=fun x lo hi H Q=>∃ a xs,x=.ref a∧H a=some (.tup xs)∧∀ p H',(H'=H∧p=a∧qi9 xs lo hi=xs)∨(H p=none∧H'=upd H p (.tup (qi9 xs lo hi)))→Q (.ref p) H'
end Bs
namespace HT
open PySem PySem.Spec PyProof.Rows
end HT
namespace Bs
open PySem PySem.Spec PyProof.Rows L2
end Bs
namespace Bs
open PySem L2
noncomputable def Itd (lo:Int) (n:Nat):It:=⟨fun i _=>i<n,fun i H x H'=>H'=H∧x=.int (lo - i),fun i _=>n≤i⟩
noncomputable def Itv (K:W.Frag) (a:Addr) (n:Nat):It:=⟨fun i H=>i<n∧∃ xs,SqL K H a xs∧xs.length=n,fun i H x H'=>H'=H∧∀ xs,SqL K H a xs→xs[n - 1 - i]?=some x,fun i _=>n=i⟩
noncomputable def qnx (ta:TA):TI:=fun σ H R=>ta σ H fun vs H1=>∃ i j:Int,vs=[.int i,.int j,.int (-1)]∧(-(2 ^ 62)≤i∧i<2 ^ 62∧-(2 ^ 62)≤j∧j<2 ^ 62)∧R (Itd i (i - j).toNat) H1
noncomputable def qoo (K:W.Frag) (ta:TA):TI:=fun σ H R=>ta σ H fun vs H1=>∃ a xs,vs=[.ref a]∧SqL K H1 a xs∧R (Itv K a xs.length) H1
section
variable {K:W.Frag} {ta:TA} {g:TG} {tb:TS} {D:Ends} {σ:L2.St} {H:Hp} {a:Addr} {xs:List V}
theorem qk4:qfy (qnx ta) g tb D σ H=ta σ H (fun vs H1=>∃ i j:Int,vs=[.int i,.int j,.int (-1)]∧(-(2 ^ 62)≤i∧i<2 ^ 62∧-(2 ^ 62)≤j∧j<2 ^ 62)∧ForJ (Itd i (i - j).toNat) g tb D σ H1):=rfl
theorem qk5:qfy (qoo K ta) g tb D σ H=ta σ H (fun vs H1=>∃ a xs,vs=[.ref a]∧SqL K H1 a xs∧ForJ (Itv K a xs.length) g tb D σ H1):=rfl
end
end Bs
namespace Bs
open PySem PySem.Spec PyProof.Rows L2
end Bs
namespace Bs
open PySem L2
noncomputable def qop:R2:=fun x y H Q=>y=.non∧Q (.bl (decide (x=.non))) H
noncomputable def qny:R2:=fun x y H Q=>y=.non∧Q (.bl (!decide (x=.non))) H
noncomputable def qn1 (_ j:Int):Prop:=0<j
noncomputable def qlK (_ j:Int):Prop:=j≠0
noncomputable abbrev qgU:R2:=rI qn1 fun i j=>.int (i / j)
noncomputable abbrev qgV:R2:=rI qlK fun i j=>.int (i.fdiv j)
noncomputable def Itz (K:W.Frag) (a b:Addr):It:=
  ⟨fun i H=>∃ xs ys x y,SqL K H a xs∧SqL K H b ys∧xs[i]?=some x∧ys[i]?=some y,fun i H v H'=>∃ p x y,H p=none∧v=.ref p∧H'=upd H p (.tup [x,y])∧(∀ xs,SqL K H a xs→xs[i]?=some x)∧∀ ys,SqL K H b ys→ys[i]?=some y,fun i H=>∃ xs ys,SqL K H a xs∧SqL K H b ys∧xs.length≤i⟩
noncomputable def qoq (K:W.Frag) (ta:TA):TI:=fun σ H R=>ta σ H fun vs H1=>∃ a b,vs=[.ref a,.ref b]∧(∃ xs,SqL K H1 a xs)∧(∃ ys,SqL K H1 b ys)∧R (Itz K a b) H1
noncomputable def qfi (wi:TI) (capt:List (Option Nat)) (g:TG) (tc:TT) (te:TE):TE:=fun σ H Q=>wi σ H fun J H1=>∃ (n:Nat) (W:Nat→List V→Hp→Prop),W 0 [] H1∧∀ i ys H,W i ys H→i≤n∧ys.length≤sizeLine∧
  ((J.stop i H∧∀ p,H p=none→Q (.ref p) (upd H p (.lst ys)))∨(i<n∧J.go i H∧∀ x H',J.yld i H x H'→g x (qbN capt σ) H' fun σ2 H2=>tc σ2 H2 fun b H3=>if b=true then te σ2 H3 fun y H4=>W (i+1) (ys++[y]) H4 else W (i+1) ys H3))
noncomputable def CompF (J:It) (capt:List (Option Nat)) (g:TG) (tc:TT) (te:TE) (σ:L2.St) (Q:VK) (H1:Hp):Prop:=∃ (n:Nat) (W:Nat→List V→Hp→Prop),W 0 [] H1∧∀ i ys H,W i ys H→i≤n∧ys.length≤sizeLine∧
  ((J.stop i H∧∀ p,H p=none→Q (.ref p) (upd H p (.lst ys)))∨(i<n∧J.go i H∧∀ x H',J.yld i H x H'→g x (qbN capt σ) H' fun σ2 H2=>tc σ2 H2 fun b H3=>if b=true then te σ2 H3 fun y H4=>W (i+1) (ys++[y]) H4 else W (i+1) ys H3))
section
variable {K:W.Frag} {ta:TA} {tl:TE} {capt:List (Option Nat)} {g:TG} {tc:TT} {te:TE} {tb:TS} {D:Ends} {σ:L2.St} {H:Hp} {Q:VK} {a b:Addr} {xs ys:List V}
theorem qjF:qfi (qdf K tl) capt g tc te σ H Q=tl σ H (fun x H1=>∃ a,x=.ref a∧(∃ xs,SqL K H1 a xs)∧CompF (Itl K a) capt g tc te σ Q H1):=rfl
theorem qk6:qbC (qoq K ta) capt g te σ H Q=ta σ H (fun vs H1=>∃ a b,vs=[.ref a,.ref b]∧(∃ xs,SqL K H1 a xs)∧(∃ ys,SqL K H1 b ys)∧CompJ (Itz K a b) capt g te σ Q H1):=rfl
theorem CompF.lst (W:Nat→List V→Hp→Prop) (h0:W 0 [] H) (hb:∀ i ys H,W i ys H→i≤xs.length∧ys.length≤sizeLine∧SqL K H a xs)
    (hs:∀ i x ys H,xs[i]?=some x→W i ys H→g x (qbN capt σ) H fun σ2 H2=>tc σ2 H2 fun b H3=>if b=true then te σ2 H3 fun y H4=>W (i+1) (ys++[y]) H4 else W (i+1) ys H3) (hd:∀ ys H,W xs.length ys H→∀ p,H p=none→Q (.ref p) (upd H p (.lst ys))):CompF (Itl K a) capt g tc te σ Q H:=by
  refine ⟨xs.length,W,h0,fun i ys H w=>⟨(hb i ys H w).1,(hb i ys H w).2.1,?_⟩⟩
  have q:SqL K H a xs:=(hb i ys H w).2.2
  by_cases h:i<xs.length
  · refine .inr ⟨h,⟨xs,xs[i],q,by simp [h]⟩,fun x H' y=>?_⟩
    obtain ⟨e,y⟩:=y
    subst e
    exact hs i x ys _ (y xs q) w
  · have e:i=xs.length:=Nat.le_antisymm (hb i ys H w).1 (Nat.not_lt.mp h)
    subst e
    exact .inl ⟨⟨xs,q,Nat.le_refl _⟩,hd ys H w⟩
theorem CompJ.zip (hl:xs.length=ys.length) (W:Nat→List V→Hp→Prop) (h0:W 0 [] H) (hb:∀ i zs H,W i zs H→i≤xs.length∧zs.length≤sizeLine∧SqL K H a xs∧SqL K H b ys)
    (hs:∀ i x y zs H p,xs[i]?=some x→ys[i]?=some y→W i zs H→H p=none→g (.ref p) (qbN capt σ) (upd H p (.tup [x,y])) fun σ2 H2=>te σ2 H2 fun z H3=>W (i+1) (zs++[z]) H3) (hd:∀ zs H,W xs.length zs H→∀ p,H p=none→Q (.ref p) (upd H p (.lst zs))):CompJ (Itz K a b) capt g te σ Q H:=by
  refine ⟨xs.length,W,h0,fun i zs H w=>⟨(hb i zs H w).1,(hb i zs H w).2.1,?_⟩⟩
  obtain ⟨_,_,q,q2⟩:=hb i zs H w
  by_cases h:i<xs.length
  · refine .inr ⟨h,⟨xs,ys,xs[i],ys[i],q,q2,by simp [h],by simp [hl ▸ h]⟩,fun v H' y=>?_⟩
    obtain ⟨p,x,y,hp,e1,e2,h1,h2⟩:=y
    subst e1 e2
    exact hs i x y zs _ p (h1 xs q) (h2 ys q2) w hp
  · have e:i=xs.length:=Nat.le_antisymm (hb i zs H w).1 (Nat.not_lt.mp h)
    subst e
    exact .inl ⟨⟨xs,ys,q,q2,Nat.le_refl _⟩,hd zs H w⟩
end
noncomputable def qmt:V→Hp→VK→Prop:=fun x H Q=>∃ (p:Addr) (ns:List Int),x=.ref p∧H p=some (.lst (ns.map V.int))∧∀ m:Int,(ns=[]∧m=0∨m∈ns)→Q (.int m) H
noncomputable def qnz (te:TE):TE:=fun σ H Q=>te σ H fun x H1=>qmt x H1 Q
noncomputable def qnA:List V→Hp→VK→Prop:=fun xs H Q=>∃ (p:Addr) (ns:List Int),xs=[.ref p]∧H p=some (.lst (ns.map V.int))∧Q (.bl (ns.any fun z=>!decide (z=0))) H
end Bs
namespace Bs
open PySem PySem.Spec PyProof.Rows L2
section
variable {X:Cx} {pins:List (Addr×Obj)} {σ:L2.St} {H:Hp} {s:Shared}
theorem qcs:OpR X (binaryOp .FloorDiv) qgV:=by
  intro pins s σ H x y v u Q I rx ry ⟨i,j,ex,ey,hc,q⟩
  subst ex ey
  obtain ⟨t,rfl⟩:=rx
  obtain ⟨t2,rfl⟩:=ry
  exact floordiv_int hc ⟨.int (i.fdiv j),H,I.tok _,⟨_,rfl⟩,q⟩ (Or.inr (I.ok.plr s I.bk))
theorem qc8:OpR X (binaryOp .FloorDiv) qgU:=by
  intro pins s σ H x y v u Q I rx ry ⟨i,j,ex,ey,hc,q⟩
  have hc':0<j:=hc
  replace q:Q (.int (i / j)) H:=q
  rw [← Int.fdiv_eq_ediv_of_nonneg i (Int.le_of_lt hc')] at q
  exact qcs pins s σ H x y v u Q I rx ry ⟨i,j,ex,ey,Int.ne_of_gt hc',q⟩
end
section
variable {X:Cx} {elts:List Expr} {k:Nat} {tpos:Pos} {a b:Expr} {ta:TA} {p pos:Pos}
theorem vals2 {x y:V} {us:List Value} (r:Vals [x,y] us):∃ u v,us=[u,v]∧RelV x u∧RelV y v:=r.two
end
theorem qmu:bootBuiltins "any" = some (.builtin "any"):=by decide +kernel
section
variable {X:Cx}
end
section
variable {prog:Program} {w:World} {A:Around} {R:Result→Shared→Prop} {I:Addr} {fp wr:List Addr} {n:Nat} {P:Nat→Value→Prop} {St:Nat→Heap→Prop} {d:Value}
end
section
variable {X:Cx} {e:Expr} {te:TE} {p pos kp1 kp2:Pos} {kk:Nat}
end
end Bs
namespace Bs
open PySem PySem.Spec PyProof.Rows L2
section
variable {X:Cx} {pins:List (Addr×Obj)} {σ:L2.St} {H:Hp} {s:Shared} {N:List Str} {capt:List (Option Nat)} {scope:Scope} {cl:List (Str×Addr)} {C:Addr} {fp:List Addr}
theorem qfj {prog:Program} {w:World} {A:Around} {R:Result→Shared→Prop} {s:Shared} {elt target iter c:Expr} {scope:Scope} {pos:Pos} {it acc:Value} {env:Env} (I:Nat→Shared→Prop)
    (turn:∀ n s,I n s→wpAny (model prog w) A (pyNext it) (fun r s₁=>match r with
      | none=>R (.ok .next) s₁
      | some v=>wpAny (model prog w) A (letOwnedTupleGo target it v) (fun _ s₂=>wpAny (model prog w) A (assign target env v) (fun _ s₃=>wpAny (model prog w) A (isTrue c env (eval c env)) (fun okb s₆=>if okb=true then wpAny (model prog w) A (eval elt env) (fun x s₄=>
          wpAny (model prog w) A (call (.builtin "list.append") [acc,x]) (fun _ s₅=>∃ m,m<n∧I m s₅) (fun _ _=>False) s₄) (fun _ _=>False) s₆ else ∃ m,m<n∧I m s₆) (fun _ _=>False) s₃) (fun _ _=>False) s₂) (fun _ _=>False) s₁) (fun _ _=>False) s)
    (n:Nat) (h:I n s):codeAny (model prog w) A (.compLoop (.ListComp elt [⟨target,iter,[c],0⟩] scope pos) 0 it acc env) R s:=by
  refine codeAny_loop rfl I (fun n s hI=>?_) n h
  show wpAny _ A ((compTurn (.ListComp elt [⟨target,iter,[c],0⟩] scope pos) 0 it acc env).onRaise (fun x=>do noteFrame x env;theTreesLotGoes x)) _ _ s
  refine wpAny_noted ?_
  rw [compTurn_list]
  have no:∀ {E':Value→Shared→Prop} (e:Value) (s':Shared),(fun (_:Value) (_:Shared)=>False) e s'→E' e s':=fun _ _ f=>f.elim
  refine wpAny_bind (wpAny_standAt (wpAny_bind (wpAny_mono (turn n s hI) (fun r s₁ h₁=>?_) no)))
  cases r with
  | none=>exact wpAny_pure h₁
  | some v=>
    refine wpAny_bind (wpAny_mono h₁ (fun _ s₂ h₂=>?_) no)
    refine wpAny_bind (wpAny_mono h₂ (fun _ s₆ h₆=>wpAny_bind (wpAny_tests_one (wpAny_mono h₆ (fun okb s₃ h₃=>?_) no))) no)
    cases okb with
    | false=>exact wpAny_pure ⟨rfl,h₃⟩
    | true=>exact wpAny_bind (wpAny_bind (wpAny_mono h₃ (fun x s₄ h₄=>wpAny_bind (wpAny_mono h₄ (fun _ s₅ h₅=>wpAny_pure (wpAny_pure ⟨rfl,h₅⟩)) no)) no))
theorem qgW {elt iter tg c:Expr} {tc:TT} {pos:Pos} {wi:TI} {g:TG} {te:TE} {pins:List (Addr×Obj)} {s:Shared} {σ:L2.St} {H:Hp} {Q:VK} (RR:Value→Addr→Result→Shared→Prop) (hc:X.calm=true) (B:BlkOk X N capt scope cl) (hi:PI X tg iter wi)
    (hg:∀ C s H fp,PG (blk X N scope cl C s H fp) tg g) (ht:∀ C s H fp,PT (blk X N scope cl C s H fp) c tc) (he:∀ C s H fp,PE (blk X N scope cl C s H fp) elt te) (I:Inv X pins σ H s) (h:qfi wi capt g tc te σ H Q)
    (fin:∀ (D C:Addr) (s4:Shared) (Hq:Hp) (m:Str→Option Value),Inv X pins σ Hq s4→Q (.ref D) Hq→s4.heap.Ns C m→Hq C=none→C≠X.env.locals→X.s₀.heap.objs.size≤C→(∀ x c,X.env.cells.lookup x=some c→c≠C)→(∀ p∈X.pn++pins,p.1≠C)→RR (.ref D) C (.ok .next) s4) :
    wpAny (model X.prog X.w) X.A (eval iter X.env) (fun x s₁=>wpAny (model X.prog X.w) X.A (pyIter x) (fun it s₂=>wpAny (model X.prog X.w) X.A (newList []) (fun acc s₃=>
      wpAny (model X.prog X.w) X.A (newFunctionEnv scope X.env.globals cl [] X.env.qual none .none (some X.env)) (fun cenv s₄=>
        codeAny (model X.prog X.w) X.A (.compStart (.ListComp elt [⟨tg,iter,[c],0⟩] scope pos) 0 it acc { cenv with scope:=relabel scope X.env }) (RR acc cenv.locals) s₄) X.xe s₃) X.xe s₂) X.xe s₁) X.xe s:=by
  refine thn (hi pins s σ H _ I h) fun v s1 h1=>thn h1 fun itv s2 h2=>?_
  obtain ⟨it,fp,tn,J,H2,e,I2,T,st2,f2,n0,W,w0,turn⟩:=h2
  subst e
  have fl:∀ b∈fp,b<s2.heap.objs.size:=fun b hb=>by obtain ⟨o,e,_⟩:=T.obj _ _ st2 b hb;exact Heap.lt_size e
  refine wpAny_newObj_type (wpAny_newFunctionEnv B.nocell (by intro y hy;simp at hy) (fun h₁ hns₁ hsb₁=>?_) B.kind)
  dsimp only at hns₁ hsb₁ ⊢
  generalize hG:s2.heap.push { cls:=.type "list", dict:=none,data:=.seq ([]:List Value).toArray }=G at hns₁ hsb₁ ⊢
  have hC:G.objs.size=s2.heap.objs.size+1:=by rw [← hG,Heap.size_push]
  have hCle:s2.heap.objs.size≤G.objs.size:=by rw [hC];exact Nat.le_succ _
  have hDC:s2.heap.objs.size≠G.objs.size:=by rw [hC];exact Nat.ne_of_lt (Nat.lt_succ_self _)
  have old:∀ b o,s2.heap.get? b=some o→h₁.get? b=some o:=fun b o e=>hsb₁.extBut b o (by rw [hC];exact Nat.ne_of_lt (Nat.lt_succ_of_lt (Heap.lt_size e))) (Heap.get?_push_of_some _ (hG ▸ Heap.get?_push_of_some _ e))
  have hacc:h₁.get? s2.heap.objs.size=some { cls:=.type "list", data:=.seq ([]:List Value).toArray }:=hsb₁.extBut _ _ hDC (Heap.get?_push_of_some _ (hG ▸ Heap.get?_push_size _ rfl))
  have ok':=qh1 B I2 f2 fl hCle
  have nsD:s2.heap.objs.size∉frs X.stack:=fun hb=>by
    rcases List.mem_cons.mp (I2.stkSub _ hb) with z | z
    · exact absurd I2.lt (by rw [← z];exact Nat.lt_irrefl _)
    · exact I2.nofs (Nat.le_refl _) z
  have ncD:∀ x c,cl.lookup x=some c→c≠s2.heap.objs.size:=fun x c e z=>by
    obtain ⟨v,q⟩:=I2.cell x c (B.cells x c e)
    exact absurd q.lt (by rw [z];exact Nat.lt_irrefl _)
  have nfD:∀ b∈fp,s2.heap.objs.size≠b:=fun b hb z=>absurd (fl b hb) (by rw [← z];exact Nat.lt_irrefl _)
  have I₁:Inv (blk X N scope cl G.objs.size s2 H2 fp) [] (qbN capt σ) H2 { s2 with heap:=h₁,toks:=s2.toks+([]:List (Str×Value)).length }:=qh2 B I2 f2 fl hCle hns₁ old
  have loop:codeAny (model X.prog X.w) X.A (.compLoop (.ListComp elt [⟨tg,iter,[c],0⟩] scope pos) 0 (.ref it) (.ref s2.heap.objs.size) (compEnvC scope cl G.objs.size X.env))
      (RR (.ref s2.heap.objs.size) G.objs.size) { s2 with heap:=h₁,toks:=s2.toks+([]:List (Str×Value)).length }:=by
    refine qfj (fun n s'=>∃ (i:Nat) (ys:List V) (its:List Value) (k:Nat) (Hc:Hp),Inv (blk X N scope cl G.objs.size s2 H2 fp) [] (qbN capt σ) Hc s'∧s'.heap.get? s2.heap.objs.size=some { cls:=.type "list", data:=.seq its.toArray k }∧Vals ys its∧
      Hc s2.heap.objs.size=none∧tn i s'.heap∧(∀ b∈fp,Hc b=none)∧W i ys Hc∧n=n0 - i) ?_ n0 ⟨0,[],[],0,H2,I₁,hacc,.nil,I2.hok.fresh (Nat.le_refl _),T.keep _ _ _ st2 (fun b _ o e=>old b o e),fun b hb=>(f2 b hb).1,w0,rfl⟩
    rintro n s3 ⟨i,ys,its,k,Hc,I3,hD,hv,nD,st3,fr3,w3,en⟩
    obtain ⟨_,hl,step⟩:=turn i ys Hc w3
    have hz:its.toArray.size≤sizeLine:=by rw [List.size_toArray,← hv.length];exact hl
    have I3p:Inv (blk X N scope cl G.objs.size s2 H2 fp) [(s2.heap.objs.size,{ cls:=.type "list", data:=.seq its.toArray k })] (qbN capt σ) Hc s3:=I3.pins_of fun p hp=>by
      rw [List.mem_singleton] at hp
      subst hp
      exact ⟨hD,nD,hDC,nsD,fun v z=>nomatch z⟩
    have fo3:∀ {Hx:Hp} (_:∀ b∈fp,Hx b=none),∀ b∈fp,qgD (blk X N scope cl G.objs.size s2 H2 fp) [(s2.heap.objs.size,{ cls:=.type "list", data:=.seq its.toArray k })] Hx b:=fun hx b hb=>
      ⟨hx b hb,(ok'.exf b hb).1,ok'.exfs b hb,.inl hb,(ok'.exf b hb).2,fun p hp=>by
        have hp':p∈[((s2.heap.objs.size,{ cls:=.type "list", data:=.seq its.toArray k }):Addr×Obj)]:=hp
        rw [List.mem_singleton] at hp'
        subst hp'
        exact nfD b hb⟩
    rcases step with ⟨stop,q⟩ | ⟨ltn,go,nxt⟩
    · refine thn (T.done (blk X N scope cl G.objs.size s2 H2 fp) rfl rfl rfl hc i _ s3 _ Hc _ I3p (fo3 fr3) st3 stop) fun r s4 ⟨hr,I4⟩=>?_
      subst hr
      have hD4:=(I4.pin (s2.heap.objs.size,{ cls:=.type "list", data:=.seq its.toArray k }) (List.mem_append_right _ (List.mem_singleton.mpr rfl))).1
      obtain ⟨m,hn,_⟩:=I4.loc
      have nDt:∀ b u,Hc b=some u→b≠s2.heap.objs.size:=fun b u e z=>by rw [z,nD] at e;cases e
      have oldC:∀ b o,s2.heap.get? b=some o→b≠s2.heap.objs.size:=fun b o e=>Nat.ne_of_lt (Heap.lt_size e)
      have ub:Un (frs X.stack) fp H2 Hc s2.heap s4.heap:=I4.base
      have cC:∀ b,b<s2.heap.objs.size→b≠G.objs.size:=fun b hb z=>absurd (Nat.lt_of_lt_of_le hb hCle) (by rw [z];exact Nat.lt_irrefl _)
      refine fin _ G.objs.size s4 (upd Hc s2.heap.objs.size (.lst ys)) m ?_ (q _ nD) hn (by rw [qal (fun z=>hDC z.symm)];exact I4.free) (fun z=>cC _ I2.lt z.symm) (Nat.le_trans I2.sz hCle)
        (fun x c e=>by obtain ⟨v,q⟩:=I2.cell x c e;exact cC _ q.lt) fun p hp=>cC _ (Heap.lt_size (I2.pin p hp).1)
      refine I2.call' (ch:=fp) (s':=s4) I4.os ?_ ?_ I4.bare fun b hb=>⟨(f2 b hb).2.2.2.1,(f2 b hb).2.1,(f2 b hb).2.2.2.2.1,(f2 b hb).2.2.2.2.2⟩
      · refine ⟨ub.keep,ub.slot,fun b o e n hx=>?_,ub.there,fun b xs e=>?_,fun b o u e=>?_,fun b ps e=>?_⟩
        · rw [qal (oldC b o e)];exact ub.free b o e n hx
        · have z:=ub.tups b xs e
          rw [qal (nDt b _ z)];exact z
        · have z:=ub.frzs b o u e
          rw [qal (nDt b _ z)];exact z
        · obtain ⟨more,z⟩:=ub.tbls b ps e
          exact ⟨more,by rw [qal (nDt b _ z)];exact z⟩
      · intro b u e
        by_cases hb:b=s2.heap.objs.size
        · subst hb
          rw [qad] at e
          cases e
          exact ⟨hl,its,k,hv,hD4⟩
        · rw [qal hb] at e
          exact (I4.hok b u e).stay (fun c v _ q=>q) (fun c q=>by rw [qal (nDt c _ q)];exact q) fun c xs q=>by rw [qal (nDt c _ q)];exact q
    · refine thn (T.item (blk X N scope cl G.objs.size s2 H2 fp) rfl rfl rfl hc i _ s3 _ Hc _ I3p (fo3 fr3) st3 go) fun r s4 ⟨u,hr,h4⟩=>?_
      subst hr
      refine thn h4 fun _ s5 ⟨x,H5,I5,r5,y5,st5,fr5⟩=>?_
      have I5':=I5.pinned (fo3 fr5) (T.obj _ _ st5)
      refine thn (hg _ _ _ _ _ s5 _ H5 x u _ I5' r5 (nxt x H5 y5)) fun _ s6 ⟨σ6,H6,I6,q6⟩=>?_
      refine thn (ht _ _ _ _ _ s6 σ6 H6 _ I6 q6) fun okb s9 ⟨H9,I9,q9⟩=>?_
      have pF9:∀ b∈fp,∀ o,s5.heap.get? b=some o→s9.heap.get? b=some o∧H9 b=none:=fun b hb o e=>by
        have z:=I9.pin (b,o) (List.mem_append_right _ (List.mem_append_right _ (qbv hb e)))
        exact ⟨z.1,z.2.1⟩
      cases okb with
      | false=>
        have w9:W (i+1) ys H9:=q9
        have pD9:=I9.pin (s2.heap.objs.size,{ cls:=.type "list", data:=.seq its.toArray k }) (List.mem_append_right _ (List.mem_append_left _ (List.mem_singleton.mpr rfl)))
        have I9n:Inv (blk X N scope cl G.objs.size s2 H2 fp) [] σ6 H9 s9:=I9.pins_of fun p hp=>nomatch hp
        exact ⟨n0 - (i+1),by omega,i+1,ys,its,k,H9,qdm B I2 f2 I9n,pD9.1,hv,pD9.2.1,T.keep _ _ _ st5 (fun b hb o e=>(pF9 b hb o e).1),(fun b hb=>by
          obtain ⟨o,e,_⟩:=T.obj _ _ st5 b hb
          exact (pF9 b hb o e).2),w9,rfl⟩
      | true=>
      replace q9:te σ6 H9 fun y H4=>W (i+1) (ys++[y]) H4:=q9
      refine thn (he _ _ _ _ _ s9 σ6 H9 _ I9 q9) fun uy s7 ⟨y,H7,I7,r7,w7⟩=>?_
      have pD:=I7.pin (s2.heap.objs.size,{ cls:=.type "list", data:=.seq its.toArray k }) (List.mem_append_right _ (List.mem_append_left _ (List.mem_singleton.mpr rfl)))
      have pF:∀ b∈fp,∀ o,s5.heap.get? b=some o→s7.heap.get? b=some o∧H7 b=none:=fun b hb o e=>by
        have z:=I7.pin (b,o) (List.mem_append_right _ (List.mem_append_right _ (qbv hb e)))
        exact ⟨z.1,z.2.1⟩
      refine append_at (hsz:=hz) pD.1 fun h8 sb8 hD8=>?_
      have I7n:Inv (blk X N scope cl G.objs.size s2 H2 fp) [] σ6 H7 s7:=I7.pins_of fun p hp=>nomatch hp
      have I8:Inv (blk X N scope cl G.objs.size s2 H2 fp) [] σ6 H7 { s7 with heap:=h8,toks:=s7.toks }:=I7n.turned (fun b o hb e=>sb8.extBut b o hb e) pD.2.1 hDC (.inr (Nat.le_refl _)) ncD (fun p hp=>nomatch hp)
      refine ⟨n0 - (i+1),by omega,i+1,ys++[y],its++[uy],k+1,H7,qdm B I2 f2 I8,?_,Paired.snoc hv r7,pD.2.1,T.keep _ _ _ st5 (fun b hb o e=>sb8.extBut b o (nfD b hb).symm (pF b hb o e).1),fun b hb=>?_,w7,rfl⟩
      · show h8.get? _=_
        rw [hD8,List.push_toArray]
      · obtain ⟨o,e,_⟩:=T.obj _ _ st5 b hb
        exact (pF b hb o e).2
  exact codeAny_compStart_list loop (T.self X.A 0 _ _ _ (T.keep _ _ _ st2 (fun b _ o e=>old b o e)) loop)
end
end Bs
namespace Bs
open PySem L2
noncomputable def sS (K:W.Frag):V→Option Int→Option Int→Hp→VK→Prop:=fun x lo hi H Q=>∃ a xs,x=.ref a∧SqL K H a xs∧∀ p,H p=none→Q (.ref p) (upd H p (.lst (qi9 xs lo hi)))
noncomputable def qnB:List V→Hp→VK→Prop:=fun xs H Q=>∃ (p:Addr) (ns:List Int),xs=[.ref p]∧H p=some (.lst (ns.map V.int))∧Q (.int ns.sum) H
end Bs
namespace Bs
open PySem PySem.Spec PyProof.Rows L2
section
variable {X:Cx}
theorem qh6:SlR X (sS X.K):=qkK
end
end Bs
namespace Bs
open PySem L2
noncomputable def qnC (n:Nat) (t:TGs):TG:=fun v σ H Q=>∃ a xs,v=.ref a∧H a=some (.lst xs)∧xs.length=n∧t xs σ H Q
end Bs
namespace Bs
open PySem PySem.Spec PyProof.Rows L2
theorem qmv {m n:Nat} {a b:Int} (ha:Bd m a) (hb:Bd n b) (h:m+n≤134217728):IntMulOk a b:=IntMulOk.of_le (qhX ha) (qhX hb) h
end Bs
namespace Bs
open PySem L2
end Bs
namespace Bs
open PySem PySem.Spec PyProof.Rows L2
end Bs
namespace Bs
open PySem L2
end Bs
namespace Bs
open PySem PySem.Spec PyProof.Rows L2
end Bs
namespace Bs
open PySem L2
end Bs
namespace Bs
open PySem PySem.Spec PySem.Calls PyProof.Rows L2
section
variable {X:Cx}
theorem Inv.dK {pins:List (Addr×Obj)} {σ:L2.St} {H:Hp} {s:Shared} {p:Addr} {kvs:List (Key×V)} (I:Inv X pins σ H s) (h:H p=some (.dK kvs)) :
    kvs.length≤sizeLine∧(p == sysModules)=false∧∃ vs,KV kvs vs∧s.heap.DictOf (qeq X.prog X.w) p vs:=I.hok p _ h
end
end Bs
namespace Bs
open PySem PySem.Spec PySem.Calls PyProof.Rows L2
section
variable {X:Cx} {pos:Pos}
end
end Bs
namespace Bs
open PySem L2
end Bs
namespace Bs
open PySem PySem.Spec PySem.Calls PyProof.Rows L2
section
variable {X:Cx}
end
end Bs
namespace Bs
open PySem PySem.Spec PyProof.Rows L2
end Bs
namespace Bs
open PySem PySem.Spec PyProof.Rows L2
end Bs
namespace Bs
open PySem PySem.Spec PyProof.Rows L2
section
variable {X:Cx} {pins:List (Addr×Obj)} {σ:L2.St} {H:Hp} {s:Shared} {N:List Str} {capt:List (Option Nat)} {scope:Scope} {cl:List (Str×Addr)} {C:Addr} {fp:List Addr}
theorem qjG {i:Nat} {x:Str} {pos' spos:Pos} {elt iter tg c:Expr} {tc:TT} {pos:Pos} {wi:TI} {g:TG} {te:TE} (hN:X.N.Nodup) (hi':X.N[i]?=some x) (hx:Loc X.env.scope x) (hc:X.calm=true) (B:BlkOk X N capt scope cl) (hi:PI X tg iter wi)
    (hg:∀ C s H fp,PG (blk X N scope cl C s H fp) tg g) (ht:∀ C s H fp,PT (blk X N scope cl C s H fp) c tc) (he:∀ C s H fp,PE (blk X N scope cl C s H fp) elt te)
    (hsw:swapsWith (.ListComp elt [⟨tg,iter,[c],0⟩] scope pos) (some (.Name x pos')) spos.line X.env=pure true:=by rfl)
    (hs:∀ x,foldedSetIterable iter X.env x=pure x:=by intro _;rfl) (hf:X.fn x=true∨X.env.scope.names.lookup x=some .local:=by first | exact .inl rfl | exact .inr rfl | assumption) :
    PS X (.Assign [.Name x pos'] (.ListComp elt [⟨tg,iter,[c],0⟩] scope pos) spos) (qaY (qfi wi capt g tc te) (qap i)):=by
  intro pins s σ H D I h
  rw [exec_Assign_Name_used _ _ _ _ hsw]
  refine wpAny_bind (wpAny_standAt (wpAny_bind ?_))
  show wpAny _ X.A (do let _ ← comprehension (.ListComp elt [⟨tg,iter,[c],0⟩] scope pos) scope X.env _ (newList []) false (eval iter X.env) (some (assign (.Name x pos') X.env))) _ _ s
  refine wpAny_bind (wpAny_mono (wpAny_comprehension_free (use:=some (assign (.Name x pos') X.env)) (Q:=fun _ s'=>SP X pins D .next s') rfl hs B.clos B.kind B.names
    (qgW (fun acc C=>compPost (model X.prog X.w) X.A X.xe (some (assign (.Name x pos') X.env)) (fun _ s'=>SP X pins D .next s') acc C) hc B hi hg ht he I h fun Da C s4 Hq m I4 q hn hfr h1 h2 h3 h4=>?_)) (fun _ s' hq=>wpAny_pure (wpAny_pure hq)) fun _ _ e=>e)
  show wpAny _ X.A (assign (.Name x pos') X.env (.ref Da)) _ _ _
  refine wpAny_assign_Name (qdc I4 hN hi' hx (v:=.ref Da) rfl (fun s5 I5 ⟨a,sb5,ha⟩=>⟨m,hn.sameBut sb5 ?_,fun h' sb=>⟨_,_,I5.turned (fun b o hb e=>sb.extBut b o hb e) hfr h1 (.inr h2) h3 h4,q⟩⟩) hf)
  rcases ha with z | z
  · rw [z];exact h1
  · exact fun e=>h3 x a z e.symm
end
end Bs
namespace Bs
open PySem L2
noncomputable def blN (i:Int):Nat:=if i=0 then 0 else i.natAbs.log2+1
noncomputable def qng:R2:=rI (fun i j=>0≤j∧(blN i:Int)+j≤134217728) fun i j=>.int (i*2 ^ j.toNat)
noncomputable def qmw:V→List V→Hp→VK→Prop:=fun x xs H Q=>∃ i:Int,x=.int i∧xs=[]∧Q (.int (blN i)) H
end Bs
namespace Bs
open PySem PySem.Spec PyProof.Rows L2
section
variable {X:Cx}
theorem qh7:bootBuiltins "sorted" = some (.builtin "sorted"):=by decide +kernel
theorem qf8 (i:Int):Builtin.Int.intBits i=blN i:=by unfold Builtin.Int.intBits blN;by_cases h:i=0 <;> simp [h]
theorem op_shl:OpR X (binaryOp .LShift) qng:=opI fun _ _ _ _ _ _ _ hc q=>lshift_int hc.1 (by rw [qf8];exact hc.2) q
theorem qk7:MtR X "int.bit_length" qmw:=by
  intro pins s σ H x xs v us Q I rx rv h
  obtain ⟨i,rfl,rfl,q⟩:=h
  obtain ⟨t,rfl⟩:=rx
  cases rv
  exact call_int_bit_length ⟨.int (blN i),H,I.tok _,⟨_,by rw [qf8]⟩,q⟩
end
section
variable {prog:Program} {w:World} {A:Around} {R:Result→Shared→Prop} {I:Addr} {fp wr:List Addr} {n:Nat} {P:Nat→Value→Prop} {St:Nat→Heap→Prop} {d:Value}
end
section
variable {X:Cx} {e:Expr} {te:TE} {p pos kp1 kp2:Pos} {kk:Nat}
end
end Bs
namespace Bs
open PySem L2
noncomputable def qmx (H:Hp) (us:List V) (kz:List Int):Prop:=kz.length=us.length∧∀ (i:Nat) (u:V) (k:Int),us[i]?=some u→kz[i]?=some k→∃ a y,u=.ref a∧H a=some (.tup [y,.int k])
theorem qf9 {α β:Type} {g:α→β}:∀ {ps l:List β},ps.Perm l→∀ T:List α,l=T.map g→∃ T':List α,T'.Perm T∧ps=T'.map g:=by
  intro ps l h
  induction h with
  | nil=>intro T e;exact ⟨T,.refl _,e⟩
  | cons x _ ih=>
    intro T e
    cases T with
    | nil=>cases e
    | cons t T=>
      injection e with e1 e2
      obtain ⟨T',p,q⟩:=ih T e2
      exact ⟨t::T',p.cons t,by rw [List.map_cons,e1,q]⟩
  | swap x y l=>
    intro T e
    match T,e with
    | t::u::T,e=>
      injection e with e1 e2
      injection e2 with e2 e3
      exact ⟨u::t::T,.swap t u T,by rw [List.map_cons,List.map_cons,e1,e2,e3]⟩
  | trans _ _ ih1 ih2=>
    intro T e
    obtain ⟨T1,p1,q1⟩:=ih2 T e
    obtain ⟨T2,p2,q2⟩:=ih1 T1 q1
    exact ⟨T2,p2.trans p1,q2⟩
end Bs
namespace Bs
open PySem PySem.Spec PyProof.Rows L2
section
variable {X:Cx} {c P:Addr} {lp:Pos} {params:Arguments} {body:Expr} {scope:Scope}
end
section
variable {prog:Program} {w:World} {A:Around} {E:Value→Shared→Prop} {s:Shared}
theorem qjH {R:Value→Shared→Prop} {f c' a:Addr} {name qual x:Str} {params:Arguments} {scope:Scope} {pm ctv:Value} {its:List Value} {k:Int} {t:Tok} {px pk ps:Pos} {kk:Nat} (hroom:A.depth<recursionLimit)
    (hf:s.heap.get? f=some (PySem.W.kla_obj name qual params (.Subscript (.Name x px) (.Constant (.int 1) kk pk) ps) scope [] pm c' ctv)) (hrec:s.heap.CodeRec (.ref c') qual) (nl:s.heap.NoLimit)
    (hbind:bindArgs (PySem.W.kla_fn name qual params (.Subscript (.Name x px) (.Constant (.int 1) kk pk) ps) scope [] pm (.ref c') ctv) ⟨[.ref a],[]⟩=pure [(x,.ref a)])
    (hloc:scope.names.lookup x=some .local) (hco:scope.isCoroutine=false) (hgen:scope.isGenerator=false) (hk:scope.kind=.function) (hcell:∀ x∈scope.names,x.2≠.cell) (hd:(x == ("__debug__" : Str))=false)
    (ha:IsTup s.heap a its.toArray) (h2:its.length=2) (hi:its[1]?=some (.int k t))
    (h:∀ h' tk,(∀ b o,s.heap.get? b=some o→h'.get? b=some o)→R (.int k t) { s with heap:=h',toks:=tk }):wpAny (model prog w) A (call (.ref f) [.ref a]) R E s:=by
  refine wpAny_call (PySem.W.kla_callFunE hroom hf rfl hco hgen rfl hrec ?_)
  show wpAny _ _ (bindArgs (PySem.W.kla_fn name qual params (.Subscript (.Name x px) (.Constant (.int 1) kk pk) ps) scope [] pm (.ref c') ctv) ⟨[.ref a],[]⟩) _ _ _
  rw [hbind]
  refine wpAny_pure (wpAny_newFunctionEnv hcell (fun y hy=>by rw [List.mem_singleton.mp hy];exact hloc) (fun h₁ hns hsb=>⟨nl.fresh _ hsb,?_⟩) hk)
  have kp:∀ b o,s.heap.get? b=some o→h₁.get? b=some o:=fun b o e=>hsb.extBut b o (Nat.ne_of_lt (Heap.lt_size e)) (Heap.get?_push_of_some _ e)
  have ha1:IsTup h₁ a its.toArray:=by
    obtain ⟨o,e,r⟩:=ha
    exact ⟨o,kp _ _ e,r⟩
  refine PySem.W.kla_codeExpr ?_
  refine Subscript_ (wpAny_Name (wpAny_loadName_local hk ?_ hns (v:=.ref a) ?_ ?_) hd)
  · exact hloc
  · show [(x,Value.ref a)].reverse.lookup x=_
    simp
  · refine wpAny_Constant_int ?_
    refine subscriptTail_builtinR (x:=.int k t) ha1.typeIs slot_tuple_getitem.lookup (getItem_tuple (j:=1) ha1 (by decide) (by decide) (by rw [List.size_toArray,h2];rfl) (by simpa using hi) ⟨rfl,h h₁ _ kp⟩) rfl
end
theorem qjI {T:List (Int×V×Value)} (h:∀ t∈T,RelV t.2.1 t.2.2):Vals (T.map fun t=>t.2.1) (T.map fun t=>t.2.2):=by
  induction T with
  | nil=>exact .nil
  | cons t T ih=>exact .cons (h t (List.mem_cons_self ..)) (ih fun u hu=>h u (List.mem_cons_of_mem _ hu))
theorem qor {us:List V} {its:List Value} (r:Vals us its):∀ kz:List Int,(∀ t∈kz.zip (us.zip its),RelV t.2.1 t.2.2)∧kz.zip its=(kz.zip (us.zip its)).map (fun t=>(t.1,t.2.2))∧kz.zip us=(kz.zip (us.zip its)).map fun t=>(t.1,t.2.1):=by
  induction r with
  | nil=>intro kz;cases kz <;> exact ⟨(fun _ h=>nomatch h),rfl,rfl⟩
  | cons h t ih=>
    intro kz
    cases kz with
    | nil=>exact ⟨(fun _ h=>nomatch h),rfl,rfl⟩
    | cons k kz=>
      obtain ⟨a,b,c⟩:=ih kz
      refine ⟨fun t ht=>?_,?_,?_⟩
      · rcases List.mem_cons.mp ht with rfl | ht
        · exact h
        · exact a t ht
      · rw [List.zip_cons_cons,List.zip_cons_cons,List.zip_cons_cons,List.map_cons,b]
      · rw [List.zip_cons_cons,List.zip_cons_cons,List.zip_cons_cons,List.map_cons,c]
section
variable {X:Cx} {c P:Addr} {e:Expr} {te:TE} {p pos kp lp px pk ps:Pos} {params:Arguments} {scope:Scope} {x:Str} {kk:Nat}
end
end Bs
namespace Bs
open PySem L2
noncomputable def qh8:V→List V→Hp→VK→Prop:=fun x vs H Q=>∃ (l:Addr) (xs:List V) (y:V) (d:PySem.W.Dat) (ds:List PySem.W.Dat) (j:Nat),x=.ref l∧vs=[y]∧H l=some (.lst xs)∧RepD H y d∧RepA H xs ds∧PySem.W.kqdOk 8 d=true∧(∀ e∈ds,PySem.W.kqdOk 8 e=true)∧ds[j]?=some d∧(∀ i e,i<j→ds[i]?=some e→e≠d)∧Q .non (upd H l (.lst (xs.eraseIdx j)))
noncomputable abbrev qnh:R2:=rI (fun _ j=>0≤j) fun i j=>.int (i.fdiv (2 ^ j.toNat))
end Bs
namespace Bs
open PySem PySem.Spec PySem.Calls PySem.SeqAt PyProof.Rows L2
open AutoSeq1 (wpAny_loadPart')
theorem qeB (l:Addr) (items:Array Value) (n:Nat) (x:Value) (e:Value→Bool) (j:Nat) (hj:j<items.size) (hit:e items[j]=true) (k:Nat) (hs1:items.size≤sizeLine) :
    ∀ i:Nat,j - i=k→i≤j→(∀ m (hm:m<items.size),i≤m→m<j→e items[m]=false)→Meets (Builtin.«list.remove.loop» ⟨[.ref l,x,rawInt i],[]⟩)
      (fun A R s=>s.heap.get? l=some { cls:=.type "list", dict:=none,data:=.seq items n,slots:=#[] }∧(∀ y,y∈items→EqAt A.in1 s y x (e y))∧R (.ok (.ret .none)) { s with heap:=s.heap.update l (Obj.mapSeq fun xs=>xs.eraseIdxIfInBounds j) }):=by
  induction k with
  | zero=>
    intro i hk hij hno prog w A R s h
    obtain ⟨hp,g,d,tk,os⟩:=s;obtain ⟨hl,he,h⟩:=h
    have hij':i=j:=by omega
    subst hij'
    wp_walk using wpAny_loadPart' hl
    have hi:items[((i:Nat):Int).toNat]?=some items[i]:=by simp [hj]
    rw [hi]
    refine wpAny_bind (he _ (Array.getElem_mem hj) prog w _ _ ?_)
    rw [hit]
    have hz':(items.eraseIdxIfInBounds i).size≤sizeLine+1:=Nat.le_trans (MeetsSeq.size_erased items _) (Nat.le_succ_of_le hs1)
    wp_walk using (wpAny_updateSeq hl rfl (hz:=hs1) (_hz':=hz')),wpAny_loadPart' hl
    simpa using h
  | succ k ih=>
    intro i hk hij hno prog w A R s h
    obtain ⟨hp,g,d,tk,os⟩:=s;obtain ⟨hl,he,h⟩:=h
    have hlt:i<items.size:=by omega
    wp_walk using wpAny_loadPart' hl
    have hi:items[((i:Nat):Int).toNat]?=some items[i]:=by simp [hlt]
    have hc:((i:Int)+1)=((i+1:Nat):Int):=by push_cast;rfl
    rw [hi]
    refine wpAny_bind (he _ (Array.getElem_mem hlt) prog w _ _ ?_)
    rw [hno i hlt (Nat.le_refl _) (by omega)]
    wp_walk
    rw [hc]
    exact ⟨plainId_quiet MeetsSeq.plain_remove_loop _,codeAny_builtin MeetsSeq.entry_remove_loop (by
      rw [Around.under_plainId MeetsSeq.plain_remove_loop _]
      exact ih (i+1) (by omega) (by omega) (fun m hm h1 h2=>hno m hm (by omega) h2) prog w A R _ ⟨hl,he,h⟩)⟩
theorem qeC (l:Addr) (items:Array Value) (n:Nat) (x:Value) (e:Value→Bool) (j:Nat) (hj:j<items.size) (hit:e items[j]=true) (hno:∀ m (hm:m<items.size),m<j→e items[m]=false) (hs1:items.size≤sizeLine) :
    Meets (Builtin.«list.remove» ⟨[.ref l,x],[]⟩)
      (fun A R s=>s.heap.get? l=some { cls:=.type "list", dict:=none,data:=.seq items n,slots:=#[] }∧(∀ y,y∈items→EqAt A.in1 s y x (e y))∧R (.ok (.ret .none)) { s with heap:=s.heap.update l (Obj.mapSeq fun xs=>xs.eraseIdxIfInBounds j) }):=by
  intro prog w A R s h
  obtain ⟨hp,g,d,tk,os⟩:=s;obtain ⟨hl,he,h⟩:=h
  wp_walk using wpAny_loadPart' hl
  exact ⟨plainId_quiet MeetsSeq.plain_remove_loop _,codeAny_builtin MeetsSeq.entry_remove_loop (by
    rw [Around.under_plainId MeetsSeq.plain_remove_loop _]
    exact qeB l items n x e j hj hit _ hs1 0 rfl (Nat.zero_le _) (fun m hm _ h2=>hno m hm h2) prog w A R _ ⟨hl,he,h⟩)⟩
theorem qkh:∀ ds:List PySem.W.Dat,PySem.W.kqdPs ds=ds.map PySem.W.kqdP:=by
  intro ds
  induction ds with
  | nil=>rfl
  | cons d ds ih=>rw [PySem.W.kqdPs,ih];rfl
theorem qd8:∀ {xs:List V} {vs:List Value},Vals xs vs→∀ j:Nat,Vals (xs.eraseIdx j) (vs.eraseIdx j)
  | _,_,.nil,_=>.nil
  | _,_,.cons _ t,0=>t
  | _,_,.cons h t,j+1=>.cons h (qd8 t j)
theorem qh9 {X:Cx} (hu:X.A.units+64<cLine):MtM X "list.remove" qh8:=by
  intro pins s σ H x vs v us Q I rx rv h
  obtain ⟨l,xs,y,d,ds,j,rfl,rfl,hH,r1,r2,k1,k2,hj,hb,q⟩:=h
  cases rx
  obtain ⟨u,rfl,ru⟩:=rv.one
  obtain ⟨as,q1⟩:=qbw I r1 ru
  obtain ⟨z,its,n,r,hl,e⟩:=I.lstM hH
  obtain ⟨bs,q2⟩:=qeA I r2 r
  have lL:=PySem.W.kqd_layL k2
  have ld:=PySem.W.kqd_lay 8 d k1
  have l2:=ld.2
  have zi:its.toArray.size≤sizeLine:=by rw [List.size_toArray,← hl];exact z
  have rd:its.map (readOf s.heap)=ds.map PySem.W.kqdP:=by rw [← qkh];exact readsAll_map _ _ _ lL.1 q2
  have ln:its.length=ds.length:=by have:=congrArg List.length rd;simpa using this
  have at_:∀ m (hm:m<its.length),readOf s.heap its[m]=PySem.W.kqdP (ds[m]'(by omega)):=fun m hm=>by
    have:=congrArg (fun t=>t[m]?) rd
    simp only [List.getElem?_map] at this
    rw [List.getElem?_eq_getElem hm,List.getElem?_eq_getElem (by omega)] at this
    exact Option.some.inj this
  have one:∀ f,f∈ds→(PyData.eqv (PySem.W.kqdP f) (PySem.W.kqdP d)=true↔f=d):=fun f hf=>by
    have:=PySem.W.kqd_any [f] d (fun e he=>by rw [List.mem_singleton.mp he];exact k2 f hf) k1
    rw [qkh] at this
    simp only [List.map_cons,List.map_nil,List.any_cons,List.any_nil,Bool.or_false,List.mem_singleton] at this
    rw [this];exact eq_comm
  have jl:j<ds.length:=(List.getElem?_eq_some_iff.mp hj).1
  have jd:ds[j]=d:=(List.getElem?_eq_some_iff.mp hj).2
  have jz:j<its.toArray.size:=by rw [List.size_toArray];omega
  have M:=qeC l its.toArray n u (fun y=>PyData.eqv (readOf s.heap y) (PySem.W.kqdP d)) j jz (by
    show PyData.eqv (readOf s.heap its.toArray[j]) _=true
    have:its.toArray[j]=its[j]'(by omega):=by simp
    rw [this,at_ j (by omega),one _ (List.getElem_mem _)];exact jd) (fun m hm hlt=>by
    show PyData.eqv (readOf s.heap its.toArray[m]) _=false
    have hm':m<its.length:=by rw [List.size_toArray] at hm;exact hm
    have:its.toArray[m]=its[m]:=by simp
    rw [this,at_ m hm',Bool.eq_false_iff]
    intro z
    rw [one _ (List.getElem_mem _)] at z
    exact hb m _ hlt (List.getElem?_eq_getElem (by omega)) z) zi
  refine call_meets F.slot_list_remove ⟨_,e,rfl⟩ F.entry_list_remove (F.args_list_remove_2 _ _) M ⟨e,items_eqAt (A:=X.A) (by simpa using q2) q1 lL.1 ld.1 ?_,?_⟩
  · have:=Nat.min_le_right (PyData.depthAll (PySem.W.kqdPs ds)) (PySem.W.kqdP d).depth
    omega
  · refine ⟨.non,_,I.lset (its':=its.eraseIdx j) hH e ?_ ?_ ?_,rfl,q⟩
    · apply Array.ext'
      simp [Array.toList_eraseIdxIfInBounds]
    · exact qd8 r j
    · exact Nat.le_trans (List.length_eraseIdx_le ..) z
theorem op_shr {X:Cx}:OpR X (binaryOp .RShift) qnh:=opI fun _ _ _ _ _ _ _ hc q=>rshift_int hc q
end Bs
namespace Bs
open PySem PySem.Spec PyProof.Rows L2
end Bs
namespace L2
open PySem PySem.Spec PyProof.Rows
theorem qia {T:Addr} {P:Program} {w:World} {K:W.Frag} {mg mb:Str→Option Value} {CX:CXT} {k:Nat} {fa a:Addr} {fd:FuncData} {x:Str} {sp:Sp} {s₁:Shared} {vs:List Value} {ns:List Int}
    (KX:K.In s₁.heap) (hns:s₁.heap.Ns mainGlobals mg) (hb:s₁.heap.Ns builtinsNs mb) (hbb:∀ x:Str,x ≠ "__name__" → mb x=bootBuiltins x) (hlim:s₁.heap.NoLimit) (hseer:s₁.heap.NoSeer) (htree:(model P w).prog.given.tree=none) (hg:s₁.gens=#[])
    (ha:s₁.heap.get? a=some { cls:=.type "list", data:=.seq vs.toArray }) (hi:IntsAre vs ns) (hl:ns.length≤sizeLine) (hr:Room k callerA)
    (F:∀ base:Heap,K.In base→base.Ns mainGlobals mg→FnOk P w K mg base CX k fa fd [x] sp) (hbind:∀ (s:Shared) (u:Value),BindsTo s fd ⟨[u],[]⟩ [(x,u)])
    (hKT:K.lookup T=none) (hT:s₁.heap.get? T=some { cls:=.none,data:=.fields #[] }) (hcT:isCodeTable s₁.heap T) (hsp:∀ H:Hp,H T=some (.tbl #[])→SqL K H a (ns.map V.int)→sp [.ref a] H (fun v _=>v=.bl true) fun _ _ _=>False)
    (hCX:∀ H e s',CX [] H s₁ (fun _ _ _=>False) e s'→False) :
    codeAny (model P w) callerA (.call (.ref fa) ⟨[.ref a],[]⟩) (fun r s'=>r=.ok (.ret (.bool true))∧OldK s₁.heap s'.heap∧s'.os=s₁.os∧AllBare s'.gens) s₁:=by
  have rv:=qe9 hi
  have lenV:=hi.length
  have aT:a≠T:=fun z=>by rw [z,hT] at ha;cases ha
  have core:∀ H:Hp,(∀ b,b≠T→H b=none∨∃ o xs,H b=some (.frz o (.lst xs)))→H T=some (.tbl #[])→SqL K H a (ns.map V.int)→HOk P w H s₁.heap→(∀ b,H b≠none→b=a∨b=T)→(H a≠none→K.lookup a=none)→
      codeAny (model P w) callerA (.call (.ref fa) ⟨[.ref a],[]⟩) (fun r s'=>r=.ok (.ret (.bool true))∧OldK s₁.heap s'.heap∧s'.os=s₁.os∧AllBare s'.gens) s₁:=by
    intro H hO hHT hS hok hA hK
    have base_of:∀ {b:Addr} {o:Obj},s₁.heap.get? b=some o→H b=none→(qi8 s₁.heap H).get? b=some o:=fun e n=>qjb e n
    have noA:∀ {b:Addr} {o:Obj} {es:Array DictEntry} {ep:Nat},s₁.heap.get? b=some o→o.data=.dict es ep→H b=none:=fun {b o es ep} e d=>by
      cases q:H b with
      | none=>rfl
      | some u=>
        rcases hA b (by rw [q];simp) with e' | e'
        · subst e'
          rw [ha] at e;cases e
          have d':Data.seq vs.toArray _=Data.dict es ep:=d
          cases d'
        · subst e'
          rw [hT] at e;cases e
          cases d
    have nsK:∀ {b:Addr} {m:Str→Option Value},s₁.heap.Ns b m→(qi8 s₁.heap H).Ns b m:=fun {b m} ⟨o,es,ep,e,d,r⟩=>⟨o,es,ep,base_of e (noA e d),d,r⟩
    have hKb:K.In (qi8 s₁.heap H):=fun b o e=>base_of (KX b o e) (by
      cases q:H b with
      | none=>rfl
      | some u=>
        rcases hA b (by rw [q];simp) with e' | e'
        · subst e'
          rw [hK (by rw [q];simp)] at e;cases e
        · subst e'
          rw [hKT] at e;cases e)
    have hM:Mod K mg (qi8 s₁.heap H):=⟨hKb,nsK hns,⟨mb,nsK hb,hbb⟩,let ⟨mc,h1,h2⟩:=hlim;⟨mc,nsK h1,h2⟩⟩
    have hSe:(qi8 s₁.heap H).NoSeer:=⟨let ⟨mc,a,b⟩:=hseer.statics;⟨mc,nsK a,b⟩,let ⟨mc,a,b⟩:=hseer.mods;⟨mc,nsK a,b⟩,let ⟨mc,a,b⟩:=hseer.imp;⟨mc,nsK a,b⟩,
      let ⟨mg',bm,ob,a',b',c',d',e'⟩:=hseer.main;⟨mg',bm,ob,nsK a',b',base_of c' (by
        cases q:H bm with
        | none=>rfl
        | some u=>
          rcases hA bm (by rw [q];simp) with z | z
          · subst z
            rw [ha] at c';cases c'
            simp at d'
          · subst z
            rw [hT] at c';cases c'
            simp at d'),d',e'⟩⟩
    have e0:Env0 P w K mg (qi8 s₁.heap H) callerA [] s₁ H:=⟨rfl,hM,fun b o e=>qkw e,Nat.le_of_eq (qhi _ _),trivial,fun b hb=>absurd (show b∈([]:List Addr) from hb) (by simp),hok,.of_eq hg,hSe,htree⟩
    refine codeAny_mono ((F _ hKb (nsK hns)).run callerA [] s₁ H ⟨[.ref a],[]⟩ [.ref a] [.ref a] _ _ hr e0 (hbind s₁ (.ref a)) (.cons rfl .nil) (hsp H hHT hS)) fun r s' h=>?_
    cases r with
    | error e=>exact (hCX H e s' h).elim
    | ok fl=>
      cases fl with
      | next=>exact False.elim h
      | brk=>exact False.elim h
      | cont=>exact False.elim h
      | ret u=>
        obtain ⟨v,H',os,bare,un,hok',r',q⟩:=h
        have q':v=.bl true:=q
        subst q'
        obtain rfl:u=Value.bool true:=r'
        have kpt:∀ b o,b≠T→s₁.heap.get? b=some o→s'.heap.get? b=some o:=fun b o bT e=>by
          cases q:H b with
          | none=>exact un.keep b o e q (by intro z;exact absurd (show b∈([]:List Addr) from z) (by simp)) (by simp)
          | some u=>
            rcases hO b bT with z | ⟨ob,xs,z⟩
            · rw [q] at z;cases z
            · have z2:=un.frzs b ob _ z
              obtain ⟨e1,_⟩:=hok b _ z
              obtain ⟨e2,_⟩:=hok' b _ z2
              rw [e] at e1;cases e1
              exact e2
        obtain ⟨more,hmore⟩:=un.tbls T _ hHT
        have hT':s'.heap.get? T=some { cls:=.none,data:=.fields (#[]++more) }:=hok' T _ hmore
        refine ⟨rfl,⟨fun b o e=>?_,fun b o e=>?_⟩,os,bare⟩
        · by_cases bT:b=T
          · subst bT
            rw [hT] at e;cases e
            exact .inr (.inl ⟨hcT,rfl,#[],more,rfl,hT'⟩)
          · exact .inl (kpt b o bT e)
        · by_cases bT:b=T
          · exact ⟨_,by rw [bT];exact hT'⟩
          · exact ⟨o,kpt b o bT e⟩
  cases hk:K.lookup a with
  | some o=>
    have e:=KX a o hk
    rw [ha] at e
    cases e
    refine core (fun b=>if b=T then some (.tbl #[]) else none) (fun b bT=>.inl (if_neg bT)) (if_pos rfl) (.inr ⟨_,vs.toArray,_,hk,rfl,rfl,rfl,by rw [List.size_toArray,lenV];exact hl,by simpa using rv⟩) (fun b u z=>?_) (fun b z=>?_) fun z=>absurd (if_neg aT) z
    · by_cases hb:b=T
      · have z':=(if_pos hb).symm.trans z
        cases z'
        rw [hb];exact hT
      · have z':=(if_neg hb).symm.trans z
        cases z'
    · by_cases hb:b=T
      · exact .inr hb
      · exact absurd (if_neg hb) z
  | none=>
    have fa':(fun b=>if b=T then some (HO.tbl #[]) else if b=a then some (.frz { cls:=.type "list", data:=.seq vs.toArray } (.lst (ns.map V.int))) else none) a=some (.frz { cls:=.type "list", data:=.seq vs.toArray } (.lst (ns.map V.int))):=by
      show (if a=T then _ else _)=_
      rw [if_neg aT,if_pos rfl]
    refine core (fun b=>if b=T then some (.tbl #[]) else if b=a then some (.frz { cls:=.type "list", data:=.seq vs.toArray } (.lst (ns.map V.int))) else none) (fun b bT=>?_) (if_pos rfl) (.inl (.inr ⟨{ cls:=.type "list", data:=.seq vs.toArray },fa'⟩)) (fun b u z=>?_) (fun b z=>?_) fun _=>hk
    · show (if b=T then _ else _)=none∨∃ o xs,(if b=T then _ else _)=some _
      rw [if_neg bT]
      by_cases hb:b=a
      · exact .inr ⟨_,_,if_pos hb⟩
      · exact .inl (if_neg hb)
    · have z:(if b=T then some (HO.tbl #[]) else if b=a then some (.frz { cls:=.type "list", data:=.seq vs.toArray } (.lst (ns.map V.int))) else none)=some u:=z
      by_cases hT2:b=T
      · rw [if_pos hT2] at z
        cases z
        rw [hT2];exact hT
      · rw [if_neg hT2] at z
        by_cases hb:b=a
        · rw [if_pos hb] at z
          cases z
          subst hb
          exact ⟨ha,by rw [List.length_map];exact hl,vs,_,rv,ha⟩
        · rw [if_neg hb] at z
          cases z
    · by_cases hT2:b=T
      · exact .inr hT2
      · by_cases hb:b=a
        · exact .inl hb
        · exact absurd ((if_neg hT2).trans (if_neg hb)) z
theorem walk_ofT {T:Addr} {l:PySem.W.OpenLaw} {n k:Nat} {q:Program} {loose:List Str} {XP:(Str→Option Value)→Heap→Prop} {YP:World→Heap→Prop} {d:DefRec} {K:Params→W.Frag} {CX:World→CXT} {sp:World→Sp} {x:Str}
    (hn:l.most=some n) (hn2:n≤sizeLine) (hdf:d.params.defaults=[]) (hq:importsNone q=true) (htree:∀ w,(model l.prog w).prog.given.tree=none) (hr:Room k callerA)
    (hY:∀ (w:World) (h:Heap),YP w h→(K w.params).In h)
    (F:∀ (w:World) (mg:Str→Option Value) (fa:Addr) (h:Heap),(K w.params).In h→h.Ns mainGlobals mg→mg d.name=some (.ref fa)→
      ∃ fd:FuncData,(∀ (s:Shared) (u:Value),BindsTo s fd ⟨[u],[]⟩ [(x,u)])∧
        ∀ base:Heap,(K w.params).In base→base.Ns mainGlobals mg→FnOk l.prog w (K w.params) mg base (CX w) k fa fd [x] (sp w))
    (hKT:∀ w:World,(K w.params).lookup T=none) (hT:∀ (w:World) (h:Heap),YP w h→h.get? T=some { cls:=.none,data:=.fields #[] }∧isCodeTable h T) (hsp:∀ (w:World) (H:Hp) (a:Addr) (ns:List Int),ns.length≤n→H T=some (.tbl #[])→SqL (K w.params) H a (ns.map V.int)→sp w [.ref a] H (fun v _=>v=.bl true) fun _ _ _=>False)
    (hCX:∀ (w:World) (H:Hp) (s:Shared) (e:Value) (s':Shared),CX w [] H s (fun _ _ _=>False) e s'→False) :
    PySem.W.WalkO q loose XP YP l.row.toRowW d [] (fun f vs=>PySem.call f vs):=by
  refine Att.attach_call hn hdf fun w s₀ s₁ mg mb fa o pm cd doc a vs ns G Y ho hd hcd hmg hobj hints hlen hg=>?_
  have KX:=hY w _ Y
  obtain ⟨fd,hb,hF⟩:=F w mg fa _ KX G.T.g hmg
  exact qia (T:=T) KX G.T.g G.T.b G.T.builtins G.T.nolimit (G.T.seer hq) (htree w) hg hobj hints (Nat.le_trans hlen hn2) hr hF hb (hKT w) (hT w _ Y).1 (hT w _ Y).2 (fun H hO hS=>hsp w H a ns hlen hO hS) fun H e s'=>hCX w H s₁ e s'
end L2
namespace Bs
open PySem L2
noncomputable def TabOk (hit:Array Value→Addr→Prop) (code:Addr→Heap→Prop) (P:Addr) (H:Hp):Prop:=∃ ps,H P=some (.tbl ps)∧(ps=#[]∨∃ c,hit ps c∧H c=some (.ext (code c)))
noncomputable def qeD (hit:Array Value→Addr→Prop) (code:Addr→Heap→Prop) (P:Addr) (te:TE):TE:=fun σ H Q=>te σ H fun x H1=>∃ (l:Addr) (us:List V) (kz:List Int),x=.ref l∧H1 l=some (.lst us)∧us.length<64∧qmx H1 us kz∧TabOk hit code P H1∧
  ∀ (r:Addr) (qs:List (Int×V)) (H2:Hp),H1 r=none→qs.Perm (kz.zip us)→qs.Pairwise (fun p q=>p.1≤q.1)→Kp P H1 H2→TabOk hit code P H2→H2 r=some (.lst (qs.map (·.2)))→Q (.ref r) H2
theorem TabOk.keep {hit:Array Value→Addr→Prop} {code:Addr→Heap→Prop} {P:Addr} {H H':Hp} (h:TabOk hit code P H) (k:∀ b o,(∀ xs,o≠.lst xs)→H b=some o→H' b=some o):TabOk hit code P H':=by
  obtain ⟨ps,e,r⟩:=h
  refine ⟨ps,k _ _ (fun xs z=>by cases z) e,r.imp id fun ⟨c,a,b⟩=>⟨c,a,k _ _ (fun xs z=>by cases z) b⟩⟩
theorem TabOk.same {hit:Array Value→Addr→Prop} {code:Addr→Heap→Prop} {P:Addr} {H H':Hp} (h:TabOk hit code P H) (s:Same H H'):TabOk hit code P H':=h.keep fun b o _ e=>s b o e
theorem TabOk.ne {hit:Array Value→Addr→Prop} {code:Addr→Heap→Prop} {P b:Addr} {H:Hp} {xs:List V} (h:TabOk hit code P H) (e:H b=some (.tup xs)∨H b=some (.lst xs)):b≠P:=by
  obtain ⟨ps,q,_⟩:=h
  rcases e with e | e
  · exact qer e q (by intro z;cases z)
  · exact qer e q (by intro z;cases z)
end Bs
namespace Bs
open PySem PySem.Spec PyProof.Rows L2
section
variable {X:Cx} {c P:Addr} {lp:Pos} {params:Arguments} {body:Expr} {scope:Scope}
theorem qeE {h h':Heap} {c':Addr} {q:Str} (r:h.CodeRec (.ref c') q) (k:∀ o,h.get? c'=some o→h'.get? c'=some o):h'.CodeRec (.ref c') q:=by
  obtain ⟨c2,o,vs,t,e1,e2,e3,e4⟩:=r
  cases e1
  exact ⟨_,o,vs,t,rfl,k _ e2,e3,e4⟩
theorem qmy {prog:Program} {w:World} {H:Hp} {h:Heap} {c':Addr} {q:Str} (r:h.CodeRec (.ref c') q):ObjOk prog w H h c' (.ext fun h=>h.CodeRec (.ref c') q):=⟨r,by
  obtain ⟨c2,o,vs,t,e1,e2,_⟩:=r
  cases e1
  exact ⟨o,e2⟩,fun h1 h2 r1 k=>qeE r1 k⟩
theorem qib {pins:List (Addr×Obj)} {s:Shared} {σ:L2.St} {H:Hp} {Q:Value→Shared→Prop} {E:Value→Shared→Prop} {ps:Array Value} (I:Inv X pins σ H s) (hcode:X.env.code=.ref c) (hC:PySem.W.CodeHd X.base c P) (hbt:X.base.BuiltinsAt X.mg P)
    (hcl:closureFor scope X.env=pure []) (hdef:defaultsOf params X.env=([],[])) (hP:H P=some (.tbl ps)) (ht:TriplesOk ps.toList) (hnf:codeAmong lp ps.toList=none)
    (k:∀ (f c':Addr) (ctv:Value) (h':Heap) (tk:Nat),H c'=none→Inv X pins σ (upd (upd H P (.tbl (ps++#[rawInt lp.line,rawInt lp.col,.ref c']))) c' (.ext fun h=>h.CodeRec (.ref c') (X.env.qual ++ "<lambda>"))) { s with heap:=h',toks:=tk }→h'.get? f=some (PySem.W.kla_obj "<lambda>" (X.env.qual ++ "<lambda>") params body scope [] ((X.mg "__name__").getD .none) c' ctv)→h'.CodeRec (.ref c') (X.env.qual ++ "<lambda>")→s.heap.objs.size≤f→h'.objs.size=f+1→Q (.ref f) { s with heap:=h',toks:=tk }) :
    wpAny (model X.prog X.w) X.A (eval (.Lambda params body scope lp) X.env) Q E s:=by
  refine PySem.W.kla_eval hdef ?_
  have hPh:s.heap.get? P=some (PySem.W.tabObj ps):=I.hok P _ hP
  have gP:mainGlobals≠P:=fun z=>by
    obtain ⟨o,es,ep,e,_⟩:=I.mod.glob
    have:=(I.bs _ o e).2
    rw [z,hP] at this;cases this
  refine PySem.W.kla_makeFunction (mg:=X.mg) hcl I.ok.glob (I.mod.glob.keeps I.bk) hcode (hC.keeps I.bk) hPh ht hnf gP (hbt.keeps I.bk) fun c' ctv h' tk hx hge hlt hrec htb=>?_
  have fr:H c'=none:=I.hok.fresh hge
  have kk:∀ (o':Obj) b o,b≠P→s.heap.get? b=some o→(h'.push o').get? b=some o:=fun o' b o n e=>Heap.get?_push_of_some _ (hx b o n e)
  have hP':∀ o',(h'.push o').get? P=some (PySem.W.tabObj (ps++#[rawInt lp.line,rawInt lp.col,.ref c'])):=fun o'=>Heap.get?_push_of_some _ htb
  have LP:X.env.locals≠P:=fun z=>by have:=I.free;rw [z,hP] at this;cases this
  have hr':∀ o',(h'.push o').CodeRec (.ref c') (X.env.qual ++ "<lambda>"):=fun o'=>qeE hrec fun o e=>Heap.get?_push_of_some _ e
  have two:∀ {b:Addr} {o:HO},b≠P→H b=some o→upd (upd H P (.tbl (ps++#[rawInt lp.line,rawInt lp.col,.ref c']))) c' (.ext fun h=>h.CodeRec (.ref c') (X.env.qual ++ "<lambda>")) b=some o:=fun n e=>by
    rw [qal (qak e fr),qal n];exact e
  refine k h'.objs.size c' ctv _ tk fr ?_ (Heap.get?_push_size _ rfl) (hr' _) (Nat.le_of_lt (Nat.lt_of_le_of_lt hge hlt)) (Heap.size_push ..)
  refine I.step (g':=s.gens) (d':=s.drawn) (t':=tk) (ch:=[]) (fun _ z=>nomatch z) (fun b o n _ _ e hn=>kk _ b o (fun z=>by rw [z,hP] at hn;cases hn) e) (fun b o n _ _ e hn=>⟨o.slots,kk _ b o (fun z=>by rw [z,hP] at hn;cases hn) e⟩) (fun b o _ e n=>?_) (fun b o _ e=>?_) (fun b xs e=>two (qer e hP (by intro z;cases z)) e) (fun b o u e=>two (qer e hP (by intro z;cases z)) e) (fun b qs e=>?_) (fun m hm=>(hm.extBut hx LP).push _) (fun b o e=>?_) I.bare
  · rw [qal (Nat.ne_of_lt (Nat.lt_of_lt_of_le (Heap.lt_size e) hge)),qal (fun z=>by rw [z,hP] at n;cases n)];exact n
  · by_cases hb:b=P
    · exact ⟨_,by rw [hb];exact hP' _⟩
    · exact ⟨o,kk _ b o hb e⟩
  · by_cases hb:b=P
    · subst hb
      rw [hP] at e;cases e
      exact ⟨_,by rw [qal (qak hP fr),qad]⟩
    · exact ⟨#[],by rw [two hb e];simp⟩
  · by_cases hc:b=c'
    · subst hc
      rw [qad] at e;cases e
      exact qmy (hr' _)
    · rw [qal hc] at e
      by_cases hb:b=P
      · subst hb
        rw [qad] at e;cases e
        exact hP' _
      · rw [qal hb] at e
        refine (I.hok b o e).stay (fun d u hd e'=>kk _ d u ?_ e') (fun d e'=>two (qer e' hP (by intro z;cases z)) e') fun d xs e'=>two (qer e' hP (by intro z;cases z)) e'
        rintro rfl
        rcases hd with z | z
        · exact hb z.symm
        · rw [hP] at z;cases z
theorem qk8 {pins:List (Addr×Obj)} {s:Shared} {σ:L2.St} {H:Hp} {Q:Value→Shared→Prop} {E:Value→Shared→Prop} {ps:Array Value} {c':Addr} (I:Inv X pins σ H s) (hcode:X.env.code=.ref c) (hC:PySem.W.CodeHd X.base c P) (hbt:X.base.BuiltinsAt X.mg P)
    (hcl:closureFor scope X.env=pure []) (hdef:defaultsOf params X.env=([],[])) (hP:H P=some (.tbl ps)) (ht:TriplesOk ps.toList) (hf:codeAmong lp ps.toList=some (.ref c')) (hc':H c'=some (.ext fun h=>h.CodeRec (.ref c') (X.env.qual ++ "<lambda>")))
    (k:∀ (f:Addr) (ctv:Value) (h':Heap) (tk:Nat),Inv X pins σ H { s with heap:=h',toks:=tk }→h'.get? f=some (PySem.W.kla_obj "<lambda>" (X.env.qual ++ "<lambda>") params body scope [] ((X.mg "__name__").getD .none) c' ctv)→h'.CodeRec (.ref c') (X.env.qual ++ "<lambda>")→s.heap.objs.size≤f→h'.objs.size=f+1→Q (.ref f) { s with heap:=h',toks:=tk }) :
    wpAny (model X.prog X.w) X.A (eval (.Lambda params body scope lp) X.env) Q E s:=by
  refine PySem.W.kla_eval hdef ?_
  have hPh:s.heap.get? P=some (PySem.W.tabObj ps):=I.hok P _ hP
  refine PySem.W.kla_makeFunctionHit (mg:=X.mg) hcl I.ok.glob (I.mod.glob.keeps I.bk) hcode (hC.keeps I.bk) hPh ht hf (hbt.keeps I.bk) fun ctv h' tk hx hge=>?_
  have kk:∀ (o':Obj) b o,s.heap.get? b=some o→(h'.push o').get? b=some o:=fun o' b o e=>Heap.get?_push_of_some _ (hx b o e)
  refine k h'.objs.size ctv _ tk ?_ (Heap.get?_push_size _ rfl) (qeE (I.hok c' _ hc').1 fun o e=>kk _ _ _ e) hge (Heap.size_push ..)
  exact I.step (g':=s.gens) (d':=s.drawn) (t':=tk) (ch:=[]) (fun _ z=>nomatch z) (fun b o n _ _ e hn=>kk _ b o e) (fun b o n _ _ e hn=>⟨o.slots,kk _ b o e⟩) (fun b o _ e n=>n) (fun b o _ e=>⟨o,kk _ b o e⟩) (fun b xs e=>e) (fun b o u e=>e) (fun b qs e=>⟨#[],by rw [e];simp⟩) (fun m hm=>hm.keeps (kk _)) (fun b o e=>(I.hok b o e).stay (fun d u hd e'=>kk _ d u e') (fun d e'=>e') fun d xs e'=>e') I.bare
end
section
variable {X:Cx} {c P:Addr} {e:Expr} {te:TE} {p pos kp lp px pk ps:Pos} {params:Arguments} {scope:Scope} {x:Str} {kk:Nat}
theorem qic {pins:List (Addr×Obj)} {s1:Shared} {σ:L2.St} {H2:Hp} {Q:VK} {f c' l:Addr} {ctv pm:Value} {h':Heap} {tk:Nat} {us:List V} {kz:List Int} {qual:Str} (hroom:X.A.in1.in1.depth<recursionLimit)
    (I2:Inv X pins σ H2 { s1 with heap:=h',toks:=tk }) (hf:h'.get? f=some (PySem.W.kla_obj "<lambda>" qual params (.Subscript (.Name x px) (.Constant (.int 1) kk pk) ps) scope [] pm c' ctv)) (hrec:h'.CodeRec (.ref c') qual) (fL:f≠X.env.locals) (fsz:h'.objs.size=f+1)
    (hl2:H2 l=some (.lst us)) (l64:us.length<64) (kl:kz.length=us.length) (kof:∀ (i:Nat) (u:V) (k:Int),us[i]?=some u→kz[i]?=some k→∃ a y,u=.ref a∧H2 a=some (.tup [y,.int k]))
    (hbind:∀ (qual:Str) (pm:Value) (c' a:Addr) (ctv:Value),bindArgs (PySem.W.kla_fn "<lambda>" qual params (.Subscript (.Name x px) (.Constant (.int 1) kk pk) ps) scope [] pm (.ref c') ctv) ⟨[.ref a],[]⟩=pure [(x,.ref a)])
    (hloc:scope.names.lookup x=some .local) (hco:scope.isCoroutine=false) (hgen:scope.isGenerator=false) (hk:scope.kind=.function) (hcell:∀ x∈scope.names,x.2≠.cell) (hd:(x == ("__debug__" : Str))=false)
    (q:∀ (r:Addr) (qs:List (Int×V)),H2 r=none→qs.Perm (kz.zip us)→qs.Pairwise (fun p q=>p.1≤q.1)→Q (.ref r) (upd H2 r (.lst (qs.map (·.2))))) :
    wpAny (model X.prog X.w) X.A (call (.builtin "sorted") [.ref l] [(Str.ofString "key", .ref f)]) (EP X pins σ Q) X.xe { s1 with heap:=h',toks:=tk }:=by
  obtain ⟨its,rv,pl,hz⟩:=I2.list (SqL.of hl2)
  have hle:us.length=its.length:=rv.length
  obtain ⟨m,hn,_⟩:=id I2.loc
  refine ksk_sorted (h₀:=Att.noObjs h') (L:=X.env.locals) (m:=m) (news:=Att.ledger h' X.env.locals X.env.locals) (b:=false) (kz:=kz) (f:=.ref f) (Att.fr_all hn) (fun p hp=>?_) pl.isList (by omega) (by omega) (ksk_s1 _ _) (fun _=>ksk_l1 _ _) (fun x=>ksk_t1 _ _) (fun i v k hv hki h2 tk2 own F N=>?_) fun D h3 tk3 out cc F N lt ko=>?_
  · obtain ⟨n1,_,e⟩:=Att.mem_ledger.mp hp
    exact ⟨e,n1,Att.noObjs_get _ _⟩
  · have kb:∀ b o,b≠X.env.locals→h'.get? b=some o→h2.get? b=some o:=fun b o n e=>(N (b,o) (List.mem_append_left _ (Att.mem_ledger.mpr ⟨n,n,e⟩))).1
    obtain ⟨iu,hiu⟩:∃ u,us[i]?=some u:=⟨us[i]'(by have:=(List.getElem?_eq_some_iff.mp hv).1;omega),List.getElem?_eq_getElem _⟩
    obtain ⟨a,y,rfl,hay2⟩:=kof i iu k hiu hki
    obtain ⟨v',hv',rv'⟩:=rv.get hiu
    rw [hv] at hv';cases hv'
    cases rv'
    obtain ⟨ats,ra,pa,_⟩:=I2.tuple (SqT.of hay2)
    obtain ⟨v0,v1,rfl,_,t1,rfl⟩:=vals2 ra
    have aL:a≠X.env.locals:=fun z=>by have:=I2.free;rw [← z,hay2] at this;cases this
    have pa2:IsTup h2 a [v0,Value.int k t1].toArray:=by
      obtain ⟨o,e,r⟩:=pa
      exact ⟨o,kb _ _ aL e,r⟩
    obtain ⟨c2,oc,vc,tc,ec,hoc,d1,d2⟩:=hrec
    cases ec
    have cL:c'≠X.env.locals:=fun z=>by
      obtain ⟨o,es,ep,eo,ed,_⟩:=hn
      rw [z,eo] at hoc;cases hoc
      rw [ed] at d1;cases d1
    have kbase:∀ b o,X.base.get? b=some o→h2.get? b=some o:=fun b o e=>kb b o (Nat.ne_of_lt (Nat.lt_of_lt_of_le (Heap.lt_size e) (Nat.le_trans I2.ok.bsz I2.ok.above))) (I2.bk b o e)
    refine qjH (s:={ s1 with heap:=h2,toks:=tk2 }) hroom (kb _ _ fL hf) ⟨_,oc,vc,tc,rfl,kb _ _ cL hoc,d1,d2⟩ (I2.mod.nolimit.keeps kbase) (hbind _ _ _ _ _) hloc hco hgen hk hcell hd pa2 rfl rfl fun h4 tk4 kp4=>?_
    exact KskEnd.intro (F.kept kp4) (N.grown kp4) fun _ hp=>hp
  · have k3:∀ b o,b≠X.env.locals→h'.get? b=some o→h3.get? b=some o:=fun b o n e=>(N (b,o) (List.mem_cons_of_mem _ (Att.mem_ledger.mpr ⟨n,n,e⟩))).1
    have hD:h3.get? D=some (seqObj "list" out cc):=(N _ (List.mem_cons_self ..)).1
    have Dge:h'.objs.size≤D:=by have:=lt (f,_) (Att.mem_ledger.mpr ⟨fL,fL,hf⟩);rw [fsz];exact this
    have fr:=I2.hok.fresh Dge
    obtain ⟨qs0,pm,eo,srt⟩:=ko
    obtain ⟨rel,z1,z2⟩:=qor rv kz
    obtain ⟨T',pT,eT⟩:=qf9 pm _ z1
    have q:=q D (T'.map fun t=>(t.1,t.2.1)) fr (by rw [z2];exact pT.map _) (by
      rw [List.pairwise_map]
      rw [eT,List.pairwise_map] at srt
      exact srt.imp fun h=>by simpa using h)
    refine ⟨.ref _,_,?_,rfl,q⟩
    have ov:Vals ((T'.map fun t=>(t.1,t.2.1)).map (·.2)) out.toList:=by
      rw [eo,eT,List.map_map,List.map_map]
      exact qjI fun t ht=>rel t (pT.mem_iff.mp ht)
    have on:((T'.map fun t=>(t.1,t.2.1)).map (·.2)).length=us.length:=by
      rw [List.length_map,List.length_map,pT.length_eq,List.length_zip,List.length_zip,← hle,kl,Nat.min_self,Nat.min_self]
    refine I2.step (g':=s1.gens) (d':=s1.drawn) (t':=tk3) (ch:=[]) (fun _ z=>nomatch z) (fun b o n _ _ e _=>k3 b o n e) (fun b o n _ _ e _=>⟨o.slots,k3 b o n e⟩) (fun b o _ e n=>?_) (fun b o _ e=>?_) (fun b xs e=>?_) (fun b o u e=>?_) (fun b ps e=>⟨#[],?_⟩) (fun m' hm=>?_) (fun b o e=>?_) I2.bare
    · rw [qal (Nat.ne_of_lt (Nat.lt_of_lt_of_le (Heap.lt_size e) Dge))];exact n
    · by_cases hb:b=X.env.locals
      · obtain ⟨o',_,_,e',_⟩:=F.ns
        exact ⟨o',by rw [hb];exact e'⟩
      · exact ⟨o,k3 b o hb e⟩
    · rw [qal (qak e fr)];exact e
    · rw [qal (qak e fr)];exact e
    · rw [qal (qak e fr),e];simp
    · rw [show m'=m from funext fun x=>hm.agree hn x];exact F.ns
    · by_cases hb:b=D
      · subst hb
        rw [qad] at e;cases e
        exact ⟨by rw [on];exact hz,out.toList,cc,ov,by simpa using hD⟩
      · rw [qal hb] at e
        refine (I2.hok b o e).stay (fun c u hc e'=>k3 c u ?_ e') (fun c e'=>?_) fun c xs e'=>?_
        · rintro rfl
          rcases hc with z | z
          · rw [← z,I2.free] at e;cases e
          · rw [I2.free] at z;cases z
        · rw [qal (qak e' fr)];exact e'
        · rw [qal (qak e' fr)];exact e'
theorem qid (hcode:X.env.code=.ref c) (hC:PySem.W.CodeHd X.base c P) (hbt:X.base.BuiltinsAt X.mg P) (hroom:X.A.in1.in1.depth<recursionLimit) (hm:X.mg "sorted" = none) (ha:PE X e te)
    (hcl:closureFor scope X.env=pure []:=by rfl) (hdef:defaultsOf params X.env=([],[]):=by rfl)
    (hbind:∀ (qual:Str) (pm:Value) (c' a:Addr) (ctv:Value),bindArgs (PySem.W.kla_fn "<lambda>" qual params (.Subscript (.Name x px) (.Constant (.int 1) kk pk) ps) scope [] pm (.ref c') ctv) ⟨[.ref a],[]⟩=pure [(x,.ref a)]:=by intros;rfl)
    (hloc:scope.names.lookup x=some .local:=by rfl) (hco:scope.isCoroutine=false:=by rfl) (hgen:scope.isGenerator=false:=by rfl) (hk:scope.kind=.function:=by rfl) (hcell:∀ x∈scope.names,x.2≠.cell:=by decide) (hd:(x == ("__debug__" : Str))=false:=by decide)
    (hg:Gl X "sorted" := by rfl) (hs:starEach [e] X.env=(false,eval e X.env)::starEach [] X.env:=by rfl) (hb:backTo pos (starEach [e] X.env)=(false,eval e X.env)::backTo pos (starEach [] X.env):=by rfl) :
    PE X (.Call (.Name "sorted" p) [e] [⟨some "key", .Lambda params (.Subscript (.Name x px) (.Constant (.int 1) kk pk) ps) scope lp,kp⟩] pos) (qeD (fun ps c'=>TriplesOk ps.toList∧codeAmong lp ps.toList=some (.ref c')) (fun c' h=>h.CodeRec (.ref c') (X.env.qual ++ "<lambda>")) P te):=by
  intro pins s σ H Q I h
  refine wpAny_Call_Name_kw (qd4 I hg hm qh7 ?_ (by decide) (by decide))
  refine PyProof.Rows.callWith_kw ?_ hb (by rw [hb];rfl)
  rw [hb]
  refine Calls.spliced_cons (thn (ha pins s σ H _ I h) fun u s1 ⟨y,H1,I1,r1,q1⟩=>Calls.spliced_nil ?_)
  obtain ⟨l,us,kz,rfl,hl,l64,⟨kl,kof⟩,⟨tp,hP,cs⟩,q⟩:=q1
  cases r1
  have fL:∀ f,s1.heap.objs.size≤f→f≠X.env.locals:=fun f fge z=>by
    obtain ⟨m1,hn1,_⟩:=I1.loc
    have:=hn1.lt
    rw [← z] at this
    exact absurd fge (Nat.not_le.mpr this)
  show wpAny _ _ (evalAll ((do let v ← eval (.Lambda params (.Subscript (.Name x px) (.Constant (.int 1) kk pk) ps) scope lp) X.env;standAt pos;pure v)::[])) _ _ s1
  rcases cs with rfl | ⟨c',⟨ht,hit⟩,hc'⟩
  · refine wpAny_evalAll_cons (wpAny_bind (qib I1 hcode hC hbt hcl hdef hP trivial rfl fun f c' ctv h' tk fr I2 hf hrec fge fsz=>wpAny_bind (wpAny_standAt (wpAny_pure (wpAny_evalAll_nil ?_)))))
    have two:∀ {b:Addr} {o:HO},b≠P→H1 b=some o→upd (upd H1 P (.tbl (#[]++#[rawInt lp.line,rawInt lp.col,.ref c']))) c' (.ext fun h=>h.CodeRec (.ref c') (X.env.qual ++ "<lambda>")) b=some o:=fun n e=>by
      rw [qal (qak e fr),qal n];exact e
    show wpAny _ _ (call (.builtin "sorted") [.ref l] [(Str.ofString "key", .ref f)]) _ _ _
    refine qic hroom I2 hf hrec (fL f fge) fsz (two (qer hl hP (by intro z;cases z)) hl) l64 kl (fun i u k hu hk=>?_) hbind hloc hco hgen hk hcell hd fun r qs hr pm so=>?_
    · obtain ⟨a,y,e1,e2⟩:=kof i u k hu hk
      exact ⟨a,y,e1,two (qer e2 hP (by intro z;cases z)) e2⟩
    · have rc:r≠c':=fun z=>by rw [z,qad] at hr;cases hr
      rw [qal rc] at hr
      have rP:r≠P:=fun z=>by rw [z,qad] at hr;cases hr
      rw [qal rP] at hr
      refine q r qs _ hr pm so (fun b o n e=>?_) ⟨#[]++#[rawInt lp.line,rawInt lp.col,.ref c'],?_,.inr ⟨c',⟨TriplesOk_snoc lp.line lp.col (.ref c') [] trivial,?_⟩,?_⟩⟩ qad
      · rw [qal (qak e hr)];exact two n e
      · rw [qal rP.symm,qal (qak hP fr),qad]
      · exact codeAmong_snoc [] trivial rfl
      · rw [qal rc.symm,qad]
  · refine wpAny_evalAll_cons (wpAny_bind (qk8 I1 hcode hC hbt hcl hdef hP ht hit hc' fun f ctv h' tk I2 hf hrec fge fsz=>wpAny_bind (wpAny_standAt (wpAny_pure (wpAny_evalAll_nil ?_)))))
    show wpAny _ _ (call (.builtin "sorted") [.ref l] [(Str.ofString "key", .ref f)]) _ _ _
    refine qic hroom I2 hf hrec (fL f fge) fsz hl l64 kl kof hbind hloc hco hgen hk hcell hd fun r qs hr pm so=>?_
    exact q r qs _ hr pm so (fun b o n e=>by rw [qal (qak e hr)];exact e) ⟨tp,by rw [qal (qak hP hr)];exact hP,.inr ⟨c',⟨ht,hit⟩,by rw [qal (qak hc' hr)];exact hc'⟩⟩ qad
end
end Bs
namespace Bs
open PySem L2
noncomputable def qnD (te:TE):TE:=fun σ H Q=>te σ H fun x H1=>∃ (a:Addr) (xs:List V),x=.ref a∧H1 a=some (.lst xs)∧∀ p,H1 p=none→Q (.ref p) (upd H1 p (.lst xs.reverse))
end Bs
namespace Bs
open PySem PySem.Spec PyProof.Rows L2
open PySem.AutoSeq1 (wpAny_loadPart')
section
variable {prog:Program} {w:World} {A:Around} {E:Value→Shared→Prop} {s:Shared}
end
section
variable {prog:Program} {w:World} {A:Around} {E:Value→Shared→Prop} {s:Shared}
end
end Bs
namespace Bs
open PySem PySem.Spec PyProof.Rows L2
section
variable {X:Cx} {elts:List Expr} {k:Nat} {tpos:Pos} {a b:Expr} {ta:TA} {p pos:Pos}
end
theorem qmz {X:Cx} {e st:Expr} {te:TE} {p2 pos:Pos} (he:PE X e te) (hst:PE X st (tUn qhg (tC (.int 1)))):PE X (.Subscript e (.Slice none none (some st) p2) pos) (qnD te):=by
  intro pins s σ H Q I h
  refine Subscript_ (thn (he pins s σ H _ I h) fun v s1 ⟨x,H1,I1,r1,q1⟩=>?_)
  refine wpAny_Slice ?_
  rw [evalPart_none]
  refine wpAny_pure (wpAny_pure (thn (qhD hst pins s1 σ H1 (fun o H2=>o=some (-1)∧H2=H1) I1 ⟨1,rfl,-1,rfl,rfl,rfl⟩) fun vk s3 ⟨o,H3,I3,pk,eo,eH⟩=>?_))
  subst eo eH
  have I4:Inv X pins σ H3 { s3 with heap:=s3.heap.push { cls:=.type "slice", data:=.fields #[.none,.none,vk] } }:=I3.kept (t':=s3.toks) fun b ob q=>Heap.get?_push_of_some _ q
  obtain ⟨a,xs,rfl,hx,q⟩:=q1
  cases r1
  obtain ⟨its,r,ht,hz⟩:=I4.list (SqL.of hx)
  have hlen:=r.length
  show wpAny (model X.prog X.w) X.A (subscriptTail e (.Slice none none (some st) p2) (.ref a) (.ref s3.heap.objs.size)) (EP X pins σ Q) X.xe { s3 with heap:=s3.heap.push { cls:=.type "slice", data:=.fields #[.none,.none,vk] } }
  refine tail_any (ops:=[.ref a,.ref s3.heap.objs.size]) ht.isList.typeIs slot_list_getitem.lookup ?_ (by with_unfolding_all rfl)
  refine wpAny_getItem_list_slice ht.isList (Heap.IsSliceOf.new ..) .none .none pk (by simp) ?_ (by rw [List.size_toArray] <;> omega)
  rw [PySem.W.krv_pick]
  refine ⟨.ref _,_,I4.laid (t':=s3.toks) (o:=.lst xs.reverse) (fun b ob q=>Heap.get?_push_of_some _ q) (Nat.le_refl _) ?_,rfl,q _ (I4.hok.fresh (Nat.le_refl _))⟩
  exact ⟨by rw [List.length_reverse];exact hz,its.reverse,0,r.reverse,Heap.get?_push_size _ rfl⟩
end Bs
namespace Bs
open PySem L2
noncomputable def qk9:List V→Hp→VK→Prop:=fun xs H Q=>∃ (p:Addr) (bs:List Bool),xs=[.ref p]∧H p=some (.lst (bs.map V.bl))∧Q (.bl (bs.any id)) H
end Bs
namespace Bs
open PySem PySem.Spec PyProof.Rows L2
theorem qie {X:Cx} (hc:X.calm=true):qca X (.builtin "any") qk9:=fun pins s σ H xs us Q I r h=>by
  obtain ⟨p,bs,rfl,hp,q⟩:=h
  obtain ⟨u,rfl,ru⟩:=qe2 r
  cases ru
  obtain ⟨its,rv,pl,hz⟩:=I.list (SqL.of hp)
  have eb:=qfg rv
  subst eb
  refine call_any_walk (wpAny_pyIter_list pl.isList ⟨s.heap.objs.size,[s.heap.objs.size,p],[s.heap.objs.size],(bs.map Value.bool).toArray.size,_,_,fun i=>bs.getD i false,rfl,Walks.list (A:=X.A.in1) (show X.A.in1.handled=none from I.ok.hd hc) s.heap.objs.size p (Nat.ne_of_lt pl.lt) _,⟨⟨_,Heap.get?_push_size _ rfl,rfl,rfl⟩,pl.isList.push _⟩,?_,fun g tk gk=>?_⟩)
  · intro i v s' Q' E' hP hQ
    have e:v=Value.bool (bs.getD i false):=by
      have z:(bs.map Value.bool)[i]?=some v:=by simpa using hP
      rw [List.getElem?_map] at z
      cases w:bs[i]? with
      | none=>rw [w] at z;cases z
      | some c=>
        rw [w] at z
        rw [List.getD_eq_getElem?_getD,w]
        exact (Option.some.inj z).symm
    subst e
    exact wpAny_truthy_bool hQ
  · have kk:∀ b o,s.heap.get? b=some o→g.get? b=some o:=fun b o e=>gk b o (fun z=>absurd (Heap.lt_size e) (by rw [List.mem_singleton.mp z];exact Nat.lt_irrefl _)) (Heap.get?_push_of_some _ e)
    refine ⟨.bl (bs.any id),H,I.kept kk,?_,q⟩
    show Value.bool _=Value.bool _
    congr 1
    rw [Bool.eq_iff_iff]
    simp only [List.any_eq_true,List.mem_range,List.size_toArray,List.length_map,id]
    constructor
    · rintro ⟨i,hi,h⟩
      rw [List.getD_eq_getElem?_getD,List.getElem?_eq_getElem hi] at h
      exact ⟨bs[i],List.getElem_mem hi,h⟩
    · rintro ⟨x,hx,h⟩
      obtain ⟨i,hi,rfl⟩:=List.getElem_of_mem hx
      refine ⟨i,hi,?_⟩
      rw [List.getD_eq_getElem?_getD,List.getElem?_eq_getElem hi]
      exact h
end Bs
namespace Bs
theorem Bd.one:Bd 1 1:=by unfold Bd;decide
theorem Bd.pow {b:Nat} {x:Int} (h:Bd b x) (k:Nat):Bd (b*k+1) (x ^ k):=by
  induction k with
  | zero=>rw [Int.pow_zero,Nat.mul_zero];exact Bd.one
  | succ k ih=>
    have e:b*(k+1)+1=(b*k+1)+b:=by rw [Nat.mul_add,Nat.mul_one];omega
    rw [Int.pow_succ,e]
    exact ih.mul h
theorem Low.swap {t d:Int} (h:Low t d) (ht:0<t):Low d t:=⟨ht,by rw [Int.gcd_comm];exact h.one⟩
end Bs
namespace Bs
noncomputable abbrev Nu:=Int×Int
noncomputable def red (n m:Int):Nu:=(n / ((Int.gcd n m:Nat):Int),m / ((Int.gcd n m:Nat):Int))
noncomputable def nadd (q r:Nu):Nu:=red (q.1*r.2+r.1*q.2) (q.2*r.2)
noncomputable def nsub (q r:Nu):Nu:=red (q.1*r.2 - r.1*q.2) (q.2*r.2)
noncomputable def nmul (q r:Nu):Nu:=red (q.1*r.1) (q.2*r.2)
noncomputable def Wo (q:Nu) (n m:Int):Prop:=q.1*m=n*q.2
theorem qbD {n m:Int} (hm:0<m):Low (red n m).1 (red n m).2:=(qfE (a:=n) hm).1
theorem qmA {n m:Int} (hm:0<m):Wo (red n m) n m:=by
  have h:=(qb2 (a:=n) (b:=m) (s:=((Int.gcd n m:Nat):Int)) (by omega) (by rw [if_neg (by omega)])).2.2.2.1
  rw [Int.fdiv_eq_ediv_of_nonneg _ (by omega),Int.fdiv_eq_ediv_of_nonneg _ (by omega)] at h
  exact h
theorem qd9 {a b d:Int} (h:Low a b) (hd:b∣a*d):b∣d:=by
  have c:Nat.Coprime b.natAbs a.natAbs:=by
    have:Nat.Coprime a.natAbs b.natAbs:=h.one
    exact this.symm
  have z:=Int.natAbs_dvd_natAbs.mpr hd
  rw [Int.natAbs_mul] at z
  exact Int.natAbs_dvd_natAbs.mp (c.dvd_of_dvd_mul_left z)
theorem qgX {a b c d:Int} (h1:Low a b) (h2:Low c d) (h:a*d=c*b):a=c∧b=d:=by
  have d1:b∣d:=qd9 h1 ⟨c,by rw [h,Int.mul_comm]⟩
  have d2:d∣b:=qd9 h2 ⟨a,by rw [← h,Int.mul_comm]⟩
  have e:b=d:=Int.dvd_antisymm (Int.le_of_lt h1.pos) (Int.le_of_lt h2.pos) d1 d2
  subst e
  exact ⟨Int.eq_of_mul_eq_mul_right (Int.ne_of_gt h1.pos) h,rfl⟩
theorem qc9 {q r:Nu} (h1:0<q.2) (h2:0<r.2):Low (nadd q r).1 (nadd q r).2:=qbD (Int.mul_pos h1 h2)
theorem qjJ {q r:Nu} (h1:0<q.2) (h2:0<r.2):Low (nsub q r).1 (nsub q r).2:=qbD (Int.mul_pos h1 h2)
theorem qga {q r:Nu} (h1:0<q.2) (h2:0<r.2):Low (nmul q r).1 (nmul q r).2:=qbD (Int.mul_pos h1 h2)
noncomputable def qn2 (l:List Nu) (i:Nat):Nu:=l.getD i (0,1)
end Bs
namespace Bs
noncomputable def ps (ns ms:List Int):Nat→Nat→Int
  | 0,_=>0
  | i+1,k=>ps ns ms i k+(if i≤k∧k - i<ms.length then ns.getD i 0*ms.getD (k - i) 0 else 0)
theorem qla (c:Nat):Bd c 0:=Nat.pow_pos (by decide)
end Bs
namespace Bs
noncomputable def val (q:Nu):Rat:=(q.1:Rat) / (q.2:Rat)
theorem qa0 {z:Int} (h:z≠0):(z:Rat)≠0:=by exact_mod_cast h
theorem qdo {q:Nu} {n m:Int} (hq:q.2≠0) (hm:m≠0) (w:Wo q n m):val q=(n:Rat) / (m:Rat):=by
  have h1:=qa0 hq
  have h2:=qa0 hm
  have w':(q.1:Rat)*m=n*q.2:=by unfold Wo at w;exact_mod_cast w
  unfold val
  grind
theorem qfG {q r:Nu} (h1:Low q.1 q.2) (h2:Low r.1 r.2) (h:val q=val r):q=r:=by
  have a:=qa0 (Int.ne_of_gt h1.pos)
  have b:=qa0 (Int.ne_of_gt h2.pos)
  unfold val at h
  have z:(q.1:Rat)*r.2=r.1*q.2:=by grind
  have z':q.1*r.2=r.1*q.2:=by exact_mod_cast z
  obtain ⟨x,y⟩:=qgX h1 h2 z'
  exact Prod.ext x y
theorem qeF {n m:Int} (hm:0<m):val (red n m)=(n:Rat) / (m:Rat):=qdo (Int.ne_of_gt (qbD hm).pos) (Int.ne_of_gt hm) (qmA hm)
theorem qb4 {q r:Nu} (h1:0<q.2) (h2:0<r.2):val (nadd q r)=val q+val r:=by
  unfold nadd
  rw [qeF (Int.mul_pos h1 h2)]
  have a:=qa0 (Int.ne_of_gt h1)
  have b:=qa0 (Int.ne_of_gt h2)
  unfold val
  push_cast
  grind
theorem qgb {q r:Nu} (h1:0<q.2) (h2:0<r.2):val (nmul q r)=val q*val r:=by
  unfold nmul
  rw [qeF (Int.mul_pos h1 h2)]
  have a:=qa0 (Int.ne_of_gt h1)
  have b:=qa0 (Int.ne_of_gt h2)
  unfold val
  push_cast
  grind
noncomputable def qcJ (n m:Int):Nu:=if m<0 then red (-n) (-m) else red n m
theorem qeG {n m:Int} (hm:m≠0):Low (qcJ n m).1 (qcJ n m).2:=by
  unfold qcJ
  split
  · exact qbD (by omega)
  · exact qbD (by omega)
theorem qbE {n m:Int} (hm:m≠0):val (qcJ n m)=(n:Rat) / (m:Rat):=by
  unfold qcJ
  split
  · rw [qeF (by omega)]
    have:=qa0 hm
    push_cast
    grind
  · exact qeF (by omega)
theorem qlb {n m:Int}:(red n m).2∣m:=by
  unfold red
  exact Int.ediv_dvd_of_dvd (Int.gcd_dvd_right n m)
noncomputable def Ov (l:List Nu) (M:Int):Prop:=0<M∧∀ q∈l,q.2∣M
theorem Ov.get {l:List Nu} {M:Int} (h:Ov l M) (i:Nat):(qn2 l i).2∣M:=by
  unfold qn2
  rw [List.getD_eq_getElem?_getD]
  cases e:l[i]? with
  | none=>exact Int.one_dvd M
  | some q=>exact h.2 q (List.mem_of_getElem? e)
end Bs
namespace Bs
section
variable {α:Type} [Lean.Grind.CommRing α]
noncomputable def cvL:List α→(Nat→α)→Nat→α
  | [],_,_=>0
  | x::a,b,k=>x*b k+(match k with | 0=>0 | k+1=>cvL a b k)
theorem qa4 (b:Nat→α) (k:Nat):cvL [] b k=0:=rfl
theorem qaz (x:α) (a:List α) (b:Nat→α):cvL (x::a) b 0=x*b 0+0:=rfl
theorem qay (x:α) (a:List α) (b:Nat→α) (k:Nat):cvL (x::a) b (k+1)=x*b (k+1)+cvL a b k:=rfl
theorem qct {b c:Nat→α} (h:∀ k,b k=c k):∀ (a:List α) (k:Nat),cvL a b k=cvL a c k
  | [],_=>rfl
  | x::a,0=>by rw [qaz,qaz,h 0]
  | x::a,k+1=>by rw [qay,qay,h (k+1),qct h a k]
theorem qfH (b c:Nat→α):∀ (a:List α) (k:Nat),cvL a (fun k=>b k+c k) k=cvL a b k+cvL a c k
  | [],_=>by rw [qa4,qa4,qa4];grind
  | x::a,0=>by rw [qaz,qaz,qaz];grind
  | x::a,k+1=>by rw [qay,qay,qay,qfH b c a k];grind
theorem qda (s:α) (b:Nat→α):∀ (a:List α) (k:Nat),cvL a (fun k=>s*b k) k=s*cvL a b k
  | [],_=>by rw [qa4,qa4];grind
  | x::a,0=>by rw [qaz,qaz];grind
  | x::a,k+1=>by rw [qay,qay,qda s b a k];grind
noncomputable def up1 (b:Nat→α):Nat→α
  | 0=>0
  | k+1=>b k
theorem qeH (x:α) (a:List α) (b:Nat→α) (k:Nat):cvL (x::a) b k=x*b k+up1 (cvL a b) k:=by
  cases k with
  | zero=>exact qaz x a b
  | succ k=>exact qay x a b k
end
end Bs
namespace Bs
structure Pr (p:Nat):Prop where
  two:2≤p
  div:∀ d,d∣p→d=1∨d=p
theorem Pr.cop {p:Nat} (h:Pr p) {a:Nat} (ha:¬ p∣a):Nat.gcd a p=1:=by
  rcases h.div _ (Nat.gcd_dvd_right a p) with e | e
  · exact e
  · exact absurd (e ▸ Nat.gcd_dvd_left a p) ha
theorem Pr.mul {p:Nat} (h:Pr p) {a b:Nat} (hd:p∣a*b):p∣a∨p∣b:=by
  by_cases ha:p∣a
  · exact .inl ha
  · refine .inr (Nat.Coprime.dvd_of_dvd_mul_left (k:=p) (m:=a) ?_ hd)
    have:=h.cop ha
    rw [Nat.gcd_comm] at this
    exact this
theorem Pr.mulI {p:Nat} (h:Pr p) {a b:Int} (hd:(p:Int)∣a*b):(p:Int)∣a∨(p:Int)∣b:=by
  have z:=Int.natAbs_dvd_natAbs.mpr hd
  rw [Int.natAbs_mul,Int.natAbs_natCast] at z
  rcases h.mul z with e | e
  · exact .inl (Int.natAbs_dvd_natAbs.mp (by rw [Int.natAbs_natCast];exact e))
  · exact .inr (Int.natAbs_dvd_natAbs.mp (by rw [Int.natAbs_natCast];exact e))
noncomputable abbrev Rt:=Int×Int
theorem em {a q:Int}:∃ c,a % q=a - q*c:=⟨a / q,by have:=Int.emod_add_mul_ediv a q;omega⟩
noncomputable def rn (q:Int) (x:Rt):Prop:=x.1 % q=x.1∧x.2 % q=x.2
noncomputable def ll (M:Nat):Nat→Nat→Nat
  | 0,s=>s
  | k+1,s=>ll M k ((s*s+(M - 2)) % M)
end Bs
namespace Bs
end Bs
namespace Bs
noncomputable def co (ns:List Int) (k:Nat):Int:=ns.getD k 0
section
variable {α:Type} [Lean.Grind.CommRing α]
noncomputable def qcK:List α→List α→List α
  | [],b=>b
  | a,[]=>a
  | x::a,y::b=>(x+y)::qcK a b
theorem qif (a:List α):qcK a []=a:=by cases a <;> rfl
theorem qa9 (g:Nat→α):∀ (a b:List α) (k:Nat),cvL (qcK a b) g k=cvL a g k+cvL b g k
  | [],b,k=>by show cvL b g k=0+cvL b g k;grind
  | x::a,[],k=>by rw [qif,qa4];grind
  | x::a,y::b,0=>by show cvL ((x+y)::qcK a b) g 0=_;rw [qaz,qaz,qaz];grind
  | x::a,y::b,k+1=>by show cvL ((x+y)::qcK a b) g (k+1)=_;rw [qay,qay,qay,qa9 g a b k];grind
theorem qaI (c:α) (g:Nat→α):∀ (a:List α) (k:Nat),cvL (a.map (c*·)) g k=c*cvL a g k
  | [],k=>by show (0:α)=c*0;grind
  | x::a,0=>by rw [List.map_cons,qaz,qaz];grind
  | x::a,k+1=>by rw [List.map_cons,qay,qay,qaI c g a k];grind
noncomputable def upS (s:Nat) (f:Nat→α) (k:Nat):α:=if s≤k then f (k - s) else 0
theorem qbS (g:Nat→α):∀ (s:Nat) (a:List α) (k:Nat),cvL (List.replicate s 0++a) g k=upS s (cvL a g) k
  | 0,a,k=>by unfold upS;rw [if_pos (Nat.zero_le k)];rfl
  | s+1,a,0=>by unfold upS;rw [if_neg (by omega)];show cvL (0::(List.replicate s 0++a)) g 0=0;rw [qaz];grind
  | s+1,a,k+1=>by
    show cvL (0::(List.replicate s 0++a)) g (k+1)=_
    rw [qay,qbS g s a k]
    unfold upS
    by_cases h:s≤k
    · rw [if_pos h,if_pos (by omega),show k+1 - (s+1)=k - s by omega];grind
    · rw [if_neg h,if_neg (by omega)];grind
noncomputable def qcu:List α→List α→List α
  | [],_=>[]
  | x::a,b=>qcK (b.map (x*·)) (0::qcu a b)
theorem qbm (g:Nat→α):∀ (a b:List α) (k:Nat),cvL (qcu a b) g k=cvL a (cvL b g) k
  | [],b,k=>rfl
  | x::a,b,k=>by
    show cvL (qcK (b.map (x*·)) (0::qcu a b)) g k=_
    rw [qa9,qaI,qeH,qeH]
    have e:up1 (cvL (qcu a b) g) k=up1 (cvL a (cvL b g)) k:=by
      cases k with
      | zero=>rfl
      | succ k=>exact qbm g a b k
    rw [e]
    grind
theorem qdp (g:Nat→α) (s:α):∀ (a:List α) (k:Nat),cvL (a++[s]) g k=cvL a g k+s*upS a.length g k
  | [],0=>by show cvL [s] g 0=0+s*g 0;rw [qaz];grind
  | [],k+1=>by show cvL [s] g (k+1)=0+s*g (k+1);rw [qay,qa4];grind
  | x::a,0=>by show cvL (x::(a++[s])) g 0=_;rw [qaz,qaz];unfold upS;rw [if_neg (by simp)];grind
  | x::a,k+1=>by
    show cvL (x::(a++[s])) g (k+1)=_
    rw [qay,qay,qdp g s a k]
    have e:upS (x::a).length g (k+1)=upS a.length g k:=by
      unfold upS
      rw [List.length_cons]
      by_cases h:a.length≤k
      · rw [if_pos h,if_pos (by omega),show k+1 - (a.length+1)=k - a.length by omega]
      · rw [if_neg h,if_neg (by omega)]
    rw [e];grind
end
theorem qcU {a:List Int} {k:Nat} (h:a.length≤k):co a k=0:=by
  unfold co;rw [List.getD_eq_getElem?_getD,List.getElem?_eq_none h];rfl
theorem qgc {p:Int} {g:Nat→Int} {n:Nat} (h:∀ i,n<i→p∣g i):∀ (a:List Int) (k:Nat),a.length+n≤k→p∣cvL a g k
  | [],_,_=>Int.dvd_zero p
  | x::a,0,hk=>absurd hk (by rw [List.length_cons];omega)
  | x::a,k+1,hk=>by
    rw [List.length_cons] at hk
    rw [qay]
    exact Int.dvd_add (Int.dvd_mul_of_dvd_right (h (k+1) (by omega))) (qgc h a k (by omega))
theorem qfk {p:Nat} (hp:Pr p) {g:Nat→Int} {n:Nat} (h0:¬ (p:Int)∣g n) (h:∀ i,n<i→(p:Int)∣g i) (S:List Int) :
    (∀ k,n≤k→(p:Int)∣cvL S g k)→∀ s∈S,(p:Int)∣s:=by
  induction hl:S.length generalizing S with
  | zero=>intro _ s hs;rw [List.length_eq_zero_iff.mp hl] at hs;exact nomatch hs
  | succ m ih=>
    intro hk
    have ne:S≠[]:=fun z=>by rw [z] at hl;simp at hl
    obtain ⟨T,t,rfl⟩:∃ T t,S=T++[t]:=⟨S.dropLast,S.getLast ne,(List.dropLast_concat_getLast ne).symm⟩
    have hT:T.length=m:=by simpa using hl
    have ht:(p:Int)∣t:=by
      have a:=hk (T.length+n) (by omega)
      rw [qdp] at a
      have b:=qgc h T (T.length+n) (Nat.le_refl _)
      have c:(p:Int)∣t*upS T.length g (T.length+n):=by
        have:=Int.dvd_sub a b
        rwa [show ∀ x y:Int,x+y - x=y by intro x y;omega] at this
      unfold upS at c
      rw [if_pos (by omega),show T.length+n - T.length=n by omega] at c
      rcases hp.mulI c with z | z
      · exact z
      · exact absurd z h0
    have hT2:=ih T hT (fun k hk2=>by
      have a:=hk k hk2
      rw [qdp] at a
      have:=Int.dvd_sub a (Int.dvd_mul_of_dvd_left (c:=upS T.length g k) ht)
      rwa [show ∀ x y:Int,x+y - y=x by intro x y;omega] at this)
    intro s hs
    rcases List.mem_append.mp hs with h | h
    · exact hT2 s h
    · rw [List.mem_singleton.mp h];exact ht
noncomputable def Lz (g:List Int):Prop:=0<g.length∧co g (g.length - 1)≠0
noncomputable def QI (r o f:Nat→Int):Prop:=∃ d:Int,d≠0∧∃ U V:List Int,∀ k,d*f k=cvL U r k+cvL V o k
noncomputable def MQ (g f:Nat→Int):Prop:=∃ c:Int,c≠0∧∃ A:List Int,∀ k,c*f k=cvL A g k
theorem QI.congr {r o f h:Nat→Int} (q:QI r o f) (e:∀ k,h k=f k):QI r o h:=by
  obtain ⟨d,d0,U,V,hU⟩:=q
  exact ⟨d,d0,U,V,fun k=>by rw [e k];exact hU k⟩
theorem QI.left (r o:Nat→Int):QI r o r:=⟨1,by decide,[1],[],fun k=>by
  rw [qa4]
  cases k with
  | zero=>rw [qaz];omega
  | succ k=>rw [qay,qa4];omega⟩
theorem QI.right (r o:Nat→Int):QI r o o:=⟨1,by decide,[],[1],fun k=>by
  rw [qa4]
  cases k with
  | zero=>rw [qaz];omega
  | succ k=>rw [qay,qa4];omega⟩
theorem QI.less {r o f h:Nat→Int} (q:QI r o f) (q':QI r o h) (a w:Int) (s:Nat):QI r o (fun k=>a*f k - w*upS s h k):=by
  obtain ⟨d,d0,U,V,hU⟩:=q
  obtain ⟨d',d0',U',V',hU'⟩:=q'
  refine ⟨d*d',Int.mul_ne_zero d0 d0',qcK (U.map (d'*a*·)) (List.replicate s 0++U'.map (-(d*w)*·)),qcK (V.map (d'*a*·)) (List.replicate s 0++V'.map (-(d*w)*·)),fun k=>?_⟩
  show d*d'*(a*f k - w*upS s h k)=_
  rw [qa9,qa9,qaI,qaI,qbS,qbS]
  unfold upS
  have e1:=hU k
  by_cases hs:s≤k
  · rw [if_pos hs,if_pos hs,if_pos hs,qaI,qaI]
    have e2:=hU' (k - s)
    grind
  · rw [if_neg hs,if_neg hs,if_neg hs]
    grind
theorem QI.scal {r o f:Nat→Int} {c:Int} (c0:c≠0) (q:QI r o (fun k=>c*f k)):QI r o f:=by
  obtain ⟨d,d0,U,V,hU⟩:=q
  exact ⟨d*c,Int.mul_ne_zero d0 c0,U,V,fun k=>by rw [← hU k];grind⟩
theorem QI.trans {r o a b f:Nat→Int} (qa:QI r o a) (qb:QI r o b) (q:QI a b f):QI r o f:=by
  obtain ⟨d,d0,U,V,hU⟩:=q
  obtain ⟨d1,d10,U1,V1,h1⟩:=qa
  obtain ⟨d2,d20,U2,V2,h2⟩:=qb
  refine ⟨d1*d2*d,Int.mul_ne_zero (Int.mul_ne_zero d10 d20) d0,qcK ((qcu U U1).map (d2*·)) ((qcu V U2).map (d1*·)),qcK ((qcu U V1).map (d2*·)) ((qcu V V2).map (d1*·)),fun k=>?_⟩
  rw [qa9,qa9,qaI,qaI,qaI,qaI,qbm,qbm,qbm,qbm]
  have e1:d1*cvL U a k=cvL U (cvL U1 r) k+cvL U (cvL V1 o) k:=by
    rw [← qda,← qfH];exact qct h1 U k
  have e2:d2*cvL V b k=cvL V (cvL U2 r) k+cvL V (cvL V2 o) k:=by
    rw [← qda,← qfH];exact qct h2 V k
  have e3:=hU k
  grind
theorem MQ.refl (g:Nat→Int):MQ g g:=⟨1,by decide,[1],fun k=>by
  cases k with
  | zero=>rw [qaz];omega
  | succ k=>rw [qay,qa4];omega⟩
theorem MQ.zero (g:Nat→Int) {f:Nat→Int} (h:∀ k,f k=0):MQ g f:=⟨1,by decide,[],fun k=>by rw [qa4,h k];rfl⟩
theorem MQ.congr {g f h:Nat→Int} (m:MQ g f) (e:∀ k,h k=f k):MQ g h:=by
  obtain ⟨c,c0,A,hA⟩:=m
  exact ⟨c,c0,A,fun k=>by rw [e k];exact hA k⟩
theorem MQ.less {g f h:Nat→Int} (m:MQ g f) (m':MQ g h) (a w:Int) (s:Nat):MQ g (fun k=>a*f k - w*upS s h k):=by
  obtain ⟨d,d0,U,hU⟩:=m
  obtain ⟨d',d0',U',hU'⟩:=m'
  refine ⟨d*d',Int.mul_ne_zero d0 d0',qcK (U.map (d'*a*·)) (List.replicate s 0++U'.map (-(d*w)*·)),fun k=>?_⟩
  show d*d'*(a*f k - w*upS s h k)=_
  rw [qa9,qaI,qbS]
  unfold upS
  have e1:=hU k
  by_cases hs:s≤k
  · rw [if_pos hs,if_pos hs,qaI]
    have e2:=hU' (k - s)
    grind
  · rw [if_neg hs,if_neg hs]
    grind
theorem MQ.scal {g f:Nat→Int} {c:Int} (c0:c≠0) (m:MQ g (fun k=>c*f k)):MQ g f:=by
  obtain ⟨d,d0,A,hA⟩:=m
  exact ⟨d*c,Int.mul_ne_zero d0 c0,A,fun k=>by rw [← hA k];grind⟩
theorem MQ.trans {g f h:Nat→Int} (m:MQ g f) (m':MQ f h):MQ g h:=by
  obtain ⟨c,c0,A,hA⟩:=m
  obtain ⟨d,d0,B,hB⟩:=m'
  refine ⟨c*d,Int.mul_ne_zero c0 d0,qcu B A,fun k=>?_⟩
  rw [qbm]
  have e:c*cvL B f k=cvL B (cvL A g) k:=by rw [← qda];exact qct hA B k
  rw [← e,← hB k];grind
end Bs
namespace Bs
theorem qdq {f:List Int} (h:co f (f.length - 1)=0) (k:Nat):co f.dropLast k=co f k:=by
  unfold co at *
  rw [List.getD_eq_getElem?_getD,List.getD_eq_getElem?_getD]
  rw [List.getElem?_dropLast]
  by_cases hk:k<f.length - 1
  · rw [if_pos hk]
  · rw [if_neg hk]
    by_cases e:k=f.length - 1
    · subst e
      rw [List.getD_eq_getElem?_getD] at h
      rw [h];rfl
    · rw [List.getElem?_eq_none (by omega)]
theorem qnE (f:List Int):(∀ k,co f k=0)∨∃ g,Lz g∧g.length≤f.length∧∀ k,co g k=co f k:=by
  induction hn:f.length generalizing f with
  | zero=>exact .inl fun k=>qcU (by omega)
  | succ n ih=>
    by_cases h:co f (f.length - 1)=0
    · rcases ih f.dropLast (by rw [List.length_dropLast];omega) with z | ⟨g,g1,g2,g3⟩
      · exact .inl fun k=>by rw [← qdq h];exact z k
      · exact .inr ⟨g,g1,by omega,fun k=>by rw [g3,qdq h]⟩
    · exact .inr ⟨f,⟨by omega,h⟩,by omega,fun _=>rfl⟩
theorem qjK (n:Nat) (F:Nat→Int) (k:Nat):co ((List.range n).map F) k=if k<n then F k else 0:=by
  unfold co
  rw [List.getD_eq_getElem?_getD,List.getElem?_map]
  by_cases h:k<n
  · rw [if_pos h,List.getElem?_range h];rfl
  · rw [if_neg h,List.getElem?_eq_none (by rw [List.length_range];omega)];rfl
structure Gen (r o:Nat→Int) (g:List Int):Prop where
  lz:Lz g
  qi:QI r o (co g)
  len:∀ h,Lz h→QI r o (co h)→g.length≤h.length
  last:∀ h,Lz h→QI r o (co h)→h.length=g.length→(co g (g.length - 1)).natAbs≤(co h (h.length - 1)).natAbs
theorem Gen.mq {r o:Nat→Int} {g:List Int} (G:Gen r o g):∀ (n:Nat) (f:List Int),f.length≤n→QI r o (co f)→MQ (co g) (co f)
  | 0,f,h,_=>MQ.zero _ fun k=>qcU (by omega)
  | n+1,f,h,q=>by
    rcases qnE f with z | ⟨f1,l1,h1,e1⟩
    · exact MQ.zero _ z
    have q1:QI r o (co f1):=q.congr e1
    have gl:=G.len f1 l1 q1
    refine MQ.congr (f:=co f1) ?_ fun k=>(e1 k).symm
    generalize hs:f1.length - g.length=s
    have g0:=G.lz.1
    let F:List Int:=(List.range (f1.length - 1)).map fun k=>co g (g.length - 1)*co f1 k - co f1 (f1.length - 1)*upS s (co g) k
    have eF:∀ k,co F k=co g (g.length - 1)*co f1 k - co f1 (f1.length - 1)*upS s (co g) k:=fun k=>by
      rw [qjK]
      by_cases hk:k<f1.length - 1
      · rw [if_pos hk]
      · rw [if_neg hk]
        unfold upS
        by_cases hk2:k=f1.length - 1
        · rw [if_pos (by omega),hk2,show f1.length - 1 - s=g.length - 1 by omega];grind
        · rw [qcU (a:=f1) (by omega)]
          by_cases hk3:s≤k
          · rw [if_pos hk3,qcU (a:=g) (k:=k - s) (by omega)];omega
          · rw [if_neg hk3];omega
    have qF:QI r o (co F):=QI.congr (q1.less G.qi (co g (g.length - 1)) (co f1 (f1.length - 1)) s) eF
    have lF:F.length≤n:=by
      have:F.length=f1.length - 1:=by show ((List.range (f1.length - 1)).map _).length=_;rw [List.length_map,List.length_range]
      omega
    have m:=Gen.mq G n F lF qF
    have m2:=MQ.less (MQ.congr m fun k=>(eF k).symm) (MQ.refl (co g)) 1 (-(co f1 (f1.length - 1))) s
    refine MQ.scal (c:=co g (g.length - 1)) G.lz.2 (MQ.congr m2 fun k=>?_)
    show _=1*_ - _*upS s (co g) k
    generalize upS s (co g) k=y
    grind
theorem Gen.prim {r o:Nat→Int} {g:List Int} (G:Gen r o g) {p:Nat} (hp:2≤p):∃ n,¬ (p:Int)∣co g n∧∀ i,n<i→(p:Int)∣co g i:=by
  have key:∀ n,(∀ i,n≤i→(p:Int)∣co g i)→(∀ i,(p:Int)∣co g i)∨∃ n,¬ (p:Int)∣co g n∧∀ i,n<i→(p:Int)∣co g i:=by
    intro n
    induction n with
    | zero=>intro h;exact .inl fun i=>h i (Nat.zero_le i)
    | succ n ih=>
      intro h
      by_cases hd:(p:Int)∣co g n
      · exact ih fun i hi=>by
          by_cases e:i=n
          · rw [e];exact hd
          · exact h i (by omega)
      · exact .inr ⟨n,hd,fun i hi=>h i (by omega)⟩
  rcases key g.length (fun i hi=>by rw [qcU hi];exact Int.dvd_zero _) with h | h
  · exfalso
    let h1:List Int:=g.map (· / (p:Int))
    have e1:∀ k,(p:Int)*co h1 k=co g k:=fun k=>by
      have:co h1 k=co g k / (p:Int):=by
        show (g.map (· / (p:Int))).getD k 0=g.getD k 0 / (p:Int)
        rw [List.getD_eq_getElem?_getD,List.getD_eq_getElem?_getD,List.getElem?_map]
        cases g[k]? with
        | none=>exact (Int.zero_ediv _).symm
        | some z=>rfl
      rw [this,Int.mul_ediv_cancel' (h k)]
    have p0:(p:Int)≠0:=by omega
    have qim:h1.length=g.length:=List.length_map ..
    have ne:co h1 (h1.length - 1)≠0:=fun z=>G.lz.2 (by rw [← e1,← qim,z];omega)
    have l1:Lz h1:=⟨by rw [qim];exact G.lz.1,ne⟩
    have q1:QI r o (co h1):=QI.scal (c:=(p:Int)) p0 (QI.congr G.qi e1)
    have lt:=G.last h1 l1 q1 qim
    have e2:=e1 (g.length - 1)
    rw [← qim] at e2
    rw [qim] at e2 lt
    rw [← e2,Int.natAbs_mul,Int.natAbs_natCast] at lt
    rw [qim] at ne
    have pos:0<(co h1 (g.length - 1)).natAbs:=by omega
    have:=Nat.mul_le_mul_right (co h1 (g.length - 1)).natAbs hp
    omega
  · exact h
theorem Gen.loc {r o:Nat→Int} {g:List Int} (G:Gen r o g) {p:Nat} (hp:Pr p) {f:Nat→Int} (m:MQ (co g) f) :
    ∃ (c:Int) (A:List Int),¬ (p:Int)∣c∧∀ k,c*f k=cvL A (co g) k:=by
  obtain ⟨n,n0,n1⟩:=G.prim hp.two
  obtain ⟨c,c0,A,hA⟩:=m
  have key:∀ (m:Nat) (c:Int) (A:List Int),c.natAbs≤m→c≠0→(∀ k,c*f k=cvL A (co g) k)→∃ (c:Int) (A:List Int),¬ (p:Int)∣c∧∀ k,c*f k=cvL A (co g) k:=by
    intro m
    induction m with
    | zero=>intro c A h h0;omega
    | succ m ih=>
      intro c A h h0 hA
      by_cases hd:(p:Int)∣c
      · have dA:∀ a∈A,(p:Int)∣a:=qfk hp n0 n1 A fun k _=>by rw [← hA k];exact Int.dvd_mul_of_dvd_left hd
        obtain ⟨c',rfl⟩:=hd
        have p2:=hp.two
        have c0':c'≠0:=fun z=>h0 (by rw [z];omega)
        have eA:A=(A.map (· / (p:Int))).map ((p:Int)*·):=by
          rw [List.map_map]
          conv=>lhs;rw [← List.map_id A]
          refine List.map_congr_left fun a ha=>?_
          show a=(p:Int)*(a / (p:Int))
          rw [Int.mul_ediv_cancel' (dA a ha)]
        refine ih c' (A.map (· / (p:Int))) ?_ c0' fun k=>?_
        · rw [Int.natAbs_mul,Int.natAbs_natCast] at h
          have pos:0<c'.natAbs:=by omega
          have:=Nat.mul_le_mul_right c'.natAbs p2
          omega
        · have e:=hA k
          rw [eA,qaI,Int.mul_assoc] at e
          exact Int.eq_of_mul_eq_mul_left (by omega) e
      · exact ⟨c,A,hd,hA⟩
  exact key _ c A (Nat.le_refl _) c0 hA
noncomputable def Dm (p:Int) (g f:Nat→Int):Prop:=∃ S:List Int,∀ k,p∣f k - cvL S g k
theorem Dm.less {p:Int} {g f h:Nat→Int} (m:Dm p g f) (m':Dm p g h) (a w:Int) (s:Nat):Dm p g (fun k=>a*f k - w*upS s h k):=by
  obtain ⟨S,hS⟩:=m
  obtain ⟨S',hS'⟩:=m'
  refine ⟨qcK (S.map (a*·)) (List.replicate s 0++S'.map (-w*·)),fun k=>?_⟩
  show p∣a*f k - w*upS s h k - _
  rw [qa9,qaI,qbS]
  unfold upS
  obtain ⟨x,hx⟩:=hS k
  by_cases hs:s≤k
  · rw [if_pos hs,if_pos hs,qaI]
    obtain ⟨y,hy⟩:=hS' (k - s)
    exact ⟨a*x - w*y,by grind⟩
  · rw [if_neg hs,if_neg hs]
    exact ⟨a*x,by grind⟩
theorem Dm.congr {p:Int} {g f h:Nat→Int} (m:Dm p g f) (e:∀ k,p∣h k - f k):Dm p g h:=by
  obtain ⟨S,hS⟩:=m
  exact ⟨S,fun k=>by have:=Int.dvd_add (e k) (hS k);rwa [show ∀ x y z:Int,x - y+(y - z)=x - z by intro x y z;omega] at this⟩
theorem Dm.zero (p:Int) (g:Nat→Int) {f:Nat→Int} (h:∀ k,p∣f k):Dm p g f:=⟨[],fun k=>by rw [qa4];simpa using h k⟩
theorem Dm.len {p:Nat} (hp:Pr p) {g f:List Int} (lg:0<g.length) (hl:¬ (p:Int)∣co g (g.length - 1)) (d:Dm (p:Int) (co g) (co f)) (h0:∃ k,¬ (p:Int)∣co f k):g.length≤f.length:=by
  rcases Nat.lt_or_ge f.length g.length with z | z
  · exfalso
    obtain ⟨S,hS⟩:=d
    have sS:=qfk hp hl (fun i hi=>by rw [qcU (by omega)];exact Int.dvd_zero _) S fun k hk=>by
      have:=hS k
      rw [qcU (by omega)] at this
      have e:=Int.dvd_neg.mpr this
      rwa [show ∀ x:Int,-(0 - x)=x by intro x;omega] at e
    obtain ⟨k,hk⟩:=h0
    apply hk
    have c:∀ (S:List Int),(∀ s∈S,(p:Int)∣s)→∀ k,(p:Int)∣cvL S (co g) k:=by
      intro S
      induction S with
      | nil=>intro _ k;exact Int.dvd_zero _
      | cons x S ih=>
        intro h k
        rw [qeH]
        refine Int.dvd_add (Int.dvd_mul_of_dvd_left (h x (List.mem_cons_self ..))) ?_
        cases k with
        | zero=>exact Int.dvd_zero _
        | succ k=>exact ih (fun s hs=>h s (List.mem_cons_of_mem _ hs)) k
    have:=Int.dvd_add (hS k) (c S sS k)
    rwa [Int.sub_add_cancel] at this
  · exact z
structure RC (r o:Nat→Int) (g:List Int):Prop where
  lz:Lz g
  left:MQ (co g) r
  right:MQ (co g) o
  qi:QI r o (co g)
theorem Gen.rc {R O g:List Int} (G:Gen (co R) (co O) g):RC (co R) (co O) g:=
  ⟨G.lz,G.mq _ R (Nat.le_refl _) (QI.left _ _),G.mq _ O (Nat.le_refl _) (QI.right _ _),G.qi⟩
end Bs
namespace Bs
noncomputable def Prim (g:List Int):Prop:=∀ c:Int,(∀ k,c∣co g k)→c.natAbs=1
theorem Prim.top {g:List Int} (P:Prim g) {p:Nat} (hp:2≤p):∃ n,¬ (p:Int)∣co g n∧∀ i,n<i→(p:Int)∣co g i:=by
  have key:∀ n,(∀ i,n≤i→(p:Int)∣co g i)→(∀ i,(p:Int)∣co g i)∨∃ n,¬ (p:Int)∣co g n∧∀ i,n<i→(p:Int)∣co g i:=by
    intro n
    induction n with
    | zero=>intro h;exact .inl fun i=>h i (Nat.zero_le i)
    | succ n ih=>
      intro h
      by_cases hd:(p:Int)∣co g n
      · exact ih fun i hi=>by
          by_cases e:i=n
          · rw [e];exact hd
          · exact h i (by omega)
      · exact .inr ⟨n,hd,fun i hi=>h i (by omega)⟩
  rcases key g.length (fun i hi=>by rw [qcU hi];exact Int.dvd_zero _) with h | h
  · have:=P (p:Int) h
    omega
  · exact h
end Bs
namespace Bs
open PySem L2
noncomputable def isN (H:Hp) (v:V) (q:Nu):Prop:=∃ p,v=.ref p∧H p=some (.tup [.int q.1,.int q.2])
noncomputable def Nums (H:Hp):List V→List Nu→Prop
  | [],[]=>True
  | x::xs,q::l=>isN H x q∧Nums H xs l
  | _,_=>False
noncomputable def Tp (H H':Hp):Prop:=∀ b xs,H b=some (.tup xs)→H' b=some (.tup xs)
theorem tpS {H H':Hp} (s:Same H H'):Tp H H':=fun b xs h=>s b _ h
theorem Tp.trans {H H1 H2:Hp} (a:Tp H H1) (b:Tp H1 H2):Tp H H2:=fun c xs h=>b c xs (a c xs h)
theorem Kp.tp {p:Addr} {H H':Hp} {xs:List V} (k:Kp p H H') (h:H p=some (.lst xs)):Tp H H':=fun b ys q=>k b _ (qer q h (by intro z;cases z)) q
theorem Tp.updL {p:Addr} {H:Hp} {xs ys:List V} (h:H p=some (.lst xs)):Tp H (upd H p (.lst ys)):=Kp.tp Kp.upd h
theorem isN.tp {H H':Hp} {v:V} {q:Nu} (h:isN H v q) (t:Tp H H'):isN H' v q:=let ⟨p,e,z⟩:=h;⟨p,e,t _ _ z⟩
theorem Nums.tp {H H':Hp} (t:Tp H H'):∀ {xs:List V} {l:List Nu},Nums H xs l→Nums H' xs l
  | [],[],_=>trivial
  | _::_,_::_,h=>⟨h.1.tp t,Nums.tp t h.2⟩
  | [],_::_,h=>h.elim
  | _::_,[],h=>h.elim
theorem Nums.length {H:Hp}:∀ {xs:List V} {l:List Nu},Nums H xs l→xs.length=l.length
  | [],[],_=>rfl
  | _::_,_::_,h=>congrArg (·+1) (Nums.length h.2)
  | [],_::_,h=>h.elim
  | _::_,[],h=>h.elim
theorem Nums.get {H:Hp}:∀ {xs:List V} {l:List Nu} {i:Nat} {v:V},Nums H xs l→xs[i]?=some v→∃ q,l[i]?=some q∧isN H v q
  | [],[],_,_,_,e=>by simp at e
  | _::_,q::_,0,_,h,e=>by simp at e;subst e;exact ⟨q,rfl,h.1⟩
  | _::_,_::_,i+1,_,h,e=>by
    obtain ⟨q,h1,h2⟩:=Nums.get (i:=i) h.2 (by simpa using e)
    exact ⟨q,by simpa using h1,h2⟩
  | [],_::_,_,_,h,_=>h.elim
  | _::_,[],_,_,h,_=>h.elim
theorem Nums.at {H:Hp} {xs:List V} {l:List Nu} {i:Nat} (h:Nums H xs l) (hi:i<l.length) (d:Nu):∃ v,xs[i]?=some v∧isN H v (l.getD i d):=by
  have hx:i<xs.length:=by rw [h.length];exact hi
  obtain ⟨q,h1,h2⟩:=h.get (List.getElem?_eq_getElem hx)
  refine ⟨_,List.getElem?_eq_getElem hx,?_⟩
  rw [List.getD_eq_getElem?_getD,h1]
  exact h2
theorem Nums.append {H:Hp}:∀ {xs ys:List V} {l m:List Nu},Nums H xs l→Nums H ys m→Nums H (xs++ys) (l++m)
  | [],_,[],_,_,h=>h
  | _::_,_,_::_,_,h,h2=>⟨h.1,Nums.append h.2 h2⟩
  | [],_,_::_,_,h,_=>h.elim
  | _::_,_,[],_,h,_=>h.elim
theorem Nums.one {H:Hp} {v:V} {q:Nu} (h:isN H v q):Nums H [v] [q]:=⟨h,trivial⟩
theorem Nums.take {H:Hp}:∀ {xs:List V} {l:List Nu} (n:Nat),Nums H xs l→Nums H (xs.take n) (l.take n)
  | [],[],n,_=>by simp [Nums]
  | _::_,_::_,0,_=>trivial
  | _::_,_::_,n+1,h=>⟨h.1,Nums.take n h.2⟩
  | [],_::_,_,h=>h.elim
  | _::_,[],_,h=>h.elim
theorem Nums.set {H:Hp} {v:V} {q:Nu} (hv:isN H v q):∀ {xs:List V} {l:List Nu} (i:Nat),Nums H xs l→Nums H (xs.set i v) (l.set i q)
  | [],[],_,_=>trivial
  | _::_,_::_,0,h=>⟨hv,h.2⟩
  | _::_,_::_,i+1,h=>⟨h.1,Nums.set hv i h.2⟩
  | [],_::_,_,h=>h.elim
  | _::_,[],_,h=>h.elim
theorem qig {α:Type} {xs:List α} {i:Int} {j:Nat} {v:α} (e:i=(j:Int)) (h:xs[j]?=some v):atI xs i=some v:=by subst e;exact qkI h
noncomputable def qhh (q:Nu):PySem.W.Dat:=.tuple [.int q.1,.int q.2]
theorem qmB {H:Hp} {v:V} {q:Nu} (h:isN H v q):RepD H v (qhh q):=by
  obtain ⟨p,rfl,hp⟩:=h
  exact .tup hp (.cons (.int _) (.cons (.int _) .nil))
theorem okN (q:Nu) (n:Nat):PySem.W.kqdOk (n+1) (qhh q)=true:=by simp [qhh,PySem.W.kqdOk]
end Bs
namespace Bs
open PySem L2
section
variable {σ:L2.St} {H:Hp} {Q:VK} {D:Ends} {rest:TS} {sp:Sp} {E:XK}
theorem qlc {ta:TE} {k:Nat} (h:ta σ H fun x H1=>sp [x] H1 (fun v H'=>rest D (σ.set k (some v)) H') E):qaG (qaY (qar sp [] E (qac ta qaq)) (qap k)) rest D σ H:=h
theorem qbF {ta tb:TE} {k:Nat} (h:ta σ H fun x H1=>tb σ H1 fun y H2=>sp [x,y] H2 (fun v H'=>rest D (σ.set k (some v)) H') E):qaG (qaY (qar sp [] E (qac ta (qac tb qaq))) (qap k)) rest D σ H:=h
theorem qih {ta tb tc:TE} {k:Nat} (h:ta σ H fun x H1=>tb σ H1 fun y H2=>tc σ H2 fun z H3=>sp [x,y,z] H3 (fun v H'=>rest D (σ.set k (some v)) H') E):qaG (qaY (qar sp [] E (qac ta (qac tb (qac tc qaq)))) (qap k)) rest D σ H:=h
theorem qgY {ta:TE} (h:ta σ H fun x H1=>sp [x] H1 Q E):qar sp [] E (qac ta qaq) σ H Q:=h
theorem qa5 {ta tb:TE} (h:ta σ H fun x H1=>tb σ H1 fun y H2=>sp [x,y] H2 Q E):qar sp [] E (qac ta (qac tb qaq)) σ H Q:=h
theorem qii {ta tb tc:TE} (h:ta σ H fun x H1=>tb σ H1 fun y H2=>tc σ H2 fun z H3=>sp [x,y,z] H3 Q E):qar sp [] E (qac ta (qac tb (qac tc qaq))) σ H Q:=h
theorem qa6 {te:TE} {k:Nat} (h:te σ H fun x H1=>rest D (σ.set k (some x)) H1):qaG (qaY te (qap k)) rest D σ H:=h
theorem qcv {te:TE} (h:te σ H D.rt):qbB te D σ H:=h
theorem qij {ta:TE} (h:ta σ H fun x H1=>[x].length≤sizeLine∧∀ p,H1 p=none→Q (.ref p) (upd H1 p (.tup [x]))):qbh (qac ta qaq) σ H Q:=h
theorem qaB {ta tb:TE} (h:ta σ H fun x H1=>tb σ H1 fun y H2=>[x,y].length≤sizeLine∧∀ p,H2 p=none→Q (.ref p) (upd H2 p (.tup [x,y]))):qbh (qac ta (qac tb qaq)) σ H Q:=h
theorem qmC {ta:TE} (h:ta σ H fun x H1=>[x].length≤sizeLine∧∀ p,H1 p=none→Q (.ref p) (upd H1 p (.lst [x]))):qhf (qac ta qaq) σ H Q:=h
theorem qki {ta tb:TE} (h:ta σ H fun x H1=>tb σ H1 fun y H2=>[x,y].length≤sizeLine∧∀ p,H2 p=none→Q (.ref p) (upd H2 p (.lst [x,y]))):qhf (qac ta (qac tb qaq)) σ H Q:=h
theorem r_c {v:V} (h:Q v H):tC v σ H Q:=h
theorem qfI {r:R2} {ta tb:TE} (h:ta σ H fun x H1=>tb σ H1 fun y H2=>r x y H2 Q):tOp r ta tb σ H Q:=h
theorem qdW {b:List V→Hp→VK→Prop} {ta:TE} (h:ta σ H fun x H1=>b [x] H1 Q):tCB b (qac ta qaq) σ H Q:=h
theorem qni {i:Nat} {v:V} {σ:L2.St} {H:Hp} {Q:L2.St→Hp→Prop} (h:Q (σ.set i (some v)) H):qap i v σ H Q:=h
theorem qik {K:W.Frag} {tl:TE} {capt:List (Option Nat)} {g:TG} {te:TE} {σ:L2.St} {H:Hp} {Q:VK} (h:tl σ H (fun x H1=>∃ a,x=.ref a∧(∃ xs,SqT K H1 a xs)∧CompJ (Itt K a) capt g te σ Q H1)):qbC (qjd K tl) capt g te σ H Q:=h
theorem qeI {K:W.Frag} {tl:TE} {capt:List (Option Nat)} {g:TG} {te:TE} {σ:L2.St} {H:Hp} {Q:VK} (h:tl σ H (fun x H1=>∃ a,x=.ref a∧(∃ xs,SqL K H1 a xs)∧CompJ (Itl K a) capt g te σ Q H1)):qbC (qdf K tl) capt g te σ H Q:=h
theorem qgd {te:TE} {k:Nat} {D:Ends} {σ:L2.St} {H:Hp} (h:te σ H fun x H1=>D.nx (σ.set k (some x)) H1):qaY te (qap k) D σ H:=h
theorem qjL {c:TT} {t u:TS} (h:c σ H fun b H1=>if b=true then t { D with nx:=rest D } σ H1 else u { D with nx:=rest D } σ H1):qaG (qes c t u) rest D σ H:=h
theorem qil {te:TE} {Q:Bool→Hp→Prop} (h:te σ H fun x H'=>∃ k,x=.bl k∧Q k H'):qbi te σ H Q:=h
theorem qim {x:V}:[x].length≤sizeLine:=by show 1≤_;exact sz (by decide)
theorem qb5 {x y:V}:[x,y].length≤sizeLine:=by show 2≤_;exact sz (by decide)
theorem qn3 {x y z:V}:[x,y,z].length≤sizeLine:=by show 3≤_;exact sz (by decide)
end
end Bs
set_option maxHeartbeats 4000000
namespace Bs
open PySem L2
theorem qcb {a:Rat} (h:0≤a):∀ n:Nat,0≤a ^ n
  | 0=>by rw [Rat.pow_zero];decide
  | n+1=>by rw [Rat.pow_succ];exact Rat.mul_nonneg (qcb h n) h
theorem qdr {a b c d:Rat} (h:a≤b) (h':c≤d) (a0:0≤a) (d0:0≤d):a*c≤b*d:=by
  have h1:=Rat.mul_le_mul_of_nonneg_left h' a0
  have h2:=Rat.mul_le_mul_of_nonneg_right h d0
  grind
theorem qeJ {a b:Rat} (h0:0≤a) (h:a≤b):∀ n:Nat,a ^ n≤b ^ n
  | 0=>by rw [Rat.pow_zero,Rat.pow_zero];grind
  | n+1=>by
    rw [Rat.pow_succ,Rat.pow_succ]
    exact qdr (qeJ h0 h n) h (qcb h0 n) (by grind)
theorem qds (a b:Rat):∀ n:Nat,(a*b) ^ n=a ^ n*b ^ n
  | 0=>by rw [Rat.pow_zero,Rat.pow_zero,Rat.pow_zero];grind
  | n+1=>by rw [Rat.pow_succ,Rat.pow_succ,Rat.pow_succ,qds a b n];grind
theorem qge {a:Rat} (h0:0≤a) (h:a≤1) (n:Nat):a ^ n≤1:=by
  have:=qeJ h0 h n
  have e:∀ n:Nat,(1:Rat) ^ n=1:=fun n=>by
    induction n with
    | zero=>rfl
    | succ n ih=>rw [Rat.pow_succ,ih];grind
  rw [e] at this;exact this
theorem bern {s:Rat} (h:-1≤s):∀ n:Nat,1+(n:Rat)*s≤(1+s) ^ n
  | 0=>by rw [Rat.pow_zero];grind
  | n+1=>by
    have ih:=Rat.mul_le_mul_of_nonneg_right (bern h n) (show 0≤1+s by grind)
    have sq:0≤(n:Rat)*(s*s):=by
      refine Rat.mul_nonneg (by exact_mod_cast Nat.zero_le n) ?_
      rcases (Rat.le_total:0≤s∨s≤0) with z | z
      · exact Rat.mul_nonneg z z
      · have:=Rat.mul_nonneg (show 0≤-s by grind) (show 0≤-s by grind)
        grind
    rw [Rat.pow_succ]
    push_cast
    grind
noncomputable def Lo (u x:Rat):Prop:=0≤u∧0<x∧∀ (n:Nat) (t:Rat),0<t→(n:Rat)*t=1→(1+u*t) ^ n≤x
noncomputable def Up (v x:Rat):Prop:=0≤v∧0<x∧∀ (n:Nat) (t:Rat),0<t→(n:Rat)*t=1→v*t<1→x*(1 - v*t) ^ n≤1
theorem qeK (r:Rat):∃ n:Nat,r<(n:Rat):=by
  refine ⟨(r.floor+1).toNat,?_⟩
  have h:=Rat.lt_floor_add_one r
  have:(r.floor+1:Int)≤(((r.floor+1).toNat:Nat):Int):=by omega
  have:((r.floor+1:Int):Rat)≤((((r.floor+1).toNat:Nat):Int):Rat):=by exact_mod_cast this
  have e:((((r.floor+1).toNat:Nat):Int):Rat)=(((r.floor+1).toNat:Nat):Rat):=by push_cast;rfl
  grind
theorem qgf {n:Nat} (h:0<n):∃ t:Rat,0<t∧(n:Rat)*t=1:=by
  have h0:(0:Rat)<(n:Rat):=by exact_mod_cast h
  refine ⟨(n:Rat)⁻¹,Rat.inv_pos.mpr h0,Rat.mul_inv_cancel _ (by grind)⟩
theorem Lo.up {u v x:Rat} (a:Lo u x) (b:Up v x):u≤v:=by
  refine Rat.not_lt.mp fun c=>?_
  obtain ⟨u0,x0,ha⟩:=a
  obtain ⟨v0,_,hb⟩:=b
  have g:0<u - v:=by grind
  obtain ⟨n,hn⟩:=qeK (v+u*v*(u - v)⁻¹)
  have gi:(u - v)*(u - v)⁻¹=1:=Rat.mul_inv_cancel _ (by grind)
  have gp:0<(u - v)⁻¹:=Rat.inv_pos.mpr g
  have uv:=Rat.mul_nonneg u0 v0
  have q:=Rat.mul_nonneg uv (show 0≤(u - v)⁻¹ by grind)
  have n0:0<n:=by
    rcases Nat.eq_zero_or_pos n with z | z
    · subst z
      have:((0:Nat):Rat)=0:=rfl
      grind
    · exact z
  obtain ⟨t,t0,nt⟩:=qgf n0
  have vt:v*t<1:=by
    have:0<((n:Rat) - v)*t:=Rat.mul_pos (by grind) t0
    grind
  have uvt:u*v*t<u - v:=by
    have h1:u*v*(u - v)⁻¹<(n:Rat):=by grind
    have h2:0<((n:Rat) - u*v*(u - v)⁻¹)*((u - v)*t):=Rat.mul_pos (by grind) (Rat.mul_pos g t0)
    have h3:((n:Rat) - u*v*(u - v)⁻¹)*((u - v)*t)=((n:Rat)*t)*(u - v) - u*v*t*((u - v)*(u - v)⁻¹):=by grind
    rw [h3,nt,gi] at h2
    grind
  have h1:=ha n t t0 nt
  have h2:=hb n t t0 nt vt
  have p0:=qcb (show 0≤1 - v*t by grind) n
  have h3:=Rat.mul_le_mul_of_nonneg_right h1 p0
  rw [← qds] at h3
  have e:(1+u*t)*(1 - v*t)=1+t*((u - v) - u*v*t):=by grind
  rw [e] at h3
  have s0:0<t*((u - v) - u*v*t):=Rat.mul_pos t0 (by grind)
  have h4:=bern (show -1≤t*((u - v) - u*v*t) by grind) n
  have nr:(0:Rat)<(n:Rat):=by exact_mod_cast n0
  have h5:=Rat.mul_pos nr s0
  grind
theorem Lo.mono {u v x:Rat} (a:Lo u x) (v0:0≤v) (h:v≤u):Lo v x:=by
  obtain ⟨u0,x0,ha⟩:=a
  refine ⟨v0,x0,fun n t t0 nt=>?_⟩
  have h1:=ha n t t0 nt
  have h2:=Rat.mul_le_mul_of_nonneg_right h (show 0≤t by grind)
  have h3:=Rat.mul_nonneg v0 (show 0≤t by grind)
  have:=qeJ (show 0≤1+v*t by grind) (show 1+v*t≤1+u*t by grind) n
  grind
theorem Lo.mul {u v x y:Rat} (a:Lo u x) (b:Lo v y):Lo (u+v) (x*y):=by
  obtain ⟨u0,x0,ha⟩:=a
  obtain ⟨v0,y0,hb⟩:=b
  refine ⟨by grind,Rat.mul_pos x0 y0,fun n t t0 nt=>?_⟩
  have ut:=Rat.mul_nonneg u0 (show 0≤t by grind)
  have vt:=Rat.mul_nonneg v0 (show 0≤t by grind)
  have h:=Rat.mul_nonneg ut vt
  have h1:=qeJ (show 0≤1+(u+v)*t by grind) (show 1+(u+v)*t≤(1+u*t)*(1+v*t) by grind) n
  rw [qds] at h1
  have h2:=qdr (ha n t t0 nt) (hb n t t0 nt) (qcb (by grind) n) (by grind)
  grind
theorem Up.mul {u v x y:Rat} (a:Up u x) (b:Up v y):Up (u+v) (x*y):=by
  obtain ⟨u0,x0,ha⟩:=a
  obtain ⟨v0,y0,hb⟩:=b
  refine ⟨by grind,Rat.mul_pos x0 y0,fun n t t0 nt lt=>?_⟩
  have ut:=Rat.mul_nonneg u0 (show 0≤t by grind)
  have vt:=Rat.mul_nonneg v0 (show 0≤t by grind)
  have h:=Rat.mul_nonneg ut vt
  have h1:=qeJ (show 0≤1 - (u+v)*t by grind) (show 1 - (u+v)*t≤(1 - u*t)*(1 - v*t) by grind) n
  rw [qds] at h1
  have a1:=ha n t t0 nt (by grind)
  have b1:=hb n t t0 nt (by grind)
  have h2:=qdr a1 b1 (Rat.mul_nonneg (by grind) (qcb (show 0≤1 - u*t by grind) n)) (by decide)
  have h3:=Rat.mul_le_mul_of_nonneg_left h1 (show 0≤x*y from Rat.mul_nonneg (by grind) (by grind))
  grind
theorem qos {n:Nat} {t:Rat} (t0:0<t) (nt:(n:Rat)*t=1):t≤1:=by
  rcases Nat.eq_zero_or_pos n with z | z
  · subst z
    have:((0:Nat):Rat)=0:=rfl
    grind
  · have:(1:Rat)≤(n:Rat):=by exact_mod_cast z
    have:=Rat.mul_le_mul_of_nonneg_right this (show 0≤t by grind)
    grind
theorem qmD {s:Rat} (h0:0≤s) (h1:s≤1) (n:Nat):(1+s) ^ n*(1 - s) ^ n≤1:=by
  rw [← qds]
  have h:=Rat.mul_nonneg h0 h0
  have h2:=Rat.mul_le_mul_of_nonneg_right h1 h0
  refine qge (by grind) (by grind) n
theorem Lo.one {d r:Rat} (d0:0≤d) (d1:d<1) (h:r*(1 - d)=1):Lo d r:=by
  have r0:0<r:=by
    refine Rat.not_le.mp fun z=>?_
    have:=Rat.mul_le_mul_of_nonneg_right z (show 0≤1 - d by grind)
    grind
  refine ⟨d0,r0,fun n t t0 nt=>?_⟩
  have tl:=qos t0 nt
  have s0:=Rat.mul_nonneg d0 (show 0≤t by grind)
  have s1:d*t≤1:=by
    have:=qdr (show d≤1 by grind) tl d0 (by decide)
    grind
  have b:=bern (show -1≤-(d*t) by grind) n
  have e:1+(n:Rat) * -(d*t)=1 - d:=by
    have:(n:Rat) * -(d*t) = -(d*((n:Rat)*t)):=by grind
    rw [this,nt];grind
  rw [e] at b
  have b:1 - d≤(1 - d*t) ^ n:=by have e2:1 + -(d*t)=1 - d*t:=by grind
                                 rw [e2] at b;exact b
  have q:=qmD s0 s1 n
  have p0:=qcb (show 0≤1+d*t by grind) n
  have q2:=Rat.mul_le_mul_of_nonneg_left b p0
  have q3:(1+d*t) ^ n*(1 - d)≤r*(1 - d):=by grind
  refine Rat.not_lt.mp fun z=>?_
  have:=Rat.mul_pos (show 0<(1+d*t) ^ n - r by grind) (show 0<1 - d by grind)
  grind
theorem Up.one {e:Rat} (e0:0≤e):Up e (1+e):=by
  refine ⟨e0,by grind,fun n t t0 nt lt=>?_⟩
  have s0:=Rat.mul_nonneg e0 (show 0≤t by grind)
  have b:=bern (show -1≤e*t by grind) n
  have e1:1+(n:Rat)*(e*t)=1+e:=by
    have:(n:Rat)*(e*t)=e*((n:Rat)*t):=by grind
    rw [this,nt];grind
  rw [e1] at b
  have q:=qmD s0 (by grind) n
  have p0:=qcb (show 0≤1 - e*t by grind) n
  have q2:=Rat.mul_le_mul_of_nonneg_right b p0
  grind
theorem Up.mono {u v x:Rat} (a:Up u x) (h:u≤v):Up v x:=by
  obtain ⟨u0,x0,ha⟩:=a
  refine ⟨by grind,x0,fun n t t0 nt lt=>?_⟩
  have h2:=Rat.mul_le_mul_of_nonneg_right h (show 0≤t by grind)
  have h1:=ha n t t0 nt (by grind)
  have:=qeJ (show 0≤1 - v*t by grind) (show 1 - v*t≤1 - u*t by grind) n
  have:=Rat.mul_le_mul_of_nonneg_left this (show 0≤x by grind)
  grind
end Bs
namespace Bs
open PySem L2
noncomputable def SN (z:Rat):Nat→Rat
  | 0=>0
  | k+1=>SN z k+2*z ^ (2*k+1)*((2*k+1:Nat):Rat)⁻¹
noncomputable def GN (z:Rat):Nat→Rat
  | 0=>0
  | k+1=>GN z k+z ^ (2*k)
theorem qld (z:Rat):∀ N:Nat,(1 - z*z)*GN z N=1 - z ^ (2*N)
  | 0=>by show (1 - z*z)*0=1 - z ^ 0;rw [Rat.pow_zero];grind
  | N+1=>by
    show (1 - z*z)*(GN z N+z ^ (2*N))=1 - z ^ (2*N+1+1)
    have:=qld z N
    rw [Rat.pow_succ,Rat.pow_succ]
    grind
theorem qgZ {z:Rat} (h:0≤z):∀ N:Nat,0≤GN z N
  | 0=>by show (0:Rat)≤0;grind
  | N+1=>by have h1:=qgZ h N;have h2:=qcb h (2*N);show 0≤GN z N+z ^ (2*N);grind
theorem qmE {a b:Rat} (a0:0≤a) (h:a≤b):∀ m:Nat,b ^ (m+1) - a ^ (m+1)≤((m+1:Nat):Rat)*((b - a)*b ^ m)
  | 0=>by
    rw [Rat.pow_succ,Rat.pow_succ,Rat.pow_zero,Rat.pow_zero]
    have:((0+1:Nat):Rat)=1:=rfl
    rw [this];grind
  | m+1=>by
    have ih:=Rat.mul_le_mul_of_nonneg_left (qmE a0 h m) (show 0≤b by grind)
    have h1:=Rat.mul_le_mul_of_nonneg_right (qeJ a0 h (m+1)) (show 0≤b - a by grind)
    have e:b ^ (m+1+1) - a ^ (m+1+1)=b*(b ^ (m+1) - a ^ (m+1))+a ^ (m+1)*(b - a):=by rw [Rat.pow_succ b (m+1),Rat.pow_succ a (m+1)];grind
    have e2:b*(((m+1:Nat):Rat)*((b - a)*b ^ m))=((m+1:Nat):Rat)*((b - a)*b ^ (m+1)):=by rw [Rat.pow_succ b m];grind
    rw [e]
    rw [e2] at ih
    push_cast at ih ⊢
    grind
theorem qmF {a b:Rat} (a0:0≤a) (h:a≤b):∀ m:Nat,((m+1:Nat):Rat)*((b - a)*a ^ m)≤b ^ (m+1) - a ^ (m+1)
  | 0=>by
    rw [Rat.pow_succ,Rat.pow_succ,Rat.pow_zero,Rat.pow_zero]
    have:((0+1:Nat):Rat)=1:=rfl
    rw [this];grind
  | m+1=>by
    have ih:=Rat.mul_le_mul_of_nonneg_left (qmF a0 h m) a0
    have h1:=Rat.mul_le_mul_of_nonneg_right (qeJ a0 h (m+1)) (show 0≤b - a by grind)
    have e:b ^ (m+1+1) - a ^ (m+1+1)=a*(b ^ (m+1) - a ^ (m+1))+b ^ (m+1)*(b - a):=by rw [Rat.pow_succ b (m+1),Rat.pow_succ a (m+1)];grind
    have e2:a*(((m+1:Nat):Rat)*((b - a)*a ^ m))=((m+1:Nat):Rat)*((b - a)*a ^ (m+1)):=by rw [Rat.pow_succ a m];grind
    rw [e]
    rw [e2] at ih
    push_cast at ih ⊢
    grind
theorem qfJ (k:Nat):((2*k+1:Nat):Rat)*((2*k+1:Nat):Rat)⁻¹=1∧0<((2*k+1:Nat):Rat)⁻¹:=by
  have h0:(0:Rat)<((2*k+1:Nat):Rat):=by exact_mod_cast (show 0<2*k+1 by omega)
  exact ⟨Rat.mul_inv_cancel _ (by grind),Rat.inv_pos.mpr h0⟩
theorem qmG {a b:Rat} (a0:0≤a) (h:a≤b):∀ N:Nat,SN b N - SN a N≤2*(b - a)*GN b N
  | 0=>by show (0:Rat) - 0≤2*(b - a)*0;grind
  | k+1=>by
    have ih:=qmG a0 h k
    obtain ⟨o1,o2⟩:=qfJ k
    have p:=Rat.mul_le_mul_of_nonneg_right (qmE a0 h (2*k)) (show 0≤((2*k+1:Nat):Rat)⁻¹ by grind)
    show (SN b k+2*b ^ (2*k+1)*((2*k+1:Nat):Rat)⁻¹) - (SN a k+2*a ^ (2*k+1)*((2*k+1:Nat):Rat)⁻¹)≤2*(b - a)*(GN b k+b ^ (2*k))
    generalize ((2*k+1:Nat):Rat)⁻¹=i at o1 o2 p ⊢
    generalize ((2*k+1:Nat):Rat)=j at o1 p
    have e:j*((b - a)*b ^ (2*k))*i=(b - a)*b ^ (2*k):=by
      have:j*((b - a)*b ^ (2*k))*i=(j*i)*((b - a)*b ^ (2*k)):=by grind
      rw [this,o1];grind
    rw [e] at p
    grind
theorem qin {a b:Rat} (a0:0≤a) (h:a≤b):∀ N:Nat,2*(b - a)*GN a N≤SN b N - SN a N
  | 0=>by show 2*(b - a)*0≤(0:Rat) - 0;grind
  | k+1=>by
    have ih:=qin a0 h k
    obtain ⟨o1,o2⟩:=qfJ k
    have p:=Rat.mul_le_mul_of_nonneg_right (qmF a0 h (2*k)) (show 0≤((2*k+1:Nat):Rat)⁻¹ by grind)
    show 2*(b - a)*(GN a k+a ^ (2*k))≤(SN b k+2*b ^ (2*k+1)*((2*k+1:Nat):Rat)⁻¹) - (SN a k+2*a ^ (2*k+1)*((2*k+1:Nat):Rat)⁻¹)
    generalize ((2*k+1:Nat):Rat)⁻¹=i at o1 o2 p ⊢
    generalize ((2*k+1:Nat):Rat)=j at o1 p
    have e:j*((b - a)*a ^ (2*k))*i=(b - a)*a ^ (2*k):=by
      have:j*((b - a)*a ^ (2*k))*i=(j*i)*((b - a)*a ^ (2*k)):=by grind
      rw [this,o1];grind
    rw [e] at p
    grind
theorem qdt:∀ N:Nat,SN 0 N=0
  | 0=>rfl
  | k+1=>by
    show SN 0 k+2*0 ^ (2*k+1)*_=0
    rw [qdt k,Rat.pow_succ];grind
noncomputable def ph (z:Rat):Rat:=(1+z)*(1 - z)⁻¹
theorem qio {a b:Rat} (a0:0≤a) (h:a≤b) (b3:3*b≤1):∃ d e r:Rat,ph b=ph a*r∧Lo d r∧Up e r∧0≤d∧d*(1 - a)*(1+b)=2*(b - a)∧e*(1 - b)*(1+a)=2*(b - a):=by
  have ia:(1 - a)*(1 - a)⁻¹=1:=Rat.mul_inv_cancel _ (by grind)
  have ib:(1 - b)*(1 - b)⁻¹=1:=Rat.mul_inv_cancel _ (by grind)
  have ja:(1+a)*(1+a)⁻¹=1:=Rat.mul_inv_cancel _ (by grind)
  have jb:(1+b)*(1+b)⁻¹=1:=Rat.mul_inv_cancel _ (by grind)
  have pa:0<(1 - a)⁻¹:=Rat.inv_pos.mpr (by grind)
  have pb:0<(1 - b)⁻¹:=Rat.inv_pos.mpr (by grind)
  have qa:0<(1+a)⁻¹:=Rat.inv_pos.mpr (by grind)
  have qb:0<(1+b)⁻¹:=Rat.inv_pos.mpr (by grind)
  unfold ph
  generalize (1 - a)⁻¹=A at *
  generalize (1 - b)⁻¹=B at *
  generalize (1+a)⁻¹=C at *
  generalize (1+b)⁻¹=D at *
  have ba:0≤b - a:=by grind
  have d0:0≤2*(b - a)*(A*D):=Rat.mul_nonneg (by grind) (Rat.mul_nonneg (by grind) (by grind))
  have e0:0≤2*(b - a)*(B*C):=Rat.mul_nonneg (by grind) (Rat.mul_nonneg (by grind) (by grind))
  have d1:1 - 2*(b - a)*(A*D)=(1+a)*(1 - b)*(A*D):=by
    have:(1:Rat)=((1 - a)*A)*((1+b)*D):=by rw [ia,jb];grind
    have e:1 - 2*(b - a)*(A*D)=((1 - a)*A)*((1+b)*D) - 2*(b - a)*(A*D):=by rw [← this]
    rw [e];grind
  have r1:(1+b)*(1 - a)*(B*C)*(1 - 2*(b - a)*(A*D))=1:=by
    rw [d1]
    have:(1+b)*(1 - a)*(B*C)*((1+a)*(1 - b)*(A*D))=((1 - a)*A)*((1 - b)*B)*((1+a)*C)*((1+b)*D):=by grind
    rw [this,ia,ib,ja,jb];grind
  have r2:(1+b)*(1 - a)*(B*C)=1+2*(b - a)*(B*C):=by
    have:(1:Rat)=((1 - b)*B)*((1+a)*C):=by rw [ib,ja];grind
    have e:1+2*(b - a)*(B*C)=((1 - b)*B)*((1+a)*C)+2*(b - a)*(B*C):=by rw [← this]
    rw [e];grind
  refine ⟨2*(b - a)*(A*D),2*(b - a)*(B*C),(1+b)*(1 - a)*(B*C),?_,Lo.one d0 ?_ r1,?_,d0,?_,?_⟩
  · have:(1+a)*A*((1+b)*(1 - a)*(B*C))=(1+b)*B*((1 - a)*A)*((1+a)*C):=by grind
    rw [this,ia,ja];grind
  · have:0<(1+a)*(1 - b)*(A*D):=Rat.mul_pos (Rat.mul_pos (by grind) (by grind)) (Rat.mul_pos pa qb)
    grind
  · rw [r2];exact Up.one e0
  · have:2*(b - a)*(A*D)*(1 - a)*(1+b)=2*(b - a)*(((1 - a)*A)*((1+b)*D)):=by grind
    rw [this,ia,jb];grind
  · have:2*(b - a)*(B*C)*(1 - b)*(1+a)=2*(b - a)*(((1 - b)*B)*((1+a)*C)):=by grind
    rw [this,ib,ja];grind
theorem qip:ph 0=1:=by unfold ph;grind
theorem Lo.triv:Lo 0 1:=Lo.one (by grind) (by grind) (by grind)
theorem Up.triv:Up 0 1:=by have:=Up.one (e:=0) (by grind);have e:(1:Rat)+0=1:=by grind
                           rw [e] at this;exact this
theorem qgg {h:Rat} (h0:0≤h) (N:Nat) {κ:Rat} (k0:0≤κ) (hk:κ*(1+2*h)=1):∀ m:Nat,3*((m:Rat)*h)≤1→Lo (SN ((m:Rat)*h) N*κ) (ph ((m:Rat)*h))
  | 0=>fun _=>by
    have e:((0:Nat):Rat)*h=0:=by have:((0:Nat):Rat)=0:=rfl
                                 rw [this];grind
    rw [e,qdt,qip]
    have:(0:Rat)*κ=0:=by grind
    rw [this];exact Lo.triv
  | m+1=>fun hb=>by
    have e:((m+1:Nat):Rat)*h=(m:Rat)*h+h:=by push_cast;grind
    rw [e] at hb ⊢
    have m0:(0:Rat)≤(m:Rat):=by exact_mod_cast Nat.zero_le m
    have a0:=Rat.mul_nonneg m0 h0
    have ih:=qgg h0 N k0 hk m (by grind)
    generalize (m:Rat)*h=a at *
    obtain ⟨d,e,r,er,ld,_,d0,ed,_⟩:=qio (a:=a) (b:=a+h) a0 (by grind) hb
    have su:=qmG (a:=a) (b:=a+h) a0 (by grind) N
    have sl:=qin (a:=a) (b:=a+h) a0 (by grind) N
    have g0:=qgZ a0 N
    have gb:=qgZ (show 0≤a+h by grind) N
    have ge:=qld (a+h) N
    have pz:=qcb (show 0≤a+h by grind) (2*N)
    rw [er]
    have b3:0<1 - (a+h):=by grind
    have k1:SN (a+h) N - SN a N≤d*(1+2*h):=by
      have q1:2*h*GN (a+h) N*((1 - (a+h))*(1+(a+h)))≤2*h:=by
        have:2*h*GN (a+h) N*((1 - (a+h))*(1+(a+h)))=2*h*((1 - (a+h)*(a+h))*GN (a+h) N):=by grind
        rw [this,ge]
        have:=Rat.mul_nonneg (show 0≤2*h by grind) pz
        grind
      have q2:d*(1 - a)*(1+(a+h))=2*h:=by rw [ed];grind
      have q3:2*h*GN (a+h) N*(1 - (a+h))≤d*(1 - a):=by
        refine Rat.not_lt.mp fun z=>?_
        have:=Rat.mul_pos (show 0<2*h*GN (a+h) N*(1 - (a+h)) - d*(1 - a) by grind) (show 0<1+(a+h) by grind)
        grind
      have q4:d*(1 - a)≤d*(1+2*h)*(1 - (a+h)):=by
        have:0≤d*(h*(1 - 2*(a+h))):=Rat.mul_nonneg d0 (Rat.mul_nonneg h0 (by grind))
        grind
      refine Rat.not_lt.mp fun z=>?_
      have z2:d*(1+2*h)<2*h*GN (a+h) N:=by
        have:2*(a+h - a)*GN (a+h) N=2*h*GN (a+h) N:=by grind
        rw [this] at su;grind
      have:=Rat.mul_pos (show 0<2*h*GN (a+h) N - d*(1+2*h) by grind) b3
      grind
    have k2:(SN (a+h) N - SN a N)*κ≤d:=by
      have:=Rat.mul_le_mul_of_nonneg_right k1 k0
      have e3:d*(1+2*h)*κ=d*(κ*(1+2*h)):=by grind
      rw [e3,hk] at this;grind
    have mono:SN a N≤SN (a+h) N:=by
      have:=Rat.mul_nonneg (show 0≤2*(a+h - a) by grind) g0
      grind
    refine (ih.mul ld).mono ?_ (by grind)
    exact Rat.mul_nonneg (by
      have s0:=qin (a:=0) (b:=a+h) (by grind) (by grind) N
      rw [qdt] at s0
      have:=Rat.mul_nonneg (show 0≤2*(a+h - 0) by grind) (qgZ (show (0:Rat)≤0 by grind) N)
      grind) k0
theorem qgh {h z:Rat} (h0:0≤h) (z3:3*z≤1) (N:Nat) {c:Rat} (hc:c*(1 - z*z)=2*z ^ (2*N)) (c0:0≤c):∀ m:Nat,(m:Rat)*h≤z→Up ((SN ((m:Rat)*h) N+c*((m:Rat)*h))*(1+2*h)) (ph ((m:Rat)*h))
  | 0=>fun _=>by
    have e:((0:Nat):Rat)*h=0:=by have:((0:Nat):Rat)=0:=rfl
                                 rw [this];grind
    rw [e,qdt,qip]
    have:((0:Rat)+c*0)*(1+2*h)=0:=by grind
    rw [this];exact Up.triv
  | m+1=>fun hb=>by
    have e:((m+1:Nat):Rat)*h=(m:Rat)*h+h:=by push_cast;grind
    rw [e] at hb ⊢
    have m0:(0:Rat)≤(m:Rat):=by exact_mod_cast Nat.zero_le m
    have a0:=Rat.mul_nonneg m0 h0
    have ih:=qgh h0 z3 N hc c0 m (by grind)
    generalize (m:Rat)*h=a at *
    obtain ⟨d,e,r,er,_,ue,_,_,ee⟩:=qio (a:=a) (b:=a+h) a0 (by grind) (by grind)
    have sl:=qin (a:=a) (b:=a+h) a0 (by grind) N
    have ge:=qld a N
    have pz:=qeJ a0 (show a≤z by grind) (2*N)
    have p0:=qcb a0 (2*N)
    rw [er]
    refine (ih.mul ue).mono ?_
    have e0:0≤e:=ue.1
    have sl:2*h*GN a N≤SN (a+h) N - SN a N:=by
      have:2*(a+h - a)*GN a N=2*h*GN a N:=by grind
      rw [this] at sl;exact sl
    have aa:0<(1 - a)*(1+a):=Rat.mul_pos (by grind) (by grind)
    have ca:2*a ^ (2*N)≤c*((1 - a)*(1+a)):=by
      have zz:a*a≤z*z:=qdr (by grind) (by grind) a0 (by grind)
      have:=Rat.mul_le_mul_of_nonneg_left (show 1 - z*z≤1 - a*a by grind) c0
      grind
    have q1:2*h≤(SN (a+h) N - SN a N+c*h)*((1 - a)*(1+a)):=by
      have g:2*h*GN a N*((1 - a)*(1+a))=2*h*(1 - a ^ (2*N)):=by
        have:2*h*GN a N*((1 - a)*(1+a))=2*h*((1 - a*a)*GN a N):=by grind
        rw [this,ge]
      have g1:=Rat.mul_le_mul_of_nonneg_right sl (show 0≤(1 - a)*(1+a) by grind)
      have g2:=Rat.mul_le_mul_of_nonneg_left ca h0
      grind
    have q2:e*(1 - (a+h))*(1+a)=2*h:=by rw [ee];grind
    have q3:e*(1 - (a+h))≤(SN (a+h) N - SN a N+c*h)*(1 - a):=by
      refine Rat.not_lt.mp fun y=>?_
      have:=Rat.mul_pos (show 0<e*(1 - (a+h)) - (SN (a+h) N - SN a N+c*h)*(1 - a) by grind) (show 0<1+a by grind)
      grind
    have w0:0≤SN (a+h) N - SN a N+c*h:=by
      have g1:=Rat.mul_nonneg (show 0≤2*h by grind) (qgZ a0 N)
      have g2:=Rat.mul_nonneg c0 h0
      grind
    have q4:e≤(SN (a+h) N - SN a N+c*h)*(1+2*h):=by
      generalize SN (a+h) N - SN a N+c*h=W at *
      have:0≤W*(h*(1 - 2*(a+h))):=Rat.mul_nonneg w0 (Rat.mul_nonneg h0 (by grind))
      refine Rat.not_lt.mp fun y=>?_
      have:=Rat.mul_pos (show 0<e - W*(1+2*h) by grind) (show 0<1 - (a+h) by grind)
      grind
    grind
end Bs
namespace Bs
open PySem L2
noncomputable def LLe (u x:Rat):Prop:=0<x∧∀ ε:Rat,0<ε→∃ D,u≤D+ε∧Lo D x
noncomputable def LGe (v x:Rat):Prop:=0<x∧∀ ε:Rat,0<ε→∃ E,E≤v+ε∧Up E x
theorem qfl {a b:Rat} (h:∀ ε:Rat,0<ε→a≤b+ε):a≤b:=by
  refine Rat.not_lt.mp fun c=>?_
  have:=h ((a - b)*(1 / 2)) (Rat.mul_pos (by grind) (by grind))
  grind
theorem LLe.ge {u v x:Rat} (a:LLe u x) (b:LGe v x):u≤v:=by
  refine qfl fun ε e0=>?_
  obtain ⟨D,h1,l⟩:=a.2 (ε*(1 / 2)) (Rat.mul_pos e0 (by grind))
  obtain ⟨E,h2,p⟩:=b.2 (ε*(1 / 2)) (Rat.mul_pos e0 (by grind))
  have:=l.up p
  grind
theorem LLe.mono {u v x:Rat} (a:LLe u x) (h:v≤u):LLe v x:=⟨a.1,fun ε e0=>by
  obtain ⟨D,h1,l⟩:=a.2 ε e0
  exact ⟨D,by grind,l⟩⟩
theorem LGe.mono {u v x:Rat} (a:LGe u x) (h:u≤v):LGe v x:=⟨a.1,fun ε e0=>by
  obtain ⟨D,h1,l⟩:=a.2 ε e0
  exact ⟨D,by grind,l⟩⟩
theorem LLe.mul {u v x y:Rat} (a:LLe u x) (b:LLe v y):LLe (u+v) (x*y):=⟨Rat.mul_pos a.1 b.1,fun ε e0=>by
  obtain ⟨D,h1,l⟩:=a.2 (ε*(1 / 2)) (Rat.mul_pos e0 (by grind))
  obtain ⟨E,h2,p⟩:=b.2 (ε*(1 / 2)) (Rat.mul_pos e0 (by grind))
  exact ⟨D+E,by grind,l.mul p⟩⟩
theorem LGe.mul {u v x y:Rat} (a:LGe u x) (b:LGe v y):LGe (u+v) (x*y):=⟨Rat.mul_pos a.1 b.1,fun ε e0=>by
  obtain ⟨D,h1,l⟩:=a.2 (ε*(1 / 2)) (Rat.mul_pos e0 (by grind))
  obtain ⟨E,h2,p⟩:=b.2 (ε*(1 / 2)) (Rat.mul_pos e0 (by grind))
  exact ⟨D+E,by grind,l.mul p⟩⟩
theorem LLe.triv:LLe 0 1:=⟨by decide,fun ε e0=>⟨0,by grind,Lo.triv⟩⟩
theorem LGe.triv:LGe 0 1:=⟨by decide,fun ε e0=>⟨0,by grind,Up.triv⟩⟩
theorem LLe.pow {u x:Rat} (a:LLe u x):∀ k:Nat,LLe ((k:Rat)*u) (x ^ k)
  | 0=>by
    have e:((0:Nat):Rat)*u=0:=by have:((0:Nat):Rat)=0:=rfl
                                 rw [this];grind
    rw [e,Rat.pow_zero];exact LLe.triv
  | k+1=>by
    have e:((k+1:Nat):Rat)*u=(k:Rat)*u+u:=by push_cast;grind
    rw [e,Rat.pow_succ];exact (a.pow k).mul a
theorem LGe.pow {u x:Rat} (a:LGe u x):∀ k:Nat,LGe ((k:Rat)*u) (x ^ k)
  | 0=>by
    have e:((0:Nat):Rat)*u=0:=by have:((0:Nat):Rat)=0:=rfl
                                 rw [this];grind
    rw [e,Rat.pow_zero];exact LGe.triv
  | k+1=>by
    have e:((k+1:Nat):Rat)*u=(k:Rat)*u+u:=by push_cast;grind
    rw [e,Rat.pow_succ];exact (a.pow k).mul a
theorem qkj {z:Rat} (z0:0≤z) (z3:3*z≤1):0<ph z:=Rat.mul_pos (by grind) (Rat.inv_pos.mpr (by grind))
theorem qmH {z:Rat} (z0:0≤z) (N:Nat):0≤SN z N:=by
  have s0:=qin (a:=0) (b:=z) (by grind) z0 N
  rw [qdt] at s0
  have:=Rat.mul_nonneg (show 0≤2*(z - 0) by grind) (qgZ (show (0:Rat)≤0 by grind) N)
  grind
theorem qiq {W z ε:Rat} (w0:0≤W) (z0:0≤z) (e0:0<ε):∃ (m:Nat) (h:Rat),0≤h∧(m:Rat)*h=z∧W*(2*h)≤ε:=by
  obtain ⟨m,hm⟩:=qeK (2*(W*z)*ε⁻¹)
  have ei:ε*ε⁻¹=1:=Rat.mul_inv_cancel _ (by grind)
  have ep:0<ε⁻¹:=Rat.inv_pos.mpr e0
  have wz:=Rat.mul_nonneg w0 z0
  have q:=Rat.mul_nonneg wz (show 0≤ε⁻¹ by grind)
  have m0:0<m:=by
    rcases Nat.eq_zero_or_pos m with y | y
    · subst y
      have:((0:Nat):Rat)=0:=rfl
      grind
    · exact y
  obtain ⟨t,t0,mt⟩:=qgf m0
  refine ⟨m,z*t,Rat.mul_nonneg z0 (by grind),?_,?_⟩
  · have:(m:Rat)*(z*t)=z*((m:Rat)*t):=by grind
    rw [this,mt];grind
  · have h1:0<((m:Rat) - 2*(W*z)*ε⁻¹)*(ε*t):=Rat.mul_pos (by grind) (Rat.mul_pos e0 t0)
    have h2:((m:Rat) - 2*(W*z)*ε⁻¹)*(ε*t)=((m:Rat)*t)*ε - 2*(W*z)*t*(ε*ε⁻¹):=by grind
    rw [h2,mt,ei] at h1
    grind
theorem LLe.series {z:Rat} (z0:0≤z) (z3:3*z≤1) (N:Nat):LLe (SN z N) (ph z):=⟨qkj z0 z3,fun ε e0=>by
  have s0:=qmH z0 N
  obtain ⟨m,h,h0,mh,hs⟩:=qiq s0 z0 e0
  have k1:(1+2*h)⁻¹*(1+2*h)=1:=by rw [Rat.mul_comm];exact Rat.mul_inv_cancel _ (by grind)
  have k0:0<(1+2*h)⁻¹:=Rat.inv_pos.mpr (by grind)
  have l:=qgg h0 N (show 0≤(1+2*h)⁻¹ by grind) k1 m (by rw [mh];exact z3)
  rw [mh] at l
  refine ⟨_,?_,l⟩
  generalize (1+2*h)⁻¹=κ at *
  have kl:κ≤1:=by
    have:=Rat.mul_nonneg (show 0≤κ by grind) h0
    grind
  have w:=Rat.mul_nonneg s0 (show 0≤2*h by grind)
  have w2:=Rat.mul_le_mul_of_nonneg_left kl w
  have e1:SN z N=SN z N*κ+SN z N*(2*h)*κ:=by
    have:SN z N*κ+SN z N*(2*h)*κ=SN z N*(κ*(1+2*h)):=by grind
    rw [this,k1];grind
  grind⟩
theorem LGe.series {z c:Rat} (z0:0≤z) (z3:3*z≤1) (N:Nat) (hc:c*(1 - z*z)=2*z ^ (2*N)) (c0:0≤c):LGe (SN z N+c*z) (ph z):=⟨qkj z0 z3,fun ε e0=>by
  have s0:=qmH z0 N
  have cz:=Rat.mul_nonneg c0 z0
  obtain ⟨m,h,h0,mh,hs⟩:=qiq (W:=SN z N+c*z) (by grind) z0 e0
  have l:=qgh h0 z3 N hc c0 m (by rw [mh];exact Rat.le_refl)
  rw [mh] at l
  exact ⟨_,by grind,l⟩⟩
theorem qle {z:Rat} (z0:0≤z) (z3:3*z≤1):9*(z*z)≤1:=by
  have:=qdr z3 z3 (by grind) (by grind)
  grind
theorem qmI {z:Rat} (z0:0≤z) (z3:3*z≤1) (N:Nat):∃ c,c*(1 - z*z)=2*z ^ (2*N)∧0≤c∧8*(c*z)≤18*z ^ (2*N+1):=by
  have q:=qle z0 z3
  have i:(1 - z*z)*(1 - z*z)⁻¹=1:=Rat.mul_inv_cancel _ (by grind)
  have p:0<(1 - z*z)⁻¹:=Rat.inv_pos.mpr (by grind)
  have g:=qcb z0 (2*N)
  generalize (1 - z*z)⁻¹=C at *
  have c9:8*C≤9:=by
    have:=Rat.mul_le_mul_of_nonneg_right q (show 0≤C by grind)
    grind
  refine ⟨2*z ^ (2*N)*C,?_,Rat.mul_nonneg (by grind) (by grind),?_⟩
  · have:2*z ^ (2*N)*C*(1 - z*z)=2*z ^ (2*N)*((1 - z*z)*C):=by grind
    rw [this,i];grind
  · rw [Rat.pow_succ]
    have:=Rat.mul_le_mul_of_nonneg_left c9 (Rat.mul_nonneg g z0)
    grind
structure Ser (z M:Rat) (k:Nat) (p tot:Int):Prop where
  p0:0≤p
  pu:(p:Rat)≤z ^ (2*k+1)*M
  pl:9*(z ^ (2*k+1)*M)≤9*(p:Rat)+16
  tu:2*(tot:Rat)≤SN z k*M
  tl:SN z k*M≤2*(tot:Rat)+4*(k:Rat)
theorem Ser.next {z M:Rat} {k:Nat} {p tot p':Int} (h:Ser z M k p tot) (p0:0≤p') (pu:(p':Rat)≤z ^ (2*(k+1)+1)*M) (pl:9*(z ^ (2*(k+1)+1)*M)≤9*(p':Rat)+16):Ser z M (k+1) p' (tot+p / ((2*k+1:Nat):Int)):=by
  refine ⟨p0,pu,pl,?_,?_⟩
  all_goals
    have i0:(0:Int)<((2*k+1:Nat):Int):=by omega
    have f1:((2*k+1:Nat):Int)*(p / ((2*k+1:Nat):Int))≤p:=Int.mul_ediv_self_le (by omega)
    have f2:p≤((2*k+1:Nat):Int)*(p / ((2*k+1:Nat):Int))+2*(k:Int):=by
      have:=Int.emod_lt_of_pos p i0
      have:=Int.mul_ediv_add_emod p ((2*k+1:Nat):Int)
      push_cast at *
      omega
    have g1:((2*k+1:Nat):Rat)*((p / ((2*k+1:Nat):Int):Int):Rat)≤(p:Rat):=by exact_mod_cast f1
    have g2:(p:Rat)≤((2*k+1:Nat):Rat)*((p / ((2*k+1:Nat):Int):Int):Rat)+2*(k:Rat):=by exact_mod_cast f2
    obtain ⟨o1,o2⟩:=qfJ k
    have pu0:=h.pu
    have pl0:=h.pl
    have tu0:=h.tu
    have tl0:=h.tl
    have k0:(0:Rat)≤(k:Rat):=by exact_mod_cast Nat.zero_le k
    have ej:((2*k+1:Nat):Rat)=2*(k:Rat)+1:=by push_cast;grind
    have eS:SN z (k+1)=SN z k+2*z ^ (2*k+1)*((2*k+1:Nat):Rat)⁻¹:=rfl
    have ec:((tot+p / ((2*k+1:Nat):Int):Int):Rat)=(tot:Rat)+((p / ((2*k+1:Nat):Int):Int):Rat):=by push_cast;grind
    rw [eS,ec]
    have ek:((k+1:Nat):Rat)=(k:Rat)+1:=by push_cast;grind
    generalize ((p / ((2*k+1:Nat):Int):Int):Rat)=f at *
    generalize z ^ (2*k+1)=P at *
    generalize ((2*k+1:Nat):Rat)⁻¹=i at *
    generalize ((2*k+1:Nat):Rat)=j at *
  · have h1:=Rat.mul_le_mul_of_nonneg_right (show j*f≤P*M by grind) (show 0≤i by grind)
    have e:j*f*i=f:=by have:j*f*i=(j*i)*f:=by grind
                       rw [this,o1];grind
    rw [e] at h1
    grind
  · rw [ek]
    have h1:=Rat.mul_le_mul_of_nonneg_right (show P*M≤j*(f+2) by grind) (show 0≤i by grind)
    have e:j*(f+2)*i=f+2:=by have:j*(f+2)*i=(j*i)*(f+2):=by grind
                             rw [this,o1];grind
    rw [e] at h1
    grind
theorem Ser.ends {z M:Rat} {k:Nat} {tot:Int} (h:Ser z M k 0 tot) {m:Rat} (m0:0<M) (hm:M*m=1) (z0:0≤z) (z3:3*z≤1):LLe (2*(tot:Rat)*m) (ph z)∧LGe ((2*(tot:Rat)+4*(k:Rat)+4)*m) (ph z):=by
  have mp:0<m:=by
    refine Rat.not_le.mp fun c=>?_
    have:=Rat.mul_le_mul_of_nonneg_left c (show 0≤M by grind)
    grind
  obtain ⟨c,hc,c0,c9⟩:=qmI z0 z3 k
  constructor
  · refine (LLe.series z0 z3 k).mono ?_
    have:=Rat.mul_le_mul_of_nonneg_right h.tu (show 0≤m by grind)
    have e:SN z k*M*m=SN z k:=by have:SN z k*M*m=SN z k*(M*m):=by grind
                                 rw [this,hm];grind
    rw [e] at this;exact this
  · refine (LGe.series z0 z3 k hc c0).mono ?_
    have h1:=h.tl
    have h2:=h.pl
    have h2:9*(z ^ (2*k+1)*M)≤16:=by
      have e:((0:Int):Rat)=0:=rfl
      rw [e] at h2;grind
    have h3:=Rat.mul_le_mul_of_nonneg_right c9 (show 0≤M by grind)
    have h4:(SN z k+c*z)*M≤2*(tot:Rat)+4*(k:Rat)+4:=by grind
    have:=Rat.mul_le_mul_of_nonneg_right h4 (show 0≤m by grind)
    have e2:(SN z k+c*z)*M*m=(SN z k+c*z)*(M*m):=by grind
    rw [e2,hm] at this
    grind
end Bs
namespace Bs
open PySem L2
theorem qmJ {z:Rat} (z0:0≤z) (z3:3*z≤1) (k:Nat):3*z ^ (2*k+1)≤1:=by
  have h:=qge z0 (by grind) (2*k)
  rw [Rat.pow_succ]
  have:=qdr h (show z≤z by grind) (qcb z0 _) z0
  grind
theorem qir (z:Rat) (k:Nat):z ^ (2*(k+1)+1)=z ^ (2*k+1)*(z*z):=by
  rw [show 2*(k+1)+1=2*k+1+1+1 by omega,Rat.pow_succ,Rat.pow_succ];grind
theorem qjM {z M:Rat} {p:Int} (M0:0<M) (z0:0≤z) (z3:3*z≤1) (p0:0≤p) (pu:(p:Rat)≤z*M) (pl:z*M≤(p:Rat)+1):Ser z M 0 p 0:=by
  have e:z ^ (2*0+1)=z:=by show z ^ 1=z;rw [show (1:Nat)=0+1 from rfl,Rat.pow_succ,Rat.pow_zero];grind
  refine ⟨p0,by rw [e];exact pu,by rw [e];grind,?_,?_⟩
  · show 2*((0:Int):Rat)≤0*M
    have:((0:Int):Rat)=0:=rfl
    rw [this];grind
  · show 0*M≤2*((0:Int):Rat)+4*((0:Nat):Rat)
    have:((0:Int):Rat)=0:=rfl
    have h2:((0:Nat):Rat)=0:=rfl
    rw [this,h2];grind
theorem qfK {a:Int} {b:Int} (b0:0<b):(b:Rat)*((a / b:Int):Rat)≤(a:Rat)∧(a:Rat)≤(b:Rat)*((a / b:Int):Rat)+(b:Rat):=by
  have f1:b*(a / b)≤a:=Int.mul_ediv_self_le (by omega)
  have f2:a≤b*(a / b)+b:=by
    have:=Int.emod_lt_of_pos a b0
    have:=Int.mul_ediv_add_emod a b
    omega
  exact ⟨by exact_mod_cast f1,by exact_mod_cast f2⟩
theorem qis {z:Rat} {M p:Int} (M0:0<M) (z0:0≤z) (z3:3*z≤1) (p0:0≤p) (pu:(p:Rat)≤z*M) (pl:z*M≤(p:Rat)+1):(((p*p / M:Int):Rat)≤z*z*M)∧3*(z*z*M)≤3*((p*p / M:Int):Rat)+5:=by
  obtain ⟨f1,f2⟩:=qfK (a:=p*p) M0
  have Mr:(0:Rat)<(M:Rat):=by exact_mod_cast M0
  have pr:(0:Rat)≤(p:Rat):=by exact_mod_cast p0
  have e:((p*p:Int):Rat)=(p:Rat)*(p:Rat):=by push_cast;rfl
  rw [e] at f1 f2
  have zM:=Rat.mul_nonneg z0 (show (0:Rat)≤(M:Rat) by grind)
  generalize ((p*p / M:Int):Rat)=s at *
  generalize (M:Rat)=m at *
  generalize (p:Rat)=q at *
  constructor
  · have h1:=qdr pu pu pr zM
    refine Rat.not_lt.mp fun c=>?_
    have:=Rat.mul_pos Mr (show 0<s - z*z*m by grind)
    grind
  · have h1:=Rat.mul_le_mul_of_nonneg_left (show z*m - 1≤q by grind) pr
    have h2:=Rat.mul_le_mul_of_nonneg_left (show z*m - 1≤q by grind) zM
    have h3:m*(z*z*m)≤q*q+2*(z*m):=by grind
    refine Rat.not_lt.mp fun c=>?_
    have:=Rat.mul_pos Mr (show 0<3*(z*z*m) - (3*s+5) by grind)
    have z1:=Rat.mul_le_mul_of_nonneg_right z3 (show (0:Rat)≤m by grind)
    grind
theorem qjN {z:Rat} {M p s tot:Int} {k:Nat} (M0:0<M) (z0:0≤z) (z3:3*z≤1) (h:Ser z M k p tot) (s0:0≤s) (su:(s:Rat)≤z*z*M) (sl:3*(z*z*M)≤3*(s:Rat)+5):Ser z M (k+1) (p*s / M) (tot+p / ((2*k+1:Nat):Int)):=by
  obtain ⟨f1,f2⟩:=qfK (a:=p*s) M0
  have Mr:(0:Rat)<(M:Rat):=by exact_mod_cast M0
  have p0:=h.p0
  have pr:(0:Rat)≤(p:Rat):=by exact_mod_cast p0
  have sr:(0:Rat)≤(s:Rat):=by exact_mod_cast s0
  have e:((p*s:Int):Rat)=(p:Rat)*(s:Rat):=by push_cast;rfl
  rw [e] at f1 f2
  have pu:=h.pu
  have pl:=h.pl
  have zo:=qmJ z0 z3 k
  have zz:=qle z0 z3
  have zn:=qcb z0 (2*k+1)
  refine h.next (Int.ediv_nonneg (Int.mul_nonneg p0 s0) (by omega)) ?_ ?_
  · rw [qir]
    generalize z ^ (2*k+1)=P at *
    generalize ((p*s / M:Int):Rat)=q at *
    generalize (M:Rat)=m at *
    generalize (p:Rat)=a at *
    generalize (s:Rat)=b at *
    have h1:=qdr pu su pr (Rat.mul_nonneg (Rat.mul_nonneg z0 z0) (by grind))
    refine Rat.not_lt.mp fun c=>?_
    have:=Rat.mul_pos Mr (show 0<q - P*(z*z)*m by grind)
    grind
  · rw [qir]
    generalize z ^ (2*k+1)=P at *
    generalize ((p*s / M:Int):Rat)=q at *
    generalize (M:Rat)=m at *
    generalize (p:Rat)=a at *
    generalize (s:Rat)=b at *
    have z2:=Rat.mul_nonneg z0 z0
    have h1:=Rat.mul_le_mul_of_nonneg_right pl (Rat.mul_nonneg z2 (show 0≤m by grind))
    have h2:=Rat.mul_le_mul_of_nonneg_left sl pr
    have h3:=Rat.mul_le_mul_of_nonneg_right zz (show 0≤m by grind)
    have h4:=Rat.mul_le_mul_of_nonneg_right zo (show 0≤m by grind)
    refine Rat.not_lt.mp fun c=>?_
    have:=Rat.mul_pos Mr (show 0<9*(P*(z*z)*m) - (9*q+16) by grind)
    grind
theorem Ser.few {z:Rat} {b:Nat} {k:Nat} {p tot:Int} (h:Ser z ((2 ^ b:Nat):Rat) k p tot) (z0:0≤z) (z3:3*z≤1) (p1:1≤p):k+1≤b:=by
  have pr:(1:Rat)≤(p:Rat):=by exact_mod_cast p1
  have q:∀ n:Nat,z ^ n*((2 ^ n:Nat):Rat)≤1:=fun n=>by
    have e:z ^ n*((2 ^ n:Nat):Rat)=(z*2) ^ n:=by
      rw [qds];push_cast;rfl
    rw [e]
    exact qge (by grind) (by grind) n
  have q:=q (2*k+1)
  have pu:=h.pu
  have zn:=qcb z0 (2*k+1)
  have lt:2 ^ (2*k+1)≤2 ^ b:=by
    refine Nat.not_lt.mp fun c=>?_
    have c:((2 ^ b:Nat):Rat)<((2 ^ (2*k+1):Nat):Rat):=by exact_mod_cast c
    generalize z ^ (2*k+1)=P at *
    have zp:0<P:=by
      rcases Rat.le_iff_lt_or_eq.mp zn with y | y
      · exact y
      · rw [← y] at pu;grind
    have:=Rat.mul_pos zp (show 0<((2 ^ (2*k+1):Nat):Rat) - ((2 ^ b:Nat):Rat) by grind)
    grind
  have:=(Nat.pow_le_pow_iff_right (by decide:1<2)).mp lt
  omega
end Bs
namespace Bs
open PySem
end Bs
namespace Bs
open PySem L2
noncomputable abbrev Nm (H:Hp) (p:Addr) (t d:Int):Prop:=H p=some (.tup [.int t,.int d])
noncomputable def qax (_:W.Frag):Sp:=fun vs H Q _=>∃ a b:Int,vs=[.int a,.int b]∧Q (.int ((Int.gcd a b:Nat):Int)) H
noncomputable def qbk (_:W.Frag):Sp:=fun vs H Q _=>∃ a b:Int,vs=[.int a,.int b]∧b≠0∧∀ (p:Addr),H p=none→Q (.ref p) (upd H p (.tup [.int (qcJ a b).1,.int (qcJ a b).2]))
noncomputable def qbT (f:Nu→Nu→Nu) (_:W.Frag):Sp:=fun vs H Q _=>∃ (p q:Addr) (a b c d:Int),vs=[.ref p,.ref q]∧Nm H p a b∧Nm H q c d∧0<b∧0<d∧Bd 60000000 a∧Bd 60000000 b∧Bd 60000000 c∧Bd 60000000 d∧
  ∀ (r:Addr),H r=none→Q (.ref r) (upd H r (.tup [.int (f (a,b) (c,d)).1,.int (f (a,b) (c,d)).2]))
noncomputable abbrev qci:=qbT nadd
noncomputable abbrev qbG:=qbT nmul
noncomputable abbrev qdb:=qbT nsub
noncomputable abbrev qaM:=qbk
noncomputable abbrev qcw:=qbT nadd
noncomputable abbrev qby:=qbT nmul
end Bs
namespace Bs
open PySem L2
noncomputable def qcj:Addr:=58
noncomputable def qit (ps:Array Value) (c:Addr):Prop:=TriplesOk ps.toList∧codeAmong ⟨26,47,26,69⟩ ps.toList=some (.ref c)
noncomputable def qfL (c:Addr) (h:Heap):Prop:=h.CodeRec (.ref c) (("settled_number" : Str) ++ ".<locals>." ++ "<lambda>")
noncomputable def Tab (H:Hp):Prop:=TabOk qit qfL qcj H
noncomputable def Al {α:Type} (R:V→α→Prop):List V→List α→Prop
  | [],[]=>True
  | u::us,x::xs=>R u x∧Al R us xs
  | _,_=>False
noncomputable def Cz (t:Nat) (q:Nu):Prop:=Low q.1 q.2∧∃ k:Int,val q=(k:Rat) / 60∧Bd t k
noncomputable abbrev Pce:=Nu×Int
noncomputable def Pc (H:Hp) (u:V) (x:Pce):Prop:=∃ a b,u=.ref a∧H a=some (.tup [.ref b,.int x.2])∧Nm H b x.1.1 x.1.2
noncomputable def Rw (H:Hp) (u:V) (x:Nu×Nu):Prop:=∃ a b d,u=.ref a∧H a=some (.tup [.ref b,.ref d])∧Nm H b x.1.1 x.1.2∧Nm H d x.2.1 x.2.2
noncomputable def vp (p:Nat):Nat→Nat→Nat
  | 0,_=>0
  | n+1,w=>if p∣w then vp p n (w / p)+1 else 0
noncomputable def vpI (p:Nat) (w:Int):Nat:=vp p w.natAbs w.natAbs
noncomputable def WP (p:Nat):List Pce→Rat
  | []=>0
  | x::xs=>val x.1*(vpI p x.2:Rat)+WP p xs
noncomputable def At (o:Nat→Nat):Prop:=(∀ i,i<4→0<o i)∧∀ i j,i<4→j<4→i≠j→Nat.Coprime (o i) (o j)
noncomputable def Mp (o e:Nat→Nat):Nat→Nat
  | 0=>1
  | k+1=>Mp o e k*o k ^ e k
noncomputable def Sm (o:Nat→Nat) (w:Int):Prop:=0<w∧w<(2:Int) ^ 262∧∃ e,w=((Mp o e 4:Nat):Int)
noncomputable def Cp (x y:Pce):Prop:=Int.gcd x.2 y.2=1
noncomputable def qaV (_:W.Frag):Sp:=fun vs H Q _=>∃ (u v:V) (x y:Pce) (t:Nat),vs=[u,v]∧Pc H u x∧Pc H v y∧Cz t x.1∧Cz t y.1∧t≤400000∧0<x.2∧0<y.2∧
  ∀ (r:Addr) (us:List V) (H':Hp),Same H H'→H r=none→H' r=some (.lst us)→Al (Pc H') us [(x.1,x.2 / (Int.gcd x.2 y.2:Nat)),(y.1,y.2 / (Int.gcd x.2 y.2:Nat)),(nadd x.1 y.1,((Int.gcd x.2 y.2:Nat):Int))]→Q (.ref r) H'
noncomputable def qaN (_:W.Frag):Sp:=fun vs H Q _=>∃ (a:Addr) (us:List V) (xs:List Pce) (o:Nat→Nat),vs=[.ref a]∧H a=some (.lst us)∧Al (Pc H) us xs∧At o∧(∀ x∈xs,Cz 81 x.1∧Sm o x.2)∧xs.length≤48∧
  ∀ (r:Addr) (ws:List V) (ys:List Pce) (H':Hp),Same H H'→H' r=some (.lst ws)→Al (Pc H') ws ys→(∀ y∈ys,Cz 200000 y.1∧y.1.1≠0∧1<y.2∧Sm o y.2)→ys.Pairwise Cp→(∀ p,Pr p→WP p ys=WP p xs)→Q (.ref r) H'
noncomputable def WR (p:Nat):List (Nu×Nu)→Rat
  | []=>0
  | x::xs=>val x.1*((vpI p x.2.1:Rat) - (vpI p x.2.2:Rat))+WR p xs
noncomputable def Rz (o:Nat→Nat) (t:Nat) (x:Nu×Nu):Prop:=Cz t x.1∧Sm o x.2.1∧Sm o x.2.2
structure Sd (o:Nat→Nat) (t:Nat) (ys:List Pce):Prop where
  sz:∀ y∈ys,Cz t y.1∧y.1.1≠0∧1<y.2∧Sm o y.2
  cp:ys.Pairwise Cp
  so:ys.Pairwise (fun x y=>x.2≤y.2)
  l8:ys.length≤8
noncomputable def qeL (y:Pce):Nu×Nu:=(y.1,(y.2,1))
noncomputable def LN (H:Hp) (o:Addr) (q:Nu) (xs:List (Nu×Nu)):Prop:=∃ (qa ta:Addr) (us:List V),H o=some (.tup [.ref qa,.ref ta])∧Nm H qa q.1 q.2∧H ta=some (.tup us)∧Al (Rw H) us xs
noncomputable def qan (_:W.Frag):Sp:=fun vs H Q _=>∃ (v:V) (a:Addr) (us:List V) (xs:List (Nu×Nu)) (o:Nat→Nat),vs=[v,.ref a]∧H a=some (.lst us)∧Al (Rw H) us xs∧At o∧(∀ x∈xs,Cz 80 x.1∧Sm o x.2.1∧Sm o x.2.2)∧xs.length≤24∧Tab H∧
  ∀ (r b:Addr) (ws:List V) (ys:List Pce) (H':Hp),Kp qcj H H'→Tab H'→H' r=some (.tup [v,.ref b])→H' b=some (.tup ws)→Al (Rw H') ws (ys.map fun y=>(y.1,(y.2,1)))→(∀ y∈ys,Cz 200000 y.1∧y.1.1≠0∧1<y.2∧Sm o y.2)→ys.Pairwise Cp→ys.Pairwise (fun x y=>x.2≤y.2)→ys.length≤8→(∀ p,Pr p→WP p ys=WR p xs)→Q (.ref r) H'
noncomputable def OvD (D:Int) (t:Nat) (q:Nu):Prop:=Low q.1 q.2∧∃ k:Int,val q=(k:Rat) / (D:Rat)∧Bd t k
structure Lg (M g:Int) (x:Rat) (lo hi:Int):Prop where
  l0:0≤lo
  lh:lo≤hi
  wd:hi≤lo+g
  le:LLe ((lo:Rat) / (M:Rat)) x
  ge:LGe ((hi:Rat) / (M:Rat)) x
noncomputable def Sg (f:Nat→Rat):Nat→Rat
  | 0=>0
  | n+1=>Sg f n+f n
theorem qmK:∃ n:Nat,2 ^ 263≤n:=⟨_,Nat.le_refl _⟩
noncomputable def NN:Nat:=Classical.choose qmK
structure Adm (l:Nat→Rat) (ε:Rat):Prop where
  e0:0<ε
  lo:∀ p,p<NN→Pr p→LLe (l p) (p:Rat)
  up:∀ p,p<NN→Pr p→LGe (l p+ε) (p:Rat)
  no:∀ p,¬ Pr p→l p=0
noncomputable def InL (lo hi:Rat) (X:(Nat→Rat)→Rat):Prop:=∃ C:Rat,∀ l ε,Adm l ε→lo≤X l+C*ε∧X l≤hi+C*ε
noncomputable def LW (l:Nat→Rat) (w:Int):Rat:=Sg (fun p=>((vpI p w:Nat):Rat)*l p) NN
noncomputable def XP (l:Nat→Rat):List Pce→Rat
  | []=>0
  | y::ys=>val y.1*LW l y.2+XP l ys
noncomputable def XR (l:Nat→Rat):List (Nu×Nu)→Rat
  | []=>0
  | x::xs=>val x.1*(LW l x.2.1 - LW l x.2.2)+XR l xs
noncomputable def qbU (_:W.Frag):Sp:=fun vs H Q _=>∃ (p q:Addr) (a b c d:Int),vs=[.ref p,.ref q]∧Nm H p a b∧Nm H q c d∧Bd 60000000 a∧Bd 60000000 b∧Bd 60000000 c∧Bd 60000000 d∧Q (.bl (decide (a*d<c*b))) H
noncomputable def qaE (_:W.Frag):Sp:=fun vs H Q _=>∃ (p q:Addr) (a b c d:Int),vs=[.ref p,.ref q]∧Nm H p a b∧Nm H q c d∧Bd 60000000 a∧Bd 60000000 b∧Bd 60000000 c∧Bd 60000000 d∧Q (.bl (decide (a*d≤c*b))) H
noncomputable def qaR (_:W.Frag):Sp:=fun vs H Q _=>∃ (top bot:Int) (b:Nat),vs=[.int top,.int bot,.int b]∧0≤top∧3*top≤bot∧0<bot∧Bd 400 top∧b≤1024∧
  ∀ (r:Addr) (lo hi:Int),H r=none→(∀ x:Rat,x*((bot:Rat) - (top:Rat))=(bot:Rat)+(top:Rat)→Lg ((2:Int) ^ b) (4*b+4) x lo hi)→Q (.ref r) (upd H r (.tup [.int lo,.int hi]))
noncomputable def qbH (_:W.Frag):Sp:=fun vs H Q _=>∃ (w:Int) (b:Nat),vs=[.int w,.int b]∧0<w∧Bd 262 w∧b≤1024∧
  ∀ (r:Addr) (lo hi:Int) (H':Hp),Same H H'→H' r=some (.tup [.int lo,.int hi])→Lg ((2:Int) ^ b) (263*(4*b+4)) (w:Rat) lo hi→Q (.ref r) H'
noncomputable def qa7 (_:W.Frag):Sp:=fun vs H Q _=>∃ (o qa ta:Addr) (us:List V) (q:Nu) (ys:List Pce) (at':Nat→Nat) (b:Nat),vs=[.ref o,.int b]∧H o=some (.tup [.ref qa,.ref ta])∧Nm H qa q.1 q.2∧H ta=some (.tup us)∧Al (Rw H) us (ys.map fun y=>(y.1,(y.2,1)))∧Cz 60 q∧Sd at' 93 ys∧b≤1024∧
  ∀ (r a d:Addr) (lo hi:Nu) (H':Hp),Same H H'→H' r=some (.tup [.ref a,.ref d])→Nm H' a lo.1 lo.2→Nm H' d hi.1 hi.2→OvD (60*(2:Int) ^ b) 1400 lo→OvD (60*(2:Int) ^ b) 1400 hi→val lo≤val hi→(val hi - val lo)*(((2:Int) ^ b:Int):Rat)≤(((2:Int) ^ 117:Int):Rat)→InL (val lo) (val hi) (fun l=>val q+XP l ys)→Q (.ref r) H'
noncomputable def Sl (q:Nu):Prop:=Low q.1 q.2∧Bd 2000 q.1∧Bd 2000 q.2
noncomputable def qdu (_:W.Frag):Sp:=fun vs H Q _=>∃ (o w qa ta:Addr) (us:List V) (q wd:Nu) (xs:List (Nu×Nu)) (at':Nat→Nat),vs=[.ref o,.ref w]∧H o=some (.tup [.ref qa,.ref ta])∧Nm H qa q.1 q.2∧H ta=some (.tup us)∧Al (Rw H) us xs∧Nm H w wd.1 wd.2∧Cz 60 q∧At at'∧(∀ x∈xs,Rz at' 80 x)∧xs.length≤24∧Sl wd∧1≤val wd*(((10:Int) ^ 40:Int):Rat)∧Tab H∧
  ∀ (r a d:Addr) (lo hi:Nu) (H':Hp),Kp qcj H H'→Tab H'→H' r=some (.tup [.ref a,.ref d])→Nm H' a lo.1 lo.2→Nm H' d hi.1 hi.2→Sl lo→Sl hi→val lo≤val hi→val hi - val lo≤val wd→InL (val lo) (val hi) (fun l=>val q+XR l xs)→Q (.ref r) H'
noncomputable def qbz (_:W.Frag):Sp:=fun vs H Q _=>∃ (o p:Addr) (q r:Nu) (xs zs:List (Nu×Nu)) (at':Nat→Nat),vs=[.ref o,.ref p]∧LN H o q xs∧LN H p r zs∧Cz 60 q∧Cz 60 r∧At at'∧(∀ x∈xs,Rz at' 80 x)∧(∀ x∈zs,Rz at' 80 x)∧xs.length+zs.length≤24∧Tab H∧
  ∀ (s:Addr) (ys:List Pce) (H':Hp),Kp qcj H H'→Tab H'→LN H' s (nadd q r) (ys.map qeL)→Sd at' 200000 ys→(∀ p,Pr p→WP p ys=WR p xs+WR p zs)→Q (.ref s) H'
noncomputable def qaZ (_:W.Frag):Sp:=fun vs H Q _=>∃ (o c:Addr) (q:Nu) (xs:List (Nu×Nu)) (at':Nat→Nat),vs=[.ref o,.ref c]∧LN H o q xs∧Nm H c (-1) 1∧Cz 50 q∧At at'∧(∀ x∈xs,Rz at' 46 x)∧xs.length≤24∧Tab H∧
  ∀ (s:Addr) (ys:List Pce) (H':Hp),Kp qcj H H'→Tab H'→LN H' s (nmul q (-1,1)) (ys.map qeL)→Sd at' 59 ys→(∀ p,Pr p→WP p ys = - WR p xs)→Q (.ref s) H'
noncomputable def Sgn (s:Int) (xs:List (Nu×Nu)):Prop:=(s=0∧∀ p,Pr p→WR p xs=0)∨(s=1∧∃ δ hi:Rat,1≤δ*(((2:Int) ^ 600:Int):Rat)∧InL δ hi (fun l=>XR l xs))∨(s = -1∧∃ δ lo:Rat,1≤δ*(((2:Int) ^ 600:Int):Rat)∧InL lo (-δ) (fun l=>XR l xs))
noncomputable def qaO (_:W.Frag):Sp:=fun vs H Q _=>∃ (o:Addr) (xs:List (Nu×Nu)) (at':Nat→Nat) (s:Int),vs=[.ref o]∧LN H o (0,1) xs∧At at'∧(∀ x∈xs,Rz at' 80 x)∧xs.length≤24∧Tab H∧Sgn s xs∧∀ H',Kp qcj H H'→Tab H'→Q (.int s) H'
noncomputable def qdv (K:W.Frag):Sp:=fun vs H Q _=>∃ (a:Addr) (ns:List Int) (k:Int),vs=[.ref a,.int k]∧SqL K H a (ns.map V.int)∧0≤k∧∀ n:Int,Q (.int n) H
noncomputable def qba (_:W.Frag):Sp:=fun vs H Q _=>∃ c k m:Int,vs=[.int c,.int k,.int m]∧0≤k∧k≤100∧0<m∧∀ d:Int,0≤d→d<m→Q (.int d) H
noncomputable def qaS (_:W.Frag):Sp:=fun vs H Q _=>∃ (p:Addr) (t d:Int),vs=[.ref p]∧Nm H p t d∧Low t d∧∀ H',Same H H'→Q (.bl true) H'
noncomputable def qgi (_:W.Frag):Sp:=fun vs H Q _=>∃ c:Int,vs=[.int c]∧∀ (r:Addr) (q:Nu) (H':Hp),Same H H'→Nm H' r q.1 q.2→Cz 46 q→q.1≠0→q.2≤5→Q (.ref r) H'
noncomputable def qb6 (_:W.Frag):Sp:=fun vs H Q _=>∃ c k:Int,vs=[.int c,.int k]∧0≤k∧k<6∧∀ (m:Int) (H':Hp),Same H H'→2≤m→m<(2:Int) ^ 261→Q (.int m) H'
noncomputable def qb7 (_:W.Frag):Sp:=fun vs H Q _=>∃ (c:Addr) (q:Nu) (m:Int),vs=[.ref c,.int m]∧Nm H c q.1 q.2∧Cz 46 q∧q.1≠0∧q.2≤5∧2≤m∧m<(2:Int) ^ 261∧Tab H∧∀ H',Kp qcj H H'→Tab H'→Q (.bl true) H'
noncomputable def qcx (_:W.Frag):Sp:=fun vs H Q _=>∃ (c:Addr) (q:Nu) (m:Int) (e:Nat),vs=[.ref c,.int m,.int e]∧Nm H c q.1 q.2∧Cz 46 q∧q.1≠0∧e≤40∧2≤m∧m<(2:Int) ^ 261∧Tab H∧∀ H',Kp qcj H H'→Tab H'→Q (.bl true) H'
noncomputable def qfm (K:W.Frag):Sp:=fun vs H Q _=>∃ (a:Addr) (ns:List Int),vs=[.ref a]∧SqL K H a (ns.map V.int)∧ns.length≤63∧a≠qcj∧H qcj=some (.tbl #[])∧∀ H',Q (.bl true) H'
end Bs
namespace Bs
open PySem L2
section
variable (K:W.Frag)
set_option linter.unusedVariables false
noncomputable def qbL (_:W.Frag):TS:=
  (qaG (qco (qbi (tOp rNe (qai 1) (tC (.int 0)))) (qaG (qaY (tOp ql6 (qai 0) (qai 1)) (qap 2))
    (qaG (qaY (qai 1) (qap 0))
    (qaY (qai 2) (qap 1)))))
    (qbB (tCB ql7 (qac (qai 0) qaq))))
noncomputable def qiu:TS:=
  (qaG (qaY (qar (qax K) [] E0 (qac (qai 0) (qac (qai 1) qaq))) (qap 2))
    (qaG (qes (qbi (tOp iLt (qai 1) (tC (.int 0)))) (qaY (tUn qhg (qai 2)) (qap 2)) qbP)
    (qbB (qbh (qac (tOp qgV (qai 0) (qai 2)) (qac (tOp qgV (qai 1) (qai 2)) qaq))))))
noncomputable def qkk:TS:=
  (qbB (qar (qbk K) [] E0 (qac (tOp qc6 (tOp qbK (tOp gT (qai 0) (tC (.int 0))) (tOp gT (qai 1) (tC (.int 1)))) (tOp qbK (tOp gT (qai 1) (tC (.int 0))) (tOp gT (qai 0) (tC (.int 1))))) (qac (tOp qbK (tOp gT (qai 0) (tC (.int 1))) (tOp gT (qai 1) (tC (.int 1)))) qaq))))
noncomputable def qiv:TS:=
  (qbB (qar (qbk K) [] E0 (qac (tOp ql5 (tOp qbK (tOp gT (qai 0) (tC (.int 0))) (tOp gT (qai 1) (tC (.int 1)))) (tOp qbK (tOp gT (qai 1) (tC (.int 0))) (tOp gT (qai 0) (tC (.int 1))))) (qac (tOp qbK (tOp gT (qai 0) (tC (.int 1))) (tOp gT (qai 1) (tC (.int 1)))) qaq))))
noncomputable def qiw:TS:=
  (qbB (qar (qbk K) [] E0 (qac (tOp qbK (tOp gT (qai 0) (tC (.int 0))) (tOp gT (qai 1) (tC (.int 0)))) (qac (tOp qbK (tOp gT (qai 0) (tC (.int 1))) (tOp gT (qai 1) (tC (.int 1)))) qaq))))
noncomputable def qjO (_:W.Frag):TS:=
  (qbB (tOp iLt (tOp qbK (tOp gT (qai 0) (tC (.int 0))) (tOp gT (qai 1) (tC (.int 1)))) (tOp qbK (tOp gT (qai 1) (tC (.int 0))) (tOp gT (qai 0) (tC (.int 1))))))
noncomputable def qbo:TS:=
  (qbB (qbh (qac (qai 0) (qac (tCB qk3 (qac (qbC (qdf K (qai 3)) [none,none] (qfh 2 (qcn (qap 0) (qcn (qap 1) qkb))) (qbh (qac (qai 0) (qac (qbh (qac (qai 1) (qac (tC (.int 1)) qaq))) qaq)))) qaq)) qaq))))
noncomputable def qbp:TS:=
  (qaG (qaY (qeD qit qfL qcj (qar (qaN K) [] E0 (qac (qai 2) qaq))) (qap 3))
    (qbo K))
noncomputable def qc1:TS:=
  (qaG (qaY (tOp qjn (qbC (qdf K (qai 1)) [none,none] (qfh 2 (qcn (qap 0) (qcn (qap 1) qkb))) (qbh (qac (qai 0) (qac (tOp gT (qai 1) (tC (.int 0))) qaq)))) (qbC (qdf K (qai 1)) [none,none] (qfh 2 (qcn (qap 0) (qcn (qap 1) qkb))) (qbh (qac (qar (qbG K) [] E0 (qac (qai 0) (qac (qbh (qac (tUn qhg (tC (.int 1))) (qac (tC (.int 1)) qaq))) qaq))) (qac (tOp gT (qai 1) (tC (.int 1))) qaq))))) (qap 2))
    (qbp K))
noncomputable def qbb:TS:=
  (qeX (tBM K "list" qfD (qai 1) (qac (qar (qaV K) [] E0 (qac (qai 3) (qac (tOp gL (qai 4) (tC (.int 0))) qaq))) qaq)))
noncomputable def qbc:TS:=
  (qaG (qeX (tBM K "list" qh8 (qai 2) (qac (tOp gL (qai 4) (tC (.int 0))) qaq)))
    (qbb K))
noncomputable def qbd:TS:=
  (qes (qjE (qai 4)) (qbc K) (qeX (tBM K "list" qev (qai 2) (qac (qai 3) qaq))))
noncomputable def qbe:TS:=
  (qaG (qaY (qfi (qdf K (qai 2)) [none,some 3] (qap 0) (qbi (tOp iGt (qar (qax K) [] E0 (qac (tOp gT (qai 1) (tC (.int 1))) (qac (tOp gT (qai 0) (tC (.int 1))) qaq))) (tC (.int 1)))) (qai 0)) (qap 4))
    (qbd K))
noncomputable def qbf:TS:=
  (qes (qlS (qbi (tOp rNe (tOp gT (tOp gT (qai 3) (tC (.int 0))) (tC (.int 0))) (tC (.int 0)))) (qbi (tOp iGt (tOp gT (qai 3) (tC (.int 1))) (tC (.int 1))))) (qbe K) qbP)
noncomputable def qbg:TS:=
  (qaG (qaY (qlZ K "list" qnq (qai 1)) (qap 3))
    (qbf K))
noncomputable def qcy (_:W.Frag):TS:=
  (qbB (qai 2))
noncomputable def qbq:TS:=
  (qaG (qco (qjE (qai 1)) (qbg K))
    (qcy K))
noncomputable def qbr:TS:=
  (qaG (qaY (qhf qaq) (qap 2))
    (qbq K))
noncomputable def qc2:TS:=
  (qaG (qaY (tCB qh3 (qac (qai 0) qaq)) (qap 1))
    (qbr K))
noncomputable def qdw:TS:=
  (qaG (qaY (qar (qax K) [] E0 (qac (tOp gT (qai 0) (tC (.int 1))) (qac (tOp gT (qai 1) (tC (.int 1))) qaq))) (qap 2))
    (qbB (qhf (qac (qbh (qac (tOp gT (qai 0) (tC (.int 0))) (qac (tOp qgU (tOp gT (qai 0) (tC (.int 1))) (qai 2)) qaq))) (qac (qbh (qac (tOp gT (qai 1) (tC (.int 0))) (qac (tOp qgU (tOp gT (qai 1) (tC (.int 1))) (qai 2)) qaq))) (qac (qbh (qac (qar (qci K) [] E0 (qac (tOp gT (qai 0) (tC (.int 0))) (qac (tOp gT (qai 1) (tC (.int 0))) qaq))) (qac (qai 2) qaq))) qaq))))))
noncomputable def qjP:TS:=
  (qbB (qar (qan K) [] E0 (qac (qar (qci K) [] E0 (qac (tOp gT (qai 0) (tC (.int 0))) (qac (tOp gT (qai 1) (tC (.int 0))) qaq))) (qac (tOp qjn (tCB qcT (qac (tOp gT (qai 0) (tC (.int 1))) qaq)) (tCB qcT (qac (tOp gT (qai 1) (tC (.int 1))) qaq))) qaq))))
noncomputable def qg0:TS:=
  (qbB (qar (qan K) [] E0 (qac (qar (qbG K) [] E0 (qac (tOp gT (qai 0) (tC (.int 0))) (qac (qai 1) qaq))) (qac (qbC (qjd K (tOp gT (qai 0) (tC (.int 1)))) [none,none,some 1] (qfh 2 (qcn (qap 0) (qcn (qap 1) qkb))) (qbh (qac (qar (qbG K) [] E0 (qac (qai 0) (qac (qai 2) qaq))) (qac (qai 1) qaq)))) qaq))))
noncomputable def qcc:TS:=
  (qaY (qar (qa7 K) [] E0 (qac (qai 1) (qac (qai 2) qaq))) (qap 3))
noncomputable def qcd:TS:=
  (qaG (qlI 2 (tC (.int 2)) qbK)
    (qcc K))
noncomputable def qdx (_:W.Frag):TS:=
  (qbB (tIf (qbi (tOp iGt (tOp gT (tOp gT (qai 3) (tC (.int 0))) (tC (.int 0))) (tC (.int 0)))) (tC (.int 1)) (tUn qhg (tC (.int 1)))))
noncomputable def qdy:TS:=
  (qaG (qco (qlS (qbi (tOp iLe (tOp gT (tOp gT (qai 3) (tC (.int 0))) (tC (.int 0))) (tC (.int 0)))) (qbi (tOp iGe (tOp gT (tOp gT (qai 3) (tC (.int 1))) (tC (.int 0))) (tC (.int 0))))) (qcd K))
    (qdx K))
noncomputable def qdz:TS:=
  (qaG (qaY (qar (qa7 K) [] E0 (qac (qai 1) (qac (qai 2) qaq))) (qap 3))
    (qdy K))
noncomputable def qdA:TS:=
  (qaG (qaY (tC (.int 64)) (qap 2))
    (qdz K))
noncomputable def qdB:TS:=
  (qaG (qes (qbi (tOp eqD (qai 1) (qbh (qac (qbh (qac (tC (.int 0)) (qac (tC (.int 1)) qaq))) (qac (qbh qaq) qaq))))) (qbB (tC (.int 0))) qbP)
    (qdA K))
noncomputable def qix:TS:=
  (qaG (qaY (qar (qan K) [] E0 (qac (tOp gT (qai 0) (tC (.int 0))) (qac (tCB qcT (qac (tOp gT (qai 0) (tC (.int 1))) qaq)) qaq))) (qap 1))
    (qdB K))
noncomputable def qdC:TS:=
  (qaY (qar (qa7 K) [] E0 (qac (qai 2) (qac (qai 3) qaq))) (qap 4))
noncomputable def qdD:TS:=
  (qaG (qlI 3 (tC (.int 2)) qbK)
    (qdC K))
noncomputable def qgj (_:W.Frag):TS:=
  (qbB (qai 4))
noncomputable def qgk:TS:=
  (qaG (qco (tB (qar (qbU K) [] E0 (qac (qai 1) (qac (qar (qdb K) [] E0 (qac (tOp gT (qai 4) (tC (.int 1))) (qac (tOp gT (qai 4) (tC (.int 0))) qaq))) qaq)))) (qdD K))
    (qgj K))
noncomputable def qgl:TS:=
  (qaG (qaY (qar (qa7 K) [] E0 (qac (qai 2) (qac (qai 3) qaq))) (qap 4))
    (qgk K))
noncomputable def qgm:TS:=
  (qaG (qaY (tC (.int 64)) (qap 3))
    (qgl K))
noncomputable def qmL:TS:=
  (qaG (qaY (qar (qan K) [] E0 (qac (tOp gT (qai 0) (tC (.int 0))) (qac (tCB qcT (qac (tOp gT (qai 0) (tC (.int 1))) qaq)) qaq))) (qap 2))
    (qgm K))
noncomputable def qce:TS:=
  (qaY (qar (qci K) [] E0 (qac (qai 3) (qac (tOp gL (qai 6) (tC (.int 1))) qaq))) (qap 3))
noncomputable def qcf:TS:=
  (qaG (qaY (qar (qci K) [] E0 (qac (qai 2) (qac (tOp gL (qai 6) (tC (.int 0))) qaq))) (qap 2))
    (qce K))
noncomputable def qcg:TS:=
  (qaG (qes (qbi (tOp iLt (tOp gT (qai 4) (tC (.int 0))) (tC (.int 0)))) (qaY (qnD (qai 6)) (qap 6)) qbP)
    (qcf K))
noncomputable def qch:TS:=
  (qaG (qaY (qbC (qjd K (qar (qbH K) [] E0 (qac (tOp gT (qai 5) (tC (.int 0))) (qac (qai 1) qaq)))) [none,some 4,some 1] (qap 0) (qar (qbG K) [] E0 (qac (qai 1) (qac (qar (qbk K) [] E0 (qac (qai 0) (qac (tOp qng (tC (.int 1)) (qai 2)) qaq))) qaq)))) (qap 6))
    (qcg K))
noncomputable def qdE (_:W.Frag):TS:=
  (qbB (qbh (qac (qai 2) (qac (qai 3) qaq))))
noncomputable def qdF:TS:=
  (qaG (qfy (qjd K (tOp gT (qai 0) (tC (.int 1)))) (qfh 2 (qcn (qap 4) (qcn (qap 5) qkb))) (qch K))
    (qdE K))
noncomputable def qdG:TS:=
  (qaG (qaY (tOp gT (qai 0) (tC (.int 0))) (qap 3))
    (qdF K))
noncomputable def qiy:TS:=
  (qaG (qaY (tOp gT (qai 0) (tC (.int 0))) (qap 2))
    (qdG K))
noncomputable def qcV (_:W.Frag):TS:=
  (qbB (qbh (qac (tOp qc6 (tOp gT (qai 4) (tC (.int 0))) (tOp qbK (qai 2) (tOp gT (qai 5) (tC (.int 0))))) (qac (tOp qc6 (tOp gT (qai 4) (tC (.int 1))) (tOp qbK (qai 2) (tOp gT (qai 5) (tC (.int 1))))) qaq))))
noncomputable def qcW:TS:=
  (qaG (qaY (qar (qaR K) [] E0 (qac (tC (.int 1)) (qac (tC (.int 3)) (qac (qai 1) qaq)))) (qap 5))
    (qcV K))
noncomputable def qcX:TS:=
  (qaG (qaY (qar (qaR K) [] E0 (qac (tOp ql5 (qai 0) (qai 3)) (qac (tOp qc6 (qai 0) (qai 3)) (qac (qai 1) qaq)))) (qap 4))
    (qcW K))
noncomputable def qcY:TS:=
  (qaG (qaY (tOp qng (tC (.int 1)) (qai 2)) (qap 3))
    (qcX K))
noncomputable def qg1:TS:=
  (qaG (qaY (tOp ql5 (qlZ K "int" qmw (qai 0)) (tC (.int 1))) (qap 2))
    (qcY K))
noncomputable def qbs (_:W.Frag):TS:=
  (qlI 6 (tC (.int 2)) qc6)
noncomputable def qbt:TS:=
  (qaG (qaY (tOp qnh (tOp qbK (qai 3) (qai 4)) (qai 2)) (qap 3))
    (qbs K))
noncomputable def qbu:TS:=
  (qaG (qlI 5 (tOp qgU (qai 3) (qai 6)) qc6)
    (qbt K))
noncomputable def qbV (_:W.Frag):TS:=
  (qbB (qbh (qac (tOp qbK (tC (.int 2)) (qai 5)) (qac (tOp qbK (tC (.int 2)) (tOp qc6 (tOp qc6 (qai 5) (qai 6)) (tC (.int 1)))) qaq))))
noncomputable def qbW:TS:=
  (qaG (qco (qbi (tOp iGt (qai 3) (tC (.int 0)))) (qbu K))
    (qbV K))
noncomputable def qbX:TS:=
  (qaG (qaY (tC (.int 1)) (qap 6))
    (qbW K))
noncomputable def qbY:TS:=
  (qaG (qaY (tC (.int 0)) (qap 5))
    (qbX K))
noncomputable def qbZ:TS:=
  (qaG (qaY (tOp qnh (tOp qbK (qai 3) (qai 3)) (qai 2)) (qap 4))
    (qbY K))
noncomputable def qeM:TS:=
  (qaG (qaY (tOp qgU (tOp qng (qai 0) (qai 2)) (qai 1)) (qap 3))
    (qbZ K))
noncomputable def qmM:TS:=
  (qaG (qes (qbi (qhy iLe iLt (tC (.int 0)) (qai 1) (tCB (qkP K) (qac (qai 0) qaq)))) (qbB (tOp (gS K) (qai 0) (qai 1))) qbP)
    (qbB (tC (.int 0))))
noncomputable def qea (_:W.Frag):TS:=
  (qbB (tOp qja (tOp qkO (tOp qja (tOp qbK (qai 3) (qai 3)) (tC (.int 1999999973))) (tC (.int 7))) (qai 2)))
noncomputable def qeb:TS:=
  (qaG (qaY (tOp qja (tOp qbK (tOp qc6 (tOp qc6 (tOp qja (qai 0) (tC (.int 2147483629))) (tOp qbK (tOp qbK (qai 1) (qai 1)) (tC (.int 7919)))) (tC (.int 11))) (tC (.int 48271))) (tC (.int 2147483647))) (qap 3))
    (qea K))
noncomputable def qjQ:TS:=
  (qaG (qes (qlS (qbi (tOp iGt (qai 0) (tOp qnf (tC (.int 2)) (tC (.int 60))))) (qbi (tOp iLt (qai 2) (tC (.int 200))))) (qbB (tOp qja (tOp qja (tOp qnh (qai 0) (tOp qbK (tC (.int 8)) (qai 1))) (tC (.int 256))) (qai 2))) qbP)
    (qeb K))
noncomputable def qec (_:W.Frag):TS:=
  (qaG (qnd 2 3 (qac (tCB ql7 (qac (qai 0) qaq)) (qac (tCB ql7 (qac (qai 1) qaq)) qaq)))
    (qaG (qco (qbi (tOp iGt (qai 3) (tC (.int 0)))) (qnd 2 3 (qac (qai 3) (qac (tOp qja (qai 2) (qai 3)) qaq))))
    (qaG (qes (qbi (tOp iLt (qai 1) (tC (.int 0)))) (qaY (tUn qhg (qai 2)) (qap 2)) qbP)
    (qbB (qbh (qac (tOp qgV (qai 0) (qai 2)) (qac (tOp qgV (qai 1) (qai 2)) qaq)))))))
noncomputable def qgn:TS:=
  (qbB (qar (qaM K) [] E0 (qac (tOp qc6 (tOp qbK (tOp gT (qai 0) (tC (.int 0))) (tOp gT (qai 1) (tC (.int 1)))) (tOp qbK (tOp gT (qai 1) (tC (.int 0))) (tOp gT (qai 0) (tC (.int 1))))) (qac (tOp qbK (tOp gT (qai 0) (tC (.int 1))) (tOp gT (qai 1) (tC (.int 1)))) qaq))))
noncomputable def qfn:TS:=
  (qbB (qar (qaM K) [] E0 (qac (tOp qbK (tOp gT (qai 0) (tC (.int 0))) (tOp gT (qai 1) (tC (.int 0)))) (qac (tOp qbK (tOp gT (qai 0) (tC (.int 1))) (tOp gT (qai 1) (tC (.int 1)))) qaq))))
noncomputable def qeN (_:W.Frag):TS:=
  (qbB (tOp iLe (tOp qbK (tOp gT (qai 0) (tC (.int 0))) (tOp gT (qai 1) (tC (.int 1)))) (tOp qbK (tOp gT (qai 1) (tC (.int 0))) (tOp gT (qai 0) (tC (.int 1))))))
noncomputable def qcz:TS:=
  (qaG (qes (tOr (qhl (tB (tCB qkQ (qac (qai 0) (qac (tC (.ty "tuple")) qaq))))) (qbi (tOp rNe (tCB qjv (qac (qai 0) qaq)) (tC (.int 2))))) (qbB (tC (.bl false))) qbP)
    (qaG (qfy (qjd K (qai 0)) (qap 1) (qes (tOr (qhl (tB (tCB qkQ (qac (qai 1) (qac (tC (.ty "int")) qaq))))) (tB (tCB qkQ (qac (qai 1) (qac (tC (.ty "bool")) qaq))))) (qbB (tC (.bl false))) qbP))
    (qbB (qhn (tOp iGt (tOp gT (qai 0) (tC (.int 1))) (tC (.int 0))) (tOp eqT (qai 0) (qar (qaM K) [] E0 (qac (tOp gT (qai 0) (tC (.int 0))) (qac (tOp gT (qai 0) (tC (.int 1))) qaq))))))))
noncomputable def qfM:TS:=
  (qbB (qar (qaM K) [] E0 (qac (qai 1) (qac (tOp qc6 (tC (.int 1)) (qar (qba K) [] E0 (qac (qai 0) (qac (tC (.int 1)) (qac (tC (.int 5)) qaq))))) qaq))))
noncomputable def qiz:TS:=
  (qaG (qes (qbi (tOp rEq (qar (qba K) [] E0 (qac (qai 0) (qac (tC (.int 4)) (qac (tC (.int 4)) qaq)))) (tC (.int 0)))) (qaY (tOp qbK (qai 1) (tOp qc6 (tC (.int 1)) (tOp qja (qai 0) (tOp qnf (tC (.int 10)) (tC (.int 11)))))) (qap 1)) qbP)
    (qfM K))
noncomputable def qnF:TS:=
  (qaG (qaY (tOp gT (qbh (qac (tUn qhg (tC (.int 7))) (qac (tUn qhg (tC (.int 2))) (qac (tUn qhg (tC (.int 1))) (qac (tC (.int 1)) (qac (tC (.int 3)) (qac (tC (.int 8)) qaq))))))) (qar (qba K) [] E0 (qac (qai 0) (qac (tC (.int 0)) (qac (tC (.int 6)) qaq))))) (qap 1))
    (qiz K))
noncomputable def qdH (_:W.Frag):TS:=
  (qbB (tOp qc6 (tOp qja (qai 0) (qai 2)) (tC (.int 2))))
noncomputable def qdI:TS:=
  (qaG (qfy (qhr (qac (tOp gT (qbh (qac (tC (.int 2)) (qac (tC (.int 10)) (qac (tC (.int 20)) (qac (tC (.int 38)) (qac (tC (.int 60)) (qac (tC (.int 78)) qaq))))))) (qai 1)) qaq)) (qap 3) (qaY (tOp qbK (qai 2) (tC (.int 10))) (qap 2)))
    (qdH K))
noncomputable def qiA:TS:=
  (qaG (qaY (tC (.int 1)) (qap 2))
    (qdI K))
noncomputable def qdJ:TS:=
  (qbB (qhn (tOp rEq (qar (qaO K) [] E0 (qac (qai 5) qaq)) (tUn qhg (qai 4))) (tOp rEq (qar (qaO K) [] E0 (qac (qar (qbz K) [] E0 (qac (qai 2) (qac (qai 5) qaq))) qaq)) (tC (.int 0)))))
noncomputable def qdK:TS:=
  (qaG (qes (tOr (tB (tCB qk9 (qac (qbC (qdf K (qai 6)) [none] (qap 0) (tCB qkQ (qac (qai 0) (qac (tC (.ty "bool")) qaq)))) qaq))) (qbi (tOp neD (qai 6) (qhf (qac (qai 4) (qac (qai 4) (qac (qai 4) qaq))))))) (qbB (tC (.bl false))) qbP)
    (qdJ K))
noncomputable def qdL:TS:=
  (qaG (qeX (tBM K "list" qev (qai 6) (qac (qar (qaO K) [] E0 (qac (qar (qbz K) [] E0 (qac (qai 2) (qac (qar (qaZ K) [] E0 (qac (qai 3) (qac (qbh (qac (tUn qhg (tC (.int 1))) (qac (tC (.int 1)) qaq))) qaq))) qaq))) qaq)) qaq)))
    (qdK K))
noncomputable def qdM:TS:=
  (qaG (qaY (qhf (qac (qar (qaO K) [] E0 (qac (qai 2) qaq)) (qac (qar (qaO K) [] E0 (qac (qar (qan K) [] E0 (qac (tOp gT (qai 2) (tC (.int 0))) (qac (tCB qcT (qac (tOp gT (qai 2) (tC (.int 1))) qaq)) qaq))) qaq)) qaq))) (qap 6))
    (qdL K))
noncomputable def qdN:TS:=
  (qaG (qaY (qar (qaZ K) [] E0 (qac (qai 2) (qac (qbh (qac (tUn qhg (tC (.int 1))) (qac (tC (.int 1)) qaq))) qaq))) (qap 5))
    (qdM K))
noncomputable def qdO:TS:=
  (qaG (qaY (tOp ql5 (tCB qju (qac (tOp iGt (tOp gT (qai 0) (tC (.int 0))) (tC (.int 0))) qaq)) (tCB qju (qac (tOp iLt (tOp gT (qai 0) (tC (.int 0))) (tC (.int 0))) qaq))) (qap 4))
    (qdN K))
noncomputable def qdP:TS:=
  (qaG (qaY (qbh (qac (qbh (qac (tC (.int 0)) (qac (tC (.int 1)) qaq))) (qac (qbh (qac (qbh (qac (qai 0) (qac (qar (qaM K) [] E0 (qac (tOp qc6 (qai 1) (tC (.int 2))) (qac (tOp qc6 (qai 1) (tC (.int 1))) qaq))) qaq))) qaq)) qaq))) (qap 3))
    (qdO K))
noncomputable def qiB:TS:=
  (qaG (qaY (qbh (qac (qbh (qac (tC (.int 0)) (qac (tC (.int 1)) qaq))) (qac (qbh (qac (qbh (qac (qai 0) (qac (qbh (qac (tOp qc6 (qai 1) (tC (.int 1))) (qac (qai 1) qaq))) qaq))) qaq)) qaq))) (qap 2))
    (qdP K))
noncomputable def qed:TS:=
  (qbB (qhn (qar (qaE K) [] E0 (qac (tOp gT (qai 5) (tC (.int 0))) (qac (tOp gL (qai 6) (tC (.int 1))) qaq))) (qar (qaE K) [] E0 (qac (tOp gL (qai 6) (tC (.int 0))) (qac (tOp gT (qai 5) (tC (.int 1))) qaq)))))
noncomputable def qee:TS:=
  (qaG (qes (qbi (tOp iLt (tOp gT (qai 0) (tC (.int 0))) (tC (.int 0)))) (qeX (qlZ K "list" qf5 (qai 6))) qbP)
    (qed K))
noncomputable def qef:TS:=
  (qaG (qaY (qhf (qac (qar (qby K) [] E0 (qac (qai 0) (qac (qbh (qac (tC (.int 1)) (qac (tOp qc6 (qai 1) (tC (.int 1))) qaq))) qaq))) (qac (qar (qby K) [] E0 (qac (qai 0) (qac (qbh (qac (tC (.int 1)) (qac (qai 1) qaq))) qaq))) qaq))) (qap 6))
    (qee K))
noncomputable def qeg:TS:=
  (qaG (qes (tOr (qhl (tB (qar (qaE K) [] E0 (qac (tOp gT (qai 5) (tC (.int 0))) (qac (tOp gT (qai 5) (tC (.int 1))) qaq))))) (qhl (tB (qar (qaE K) [] E0 (qac (tOp gT (qai 5) (tC (.int 1))) (qac (qar (qcw K) [] E0 (qac (tOp gT (qai 5) (tC (.int 0))) (qac (qbh (qac (tC (.int 1)) (qac (qai 3) qaq))) qaq))) qaq)))))) (qbB (tC (.bl false))) qbP)
    (qef K))
noncomputable def qeh:TS:=
  (qaG (qes (tOr (qhl (tB (tCB qkQ (qac (qai 5) (qac (tC (.ty "tuple")) qaq))))) (tOr (qbi (tOp rNe (tCB qjv (qac (qai 5) qaq)) (tC (.int 2)))) (tOr (qhl (tB (qar (qaS K) [] E0 (qac (tOp gT (qai 5) (tC (.int 0))) qaq)))) (qhl (tB (qar (qaS K) [] E0 (qac (tOp gT (qai 5) (tC (.int 1))) qaq))))))) (qbB (tC (.bl false))) qbP)
    (qeg K))
noncomputable def qei:TS:=
  (qaG (qaY (qar (qdu K) [] E0 (qac (qbh (qac (qbh (qac (tC (.int 0)) (qac (tC (.int 1)) qaq))) (qac (qbh (qac (qbh (qac (qai 0) (qac (qbh (qac (tOp qc6 (qai 1) (tC (.int 1))) (qac (qai 1) qaq))) qaq))) qaq)) qaq))) (qac (qbh (qac (tC (.int 1)) (qac (qai 3) qaq))) qaq))) (qap 5))
    (qeh K))
noncomputable def qej:TS:=
  (qaG (qfy (qhr (qac (qai 2) qaq)) (qap 4) (qaY (tOp qbK (qai 3) (tC (.int 10))) (qap 3)))
    (qei K))
noncomputable def qjR:TS:=
  (qaG (qaY (tC (.int 1)) (qap 3))
    (qej K))
noncomputable def qek:TS:=
  (qes (tOr (qhl (tB (qar (qb7 K) [] E0 (qac (qai 3) (qac (qai 4) qaq))))) (qhl (tB (qar (qcx K) [] E0 (qac (qai 3) (qac (qai 4) (qac (tOp gT (qbh (qac (tC (.int 0)) (qac (tC (.int 3)) (qac (tC (.int 12)) (qac (tC (.int 25)) (qac (tC (.int 39)) (qac (tC (.int 40)) qaq))))))) (qar (qba K) [] E0 (qac (qai 2) (qac (tC (.int 3)) (qac (tC (.int 6)) qaq))))) qaq))))))) (qbB (tC (.bl false))) qbP)
noncomputable def qel:TS:=
  (qaG (qaY (qar (qb6 K) [] E0 (qac (qai 2) (qac (qar (qba K) [] E0 (qac (tOp qc6 (qar (qdv K) [] E0 (qac (qai 0) (qac (tOp qc6 (qai 1) (tC (.int 2))) qaq))) (tOp qbK (tC (.int 7)) (qai 1))) (qac (tC (.int 2)) (qac (tC (.int 6)) qaq)))) qaq))) (qap 4))
    (qek K))
noncomputable def qem:TS:=
  (qaG (qaY (qar (qgi K) [] E0 (qac (tOp qc6 (qar (qdv K) [] E0 (qac (qai 0) (qac (tOp qc6 (qai 1) (tC (.int 1))) qaq))) (tOp qbK (tC (.int 5)) (qai 1))) qaq)) (qap 3))
    (qel K))
noncomputable def qlf (_:W.Frag):TS:=
  (qbB (tC (.bl true)))
noncomputable def qnG:TS:=
  (qaG (qfy (qfe K (qac (tOp qjn (tSl (sS K) (qai 0) qfB (qkF (tC (.int 1)))) (qhf (qac (tC (.int 4)) qaq))) qaq)) (qfh 2 (qcn (qap 1) (qcn (qap 2) qkb))) (qem K))
    (qlf K))
end
end Bs
namespace Bs
open PySem L2
variable {K:W.Frag} {vs:List V} {H:Hp} {Q:VK} {E:XK}
local macro_rules | `(tactic| rwa [$[$t:term],*]) => do
  let l : Array Lean.Term := (("qaG qaY qar qac qai qaq qap qod L2.start qes tIf qbi L2.tB tOp rI0 rI L2.tC tUn rU qbP qbB qbh qhf qnd qlI qeX tCB qhy qlS tOr qhl qhn qoa qnk rEq rNe qnp qc6 ql5 qbK qkO qnu qja ql6 qnf iLt iLe iGt iGe qhg gT gL gS ql7 qom qon qju qjv qnv qkP qkQ qkR qfa ql9 eqT qkT qkU qmb qmc List.map_cons List.map_nil List.length_cons List.length_nil List.replicate List.cons_append List.nil_append List.append_nil List.getElem?_cons_zero List.getElem?_cons_succ Option.some.injEq exists_eq_left' exists_eq_left V.int.injEq V.bl.injEq V.ref.injEq V.ty.injEq HO.tup.injEq HO.lst.injEq List.cons.injEq and_true true_and and_assoc exists_and_left List.set_cons_zero List.set_cons_succ decide_eq_true_eq decide_eq_false_iff_not Bool.not_eq_true' Bool.true_eq_false Bool.false_eq_true Bool.not_true Bool.not_false if_true if_false ite_true ite_false qkV qkW qjw qjx qgN qgO qgP qgQ qgR Nat.zero_add Nat.reduceAdd Nat.reduceSub qad Int.cast_ofNat_Int decide_true decide_false eq_self not_true_eq_false not_false_eq_true Int.natCast_add Int.natCast_zero reduceCtorEq Nm qfh qcn qkb qnl tSl qfB qkF sL sT qk3 qcT qh3 qjE qnw qoj qjn qev qfD qnq tBM qlZ qjz qjA qkY qkZ qjB qk6 qjF qk0 qk1 qk4 qk5 qnz qmt qnA qop qny qgU qgV qn1 qlK qbN Option.bind_some Option.bind_none Option.bind Option.join id_eq sS qnB qnC qax qbk qbT".splitOn " ").map fun s => (⟨(Lean.mkIdent s.toName).raw⟩ : Lean.Term)).toArray
  `(tactic| simp only [$[$(l ++ t):term],*])
theorem qbO {a b:Int} (ha:Bd 60000000 a) (hb:Bd 60000000 b):IntMulOk a b:=qmv ha hb (by decide)
theorem qlL {a b:Int} (h1:-18446744073709551616<b) (h2:b<18446744073709551616):IntMulOk a b:=IntMulOk.of_right (intBits_le_64 (by omega) (by omega))
theorem qjS {a b:Int} (h1:-18446744073709551616<a) (h2:a<18446744073709551616):IntMulOk a b:=IntMulOk.of_left (intBits_le_64 (by omega) (by omega))
theorem qcL (h:qax K vs H Q E):qbL K { nx:=fun _ H'=>Q .non H',rt:=Q } (L2.start ["one", "other", "rest"] vs) H:=by
  obtain ⟨a,b,rfl,q⟩:=h
  unfold qbL
  rwa []
  refine while_by (fun m σ H'=>∃ (x y:Int) (r:Option V),σ=[some (.int x),some (.int y),r]∧H'=H∧Int.gcd x y=Int.gcd a b∧m=y.natAbs) b.natAbs ⟨a,b,none,rfl,rfl,rfl,rfl⟩ ?_
  rintro m σ H' ⟨x,y,r,rfl,rfl,hg,rfl⟩
  rwa []
  refine qbJ (fun c=>?_) (fun c=>?_)
  · refine ⟨fun σ' H''=>∃ m',m'<y.natAbs∧_,fun _ _ h=>h,?_⟩
    refine ⟨c,_,qhR x c,y,x.fmod y,_,rfl,rfl,?_,rfl⟩
    rw [qf6];exact hg
  · have y0:y=0:=Decidable.not_not.mp c
    subst y0
    have e:(if x<0 then -x else x)=((Int.gcd a b:Nat):Int):=by
      rw [← hg,Int.gcd_zero_right];split <;> omega
    rw [e];exact q
theorem qnH {m n:Nat} {x y:Int} (hx:Bd m x) (hy:Bd n y) (hm:m≤60000000:=by decide) (hn:n≤60000000:=by decide):IntMulOk x y:=qbO (hx.mono hm) (hy.mono hn)
theorem qbl {n m:Int} (h:0<m):qcJ n m=red n m:=by unfold qcJ;rw [if_neg (by omega)]
theorem qjT (h:qbk K vs H Q E):qiu K { nx:=fun _ H'=>Q .non H',rt:=Q } (L2.start ["top", "bottom", "shared"] vs) H:=by
  obtain ⟨a,b,rfl,hb,q⟩:=h
  unfold qiu
  rwa []
  have go:∀ s:Int,(s=if b<0 then -((Int.gcd a b:Nat):Int) else ((Int.gcd a b:Nat):Int))→qlK a s∧qlK b s∧2≤sizeLine∧∀ (p:Addr),H p=none→Q (V.ref p) (upd H p (HO.tup [V.int (a.fdiv s),V.int (b.fdiv s)])):=fun s hs=>by
    obtain ⟨h1,h2,h3,h4,h5,h6⟩:=qb2 hb hs
    have e:qcJ a b=(a.fdiv s,b.fdiv s):=by
      refine qfG (qeG hb) h3 ?_
      rw [qbE hb,qdo (q:=(a.fdiv s,b.fdiv s)) (Int.ne_of_gt h3.pos) hb h4]
    rw [e] at q
    exact ⟨h1,h1,sz (by decide),q⟩
  refine qbJ (fun c=>?_) (fun c=>?_)
  · exact go _ (by rw [if_pos c])
  · exact go _ (by rw [if_neg c])
theorem php:∀ (m n:Nat) (f:Nat→Nat),(∀ i,i<n→f i<m)→m<n→∃ i j,i<j∧j<n∧f i=f j
  | 0,n,f,h,hn=>absurd (h 0 hn) (Nat.not_lt_zero _)
  | m+1,n,f,h,hn=>by
    obtain ⟨n,rfl⟩:∃ k,n=k+1:=⟨n - 1,by omega⟩
    by_cases c:∃ i,i<n∧f i=f n
    · obtain ⟨i,hi,e⟩:=c
      exact ⟨i,n,hi,by omega,e⟩
    · have c:∀ i,i<n→f i≠f n:=fun i hi e=>c ⟨i,hi,e⟩
      have hv:=h n (by omega)
      obtain ⟨i,j,hij,hj,e⟩:=php m n (fun i=>if f n<f i then f i - 1 else f i) (fun i hi=>by
        have h1:=h i (by omega)
        have h2:=c i hi
        show (if f n<f i then f i - 1 else f i)<m
        split <;> omega) (by omega)
      refine ⟨i,j,hij,by omega,?_⟩
      have c1:=c i (by omega)
      have c2:=c j hj
      have e:(if f n<f i then f i - 1 else f i)=(if f n<f j then f j - 1 else f j):=e
      split at e <;> split at e <;> omega
theorem qjU (h:qbG K vs H Q E):qiw K { nx:=fun _ H'=>Q .non H',rt:=Q } (L2.start ["one", "other"] vs) H:=by
  obtain ⟨p,q,a,b,c,d,rfl,hp,hq,b0,d0,ba,bb,bc,bd,k⟩:=h
  unfold qiw
  rwa [hp,hq]
  exact ⟨qbO ba bc,qbO bb bd,Int.ne_of_gt (Int.mul_pos b0 d0),fun r hr=>by rw [qbl (Int.mul_pos b0 d0)];exact k r hr⟩
theorem qg2 (h:qby K vs H Q E):qfn K { nx:=fun _ H'=>Q .non H',rt:=Q } (L2.start ["_law_one", "_law_other"] vs) H:=by
  obtain ⟨p,q,a,b,c,d,rfl,hp,hq,b0,d0,ba,bb,bc,bd,k⟩:=h
  unfold qfn
  rwa [hp,hq]
  exact ⟨qbO ba bc,qbO bb bd,Int.ne_of_gt (Int.mul_pos b0 d0),fun r hr=>by rw [qbl (Int.mul_pos b0 d0)];exact k r hr⟩
theorem qlg (h:qci K vs H Q E):qkk K { nx:=fun _ H'=>Q .non H',rt:=Q } (L2.start ["one", "other"] vs) H:=by
  obtain ⟨p,q,a,b,c,d,rfl,hp,hq,b0,d0,ba,bb,bc,bd,k⟩:=h
  unfold qkk
  rwa [hp,hq]
  exact ⟨qbO ba bd,qbO bc bb,qbO bb bd,Int.ne_of_gt (Int.mul_pos b0 d0),fun r hr=>by rw [qbl (Int.mul_pos b0 d0)];exact k r hr⟩
theorem qfN (h:qaM K vs H Q E):qec K { nx:=fun _ H'=>Q .non H',rt:=Q } (L2.start ["_law_top", "_law_bottom", "_law_one", "_law_other"] vs) H:=by
  obtain ⟨a,b,rfl,hb,q⟩:=h
  unfold qec
  rwa []
  have go:∀ s:Int,(s=if b<0 then -((Int.gcd a b:Nat):Int) else ((Int.gcd a b:Nat):Int))→qlK a s∧qlK b s∧2≤sizeLine∧∀ (p:Addr),H p=none→Q (V.ref p) (upd H p (HO.tup [V.int (a.fdiv s),V.int (b.fdiv s)])):=fun s hs=>by
    obtain ⟨h1,h2,h3,h4,h5,h6⟩:=qb2 hb hs
    have e:qcJ a b=(a.fdiv s,b.fdiv s):=by
      refine qfG (qeG hb) h3 ?_
      rw [qbE hb,qdo (q:=(a.fdiv s,b.fdiv s)) (Int.ne_of_gt h3.pos) hb h4]
    rw [e] at q
    exact ⟨h1,h1,sz (by decide),q⟩
  refine while_by (fun m σ H'=>∃ x y:Int,σ=[some (.int a),some (.int b),some (.int x),some (.int y)]∧H'=H∧0≤x∧0≤y∧Int.gcd x y=Int.gcd a b∧m=y.natAbs) b.natAbs ⟨_,_,rfl,rfl,by split <;> omega,by split <;> omega,?_,by split <;> omega⟩ ?_
  · split <;> split <;> simp [Int.neg_gcd,Int.gcd_neg]
  rintro m σ H' ⟨x,y,rfl,rfl,x0,y0,hg,rfl⟩
  rwa []
  refine qbJ (fun c=>?_) (fun c=>?_)
  · refine ⟨fun σ' H''=>∃ m',m'<y.natAbs∧_,fun _ _ h=>h,?_⟩
    have z1:=Int.emod_nonneg x (show y≠0 by omega)
    have z2:=Int.emod_lt_of_pos x c
    refine ⟨c,(x % y).natAbs,by omega,y,x % y,rfl,rfl,y0,z1,?_,rfl⟩
    rw [qjt x y0];exact hg
  · have e:y=0:=by omega
    subst e
    have ex:x=((Int.gcd a b:Nat):Int):=by rw [← hg,Int.gcd_zero_right];omega
    refine qbJ (fun c2=>?_) (fun c2=>?_)
    · exact go _ (by rw [if_pos c2,ex])
    · exact go _ (by rw [if_neg c2,ex])
theorem qiC (h:qcw K vs H Q E):qgn K { nx:=fun _ H'=>Q .non H',rt:=Q } (L2.start ["_law_one", "_law_other"] vs) H:=by
  obtain ⟨p,q,a,b,c,d,rfl,hp,hq,b0,d0,ba,bb,bc,bd,k⟩:=h
  unfold qgn
  rwa [hp,hq]
  exact ⟨qbO ba bd,qbO bc bb,qbO bb bd,Int.ne_of_gt (Int.mul_pos b0 d0),fun r hr=>by rw [qbl (Int.mul_pos b0 d0)];exact k r hr⟩
theorem qjV (h:qdb K vs H Q E):qiv K { nx:=fun _ H'=>Q .non H',rt:=Q } (L2.start ["one", "other"] vs) H:=by
  obtain ⟨p,q,a,b,c,d,rfl,hp,hq,b0,d0,ba,bb,bc,bd,k⟩:=h
  unfold qiv
  rwa [hp,hq]
  exact ⟨qbO ba bd,qbO bc bb,qbO bb bd,Int.ne_of_gt (Int.mul_pos b0 d0),fun r hr=>by rw [qbl (Int.mul_pos b0 d0)];exact k r hr⟩
theorem qfO {a b c:Int} (h:a∣b*c) (g:Int.gcd a c=1):a∣b:=by
  have h1:Nat.Coprime a.natAbs c.natAbs:=g
  refine Int.natAbs_dvd_natAbs.mp (h1.dvd_of_dvd_mul_right ?_)
  rw [← Int.natAbs_mul]
  exact Int.natAbs_dvd_natAbs.mpr h
theorem qmN {p:Nat} (hp:Pr p) {a:Int} (h:¬ (p:Int)∣a):Int.gcd (p:Int) a=1:=by
  rcases hp.div _ (Int.gcd_dvd_natAbs_left (p:Int) a) with z | z
  · exact z
  · exact absurd (z ▸ Int.gcd_dvd_right (p:Int) a) h
theorem qmO {p:Nat} (hp:Pr p) {a:Int} (h:¬ (p:Int)∣a) (j:Nat):Int.gcd ((p ^ j:Nat):Int) a=1:=by
  have h1:Nat.Coprime p a.natAbs:=qmN hp h
  exact Nat.Coprime.pow_left j h1
theorem qmP {p:Nat} (hp:Pr p) {a h:Int} (n:¬ (p:Int)∣a) (j:Nat) (d:((p ^ j:Nat):Int)∣h*a):((p ^ j:Nat):Int)∣h:=qfO d (qmO hp n j)
theorem qmQ {p:Nat} (hp:Pr p) {a b:Int} (h:(p:Int)∣a*b):(p:Int)∣a∨(p:Int)∣b:=by
  by_cases c:(p:Int)∣b
  · exact .inr c
  · have:=qmP hp c 1 (h:=a) (by rw [Nat.pow_one];exact h)
    rw [Nat.pow_one] at this
    exact .inl this
theorem pr_two:Pr 2:=⟨by decide,fun d hd=>by have:=Nat.le_of_dvd (by decide) hd;have:d≠0:=fun z=>by rw [z] at hd;revert hd;decide
                                             omega⟩
theorem qlh (q:Nu):val (-q.1,q.2) = - val q:=by
  unfold val
  show ((-q.1:Int):Rat) / _=_
  push_cast
  grind
theorem nadd_neg' (q r:Nu):nadd q (-r.1,r.2)=nsub q r:=by
  unfold nadd nsub
  congr 1
  show q.1*r.2 + -r.1*q.2=_
  grind
theorem qgo {q r:Nu} (h1:0<q.2) (h2:0<r.2):val (nsub q r)=val q - val r:=by
  rw [← nadd_neg',qb4 (r:=(-r.1,r.2)) h1 h2,qlh];grind
theorem qn4:([]:List V).length≤sizeLine:=Nat.zero_le _
theorem qkl {σ:L2.St} {H:Hp} {Q:VK} {ta tb tc:TE} (h:ta σ H fun x H1=>tb σ H1 fun y H2=>tc σ H2 fun z H3=>[x,y,z].length≤sizeLine∧∀ p,H3 p=none→Q (.ref p) (upd H3 p (.lst [x,y,z]))):qhf (qac ta (qac tb (qac tc qaq))) σ H Q:=h
theorem Al.ind {α:Type} {R:V→α→Prop} {M:List V→List α→Prop} (h0:M [] []) (h1:∀ u x us xs,R u x→Al R us xs→M us xs→M (u::us) (x::xs)):∀ {us:List V} {xs:List α},Al R us xs→M us xs:=by
  intro us
  induction us with
  | nil=>intro xs a;cases xs with
    | nil=>exact h0
    | cons _ _=>exact a.elim
  | cons u us ih=>intro xs a;cases xs with
    | nil=>exact a.elim
    | cons x xs=>exact h1 u x us xs a.1 a.2 (ih a.2)
theorem Al.mono {α:Type} {R R':V→α→Prop} (h:∀ u x,R u x→R' u x) {us:List V} {xs:List α} (a:Al R us xs):Al R' us xs:=
  Al.ind (M:=fun us xs=>Al R' us xs) trivial (fun u x _ _ r _ ih=>⟨h u x r,ih⟩) a
theorem Al.length {α:Type} {R:V→α→Prop} {us:List V} {xs:List α} (a:Al R us xs):us.length=xs.length:=
  Al.ind (M:=fun (us:List V) (xs:List α)=>us.length=xs.length) rfl (fun _ _ us xs _ _ (ih:us.length=xs.length)=>show us.length+1=xs.length+1 by rw [ih]) a
theorem Al.get {α:Type} {R:V→α→Prop} {us:List V} {xs:List α} (a:Al R us xs):∀ {i:Nat} {u:V},us[i]?=some u→∃ x,xs[i]?=some x∧R u x:=
  Al.ind (M:=fun us xs=>∀ {i:Nat} {u:V},us[i]?=some u→∃ x,xs[i]?=some x∧R u x) (fun e=>by cases e) (fun v x _ _ r _ ih=>fun {i u} e=>by
    cases i with
    | zero=>cases e;exact ⟨x,rfl,r⟩
    | succ i=>exact ih e) a
theorem Al.append {α:Type} {R:V→α→Prop} {us:List V} {xs:List α} {vs:List V} {ys:List α} (a:Al R us xs) (b:Al R vs ys):Al R (us++vs) (xs++ys):=
  Al.ind (M:=fun us xs=>Al R (us++vs) (xs++ys)) (by exact b) (fun u x us xs r _ ih=>show Al R (u::(us++vs)) (x::(xs++ys)) from ⟨r,ih⟩) a
theorem Al.erase {α:Type} {R:V→α→Prop} {us:List V} {xs:List α} (a:Al R us xs):∀ j:Nat,Al R (us.eraseIdx j) (xs.eraseIdx j):=
  Al.ind (M:=fun us xs=>∀ j:Nat,Al R (us.eraseIdx j) (xs.eraseIdx j)) (fun _=>trivial) (fun _ _ _ _ r t ih j=>by
    cases j with
    | zero=>exact t
    | succ j=>exact ⟨r,ih j⟩) a
theorem Al.take {α:Type} {R:V→α→Prop} {us:List V} {xs:List α} (a:Al R us xs):∀ j:Nat,Al R (us.take j) (xs.take j):=
  Al.ind (M:=fun us xs=>∀ j:Nat,Al R (us.take j) (xs.take j)) (fun j=>by rw [List.take_nil,List.take_nil];trivial) (fun _ _ _ _ r t ih j=>by
    cases j with
    | zero=>trivial
    | succ j=>exact ⟨r,ih j⟩) a
theorem Al.dropLast {α:Type} {R:V→α→Prop} {us:List V} {xs:List α} (a:Al R us xs):Al R us.dropLast xs.dropLast:=by
  rw [List.dropLast_eq_take,List.dropLast_eq_take,a.length]
  exact a.take _
theorem Al.snoc {α:Type} {R:V→α→Prop} {us:List V} {xs:List α} {u:V} {x:α} (a:Al R us xs) (h:R u x):Al R (us++[u]) (xs++[x]):=a.append ⟨h,trivial⟩
theorem Pc.tp {H H':Hp} {u:V} {x:Pce} (t:Tp H H') (h:Pc H u x):Pc H' u x:=by
  obtain ⟨a,b,rfl,h1,h2⟩:=h
  exact ⟨a,b,rfl,t _ _ h1,t _ _ h2⟩
theorem Rw.tp {H H':Hp} {u:V} {x:Nu×Nu} (t:Tp H H') (h:Rw H u x):Rw H' u x:=by
  obtain ⟨a,b,d,rfl,h1,h2,h3⟩:=h
  exact ⟨a,b,d,rfl,t _ _ h1,t _ _ h2,t _ _ h3⟩
theorem Cz.mono {s t:Nat} {q:Nu} (h:Cz s q) (l:s≤t):Cz t q:=by
  obtain ⟨lo,k,e,b⟩:=h
  exact ⟨lo,k,e,b.mono l⟩
theorem Cz.bd {t:Nat} {q:Nu} (h:Cz t q):Bd t q.1∧Bd 6 q.2:=by
  obtain ⟨lo,k,e,b⟩:=h
  have p:=lo.pos
  have e:q.1*60=k*q.2:=by
    unfold val at e
    have d1:(q.2:Rat)≠0:=qa0 (by omega)
    have h1:(q.1:Rat) / (q.2:Rat)*(q.2:Rat)=q.1:=Rat.div_mul_cancel d1
    have:(q.1:Rat)*60=k*q.2:=by rw [← h1,e];grind
    exact_mod_cast this
  have d60:q.2∣60:=qfO (c:=q.1) ⟨k,by rw [Int.mul_comm 60,e,Int.mul_comm]⟩ (by rw [Int.gcd_comm];exact lo.one)
  obtain ⟨m,hm⟩:=d60
  have m0:0<m:=by
    rcases Int.lt_trichotomy m 0 with y | y | y
    · have:q.2*m≤q.2*(-1):=Int.mul_le_mul_of_nonneg_left (by omega) (by omega)
      omega
    · rw [y] at hm;omega
    · exact y
  have e2:q.1*m=k:=by
    have:(q.1*m)*q.2=k*q.2:=by rw [← e,hm];grind
    exact Int.eq_of_mul_eq_mul_right (by omega) this
  constructor
  · refine b.le ?_
    rw [← e2,Int.natAbs_mul]
    exact Nat.le_mul_of_pos_right _ (by omega)
  · have:q.2≤60:=Int.le_of_dvd (by decide) ⟨m,hm⟩
    show q.2.natAbs<64
    omega
theorem Cz.add {t:Nat} {q r:Nu} (h:Cz t q) (h':Cz t r):Cz (t+1) (nadd q r):=by
  obtain ⟨lo,k,e,b⟩:=h
  obtain ⟨lo',k',e',b'⟩:=h'
  exact ⟨qc9 lo.pos lo'.pos,k+k',by rw [qb4 lo.pos lo'.pos,e,e'];push_cast;grind,b.add b'⟩
theorem Cz.neg {t:Nat} {q:Nu} (h:Cz t q):Cz t (nmul q (-1,1))∧val (nmul q (-1,1)) = - val q:=by
  obtain ⟨lo,k,e,b⟩:=h
  have v:val (nmul q (-1,1)) = - val q:=by
    rw [qgb lo.pos (by decide)]
    have:val (-1,1) = -1:=by show ((-1:Int):Rat) / ((1:Int):Rat) = -1;push_cast;grind
    rw [this];grind
  exact ⟨⟨qga lo.pos (by decide),-k,by rw [v,e];push_cast;grind,b.neg⟩,v⟩
theorem qc3 (h:qaV K vs H Q E):qdw K { nx:=fun _ H'=>Q .non H',rt:=Q } (L2.start ["one", "other", "shared"] vs) H:=by
  obtain ⟨u,v,x,y,t,rfl,hx,hy,cx,cy,t4,x0,y0,k⟩:=h
  obtain ⟨a,b,rfl,ha,hb⟩:=hx
  obtain ⟨c,d,rfl,hc,hd⟩:=hy
  have g0:(0:Int)<((Int.gcd x.2 y.2:Nat):Int):=by have:=Int.gcd_pos_of_ne_zero_left y.2 (show x.2≠0 by omega);omega
  refine qbF ⟨_,rfl,_,_,_,_,rfl,rfl,ha,rfl,_,rfl,_,_,_,_,rfl,rfl,hc,rfl,x.2,y.2,rfl,?_⟩
  generalize ((Int.gcd x.2 y.2:Nat):Int)=g at g0 k ⊢
  refine qcv (qkl (qaB ⟨_,rfl,_,_,_,_,rfl,rfl,ha,rfl,_,rfl,_,_,_,_,rfl,rfl,ha,rfl,_,rfl,_,_,rfl,rfl,g0,qb5,fun p1 hp1=>?_⟩))
  have s1:=qag hp1 (HO.tup [V.ref b,V.int (x.2 / g)])
  have h11:upd H p1 (HO.tup [V.ref b,V.int (x.2 / g)]) p1=_:=qad
  have ha1:=s1 _ _ ha
  have hc1:=s1 _ _ hc
  show qbh _ _ _ _
  generalize upd H p1 (HO.tup [V.ref b,V.int (x.2 / g)])=H1 at s1 h11 ha1 hc1 ⊢
  refine qaB ⟨_,rfl,_,_,_,_,rfl,rfl,hc1,rfl,_,rfl,_,_,_,_,rfl,rfl,hc1,rfl,_,rfl,_,_,rfl,rfl,g0,qb5,fun p2 hp2=>?_⟩
  have s2:=qag hp2 (HO.tup [V.ref d,V.int (y.2 / g)])
  have h22:upd H1 p2 (HO.tup [V.ref d,V.int (y.2 / g)]) p2=_:=qad
  have ha2:=s2 _ _ ha1
  have hc2:=s2 _ _ hc1
  have s12:=s1.trans s2
  show qbh _ _ _ _
  generalize upd H1 p2 (HO.tup [V.ref d,V.int (y.2 / g)])=H2 at s2 h22 ha2 hc2 s12 ⊢
  obtain ⟨bx,bx2⟩:=cx.bd
  obtain ⟨by',by2⟩:=cy.bd
  refine qaB (qa5 ⟨_,rfl,_,_,_,_,rfl,rfl,ha2,rfl,_,rfl,_,_,_,_,rfl,rfl,hc2,rfl,b,d,x.1.1,x.1.2,y.1.1,y.1.2,rfl,s12 _ _ hb,s12 _ _ hd,cx.1.pos,cy.1.pos,bx.mono (by omega),bx2.mono (by decide),by'.mono (by omega),by2.mono (by decide),fun r hr=>?_⟩)
  have s3:=qag hr (HO.tup [V.int (nadd (x.1.1,x.1.2) (y.1.1,y.1.2)).1,V.int (nadd (x.1.1,x.1.2) (y.1.1,y.1.2)).2])
  have h33:upd H2 r (HO.tup [V.int (nadd (x.1.1,x.1.2) (y.1.1,y.1.2)).1,V.int (nadd (x.1.1,x.1.2) (y.1.1,y.1.2)).2]) r=_:=qad
  show ∃ _,_
  generalize upd H2 r (HO.tup [V.int (nadd (x.1.1,x.1.2) (y.1.1,y.1.2)).1,V.int (nadd (x.1.1,x.1.2) (y.1.1,y.1.2)).2])=H3 at s3 h33 ⊢
  refine ⟨_,rfl,qb5,fun p3 hp3=>⟨qn3,fun p4 hp4=>?_⟩⟩
  have s4:=qag hp3 (HO.tup [V.ref r,V.int g])
  have s5:=qag hp4 (HO.lst [V.ref p1,V.ref p2,V.ref p3])
  have s35:=s3.trans (s4.trans s5)
  have s05:=s12.trans s35
  refine k p4 _ _ s05 ?_ qad ⟨⟨p1,b,rfl,(s2.trans s35) _ _ h11,s05 _ _ hb⟩,⟨p2,d,rfl,s35 _ _ h22,s05 _ _ hd⟩,⟨p3,r,rfl,s5 _ _ qad,(s4.trans s5) _ _ h33⟩,trivial⟩
  cases e:H p4 with
  | none=>rfl
  | some o=>have:=(s12.trans (s3.trans s4)) _ _ e;rw [hp4] at this;cases this
theorem qck {p:Nat} (hp:Pr p):∀ n w:Nat,w≤n→0<w→∃ u,w=p ^ vp p n w*u∧¬ p∣u:=by
  intro n
  induction n with
  | zero=>intro w h0 h1;omega
  | succ n ih=>
    intro w hw w0
    have p2:=hp.two
    show ∃ u,w=p ^ (if p∣w then vp p n (w / p)+1 else 0)*u∧¬ p∣u
    by_cases c:p∣w
    · rw [if_pos c]
      obtain ⟨v,rfl⟩:=c
      have v0:0<v:=Nat.pos_of_mul_pos_left w0
      rw [Nat.mul_div_cancel_left _ (by omega)]
      have lt:v<p*v:=by
        have:2*v≤p*v:=Nat.mul_le_mul_right _ p2
        omega
      obtain ⟨u,e,nu⟩:=ih v (by omega) v0
      refine ⟨u,?_,nu⟩
      rw [Nat.pow_succ]
      have:p ^ vp p n v*p*u=p*(p ^ vp p n v*u):=by grind
      rw [this,← e]
    · rw [if_neg c]
      exact ⟨w,by rw [Nat.pow_zero,Nat.one_mul],c⟩
theorem prN {p:Nat} (hp:Pr p) {a b:Nat} (h:p∣a*b):p∣a∨p∣b:=by
  have h:(p:Int)∣(a:Int)*(b:Int):=by rw [← Int.natCast_mul];exact Int.natCast_dvd_natCast.mpr h
  rcases qmQ hp h with y | y
  · exact .inl (Int.natCast_dvd_natCast.mp y)
  · exact .inr (Int.natCast_dvd_natCast.mp y)
theorem qiD {p:Nat} (hp:Pr p):∀ a b u v:Nat,p ^ a*u=p ^ b*v→¬ p∣u→¬ p∣v→a=b:=by
  have p2:=hp.two
  intro a
  induction a with
  | zero=>
    intro b u v e nu nv
    cases b with
    | zero=>rfl
    | succ b=>
      rw [Nat.pow_zero,Nat.one_mul] at e
      exact absurd ⟨p ^ b*v,by rw [e,Nat.pow_succ];grind⟩ nu
  | succ a ih=>
    intro b u v e nu nv
    cases b with
    | zero=>
      rw [Nat.pow_zero,Nat.one_mul] at e
      exact absurd ⟨p ^ a*u,by rw [← e,Nat.pow_succ];grind⟩ nv
    | succ b=>
      refine congrArg (·+1) (ih b u v ?_ nu nv)
      rw [Nat.pow_succ,Nat.pow_succ] at e
      have:p*(p ^ a*u)=p*(p ^ b*v):=by grind
      exact Nat.eq_of_mul_eq_mul_left (by omega) this
theorem qfP {p:Nat} (hp:Pr p) {w u:Int} (w0:0<w) (u0:0<u):vpI p (w*u)=vpI p w+vpI p u:=by
  obtain ⟨x,ex,nx⟩:=qck hp w.natAbs w.natAbs (Nat.le_refl _) (by omega)
  obtain ⟨y,ey,ny⟩:=qck hp u.natAbs u.natAbs (Nat.le_refl _) (by omega)
  have wu:0<w*u:=Int.mul_pos w0 u0
  obtain ⟨z,ez,nz⟩:=qck hp (w*u).natAbs (w*u).natAbs (Nat.le_refl _) (by omega)
  refine qiD hp _ _ z (x*y) ?_ nz fun h=>(prN hp h).elim nx ny
  show p ^ vp p (w*u).natAbs (w*u).natAbs*z=p ^ (vp p w.natAbs w.natAbs+vp p u.natAbs u.natAbs)*(x*y)
  rw [← ez,Int.natAbs_mul,Nat.pow_add]
  have:p ^ vp p w.natAbs w.natAbs*p ^ vp p u.natAbs u.natAbs*(x*y)=(p ^ vp p w.natAbs w.natAbs*x)*(p ^ vp p u.natAbs u.natAbs*y):=by grind
  rw [this,← ex,← ey]
theorem qgp (p:Nat) (xs ys:List Pce):WP p (xs++ys)=WP p xs+WP p ys:=by
  induction xs with
  | nil=>show WP p ys=0+WP p ys;grind
  | cons x xs ih=>show val x.1*(vpI p x.2:Rat)+WP p (xs++ys)=(val x.1*(vpI p x.2:Rat)+WP p xs)+WP p ys;rw [ih];grind
theorem qiE (p:Nat) {xs ys:List Pce} (h:xs.Perm ys):WP p xs=WP p ys:=by
  induction h with
  | nil=>rfl
  | cons x _ ih=>show _+_=_+_;rw [ih]
  | swap x y l=>show _+(_+_)=_+(_+_);grind
  | trans _ _ a b=>exact a.trans b
noncomputable def lgP (x:Pce):Nat:=Nat.log2 x.2.natAbs
noncomputable def LG:List Pce→Nat
  | []=>0
  | x::xs=>lgP x+LG xs
theorem qfo (xs ys:List Pce):LG (xs++ys)=LG xs+LG ys:=by
  induction xs with
  | nil=>show LG ys=0+LG ys;omega
  | cons x xs ih=>show lgP x+LG (xs++ys)=(lgP x+LG xs)+LG ys;rw [ih];omega
theorem qli {xs ys:List Pce} (h:xs.Perm ys):LG xs=LG ys:=by
  induction h with
  | nil=>rfl
  | cons x _ ih=>show _+_=_+_;rw [ih]
  | swap x y l=>show _+(_+_)=_+(_+_);omega
  | trans _ _ a b=>exact a.trans b
theorem qg3 {xs:List Pce} {j:Nat} {x:Pce} (h:xs[j]?=some x):xs.Perm (x::xs.eraseIdx j):=by
  induction xs generalizing j with
  | nil=>cases h
  | cons y xs ih=>
    cases j with
    | zero=>cases h;exact .refl _
    | succ j=>exact (List.Perm.cons y (ih h)).trans (.swap x y _)
theorem qiF {a b:Nat} (a0:0<a) (b0:0<b):a.log2+b.log2≤(a*b).log2:=by
  have ab:a*b≠0:=by have:=Nat.mul_pos a0 b0;omega
  rw [Nat.le_log2 ab,Nat.pow_add]
  exact Nat.mul_le_mul ((Nat.le_log2 (by omega)).mp (Nat.le_refl _)) ((Nat.le_log2 (by omega)).mp (Nat.le_refl _))
theorem qiG {a:Nat} (h:2≤a):1≤a.log2:=(Nat.le_log2 (by omega)).mpr h
theorem Mp.pos {o e:Nat→Nat} (ao:At o):∀ k,k≤4→0<Mp o e k
  | 0,_=>Nat.one_pos
  | k+1,h=>Nat.mul_pos (Mp.pos ao k (by omega)) (Nat.pow_pos (ao.1 k (by omega)))
theorem Mp.cop {o e:Nat→Nat} (ao:At o) {j:Nat} (hj:j<4):∀ k,k≤j→Nat.Coprime (Mp o e k) (o j)
  | 0,_=>Nat.coprime_one_left _
  | k+1,h=>Nat.Coprime.mul_left (Mp.cop ao hj k (by omega)) (Nat.Coprime.pow_left _ (ao.2 k j (by omega) hj (by omega)))
theorem qjW {A B p:Nat} (hA:Nat.Coprime A p) (hB:Nat.Coprime B p) (a b:Nat):Nat.gcd (A*p ^ a) (B*p ^ b)=Nat.gcd A B*p ^ min a b:=by
  rcases Nat.le_total a b with h | h
  · obtain ⟨c,rfl⟩:∃ c,b=c+a:=⟨b - a,by omega⟩
    rw [Nat.min_eq_left h,Nat.pow_add,← Nat.mul_assoc,Nat.gcd_mul_right,Nat.Coprime.gcd_mul_right_cancel_right _ (Nat.Coprime.symm (Nat.Coprime.pow_right c hA))]
  · obtain ⟨c,rfl⟩:∃ c,a=c+b:=⟨a - b,by omega⟩
    rw [Nat.min_eq_right h,Nat.pow_add,← Nat.mul_assoc,Nat.gcd_mul_right,Nat.Coprime.gcd_mul_right_cancel _ (Nat.Coprime.symm (Nat.Coprime.pow_right c hB))]
theorem Mp.gcd {o e f:Nat→Nat} (ao:At o):∀ k,k≤4→Nat.gcd (Mp o e k) (Mp o f k)=Mp o (fun i=>min (e i) (f i)) k
  | 0,_=>Nat.gcd_one_left _
  | k+1,h=>by
    show Nat.gcd (Mp o e k*o k ^ e k) (Mp o f k*o k ^ f k)=Mp o _ k*o k ^ min (e k) (f k)
    rw [qjW (Mp.cop ao (by omega) k (Nat.le_refl _)) (Mp.cop ao (by omega) k (Nat.le_refl _)),Mp.gcd ao k (by omega)]
theorem Mp.split {o e f:Nat→Nat} (h:∀ i,f i≤e i):∀ k,Mp o e k=Mp o f k*Mp o (fun i=>e i - f i) k
  | 0=>rfl
  | k+1=>by
    show Mp o e k*o k ^ e k=Mp o f k*o k ^ f k*(Mp o (fun i=>e i - f i) k*o k ^ (e k - f k))
    have:o k ^ e k=o k ^ f k*o k ^ (e k - f k):=by rw [← Nat.pow_add];congr 1;have:=h k;omega
    rw [Mp.split h k,this]
    generalize Mp o f k=a,Mp o (fun i=>e i - f i) k=b,o k ^ f k=c,o k ^ (e k - f k)=d
    grind
theorem Mp.has {o e:Nat→Nat} (ao:At o):∀ k,k≤4→1<Mp o e k→∃ i,i<k∧1<o i∧o i∣Mp o e k
  | 0,_,h=>absurd h (by show ¬ 1<1;omega)
  | k+1,hk,h=>by
    have h:1<Mp o e k*o k ^ e k:=h
    by_cases c:1<Mp o e k
    · obtain ⟨i,hi,h1,h2⟩:=Mp.has ao k (by omega) c
      exact ⟨i,by omega,h1,Nat.dvd_trans h2 (Nat.dvd_mul_right ..)⟩
    · have:Mp o e k=1:=by have:=Mp.pos (e:=e) ao k (by omega);omega
      rw [this,Nat.one_mul] at h
      have o0:=ao.1 k (by omega)
      have e0:e k≠0:=fun z=>by rw [z,Nat.pow_zero] at h;omega
      have o1:o k≠1:=fun z=>by rw [z,Nat.one_pow] at h;omega
      refine ⟨k,by omega,by omega,?_⟩
      show o k∣Mp o e k*o k ^ e k
      obtain ⟨n,hn⟩:∃ n,e k=n+1:=⟨e k - 1,by omega⟩
      rw [hn,Nat.pow_succ]
      exact Nat.dvd_trans (Nat.dvd_mul_left ..) (Nat.dvd_mul_left ..)
theorem Sm.bd {o:Nat→Nat} {w:Int} (h:Sm o w):w.natAbs.log2≤261:=by
  obtain ⟨w0,l,_⟩:=h
  rw [← Nat.lt_succ_iff]
  refine (Nat.log2_lt (by omega)).mpr ?_
  have e:((2 ^ 262:Nat):Int)=(2:Int) ^ 262:=by decide +kernel
  have:((w.natAbs:Nat):Int)<((2 ^ 262:Nat):Int):=by
    rw [e];omega
  exact_mod_cast this
theorem Sm.gcd {o:Nat→Nat} (ao:At o) {x y:Int} (hx:Sm o x) (hy:Sm o y) {g:Int} (hg:((Int.gcd x y:Nat):Int)=g):Sm o (x / g)∧Sm o (y / g)∧Sm o g:=by
  obtain ⟨x0,xl,e,rfl⟩:=hx
  obtain ⟨y0,yl,f,rfl⟩:=hy
  have eg:Int.gcd ((Mp o e 4:Nat):Int) ((Mp o f 4:Nat):Int)=Mp o (fun i=>min (e i) (f i)) 4:=by
    rw [← Mp.gcd ao 4 (Nat.le_refl _)];rfl
  rw [eg] at hg
  subst hg
  have G0:=Mp.pos (e:=fun i=>min (e i) (f i)) ao 4 (Nat.le_refl _)
  have s1:=Mp.split (o:=o) (e:=e) (f:=fun i=>min (e i) (f i)) (fun i=>Nat.min_le_left ..) 4
  have s2:=Mp.split (o:=o) (e:=f) (f:=fun i=>min (e i) (f i)) (fun i=>Nat.min_le_right ..) 4
  have p1:=Mp.pos (e:=fun i=>e i - min (e i) (f i)) ao 4 (Nat.le_refl _)
  have p2:=Mp.pos (e:=fun i=>f i - min (e i) (f i)) ao 4 (Nat.le_refl _)
  have l1:Mp o (fun i=>e i - min (e i) (f i)) 4≤Mp o e 4:=by rw [s1];exact Nat.le_mul_of_pos_left _ G0
  have l2:Mp o (fun i=>f i - min (e i) (f i)) 4≤Mp o f 4:=by rw [s2];exact Nat.le_mul_of_pos_left _ G0
  have l3:Mp o (fun i=>min (e i) (f i)) 4≤Mp o e 4:=by rw [s1];exact Nat.le_mul_of_pos_right _ p1
  have d1:((Mp o e 4:Nat):Int) / ((Mp o (fun i=>min (e i) (f i)) 4:Nat):Int)=((Mp o (fun i=>e i - min (e i) (f i)) 4:Nat):Int):=by
    rw [s1,Int.natCast_mul,Int.mul_ediv_cancel_left _ (by omega)]
  have d2:((Mp o f 4:Nat):Int) / ((Mp o (fun i=>min (e i) (f i)) 4:Nat):Int)=((Mp o (fun i=>f i - min (e i) (f i)) 4:Nat):Int):=by
    rw [s2,Int.natCast_mul,Int.mul_ediv_cancel_left _ (by omega)]
  refine ⟨?_,?_,by omega,by omega,_,rfl⟩
  · rw [d1];exact ⟨by omega,by omega,_,rfl⟩
  · rw [d2];exact ⟨by omega,by omega,_,rfl⟩
theorem qlj {o:Nat→Nat} (ao:At o) {ys:List Pce} (h:∀ y∈ys,1<y.2∧Sm o y.2) (c:ys.Pairwise Cp):ys.length≤8:=by
  refine Classical.byContradiction fun no=>?_
  have ex:∀ i:Nat,∃ j,j<4∧∀ y:Pce,ys[i]?=some y→1<o j∧o j∣y.2.natAbs:=fun i=>by
    cases e:ys[i]? with
    | none=>exact ⟨0,by decide,fun y h=>by cases h⟩
    | some y=>
      obtain ⟨h1,_,_,f,hf⟩:=h y (by obtain ⟨z,e⟩:=List.getElem?_eq_some_iff.mp e;exact e ▸ List.getElem_mem z)
      obtain ⟨j,hj,o1,hd⟩:=Mp.has (o:=o) (e:=f) ao 4 (Nat.le_refl _) (by omega)
      exact ⟨j,hj,fun z hz=>by cases hz;exact ⟨o1,by rw [hf,Int.natAbs_natCast];exact hd⟩⟩
  obtain ⟨i,j,ij,jn,e⟩:=php 4 ys.length (fun i=>Classical.choose (ex i)) (fun i _=>(Classical.choose_spec (ex i)).1) (by omega)
  obtain ⟨_,di⟩:=(Classical.choose_spec (ex i)).2 ys[i] (List.getElem?_eq_getElem (by omega))
  obtain ⟨o1,dj⟩:=(Classical.choose_spec (ex j)).2 ys[j] (List.getElem?_eq_getElem jn)
  have e:Classical.choose (ex i)=Classical.choose (ex j):=e
  rw [e] at di
  generalize Classical.choose (ex j)=n at di dj o1
  have g:Int.gcd ys[i].2 ys[j].2=1:=List.pairwise_iff_getElem.mp c i j (by omega) jn ij
  have d:o n∣Int.gcd ys[i].2 ys[j].2:=Nat.dvd_gcd di dj
  rw [g] at d
  have:=Nat.le_of_dvd (by decide) d
  omega
theorem qeO {o:Nat→Nat} (ao:At o) {x y:Pce} (sx:Sm o x.2) (sy:Sm o y.2) (lx:Low x.1.1 x.1.2) (ly:Low y.1.1 y.1.2) (g:Int) (hg:((Int.gcd x.2 y.2:Nat):Int)=g) :
    Sm o (x.2 / g)∧Sm o (y.2 / g)∧Sm o g∧(∀ p,Pr p→WP p [(x.1,x.2 / g),(y.1,y.2 / g),(nadd x.1 y.1,g)]=WP p [x,y])∧(1<g→LG [(x.1,x.2 / g),(y.1,y.2 / g),(nadd x.1 y.1,g)]+1≤LG [x,y]):=by
  have g0:0<g:=by have:=Int.gcd_pos_of_ne_zero_left y.2 (show x.2≠0 by have:=sx.1;omega);omega
  have d1:g∣x.2:=hg ▸ Int.gcd_dvd_left x.2 y.2
  have d2:g∣y.2:=hg ▸ Int.gcd_dvd_right x.2 y.2
  obtain ⟨s1,s2,s3⟩:=Sm.gcd ao sx sy hg
  have e1:x.2=g*(x.2 / g):=(Int.mul_ediv_cancel' d1).symm
  have e2:y.2=g*(y.2 / g):=(Int.mul_ediv_cancel' d2).symm
  refine ⟨s1,s2,s3,fun p hp=>?_,fun g1=>?_⟩
  · have v1:vpI p x.2=vpI p g+vpI p (x.2 / g):=by rw [← qfP hp g0 s1.1,← e1]
    have v2:vpI p y.2=vpI p g+vpI p (y.2 / g):=by rw [← qfP hp g0 s2.1,← e2]
    show val x.1*(vpI p (x.2 / g):Rat)+(val y.1*(vpI p (y.2 / g):Rat)+(val (nadd x.1 y.1)*(vpI p g:Rat)+0))=val x.1*(vpI p x.2:Rat)+(val y.1*(vpI p y.2:Rat)+0)
    rw [qb4 lx.pos ly.pos,v1,v2]
    push_cast
    grind
  · have l1:(g.natAbs).log2+((x.2 / g).natAbs).log2≤(x.2.natAbs).log2:=by
      have:=qiF (a:=g.natAbs) (b:=(x.2 / g).natAbs) (by omega) (by have:=s1.1;omega)
      rw [← Int.natAbs_mul,← e1] at this;exact this
    have l2:(g.natAbs).log2+((y.2 / g).natAbs).log2≤(y.2.natAbs).log2:=by
      have:=qiF (a:=g.natAbs) (b:=(y.2 / g).natAbs) (by omega) (by have:=s2.1;omega)
      rw [← Int.natAbs_mul,← e2] at this;exact this
    have l3:=qiG (a:=g.natAbs) (by omega)
    show ((x.2 / g).natAbs).log2+(((y.2 / g).natAbs).log2+((g.natAbs).log2+0))+1≤(x.2.natAbs).log2+((y.2.natAbs).log2+0)
    omega
theorem qmR:∀ (k n:Nat),n≤k→1<n→∃ p,Pr p∧p∣n
  | 0,n,h,h1=>by omega
  | k+1,n,h,h1=>by
    by_cases c:∃ d,d∣n∧d≠1∧d≠n
    · obtain ⟨d,hd,d1,dn⟩:=c
      have dl:=Nat.le_of_dvd (by omega) hd
      have d0:d≠0:=fun z=>by rw [z] at hd;have:=Nat.eq_zero_of_zero_dvd hd;omega
      obtain ⟨p,hp,pd⟩:=qmR k d (by omega) (by omega)
      exact ⟨p,hp,Nat.dvd_trans pd hd⟩
    · refine ⟨n,⟨h1,fun d hd=>?_⟩,Nat.dvd_refl n⟩
      by_cases d1:d=1
      · exact .inl d1
      · by_cases dn:d=n
        · exact .inr dn
        · exact absurd ⟨d,hd,d1,dn⟩ c
theorem qlk {w:Int} (h:1<w):∃ p,Pr p∧p∣w.natAbs:=qmR _ w.natAbs (Nat.le_refl _) (by omega)
theorem qjX {K:W.Frag} {tl:TE} {capt:List (Option Nat)} {g:TG} {tc:TT} {te:TE} {σ:L2.St} {H:Hp} {Q:VK} (h:tl σ H (fun x H1=>∃ a,x=.ref a∧(∃ xs,SqL K H1 a xs)∧CompF (Itl K a) capt g tc te σ Q H1)):qfi (qdf K tl) capt g tc te σ H Q:=h
theorem qot {K:W.Frag} {r:V→List V→Hp→VK→Prop} {i:Nat} {w:Addr} {ta:TE} {D:Ends} {σ:L2.St} {H:Hp} (h1:σ[i]?=some (some (.ref w))) (h2:tyV K "list" (.ref w) H) (h:ta σ H fun y H1=>r (.ref w) [y] H1 fun _ H2=>D.nx σ H2):qeX (tBM K "list" r (qai i) (qac ta qaq)) D σ H:=⟨_,h1,h2,h⟩
noncomputable def qdX (x:Pce):PySem.W.Dat:=.tuple [qhh x.1,.int x.2]
theorem qmS {H:Hp} {u:V} {x:Pce} (h:Pc H u x):RepD H u (qdX x):=by
  obtain ⟨a,b,rfl,h1,h2⟩:=h
  exact .tup h1 (.cons (qmB ⟨b,rfl,h2⟩) (.cons (.int _) .nil))
theorem qmT {H:Hp} {us:List V} {xs:List Pce} (h:Al (Pc H) us xs):RepA H us (xs.map qdX):=
  Al.ind (M:=fun us xs=>RepA H us (xs.map qdX)) .nil (fun _ _ _ _ r _ ih=>.cons (qmS r) ih) h
theorem qn5 (x:Pce):PySem.W.kqdOk 8 (qdX x)=true:=by simp [qdX,qhh,PySem.W.kqdOk]
theorem qll {x y:Pce} (h:qdX x=qdX y):x.2=y.2:=by
  unfold qdX at h
  injection h with h
  injection h with _ h
  injection h with h _
  injection h
theorem qfQ {p:Nat} (hp:Pr p):vpI p 1=0:=by
  have p2:=hp.two
  show (if p∣1 then vp p 0 (1 / p)+1 else 0)=0
  rw [if_neg fun h=>by have:=Nat.le_of_dvd (by decide) h;omega]
theorem qiH {α:Type} {l:List α} {x:α} (h:l[l.length - 1]?=some x):l=l.dropLast++[x]:=by
  have ne:l≠[]:=fun z=>by rw [z] at h;cases h
  have e:=List.dropLast_concat_getLast ne
  have:l.getLast ne=x:=by
    rw [List.getLast_eq_getElem]
    exact (List.getElem?_eq_some_iff.mp h).2
  rw [this] at e
  exact e.symm
structure Wc (o:Nat→Nat) (H0 H:Hp) (w f:Addr) (xs:List Pce) (wu:List V) (wx:List Pce) (fu:List V) (fx:List Pce) (t m:Nat):Prop where
  same:Same H0 H
  hw:H w=some (.lst wu)
  aw:Al (Pc H) wu wx
  hf:H f=some (.lst fu)
  af:Al (Pc H) fu fx
  pw:∀ x∈wx,Cz t x.1∧Sm o x.2
  pf:∀ x∈fx,Cz t x.1∧x.1.1≠0∧1<x.2∧Sm o x.2
  cop:fx.Pairwise Cp
  wt:∀ p,Pr p→WP p wx+WP p fx=WP p xs
  ms:m=4*(LG wx+LG fx)+wx.length
  tm:t+m≤200000
theorem qkm {fx:List Pce} (h:∀ x∈fx,1<x.2):fx.length≤LG fx:=by
  induction fx with
  | nil=>exact Nat.le_refl _
  | cons x fx ih=>
    have h1:=qiG (a:=x.2.natAbs) (by have:=h x (List.mem_cons_self ..);omega)
    have h2:=ih fun y hy=>h y (List.mem_cons_of_mem _ hy)
    show fx.length+1≤(x.2.natAbs).log2+LG fx
    omega
theorem qnI {o:Nat→Nat} {xs:List Pce} (h:∀ x∈xs,Sm o x.2):LG xs≤262*xs.length:=by
  induction xs with
  | nil=>exact Nat.le_refl _
  | cons x xs ih=>
    have h1:=(h x (List.mem_cons_self ..)).bd
    have h2:=ih fun y hy=>h y (List.mem_cons_of_mem _ hy)
    show (x.2.natAbs).log2+LG xs≤262*(xs.length+1)
    omega
theorem qcM (h:qaN K vs H Q E):qc2 K { nx:=fun _ H'=>Q .non H',rt:=Q } (L2.start ["pieces", "waiting", "found", "piece", "met"] vs) H:=by
  obtain ⟨a,us,xs,o,rfl,ha,hA,ao,hx,l48,k⟩:=h
  refine qa6 (qdW ⟨_,rfl,a,us,rfl,ha,fun w hw'=>?_⟩)
  have s1:=qag hw' (HO.lst us)
  have hww:upd H w (HO.lst us) w=some (.lst us):=qad
  show qbr K _ [some (.ref a),some (.ref w),none,none,none] _
  generalize upd H w (HO.lst us)=H1 at s1 hww ⊢
  refine qa6 ⟨qn4,fun f hf'=>?_⟩
  have s2:=qag hf' (HO.lst [])
  have hff:upd H1 f (HO.lst []) f=some (.lst []):=qad
  have wf:w≠f:=qak hww hf'
  have hww:=s2 _ _ hww
  have fN:H f=none:=by
    cases e:H f with
    | none=>rfl
    | some o=>have:=s1 _ _ e;rw [hf'] at this;cases this
  have s12:=s1.trans s2
  show qbq K _ [some (.ref a),some (.ref w),some (.ref f),none,none] _
  generalize upd H1 f (HO.lst [])=H2 at s2 hff hww s12 ⊢
  have m0:4*(LG xs+LG [])+xs.length≤100000:=by
    have:=qnI fun x h=>(hx x h).2
    show 4*(LG xs+0)+xs.length≤_
    omega
  refine while_by (fun m σ H'=>∃ (wu:List V) (wx:List Pce) (fu:List V) (fx:List Pce) (t:Nat) (o3 o4:Option V),σ=[some (.ref a),some (.ref w),some (.ref f),o3,o4]∧Wc o H H' w f xs wu wx fu fx t m) _
    ⟨us,xs,[],[],81,none,none,rfl,s12,hww,hA.mono fun _ _ h=>h.tp (tpS s12),hff,trivial,fun x h=>hx x h,(fun _ h=>nomatch h),.nil,fun p _=>by show WP p xs+0=_;grind,rfl,by omega⟩ ?_
  rintro m σ H3 ⟨wu,wx,fu,fx,t,o3,o4,rfl,W⟩
  refine ⟨_,rfl,w,wu,rfl,W.hw,qbJ (fun c=>?_) (fun c=>?_)⟩
  · -- one more
    have wl:=W.aw.length
    have ne:0<wu.length:=by
      cases wu with
      | nil=>cases c
      | cons _ _=>exact Nat.succ_pos _
    have hu:wu[wu.length - 1]?=some (wu[wu.length - 1]'(by omega)):=List.getElem?_eq_getElem (by omega)
    generalize wu[wu.length - 1]'(by omega)=u at hu
    obtain ⟨x,hx',pu⟩:=W.aw.get hu
    rw [wl] at hx'
    have ew:=qiH hx'
    have xm:x∈wx:=by rw [ew];exact List.mem_append_right _ (List.mem_singleton_self _)
    obtain ⟨cx,sx⟩:=W.pw x xm
    refine ⟨_,fun _ _ h=>h,?_⟩
    show qbg K _ _ _
    refine qa6 ⟨_,rfl,qcH W.hw,w,wu,u,rfl,rfl,W.hw,hu,?_⟩
    have tp1:Tp H3 (upd H3 w (HO.lst wu.dropLast)):=Tp.updL W.hw
    have h1w:upd H3 w (HO.lst wu.dropLast) w=some (.lst wu.dropLast):=qad
    have h1f:upd H3 w (HO.lst wu.dropLast) f=_:=(qal wf.symm).trans W.hf
    have h1s:Same H (upd H3 w (HO.lst wu.dropLast)):=fun b o hb=>Kp.upd b o (qak hb hw') (W.same b o hb)
    have a1w:=W.aw.dropLast.mono fun _ _ h=>h.tp tp1
    have a1f:=W.af.mono fun _ _ h=>h.tp tp1
    have pu1:=pu.tp tp1
    have lw1:wx.length=wx.dropLast.length+1:=by rw [List.length_dropLast];omega
    have lg1:LG wx=LG wx.dropLast+lgP x:=by
      have:=congrArg LG ew
      rw [qfo] at this
      rw [this];show _+(lgP x+0)=_;omega
    have wt1:∀ p,Pr p→WP p wx=WP p wx.dropLast+val x.1*(vpI p x.2:Rat):=fun p _=>by
      have:=congrArg (WP p) ew
      rw [qgp] at this
      rw [this];show _+(_+0)=_;grind
    have pw1:∀ y∈wx.dropLast,Cz t y.1∧Sm o y.2:=fun y hy=>W.pw y (by rw [ew];exact List.mem_append_left _ hy)
    show qbf K _ [some (.ref a),some (.ref w),some (.ref f),some u,o4] _
    generalize upd H3 w (HO.lst wu.dropLast)=H4 at tp1 h1w h1f h1s a1w a1f pu1 ⊢
    obtain ⟨pa,pb,rfl,hpa,hpb⟩:=id pu1
    have skip:(∀ p,Pr p→val x.1*(vpI p x.2:Rat)=0)→∃ m',m'<m∧∃ (wu:List V) (wx:List Pce) (fu:List V) (fx:List Pce) (t:Nat) (p3 p4:Option V),[some (.ref a),some (.ref w),some (.ref f),some (.ref pa),o4]=[some (.ref a),some (.ref w),some (.ref f),p3,p4]∧Wc o H H4 w f xs wu wx fu fx t m':=fun z=>by
      have ms:=W.ms
      have tm:=W.tm
      refine ⟨4*(LG wx.dropLast+LG fx)+wx.dropLast.length,by omega,wu.dropLast,wx.dropLast,fu,fx,t,_,_,rfl,h1s,h1w,a1w,h1f,a1f,pw1,W.pf,W.cop,fun p hp=>?_,rfl,by omega⟩
      rw [← W.wt p hp,wt1 p hp,z p hp];grind
    refine ⟨_,rfl,_,_,_,_,rfl,rfl,hpa,rfl,_,_,_,_,rfl,rfl,hpb,rfl,rfl,_,rfl,qbJ (fun c1=>?_) (fun c1=>?_)⟩
    · have c1:x.1.1≠0:=fun z=>by
        have c1:(!decide (V.int x.1.1=V.int 0))=true:=c1
        rw [z] at c1;simp at c1
      refine ⟨_,rfl,_,_,_,_,rfl,rfl,hpa,rfl,_,_,rfl,rfl,_,rfl,qbJ (fun c2=>?_) (fun c2=>?_)⟩
      · have c2:x.2 > 1:=of_decide_eq_true c2
        show qbe K _ _ _
        have fl:=a1f.length
        refine qa6 (qjX ⟨_,rfl,f,rfl,⟨_,SqL.of h1f⟩,CompF.lst (xs:=fu) (fun i ys H'=>i≤fu.length∧H'=H4∧ys.length≤i∧((ys=[]∧∀ n y,n<i→fx[n]?=some y→Int.gcd x.2 y.2=1)∨∃ (j:Nat) (v:V) (y:Pce),j<i∧ys[0]?=some v∧fu[j]?=some v∧fx[j]?=some y∧1<Int.gcd x.2 y.2∧∀ n z,n<j→fx[n]?=some z→Int.gcd x.2 z.2=1)) ⟨Nat.zero_le _,rfl,Nat.le_refl _,.inl ⟨rfl,fun n y h=>by omega⟩⟩ ?_ ?_ ?_⟩)
        · rintro i ys H' ⟨hi,rfl,yl,_⟩
          have fl2:=qkm fun y h=>(W.pf y h).2.2.1
          have ms:=W.ms
          have tm:=W.tm
          exact ⟨hi,sz (by omega),SqL.of h1f⟩
        · rintro i v ys H' hv ⟨hi,rfl,yl,st⟩
          obtain ⟨y,hy,pv⟩:=a1f.get hv
          obtain ⟨va,vb,rfl,hva,hvb⟩:=id pv
          have il:=(List.getElem?_eq_some_iff.mp hv).1
          refine qa5 ⟨_,rfl,_,_,_,_,rfl,rfl,hpa,rfl,_,rfl,_,_,_,_,rfl,rfl,hva,rfl,x.2,y.2,rfl,_,_,rfl,rfl,_,rfl,qbJ (fun c3=>?_) (fun c3=>?_)⟩
          · have c3:((Int.gcd x.2 y.2:Nat):Int) > 1:=of_decide_eq_true c3
            refine ⟨_,rfl,il,rfl,by rw [List.length_append];exact Nat.succ_le_succ yl,.inr ?_⟩
            rcases st with ⟨rfl,no⟩ | ⟨j,v',y',h1,h2,h3⟩
            · exact ⟨i,_,y,Nat.lt_succ_self _,rfl,hv,hy,by omega,no⟩
            · refine ⟨j,v',y',by omega,?_,h3⟩
              rw [List.getElem?_append_left (List.getElem?_eq_some_iff.mp h2).1];exact h2
          · have c3:¬ ((Int.gcd x.2 y.2:Nat):Int) > 1:=fun z=>c3 (decide_eq_true z)
            have g1:Int.gcd x.2 y.2=1:=by
              have:=Int.gcd_pos_of_ne_zero_left y.2 (show x.2≠0 by omega)
              omega
            refine ⟨il,rfl,by omega,?_⟩
            rcases st with ⟨rfl,no⟩ | ⟨j,v',y',h1,h2⟩
            · refine .inl ⟨rfl,fun n z hn hz=>?_⟩
              rcases Nat.lt_succ_iff_lt_or_eq.mp hn with hn | hn
              · exact no n z hn hz
              · rw [hn,hy] at hz;cases hz;exact g1
            · exact .inr ⟨j,v',y',by omega,h2⟩
        · rintro ys H' ⟨_,rfl,yl,st⟩ q hq
          have sq:=qag hq (HO.lst ys)
          have hqq:upd H' q (HO.lst ys) q=some (.lst ys):=qad
          have h5w:=sq _ _ h1w
          have h5f:=sq _ _ h1f
          have h5s:=h1s.trans sq
          have a5w:=a1w.mono fun _ _ h=>h.tp (tpS sq)
          have a5f:=a1f.mono fun _ _ h=>h.tp (tpS sq)
          have pu5:=pu1.tp (tpS sq)
          have qf:q≠f:=(qak h1f hq).symm
          have ms:=W.ms
          have tm:=W.tm
          have fl2:=qkm fun y h=>(W.pf y h).2.2.1
          have wl2:wu.dropLast.length=wx.dropLast.length:=a1w.length
          show qbd K _ [some (.ref a),some (.ref w),some (.ref f),some (.ref pa),some (.ref q)] _
          generalize upd H' q (HO.lst ys)=H5 at sq hqq h5w h5f h5s a5w a5f pu5 ⊢
          refine ⟨_,rfl,q,ys,rfl,hqq,qbJ (fun c3=>?_) (fun c3=>?_)⟩
          · obtain ⟨j,v,y,jl,y0,fj,xj,g1,first⟩:=st.resolve_left fun z=>by rw [z.1] at c3;cases c3
            obtain ⟨y',hy',pv⟩:=a5f.get fj
            rw [xj] at hy';cases hy'
            have ym:y∈fx:=by obtain ⟨z,e⟩:=List.getElem?_eq_some_iff.mp xj;exact e ▸ List.getElem_mem z
            obtain ⟨cy,yn,y1,sy⟩:=W.pf y ym
            show qbc K _ _ _
            refine ⟨_,rfl,qcH h5f,_,rfl,_,_,_,v,rfl,rfl,hqq,qig (j:=0) rfl y0,f,fu,v,qdX y,fx.map qdX,j,rfl,rfl,h5f,qmS pv,qmT a5f,qn5 y,fun e he=>?_,by rw [List.getElem?_map,xj];rfl,fun i e hi he z=>?_,?_⟩
            · obtain ⟨z,_,rfl⟩:=List.mem_map.mp he;exact qn5 z
            · rw [List.getElem?_map] at he
              cases e2:fx[i]? with
              | none=>rw [e2] at he;cases he
              | some z2=>
                rw [e2] at he
                cases he
                have:=first i z2 hi e2
                rw [qll z] at this
                omega
            have tp6:Tp H5 (upd H5 f (HO.lst (fu.eraseIdx j))):=Tp.updL h5f
            have h6f:upd H5 f (HO.lst (fu.eraseIdx j)) f=some (.lst (fu.eraseIdx j)):=qad
            have h6w:upd H5 f (HO.lst (fu.eraseIdx j)) w=_:=(qal wf).trans h5w
            have h6q:upd H5 f (HO.lst (fu.eraseIdx j)) q=_:=(qal qf).trans hqq
            have h6s:Same H (upd H5 f (HO.lst (fu.eraseIdx j))):=fun b o hb=>Kp.upd b o (qak hb fN) (h5s b o hb)
            have a6w:=a5w.mono fun _ _ h=>h.tp tp6
            have a6f:=(a5f.erase j).mono fun _ _ h=>h.tp tp6
            have pu6:=pu5.tp tp6
            have pv6:=pv.tp tp6
            show qbb K _ _ _
            generalize upd H5 f (HO.lst (fu.eraseIdx j))=H6 at tp6 h6f h6w h6q h6s a6w a6f pu6 pv6 ⊢
            obtain ⟨s1',s2',s3',wp3,lg3⟩:=qeO ao sx sy cx.1 cy.1 _ rfl
            have lg3:=lg3 (by omega)
            refine qot rfl (qcH h6w) (qa5 ⟨_,rfl,_,rfl,_,_,_,v,rfl,rfl,h6q,qig (j:=0) rfl y0,.ref pa,v,x,y,t,rfl,pu6,pv6,cx,cy,by omega,sx.1,sy.1,fun r us3 H7 s7 rN hr3 a3=>?_⟩)
            have l3:=a3.length
            have l3:us3.length=3:=l3
            refine ⟨w,r,_,us3,rfl,rfl,s7 _ _ h6w,hr3,sz (by omega),?_⟩
            have h7w:=s7 _ _ h6w
            have tp8:Tp H7 (upd H7 w (HO.lst (wu.dropLast++us3))):=Tp.updL h7w
            have pe:=qg3 xj
            have lge:LG fx=lgP y+LG (fx.eraseIdx j):=qli pe
            generalize ((Int.gcd x.2 y.2:Nat):Int)=g at s1' s2' s3' wp3 lg3 a3
            have lgx:LG [x,y]=lgP x+lgP y:=by show lgP x+(lgP y+0)=_;omega
            refine ⟨4*(LG (wx.dropLast++[(x.1,x.2 / g),(y.1,y.2 / g),(nadd x.1 y.1,g)])+LG (fx.eraseIdx j))+(wx.dropLast++[(x.1,x.2 / g),(y.1,y.2 / g),(nadd x.1 y.1,g)]).length,?_,_,_,fu.eraseIdx j,fx.eraseIdx j,t+1,_,_,rfl,fun b o hb=>Kp.upd b o (qak hb hw') (s7 b o (h6s b o hb)),qad,((a6w.mono fun _ _ h=>h.tp (tpS s7)).append a3).mono fun _ _ h=>h.tp tp8,(qal wf.symm).trans (s7 _ _ h6f),(a6f.mono fun _ _ h=>h.tp (tpS s7)).mono fun _ _ h=>h.tp tp8,fun z hz=>?_,fun z hz=>?_,?_,fun p hp=>?_,rfl,?_⟩
            · rw [qfo,List.length_append]
              show 4*_+(_+3)<m
              omega
            · rcases List.mem_append.mp hz with h | h
              · exact ⟨(pw1 z h).1.mono (by omega),(pw1 z h).2⟩
              · rcases List.mem_cons.mp h with rfl | h
                · exact ⟨cx.mono (by omega),s1'⟩
                · rcases List.mem_cons.mp h with rfl | h
                  · exact ⟨cy.mono (by omega),s2'⟩
                  · rw [List.mem_singleton.mp h];exact ⟨cx.add cy,s3'⟩
            · obtain ⟨h1,h2⟩:=W.pf z (pe.mem_iff.mpr (List.mem_cons_of_mem _ hz))
              exact ⟨h1.mono (by omega),h2⟩
            · exact W.cop.sublist (List.eraseIdx_sublist ..)
            · rw [← W.wt p hp,wt1 p hp,qgp,wp3 p hp,qiE p pe]
              show WP p wx.dropLast+(val x.1*(vpI p x.2:Rat)+(val y.1*(vpI p y.2:Rat)+0))+WP p (fx.eraseIdx j)=WP p wx.dropLast+val x.1*(vpI p x.2:Rat)+(val y.1*(vpI p y.2:Rat)+WP p (fx.eraseIdx j))
              grind
            · rw [qfo,List.length_append]
              show t+1+(4*_+(_+3))≤_
              omega
          · have no:∀ n y,n<fu.length→fx[n]?=some y→Int.gcd x.2 y.2=1:=by
              rcases st with ⟨_,no⟩ | ⟨j,v,y,h1,h2,_⟩
              · exact no
              · cases ys with
                | nil=>cases h2
                | cons _ _=>exact absurd rfl c3
            refine ⟨_,rfl,qcH h5f,_,rfl,f,fu,_,rfl,rfl,h5f,sz (by omega),?_⟩
            have tp8:Tp H5 (upd H5 f (HO.lst (fu++[V.ref pa]))):=Tp.updL h5f
            refine ⟨4*(LG wx.dropLast+LG (fx++[x]))+wx.dropLast.length,?_,wu.dropLast,wx.dropLast,fu++[.ref pa],fx++[x],t,_,_,rfl,fun b o hb=>Kp.upd b o (qak hb fN) (h5s b o hb),(qal wf).trans h5w,a5w.mono fun _ _ h=>h.tp tp8,qad,(a5f.snoc pu5).mono fun _ _ h=>h.tp tp8,pw1,fun z hz=>?_,?_,fun p hp=>?_,rfl,?_⟩
            · rw [qfo]
              show 4*(_+(_+(lgP x+0)))+_<m
              omega
            · rcases List.mem_append.mp hz with h | h
              · exact W.pf z h
              · rw [List.mem_singleton.mp h];exact ⟨cx,c1,c2,sx⟩
            · refine List.pairwise_append.mpr ⟨W.cop,List.pairwise_singleton ..,fun y hy z hz=>?_⟩
              rw [List.mem_singleton.mp hz]
              obtain ⟨i,hi,e⟩:=List.getElem_of_mem hy
              show Int.gcd y.2 x.2=1
              rw [Int.gcd_comm]
              exact no i y (by omega) (by rw [List.getElem?_eq_getElem hi,e])
            · rw [← W.wt p hp,wt1 p hp,qgp]
              show _+(_+(val x.1*(vpI p x.2:Rat)+0))=_
              grind
            · rw [qfo]
              show t+(4*(_+(_+(lgP x+0)))+_)≤_
              omega
      · exact skip fun p hp=>by
          have c2:¬ x.2 > 1:=fun z=>c2 (decide_eq_true z)
          have:=sx.1
          rw [show x.2=1 by omega,qfQ hp]
          push_cast;grind
    · exact skip fun p hp=>by
        have z:x.1.1=0:=by
          by_cases z:x.1.1=0
          · exact z
          · exact absurd (show (!decide (V.int x.1.1=V.int 0))=true by simp [z]) c1
        have:val x.1=0:=by unfold val;rw [z,show ((0:Int):Rat)=0 from rfl];grind
        rw [this];grind
  · have wn:wu=[]:=by
      cases wu with
      | nil=>rfl
      | cons _ _=>exact absurd rfl c
    have wn2:wx=[]:=List.length_eq_zero_iff.mp (by rw [← W.aw.length,wn];rfl)
    have tm:=W.tm
    refine ⟨_,rfl,k f fu fx H3 W.same W.hf W.af (fun y hy=>?_) W.cop fun p hp=>?_⟩
    · obtain ⟨h1,h2⟩:=W.pf y hy
      exact ⟨h1.mono (by omega),h2⟩
    · rw [← W.wt p hp,wn2];show _=0+_;grind
theorem qnJ {T:List (Pce×V)} {R:V→Pce→Prop} (h:∀ t∈T,R t.2 t.1):Al R (T.map (·.2)) (T.map (·.1)):=by
  induction T with
  | nil=>trivial
  | cons t T ih=>exact ⟨h t (List.mem_cons_self ..),ih fun u hu=>h u (List.mem_cons_of_mem _ hu)⟩
theorem qmU {R:V→Pce→Prop} {us:List V} {xs:List Pce} (a:Al R us xs):(∀ t∈xs.zip us,R t.2 t.1)∧(xs.map (·.2)).zip us=(xs.zip us).map (fun t=>(t.1.2,t.2))∧(xs.zip us).map (·.1)=xs:=
  Al.ind (M:=fun us xs=>(∀ t∈xs.zip us,R t.2 t.1)∧(xs.map (·.2)).zip us=(xs.zip us).map (fun t=>(t.1.2,t.2))∧(xs.zip us).map (·.1)=xs) ⟨(fun _ h=>nomatch h),rfl,rfl⟩ (fun u x us xs r _ ⟨h1,h2,h3⟩=>by
    refine ⟨fun t ht=>?_,?_,?_⟩
    · rcases List.mem_cons.mp ht with rfl | ht
      · exact r
      · exact h1 t ht
    · rw [List.map_cons,List.zip_cons_cons,List.zip_cons_cons,List.map_cons,h2]
    · rw [List.zip_cons_cons,List.map_cons,h3]) a
theorem qlm {p:Nat} {xs:List (Nu×Nu)} (h:∀ x∈xs,Cz 80 x.1):WP p ((xs.map fun x=>(x.1,x.2.1))++xs.map fun x=>(nmul x.1 (-1,1),x.2.2))=WR p xs:=by
  rw [qgp]
  induction xs with
  | nil=>show (0:Rat)+0=0;grind
  | cons x xs ih=>
    have ih:=ih fun y hy=>h y (List.mem_cons_of_mem _ hy)
    have v:=(h x (List.mem_cons_self ..)).neg.2
    show (val x.1*(vpI p x.2.1:Rat)+WP p (xs.map fun x=>(x.1,x.2.1)))+(val (nmul x.1 (-1,1))*(vpI p x.2.2:Rat)+WP p (xs.map fun x=>(nmul x.1 (-1,1),x.2.2)))=val x.1*((vpI p x.2.1:Rat) - (vpI p x.2.2:Rat))+WR p xs
    rw [v,← ih];grind
theorem qjY {hit:Array Value→Addr→Prop} {code:Addr→Heap→Prop} {P:Addr} {te:TE} {σ:L2.St} {H:Hp} {Q:VK} (h:te σ H fun x H1=>∃ (l:Addr) (us:List V) (kz:List Int),x=.ref l∧H1 l=some (.lst us)∧us.length<64∧qmx H1 us kz∧TabOk hit code P H1∧∀ (r:Addr) (qs:List (Int×V)) (H2:Hp),H1 r=none→qs.Perm (kz.zip us)→qs.Pairwise (fun p q=>p.1≤q.1)→Kp P H1 H2→TabOk hit code P H2→H2 r=some (.lst (qs.map (·.2)))→Q (.ref r) H2):qeD hit code P te σ H Q:=h
theorem qcN (h:qan K vs H Q E):qc1 K { nx:=fun _ H'=>Q .non H',rt:=Q } (L2.start ["q", "rows", "pieces", "found"] vs) H:=by
  obtain ⟨v,a,us,xs,o,rfl,ha,hA,ao,hx,l24,hT,k⟩:=h
  have lu:=hA.length
  refine qa6 (qfI (qeI ⟨_,rfl,a,rfl,⟨_,SqL.of ha⟩,CompJ.lst (xs:=us) (fun i ys H'=>i≤us.length∧Same H H'∧ys.length=i∧Al (Pc H') ys ((xs.take i).map fun x=>(x.1,x.2.1))) ⟨Nat.zero_le _,Same.refl H,rfl,by rw [List.take_zero];trivial⟩ ?_ ?_ ?_⟩))
  · rintro i ys H' ⟨hi,s1,yl,_⟩
    exact ⟨hi,sz (by omega),SqL.of (s1 _ _ ha)⟩
  · rintro i u ys H' hu ⟨hi,s1,yl,al⟩
    obtain ⟨x,hx',b,c,d,rfl,h1,h2,h3⟩:=hA.get hu
    have il:=(List.getElem?_eq_some_iff.mp hu).1
    have tk:xs.take (i+1)=xs.take i++[x]:=by rw [List.take_add_one,hx'];rfl
    refine ⟨b,_,rfl,s1 _ _ h1,rfl,_,_,rfl,_,_,rfl,rfl,?_⟩
    show qbh _ [some (.ref c),some (.ref d)] _ _
    refine qaB ⟨_,rfl,_,rfl,_,_,_,_,rfl,rfl,s1 _ _ h3,rfl,qb5,fun p hp=>?_⟩
    have sp:=qag hp (HO.tup [V.ref c,V.int x.2.1])
    refine ⟨il,s1.trans sp,by rw [List.length_append,yl];rfl,?_⟩
    rw [tk,List.map_append]
    exact (al.mono fun _ _ h=>h.tp (tpS sp)).snoc ⟨p,c,rfl,qad,sp _ _ (s1 _ _ h2)⟩
  rintro ys1 H1 ⟨_,s1,yl1,al1⟩ p1 hp1
  rw [lu,List.take_length] at al1
  have sp1:=qag hp1 (HO.lst ys1)
  have h11:upd H1 p1 (HO.lst ys1) p1=some (.lst ys1):=qad
  have s1p:=s1.trans sp1
  have al1:=al1.mono fun _ _ h=>h.tp (tpS sp1)
  show qbC _ _ _ _ _ _ _
  generalize upd H1 p1 (HO.lst ys1)=H2 at sp1 h11 s1p al1 ⊢
  refine qeI ⟨_,rfl,a,rfl,⟨_,SqL.of (s1p _ _ ha)⟩,CompJ.lst (xs:=us) (fun i ys H'=>i≤us.length∧Same H2 H'∧ys.length=i∧Al (Pc H') ys ((xs.take i).map fun x=>(nmul x.1 (-1,1),x.2.2))) ⟨Nat.zero_le _,Same.refl _,rfl,by rw [List.take_zero];trivial⟩ ?_ ?_ ?_⟩
  · rintro i ys H' ⟨hi,s2,yl,_⟩
    exact ⟨hi,sz (by omega),SqL.of (s2 _ _ (s1p _ _ ha))⟩
  · rintro i u ys H' hu ⟨hi,s2,yl,al⟩
    obtain ⟨x,hx',b,c,d,rfl,h1,h2,h3⟩:=hA.get hu
    have il:=(List.getElem?_eq_some_iff.mp hu).1
    have xm:x∈xs:=by obtain ⟨z,e⟩:=List.getElem?_eq_some_iff.mp hx';exact e ▸ List.getElem_mem z
    have cx:=(hx x xm).1
    obtain ⟨b1,b2⟩:=cx.bd
    have tk:xs.take (i+1)=xs.take i++[x]:=by rw [List.take_add_one,hx'];rfl
    have s02:=s1p.trans s2
    refine ⟨b,_,rfl,s02 _ _ h1,rfl,_,_,rfl,_,_,rfl,rfl,?_⟩
    show qbh _ [some (.ref c),some (.ref d)] _ _
    refine qaB (qa5 ⟨_,rfl,qaB ⟨_,rfl,qb5,fun p hp=>?_⟩⟩)
    have sp:=qag hp (HO.tup [V.int (-1),V.int 1])
    have hpp:upd H' p (HO.tup [V.int (-1),V.int 1]) p=_:=qad
    have s03:=s02.trans sp
    show qbT nmul K _ _ _ _
    generalize upd H' p (HO.tup [V.int (-1),V.int 1])=H3 at sp hpp s03 ⊢
    refine ⟨c,p,x.1.1,x.1.2,-1,1,rfl,s03 _ _ h2,hpp,cx.1.pos,by decide,b1.mono (by decide),b2.mono (by decide),(show Bd 1 (-1) by unfold Bd;decide).mono (by decide),(show Bd 1 1 by unfold Bd;decide).mono (by decide),fun r hr=>?_⟩
    have sr:=qag hr (HO.tup [V.int (nmul (x.1.1,x.1.2) (-1,1)).1,V.int (nmul (x.1.1,x.1.2) (-1,1)).2])
    have hrr:upd H3 r (HO.tup [V.int (nmul (x.1.1,x.1.2) (-1,1)).1,V.int (nmul (x.1.1,x.1.2) (-1,1)).2]) r=_:=qad
    show ∃ _,_
    generalize upd H3 r (HO.tup [V.int (nmul (x.1.1,x.1.2) (-1,1)).1,V.int (nmul (x.1.1,x.1.2) (-1,1)).2])=H4 at sr hrr ⊢
    refine ⟨_,rfl,_,_,_,_,rfl,rfl,(s03.trans sr) _ _ h3,rfl,qb5,fun q hq=>?_⟩
    have sq:=qag hq (HO.tup [V.ref r,V.int x.2.2])
    have sa:=sp.trans (sr.trans sq)
    refine ⟨il,s2.trans sa,by rw [List.length_append,yl];rfl,?_⟩
    rw [tk,List.map_append]
    exact (al.mono fun _ _ h=>h.tp (tpS sa)).snoc ⟨q,r,rfl,qad,sq _ _ hrr⟩
  rintro ys2 H3 ⟨_,s2,yl2,al2⟩ p2 hp2
  rw [lu,List.take_length] at al2
  have sp2:=qag hp2 (HO.lst ys2)
  have h22:upd H3 p2 (HO.lst ys2) p2=some (.lst ys2):=qad
  have s23:=s2.trans sp2
  have al2:=al2.mono fun _ _ h=>h.tp (tpS sp2)
  have al1:=al1.mono fun _ _ h=>h.tp (tpS s23)
  show qjn _ _ _ _
  generalize upd H3 p2 (HO.lst ys2)=H4 at sp2 h22 s23 al1 al2 ⊢
  refine ⟨p1,p2,ys1,ys2,rfl,rfl,s23 _ _ h11,h22,sz (by omega),fun p3 hp3=>?_⟩
  have sp3:=qag hp3 (HO.lst (ys1++ys2))
  have h33:upd H4 p3 (HO.lst (ys1++ys2)) p3=some (.lst (ys1++ys2)):=qad
  have s05:=(s1p.trans s23).trans sp3
  have alA:=(al1.append al2).mono fun _ _ h=>h.tp (tpS sp3)
  have wr:=fun p=>qlm (p:=p) fun x hx'=>(hx x hx').1
  show qbp K _ _ _
  generalize upd H4 p3 (HO.lst (ys1++ys2))=H5 at sp3 h33 s05 alA ⊢
  show qaG (qaY (qeD qit qfL qcj _) _) _ _ _ _
  refine qa6 (qjY (qgY ⟨_,rfl,p3,_,_,o,rfl,h33,alA,ao,fun x h=>?_,?_,fun r ws ys H6 s6 hr aw py cop wt=>?_⟩))
  · rcases List.mem_append.mp h with h | h
    · obtain ⟨z,hz,rfl⟩:=List.mem_map.mp h
      exact ⟨(hx z hz).1.mono (by decide),(hx z hz).2.1⟩
    · obtain ⟨z,hz,rfl⟩:=List.mem_map.mp h
      exact ⟨(hx z hz).1.neg.1.mono (by decide),(hx z hz).2.2⟩
  · rw [List.length_append,List.length_map,List.length_map];omega
  have l8:=qlj ao (fun y h=>(py y h).2.2) cop
  have wl:=aw.length
  have s06:=s05.trans s6
  obtain ⟨z1,z2,z3⟩:=qmU aw
  refine ⟨r,ws,ys.map (·.2),rfl,hr,by omega,⟨by rw [List.length_map];exact wl.symm,fun i u n hu hn=>?_⟩,TabOk.same hT s06,fun r7 qs H7 r7N pm srt k7 t7 h77=>?_⟩
  · obtain ⟨y,hy,a',b',rfl,h1,_⟩:=aw.get hu
    rw [List.getElem?_map,hy] at hn
    cases hn
    exact ⟨a',_,rfl,h1⟩
  obtain ⟨T',pT,eT⟩:=qf9 pm _ z2
  have tp7:Tp H6 H7:=fun b xs e=>k7 b _ ((TabOk.same hT s06).ne (.inl e)) e
  have k07:Kp qcj H H7:=fun b o hb e=>k7 b o hb (s06 b o e)
  show qbo K _ _ _
  have eq2:qs.map (·.2)=T'.map (·.2):=by rw [eT,List.map_map];rfl
  have a7:Al (Pc H7) (qs.map (·.2)) (T'.map (·.1)):=by
    rw [eq2]
    exact qnJ fun t ht=>(z1 t (pT.mem_iff.mp ht)).tp tp7
  have pY:(T'.map (·.1)).Perm ys:=by
    have:=pT.map (fun t:Pce×V=>t.1)
    rw [z3] at this;exact this
  have srt':(T'.map (·.1)).Pairwise (fun x y=>x.2≤y.2):=by
    rw [eT,List.pairwise_map] at srt
    rw [List.pairwise_map];exact srt
  generalize T'.map (·.1)=zs at a7 pY srt'
  generalize qs.map (·.2)=us7 at h77 a7
  have lz:=a7.length
  have lp:=pY.length_eq
  refine qcv (qaB ⟨_,rfl,qdW (qeI ⟨_,rfl,r7,rfl,⟨_,SqL.of h77⟩,CompJ.lst (xs:=us7) (fun i ts H'=>i≤us7.length∧Same H7 H'∧ts.length=i∧Al (Rw H') ts ((zs.take i).map fun y=>(y.1,(y.2,1)))) ⟨Nat.zero_le _,Same.refl _,rfl,by rw [List.take_zero];trivial⟩ ?_ ?_ ?_⟩)⟩)
  · rintro i ts H' ⟨hi,s8,tl,_⟩
    exact ⟨hi,sz (by omega),SqL.of (s8 _ _ h77)⟩
  · rintro i u ts H' hu ⟨hi,s8,tl,al⟩
    obtain ⟨y,hy,b,c,rfl,h1,h2⟩:=a7.get hu
    have il:=(List.getElem?_eq_some_iff.mp hu).1
    have tk:zs.take (i+1)=zs.take i++[y]:=by rw [List.take_add_one,hy];rfl
    refine ⟨b,_,rfl,s8 _ _ h1,rfl,_,_,rfl,_,_,rfl,rfl,?_⟩
    show qbh _ [some (.ref c),some (.int y.2)] _ _
    refine qaB ⟨_,rfl,qaB ⟨_,rfl,qb5,fun p hp=>?_⟩⟩
    have sp:=qag hp (HO.tup [V.int y.2,V.int 1])
    have hpp:upd H' p (HO.tup [V.int y.2,V.int 1]) p=_:=qad
    refine ⟨qb5,fun q hq=>?_⟩
    have sq:=qag hq (HO.tup [V.ref c,V.ref p])
    have sa:=sp.trans sq
    refine ⟨il,s8.trans sa,by rw [List.length_append,tl];rfl,?_⟩
    rw [tk,List.map_append]
    exact (al.mono fun _ _ h=>h.tp (tpS sa)).snoc ⟨q,c,p,rfl,qad,(s8.trans sa) _ _ h2,sq _ _ hpp⟩
  · rintro ts H8 ⟨_,s8,tl,al8⟩ p8 hp8
    rw [lz,List.take_length] at al8
    have sp8:=qag hp8 (HO.lst ts)
    have h88:upd H8 p8 (HO.lst ts) p8=some (.lst ts):=qad
    generalize upd H8 p8 (HO.lst ts)=H9 at sp8 h88 ⊢
    refine ⟨p8,ts,rfl,h88,fun b hb=>⟨qb5,fun r9 hr9=>?_⟩⟩
    have sb:=qag hb (HO.tup ts)
    have s9:=qag hr9 (HO.tup [v,V.ref b])
    have sX:=(s8.trans sp8).trans (sb.trans s9)
    refine k r9 b ts zs _ (fun c o hc e=>sX _ _ (k07 c o hc e)) (TabOk.same t7 sX) qad (s9 _ _ qad) (al8.mono fun _ _ h=>h.tp (tpS (sp8.trans (sb.trans s9)))) (fun y hy=>py y (pY.mem_iff.mp hy)) ?_ srt' (by omega) fun p hp=>?_
    · exact (pY.symm.pairwise_iff (fun h=>by show Int.gcd _ _=1;rw [Int.gcd_comm];exact h)).mp cop
    · rw [qiE p pY,wt p hp,wr p]
theorem qln (h:qdv K vs H Q E):qmM K { nx:=fun _ H'=>Q .non H',rt:=Q } (L2.start ["_law_script", "_law_k"] vs) H:=by
  obtain ⟨a,ns,k,rfl,ha,k0,q⟩:=h
  refine qjL ⟨_,rfl,_,_,rfl,rfl,_,rfl,qbJ (fun _=>?_) (fun _=>?_)⟩
  · refine ⟨_,rfl,a,_,rfl,ha,_,_,rfl,rfl,_,rfl,qbJ (fun c=>?_) (fun _=>q 0)⟩
    have c:k<(((ns.map V.int).length:Nat):Int):=of_decide_eq_true c
    have kl:k.toNat<(ns.map V.int).length:=by omega
    have e:atI (ns.map V.int) k=some (V.int (ns.getD k.toNat 0)):=by
      refine qig (j:=k.toNat) (by omega) ?_
      rw [List.length_map] at kl
      rw [List.getElem?_map,List.getD_eq_getElem?_getD,List.getElem?_eq_getElem kl];rfl
    exact ⟨_,rfl,_,rfl,_,_,_,_,rfl,rfl,ha,e,q _⟩
  · exact ⟨_,rfl,qbJ (fun c=>by cases c) (fun _=>q 0)⟩
theorem qiI (h:qba K vs H Q E):qjQ K { nx:=fun _ H'=>Q .non H',rt:=Q } (L2.start ["_law_cell", "_law_k", "_law_many", "_law_m"] vs) H:=by
  obtain ⟨c,k,m,rfl,k0,k1,m0,q⟩:=h
  have fin:∀ d:Int,Q (.int (d % m)) H:=fun d=>q _ (Int.emod_nonneg _ (by omega)) (Int.emod_lt_of_pos _ m0)
  have rest:qeb K { nx:=fun _ H'=>Q V.non H',rt:=Q } [some (.int c),some (.int k),some (.int m),none] H:=by
    have z1:=Int.emod_nonneg c (show (2147483629:Int)≠0 by decide)
    have z2:=Int.emod_lt_of_pos c (show (0:Int)<2147483629 by decide)
    have kk:0≤k*k∧k*k≤10000:=by
      constructor
      · exact Int.mul_nonneg k0 k0
      · exact Int.le_trans (Int.mul_le_mul k1 k1 k0 (by decide)) (by decide)
    refine qa6 ⟨_,rfl,_,_,rfl,rfl,(show (0:Int)<2147483629 by decide),_,rfl,_,rfl,_,_,rfl,rfl,qjS (by omega) (by omega),_,_,rfl,rfl,qlL (by decide) (by decide),_,_,rfl,rfl,_,_,rfl,rfl,_,_,rfl,rfl,qlL (by decide) (by decide),_,_,rfl,rfl,(show (0:Int)<2147483647 by decide),?_⟩
    show qea K _ _ _
    have y1:=Int.emod_nonneg ((c % 2147483629+k*k*7919+11)*48271) (show (2147483647:Int)≠0 by decide)
    have y2:=Int.emod_lt_of_pos ((c % 2147483629+k*k*7919+11)*48271) (show (0:Int)<2147483647 by decide)
    refine ⟨_,rfl,_,rfl,_,_,rfl,rfl,qjS (by omega) (by omega),_,_,rfl,rfl,(show (0:Int)<1999999973 by decide),_,_,rfl,rfl,⟨(show (0:Int)<7 by decide),(show Bd 3 7 by unfold Bd;decide).mono (by decide)⟩,_,rfl,_,_,rfl,rfl,m0,fin _⟩
  refine qjL ⟨_,rfl,_,_,rfl,rfl,⟨by decide,by decide,by decide⟩,_,_,rfl,rfl,_,rfl,qbJ (fun _=>?_) (fun _=>?_)⟩
  · refine ⟨_,rfl,_,_,rfl,rfl,_,rfl,qbJ (fun _=>?_) (fun _=>rest)⟩
    exact ⟨_,rfl,_,rfl,_,_,rfl,rfl,qjS (by decide) (by decide),_,_,rfl,rfl,(by show (0:Int)≤8*k;omega),_,_,rfl,rfl,(show (0:Int)<256 by decide),_,rfl,_,_,rfl,rfl,m0,fin _⟩
  · exact qbJ (fun c=>by cases c) (fun _=>rest)
theorem qgq {t d:Int} (h:Low t d):qcJ t d=(t,d):=qfG (qeG (by have:=h.pos;omega)) h (by rw [qbE (by have:=h.pos;omega)];rfl)
theorem qdY (h:qaS K vs H Q E):qcz K { nx:=fun _ H'=>Q .non H',rt:=Q } (L2.start ["_law_found", "_law_part"] vs) H:=by
  obtain ⟨p,t,d,rfl,hp,hl,k⟩:=h
  unfold qcz
  rwa [hp,qhS hp]
  refine ⟨⟨_,SqT.of hp⟩,?_⟩
  refine ForT.by (xs:=[.int t,.int d]) (fun i σ H'=>∃ v,σ=[some (.ref p),v]∧H'=H) ⟨none,rfl,rfl⟩ ?_ ?_ ?_
  · rintro i σ H' _ ⟨v,rfl,rfl⟩
    exact hp
  · rintro i x σ H' hi ⟨v,rfl,rfl⟩
    obtain ⟨z,rfl⟩:∃ z,x=V.int z:=by
      match i,hi with
      | 0,hi=>exact ⟨_,(Option.some.inj hi).symm⟩
      | 1,hi=>exact ⟨_,(Option.some.inj hi).symm⟩
    rwa []
    exact ⟨some (V.int z),rfl⟩
  · rintro σ H' ⟨v,rfl,rfl⟩
    refine ⟨_,rfl,_,_,_,_,rfl,rfl,hp,rfl,_,_,rfl,rfl,_,rfl,qbJ (fun _=>?_) (fun c=>absurd (decide_eq_true (show d > 0 from hl.pos)) c)⟩
    refine qfI ⟨_,rfl,qa5 ⟨_,rfl,_,_,_,_,rfl,rfl,hp,rfl,_,rfl,_,_,_,_,rfl,rfl,hp,rfl,t,d,rfl,by have:=hl.pos;omega,fun r hr=>?_⟩⟩
    rw [qgq hl]
    have sr:=qag hr (HO.tup [V.int t,V.int d])
    refine ⟨p,r,_,_,rfl,rfl,sr _ _ hp,qad,rfl,rfl,?_⟩
    rw [decide_eq_true rfl]
    exact k _ sr
theorem qlo {K:W.Frag} {tl:TE} {g:TG} {tb rest:TS} {D:Ends} {σ:L2.St} {H:Hp} (h:tl σ H (fun x H1=>∃ a,x=.ref a∧(∃ xs,SqT K H1 a xs)∧ForT K a g tb { D with nx:=rest D } σ H1)):qaG (qfy (qjd K tl) g tb) rest D σ H:=h
theorem qgr {p:Nat} {w:Int} (h:¬ p∣w.natAbs):vpI p w=0:=by
  unfold vpI
  generalize w.natAbs=n at h
  cases n with
  | zero=>rfl
  | succ n=>show (if p∣n+1 then _ else 0)=0;rw [if_neg h]
theorem qiJ (p:Nat) (xs ys:List (Nu×Nu)):WR p (xs++ys)=WR p xs+WR p ys:=by
  induction xs with
  | nil=>show WR p ys=0+WR p ys;grind
  | cons x xs ih=>show _+WR p (xs++ys)=(_+WR p xs)+WR p ys;rw [ih];grind
theorem zq {a b:Int} (a0:0≤a) (h3:3*a≤b) (b0:0<b):∃ z:Rat,z*(b:Rat)=(a:Rat)∧0≤z∧3*z≤1∧∀ x:Rat,x*((b:Rat) - (a:Rat))=(b:Rat)+(a:Rat)→ph z=x:=by
  have br:(0:Rat)<(b:Rat):=by exact_mod_cast b0
  have ar:(0:Rat)≤(a:Rat):=by exact_mod_cast a0
  have h3r:3*(a:Rat)≤(b:Rat):=by exact_mod_cast h3
  have bi:(b:Rat)*(b:Rat)⁻¹=1:=Rat.mul_inv_cancel _ (by grind)
  have bp:0<(b:Rat)⁻¹:=Rat.inv_pos.mpr br
  generalize (b:Rat)⁻¹=i at bi bp
  have z0:=Rat.mul_nonneg ar (show 0≤i by grind)
  have z3:3*((a:Rat)*i)≤1:=by
    have:=Rat.mul_le_mul_of_nonneg_right h3r (show 0≤i by grind)
    grind
  refine ⟨(a:Rat)*i,by grind,z0,z3,fun x hx=>?_⟩
  unfold ph
  have n1:(1 - (a:Rat)*i)*(1 - (a:Rat)*i)⁻¹=1:=Rat.mul_inv_cancel _ (by grind)
  generalize (1 - (a:Rat)*i)⁻¹=j at n1 ⊢
  have e1:(1+(a:Rat)*i)=x*(1 - (a:Rat)*i):=by
    have:x*(1 - (a:Rat)*i)=(x*((b:Rat) - (a:Rat)))*i:=by grind
    rw [this,hx];grind
  rw [e1]
  have:x*(1 - (a:Rat)*i)*j=x*((1 - (a:Rat)*i)*j):=by grind
  rw [this,n1];grind
theorem Ser.lg {z x:Rat} {M:Int} {k:Nat} {tot hi:Int} (h:Ser z (M:Rat) k 0 tot) (M0:0<M) (z0:0≤z) (z3:3*z≤1) (t0:0≤tot) (hx:ph z=x) (hh:2*tot+4*k+4≤hi) {g:Int} (hg:hi≤2*tot+g):Lg M g x (2*tot) hi:=by
  have Mr:(0:Rat)<(M:Rat):=by exact_mod_cast M0
  have hm:(M:Rat)*(M:Rat)⁻¹=1:=Rat.mul_inv_cancel _ (by grind)
  have mp:0<(M:Rat)⁻¹:=Rat.inv_pos.mpr Mr
  obtain ⟨h1,h2⟩:=h.ends Mr hm z0 z3
  rw [hx] at h1 h2
  refine ⟨by omega,by omega,hg,h1.mono ?_,h2.mono ?_⟩
  · rw [Rat.div_def];push_cast;exact Rat.le_refl
  · rw [Rat.div_def]
    have:((2*tot+4*k+4:Int):Rat)≤(hi:Rat):=by exact_mod_cast hh
    push_cast at this
    exact Rat.mul_le_mul_of_nonneg_right this (by grind)
theorem Lg.mul {M g g':Int} {x y:Rat} {lo hi lo' hi':Int} (a:Lg M g x lo hi) (b:Lg M g' y lo' hi'):Lg M (g+g') (x*y) (lo+lo') (hi+hi'):=by
  have h1:=a.l0;have h2:=a.lh;have h3:=a.wd;have h4:=b.l0;have h5:=b.lh;have h6:=b.wd
  refine ⟨by omega,by omega,by omega,(a.le.mul b.le).mono ?_,(a.ge.mul b.ge).mono ?_⟩
  · rw [Rat.div_def,Rat.div_def,Rat.div_def];push_cast;grind
  · rw [Rat.div_def,Rat.div_def,Rat.div_def];push_cast;grind
theorem Lg.mono {M g g':Int} {x:Rat} {lo hi:Int} (a:Lg M g x lo hi) (h:g≤g'):Lg M g' x lo hi:=⟨a.l0,a.lh,by have:=a.wd;omega,a.le,a.ge⟩
theorem Lg.pow {M g:Int} {x:Rat} {lo hi:Int} (a:Lg M g x lo hi) (e:Nat):Lg M (e*g) (x ^ e) (e*lo) (e*hi):=by
  have e0:(0:Int)≤(e:Int):=by omega
  refine ⟨Int.mul_nonneg e0 a.l0,Int.mul_le_mul_of_nonneg_left a.lh e0,?_,(a.le.pow e).mono ?_,(a.ge.pow e).mono ?_⟩
  · have:=Int.mul_le_mul_of_nonneg_left a.wd e0
    grind
  · rw [Rat.div_def,Rat.div_def];push_cast;grind
  · rw [Rat.div_def,Rat.div_def];push_cast;grind
theorem LGe.two:LGe 1 2:=⟨by decide,fun ε e0=>⟨1,by grind,by
  have:=Up.one (e:=1) (by decide)
  have e:(1:Rat)+1=2:=by grind
  rw [e] at this;exact this⟩⟩
theorem qiK {w:Rat} {e:Nat} (w0:0<w) (h:w≤(2:Rat) ^ e):LGe (e:Rat) w:=by
  have h2:=LGe.two.pow e
  refine ⟨w0,fun ε e0=>?_⟩
  obtain ⟨E,h1,u0,x0,hu⟩:=h2.2 ε e0
  refine ⟨E,by grind,u0,w0,fun n t t0 nt lt=>?_⟩
  have:=hu n t t0 nt lt
  have p:=qcb (show 0≤1 - E*t by grind) n
  have:=Rat.mul_le_mul_of_nonneg_right h p
  grind
theorem qmV {a M v:Rat} (M0:0<M) (h:a / M≤v):a≤v*M:=by
  have:=Rat.mul_le_mul_of_nonneg_right h (show 0≤M by grind)
  rw [Rat.div_mul_cancel (by grind)] at this;exact this
theorem Lg.size {M g:Int} {w:Int} {lo hi:Int} (a:Lg M g (w:Rat) lo hi) (M0:0<M) (w0:0<w) {e:Nat} (h:Bd e w):lo≤e*M:=by
  have Mr:(0:Rat)<(M:Rat):=by exact_mod_cast M0
  have wr:(0:Rat)<(w:Rat):=by exact_mod_cast w0
  have h1:w≤(2:Int) ^ e:=by
    have h:w.natAbs<2 ^ e:=h
    have:((w.natAbs:Nat):Int)<((2 ^ e:Nat):Int):=by exact_mod_cast h
    push_cast at this
    omega
  have h2:(w:Rat)≤(2:Rat) ^ e:=by
    have:(w:Rat)≤(((2:Int) ^ e:Int):Rat):=by exact_mod_cast h1
    push_cast at this;exact this
  have:=qmV Mr (a.le.ge (qiK wr h2))
  exact_mod_cast this
theorem qkn {z ε:Rat} (z0:0≤z) (z3:3*z≤1) (e0:0<ε):∃ u,LLe u (ph z)∧LGe (u+ε) (ph z):=by
  obtain ⟨N,hN⟩:=qeK (18*ε⁻¹)
  have ei:ε*ε⁻¹=1:=Rat.mul_inv_cancel _ (by grind)
  obtain ⟨c,hc,c0,c9⟩:=qmI z0 z3 N
  refine ⟨SN z N,LLe.series z0 z3 N,(LGe.series z0 z3 N hc c0).mono ?_⟩
  have h1:=qcb z0 (2*N+1)
  have h2:z ^ (2*N+1)*(3:Rat) ^ (2*N+1)≤1:=by
    rw [← qds]
    exact qge (by grind) (by grind) _
  have h3:=bern (s:=2) (by decide) (2*N+1)
  have e3:(1:Rat)+2=3:=by grind
  rw [e3] at h3
  have n0:(0:Rat)≤(N:Rat):=by exact_mod_cast Nat.zero_le N
  have en:((2*N+1:Nat):Rat)=2*(N:Rat)+1:=by push_cast;rfl
  rw [en] at h3
  have h4:=Rat.mul_le_mul_of_nonneg_left h3 h1
  generalize z ^ (2*N+1)=y at *
  have h5:y*(N:Rat)≤1:=by
    have:=Rat.mul_nonneg h1 n0
    grind
  have h6:0≤((N:Rat) - 18*ε⁻¹)*(y*ε):=Rat.mul_nonneg (by grind) (Rat.mul_nonneg h1 (by grind))
  have h7:((N:Rat) - 18*ε⁻¹)*(y*ε)=(y*(N:Rat))*ε - 18*y*(ε*ε⁻¹):=by grind
  rw [h7,ei] at h6
  have h8:=Rat.mul_le_mul_of_nonneg_right h5 (show 0≤ε by grind)
  grind
theorem qfp (w:Nat) (w0:0<w):∃ e:Nat,2 ^ e≤w∧w<2 ^ (e+1):=⟨w.log2,Nat.log2_self_le (by omega),Nat.lt_log2_self⟩
theorem qlp {w:Nat} (w0:0<w) {ε:Rat} (e0:0<ε):∃ u,LLe u (w:Rat)∧LGe (u+ε) (w:Rat):=by
  obtain ⟨e,h1,h2⟩:=qfp w w0
  obtain ⟨t,t0,nt⟩:=qgf (Nat.succ_pos e)
  have d0:0<ε*t:=Rat.mul_pos e0 t0
  obtain ⟨z1,_,z10,z13,hz1⟩:=zq (a:=1) (b:=3) (by decide) (by decide) (by decide)
  have p2:=hz1 2 (by push_cast;grind)
  have s0:0<2 ^ e:=Nat.pow_pos (by decide)
  have h3:2 ^ (e+1)=2 ^ e+2 ^ e:=by rw [Nat.pow_succ];omega
  obtain ⟨z2,_,z20,z23,hz2⟩:=zq (a:=(w:Int) - ((2 ^ e:Nat):Int)) (b:=(w:Int)+((2 ^ e:Nat):Int)) (by omega) (by omega) (by omega)
  obtain ⟨u1,a1,b1⟩:=qkn z10 z13 d0
  obtain ⟨u2,a2,b2⟩:=qkn z20 z23 d0
  rw [p2] at a1 b1
  have sr:(0:Rat)<((2 ^ e:Nat):Rat):=by exact_mod_cast s0
  have si:((2 ^ e:Nat):Rat)*((2 ^ e:Nat):Rat)⁻¹=1:=Rat.mul_inv_cancel _ (by grind)
  have pz:=hz2 ((w:Rat)*((2 ^ e:Nat):Rat)⁻¹) (by
    have c1:(((w:Int) - ((2 ^ e:Nat):Int):Int):Rat)=(w:Rat) - ((2 ^ e:Nat):Rat):=by rw [Rat.intCast_sub];rfl
    have c2:(((w:Int)+((2 ^ e:Nat):Int):Int):Rat)=(w:Rat)+((2 ^ e:Nat):Rat):=by rw [Rat.intCast_add];rfl
    rw [c1,c2]
    generalize ((2 ^ e:Nat):Rat)=s at *
    grind)
  rw [pz] at a2 b2
  have e2:((2:Rat) ^ e)=((2 ^ e:Nat):Rat):=by push_cast;rfl
  have A:=(a1.pow e).mul a2
  have B:=(b1.pow e).mul b2
  rw [e2] at A B
  have ew:((2 ^ e:Nat):Rat)*((w:Rat)*((2 ^ e:Nat):Rat)⁻¹)=(w:Rat):=by
    generalize ((2 ^ e:Nat):Rat)=s at *
    grind
  rw [ew] at A B
  refine ⟨_,A,B.mono ?_⟩
  have en:((e.succ:Nat):Rat)=(e:Rat)+1:=by rw [Nat.succ_eq_add_one];push_cast;rfl
  rw [en] at nt
  have:(e:Rat)*(u1+ε*t)+(u2+ε*t)=((e:Rat)*u1+u2)+ε*(((e:Rat)+1)*t):=by grind
  rw [this,nt];grind
theorem qaP {f g:Nat→Rat}:∀ n:Nat,(∀ j,j<n→f j=g j)→Sg f n=Sg g n
  | 0,_=>rfl
  | n+1,h=>by
    show Sg f n+f n=Sg g n+g n
    rw [qaP n fun j hj=>h j (by omega),h n (by omega)]
theorem qdQ (f g:Nat→Rat):∀ n:Nat,Sg (fun j=>f j+g j) n=Sg f n+Sg g n
  | 0=>by show (0:Rat)=0+0;grind
  | n+1=>by
    show Sg (fun j=>f j+g j) n+(f n+g n)=(Sg f n+f n)+(Sg g n+g n)
    rw [qdQ f g n];grind
theorem qdR (c:Rat) (f:Nat→Rat):∀ n:Nat,Sg (fun j=>c*f j) n=c*Sg f n
  | 0=>by show (0:Rat)=c*0;grind
  | n+1=>by
    show Sg (fun j=>c*f j) n+c*f n=c*(Sg f n+f n)
    rw [qdR c f n];grind
theorem qko {i:Nat} (f:Nat→Rat):∀ n:Nat,Sg (fun j=>(((if j=i then 1 else 0:Nat):Nat):Rat)*f j) n=if i<n then f i else 0
  | 0=>by rw [if_neg (by omega)];rfl
  | n+1=>by
    show Sg _ n+(((if n=i then 1 else 0:Nat):Nat):Rat)*f n=_
    rw [qko f n]
    by_cases h:n=i
    · subst h
      rw [if_neg (by omega),if_pos rfl,if_pos (by omega)];push_cast;grind
    · rw [if_neg h]
      by_cases h2:i<n
      · rw [if_pos h2,if_pos (by omega)];push_cast;grind
      · rw [if_neg h2,if_neg (by omega)];push_cast;grind
theorem qjZ {f g:Nat→Rat}:∀ n:Nat,(∀ j,j<n→f j≤g j)→Sg f n≤Sg g n
  | 0,_=>Rat.le_refl
  | n+1,h=>by
    have h1:=qjZ n fun j hj=>h j (by omega)
    have h2:=h n (by omega)
    show Sg f n+f n≤Sg g n+g n
    grind
theorem qb8 (c:Rat):∀ n:Nat,Sg (fun _=>c) n=(n:Rat)*c
  | 0=>by show (0:Rat)=((0:Nat):Rat)*c;have:((0:Nat):Rat)=0:=rfl
          rw [this];grind
  | n+1=>by
    show Sg (fun _=>c) n+c=((n+1:Nat):Rat)*c
    rw [qb8 c n];push_cast;grind
theorem Adm.ex {ε:Rat} (e0:0<ε):∃ l,Adm l ε:=by
  have h:∀ p:Nat,∃ u:Rat,(Pr p→LLe u (p:Rat)∧LGe (u+ε) (p:Rat))∧(¬ Pr p→u=0):=fun p=>by
    by_cases hp:Pr p
    · obtain ⟨u,h1,h2⟩:=qlp (w:=p) (by have:=hp.two;omega) e0
      exact ⟨u,fun _=>⟨h1,h2⟩,fun h=>absurd hp h⟩
    · exact ⟨0,fun h=>absurd h hp,fun _=>rfl⟩
  exact ⟨fun p=>Classical.choose (h p),e0,fun p _ hp=>((Classical.choose_spec (h p)).1 hp).1,fun p _ hp=>((Classical.choose_spec (h p)).1 hp).2,fun p hp=>(Classical.choose_spec (h p)).2 hp⟩
theorem qkp {l:Nat→Rat} (no:∀ p,¬ Pr p→l p=0):LW l 1=0:=by
  unfold LW
  have:Sg (fun p=>((vpI p 1:Nat):Rat)*l p) NN=Sg (fun _=>0) NN:=qaP NN fun p _=>by
    by_cases hp:Pr p
    · rw [qfQ hp];have:((0:Nat):Rat)=0:=rfl
      rw [this];grind
    · rw [no p hp];grind
  rw [this,qb8];grind
theorem qiL {l:Nat→Rat} (no:∀ p,¬ Pr p→l p=0) {a b:Int} (a0:0<a) (b0:0<b):LW l (a*b)=LW l a+LW l b:=by
  unfold LW
  rw [← qdQ]
  refine qaP NN fun p _=>?_
  by_cases hp:Pr p
  · rw [qfP hp a0 b0];push_cast;grind
  · rw [no p hp];grind
theorem qlq {p q:Nat} (hp:Pr p) (hq:Pr q):vpI q (p:Int)=if q=p then 1 else 0:=by
  have p2:=hp.two
  have q2:=hq.two
  by_cases e:q=p
  · subst e
    rw [if_pos rfl]
    obtain ⟨y,ey,ny⟩:=qck hq (q:Int).natAbs (q:Int).natAbs (Nat.le_refl _) (by omega)
    refine (qiD hq 1 _ 1 y ?_ (fun d=>by have:=Nat.le_of_dvd (by decide) d;omega) ny).symm
    rw [Nat.mul_one,Nat.pow_one]
    rw [Int.natAbs_natCast] at ey
    exact ey
  · rw [if_neg e]
    refine qgr fun d=>?_
    rw [Int.natAbs_natCast] at d
    rcases hp.div q d with z | z
    · omega
    · exact e z
theorem qnK {l:Nat→Rat} (no:∀ p,¬ Pr p→l p=0) {p:Nat} (hp:Pr p) (pN:p<NN):LW l (p:Int)=l p:=by
  unfold LW
  have:Sg (fun q=>((vpI q (p:Int):Nat):Rat)*l q) NN=Sg (fun q=>(((if q=p then 1 else 0:Nat):Nat):Rat)*l q) NN:=qaP NN fun q _=>by
    by_cases hq:Pr q
    · rw [qlq hp hq]
    · rw [no q hq];grind
  rw [this,qko,if_pos pN]
noncomputable def Bel (w:Int):Prop:=0<w∧∀ p,Pr p→p∣w.natAbs→p<NN
theorem Bel.of {w:Int} (h0:0<w) (h:w<(2:Int) ^ 263):Bel w:=⟨h0,fun p hp d=>by
  have:=Nat.le_of_dvd (by omega) d
  refine Nat.lt_of_lt_of_le ?_ (Classical.choose_spec qmK)
  have e:((2 ^ 263:Nat):Int)=(2:Int) ^ 263:=by decide +kernel
  have:((p:Nat):Int)<((2 ^ 263:Nat):Int):=by rw [e];omega
  exact_mod_cast this⟩
theorem Bel.mul {a b:Int} (ha:Bel a) (hb:Bel b):Bel (a*b):=⟨Int.mul_pos ha.1 hb.1,fun p hp d=>by
  rw [Int.natAbs_mul] at d
  rcases hp.mul d with h | h
  · exact ha.2 p hp h
  · exact hb.2 p hp h⟩
theorem Bel.ind {M:Int→Prop} (h1:M 1) (hs:∀ (w:Int) (p:Nat),0<w→Pr p→p<NN→M w→M (w*(p:Int))):∀ (n:Nat) (w:Int),w.natAbs≤n→Bel w→M w
  | 0,w,hn,s=>by have:=s.1;omega
  | n+1,w,hn,s=>by
    by_cases w1:w=1
    · rw [w1];exact h1
    · have w0:=s.1
      obtain ⟨p,hp,d⟩:=qlk (w:=w) (by omega)
      have pN:=s.2 p hp d
      have d:((p:Nat):Int)∣w:=Int.ofNat_dvd_left.mpr d
      obtain ⟨u,hu⟩:=d
      have p2:=hp.two
      have u0:0<u:=by
        rcases Int.lt_trichotomy u 0 with y | y | y
        · have:=Int.mul_le_mul_of_nonneg_left (show u≤0 by omega) (show (0:Int)≤(p:Nat) by omega)
          omega
        · rw [y] at hu;omega
        · exact y
      have ul:u<w:=by
        have:(2:Int)*u≤(p:Nat)*u:=Int.mul_le_mul_of_nonneg_right (by omega) (by omega)
        omega
      have e:w=u*(p:Int):=by rw [hu,Int.mul_comm]
      rw [e]
      refine hs u p u0 hp pN (Bel.ind h1 hs n u (by omega) ⟨u0,fun q hq dq=>s.2 q hq ?_⟩)
      rw [e,Int.natAbs_mul]
      exact Nat.dvd_trans dq (Nat.dvd_mul_right ..)
theorem qiM {l:Nat→Rat} (no:∀ p,¬ Pr p→l p=0) {w:Int} (w0:0<w) {p:Nat} (hp:Pr p) (pN:p<NN):LW l (w*(p:Int))=LW l w+l p:=by
  have p2:=hp.two
  rw [qiL no w0 (by omega),qnK no hp pN]
theorem qnL {l:Nat→Rat} (no:∀ p,¬ Pr p→l p=0) (h:∀ p,p<NN→Pr p→LLe (l p) (p:Rat)) {w:Int} (s:Bel w):LLe (LW l w) (w:Rat):=
  Bel.ind (M:=fun w=>LLe (LW l w) (w:Rat)) (by rw [qkp no];exact LLe.triv) (fun w p w0 hp pN ih=>by
    rw [qiM no w0 hp pN]
    have e:((w*(p:Int):Int):Rat)=(w:Rat)*(p:Rat):=by rw [Rat.intCast_mul];rfl
    rw [e];exact ih.mul (h p pN hp)) w.natAbs w (Nat.le_refl _) s
theorem qnM {l:Nat→Rat} (no:∀ p,¬ Pr p→l p=0) (h:∀ p,p<NN→Pr p→LGe (l p) (p:Rat)) {w:Int} (s:Bel w):LGe (LW l w) (w:Rat):=
  Bel.ind (M:=fun w=>LGe (LW l w) (w:Rat)) (by rw [qkp no];exact LGe.triv) (fun w p w0 hp pN ih=>by
    rw [qiM no w0 hp pN]
    have e:((w*(p:Int):Int):Rat)=(w:Rat)*(p:Rat):=by rw [Rat.intCast_mul];rfl
    rw [e];exact ih.mul (h p pN hp)) w.natAbs w (Nat.le_refl _) s
noncomputable def OmW (w:Int):Rat:=Sg (fun p=>((vpI p w:Nat):Rat)) NN
theorem Adm.ge {l:Nat→Rat} {ε:Rat} (a:Adm l ε) {w:Int} (s:Bel w):LGe (LW l w+OmW w*ε) (w:Rat):=by
  have e0:=a.e0
  have h:∀ p:Nat,∃ u:Rat,(Pr p→u=l p+ε)∧(¬ Pr p→u=0):=fun p=>by
    by_cases hp:Pr p
    · exact ⟨l p+ε,fun _=>rfl,fun h=>absurd hp h⟩
    · exact ⟨0,fun h=>absurd h hp,fun _=>rfl⟩
  refine (qnM (l:=fun p=>Classical.choose (h p)) (fun p hp=>(Classical.choose_spec (h p)).2 hp) (fun p pN hp=>by rw [(Classical.choose_spec (h p)).1 hp];exact a.up p pN hp) s).mono ?_
  have e:LW l w+OmW w*ε=Sg (fun p=>((vpI p w:Nat):Rat)*l p+((vpI p w:Nat):Rat)*ε) NN:=by
    unfold LW OmW
    rw [qdQ,Rat.mul_comm,← qdR]
    congr 1
    exact qaP NN fun p _=>by grind
  rw [e]
  refine qjZ NN fun p _=>?_
  have v:(0:Rat)≤((vpI p w:Nat):Rat):=by exact_mod_cast Nat.zero_le _
  have q:=Rat.mul_nonneg v (show 0≤ε by grind)
  show ((vpI p w:Nat):Rat)*Classical.choose (h p)≤_
  by_cases hp:Pr p
  · rw [(Classical.choose_spec (h p)).1 hp];grind
  · rw [(Classical.choose_spec (h p)).2 hp,a.no p hp];grind
theorem Adm.le {l:Nat→Rat} {ε:Rat} (a:Adm l ε) {w:Int} (s:Bel w):LLe (LW l w) (w:Rat):=qnL a.no a.lo s
theorem InL.congr {a b:Rat} {X Y:(Nat→Rat)→Rat} (h:InL a b X) (e:∀ l,(∀ p,¬ Pr p→l p=0)→X l=Y l):InL a b Y:=by
  obtain ⟨C,h⟩:=h
  exact ⟨C,fun l ε ad=>by rw [← e l ad.no];exact h l ε ad⟩
theorem InL.piece {M g:Int} {w lo hi:Int} (h:Lg M g (w:Rat) lo hi) (s:Bel w):InL ((lo:Rat) / (M:Rat)) ((hi:Rat) / (M:Rat)) (fun l=>LW l w):=by
  refine ⟨OmW w,fun l ε ad=>?_⟩
  have h1:=h.le.ge (ad.ge s)
  have h2:=(ad.le s).ge h.ge
  have e0:=ad.e0
  have v:0≤OmW w:=by
    have:=qjZ (f:=fun _=>0) (g:=fun p=>((vpI p w:Nat):Rat)) NN fun p _=>by exact_mod_cast Nat.zero_le _
    rw [qb8] at this
    unfold OmW;grind
  have:=Rat.mul_nonneg v (show 0≤ε by grind)
  constructor <;> grind
theorem qmW (l:Nat→Rat):∀ ys:List Pce,XP l ys=Sg (fun p=>WP p ys*l p) NN
  | []=>by
    have:Sg (fun p=>WP p []*l p) NN=Sg (fun _=>0) NN:=qaP NN fun p _=>by show (0:Rat)*l p=0;grind
    show (0:Rat)=_
    rw [this,qb8];grind
  | y::ys=>by
    show val y.1*LW l y.2+XP l ys=_
    unfold LW
    rw [qmW l ys,← qdR,← qdQ]
    exact qaP NN fun p _=>by show _=(val y.1*((vpI p y.2:Nat):Rat)+WP p ys)*l p;grind
theorem qeP (l:Nat→Rat):∀ xs:List (Nu×Nu),XR l xs=Sg (fun p=>WR p xs*l p) NN
  | []=>by
    have:Sg (fun p=>WR p []*l p) NN=Sg (fun _=>0) NN:=qaP NN fun p _=>by show (0:Rat)*l p=0;grind
    show (0:Rat)=_
    rw [this,qb8];grind
  | x::xs=>by
    have e:LW l x.2.1 - LW l x.2.2=Sg (fun p=>((vpI p x.2.1:Nat):Rat)*l p + -1*(((vpI p x.2.2:Nat):Rat)*l p)) NN:=by
      unfold LW
      rw [qdQ,qdR];grind
    show val x.1*(LW l x.2.1 - LW l x.2.2)+XR l xs=_
    rw [qeP l xs,e,← qdR,← qdQ]
    exact qaP NN fun p _=>by show _=(val x.1*(((vpI p x.2.1:Nat):Rat) - ((vpI p x.2.2:Nat):Rat))+WR p xs)*l p;grind
theorem qmX {l:Nat→Rat} (no:∀ p,¬ Pr p→l p=0) {ys:List Pce} {xs:List (Nu×Nu)} (h:∀ p,Pr p→WP p ys=WR p xs):XP l ys=XR l xs:=by
  rw [qmW,qeP]
  refine qaP NN fun p _=>?_
  by_cases hp:Pr p
  · rw [h p hp]
  · rw [no p hp];grind
theorem qkq (l:Nat→Rat):∀ xs ys:List Pce,XP l (xs++ys)=XP l xs+XP l ys
  | [],ys=>by show XP l ys=0+XP l ys;grind
  | x::xs,ys=>by show _+XP l (xs++ys)=(_+XP l xs)+XP l ys;rw [qkq l xs ys];grind
theorem InL.quot {a b:Int} (ha:Bel a) (hb:Bel b) (h:b≤a):InL (1 - (b:Rat) / (a:Rat)) ((a:Rat) / (b:Rat) - 1) (fun l=>LW l a - LW l b):=by
  have ar:(0:Rat)<(a:Rat):=by exact_mod_cast ha.1
  have br:(0:Rat)<(b:Rat):=by exact_mod_cast hb.1
  have hr:(b:Rat)≤(a:Rat):=by exact_mod_cast h
  have ai:(a:Rat)*(a:Rat)⁻¹=1:=Rat.mul_inv_cancel _ (by grind)
  have bi:(b:Rat)*(b:Rat)⁻¹=1:=Rat.mul_inv_cancel _ (by grind)
  have ap:0<(a:Rat)⁻¹:=Rat.inv_pos.mpr ar
  have bp:0<(b:Rat)⁻¹:=Rat.inv_pos.mpr br
  rw [Rat.div_def,Rat.div_def]
  generalize (a:Rat)⁻¹=i at ai ap ⊢
  generalize (b:Rat)⁻¹=j at bi bp ⊢
  have le1:(b:Rat)*i≤1:=by
    have:=Rat.mul_le_mul_of_nonneg_right hr (show 0≤i by grind)
    grind
  have ge1:1≤(a:Rat)*j:=by
    have:=Rat.mul_le_mul_of_nonneg_right hr (show 0≤j by grind)
    grind
  have lo1:LLe (1 - (b:Rat)*i) ((a:Rat)*j):=by
    refine ⟨Rat.mul_pos ar bp,fun ε e0=>⟨1 - (b:Rat)*i,by grind,Lo.one (by grind) ?_ ?_⟩⟩
    · have:=Rat.mul_pos br ap
      grind
    · grind
  have up1:LGe ((a:Rat)*j - 1) ((a:Rat)*j):=by
    refine ⟨Rat.mul_pos ar bp,fun ε e0=>⟨(a:Rat)*j - 1,by grind,?_⟩⟩
    have:=Up.one (e:=(a:Rat)*j - 1) (by grind)
    have e:1+((a:Rat)*j - 1)=(a:Rat)*j:=by grind
    rw [e] at this;exact this
  have eb:(b:Rat)*((a:Rat)*j)=(a:Rat):=by grind
  refine ⟨OmW a+OmW b,fun l ε ad=>?_⟩
  have e0:=ad.e0
  have q1:=((ad.le hb).mul lo1)
  have q2:=((ad.ge hb).mul up1)
  rw [eb] at q1 q2
  have r1:=q1.ge (ad.ge ha)
  have r2:=(ad.le ha).ge q2
  have nn:∀ w,0≤OmW w:=fun w=>by
    have:=qjZ (f:=fun _=>0) (g:=fun p=>((vpI p w:Nat):Rat)) NN fun p _=>by exact_mod_cast Nat.zero_le _
    rw [qb8] at this
    unfold OmW;grind
  have n1:=Rat.mul_nonneg (nn a) (show 0≤ε by grind)
  have n2:=Rat.mul_nonneg (nn b) (show 0≤ε by grind)
  constructor <;> grind
theorem InL.const (c:Rat):InL c c (fun _=>c):=⟨0,fun l ε _=>by constructor <;> grind⟩
theorem InL.add {a b c d:Rat} {X Y:(Nat→Rat)→Rat} (h:InL a b X) (h':InL c d Y):InL (a+c) (b+d) (fun l=>X l+Y l):=by
  obtain ⟨C,h⟩:=h
  obtain ⟨D,h'⟩:=h'
  refine ⟨C+D,fun l ε ad=>?_⟩
  have h1:=h l ε ad
  have h2:=h' l ε ad
  constructor <;> grind
theorem InL.pos {a b c:Rat} {X:(Nat→Rat)→Rat} (h:InL a b X) (c0:0≤c):InL (c*a) (c*b) (fun l=>c*X l):=by
  obtain ⟨C,h⟩:=h
  refine ⟨c*C,fun l ε ad=>?_⟩
  obtain ⟨h1,h2⟩:=h l ε ad
  have q1:=Rat.mul_le_mul_of_nonneg_left h1 c0
  have q2:=Rat.mul_le_mul_of_nonneg_left h2 c0
  constructor <;> grind
theorem InL.neg {a b c:Rat} {X:(Nat→Rat)→Rat} (h:InL a b X) (c0:c≤0):InL (c*b) (c*a) (fun l=>c*X l):=by
  obtain ⟨C,h⟩:=h
  refine ⟨-c*C,fun l ε ad=>?_⟩
  obtain ⟨h1,h2⟩:=h l ε ad
  have q1:=Rat.mul_le_mul_of_nonneg_left h1 (show 0≤-c by grind)
  have q2:=Rat.mul_le_mul_of_nonneg_left h2 (show 0≤-c by grind)
  constructor <;> grind
theorem InL.cross {a b c d:Rat} {X:(Nat→Rat)→Rat} (h:InL a b X) (h':InL c d X):a≤d:=by
  obtain ⟨C,h⟩:=h
  obtain ⟨D,h'⟩:=h'
  refine qfl fun δ d0=>?_
  obtain ⟨n,hn⟩:=qeK (C+D)
  obtain ⟨t,t0,nt⟩:=qgf (Nat.succ_pos n)
  obtain ⟨l,ad⟩:=Adm.ex (Rat.mul_pos d0 t0)
  have h1:=(h l _ ad).1
  have h2:=(h' l _ ad).2
  have en:((n.succ:Nat):Rat)=(n:Rat)+1:=by rw [Nat.succ_eq_add_one];push_cast;rfl
  rw [en] at nt
  have q:0≤(((n:Rat)+1) - (C+D))*(δ*t):=Rat.mul_nonneg (by grind) (Rat.mul_nonneg (by grind) (by grind))
  have e:(((n:Rat)+1) - (C+D))*(δ*t)=(((n:Rat)+1)*t)*δ - (C+D)*(δ*t):=by grind
  rw [e,nt] at q
  grind
theorem OvD.mono {D:Int} {s t:Nat} {q:Nu} (h:OvD D s q) (l:s≤t):OvD D t q:=by
  obtain ⟨lo,k,e,b⟩:=h
  exact ⟨lo,k,e,b.mono l⟩
theorem OvD.bd {D:Int} {t:Nat} {q:Nu} (h:OvD D t q) (D0:0<D):Bd t q.1∧q.2≤D∧0<q.2:=by
  obtain ⟨lo,k,e,b⟩:=h
  have p:=lo.pos
  have e:q.1*D=k*q.2:=by
    unfold val at e
    have d1:(q.2:Rat)≠0:=qa0 (by omega)
    have d2:(D:Rat)≠0:=qa0 (by omega)
    have h1:(q.1:Rat) / (q.2:Rat)*(q.2:Rat)=q.1:=Rat.div_mul_cancel d1
    have h2:(k:Rat) / (D:Rat)*(D:Rat)=k:=Rat.div_mul_cancel d2
    have:(q.1:Rat)*(D:Rat)=k*q.2:=by rw [← h1,e,← h2,Rat.div_mul_cancel d2];grind
    exact_mod_cast this
  have dD:q.2∣D:=qfO (c:=q.1) ⟨k,by rw [Int.mul_comm D,e,Int.mul_comm]⟩ (by rw [Int.gcd_comm];exact lo.one)
  obtain ⟨m,hm⟩:=dD
  have m0:0<m:=by
    rcases Int.lt_trichotomy m 0 with y | y | y
    · have:q.2*m≤q.2*(-1):=Int.mul_le_mul_of_nonneg_left (by omega) (by omega)
      omega
    · rw [y] at hm;omega
    · exact y
  have e2:q.1*m=k:=by
    have:(q.1*m)*q.2=k*q.2:=by rw [← e,hm];grind
    exact Int.eq_of_mul_eq_mul_right (by omega) this
  refine ⟨b.le ?_,Int.le_of_dvd D0 ⟨m,hm⟩,p⟩
  rw [← e2,Int.natAbs_mul]
  exact Nat.le_mul_of_pos_right _ (by omega)
theorem OvD.add {D:Int} {t:Nat} {q r:Nu} (D0:0<D) (h:OvD D t q) (h':OvD D t r):OvD D (t+1) (nadd q r)∧val (nadd q r)=val q+val r:=by
  obtain ⟨lo,k,e,b⟩:=h
  obtain ⟨lo',k',e',b'⟩:=h'
  have v:=qb4 lo.pos lo'.pos
  exact ⟨⟨qc9 lo.pos lo'.pos,k+k',by rw [v,e,e',Rat.div_def,Rat.div_def,Rat.div_def];push_cast;grind,b.add b'⟩,v⟩
theorem Cz.ov {t n:Nat} {D:Int} {q:Nu} (h:Cz t q) (D0:0<D) (bD:Bd n D):OvD (60*D) (t+n) q:=by
  obtain ⟨lo,k,e,b⟩:=h
  refine ⟨lo,k*D,?_,b.mul bD⟩
  have Dr:(D:Rat)≠0:=qa0 (by omega)
  have di:(D:Rat)*(D:Rat)⁻¹=1:=Rat.mul_inv_cancel _ Dr
  rw [e,Rat.div_def,Rat.div_def]
  push_cast
  rw [Rat.inv_mul_rev]
  generalize (D:Rat)⁻¹=i at *
  generalize (60:Rat)⁻¹=c
  grind
theorem Cz.tm {t n:Nat} {M e:Int} {q r:Nu} (h:Cz t q) (r0:0<r.2) (M0:0<M) (hr:val r=(e:Rat) / (M:Rat)) (be:Bd n e):OvD (60*M) (t+n) (nmul q r)∧val (nmul q r)=val q*((e:Rat) / (M:Rat)):=by
  obtain ⟨lo,k,ek,b⟩:=h
  have v:=qgb lo.pos r0
  refine ⟨⟨qga lo.pos r0,k*e,?_,b.mul be⟩,by rw [v,hr]⟩
  rw [v,hr,ek,Rat.div_def,Rat.div_def,Rat.div_def]
  push_cast
  rw [Rat.inv_mul_rev];grind
theorem OvD.sl {D:Int} {t:Nat} {q:Nu} (h:OvD D t q) (D0:0<D) (ht:t≤2000) (bD:Bd 2000 D):Sl q:=by
  obtain ⟨h1,h2,h3⟩:=h.bd D0
  exact ⟨h.1,h1.mono ht,bD.le (by omega)⟩
theorem qfq {a b c d:Int} (b0:0<b) (d0:0<d):val (a,b)<val (c,d)↔a*d<c*b:=by
  have br:(0:Rat)<(b:Rat):=by exact_mod_cast b0
  have dr:(0:Rat)<(d:Rat):=by exact_mod_cast d0
  have h1:(a:Rat) / (b:Rat)*(b:Rat)=a:=Rat.div_mul_cancel (by grind)
  have h2:(c:Rat) / (d:Rat)*(d:Rat)=c:=Rat.div_mul_cancel (by grind)
  show (a:Rat) / (b:Rat)<(c:Rat) / (d:Rat)↔_
  have e:a*d<c*b↔(a:Rat)*(d:Rat)<(c:Rat)*(b:Rat):=by
    rw [← Rat.intCast_mul,← Rat.intCast_mul,Rat.intCast_lt_intCast]
  rw [e]
  generalize (a:Rat) / (b:Rat)=x at *
  generalize (c:Rat) / (d:Rat)=y at *
  rw [← h1,← h2]
  have bd:=Rat.mul_pos br dr
  constructor
  · intro h
    have:=Rat.mul_pos (show 0<y - x by grind) bd
    grind
  · intro h
    refine Rat.not_le.mp fun z=>?_
    have:=Rat.mul_le_mul_of_nonneg_right z (show 0≤(b:Rat)*(d:Rat) by grind)
    grind
theorem Sm.vp {o:Nat→Nat} {w:Int} (h:Sm o w) {p:Nat} (hp:Pr p):vpI p w≤261:=by
  have w0:=h.1
  obtain ⟨x,ex,nx⟩:=qck hp w.natAbs w.natAbs (Nat.le_refl _) (by omega)
  refine Nat.le_trans ((Nat.le_log2 (by omega)).mpr ?_) h.bd
  have x0:0<x:=Nat.pos_of_ne_zero fun z=>nx (z ▸ Nat.dvd_zero _)
  have a:2 ^ vpI p w≤p ^ vpI p w:=Nat.pow_le_pow_left hp.two _
  have b:p ^ vpI p w≤p ^ vpI p w*x:=Nat.le_mul_of_pos_right _ x0
  have c:w.natAbs=p ^ vpI p w*x:=ex
  omega
theorem qlr {p:Nat} {zs:List Pce} (h:∀ z∈zs,vpI p z.2=0):WP p zs=0:=by
  induction zs with
  | nil=>rfl
  | cons z zs ih=>
    show val z.1*(vpI p z.2:Rat)+WP p zs=0
    rw [ih fun y hy=>h y (List.mem_cons_of_mem _ hy),h z (List.mem_cons_self ..)]
    push_cast;grind
theorem qkr {p:Nat} {w:Int} (w0:0<w) (d:p∣w.natAbs):1≤vpI p w:=by
  unfold vpI
  obtain ⟨n,hn⟩:∃ n,w.natAbs=n+1:=⟨w.natAbs - 1,by omega⟩
  rw [hn] at d ⊢
  show 1≤(if p∣n+1 then _ else 0)
  rw [if_pos d];omega
theorem qiN {p:Nat} (hp:Pr p) {x y:Int} (d:p∣x.natAbs) (c:Int.gcd x y=1):vpI p y=0:=qgr fun d2=>by
  have:p∣Int.gcd x y:=Nat.dvd_gcd d d2
  rw [c] at this
  have:=Nat.le_of_dvd (by decide) this
  have:=hp.two
  omega
theorem qgs {p:Nat} (hp:Pr p) {ys:List Pce} (cop:ys.Pairwise Cp) {y:Pce} (hy:y∈ys) (d:p∣y.2.natAbs):WP p ys=val y.1*(vpI p y.2:Rat):=by
  induction ys with
  | nil=>cases hy
  | cons z zs ih=>
    obtain ⟨c1,c2⟩:=List.pairwise_cons.mp cop
    show val z.1*(vpI p z.2:Rat)+WP p zs=_
    rcases List.mem_cons.mp hy with rfl | hy
    · rw [qlr fun x hx=>qiN hp d (c1 x hx)];grind
    · have c:Int.gcd y.2 z.2=1:=by rw [Int.gcd_comm];exact c1 y hy
      rw [ih c2 hy,qiN hp d c];push_cast;grind
theorem qj0 {p:Nat} (hp:Pr p) {t:Nat} {xs:List (Nu×Nu)} {o:Nat→Nat} (h:∀ x∈xs,Rz o t x):∃ k:Int,WR p xs=(k:Rat) / 60∧k.natAbs≤xs.length*(262*2 ^ t):=by
  induction xs with
  | nil=>exact ⟨0,by show (0:Rat)=_;push_cast;grind,Nat.zero_le _⟩
  | cons x xs ih=>
    obtain ⟨k,e,b⟩:=ih fun y hy=>h y (List.mem_cons_of_mem _ hy)
    obtain ⟨⟨_,m,em,bm⟩,s1,s2⟩:=h x (List.mem_cons_self ..)
    have v1:=s1.vp hp
    have v2:=s2.vp hp
    refine ⟨m*((vpI p x.2.1:Int) - (vpI p x.2.2:Int))+k,?_,?_⟩
    · show val x.1*((vpI p x.2.1:Rat) - (vpI p x.2.2:Rat))+WR p xs=_
      rw [em,e];push_cast;grind
    · have a1:=Int.natAbs_add_le (m*((vpI p x.2.1:Int) - (vpI p x.2.2:Int))) k
      have a2:(m*((vpI p x.2.1:Int) - (vpI p x.2.2:Int))).natAbs≤2 ^ t*262:=by
        rw [Int.natAbs_mul]
        exact Nat.mul_le_mul (Nat.le_of_lt bm) (by omega)
      have a3:(xs.length+1)*(262*2 ^ t)=xs.length*(262*2 ^ t)+2 ^ t*262:=by grind
      show _≤(xs.length+1)*(262*2 ^ t)
      omega
theorem sharp {o:Nat→Nat} {s t:Nat} {ys:List Pce} {xs:List (Nu×Nu)} (h:Sd o s ys) (hx:∀ x∈xs,Rz o t x) (l:xs.length≤24) (wt:∀ p,Pr p→WP p ys=WR p xs):Sd o (t+13) ys:=by
  refine ⟨fun y hy=>?_,h.cp,h.so,h.l8⟩
  obtain ⟨⟨lo,k,ek,_⟩,y0,y1,sy⟩:=h.sz y hy
  refine ⟨⟨lo,k,ek,?_⟩,y0,y1,sy⟩
  obtain ⟨P,hp,d⟩:=qlk y1
  obtain ⟨m,em,bm⟩:=qj0 hp hx
  have v1:1≤vpI P y.2:=qkr (by omega) d
  have e:=(qgs hp h.cp hy d).symm.trans ((wt _ hp).trans em)
  have ki:k*((vpI P y.2:Nat):Int)=m:=by
    rw [ek] at e
    have:(k:Rat)*((vpI P y.2:Nat):Rat)=(m:Rat):=by
      have e:(k:Rat) / 60*((vpI P y.2:Nat):Rat)=(m:Rat) / 60:=e
      grind
    exact_mod_cast this
  have b1:k.natAbs≤m.natAbs:=by
    rw [← ki,Int.natAbs_mul,Int.natAbs_natCast]
    exact Nat.le_mul_of_pos_right _ (by omega)
  have b2:xs.length*(262*2 ^ t)≤24*(262*2 ^ t):=Nat.mul_le_mul_right _ l
  have b3:2 ^ (t+13)=8192*2 ^ t:=by rw [Nat.pow_add];omega
  have b4:0<2 ^ t:=Nat.pow_pos (by decide)
  show k.natAbs<2 ^ (t+13)
  omega
theorem LN.kp {H H':Hp} {o:Addr} {q:Nu} {xs:List (Nu×Nu)} (t:Tp H H') (h:LN H o q xs):LN H' o q xs:=by
  obtain ⟨qa,ta,us,h1,h2,h3,h4⟩:=h
  exact ⟨qa,ta,us,t _ _ h1,t _ _ h2,t _ _ h3,h4.mono fun _ _ h=>h.tp t⟩
theorem Tab.tp {H H':Hp} (h:Tab H) (k:Kp qcj H H'):Tp H H':=fun b xs e=>k b _ (TabOk.ne h (.inl e)) e
theorem qdS (p:Nat) (hp:Pr p) (ys:List Pce):WR p (ys.map qeL)=WP p ys:=by
  induction ys with
  | nil=>rfl
  | cons y ys ih=>
    show val y.1*((vpI p y.2:Rat) - (vpI p 1:Rat))+WR p (ys.map qeL)=val y.1*(vpI p y.2:Rat)+WP p ys
    rw [ih,qfQ hp];push_cast;grind
theorem Sd.rz {o:Nat→Nat} {t:Nat} {ys:List Pce} (h:Sd o t ys) (s1:Sm o 1):∀ x∈ys.map qeL,Rz o t x:=fun x hx=>by
  obtain ⟨y,hy,rfl⟩:=List.mem_map.mp hx
  obtain ⟨a,_,b,c⟩:=h.sz y hy
  exact ⟨a,c,s1⟩
theorem Sd.nil {o:Nat→Nat} {t:Nat} {ys:List Pce} (h:Sd o t ys) (w:∀ p,Pr p→WP p ys=0):ys=[]:=by
  cases ys with
  | nil=>rfl
  | cons y ys=>
    obtain ⟨⟨lo,_⟩,y0,y1,sy⟩:=h.sz y (List.mem_cons_self ..)
    obtain ⟨P,hp,d⟩:=qlk y1
    have v1:1≤vpI P y.2:=qkr (by omega) d
    have e:=(qgs hp h.cp (List.mem_cons_self ..) d).symm.trans (w _ hp)
    have v2:((vpI P y.2:Nat):Rat)≠0:=by
      intro z
      have:vpI P y.2=0:=by exact_mod_cast z
      omega
    have:val y.1=0:=by
      rcases Rat.mul_eq_zero.mp e with z | z
      · exact z
      · exact absurd z v2
    unfold val at this
    have d1:(y.1.2:Rat)≠0:=qa0 (by have:=lo.pos;omega)
    have h1:(y.1.1:Rat) / (y.1.2:Rat)*(y.1.2:Rat)=y.1.1:=Rat.div_mul_cancel d1
    rw [this] at h1
    have:(y.1.1:Rat)=0:=by rw [← h1];grind
    exact absurd (by exact_mod_cast this) y0
theorem qiO (h:qbU K vs H Q E):qjO K { nx:=fun _ H'=>Q .non H',rt:=Q } (L2.start ["one", "other"] vs) H:=by
  obtain ⟨p,q,a,b,c,d,rfl,hp,hq,ba,bb,bc,bd,k⟩:=h
  exact qcv ⟨_,rfl,_,_,_,_,rfl,rfl,hp,rfl,_,rfl,_,_,_,_,rfl,rfl,hq,rfl,_,_,rfl,rfl,qbO ba bd,_,rfl,_,_,_,_,rfl,rfl,hq,rfl,_,rfl,_,_,_,_,rfl,rfl,hp,rfl,_,_,rfl,rfl,qbO bc bb,_,_,rfl,rfl,k⟩
theorem qdZ (h:qaE K vs H Q E):qeN K { nx:=fun _ H'=>Q .non H',rt:=Q } (L2.start ["_law_one", "_law_other"] vs) H:=by
  obtain ⟨p,q,a,b,c,d,rfl,hp,hq,ba,bb,bc,bd,k⟩:=h
  exact qcv ⟨_,rfl,_,_,_,_,rfl,rfl,hp,rfl,_,rfl,_,_,_,_,rfl,rfl,hq,rfl,_,_,rfl,rfl,qbO ba bd,_,rfl,_,_,_,_,rfl,rfl,hq,rfl,_,rfl,_,_,_,_,rfl,rfl,hp,rfl,_,_,rfl,rfl,qbO bc bb,_,_,rfl,rfl,k⟩
theorem qmY {n:Nat} {i:Int} (h:Bd n i) (n0:0<n):blN i≤n:=by
  unfold blN
  split
  · omega
  · have:=h.log2 n0
    omega
theorem qiP {b n:Nat} (h:b<n):Bd n ((2:Int) ^ b):=by
  show ((2:Int) ^ b).natAbs<2 ^ n
  rw [Int.natAbs_pow]
  exact Nat.pow_lt_pow_right (by decide) h
theorem qj1 {a b M:Int} {z:Rat} (hz:z*(b:Rat)=(a:Rat)) (b0:0<b):(((a*M / b:Int):Rat)≤z*(M:Rat))∧z*(M:Rat)≤((a*M / b:Int):Rat)+1:=by
  obtain ⟨f1,f2⟩:=qfK (a:=a*M) b0
  have br:(0:Rat)<(b:Rat):=by exact_mod_cast b0
  have e:((a*M:Int):Rat)=z*(b:Rat)*(M:Rat):=by rw [hz];push_cast;rfl
  rw [e] at f1 f2
  generalize ((a*M / b:Int):Rat)=p at *
  constructor
  · refine Rat.not_lt.mp fun c=>?_
    have:=Rat.mul_pos br (show 0<p - z*(M:Rat) by grind)
    grind
  · refine Rat.not_lt.mp fun c=>?_
    have:=Rat.mul_pos br (show 0<z*(M:Rat) - (p+1) by grind)
    grind
theorem Ser.small {z:Rat} {M:Int} {k:Nat} {p tot:Int} (h:Ser z (M:Rat) k p tot) (M0:0<M) (z0:0≤z) (z3:3*z≤1):p≤M:=by
  have Mr:(0:Rat)<(M:Rat):=by exact_mod_cast M0
  have h1:=Rat.mul_le_mul_of_nonneg_right (qmJ z0 z3 k) (show (0:Rat)≤(M:Rat) by grind)
  have h2:=h.pu
  have:(p:Rat)≤(M:Rat):=by grind
  exact_mod_cast this
theorem qd0 (h:qaR K vs H Q E):qeM K { nx:=fun _ H'=>Q .non H',rt:=Q } (L2.start ["top", "bottom", "bits", "power", "square", "total", "n"] vs) H:=by
  obtain ⟨top,bot,b,rfl,t0,h3,b0,bt,b1k,k⟩:=h
  obtain ⟨z,hz,z0,z3,hx⟩:=zq t0 h3 b0
  have M0:(0:Int)<(2:Int) ^ b:=Int.pow_pos (by decide)
  have cN:(((2:Int) ^ b:Int):Rat)=((2 ^ b:Nat):Rat):=by push_cast;rfl
  have mB:Bd 1025 ((2:Int) ^ b):=qiP (by omega)
  refine qa6 ⟨_,rfl,_,rfl,_,_,rfl,rfl,⟨Int.natCast_nonneg b,by have:=qmY bt (by decide);omega⟩,_,rfl,_,_,rfl,rfl,b0,?_⟩
  show qbZ K _ [some (.int top),some (.int bot),some (.int b),some (.int (top*(2:Int) ^ b / bot)),none,none,none] _
  obtain ⟨pu,pl⟩:=qj1 (M:=(2:Int) ^ b) hz b0
  have p0:0≤top*(2:Int) ^ b / bot:=Int.ediv_nonneg (Int.mul_nonneg t0 (by omega)) (by omega)
  generalize top*(2:Int) ^ b / bot=p at pu pl p0 ⊢
  have Mr:(0:Rat)<(((2:Int) ^ b:Int):Rat):=by exact_mod_cast M0
  have S0:=qjM (M:=(((2:Int) ^ b:Int):Rat)) Mr z0 z3 p0 pu pl
  have bp:Bd 1025 p:=mB.le (by have:=S0.small M0 z0 z3;omega)
  obtain ⟨su,sl⟩:=qis M0 z0 z3 p0 pu pl
  refine qa6 ⟨_,rfl,_,rfl,_,_,rfl,rfl,qnH bp bp,_,rfl,_,_,rfl,rfl,Int.natCast_nonneg b,?_⟩
  show qbY K _ [some (.int top),some (.int bot),some (.int b),some (.int p),some (.int ((p*p).fdiv ((2:Int) ^ b))),none,none] _
  rw [Int.fdiv_eq_ediv_of_nonneg _ (show 0≤(2:Int) ^ b by omega)]
  have s0:0≤p*p / (2:Int) ^ b:=Int.ediv_nonneg (Int.mul_nonneg p0 p0) (by omega)
  generalize p*p / (2:Int) ^ b=s at su sl s0 ⊢
  have bs:Bd 1025 s:=by
    refine mB.le ?_
    have zz:=qle z0 z3
    have:=Rat.mul_le_mul_of_nonneg_right zz (show (0:Rat)≤(((2:Int) ^ b:Int):Rat) by grind)
    have:(s:Rat)≤(((2:Int) ^ b:Int):Rat):=by grind
    have:s≤(2:Int) ^ b:=by exact_mod_cast this
    omega
  refine qa6 ?_
  show qbX K _ _ _
  refine qa6 ?_
  show qbW K _ [some (.int top),some (.int bot),some (.int b),some (.int p),some (.int s),some (.int 0),some (.int 1)] _
  refine while_by (fun m σ H'=>∃ (n:Nat) (p tot:Int),σ=[some (.int top),some (.int bot),some (.int b),some (.int p),some (.int s),some (.int tot),some (.int ((2*n+1:Nat):Int))]∧H'=H∧Ser z (((2:Int) ^ b:Int):Rat) n p tot∧0≤tot∧n≤b∧m=b - n) _ ⟨0,p,0,rfl,rfl,S0,by decide,Nat.zero_le _,rfl⟩ ?_
  rintro m σ H' ⟨n,p,tot,rfl,rfl,S,tt0,nb,rfl⟩
  have p0:=S.p0
  refine ⟨_,rfl,_,_,rfl,rfl,_,rfl,qbJ (fun c=>?_) (fun c=>?_)⟩
  · have c:0<p:=of_decide_eq_true c
    have few:=Ser.few (b:=b) (cN ▸ S) z0 z3 c
    have bp:Bd 1025 p:=mB.le (by have:=S.small M0 z0 z3;omega)
    have n0:(0:Int)<((2*n+1:Nat):Int):=by omega
    refine ⟨_,fun _ _ h=>h,?_⟩
    show qbu K _ _ _
    refine ⟨_,rfl,_,rfl,_,rfl,_,_,rfl,rfl,n0,_,_,rfl,rfl,?_⟩
    show qbt K _ [some (.int top),some (.int bot),some (.int b),some (.int p),some (.int s),some (.int (tot+p / ((2*n+1:Nat):Int))),some (.int ((2*n+1:Nat):Int))] _
    refine qa6 ⟨_,rfl,_,rfl,_,_,rfl,rfl,qnH bp bs,_,rfl,_,_,rfl,rfl,Int.natCast_nonneg b,?_⟩
    show qbs K _ [some (.int top),some (.int bot),some (.int b),some (.int ((p*s).fdiv ((2:Int) ^ b))),some (.int s),some (.int (tot+p / ((2*n+1:Nat):Int))),some (.int ((2*n+1:Nat):Int))] _
    rw [Int.fdiv_eq_ediv_of_nonneg _ (show 0≤(2:Int) ^ b by omega)]
    have q0:0≤p / ((2*n+1:Nat):Int):=Int.ediv_nonneg p0 (by omega)
    refine ⟨_,rfl,_,_,rfl,rfl,b - (n+1),by omega,n+1,_,_,?_,rfl,qjN M0 z0 z3 S s0 su sl,by omega,few,rfl⟩
    show [some (V.int top),some (V.int bot),some (V.int b),some (V.int (p*s / (2:Int) ^ b)),some (V.int s),some (V.int (tot+p / ((2*n+1:Nat):Int))),some (V.int (((2*n+1:Nat):Int)+2))]=_
    have e:((2*n+1:Nat):Int)+2=((2*(n+1)+1:Nat):Int):=by omega
    rw [e]
  · have c:¬ 0<p:=fun y=>c (decide_eq_true y)
    have pz:p=0:=by omega
    subst pz
    show qbV K _ _ _
    refine qcv (qaB ⟨_,rfl,_,_,rfl,rfl,qjS (by decide) (by decide),_,rfl,_,rfl,_,_,rfl,rfl,_,_,rfl,rfl,_,_,rfl,rfl,qjS (by decide) (by decide),qb5,fun r hr=>?_⟩)
    exact k r _ _ hr fun x hx'=>S.lg M0 z0 z3 tt0 (hx x hx') (by omega) (by omega)
theorem qmZ {w:Int} (w0:0<w):∃ e:Nat,(blN w:Int) - 1=(e:Int)∧(2:Int) ^ e≤w∧w<2*(2:Int) ^ e:=by
  obtain ⟨n,rfl⟩:∃ n:Nat,w=(n:Int):=⟨w.natAbs,by omega⟩
  have n0:n≠0:=by omega
  refine ⟨n.log2,?_,?_,?_⟩
  · unfold blN
    rw [if_neg (by omega),Int.natAbs_natCast];omega
  · have:=Nat.log2_self_le n0
    have:((2 ^ n.log2:Nat):Int)≤(n:Int):=by exact_mod_cast this
    push_cast at this;exact this
  · have:=Nat.lt_log2_self (n:=n)
    have:((n:Nat):Int)<((2 ^ (n.log2+1):Nat):Int):=by exact_mod_cast this
    rw [Nat.pow_succ] at this
    push_cast at this
    omega
theorem qfR (h:qbH K vs H Q E):qg1 K { nx:=fun _ H'=>Q .non H',rt:=Q } (L2.start ["whole", "bits", "exponent", "scale", "rest", "two"] vs) H:=by
  obtain ⟨w,b,rfl,w0,bw,b1k,k⟩:=h
  obtain ⟨e,eb,l1,l2⟩:=qmZ w0
  have e210:e<262:=by
    have:=qmY bw (by decide)
    omega
  refine qa6 ⟨_,rfl,rfl,w,rfl,rfl,_,_,rfl,rfl,?_⟩
  show qcY K _ [some (.int w),some (.int b),some (.int ((blN w:Int) - 1)),none,none,none] _
  rw [eb]
  refine qa6 ⟨_,rfl,_,_,rfl,rfl,⟨Int.natCast_nonneg e,?_⟩,?_⟩
  · have:blN 1=1:=by decide +kernel
    rw [this];omega
  show qcX K _ [some (.int w),some (.int b),some (.int (e:Int)),some (.int (1*(2:Int) ^ e)),none,none] _
  rw [Int.one_mul]
  have s0:(0:Int)<(2:Int) ^ e:=Int.pow_pos (by decide)
  have sr:(2:Rat) ^ e=(((2:Int) ^ e:Int):Rat):=by push_cast;rfl
  generalize (2:Int) ^ e=s at l1 l2 s0 sr ⊢
  refine qih ⟨_,rfl,_,rfl,_,_,rfl,rfl,_,rfl,_,rfl,_,_,rfl,rfl,_,rfl,w - s,w+s,b,rfl,by omega,by omega,by omega,(bw.le (y:=w - s) (by omega)).mono (by decide),b1k,fun r1 lo1 hi1 hr1 L1=>?_⟩
  have sa:=qag hr1 (HO.tup [V.int lo1,V.int hi1])
  have h11:upd H r1 (HO.tup [V.int lo1,V.int hi1]) r1=_:=qad
  show qcW K _ [some (.int w),some (.int b),some (.int (e:Int)),some (.int s),some (.ref r1),none] _
  generalize upd H r1 (HO.tup [V.int lo1,V.int hi1])=H1 at sa h11 ⊢
  refine qih ⟨_,rfl,1,3,b,rfl,by decide,by decide,by decide,(show Bd 1 1 by unfold Bd;decide).mono (by decide),b1k,fun r2 lo2 hi2 hr2 L2=>?_⟩
  have sb:=qag hr2 (HO.tup [V.int lo2,V.int hi2])
  have h22:upd H1 r2 (HO.tup [V.int lo2,V.int hi2]) r2=_:=qad
  have h12:=sb _ _ h11
  show qcV K _ [some (.int w),some (.int b),some (.int (e:Int)),some (.int s),some (.ref r1),some (.ref r2)] _
  generalize upd H1 r2 (HO.tup [V.int lo2,V.int hi2])=H2 at sb h22 h12 ⊢
  have wr:(0:Rat)<(w:Rat):=by exact_mod_cast w0
  have sr0:(0:Rat)<(s:Rat):=by exact_mod_cast s0
  have si:(s:Rat)*(s:Rat)⁻¹=1:=Rat.mul_inv_cancel _ (by grind)
  have L1:=L1 ((w:Rat)*(s:Rat)⁻¹) (by
    push_cast
    generalize (s:Rat)⁻¹=i at *
    grind)
  have L2:=L2 2 (by push_cast;grind)
  have L:=L1.mul (L2.pow e)
  have ex:(w:Rat)*(s:Rat)⁻¹*(2:Rat) ^ e=(w:Rat):=by
    rw [sr]
    generalize (s:Rat)⁻¹=i at *
    grind
  rw [ex] at L
  have L:=L.mono (g':=263*(4*b+4)) (by
    have:(e:Int)*(4*b+4)≤262*(4*b+4):=Int.mul_le_mul_of_nonneg_right (by omega) (by omega)
    omega)
  refine qcv (qaB ⟨_,rfl,_,_,_,_,rfl,rfl,h12,rfl,_,rfl,_,rfl,_,_,_,_,rfl,rfl,h22,rfl,_,_,rfl,rfl,qjS (by omega) (by omega),_,_,rfl,rfl,_,rfl,_,_,_,_,rfl,rfl,h12,rfl,_,rfl,_,rfl,_,_,_,_,rfl,rfl,h22,rfl,_,_,rfl,rfl,qjS (by omega) (by omega),_,_,rfl,rfl,qb5,fun r hr=>?_⟩)
  exact k r _ _ _ ((sa.trans sb).trans (qag hr _)) qad L
noncomputable def Nr (H:Hp) (u:V) (q:Nu):Prop:=∃ p,u=.ref p∧Nm H p q.1 q.2
theorem Nr.tp {H H':Hp} {u:V} {q:Nu} (t:Tp H H') (h:Nr H u q):Nr H' u q:=by
  obtain ⟨p,rfl,h⟩:=h
  exact ⟨p,rfl,t _ _ h⟩
theorem qm0 {α:Type} {R:V→α→Prop} {us:List V} {x y:α} (a:Al R us [x,y]):∃ u v,us=[u,v]∧R u x∧R v y:=by
  cases us with
  | nil=>exact a.elim
  | cons u us=>cases us with
    | nil=>exact a.2.elim
    | cons v us=>cases us with
      | nil=>exact ⟨u,v,rfl,a.1,a.2.1⟩
      | cons _ _=>exact a.2.2.elim
theorem Cz.abs {t:Nat} {q:Nu} (h:Cz t q):val q≤(((2:Int) ^ t:Int):Rat)∧-val q≤(((2:Int) ^ t:Int):Rat):=by
  obtain ⟨lo,k,e,b⟩:=h
  have b:k.natAbs<2 ^ t:=b
  have b:((k.natAbs:Nat):Int)<((2 ^ t:Nat):Int):=by exact_mod_cast b
  have b:((k.natAbs:Nat):Int)<(2:Int) ^ t:=by push_cast at b ⊢;exact b
  have h1:k≤(2:Int) ^ t:=by omega
  have h2:-k≤(2:Int) ^ t:=by omega
  have h1:(k:Rat)≤(((2:Int) ^ t:Int):Rat):=by exact_mod_cast h1
  have h2:-(k:Rat)≤(((2:Int) ^ t:Int):Rat):=by
    have:((-k:Int):Rat)≤(((2:Int) ^ t:Int):Rat):=by exact_mod_cast h2
    rw [Rat.intCast_neg] at this;exact this
  generalize (((2:Int) ^ t:Int):Rat)=T at *
  rw [e]
  constructor <;> grind
theorem qgt {q:Nu} (h:0<q.2):(q.1<0→val q≤0)∧(¬ q.1<0→0≤val q):=by
  have r:(0:Rat)<(q.2:Rat):=by exact_mod_cast h
  have i:0<(q.2:Rat)⁻¹:=Rat.inv_pos.mpr r
  unfold val
  rw [Rat.div_def]
  constructor
  · intro c
    have:(q.1:Rat)≤0:=by exact_mod_cast (show q.1≤0 by omega)
    have:=Rat.mul_le_mul_of_nonneg_right this (show 0≤(q.2:Rat)⁻¹ by grind)
    grind
  · intro c
    have:(0:Rat)≤(q.1:Rat):=by exact_mod_cast (show 0≤q.1 by omega)
    exact Rat.mul_nonneg this (by grind)
theorem seg {c lo hi M G C:Rat} (M0:0<M) (lh:lo≤hi) (hg:hi≤lo+G) (c0:0≤c) (cC:c≤C):c*(lo / M)≤c*(hi / M)∧(c*(hi / M) - c*(lo / M))*M≤C*G:=by
  have h1:lo / M*M=lo:=Rat.div_mul_cancel (by grind)
  have h2:hi / M*M=hi:=Rat.div_mul_cancel (by grind)
  generalize lo / M=a at *
  generalize hi / M=b at *
  have ab:a≤b:=by
    refine Rat.not_lt.mp fun z=>?_
    have:=Rat.mul_pos (show 0<a - b by grind) M0
    grind
  refine ⟨Rat.mul_le_mul_of_nonneg_left ab c0,?_⟩
  have e:(c*b - c*a)*M=c*(b*M - a*M):=by grind
  rw [e,h1,h2]
  exact qdr cC (by grind) c0 (by grind)
theorem qou {c lo hi M G C:Rat} (M0:0<M) (lh:lo≤hi) (hg:hi≤lo+G) (c0:c≤0) (cC:-c≤C):c*(hi / M)≤c*(lo / M)∧(c*(lo / M) - c*(hi / M))*M≤C*G:=by
  obtain ⟨h1,h2⟩:=seg (c:=-c) M0 lh hg (by grind) cC
  constructor
  · grind
  · have e:(c*(lo / M) - c*(hi / M))*M=(-c*(hi / M) - -c*(lo / M))*M:=by grind
    rw [e];exact h2
structure Eo (H0 H:Hp) (la ha:Addr) (lo hi q:Nu) (M:Int) (ys:List Pce) (i:Nat):Prop where
  s:Same H0 H
  hl:Nm H la lo.1 lo.2
  hh:Nm H ha hi.1 hi.2
  ol:OvD (60*M) (1300+i) lo
  oh:OvD (60*M) (1300+i) hi
  le:val lo≤val hi
  wd:(val hi - val lo)*(M:Rat)≤(i:Rat)*(((2:Int) ^ 114:Int):Rat)
  inl:InL (val lo) (val hi) (fun l=>val q+XP l ys)
theorem OvD.big {D:Int} {t:Nat} {q:Nu} (h:OvD D t q) (D0:0<D) (ht:t≤60000000) (bD:Bd 60000000 D):0<q.2∧Bd 60000000 q.1∧Bd 60000000 q.2:=by
  obtain ⟨h1,h2,h3⟩:=h.bd D0
  exact ⟨h3,h1.mono ht,bD.le (by omega)⟩
theorem qiQ {K:W.Frag} {D:Ends} {o la ha ea:Addr} {b:Nat} {o4 o5:Option V} {H0 H1 H5:Hp} {lo hi q A B:Nu} {M:Int} {ys:List Pce} {y:Pce} {i:Nat} {u v:V} (M0:0<M) (bM:Bd 1025 M) (i8:i<8) (e:Eo H0 H1 la ha lo hi q M ys i) (s:Same H1 H5) (he:H5 ea=some (.lst [u,v])) (nu:Nr H5 u A) (nv:Nr H5 v B) (oA:OvD (60*M) 1293 A) (oB:OvD (60*M) 1293 B) (le:val A≤val B) (wd:(val B - val A)*(M:Rat)≤(((2:Int) ^ 114:Int):Rat)) (inl:InL (val A) (val B) (fun l=>val y.1*LW l y.2))
    (k:∀ la' ha' lo' hi' H',Eo H0 H' la' ha' lo' hi' q M (ys++[y]) (i+1)→D.nx [some (.ref o),some (.int b),some (.ref la'),some (.ref ha'),o4,o5,some (.ref ea)] H'):qcf K D [some (.ref o),some (.int b),some (.ref la),some (.ref ha),o4,o5,some (.ref ea)] H5:=by
  have D0:(0:Int)<60*M:=by omega
  have bD:Bd 60000000 (60*M):=((show Bd 6 60 by unfold Bd;decide).mul bM).mono (by decide)
  obtain ⟨ua,rfl,hu⟩:=nu
  obtain ⟨va,rfl,hv⟩:=nv
  obtain ⟨a0,a1,a2⟩:=oA.big D0 (by decide) bD
  obtain ⟨b0,b1,b2⟩:=oB.big D0 (by decide) bD
  obtain ⟨l0,l1,l2⟩:=e.ol.big D0 (by omega) bD
  obtain ⟨h0,h1,h2⟩:=e.oh.big D0 (by omega) bD
  obtain ⟨ol,vl⟩:=e.ol.add D0 (oA.mono (by omega))
  obtain ⟨oh,vh⟩:=e.oh.add D0 (oB.mono (by omega))
  refine qbF ⟨_,rfl,_,rfl,_,_,_,_,rfl,rfl,he,rfl,la,ua,lo.1,lo.2,A.1,A.2,rfl,s _ _ e.hl,hu,l0,a0,l1,l2,a1,a2,fun r hr=>?_⟩
  have sr:=qag hr (HO.tup [V.int (nadd (lo.1,lo.2) (A.1,A.2)).1,V.int (nadd (lo.1,lo.2) (A.1,A.2)).2])
  have hrr:upd H5 r (HO.tup [V.int (nadd (lo.1,lo.2) (A.1,A.2)).1,V.int (nadd (lo.1,lo.2) (A.1,A.2)).2]) r=_:=qad
  show qce K _ [some (.ref o),some (.int b),some (.ref r),some (.ref ha),o4,o5,some (.ref ea)] _
  generalize upd H5 r (HO.tup [V.int (nadd (lo.1,lo.2) (A.1,A.2)).1,V.int (nadd (lo.1,lo.2) (A.1,A.2)).2])=H6 at sr hrr ⊢
  refine qgd (qa5 ⟨_,rfl,_,rfl,_,_,_,_,rfl,rfl,sr _ _ he,rfl,ha,va,hi.1,hi.2,B.1,B.2,rfl,(s.trans sr) _ _ e.hh,sr _ _ hv,h0,b0,h1,h2,b1,b2,fun r2 hr2=>?_⟩)
  have sr2:=qag hr2 (HO.tup [V.int (nadd (hi.1,hi.2) (B.1,B.2)).1,V.int (nadd (hi.1,hi.2) (B.1,B.2)).2])
  refine k r r2 (nadd lo A) (nadd hi B) _ ⟨(e.s.trans s).trans (sr.trans sr2),sr2 _ _ hrr,qad,ol,oh,by rw [vl,vh];have:=e.le;grind,?_,?_⟩
  · have w1:=e.wd
    rw [vl,vh]
    have:((i+1:Nat):Rat)=(i:Rat)+1:=by push_cast;rfl
    rw [this]
    generalize (((2:Int) ^ 114:Int):Rat)=T at *
    grind
  · rw [vl,vh]
    exact (e.inl.add inl).congr fun l _=>by
      show val q+XP l ys+val y.1*LW l y.2=val q+XP l (ys++[y])
      rw [qkq]
      show _=val q+(XP l ys+(val y.1*LW l y.2+0))
      grind
theorem qnN {te:TE} {k:Nat} {D:Ends} {σ:L2.St} {H:Hp} (h:te σ H fun x H1=>∃ (a:Addr) (xs:List V),x=.ref a∧H1 a=some (.lst xs)∧∀ p,H1 p=none→D.nx (σ.set k (some (.ref p))) (upd H1 p (.lst xs.reverse))):qaY (qnD te) (qap k) D σ H:=h
theorem Sm.b262 {o:Nat→Nat} {w:Int} (h:Sm o w):Bd 262 w:=by
  have h1:=h.1
  have h2:=h.2.1
  have e:((2 ^ 262:Nat):Int)=(2:Int) ^ 262:=by decide +kernel
  have:((w.natAbs:Nat):Int)<((2 ^ 262:Nat):Int):=by rw [e];omega
  exact_mod_cast this
theorem Sm.bel {o:Nat→Nat} {w:Int} (h:Sm o w):Bel w:=Bel.of h.1 (by
  have:=h.2.1
  have e:(2:Int) ^ 263=2*(2:Int) ^ 262:=by decide +kernel
  omega)
theorem qg4 (h:qa7 K vs H Q E):qiy K { nx:=fun _ H'=>Q .non H',rt:=Q } (L2.start ["n", "bits", "low", "high", "c", "r", "ends"] vs) H:=by
  obtain ⟨o,qa,ta,us,q,ys,at',b,rfl,ho,hqa,hta,hA,cq,sd,b1k,k⟩:=h
  have M0:(0:Int)<(2:Int) ^ b:=Int.pow_pos (by decide)
  have Mr:(0:Rat)<(((2:Int) ^ b:Int):Rat):=by exact_mod_cast M0
  have mB:Bd 1025 ((2:Int) ^ b):=qiP (by omega)
  have D0:(0:Int)<60*(2:Int) ^ b:=by omega
  have bD:Bd 1200 (60*(2:Int) ^ b):=((show Bd 6 60 by unfold Bd;decide).mul mB).mono (by decide)
  have lu:=hA.length
  rw [List.length_map] at lu
  refine qa6 ⟨_,rfl,_,_,_,_,rfl,rfl,ho,rfl,?_⟩
  show qdG K _ _ _
  refine qa6 ⟨_,rfl,_,_,_,_,rfl,rfl,ho,rfl,?_⟩
  show qdF K _ [some (.ref o),some (.int b),some (.ref qa),some (.ref qa),none,none,none] _
  have oq:OvD (60*(2:Int) ^ b) (1300+0) q:=(cq.ov M0 mB).mono (by decide)
  have E0:Eo H H qa qa q q q ((2:Int) ^ b) [] 0:=⟨Same.refl H,hqa,hqa,oq,oq,Rat.le_refl,by
    have:((0:Nat):Rat)=0:=rfl
    rw [this];grind,(InL.const (val q)).congr fun l _=>by show val q=val q+0;grind⟩
  refine qlo ⟨_,rfl,_,_,_,_,rfl,rfl,ho,rfl,ta,rfl,⟨_,SqT.of hta⟩,ForT.by (xs:=us) (fun i σ H'=>∃ (la ha:Addr) (lo hi:Nu) (o4 o5 o6:Option V),σ=[some (.ref o),some (.int b),some (.ref la),some (.ref ha),o4,o5,o6]∧i≤us.length∧Eo H H' la ha lo hi q ((2:Int) ^ b) (ys.take i) i) ⟨qa,qa,q,q,none,none,none,rfl,Nat.zero_le _,by rw [List.take_zero];exact E0⟩ ?_ ?_ ?_⟩
  · rintro i σ H' _ ⟨la,ha,lo,hi,o4,o5,o6,rfl,_,e⟩
    exact e.s _ _ hta
  · rintro i u σ H1 hu ⟨la,ha,lo,hi,o4,o5,o6,rfl,_,e⟩
    obtain ⟨x,hx,a',ca,da,rfl,h1,h2,h3⟩:=hA.get hu
    have il:=(List.getElem?_eq_some_iff.mp hu).1
    rw [List.getElem?_map] at hx
    obtain ⟨y,hy,rfl⟩:∃ y,ys[i]?=some y∧x=(y.1,(y.2,1)):=by
      cases e:ys[i]? with
      | none=>rw [e] at hx;cases hx
      | some y=>rw [e] at hx;exact ⟨y,rfl,(Option.some.inj hx).symm⟩
    have ym:y∈ys:=by obtain ⟨z,e⟩:=List.getElem?_eq_some_iff.mp hy;exact e ▸ List.getElem_mem z
    obtain ⟨cy,_,y1,sy⟩:=sd.sz y ym
    have tk:ys.take (i+1)=ys.take i++[y]:=by rw [List.take_add_one,hy];rfl
    have i8:i<8:=by have:=sd.l8;omega
    have s01:=e.s
    refine ⟨a',_,rfl,s01 _ _ h1,rfl,_,_,rfl,_,_,rfl,rfl,?_⟩
    show qch K _ [some (.ref o),some (.int b),some (.ref la),some (.ref ha),some (.ref ca),some (.ref da),o6] _
    have h2:Nm H ca y.1.1 y.1.2:=h2
    have h3:Nm H da y.2 1:=h3
    refine qa6 (qik (qa5 ⟨_,rfl,_,_,_,_,rfl,rfl,s01 _ _ h3,rfl,_,rfl,y.2,b,rfl,by omega,sy.b262,b1k,fun r el eh H2 s2 hr2 L=>?_⟩))
    have l0:=L.l0
    have lh:=L.lh
    have wd:=L.wd
    have ls:=L.size M0 (by omega) sy.b262
    have b210:Bd 1034 (262*(2:Int) ^ b):=(show Bd 9 262 by unfold Bd;decide).mul mB
    have bl:Bd 1200 el:=(b210.le (y:=el) (by omega)).mono (by decide)
    have bh:Bd 1200 eh:=((b210.add ((show Bd 21 1078300 by unfold Bd;decide).mono (by decide))).le (y:=eh) (by omega)).mono (by decide)
    have s02:=s01.trans s2
    have e2:∀ z:Int,z∈[el,eh]→Bd 1200 z:=fun z hz=>by
      rcases List.mem_cons.mp hz with rfl | hz
      · exact bl
      · rw [List.mem_singleton.mp hz];exact bh
    have tm:∀ z:Int,Bd 1200 z→OvD (60*(2:Int) ^ b) 1293 (nmul y.1 (qcJ z ((2:Int) ^ b)))∧val (nmul y.1 (qcJ z ((2:Int) ^ b)))=val y.1*((z:Rat) / (((2:Int) ^ b:Int):Rat)):=fun z bz=>
      cy.tm (by rw [qbl M0];exact (qbD M0).pos) M0 (qbE (by omega)) bz
    refine ⟨r,rfl,⟨_,SqT.of hr2⟩,CompJ.tup (xs:=[V.int el,V.int eh]) (fun n zs H'=>n≤2∧Same H2 H'∧zs.length=n∧Al (Nr H') zs (([el,eh].take n).map fun z=>nmul y.1 (qcJ z ((2:Int) ^ b)))) ⟨Nat.zero_le _,Same.refl _,rfl,trivial⟩ ?_ ?_ ?_⟩
    · rintro n zs H' ⟨hn,s3,zl,_⟩
      exact ⟨hn,sz (by omega),s3 _ _ hr2⟩
    · rintro n v zs H3 hv ⟨_,s3,zl,al⟩
      have nl:n<2:=(List.getElem?_eq_some_iff.mp hv).1
      obtain ⟨z,hz,rfl⟩:∃ z,[el,eh][n]?=some z∧v=V.int z:=by
        have:([el,eh].map V.int)[n]?=some v:=hv
        rw [List.getElem?_map] at this
        cases e:[el,eh][n]? with
        | none=>rw [e] at this;cases this
        | some z=>rw [e] at this;exact ⟨z,rfl,(Option.some.inj this).symm⟩
      have bz:=e2 z (by obtain ⟨w,e⟩:=List.getElem?_eq_some_iff.mp hz;exact e ▸ List.getElem_mem w)
      have tk2:[el,eh].take (n+1)=[el,eh].take n++[z]:=by rw [List.take_add_one,hz];rfl
      have ov:OvD ((2:Int) ^ b) 1200 (qcJ z ((2:Int) ^ b)):=⟨by rw [qbl M0];exact qbD M0,z,qbE (by omega),bz⟩
      obtain ⟨g0,g1,g2⟩:=ov.big M0 (by decide) (mB.mono (by decide))
      obtain ⟨c1,c2⟩:=cy.bd
      refine qni ?_
      refine qa5 ⟨_,rfl,qa5 ⟨_,rfl,_,rfl,_,_,rfl,rfl,⟨Int.natCast_nonneg b,?_⟩,z,1*(2:Int) ^ b,rfl,by omega,fun p hp=>?_⟩⟩
      · have:blN 1=1:=by decide +kernel
        rw [this];omega
      rw [Int.one_mul] at *
      generalize hrz:qcJ z ((2:Int) ^ b)=rz at *
      have sp:=qag hp (HO.tup [V.int rz.1,V.int rz.2])
      have hpp:upd H3 p (HO.tup [V.int rz.1,V.int rz.2]) p=_:=qad
      show qbT nmul K _ _ _ _
      generalize upd H3 p (HO.tup [V.int rz.1,V.int rz.2])=H4 at sp hpp ⊢
      refine ⟨ca,p,y.1.1,y.1.2,rz.1,rz.2,rfl,(s02.trans (s3.trans sp)) _ _ h2,hpp,cy.1.pos,g0,c1.mono (by decide),c2.mono (by decide),g1,g2,fun r5 hr5=>?_⟩
      have s5:=qag hr5 (HO.tup [V.int (nmul (y.1.1,y.1.2) (rz.1,rz.2)).1,V.int (nmul (y.1.1,y.1.2) (rz.1,rz.2)).2])
      refine ⟨nl,s3.trans (sp.trans s5),by rw [List.length_append,zl];rfl,?_⟩
      rw [tk2,List.map_append]
      refine (al.mono fun _ _ h=>h.tp (tpS (sp.trans s5))).snoc ⟨r5,rfl,?_⟩
      show Nm _ r5 (nmul y.1 (qcJ z ((2:Int) ^ b))).1 (nmul y.1 (qcJ z ((2:Int) ^ b))).2
      rw [hrz];exact qad
    · rintro zs H3 ⟨_,s3,zl,al⟩ p hp
      have al:Al (Nr H3) zs [nmul y.1 (qcJ el ((2:Int) ^ b)),nmul y.1 (qcJ eh ((2:Int) ^ b))]:=al
      obtain ⟨u,v,rfl,nu,nv⟩:=qm0 al
      obtain ⟨oA,vA⟩:=tm el bl
      obtain ⟨oB,vB⟩:=tm eh bh
      generalize nmul y.1 (qcJ el ((2:Int) ^ b))=A at *
      generalize nmul y.1 (qcJ eh ((2:Int) ^ b))=B at *
      have sp:=qag hp (HO.lst [u,v])
      have hpp:upd H3 p (HO.lst [u,v]) p=_:=qad
      have nu:=nu.tp (tpS sp)
      have nv:=nv.tp (tpS sp)
      have s13:=s2.trans (s3.trans sp)
      show qcg K _ [some (.ref o),some (.int b),some (.ref la),some (.ref ha),some (.ref ca),some (.ref da),some (.ref p)] _
      generalize upd H3 p (HO.lst [u,v])=H4 at sp hpp nu nv s13 ⊢
      obtain ⟨ab1,ab2⟩:=cy.abs
      have lhr:(el:Rat)≤(eh:Rat):=by exact_mod_cast lh
      have wdr:(eh:Rat)≤(el:Rat)+((263*4100:Int):Rat):=by
        have:eh≤el+263*4100:=by omega
        exact_mod_cast this
      have num:(((2:Int) ^ 93:Int):Rat)*((263*4100:Int):Rat)≤(((2:Int) ^ 114:Int):Rat):=by decide +kernel
      have inl:=InL.piece L sy.bel
      refine qjL ⟨_,rfl,_,_,_,_,rfl,rfl,(s01.trans s13) _ _ h2,rfl,_,_,rfl,rfl,_,rfl,qbJ (fun c=>?_) (fun c=>?_)⟩
      · have c:y.1.1<0:=of_decide_eq_true c
        have c0:=(qgt cy.1.pos).1 c
        obtain ⟨g1,g2⟩:=qou Mr lhr wdr c0 ab2
        refine qnN ⟨_,rfl,p,_,rfl,hpp,fun p2 hp2=>?_⟩
        have sq:=qag hp2 (HO.lst [v,u])
        refine qiQ (y:=y) M0 mB i8 e (s13.trans sq) qad (nv.tp (tpS sq)) (nu.tp (tpS sq)) oB oA (by rw [vA,vB];exact g1) (by rw [vA,vB];exact Rat.le_trans g2 num) (by rw [vA,vB];exact inl.neg c0) fun la' ha' lo' hi' H' e'=>?_
        exact ⟨la',ha',lo',hi',_,_,_,rfl,il,by rw [tk];exact e'⟩
      · have c:¬ y.1.1<0:=fun z=>c (decide_eq_true z)
        have c0:=(qgt cy.1.pos).2 c
        obtain ⟨g1,g2⟩:=seg Mr lhr wdr c0 ab1
        refine qiQ (y:=y) M0 mB i8 e s13 hpp nu nv oA oB (by rw [vA,vB];exact g1) (by rw [vA,vB];exact Rat.le_trans g2 num) (by rw [vA,vB];exact inl.pos c0) fun la' ha' lo' hi' H' e'=>?_
        exact ⟨la',ha',lo',hi',_,_,_,rfl,il,by rw [tk];exact e'⟩
  · rintro σ H' ⟨la,ha,lo,hi,o4,o5,o6,rfl,_,e⟩
    rw [lu,List.take_length] at e
    show qdE K _ _ _
    refine qcv (qaB ⟨_,rfl,_,rfl,qb5,fun r hr=>?_⟩)
    have sr:=qag hr (HO.tup [V.ref la,V.ref ha])
    have l8:=sd.l8
    refine k r la ha lo hi _ (e.s.trans sr) qad (sr _ _ e.hl) (sr _ _ e.hh) (e.ol.mono (by omega)) (e.oh.mono (by omega)) e.le (Rat.le_trans e.wd ?_) e.inl
    have l8:((ys.length:Nat):Rat)≤((8:Nat):Rat):=by exact_mod_cast l8
    have:=Rat.mul_le_mul_of_nonneg_right l8 (show (0:Rat)≤(((2:Int) ^ 114:Int):Rat) by decide +kernel)
    refine Rat.le_trans this ?_
    decide +kernel
theorem Sl.big {q:Nu} (h:Sl q):0<q.2∧Bd 60000000 q.1∧Bd 60000000 q.2:=⟨h.1.pos,h.2.1.mono (by decide),h.2.2.mono (by decide)⟩
theorem qls {q r:Nu} (h:Sl q) (h':Sl r):Bd 60000000 (nsub q r).1∧Bd 60000000 (nsub q r).2∧0<(nsub q r).2:=by
  have v:=qgo h.1.pos h'.1.pos
  have lo:=qjJ h.1.pos h'.1.pos
  have o:OvD (q.2*r.2) 4001 (nsub q r):=⟨lo,q.1*r.2 - r.1*q.2,by
    rw [v]
    unfold val
    have a:=qa0 (show q.2≠0 by have:=h.1.pos;omega)
    have b:=qa0 (show r.2≠0 by have:=h'.1.pos;omega)
    have h1:(q.2:Rat)*(q.2:Rat)⁻¹=1:=Rat.mul_inv_cancel _ a
    have h2:(r.2:Rat)*(r.2:Rat)⁻¹=1:=Rat.mul_inv_cancel _ b
    rw [Rat.div_def,Rat.div_def,Rat.div_def]
    push_cast
    rw [Rat.inv_mul_rev]
    generalize (q.2:Rat)⁻¹=i at *
    generalize (r.2:Rat)⁻¹=j at *
    grind,(h.2.1.mul h'.2.2).sub (h'.2.1.mul h.2.2)⟩
  obtain ⟨h1,h2,h3⟩:=o.big (Int.mul_pos h.1.pos h'.1.pos) (by decide) ((h.2.2.mul h'.2.2).mono (by decide))
  exact ⟨h2,h3,h1⟩
theorem qlt (h:qdu K vs H Q E):qmL K { nx:=fun _ H'=>Q .non H',rt:=Q } (L2.start ["one", "width", "n", "bits", "ends"] vs) H:=by
  obtain ⟨o,w,qa,ta,us,q,wd,xs,at',rfl,ho,hqa,hta,hA,hw,cq,ao,hx,l24,sw,w40,hT,k⟩:=h
  refine qbF ⟨_,rfl,_,_,_,_,rfl,rfl,ho,rfl,qdW ⟨_,rfl,_,_,_,_,rfl,rfl,ho,rfl,ta,us,rfl,hta,fun l hl=>?_⟩⟩
  have s1:=qag hl (HO.lst us)
  have hll:upd H l (HO.lst us) l=_:=qad
  have hA1:=hA.mono fun _ _ h=>h.tp (tpS s1)
  have hT1:Tab _:=TabOk.same hT s1
  show qan K _ _ _ _
  generalize upd H l (HO.lst us)=H1 at s1 hll hA1 hT1 ⊢
  refine ⟨.ref qa,l,us,xs,at',rfl,hll,hA1,ao,fun x h=>⟨(hx x h).1,(hx x h).2⟩,l24,hT1,fun n bb ws ys H2 kp tb h1 h2 h3 h4 h5 h6 h7 h8=>?_⟩
  have sd:=sharp (s:=200000) ⟨h4,h5,h6,h7⟩ hx l24 h8
  have tp:Tp H1 H2:=hT1.tp kp
  have hq2:=tp _ _ (s1 _ _ hqa)
  have hw2:=tp _ _ (s1 _ _ hw)
  have k02:Kp qcj H H2:=fun c o n e=>kp c o n (s1 c o e)
  show qgm K _ _ _
  refine qa6 ?_
  show qgl K _ [some (.ref o),some (.ref w),some (.ref n),some (.int 64),none] _
  have fit:∀ {b:Nat} {z:Nu},b≤256→OvD (60*(2:Int) ^ b) 1400 z→Sl z:=fun {b z} hb oz=>by
    have M0:(0:Int)<(2:Int) ^ b:=Int.pow_pos (by decide)
    have mB:Bd 257 ((2:Int) ^ b):=qiP (by omega)
    exact oz.sl (by omega) (by decide) (((show Bd 6 60 by unfold Bd;decide).mul mB).mono (by decide))
  have cvt:∀ {lo hi:Nu},InL (val lo) (val hi) (fun l=>val q+XP l ys)→InL (val lo) (val hi) (fun l=>val q+XR l xs):=fun {lo hi} h=>h.congr fun l no=>by
    show val q+XP l ys=_
    rw [qmX no h8]
  refine qbF ⟨_,rfl,_,rfl,n,qa,bb,ws,q,ys,at',64,rfl,h1,hq2,h2,h3,cq,sd,by decide,fun r a d lo hi H3 s3 hr ha hd ol oh le wi inl=>?_⟩
  show qgk K _ [some (.ref o),some (.ref w),some (.ref n),some (.int 64),some (.ref r)] _
  refine while_by (fun m σ H'=>∃ (b:Nat) (r a d:Addr) (lo hi:Nu),σ=[some (.ref o),some (.ref w),some (.ref n),some (.int b),some (.ref r)]∧(b=64∨b=128∨b=256)∧m=256 - b∧Same H2 H'∧H' r=some (.tup [.ref a,.ref d])∧Nm H' a lo.1 lo.2∧Nm H' d hi.1 hi.2∧Sl lo∧Sl hi∧val lo≤val hi∧(val hi - val lo)*(((2:Int) ^ b:Int):Rat)≤(((2:Int) ^ 117:Int):Rat)∧InL (val lo) (val hi) (fun l=>val q+XR l xs)) _ ⟨64,r,a,d,lo,hi,rfl,.inl rfl,rfl,s3,hr,ha,hd,fit (by decide) ol,fit (by decide) oh,le,wi,cvt inl⟩ ?_
  rintro m σ H4 ⟨b,r,a,d,lo,hi,rfl,hb,rfl,s4,hr,ha,hd,sl,sh,le,wi,inl⟩
  obtain ⟨m1,m2,m3⟩:=qls sh sl
  have vs:=qgo sh.1.pos sl.1.pos
  obtain ⟨w0,w1,w2⟩:=sw.big
  obtain ⟨l0,l1,l2⟩:=sl.big
  obtain ⟨u0,u1,u2⟩:=sh.big
  refine qa5 ⟨_,rfl,qa5 ⟨_,rfl,_,_,_,_,rfl,rfl,hr,rfl,_,rfl,_,_,_,_,rfl,rfl,hr,rfl,d,a,hi.1,hi.2,lo.1,lo.2,rfl,hd,ha,u0,l0,u1,u2,l1,l2,fun r5 hr5=>?_⟩⟩
  have s5:=qag hr5 (HO.tup [V.int (nsub (hi.1,hi.2) (lo.1,lo.2)).1,V.int (nsub (hi.1,hi.2) (lo.1,lo.2)).2])
  have h55:upd H4 r5 (HO.tup [V.int (nsub (hi.1,hi.2) (lo.1,lo.2)).1,V.int (nsub (hi.1,hi.2) (lo.1,lo.2)).2]) r5=_:=qad
  have s25:=s4.trans s5
  show qbU K _ _ _ _
  generalize upd H4 r5 (HO.tup [V.int (nsub (hi.1,hi.2) (lo.1,lo.2)).1,V.int (nsub (hi.1,hi.2) (lo.1,lo.2)).2])=H5 at s5 h55 s25 ⊢
  refine ⟨w,r5,wd.1,wd.2,(nsub hi lo).1,(nsub hi lo).2,rfl,s25 _ _ hw2,h55,w1,w2,m1,m2,_,rfl,qbJ (fun c=>?_) (fun c=>?_)⟩
  · have c:=(qfq w0 m3).mpr (of_decide_eq_true c)
    have c:val wd<val (nsub hi lo):=c
    rw [vs] at c
    have nb:b≠256:=fun e=>by
      subst e
      have n1:(((10:Int) ^ 40:Int):Rat)*(((2:Int) ^ 117:Int):Rat)<(((2:Int) ^ 256:Int):Rat):=by decide +kernel
      have n2:(0:Rat)<(((10:Int) ^ 40:Int):Rat):=by decide +kernel
      have n3:(0:Rat)<(((2:Int) ^ 256:Int):Rat):=by decide +kernel
      generalize (((10:Int) ^ 40:Int):Rat)=T at *
      generalize (((2:Int) ^ 117:Int):Rat)=A at *
      generalize (((2:Int) ^ 256:Int):Rat)=B at *
      have q1:=Rat.mul_le_mul_of_nonneg_right w40 (show 0≤B by grind)
      have q2:=Rat.mul_pos (Rat.mul_pos (show 0<(val hi - val lo) - val wd by grind) n2) n3
      have q3:=Rat.mul_le_mul_of_nonneg_left wi (show 0≤T by grind)
      grind
    refine ⟨_,fun _ _ h=>h,?_⟩
    show qdD K _ _ _
    refine ⟨_,rfl,_,_,rfl,rfl,qlL (by decide) (by decide),?_⟩
    show qdC K _ [some (.ref o),some (.ref w),some (.ref n),some (.int ((b:Int)*2)),some (.ref r)] _
    have e2:(b:Int)*2=((2*b:Nat):Int):=by omega
    rw [e2]
    have b2:2*b≤256:=by omega
    refine qgd (qa5 ⟨_,rfl,_,rfl,n,qa,bb,ws,q,ys,at',2*b,rfl,s25 _ _ h1,s25 _ _ hq2,s25 _ _ h2,h3.mono fun _ _ h=>h.tp (tpS s25),cq,sd,by omega,fun r a d lo hi H3 s3 hr ha hd ol oh le wi inl=>?_⟩)
    exact ⟨256 - 2*b,by omega,2*b,r,a,d,lo,hi,rfl,by omega,rfl,s25.trans s3,hr,ha,hd,fit b2 ol,fit b2 oh,le,wi,cvt inl⟩
  · have c:¬ val wd<val (nsub hi lo):=fun z=>c (decide_eq_true ((qfq w0 m3).mp z))
    rw [vs] at c
    show qgj K _ _ _
    refine ⟨_,rfl,k r a d lo hi H5 (fun z o n e=>s25 z o (k02 z o n e)) (TabOk.same tb s25) (s5 _ _ hr) (s5 _ _ ha) (s5 _ _ hd) sl sh le (by grind) inl⟩
theorem Cz.bd' {q:Nu} (h:Cz 60 q):Bd 400 q.1∧Bd 400 q.2:=⟨h.bd.1.mono (by decide),h.bd.2.mono (by decide)⟩
theorem qiR (h:qbz K vs H Q E):qjP K { nx:=fun _ H'=>Q .non H',rt:=Q } (L2.start ["one", "other"] vs) H:=by
  obtain ⟨o,p,q,r,xs,zs,at',rfl,⟨qa,ta,us,ho,hqa,hta,hA⟩,⟨ra,tb,ws,hp,hra,htb,hB⟩,cq,cr,ao,hx,hz,l24,hT,k⟩:=h
  have lu:=hA.length
  have lw:=hB.length
  obtain ⟨q1,q2⟩:=cq.bd'
  obtain ⟨r1,r2⟩:=cr.bd'
  refine qcv (qa5 (qa5 ⟨_,rfl,o,0,_,_,rfl,rfl,ho,rfl,_,rfl,p,0,_,_,rfl,rfl,hp,rfl,qa,ra,q.1,q.2,r.1,r.2,rfl,hqa,hra,cq.1.pos,cr.1.pos,q1.mono (by decide),q2.mono (by decide),r1.mono (by decide),r2.mono (by decide),fun s hs=>?_⟩))
  have s1:=qag hs (HO.tup [V.int (nadd (q.1,q.2) (r.1,r.2)).1,V.int (nadd (q.1,q.2) (r.1,r.2)).2])
  have hss:upd H s (HO.tup [V.int (nadd (q.1,q.2) (r.1,r.2)).1,V.int (nadd (q.1,q.2) (r.1,r.2)).2]) s=_:=qad
  show tOp qjn _ _ _ _ _
  generalize upd H s (HO.tup [V.int (nadd (q.1,q.2) (r.1,r.2)).1,V.int (nadd (q.1,q.2) (r.1,r.2)).2])=H1 at s1 hss ⊢
  refine qfI (qdW ⟨_,rfl,o,1,_,_,rfl,rfl,s1 _ _ ho,rfl,ta,us,rfl,s1 _ _ hta,fun l1 hl1=>?_⟩)
  have s2:=qag hl1 (HO.lst us)
  have h11:upd H1 l1 (HO.lst us) l1=_:=qad
  have s12:=s1.trans s2
  show tCB qcT _ _ _ _
  generalize upd H1 l1 (HO.lst us)=H2 at s2 h11 s12 ⊢
  refine qdW ⟨_,rfl,p,1,_,_,rfl,rfl,s12 _ _ hp,rfl,tb,ws,rfl,s12 _ _ htb,fun l2 hl2=>?_⟩
  have s3:=qag hl2 (HO.lst ws)
  have h22:upd H2 l2 (HO.lst ws) l2=_:=qad
  have s13:=s12.trans s3
  show qjn _ _ _ _
  generalize upd H2 l2 (HO.lst ws)=H3 at s3 h22 s13 ⊢
  refine ⟨l1,l2,us,ws,rfl,rfl,s3 _ _ h11,h22,sz (by omega),fun l3 hl3=>?_⟩
  have s4:=qag hl3 (HO.lst (us++ws))
  have h33:upd H3 l3 (HO.lst (us++ws)) l3=_:=qad
  have s14:=s13.trans s4
  have hss:=(s2.trans (s3.trans s4)) _ _ hss
  show qan K _ _ _ _
  generalize upd H3 l3 (HO.lst (us++ws))=H4 at s4 h33 s14 hss ⊢
  have hT4:Tab H4:=TabOk.same hT s14
  refine ⟨.ref s,l3,us++ws,xs++zs,at',rfl,h33,(hA.append hB).mono fun _ _ h=>h.tp (tpS s14),ao,fun x h=>?_,by rw [List.length_append];exact l24,hT4,fun rr bb ws' ys H' kp tb' h1 h2 h3 h4 h5 h6 h7 h8=>?_⟩
  · rcases List.mem_append.mp h with h | h
    · exact hx x h
    · exact hz x h
  · exact k rr ys H' (fun c o n e=>kp c o n (s14 c o e)) tb' ⟨s,bb,ws',h1,hT4.tp kp _ _ hss,h2,h3⟩ ⟨h4,h5,h6,h7⟩ fun p hp=>by rw [h8 p hp,qiJ]
theorem qm1 {p t:Nat} {xs:List (Nu×Nu)} (hx:∀ x∈xs,Cz t x.1):WR p (xs.map fun x=>(nmul x.1 (-1,1),x.2)) = - WR p xs:=by
  induction xs with
  | nil=>show (0:Rat) = - 0;grind
  | cons x xs ih=>
    have i2:=ih fun y hy=>hx y (List.mem_cons_of_mem _ hy)
    show val (nmul x.1 (-1,1))*((vpI p x.2.1:Rat) - (vpI p x.2.2:Rat))+WR p (xs.map fun x=>(nmul x.1 (-1,1),x.2)) = - (val x.1*((vpI p x.2.1:Rat) - (vpI p x.2.2:Rat))+WR p xs)
    rw [i2,(hx x (List.mem_cons_self ..)).neg.2]
    generalize val x.1=b,(vpI p x.2.1:Rat) - (vpI p x.2.2:Rat)=c,WR p xs=d
    grind
theorem qfS (h:qaZ K vs H Q E):qg0 K { nx:=fun _ H'=>Q .non H',rt:=Q } (L2.start ["one", "c"] vs) H:=by
  obtain ⟨o,c,q,xs,at',rfl,⟨qa,ta,us,ho,hqa,hta,hA⟩,hc,cq,ao,hx,l24,hT,k⟩:=h
  have lu:=hA.length
  obtain ⟨q1,q2⟩:=cq.bd
  have e1:Bd 1 (-1):=by unfold Bd;decide
  have e2:Bd 1 1:=by unfold Bd;decide
  refine qcv (qa5 (qa5 ⟨_,rfl,o,0,_,_,rfl,rfl,ho,rfl,_,rfl,qa,c,q.1,q.2,-1,1,rfl,hqa,hc,cq.1.pos,(by decide),q1.mono (by decide),q2.mono (by decide),e1.mono (by decide),e2.mono (by decide),fun s hs=>?_⟩))
  have s1:=qag hs (HO.tup [V.int (nmul (q.1,q.2) (-1,1)).1,V.int (nmul (q.1,q.2) (-1,1)).2])
  have hss:upd H s (HO.tup [V.int (nmul (q.1,q.2) (-1,1)).1,V.int (nmul (q.1,q.2) (-1,1)).2]) s=_:=qad
  show qbC _ _ _ _ _ _ _
  generalize upd H s (HO.tup [V.int (nmul (q.1,q.2) (-1,1)).1,V.int (nmul (q.1,q.2) (-1,1)).2])=H1 at s1 hss ⊢
  refine qik ⟨_,rfl,o,1,_,_,rfl,rfl,s1 _ _ ho,rfl,ta,rfl,⟨_,SqT.of (s1 _ _ hta)⟩,CompJ.tup (xs:=us) (fun i ys H'=>i≤us.length∧Same H1 H'∧ys.length=i∧Al (Rw H') ys ((xs.take i).map fun x=>(nmul x.1 (-1,1),x.2))) ⟨Nat.zero_le _,Same.refl _,rfl,by rw [List.take_zero];trivial⟩ ?_ ?_ ?_⟩
  · rintro i ys H' ⟨hi,s2,yl,_⟩
    exact ⟨hi,sz (by omega),s2 _ _ (s1 _ _ hta)⟩
  · rintro i u ys H' hu ⟨hi,s2,yl,al⟩
    obtain ⟨x,hx',b,d,f,rfl,h1,h2,h3⟩:=hA.get hu
    have il:=(List.getElem?_eq_some_iff.mp hu).1
    have xm:x∈xs:=by obtain ⟨z,e⟩:=List.getElem?_eq_some_iff.mp hx';exact e ▸ List.getElem_mem z
    have cx:=(hx x xm).1
    obtain ⟨b1,b2⟩:=cx.bd
    have tk:xs.take (i+1)=xs.take i++[x]:=by rw [List.take_add_one,hx'];rfl
    have s02:=s1.trans s2
    refine ⟨b,_,rfl,s02 _ _ h1,rfl,_,_,rfl,_,_,rfl,rfl,?_⟩
    show qbh _ [some (.ref d),some (.ref f),some (.ref c)] _ _
    refine qaB (qa5 ⟨_,rfl,_,rfl,d,c,x.1.1,x.1.2,-1,1,rfl,s02 _ _ h2,s02 _ _ hc,cx.1.pos,(by decide),b1.mono (by decide),b2.mono (by decide),e1.mono (by decide),e2.mono (by decide),fun r hr=>?_⟩)
    have sr:=qag hr (HO.tup [V.int (nmul (x.1.1,x.1.2) (-1,1)).1,V.int (nmul (x.1.1,x.1.2) (-1,1)).2])
    have hrr:upd H' r (HO.tup [V.int (nmul (x.1.1,x.1.2) (-1,1)).1,V.int (nmul (x.1.1,x.1.2) (-1,1)).2]) r=_:=qad
    show ∃ _,_
    generalize upd H' r (HO.tup [V.int (nmul (x.1.1,x.1.2) (-1,1)).1,V.int (nmul (x.1.1,x.1.2) (-1,1)).2])=H4 at sr hrr ⊢
    refine ⟨_,rfl,qb5,fun p hp=>?_⟩
    have sq:=qag hp (HO.tup [V.ref r,V.ref f])
    have sa:=sr.trans sq
    refine ⟨il,s2.trans sa,by rw [List.length_append,yl];rfl,?_⟩
    rw [tk,List.map_append]
    exact (al.mono fun _ _ h=>h.tp (tpS sa)).snoc ⟨p,r,f,rfl,qad,sq _ _ hrr,(s02.trans sa) _ _ h3⟩
  rintro ys2 H3 ⟨_,s2,yl2,al2⟩ p2 hp2
  rw [lu,List.take_length] at al2
  have sp2:=qag hp2 (HO.lst ys2)
  have h22:upd H3 p2 (HO.lst ys2) p2=some (.lst ys2):=qad
  have al2:=al2.mono fun _ _ h=>h.tp (tpS sp2)
  have s14:=s1.trans (s2.trans sp2)
  have hss:=(s2.trans sp2) _ _ hss
  show qan K _ _ _ _
  generalize upd H3 p2 (HO.lst ys2)=H4 at sp2 h22 s14 al2 hss ⊢
  have hT4:Tab H4:=TabOk.same hT s14
  have hz:∀ x∈xs.map fun x=>(nmul x.1 (-1,1),x.2),Rz at' 46 x:=fun x h=>by
    obtain ⟨z,hz,rfl⟩:=List.mem_map.mp h
    exact ⟨(hx z hz).1.neg.1,(hx z hz).2⟩
  have lz:(xs.map fun x=>(nmul x.1 (-1,1),x.2)).length≤24:=by rw [List.length_map];exact l24
  have wz:=fun p=>qm1 (p:=p) fun x h=>(hx x h).1
  refine ⟨.ref s,p2,ys2,_,at',rfl,h22,al2,ao,fun x h=>⟨(hz x h).1.mono (by decide),(hz x h).2⟩,lz,hT4,fun rr bb ws' ys H' kp tb' h1 h2 h3 h4 h5 h6 h7 h8=>?_⟩
  have sd:=sharp (s:=200000) ⟨h4,h5,h6,h7⟩ hz lz h8
  exact k rr ys H' (fun c o n e=>kp c o n (s14 c o e)) tb' ⟨s,bb,ws',h1,hT4.tp kp _ _ hss,h2,h3⟩ sd fun p hp=>by rw [h8 p hp,wz p]
noncomputable def qj2 (x:Nu×Nu):PySem.W.Dat:=.tuple [qhh x.1,qhh x.2]
theorem qnO {H:Hp} {u:V} {x:Nu×Nu} (h:Rw H u x):RepD H u (qj2 x):=by
  obtain ⟨a,b,d,rfl,h1,h2,h3⟩:=h
  exact .tup h1 (.cons (qmB ⟨b,rfl,h2⟩) (.cons (qmB ⟨d,rfl,h3⟩) .nil))
theorem qm2 {H:Hp} {us:List V} {xs:List (Nu×Nu)} (h:Al (Rw H) us xs):RepA H us (xs.map qj2):=
  Al.ind (M:=fun us xs=>RepA H us (xs.map qj2)) .nil (fun _ _ _ _ r _ ih=>.cons (qnO r) ih) h
theorem qlu {q:Nu} (h:0<q.2):0<val q↔0<q.1:=by
  have:=qfq (a:=0) (b:=1) (c:=q.1) (d:=q.2) (by decide) h
  have e:val (0,1)=0:=by show ((0:Int):Rat) / ((1:Int):Rat)=0;push_cast;grind
  rw [e] at this
  have t:val (q.1,q.2)=val q:=rfl
  rw [t] at this
  rw [this];omega
theorem qlv {q:Nu} (h:0<q.2):val q<0↔q.1<0:=by
  have:=qfq (a:=q.1) (b:=q.2) (c:=0) (d:=1) h (by decide)
  have e:val (0,1)=0:=by show ((0:Int):Rat) / ((1:Int):Rat)=0;push_cast;grind
  rw [e] at this
  have t:val (q.1,q.2)=val q:=rfl
  rw [t] at this
  rw [this];omega
theorem qfT:val (0,1)=0:=by show ((0:Int):Rat) / ((1:Int):Rat)=0;push_cast;grind
theorem nul_cz:Cz 50 (0,1):=⟨⟨by decide,by decide⟩,0,by rw [qfT];push_cast;grind,qla _⟩
theorem qiS {K:W.Frag} {D:Ends} {o0 o1 o2:Option V} {r a d:Addr} {lo:Nu} {H:Hp} {s:Int} (hr:H r=some (.tup [.ref a,.ref d])) (ha:Nm H a lo.1 lo.2) (h1:s=1∧0<lo.1∨s = -1∧¬ 0<lo.1) (k:D.rt (.int s) H):qdx K D [o0,o1,o2,some (.ref r)] H:=by
  refine qcv ⟨_,rfl,r,0,_,_,rfl,rfl,hr,rfl,a,0,_,_,rfl,rfl,ha,rfl,_,_,rfl,rfl,_,rfl,qbJ (fun c=>?_) (fun c=>?_)⟩
  · have c:0<lo.1:=of_decide_eq_true c
    rcases h1 with ⟨e,_⟩ | ⟨_,n⟩
    · rw [e] at k;exact k
    · exact absurd c n
  · have c:¬ 0<lo.1:=fun z=>c (decide_eq_true z)
    rcases h1 with ⟨_,n⟩ | ⟨e,_⟩
    · exact absurd n c
    · rw [e] at k;exact ⟨1,rfl,k⟩
theorem qnP (l:List (Nu×Nu)):PySem.W.kqdOk 7 (.tuple (l.map qj2))=true:=by
  show (l.map qj2).all (PySem.W.kqdOk 6)=true
  rw [List.all_eq_true]
  intro x hx
  obtain ⟨p,_,rfl⟩:=List.mem_map.mp hx
  simp [qj2,qhh,PySem.W.kqdOk]
theorem qn6 (q:Nu) (l:List (Nu×Nu)):PySem.W.kqdOk 8 (.tuple [qhh q,.tuple (l.map qj2)])=true:=by
  show [qhh q,.tuple (l.map qj2)].all (PySem.W.kqdOk 7)=true
  rw [List.all_cons,List.all_cons,List.all_nil,okN q 6,qnP];rfl
theorem qlw {s:Int} {xs:List (Nu×Nu)} (h:Sgn s xs) (s0:s≠0) {lo hi:Rat} (inl:InL lo hi (fun l=>XR l xs)):∃ δ:Rat,1≤δ*(((2:Int) ^ 600:Int):Rat)∧(s=1∧δ≤hi∨s = -1∧lo≤-δ):=by
  rcases h with ⟨e,_⟩ | ⟨e,δ,hi',d1,i⟩ | ⟨e,δ,lo',d1,i⟩
  · exact absurd e s0
  · exact ⟨δ,d1,.inl ⟨e,i.cross inl⟩⟩
  · exact ⟨δ,d1,.inr ⟨e,inl.cross i⟩⟩
theorem qlx {δ:Rat} (h:1≤δ*(((2:Int) ^ 600:Int):Rat)):0<δ:=by
  have n:(0:Rat)<(((2:Int) ^ 600:Int):Rat):=by decide +kernel
  refine Rat.not_le.mp fun z=>?_
  have:=Rat.mul_le_mul_of_nonneg_right z (show (0:Rat)≤(((2:Int) ^ 600:Int):Rat) by grind)
  grind
theorem qg5 (h:qaO K vs H Q E):qix K { nx:=fun _ H'=>Q .non H',rt:=Q } (L2.start ["one", "n", "bits", "ends"] vs) H:=by
  obtain ⟨o,xs,at',s,rfl,⟨qa,ta,us,ho,hqa,hta,hA⟩,ao,hx,l24,hT,sg,k⟩:=h
  refine qbF ⟨_,rfl,_,_,_,_,rfl,rfl,ho,rfl,qdW ⟨_,rfl,_,_,_,_,rfl,rfl,ho,rfl,ta,us,rfl,hta,fun l hl=>?_⟩⟩
  have s1:=qag hl (HO.lst us)
  have hll:upd H l (HO.lst us) l=_:=qad
  have hA1:=hA.mono fun _ _ h=>h.tp (tpS s1)
  have hT1:Tab _:=TabOk.same hT s1
  show qan K _ _ _ _
  generalize upd H l (HO.lst us)=H1 at s1 hll hA1 hT1 ⊢
  refine ⟨.ref qa,l,us,xs,at',rfl,hll,hA1,ao,fun x h=>⟨(hx x h).1,(hx x h).2⟩,l24,hT1,fun n bb ws ys H2 kp tb h1 h2 h3 h4 h5 h6 h7 h8=>?_⟩
  have sd:=sharp (s:=200000) ⟨h4,h5,h6,h7⟩ hx l24 h8
  have tp:Tp H1 H2:=hT1.tp kp
  have hq2:=tp _ _ (s1 _ _ hqa)
  have k02:Kp qcj H H2:=fun c o n e=>kp c o n (s1 c o e)
  have xx:∀ l,(∀ p,¬ Pr p→l p=0)→XP l ys=XR l xs:=fun l no=>qmX no h8
  show qdB K _ [some (.ref o),some (.ref n),none,none] _
  refine qjL (qil (qfI ⟨_,rfl,qaB (qaB ⟨qb5,fun p1 hp1=>?_⟩)⟩))
  have sa:=qag hp1 (HO.tup [V.int 0,V.int 1])
  have haa:upd H2 p1 (HO.tup [V.int 0,V.int 1]) p1=_:=qad
  generalize upd H2 p1 (HO.tup [V.int 0,V.int 1])=H3 at sa haa ⊢
  refine ⟨qn4,fun p2 hp2=>?_⟩
  have sb:=qag hp2 (HO.tup [])
  have hbb:upd H3 p2 (HO.tup []) p2=_:=qad
  have haa:=sb _ _ haa
  have sab:=sa.trans sb
  show [V.ref p1,V.ref p2].length≤sizeLine∧_
  generalize upd H3 p2 (HO.tup [])=H4 at sb hbb haa sab ⊢
  refine ⟨qb5,fun p3 hp3=>?_⟩
  have sc:=qag hp3 (HO.tup [V.ref p1,V.ref p2])
  have hcc:upd H4 p3 (HO.tup [V.ref p1,V.ref p2]) p3=_:=qad
  have haa:=sc _ _ haa
  have hbb:=sc _ _ hbb
  have sc:=sab.trans sc
  show eqD _ _ _ _
  generalize upd H4 p3 (HO.tup [V.ref p1,V.ref p2])=H5 at sc hcc haa hbb ⊢
  have h3:Al (Rw H5) ws (ys.map fun y=>(y.1,(y.2,1))):=h3.mono fun _ _ h=>h.tp (tpS sc)
  have h1:=sc _ _ h1
  have h2:=sc _ _ h2
  have hq5:=sc _ _ hq2
  have tb:Tab H5:=TabOk.same tb sc
  have k05:Kp qcj H H5:=fun c o n e=>sc c o (k02 c o n e)
  clear sa sb sab
  refine ⟨.tuple [qhh (0,1),.tuple ((ys.map fun y=>(y.1,(y.2,1))).map qj2)],.tuple [qhh (0,1),.tuple []],ys.isEmpty,.tup h1 (.cons (qmB ⟨qa,rfl,hq5⟩) (.cons (.tup h2 (qm2 h3)) .nil)),.tup hcc (.cons (qmB ⟨p1,rfl,haa⟩) (.cons (.tup hbb .nil) .nil)),qn6 _ _,qn6 (0,1) [],?_,_,rfl,qbJ (fun c=>?_) (fun c=>?_)⟩
  · cases ys with
    | nil=>exact ⟨fun _=>rfl,fun _=>rfl⟩
    | cons y ys=>
      refine ⟨fun z=>(by cases z),fun z=>?_⟩
      injection z with z
      injection z with _ z
      injection z with z _
      injection z with z
      cases z
  · have en:ys=[]:=by
      cases ys with
      | nil=>rfl
      | cons _ _=>cases c
    subst en
    rcases sg with ⟨e,_⟩ | ⟨e,δ,hi',d1,i⟩ | ⟨e,δ,lo',d1,i⟩
    · rw [e] at k
      exact k H5 k05 tb
    · have i0:InL δ hi' (fun _=>0):=i.congr fun l no=>(xx l no).symm
      have:=i0.cross (InL.const 0)
      have:=qlx d1
      grind
    · have i0:InL lo' (-δ) (fun _=>0):=i.congr fun l no=>(xx l no).symm
      have:=(InL.const 0).cross i0
      have:=qlx d1
      grind
  have yn:ys≠[]:=fun z=>by rw [z] at c;exact c rfl
  have s0:s≠0:=fun z=>by
    rcases sg with ⟨e,w⟩ | ⟨e,_⟩ | ⟨e,_⟩
    · exact yn (sd.nil fun p hp=>by rw [h8 p hp,w p hp])
    · rw [z] at e;cases e
    · rw [z] at e;cases e
  show qdA K _ _ _
  refine qa6 ?_
  show qdz K _ [some (.ref o),some (.ref n),some (.int 64),none] _
  have fit:∀ {b:Nat} {z:Nu},b≤1024→OvD (60*(2:Int) ^ b) 1400 z→0<z.2:=fun {b z} hb oz=>by
    have M0:(0:Int)<(2:Int) ^ b:=Int.pow_pos (by decide)
    exact (oz.bd (by omega)).2.2
  have cvt:∀ {lo hi:Nu},InL (val lo) (val hi) (fun l=>val (0,1)+XP l ys)→InL (val lo) (val hi) (fun l=>XR l xs):=fun {lo hi} h=>h.congr fun l no=>by
    show val (0,1)+XP l ys=_
    rw [qfT,xx l no];grind
  refine qbF ⟨_,rfl,_,rfl,n,qa,bb,ws,(0,1),ys,at',64,rfl,h1,hq5,h2,h3,nul_cz.mono (by decide),sd,by decide,fun r a d lo hi H6 s6 hr ha hd ol oh le wi inl=>?_⟩
  show qdy K _ [some (.ref o),some (.ref n),some (.int 64),some (.ref r)] _
  refine while_by (fun m σ H'=>∃ (b:Nat) (r a d:Addr) (lo hi:Nu),σ=[some (.ref o),some (.ref n),some (.int b),some (.ref r)]∧(b=64∨b=128∨b=256∨b=512∨b=1024)∧m=1024 - b∧Same H5 H'∧H' r=some (.tup [.ref a,.ref d])∧Nm H' a lo.1 lo.2∧Nm H' d hi.1 hi.2∧0<lo.2∧0<hi.2∧(val hi - val lo)*(((2:Int) ^ b:Int):Rat)≤(((2:Int) ^ 117:Int):Rat)∧InL (val lo) (val hi) (fun l=>XR l xs)) _ ⟨64,r,a,d,lo,hi,rfl,.inl rfl,rfl,s6,hr,ha,hd,fit (by decide) ol,fit (by decide) oh,wi,cvt inl⟩ ?_
  rintro m σ H7 ⟨b,r,a,d,lo,hi,rfl,hb,rfl,s7,hr,ha,hd,l0,u0,wi,inl⟩
  obtain ⟨δ,d1,dl⟩:=qlw sg s0 inl
  have dp:=qlx d1
  have out:¬ (lo.1≤0∧0≤hi.1)→(s=1∧0<lo.1∨s = -1∧¬ 0<lo.1):=fun nn=>by
    rcases dl with ⟨e,h⟩ | ⟨e,h⟩
    · have:0<hi.1:=(qlu u0).mp (by grind)
      exact .inl ⟨e,by omega⟩
    · have:lo.1<0:=(qlv l0).mp (by grind)
      exact .inr ⟨e,by omega⟩
  refine ⟨_,rfl,r,0,_,_,rfl,rfl,hr,rfl,a,0,_,_,rfl,rfl,ha,rfl,_,_,rfl,rfl,_,rfl,qbJ (fun c1=>⟨_,rfl,r,1,_,_,rfl,rfl,hr,rfl,d,0,_,_,rfl,rfl,hd,rfl,_,_,rfl,rfl,_,rfl,qbJ (fun c2=>?_) (fun c2=>?_)⟩) (fun c1=>qbJ (fun z=>by cases z) fun _=>?_)⟩
  · have c1:lo.1≤0:=of_decide_eq_true c1
    have c2:0≤hi.1:=of_decide_eq_true c2
    have nb:b≠1024:=fun e=>by
      subst e
      have n1:(((2:Int) ^ 600:Int):Rat)*(((2:Int) ^ 117:Int):Rat)<(((2:Int) ^ 1024:Int):Rat):=by decide +kernel
      have n2:(0:Rat)<(((2:Int) ^ 600:Int):Rat):=by decide +kernel
      have n3:(0:Rat)<(((2:Int) ^ 1024:Int):Rat):=by decide +kernel
      have h1:¬ 0<val lo:=fun z=>by have:=(qlu l0).mp z;omega
      have h2:¬ val hi<0:=fun z=>by have:=(qlv u0).mp z;omega
      have dw:δ≤val hi - val lo:=by
        rcases dl with ⟨_,h⟩ | ⟨_,h⟩ <;> grind
      generalize (((2:Int) ^ 600:Int):Rat)=T at *
      generalize (((2:Int) ^ 117:Int):Rat)=A at *
      generalize (((2:Int) ^ 1024:Int):Rat)=B at *
      have q1:=Rat.mul_le_mul_of_nonneg_right d1 (show 0≤B by grind)
      have q2:=Rat.mul_le_mul_of_nonneg_right dw (show 0≤B by grind)
      have q3:=Rat.mul_le_mul_of_nonneg_left (Rat.le_trans q2 wi) (show 0≤T by grind)
      grind
    refine ⟨_,fun _ _ h=>h,?_⟩
    show qcd K _ _ _
    refine ⟨_,rfl,_,_,rfl,rfl,qlL (by decide) (by decide),?_⟩
    show qcc K _ [some (.ref o),some (.ref n),some (.int ((b:Int)*2)),some (.ref r)] _
    have e2:(b:Int)*2=((2*b:Nat):Int):=by omega
    rw [e2]
    have b2:2*b≤1024:=by omega
    refine qgd (qa5 ⟨_,rfl,_,rfl,n,qa,bb,ws,(0,1),ys,at',2*b,rfl,s7 _ _ h1,s7 _ _ hq5,s7 _ _ h2,h3.mono fun _ _ h=>h.tp (tpS s7),nul_cz.mono (by decide),sd,b2,fun r a d lo hi H3 s3 hr ha hd ol oh le wi inl=>?_⟩)
    exact ⟨1024 - 2*b,by omega,2*b,r,a,d,lo,hi,rfl,by omega,rfl,s7.trans s3,hr,ha,hd,fit b2 ol,fit b2 oh,wi,cvt inl⟩
  · have c2:¬ 0≤hi.1:=fun z=>c2 (decide_eq_true z)
    exact qiS (K:=K) hr ha (out fun z=>c2 z.2) (k H7 (fun c o n e=>s7 c o (k05 c o n e)) (TabOk.same tb s7))
  · have c1:¬ lo.1≤0:=fun z=>c1 (decide_eq_true z)
    exact qiS (K:=K) hr ha (out fun z=>c1 z.1) (k H7 (fun c o n e=>s7 c o (k05 c o n e)) (TabOk.same tb s7))
theorem qnQ {a b c d e f:V}:[a,b,c,d,e,f].length≤sizeLine:=by show 6≤_;exact sz (by decide)
theorem qnR {t b:Int} (bt:Bd 40 t) (b1:1≤b) (b5:b≤5):Cz 46 (qcJ t b):=by
  have b0:0<b:=by omega
  obtain ⟨c,hc,hb⟩:∃ c:Int,b*c=60∧Bd 6 c:=by
    have:b=1∨b=2∨b=3∨b=4∨b=5:=by omega
    rcases this with rfl | rfl | rfl | rfl | rfl
    · exact ⟨60,by decide,by unfold Bd;decide⟩
    · exact ⟨30,by decide,by unfold Bd;decide⟩
    · exact ⟨20,by decide,by unfold Bd;decide⟩
    · exact ⟨15,by decide,by unfold Bd;decide⟩
    · exact ⟨12,by decide,by unfold Bd;decide⟩
  refine ⟨by rw [qbl b0];exact qbD b0,t*c,?_,bt.mul hb⟩
  rw [qbE (by omega)]
  have br:(b:Rat)≠0:=qa0 (by omega)
  have h1:(t:Rat) / (b:Rat)*(b:Rat)=t:=Rat.div_mul_cancel br
  have h2:(b:Rat)*(c:Rat)=60:=by
    have:((b*c:Int):Rat)=((60:Int):Rat):=by rw [hc]
    push_cast at this;exact this
  generalize (t:Rat) / (b:Rat)=x at *
  push_cast
  rw [← h1]
  have:x*(b:Rat)*(c:Rat)=x*60:=by rw [← h2];grind
  rw [this];grind
theorem qnS {d:Int} (h0:0≤d) (h6:d<6):∃ e:Int,atI [V.int (-7),V.int (-2),V.int (-1),V.int 1,V.int 3,V.int 8] d=some (V.int e)∧e≠0∧e.natAbs≤8:=by
  have:d=0∨d=1∨d=2∨d=3∨d=4∨d=5:=by omega
  rcases this with rfl | rfl | rfl | rfl | rfl | rfl
  · exact ⟨-7,rfl,by decide,by decide⟩
  · exact ⟨-2,rfl,by decide,by decide⟩
  · exact ⟨-1,rfl,by decide,by decide⟩
  · exact ⟨1,rfl,by decide,by decide⟩
  · exact ⟨3,rfl,by decide,by decide⟩
  · exact ⟨8,rfl,by decide,by decide⟩
theorem qnT {d:Int} (h0:0≤d) (h6:d<6):∃ e:Nat,atI [V.int 2,V.int 10,V.int 20,V.int 38,V.int 60,V.int 78] d=some (V.int (e:Int))∧e≤78:=by
  have:d=0∨d=1∨d=2∨d=3∨d=4∨d=5:=by omega
  rcases this with rfl | rfl | rfl | rfl | rfl | rfl
  · exact ⟨2,rfl,by decide⟩
  · exact ⟨10,rfl,by decide⟩
  · exact ⟨20,rfl,by decide⟩
  · exact ⟨38,rfl,by decide⟩
  · exact ⟨60,rfl,by decide⟩
  · exact ⟨78,rfl,by decide⟩
theorem qks {K:W.Frag} {D:Ends} {c t:Int} {H:Hp} (bt:Bd 40 t) (t0:t≠0) (k:∀ (r:Addr) (q:Nu) (H':Hp),Same H H'→Nm H' r q.1 q.2→Cz 46 q→q.1≠0→q.2≤5→D.rt (.ref r) H'):qfM K D [some (.int c),some (.int t)] H:=by
  refine qcv (qa5 ⟨_,rfl,qfI (r_c (qii ⟨_,rfl,c,1,5,rfl,by decide,by decide,by decide,fun d d0 d1=>?_⟩))⟩)
  refine ⟨_,_,rfl,rfl,t,1+d,rfl,by omega,fun r hr=>?_⟩
  have cz:=qnR (b:=1+d) bt (by omega) (by omega)
  have v:=qbE (n:=t) (m:=1+d) (by omega)
  have dv:(qcJ t (1+d)).2≤5:=by
    rw [qbl (by omega)]
    have:=Int.le_of_dvd (by omega) (qlb (n:=t) (m:=1+d))
    omega
  refine k r (qcJ t (1+d)) _ (qag hr _) qad cz (fun z=>?_) dv
  have h1:val (qcJ t (1+d))=0:=by unfold val;rw [z,show ((0:Int):Rat)=0 from rfl];grind
  rw [v] at h1
  have br:((1+d:Int):Rat)≠0:=qa0 (by omega)
  have h2:(t:Rat) / ((1+d:Int):Rat)*((1+d:Int):Rat)=t:=Rat.div_mul_cancel br
  rw [h1] at h2
  have:(t:Rat)=0:=by rw [← h2];grind
  exact t0 (by exact_mod_cast this)
theorem qm3 (h:qgi K vs H Q E):qnF K { nx:=fun _ H'=>Q .non H',rt:=Q } (L2.start ["_law_cell", "_law_top"] vs) H:=by
  obtain ⟨c,rfl,k⟩:=h
  refine qa6 (qfI ⟨_,rfl,_,rfl,_,rfl,qnQ,fun q hq=>?_⟩)
  have s1:=qag hq (HO.tup [V.int (-7),V.int (-2),V.int (-1),V.int 1,V.int 3,V.int 8])
  have hqq:upd H q (HO.tup [V.int (-7),V.int (-2),V.int (-1),V.int 1,V.int 3,V.int 8]) q=_:=qad
  refine qii ⟨_,rfl,c,0,6,rfl,by decide,by decide,by decide,fun d d0 d1=>?_⟩
  obtain ⟨e,he,e0,e8⟩:=qnS d0 d1
  refine ⟨q,d,_,_,rfl,rfl,hqq,he,?_⟩
  show qiz K _ [some (.int c),some (.int e)] (upd H q (HO.tup [V.int (-7),V.int (-2),V.int (-1),V.int 1,V.int 3,V.int 8]))
  generalize upd H q (HO.tup [V.int (-7),V.int (-2),V.int (-1),V.int 1,V.int 3,V.int 8])=H1 at s1 ⊢
  have be:Bd 4 e:=Nat.lt_of_le_of_lt e8 (by decide)
  refine qjL (qil (qfI (qii ⟨_,rfl,c,4,4,rfl,by decide,by decide,by decide,fun dd _ _=>⟨rfl,_,rfl,qbJ (fun z=>?_) (fun z=>?_)⟩⟩)))
  · have hP:(10:Int) ^ (11:Int).toNat=100000000000:=by decide
    have bm:Bd 37 (1+c % (10:Int) ^ (11:Int).toNat):=by
      rw [hP]
      show (1+c % 100000000000).natAbs<137438953472
      omega
    have m0:1+c % (10:Int) ^ (11:Int).toNat≠0:=by rw [hP];omega
    refine qgd (qfI ⟨_,rfl,_,rfl,_,_,rfl,rfl,⟨by decide,by decide,by decide⟩,_,_,rfl,rfl,(show (0:Int)<(10:Int) ^ (11:Int).toNat by decide),_,_,rfl,rfl,_,_,rfl,rfl,qnH be bm,?_⟩)
    show qfM K _ [some (.int c),some (.int (e*(1+c % (10:Int) ^ (11:Int).toNat)))] _
    generalize 1+c % (10:Int) ^ (11:Int).toNat=m at bm m0 ⊢
    have b40:Bd 40 (e*m):=by
      show (e*m).natAbs<2 ^ 40
      have bm:m.natAbs<137438953472:=bm
      rw [Int.natAbs_mul]
      have:=Nat.mul_le_mul e8 (Nat.le_of_lt bm)
      have e40:2 ^ 40=8*137438953472:=by decide
      by_cases h:m.natAbs=0
      · rw [h,Nat.mul_zero];decide
      · have:=Nat.mul_le_mul_right m.natAbs e8
        omega
    exact qks b40 (Int.mul_ne_zero e0 m0) fun r q H' s'=>k r q H' (s1.trans s')
  · exact qks (be.mono (by decide)) e0 fun r q H' s'=>k r q H' (s1.trans s')
theorem qg6 (h:qb6 K vs H Q E):qiA K { nx:=fun _ H'=>Q .non H',rt:=Q } (L2.start ["_law_cell", "_law_kind", "_law_bottom", "_law_turn"] vs) H:=by
  obtain ⟨c,kd,rfl,k0,k6,k⟩:=h
  refine qa6 ?_
  show qdI K _ [some (.int c),some (.int kd),some (.int 1),none] _
  refine ⟨qnQ,fun q hq=>?_⟩
  have s1:=qag hq (HO.tup [V.int 2,V.int 10,V.int 20,V.int 38,V.int 60,V.int 78])
  have hqq:upd H q (HO.tup [V.int 2,V.int 10,V.int 20,V.int 38,V.int 60,V.int 78]) q=_:=qad
  obtain ⟨e,he,e78⟩:=qnT k0 k6
  refine ⟨_,rfl,q,kd,_,_,rfl,rfl,hqq,he,(e:Int),rfl,?_⟩
  generalize upd H q (HO.tup [V.int 2,V.int 10,V.int 20,V.int 38,V.int 60,V.int 78])=H1 at s1 ⊢
  refine ⟨by omega,by omega,ForR.by (lo:=0) (n:=e) (fun n σ H'=>n≤e∧∃ o3,σ=[some (.int c),some (.int kd),some (.int ((10:Int) ^ n)),o3]∧H'=H1) ⟨Nat.zero_le _,none,rfl,rfl⟩ ?_ ?_⟩
  · rintro n σ H' hn ⟨_,o3,rfl,rfl⟩
    refine qni ?_
    refine ⟨_,rfl,_,_,rfl,rfl,qlL (by decide) (by decide),hn,some (.int (0+(n:Int))),?_,rfl⟩
    rw [Int.pow_succ];rfl
  · rintro σ H' ⟨_,o3,rfl,rfl⟩
    show qdH K _ _ _
    have e0:(0:Int)<(10:Int) ^ e:=Int.pow_pos (by decide)
    have le:(10:Int) ^ e≤(10:Int) ^ 78:=by
      obtain ⟨m,hm⟩:∃ m,78=e+m:=⟨78 - e,by omega⟩
      have:(0:Int)<(10:Int) ^ m:=Int.pow_pos (by decide)
      rw [hm,Int.pow_add]
      have:=Int.mul_le_mul_of_nonneg_left (show (1:Int)≤(10:Int) ^ m by omega) (show 0≤(10:Int) ^ e by omega)
      omega
    have big:(10:Int) ^ 78+2<(2:Int) ^ 261:=by decide +kernel
    have r1:=Int.emod_nonneg c (show (10:Int) ^ e≠0 by omega)
    have r2:=Int.emod_lt_of_pos c e0
    refine qcv ⟨_,rfl,_,rfl,_,_,rfl,rfl,e0,_,_,rfl,rfl,k _ _ s1 (by omega) (by omega)⟩
theorem qcA (m:Nat):Nat.Coprime m (m+1):=by
  have:Nat.gcd m (m+1)∣1:=by
    have h1:=Nat.gcd_dvd_left m (m+1)
    have h2:=Nat.gcd_dvd_right m (m+1)
    exact (Nat.dvd_add_right h1).mp h2
  exact Nat.dvd_one.mp this
theorem qly (m:Nat):Nat.gcd m (m+2)∣2:=(Nat.dvd_add_right (Nat.gcd_dvd_left m (m+2))).mp (Nat.gcd_dvd_right m (m+2))
theorem qen {a b c d:Nat} (h:Nat.Coprime a b) (h1:c∣a) (h2:d∣b):Nat.Coprime c d:=(h.coprime_dvd_left h1).coprime_dvd_right h2
theorem qiT {u v m:Nat} (hu:u∣m) (hv:v∣m+2) (o:¬ 2∣u):Nat.Coprime u v:=by
  have d:Nat.gcd u v∣2:=Nat.dvd_trans (Nat.dvd_gcd (Nat.dvd_trans (Nat.gcd_dvd_left ..) hu) (Nat.dvd_trans (Nat.gcd_dvd_right ..) hv)) (qly m)
  rcases pr_two.div _ d with e | e
  · exact e
  · exact absurd (e ▸ Nat.gcd_dvd_left u v) o
theorem qlz {u:Nat} (o:¬ 2∣u):Nat.Coprime u 2:=pr_two.cop o
noncomputable def a4 (a b c d:Nat):Nat→Nat
  | 0=>a
  | 1=>b
  | 2=>c
  | _=>d
theorem qm4 {a b c d:Nat} (ha:0<a) (hb:0<b) (hc:0<c) (hd:0<d) (ab:Nat.Coprime a b) (ac:Nat.Coprime a c) (ad:Nat.Coprime a d) (bc:Nat.Coprime b c) (bd:Nat.Coprime b d) (cd:Nat.Coprime c d):At (a4 a b c d):=by
  constructor
  · intro i hi
    have:i=0∨i=1∨i=2∨i=3:=by omega
    rcases this with rfl | rfl | rfl | rfl
    · exact ha
    · exact hb
    · exact hc
    · exact hd
  · intro i j hi hj n
    have h1:i=0∨i=1∨i=2∨i=3:=by omega
    have h2:j=0∨j=1∨j=2∨j=3:=by omega
    rcases h1 with rfl | rfl | rfl | rfl <;> rcases h2 with rfl | rfl | rfl | rfl
    · exact absurd rfl n
    · exact ab
    · exact ac
    · exact ad
    · exact ab.symm
    · exact absurd rfl n
    · exact bc
    · exact bd
    · exact ac.symm
    · exact bc.symm
    · exact absurd rfl n
    · exact cd
    · exact ad.symm
    · exact bd.symm
    · exact cd.symm
    · exact absurd rfl n
theorem qnU (a b c d x y z w:Nat):Mp (a4 a b c d) (a4 x y z w) 4=a ^ x*b ^ y*c ^ z*d ^ w:=by
  show 1*a ^ x*b ^ y*c ^ z*d ^ w=_
  rw [Nat.one_mul]
theorem qfr {a b c d:Nat} {w:Int} (h0:0<w) (h:w<(2:Int) ^ 262) (x y z t:Nat) (e:w.natAbs=a ^ x*b ^ y*c ^ z*d ^ t):Sm (a4 a b c d) w:=⟨h0,h,a4 x y z t,by rw [qnU,← e];omega⟩
theorem qgu {m:Int} (m2:2≤m) (ml:m<(2:Int) ^ 261):∃ o,At o∧Sm o m∧Sm o (m+1)∧Sm o (m+2)∧Sm o 1:=by
  have e262:(2:Int) ^ 262=2*(2:Int) ^ 261:=by decide +kernel
  have p261:(4:Int)≤(2:Int) ^ 261:=by decide +kernel
  obtain ⟨n,rfl⟩:∃ n:Nat,m=(n:Int):=⟨m.natAbs,by omega⟩
  have n1:((n:Int)).natAbs=n:=Int.natAbs_natCast n
  have n2:((n:Int)+1).natAbs=n+1:=by omega
  have n3:((n:Int)+2).natAbs=n+2:=by omega
  by_cases ev:2∣n
  · obtain ⟨u,eu,nu⟩:=qck pr_two n n (Nat.le_refl _) (by omega)
    obtain ⟨v,ev2,nv⟩:=qck pr_two (n+2) (n+2) (Nat.le_refl _) (by omega)
    generalize vp 2 n n=i at eu
    generalize vp 2 (n+2) (n+2)=j at ev2
    have du:u∣n:=⟨2 ^ i,by rw [Nat.mul_comm];exact eu⟩
    have dv:v∣n+2:=⟨2 ^ j,by rw [Nat.mul_comm];exact ev2⟩
    have no:¬ 2∣n+1:=by omega
    have u0:0<u:=Nat.pos_of_ne_zero fun z=>nu (z ▸ Nat.dvd_zero 2)
    have v0:0<v:=Nat.pos_of_ne_zero fun z=>nv (z ▸ Nat.dvd_zero 2)
    refine ⟨a4 u (n+1) v 2,qm4 u0 (by omega) v0 (by omega) (qen (qcA n) du (Nat.dvd_refl _)) (qiT du dv nu) (qlz nu) (qen (qcA (n+1)) (Nat.dvd_refl _) dv) (qlz no) (qlz nv),qfr (by omega) (by omega) 1 0 0 i ?_,qfr (by omega) (by omega) 0 1 0 0 ?_,qfr (by omega) (by omega) 0 0 1 j ?_,qfr (by omega) (by omega) 0 0 0 0 ?_⟩
    · rw [n1,Nat.pow_one,Nat.pow_zero,Nat.pow_zero,Nat.mul_one,Nat.mul_one,Nat.mul_comm];exact eu
    · rw [n2,Nat.pow_one,Nat.pow_zero,Nat.pow_zero,Nat.pow_zero,Nat.one_mul,Nat.mul_one,Nat.mul_one]
    · rw [n3,Nat.pow_one,Nat.pow_zero,Nat.pow_zero,Nat.mul_one,Nat.one_mul,Nat.mul_comm];exact ev2
    · rw [Nat.pow_zero,Nat.pow_zero,Nat.pow_zero,Nat.pow_zero];rfl
  · refine ⟨a4 n (n+1) (n+2) 1,qm4 (by omega) (by omega) (by omega) (by omega) (qcA n) (qiT (Nat.dvd_refl _) (Nat.dvd_refl _) ev) (Nat.coprime_one_right _) (qcA (n+1)) (Nat.coprime_one_right _) (Nat.coprime_one_right _),qfr (by omega) (by omega) 1 0 0 0 ?_,qfr (by omega) (by omega) 0 1 0 0 ?_,qfr (by omega) (by omega) 0 0 1 0 ?_,qfr (by omega) (by omega) 0 0 0 0 ?_⟩
    · rw [n1,Nat.pow_one,Nat.pow_zero,Nat.pow_zero,Nat.pow_zero,Nat.mul_one,Nat.mul_one,Nat.mul_one]
    · rw [n2,Nat.pow_one,Nat.pow_zero,Nat.pow_zero,Nat.pow_zero,Nat.one_mul,Nat.mul_one,Nat.mul_one]
    · rw [n3,Nat.pow_one,Nat.pow_zero,Nat.pow_zero,Nat.pow_zero,Nat.mul_one,Nat.one_mul]
    · rw [Nat.pow_zero,Nat.pow_zero,Nat.pow_zero,Nat.pow_zero];rfl
theorem Sgn.congr {s:Int} {xs zs:List (Nu×Nu)} (h:Sgn s xs) (e:∀ p,Pr p→WR p xs=WR p zs):Sgn s zs:=by
  have x:∀ l,(∀ p,¬ Pr p→l p=0)→XR l xs=XR l zs:=fun l no=>by
    rw [qeP,qeP]
    refine qaP NN fun p _=>?_
    by_cases hp:Pr p
    · rw [e p hp]
    · rw [no p hp];grind
  rcases h with ⟨e1,w⟩ | ⟨e1,δ,hi,d1,i⟩ | ⟨e1,δ,lo,d1,i⟩
  · exact .inl ⟨e1,fun p hp=>by rw [← e p hp,w p hp]⟩
  · exact .inr (.inl ⟨e1,δ,hi,d1,i.congr x⟩)
  · exact .inr (.inr ⟨e1,δ,lo,d1,i.congr x⟩)
theorem Sgn.neg {s:Int} {xs zs:List (Nu×Nu)} (h:Sgn s xs) (e:∀ p,Pr p→WR p zs = - WR p xs):Sgn (-s) zs:=by
  have x:∀ l,(∀ p,¬ Pr p→l p=0)→-1*XR l xs=XR l zs:=fun l no=>by
    rw [qeP,qeP,← qdR]
    refine qaP NN fun p _=>?_
    by_cases hp:Pr p
    · rw [e p hp];grind
    · rw [no p hp];grind
  rcases h with ⟨e1,w⟩ | ⟨e1,δ,hi,d1,i⟩ | ⟨e1,δ,lo,d1,i⟩
  · exact .inl ⟨by omega,fun p hp=>by rw [e p hp,w p hp];grind⟩
  · have i2:=(i.neg (c:=-1) (by decide)).congr x
    have e:(-1:Rat)*δ = -δ:=by grind
    rw [e] at i2
    exact .inr (.inr ⟨by omega,δ,_,d1,i2⟩)
  · have i2:=(i.neg (c:=-1) (by decide)).congr x
    have e:(-1:Rat) * -δ=δ:=by grind
    rw [e] at i2
    exact .inr (.inl ⟨by omega,δ,_,d1,i2⟩)
theorem Sgn.quot {q:Nu} {a b:Int} {xs:List (Nu×Nu)} (ha:Bel a) (hb:Bel b) (h:b<a) (al:a<(2:Int) ^ 530) (q2:0<q.2) (q5:q.2≤5) (hx:∀ l,(∀ p,¬ Pr p→l p=0)→XR l xs=val q*(LW l a - LW l b)):(0<q.1→Sgn 1 xs)∧(q.1<0→Sgn (-1) xs):=by
  have i:=InL.quot ha hb (by omega)
  have ar:(0:Rat)<(a:Rat):=by exact_mod_cast ha.1
  have n0:(0:Rat)<(((2:Int) ^ 530:Int):Rat):=by decide +kernel
  have n1:5*(((2:Int) ^ 530:Int):Rat)≤(((2:Int) ^ 600:Int):Rat):=by decide +kernel
  have n2:(0:Rat)<(((2:Int) ^ 600:Int):Rat):=by decide +kernel
  have alr:(a:Rat)≤(((2:Int) ^ 530:Int):Rat):=by exact_mod_cast (show a≤(2:Int) ^ 530 by omega)
  have hab:(b:Rat)+1≤(a:Rat):=by exact_mod_cast (show b+1≤a by omega)
  have ai:(b:Rat) / (a:Rat)*(a:Rat)=b:=Rat.div_mul_cancel (by grind)
  have qr:(0:Rat)<(q.2:Rat):=by exact_mod_cast q2
  have q5r:(q.2:Rat)≤5:=by exact_mod_cast q5
  have vq:val q*(q.2:Rat)=q.1:=by unfold val;exact Rat.div_mul_cancel (by grind)
  have least:∀ v:Rat,1≤v*(q.2:Rat)→1≤v*(1 - (b:Rat) / (a:Rat))*(((2:Int) ^ 600:Int):Rat):=fun v hv=>by
    have v0:0<v:=by
      refine Rat.not_le.mp fun z=>?_
      have:=Rat.mul_le_mul_of_nonneg_right z (show (0:Rat)≤(q.2:Rat) by grind)
      grind
    have v5:1≤v*5:=by
      have:=Rat.mul_le_mul_of_nonneg_left q5r (show 0≤v by grind)
      grind
    have d1:1≤(1 - (b:Rat) / (a:Rat))*(a:Rat):=by grind
    generalize (((2:Int) ^ 600:Int):Rat)=T at *
    generalize (((2:Int) ^ 530:Int):Rat)=B at *
    generalize 1 - (b:Rat) / (a:Rat)=d at *
    have d0:0<d:=by
      refine Rat.not_le.mp fun z=>?_
      have:=Rat.mul_le_mul_of_nonneg_right z (show (0:Rat)≤(a:Rat) by grind)
      grind
    have h1:=Rat.mul_le_mul_of_nonneg_left alr (show 0≤d by grind)
    have h2:1≤d*B:=by grind
    have h3:=qdr v5 h2 (by decide) (by have:=Rat.mul_pos d0 n0;grind)
    have h4:=Rat.mul_le_mul_of_nonneg_left n1 (show 0≤v*d from Rat.mul_nonneg (by grind) (by grind))
    grind
  constructor
  · intro c
    have c1:(1:Rat)≤(q.1:Rat):=by exact_mod_cast (show (1:Int)≤q.1 by omega)
    have v0:=(qlu q2).mpr c
    refine .inr (.inl ⟨rfl,_,_,least (val q) (by rw [vq];exact c1),(i.pos (c:=val q) (by grind)).congr fun l no=>(hx l no).symm⟩)
  · intro c
    have c1:(q.1:Rat)≤((-1:Int):Rat):=Rat.intCast_le_intCast.mpr (by omega)
    have c1:(q.1:Rat)≤-1:=c1
    have v0:=(qlv q2).mpr c
    have e:val q*(1 - (b:Rat) / (a:Rat)) = -(-val q*(1 - (b:Rat) / (a:Rat))):=by grind
    have i2:=i.neg (c:=val q) (by grind)
    rw [e] at i2
    refine .inr (.inr ⟨rfl,_,_,least (-val q) (by have:-val q*(q.2:Rat) = -(q.1:Rat):=by rw [← vq];grind
                                                  rw [this];grind),i2.congr fun l no=>(hx l no).symm⟩)
theorem qnV {H:Hp}:∀ (ns:List Int),RepA H (ns.map V.int) (ns.map PySem.W.Dat.int)
  | []=>.nil
  | n::ns=>.cons (.int n) (qnV ns)
theorem okI (l:List Int):PySem.W.kqdOk 8 (.list (l.map PySem.W.Dat.int))=true:=by
  show (l.map PySem.W.Dat.int).all (PySem.W.kqdOk 7)=true
  rw [List.all_eq_true]
  intro x hx
  obtain ⟨p,_,rfl⟩:=List.mem_map.mp hx
  rfl
theorem qlA {H H2:Hp} {c p1 p2 p3 p4 p5:Addr} {q:Nu} {a b:Int} (hc:Nm H c q.1 q.2) (h1:H p1=none) (s2:Same (upd H p1 (.tup [.int 0,.int 1])) H2) (n2:Nm H2 p2 a b) (h3:H2 p3=none) (h4:upd H2 p3 (.tup [.ref c,.ref p2]) p4=none) (h5:upd (upd H2 p3 (.tup [.ref c,.ref p2])) p4 (.tup [.ref p3]) p5=none) :
    Same H (upd (upd (upd H2 p3 (.tup [.ref c,.ref p2])) p4 (.tup [.ref p3])) p5 (.tup [.ref p1,.ref p4]))∧LN (upd (upd (upd H2 p3 (.tup [.ref c,.ref p2])) p4 (.tup [.ref p3])) p5 (.tup [.ref p1,.ref p4])) p5 (0,1) [(q,(a,b))]:=by
  have s1:=qag h1 (HO.tup [V.int 0,V.int 1])
  have s3:=qag h3 (HO.tup [V.ref c,V.ref p2])
  have s4:=qag h4 (HO.tup [V.ref p3])
  have s5:=qag h5 (HO.tup [V.ref p1,V.ref p4])
  have s25:=s3.trans (s4.trans s5)
  have s02:=s1.trans s2
  refine ⟨s02.trans s25,p1,p4,[.ref p3],qad,s25 _ _ (s2 _ _ qad),s5 _ _ qad,⟨p3,c,p2,rfl,(s4.trans s5) _ _ qad,(s02.trans s25) _ _ hc,s25 _ _ n2⟩,trivial⟩
structure Ev (H:Hp) (c o1 o2:Addr) (q:Nu) (m:Int):Prop where
  tab:Tab H
  hc:Nm H c q.1 q.2
  l1:LN H o1 (0,1) [(q,(m+1,m))]
  l2:LN H o2 (0,1) [(q,(m+2,m+1))]
theorem Ev.kp {H H':Hp} {c o1 o2:Addr} {q:Nu} {m:Int} (e:Ev H c o1 o2 q m) (k:Kp qcj H H') (t:Tab H'):Ev H' c o1 o2 q m:=⟨t,e.tab.tp k _ _ e.hc,e.l1.kp (e.tab.tp k),e.l2.kp (e.tab.tp k)⟩
theorem kpS {H H':Hp} (s:Same H H'):Kp qcj H H':=fun c o _ e=>s c o e
theorem Ev.same {H H':Hp} {c o1 o2:Addr} {q:Nu} {m:Int} (e:Ev H c o1 o2 q m) (s:Same H H'):Ev H' c o1 o2 q m:=e.kp (kpS s) (TabOk.same e.tab s)
theorem kpT {H H1 H2:Hp} (a:Kp qcj H H1) (b:Kp qcj H1 H2):Kp qcj H H2:=fun c o n e=>b c o n (a c o n e)
theorem qfs {H H':Hp} (t:Tab H) (k:Kp qcj H H') {f:Addr} {zs:List V} (h:H f=some (.lst zs)):H' f=some (.lst zs):=k f _ (TabOk.ne t (.inr h)) h
theorem qiU:nmul (0,1) (-1,1)=(0,1):=by decide +kernel
theorem qiV:nadd (0,1) (0,1)=(0,1):=by decide +kernel
theorem qj3 (m:Int) (h:0<m):Low (m+2) (m+1):=⟨by omega,by
  obtain ⟨n,rfl⟩:∃ n:Nat,m=(n:Int):=⟨m.natAbs,by omega⟩
  have:=qcA (n+1)
  rw [Nat.coprime_comm] at this
  exact this⟩
theorem qg7 (h:qb7 K vs H Q E):qiB K { nx:=fun _ H'=>Q .non H',rt:=Q } (L2.start ["_law_c_here", "_law_m", "_law_one", "_law_other", "_law_sign", "_law_minus_one", "_law_found"] vs) H:=by
  obtain ⟨c,q,m,rfl,hc,cq,q0,q5,m2,ml,hT,k⟩:=h
  obtain ⟨o,ao,sm,sm1,sm2,so1⟩:=qgu m2 ml
  have z1:∀ x∈[(q,((m+1,m):Nu))],Rz o 46 x:=fun x hx=>by rw [List.mem_singleton.mp hx];exact ⟨cq,sm1,sm⟩
  have z2:∀ x∈[(q,((m+2,m+1):Nu))],Rz o 46 x:=fun x hx=>by rw [List.mem_singleton.mp hx];exact ⟨cq,sm2,sm1⟩
  have z18:∀ x∈[(q,((m+1,m):Nu))],Rz o 80 x:=fun x hx=>⟨(z1 x hx).1.mono (by decide),(z1 x hx).2⟩
  obtain ⟨s,hs⟩:∃ s:Int,s=1∧0<q.1∨s = -1∧q.1<0:=by
    rcases Int.lt_trichotomy q.1 0 with y | y | y
    · exact ⟨-1,.inr ⟨rfl,y⟩⟩
    · exact absurd y q0
    · exact ⟨1,.inl ⟨rfl,y⟩⟩
  have pick':∀ {xs:List (Nu×Nu)},(0<q.1→Sgn 1 xs)∧(q.1<0→Sgn (-1) xs)→Sgn s xs:=fun {xs} hh=>by
    rcases hs with ⟨e,y⟩ | ⟨e,y⟩
    · rw [e];exact hh.1 y
    · rw [e];exact hh.2 y
  have e530:(2:Int) ^ 262*(2:Int) ^ 262<(2:Int) ^ 530:=by decide +kernel
  have e262:(2:Int) ^ 262<(2:Int) ^ 530:=by decide +kernel
  have l1:=sm1.2.1
  have sg1:Sgn s [(q,(m+1,m))]:=pick' (Sgn.quot (a:=m+1) (b:=m) sm1.bel sm.bel (by omega) (by omega) cq.1.pos q5 fun l no=>by show val q*(LW l (m+1) - LW l m)+0=_;grind)
  have mm:m*(m+2)<(m+1)*(m+1):=by grind
  have mb:(m+1)*(m+1)<(2:Int) ^ 530:=by
    have:=Int.mul_le_mul (Int.le_of_lt l1) (Int.le_of_lt l1) (by omega) (by omega)
    omega
  have sg2:∀ xs:List (Nu×Nu),(∀ p,Pr p→WR p xs=WR p [(q,(m+1,m))] + - WR p [(q,(m+2,m+1))])→Sgn s xs:=fun xs hw=>pick' (Sgn.quot (a:=(m+1)*(m+1)) (b:=m*(m+2)) (sm1.bel.mul sm1.bel) (sm.bel.mul sm2.bel) mm mb cq.1.pos q5 fun l no=>by
    rw [qiL no sm1.1 sm1.1,qiL no sm.1 sm2.1]
    have e1:XR l [(q,(m+1,m))]=val q*(LW l (m+1) - LW l m):=by show val q*(LW l (m+1) - LW l m)+0=_;grind
    have e2:XR l [(q,(m+2,m+1))]=val q*(LW l (m+2) - LW l (m+1)):=by show val q*(LW l (m+2) - LW l (m+1))+0=_;grind
    have e3:XR l xs=XR l [(q,(m+1,m))] + -1*XR l [(q,(m+2,m+1))]:=by
      rw [qeP,qeP,qeP,← qdR,← qdQ]
      refine qaP NN fun p _=>?_
      by_cases hp:Pr p
      · rw [hw p hp];grind
      · rw [no p hp];grind
    rw [e3,e1,e2];grind)
  refine qa6 (qaB (qaB ⟨qb5,fun p1 h1=>?_⟩))
  refine qij (qaB ⟨_,rfl,qaB ⟨_,rfl,_,_,rfl,rfl,_,rfl,qb5,fun p2 h2=>?_⟩⟩)
  refine ⟨qb5,fun p3 h3=>⟨qim,fun p4 h4=>⟨qb5,fun p5 h5=>?_⟩⟩⟩
  obtain ⟨sA,lA⟩:=qlA hc h1 (qag h2 (HO.tup [V.int (m+1),V.int m])) qad h3 h4 h5
  show qdP K _ [some (.ref c),some (.int m),some (.ref p5),none,none,none,none] (upd (upd (upd (upd (upd H p1 (HO.tup [V.int 0,V.int 1])) p2 (HO.tup [V.int (m+1),V.int m])) p3 (HO.tup [V.ref c,V.ref p2])) p4 (HO.tup [V.ref p3])) p5 (HO.tup [V.ref p1,V.ref p4]))
  generalize upd (upd (upd (upd (upd H p1 (HO.tup [V.int 0,V.int 1])) p2 (HO.tup [V.int (m+1),V.int m])) p3 (HO.tup [V.ref c,V.ref p2])) p4 (HO.tup [V.ref p3])) p5 (HO.tup [V.ref p1,V.ref p4])=H1 at sA lA ⊢
  have hc1:=sA _ _ hc
  clear h1 h2 h3 h4 h5
  refine qa6 (qaB (qaB ⟨qb5,fun q1 h1=>?_⟩))
  refine qij (qaB ⟨_,rfl,qa5 ⟨_,rfl,_,_,rfl,rfl,_,rfl,_,_,rfl,rfl,m+2,m+1,rfl,by omega,fun q2 h2=>?_⟩⟩)
  have e2:=qgq (qj3 m (by omega))
  refine ⟨qb5,fun q3 h3=>⟨qim,fun q4 h4=>⟨qb5,fun q5' h5=>?_⟩⟩⟩
  rw [e2] at h3 h4 h5 ⊢
  obtain ⟨sB,lB⟩:=qlA hc1 h1 (qag h2 (HO.tup [V.int (m+2),V.int (m+1)])) qad h3 h4 h5
  show qdO K _ [some (.ref c),some (.int m),some (.ref p5),some (.ref q5'),none,none,none] (upd (upd (upd (upd (upd H1 q1 (HO.tup [V.int 0,V.int 1])) q2 (HO.tup [V.int (m+2),V.int (m+1)])) q3 (HO.tup [V.ref c,V.ref q2])) q4 (HO.tup [V.ref q3])) q5' (HO.tup [V.ref q1,V.ref q4]))
  generalize upd (upd (upd (upd (upd H1 q1 (HO.tup [V.int 0,V.int 1])) q2 (HO.tup [V.int (m+2),V.int (m+1)])) q3 (HO.tup [V.ref c,V.ref q2])) q4 (HO.tup [V.ref q3])) q5' (HO.tup [V.ref q1,V.ref q4])=H2 at sB lB ⊢
  clear h1 h2 h3 h4 h5
  have sAB:=sA.trans sB
  have e:Ev H2 c p5 q5' q m:=⟨TabOk.same hT sAB,sAB _ _ hc,lA.kp (tpS sB),lB⟩
  have k2:Kp qcj H H2:=kpS sAB
  clear sA lA sB lB sAB hc1
  have es:(if decide (0<q.1)=true then (1:Int) else 0) - (if decide (q.1<0)=true then 1 else 0)=s:=by
    rcases hs with ⟨e,y⟩ | ⟨e,y⟩
    · rw [if_pos (decide_eq_true y),if_neg (by rw [decide_eq_false (by omega)];decide),e];rfl
    · rw [if_neg (by rw [decide_eq_false (by omega)];decide),if_pos (decide_eq_true y),e];rfl
  refine qa6 (qfI (qdW ⟨_,rfl,_,_,_,_,rfl,rfl,e.hc,rfl,_,_,rfl,rfl,_,rfl,qdW ⟨_,rfl,_,_,_,_,rfl,rfl,e.hc,rfl,_,_,rfl,rfl,_,rfl,_,_,rfl,rfl,?_⟩⟩))
  show qdN K _ [some (.ref c),some (.int m),some (.ref p5),some (.ref q5'),some (.int ((if decide (0<q.1)=true then (1:Int) else 0) - (if decide (q.1<0)=true then 1 else 0))),none,none] _
  rw [es]
  refine qbF ⟨_,rfl,qaB ⟨_,rfl,qb5,fun pm hm=>?_⟩⟩
  have sm':=qag hm (HO.tup [V.int (-1),V.int 1])
  have hmm:upd H2 pm (HO.tup [V.int (-1),V.int 1]) pm=_:=qad
  show qaZ K _ _ _ _
  have e:=e.same sm'
  have k2:=kpT k2 (kpS sm')
  generalize upd H2 pm (HO.tup [V.int (-1),V.int 1])=H3 at sm' hmm e k2 ⊢
  refine ⟨p5,pm,(0,1),[(q,(m+1,m))],o,rfl,e.l1,hmm,nul_cz,ao,z1,by show 1≤24;decide,e.tab,fun om ym H4 kp tb lm sdm wm=>?_⟩
  rw [qiU] at lm
  have e:=e.kp kp tb
  have k2:=kpT k2 kp
  have zm:∀ x∈ym.map qeL,Rz o 80 x:=fun x hx=>⟨(sdm.rz so1 x hx).1.mono (by decide),(sdm.rz so1 x hx).2⟩
  have wm':∀ p,Pr p→WR p (ym.map qeL) = - WR p [(q,(m+1,m))]:=fun p hp=>by rw [qdS p hp,wm p hp]
  have lym:(ym.map qeL).length≤8:=by rw [List.length_map];exact sdm.l8
  show qdM K _ [some (.ref c),some (.int m),some (.ref p5),some (.ref q5'),some (.int s),some (.ref om),none] _
  clear kp tb hmm sm' hm
  refine qa6 (qki (qgY ⟨_,rfl,p5,_,o,s,rfl,e.l1,ao,z18,by show 1≤24;decide,e.tab,sg1,fun H5 kp tb=>?_⟩))
  have lm:=lm.kp (e.tab.tp kp)
  have e:=e.kp kp tb
  have k2:=kpT k2 kp
  obtain ⟨qa,ta,us,ho,hqa,hta,hA⟩:=id e.l1
  refine qgY (qa5 ⟨_,rfl,_,_,_,_,rfl,rfl,ho,rfl,qdW ⟨_,rfl,_,_,_,_,rfl,rfl,ho,rfl,ta,us,rfl,hta,fun l hl=>?_⟩⟩)
  have sl:=qag hl (HO.lst us)
  have hll:upd H5 l (HO.lst us) l=_:=qad
  have e:=e.same sl
  have lm:=lm.kp (tpS sl)
  have k2:=kpT k2 (kpS sl)
  have hqa:=sl _ _ hqa
  have hA:=hA.mono fun _ _ h=>h.tp (tpS sl)
  show qan K _ _ _ _
  generalize upd H5 l (HO.lst us)=H6 at sl hll e lm k2 hqa hA ⊢
  refine ⟨.ref qa,l,us,[(q,(m+1,m))],o,rfl,hll,hA,ao,fun x h=>⟨(z18 x h).1,(z18 x h).2⟩,by show 1≤24;decide,e.tab,fun n bb ws ys H7 kp tb h1 h2 h3 h4 h5 h6 h7 h8=>?_⟩
  have sds:=sharp (s:=200000) ⟨h4,h5,h6,h7⟩ z1 (by show 1≤24;decide) h8
  have hqa:=e.tab.tp kp _ _ hqa
  have lm:=lm.kp (e.tab.tp kp)
  have e:=e.kp kp tb
  have k2:=kpT k2 kp
  refine ⟨n,ys.map qeL,o,s,rfl,⟨qa,bb,ws,h1,hqa,h2,h3⟩,ao,fun x hx=>⟨(sds.rz so1 x hx).1.mono (by decide),(sds.rz so1 x hx).2⟩,by rw [List.length_map];omega,e.tab,sg1.congr fun p hp=>by rw [qdS p hp,h8 p hp],fun H8 kp tb=>?_⟩
  have lm:=lm.kp (e.tab.tp kp)
  have e:=e.kp kp tb
  have k2:=kpT k2 kp
  refine ⟨qb5,fun f hf=>?_⟩
  have fN:H f=none:=by
    cases ef:H f with
    | none=>rfl
    | some o'=>
      have nt:f≠qcj:=fun z=>by
        obtain ⟨ps,ep,_⟩:=e.tab
        rw [← z,hf] at ep;cases ep
      have:=k2 f o' nt ef
      rw [hf] at this;cases this
  have sf:=qag hf (HO.lst [V.int s,V.int s])
  have hff:upd H8 f (HO.lst [V.int s,V.int s]) f=_:=qad
  have lm:=lm.kp (tpS sf)
  have e:=e.same sf
  have k2:=kpT k2 (kpS sf)
  show qdL K _ [some (.ref c),some (.int m),some (.ref p5),some (.ref q5'),some (.int s),some (.ref om),some (.ref f)] _
  generalize upd H8 f (HO.lst [V.int s,V.int s])=H9 at sf hff lm e k2 ⊢
  refine ⟨_,rfl,qcH hff,qgY (qa5 ⟨_,rfl,qa5 ⟨_,rfl,qaB ⟨_,rfl,qb5,fun pm hm=>?_⟩⟩⟩)⟩
  have sm':=qag hm (HO.tup [V.int (-1),V.int 1])
  have hmm:upd H9 pm (HO.tup [V.int (-1),V.int 1]) pm=_:=qad
  have lm:=lm.kp (tpS sm')
  have e:=e.same sm'
  have k2:=kpT k2 (kpS sm')
  have hff:=sm' _ _ hff
  show qaZ K _ _ _ _
  generalize upd H9 pm (HO.tup [V.int (-1),V.int 1])=H10 at sm' hmm e k2 lm hff ⊢
  refine ⟨q5',pm,(0,1),[(q,(m+2,m+1))],o,rfl,e.l2,hmm,nul_cz,ao,z2,by show 1≤24;decide,e.tab,fun oo yo H11 kp tb lo' sdo wo=>?_⟩
  rw [qiU] at lo'
  have lm:=lm.kp (e.tab.tp kp)
  have hff:=qfs e.tab kp hff
  have e:=e.kp kp tb
  have k2:=kpT k2 kp
  have zo:∀ x∈yo.map qeL,Rz o 59 x:=sdo.rz so1
  have zo8:∀ x∈yo.map qeL,Rz o 80 x:=fun x hx=>⟨(zo x hx).1.mono (by decide),(zo x hx).2⟩
  have lyo:(yo.map qeL).length≤8:=by rw [List.length_map];exact sdo.l8
  clear kp tb hmm sm' hm
  show qbz K _ _ _ _
  refine ⟨p5,oo,(0,1),(0,1),[(q,(m+1,m))],yo.map qeL,o,rfl,e.l1,lo',nul_cz.mono (by decide),nul_cz.mono (by decide),ao,z18,zo8,by show 1+_≤24;omega,e.tab,fun op yp H12 kp tb lp sdp wp=>?_⟩
  rw [qiV] at lp
  have lm:=lm.kp (e.tab.tp kp)
  have hff:=qfs e.tab kp hff
  have e:=e.kp kp tb
  have k2:=kpT k2 kp
  have zall:∀ x∈[(q,((m+1,m):Nu))]++yo.map qeL,Rz o 59 x:=fun x hx=>by
    rcases List.mem_append.mp hx with h | h
    · exact ⟨(z1 x h).1.mono (by decide),(z1 x h).2⟩
    · exact zo x h
  have sdp:=sharp sdp zall (by rw [List.length_append];show 1+_≤24;omega) (fun p hp=>by rw [wp p hp,qiJ])
  clear kp tb
  show qaO K _ _ _ _
  refine ⟨op,yp.map qeL,o,s,rfl,lp,ao,fun x hx=>⟨(sdp.rz so1 x hx).1.mono (by decide),(sdp.rz so1 x hx).2⟩,by rw [List.length_map];have:=sdp.l8;omega,e.tab,sg2 _ fun p hp=>by rw [qdS p hp,wp p hp,qdS p hp,wo p hp],fun H13 kp tb=>?_⟩
  have lm:=lm.kp (e.tab.tp kp)
  have hff:=qfs e.tab kp hff
  have e:=e.kp kp tb
  have k2:=kpT k2 kp
  clear kp tb
  refine ⟨f,_,_,rfl,rfl,hff,sz (by show 3≤1000000;decide),?_⟩
  have tpf:Tp H13 (upd H13 f (HO.lst [V.int s,V.int s,V.int s])):=Tp.updL hff
  have hff':upd H13 f (HO.lst [V.int s,V.int s,V.int s]) f=_:=qad
  have fT:f≠qcj:=TabOk.ne e.tab (.inr hff)
  have k2:Kp qcj H (upd H13 f (HO.lst [V.int s,V.int s,V.int s])):=fun b o' n hb=>Kp.upd b o' (qak hb fN) (k2 b o' n hb)
  have tb:Tab (upd H13 f (HO.lst [V.int s,V.int s,V.int s])):=TabOk.keep e.tab fun b o' nl hb=>(qal fun z=>by
    rw [z,hff] at hb
    injection hb with hb
    exact nl _ hb.symm).trans hb
  have lm:=lm.kp tpf
  have e:Ev (upd H13 f (HO.lst [V.int s,V.int s,V.int s])) c p5 q5' q m:=⟨tb,tpf _ _ e.hc,e.l1.kp tpf,e.l2.kp tpf⟩
  show qdK K _ [some (.ref c),some (.int m),some (.ref p5),some (.ref q5'),some (.int s),some (.ref om),some (.ref f)] (upd H13 f (HO.lst [V.int s,V.int s,V.int s]))
  generalize upd H13 f (HO.lst [V.int s,V.int s,V.int s])=H14 at tpf hff' k2 tb lm e ⊢
  clear hff tpf fN fT
  refine qjL (qdW (qeI ⟨_,rfl,f,rfl,⟨_,SqL.of hff'⟩,CompJ.lst (xs:=[V.int s,V.int s,V.int s]) (fun i ys H'=>i≤3∧H'=H14∧ys=(List.replicate i false).map V.bl) ⟨by decide,rfl,rfl⟩ ?_ ?_ ?_⟩))
  · rintro i ys H' ⟨hi,rfl,rfl⟩
    exact ⟨hi,sz (by rw [List.length_map,List.length_replicate];omega),SqL.of hff'⟩
  · rintro i v ys H' hv ⟨hi,rfl,rfl⟩
    have il:i<3:=(List.getElem?_eq_some_iff.mp hv).1
    have ev:v=V.int s:=by
      have:i=0∨i=1∨i=2:=by omega
      rcases this with rfl | rfl | rfl <;> exact (Option.some.inj hv).symm
    subst ev
    refine qni ?_
    refine ⟨_,rfl,_,_,false,rfl,rfl,il,rfl,?_⟩
    rw [List.replicate_succ',List.map_append];rfl
  rintro ys H' ⟨_,rfl,rfl⟩ l8 hl8
  have s8:=qag hl8 (HO.lst [V.bl false,V.bl false,V.bl false])
  have h88:upd H' l8 (HO.lst [V.bl false,V.bl false,V.bl false]) l8=_:=qad
  have lm:=lm.kp (tpS s8)
  have e:=e.same s8
  have k2:=kpT k2 (kpS s8)
  have hff:=s8 _ _ hff'
  show qk9 [.ref l8] (upd H' l8 (HO.lst [V.bl false,V.bl false,V.bl false])) _
  generalize upd H' l8 (HO.lst [V.bl false,V.bl false,V.bl false])=H15 at s8 h88 lm e k2 hff ⊢
  refine ⟨l8,[false,false,false],rfl,h88,_,rfl,qbJ (fun c=>by cases c) fun _=>?_⟩
  refine qil (qfI ⟨_,rfl,qkl ⟨_,rfl,_,rfl,_,rfl,qn3,fun p9 hp9=>?_⟩⟩)
  have s9:=qag hp9 (HO.lst [V.int s,V.int s,V.int s])
  have h99:upd H15 p9 (HO.lst [V.int s,V.int s,V.int s]) p9=_:=qad
  have lm:=lm.kp (tpS s9)
  have e:=e.same s9
  have k2:=kpT k2 (kpS s9)
  have hff:=s9 _ _ hff
  show neD _ _ _ _
  generalize upd H15 p9 (HO.lst [V.int s,V.int s,V.int s])=H16 at s9 h99 lm e k2 hff ⊢
  refine ⟨.list ([s,s,s].map PySem.W.Dat.int),.list ([s,s,s].map PySem.W.Dat.int),true,.lst hff (qnV [s,s,s]),.lst h99 (qnV [s,s,s]),okI [s,s,s],okI [s,s,s],⟨fun _=>rfl,fun _=>rfl⟩,_,rfl,qbJ (fun c=>by cases c) fun _=>?_⟩
  show qdJ K _ [some (.ref c),some (.int m),some (.ref p5),some (.ref q5'),some (.int s),some (.ref om),some (.ref f)] _
  refine qcv (show tOp rEq _ _ _ _ _ from qfI (qgY ⟨_,rfl,om,ym.map qeL,o,-s,rfl,lm,ao,zm,by omega,e.tab,sg1.neg wm',fun H17 kp tb=>?_⟩))
  have lm:=lm.kp (e.tab.tp kp)
  have e:=e.kp kp tb
  have k2:=kpT k2 kp
  clear kp tb
  refine ⟨_,rfl,s,rfl,rfl,_,rfl,qbJ (fun _=>?_) (fun c=>absurd (decide_eq_true rfl) c)⟩
  refine qfI (qgY (qa5 ⟨_,rfl,_,rfl,p5,om,(0,1),(0,1),[(q,(m+1,m))],ym.map qeL,o,rfl,e.l1,lm,nul_cz.mono (by decide),nul_cz.mono (by decide),ao,z18,zm,by show 1+_≤24;omega,e.tab,fun op yp H18 kp tb lp sdp wp=>?_⟩))
  rw [qiV] at lp
  have e:=e.kp kp tb
  have k2:=kpT k2 kp
  have zall:∀ x∈[(q,((m+1,m):Nu))]++ym.map qeL,Rz o 59 x:=fun x hx=>by
    rcases List.mem_append.mp hx with h | h
    · exact ⟨(z1 x h).1.mono (by decide),(z1 x h).2⟩
    · exact sdm.rz so1 x h
  have sdp:=sharp sdp zall (by rw [List.length_append];show 1+_≤24;omega) (fun p hp=>by rw [wp p hp,qiJ])
  refine ⟨op,yp.map qeL,o,0,rfl,lp,ao,fun x hx=>⟨(sdp.rz so1 x hx).1.mono (by decide),(sdp.rz so1 x hx).2⟩,by rw [List.length_map];have:=sdp.l8;omega,e.tab,.inl ⟨rfl,fun p hp=>by rw [qdS p hp,wp p hp,wm' p hp];grind⟩,fun H19 kp tb=>⟨rfl,?_⟩⟩
  have ed:decide (V.int 0=V.int 0)=true:=decide_eq_true rfl
  show Q (.bl (decide (V.int 0=V.int 0))) H19
  rw [ed]
  exact k H19 (kpT k2 kp) tb
theorem qgv {q r:Nu} (hq:0<q.2) (hr:0<r.2) (h:val q≤val r):decide (q.1*r.2≤r.1*q.2)=true:=by
  refine decide_eq_true ?_
  have:=(qfq (a:=r.1) (b:=r.2) (c:=q.1) (d:=q.2) hr hq)
  have n:¬ val (r.1,r.2)<val (q.1,q.2):=Rat.not_lt.mpr h
  rw [this] at n
  omega
theorem qlB {q r:Nu} (h:Sl q) (h':Sl r):Bd 60000000 (nadd q r).1∧Bd 60000000 (nadd q r).2:=by
  have v:=qb4 h.1.pos h'.1.pos
  have lo:=qc9 h.1.pos h'.1.pos
  have o:OvD (q.2*r.2) 4001 (nadd q r):=⟨lo,q.1*r.2+r.1*q.2,by
    rw [v]
    unfold val
    have a:=qa0 (show q.2≠0 by have:=h.1.pos;omega)
    have b:=qa0 (show r.2≠0 by have:=h'.1.pos;omega)
    have h1:(q.2:Rat)*(q.2:Rat)⁻¹=1:=Rat.mul_inv_cancel _ a
    have h2:(r.2:Rat)*(r.2:Rat)⁻¹=1:=Rat.mul_inv_cancel _ b
    rw [Rat.div_def,Rat.div_def,Rat.div_def]
    push_cast
    rw [Rat.inv_mul_rev]
    generalize (q.2:Rat)⁻¹=i at *
    generalize (r.2:Rat)⁻¹=j at *
    grind,(h.2.1.mul h'.2.2).add (h'.2.1.mul h.2.2)⟩
  exact (o.big (Int.mul_pos h.1.pos h'.1.pos) (by decide) ((h.2.2.mul h'.2.2).mono (by decide))).2
theorem qgw {K:W.Frag} {D:Ends} {o0 o1 o2 o3 o4:Option V} {r a1 d1 ea x y:Addr} {lo hi A B:Nu} {H:Hp} (hr:H r=some (.tup [.ref a1,.ref d1])) (ha:Nm H a1 lo.1 lo.2) (hd:Nm H d1 hi.1 hi.2) (he:H ea=some (.lst [.ref x,.ref y])) (hx:Nm H x A.1 A.2) (hy:Nm H y B.1 B.2) (sl:Sl lo) (sh:Sl hi) (sA:Sl A) (sB:Sl B) (c1:val lo≤val B) (c2:val A≤val hi) (k:D.rt (.bl true) H):qed K D [o0,o1,o2,o3,o4,some (.ref r),some (.ref ea)] H:=by
  obtain ⟨l0,l1,l2⟩:=sl.big
  obtain ⟨u0,u1,u2⟩:=sh.big
  obtain ⟨a0,a1',a2⟩:=sA.big
  obtain ⟨b0,b1,b2⟩:=sB.big
  refine qcv ⟨_,rfl,r,0,_,_,rfl,rfl,hr,rfl,_,rfl,ea,1,_,_,rfl,rfl,he,rfl,a1,y,lo.1,lo.2,B.1,B.2,rfl,ha,hy,l1,l2,b1,b2,_,rfl,qbJ (fun c=>?_) fun c=>?_⟩
  · refine ⟨_,rfl,ea,0,_,_,rfl,rfl,he,rfl,_,rfl,r,1,_,_,rfl,rfl,hr,rfl,x,d1,A.1,A.2,hi.1,hi.2,rfl,hx,hd,a1',a2,u1,u2,?_⟩
    rw [qgv a0 u0 c2];exact k
  · exact absurd (qgv l0 b0 c1) c
theorem qm5 {e:Nat} (h:e≤40):Sl (1,(10:Int) ^ e)∧1≤val (1,(10:Int) ^ e)*(((10:Int) ^ 40:Int):Rat):=by
  have e0:(0:Int)<(10:Int) ^ e:=Int.pow_pos (by decide)
  have le:(10:Int) ^ e≤(10:Int) ^ 40:=by
    obtain ⟨m,hm⟩:∃ m,40=e+m:=⟨40 - e,by omega⟩
    have:(0:Int)<(10:Int) ^ m:=Int.pow_pos (by decide)
    rw [hm,Int.pow_add]
    have:=Int.mul_le_mul_of_nonneg_left (show (1:Int)≤(10:Int) ^ m by omega) (show 0≤(10:Int) ^ e by omega)
    omega
  refine ⟨⟨⟨e0,Int.one_gcd⟩,(show Bd 1 1 by unfold Bd;decide).mono (by decide),Bd.le (x:=(10:Int) ^ 40) (show Bd 2000 ((10:Int) ^ 40) from Bd.mono (m:=140) (by unfold Bd;decide +kernel) (by decide)) (by show ((10:Int) ^ e).natAbs≤_;omega)⟩,?_⟩
  have er:(0:Rat)<(((10:Int) ^ e:Int):Rat):=by exact_mod_cast e0
  have ler:(((10:Int) ^ e:Int):Rat)≤(((10:Int) ^ 40:Int):Rat):=by exact_mod_cast le
  show 1≤((1:Int):Rat) / (((10:Int) ^ e:Int):Rat)*_
  have d:((1:Int):Rat) / (((10:Int) ^ e:Int):Rat)*(((10:Int) ^ e:Int):Rat)=((1:Int):Rat):=Rat.div_mul_cancel (by grind)
  have e1:((1:Int):Rat)=1:=rfl
  have d0:0≤((1:Int):Rat) / (((10:Int) ^ e:Int):Rat):=by
    rw [Rat.div_def,e1]
    have:=Rat.inv_pos.mpr er
    grind
  have:=Rat.mul_le_mul_of_nonneg_left ler d0
  grind
theorem qkt {q:Nu} {m:Int} (cq:Cz 46 q) (m0:0<m) (ml:m<(2:Int) ^ 262):Sl (nmul q (1,m))∧val (nmul q (1,m))=val q*(((1:Int):Rat) / (m:Rat)):=by
  obtain ⟨o,v⟩:=cq.tm (r:=(1,m)) (M:=m) (e:=1) (n:=1) m0 m0 rfl (by unfold Bd;decide)
  have e:((2 ^ 262:Nat):Int)=(2:Int) ^ 262:=by decide +kernel
  have bm:Bd 262 m:=by
    have:((m.natAbs:Nat):Int)<((2 ^ 262:Nat):Int):=by rw [e];omega
    exact_mod_cast this
  exact ⟨o.sl (by omega) (by decide) (((show Bd 6 60 by unfold Bd;decide).mul bm).mono (by decide)),v⟩
theorem qiW (h:qcx K vs H Q E):qjR K { nx:=fun _ H'=>Q .non H',rt:=Q } (L2.start ["_law_c_here", "_law_m", "_law_places", "_law_bottom", "_law_turn", "_law_found", "_law_ends"] vs) H:=by
  obtain ⟨c,q,m,e,rfl,hc,cq,q0,e40,m2,ml,hT,k⟩:=h
  obtain ⟨o,ao,sm,sm1,sm2,so1⟩:=qgu m2 ml
  have z1:∀ x∈[(q,((m+1,m):Nu))],Rz o 80 x:=fun x hx=>by rw [List.mem_singleton.mp hx];exact ⟨cq.mono (by decide),sm1,sm⟩
  obtain ⟨sw,w40⟩:=qm5 e40
  refine qa6 ?_
  show qej K _ [some (.ref c),some (.int m),some (.int (e:Int)),some (.int 1),none,none,none] _
  refine ⟨_,rfl,(e:Int),rfl,by omega,by omega,ForR.by (lo:=0) (n:=e) (fun n σ H'=>n≤e∧∃ o4,σ=[some (.ref c),some (.int m),some (.int (e:Int)),some (.int ((10:Int) ^ n)),o4,none,none]∧H'=H) ⟨Nat.zero_le _,none,rfl,rfl⟩ ?_ ?_⟩
  · rintro n σ H' hn ⟨_,o4,rfl,rfl⟩
    refine qni ?_
    refine ⟨_,rfl,_,_,rfl,rfl,qlL (by decide) (by decide),hn,some (.int (0+(n:Int))),?_,rfl⟩
    rw [Int.pow_succ];rfl
  rintro σ H' ⟨_,o4,rfl,rfl⟩
  show qei K _ _ _
  generalize (10:Int) ^ e=T at sw w40 ⊢
  refine qbF (qaB (qaB ⟨qb5,fun p1 h1=>?_⟩))
  refine qij (qaB ⟨_,rfl,qaB ⟨_,rfl,_,_,rfl,rfl,_,rfl,qb5,fun p2 h2=>?_⟩⟩)
  refine ⟨qb5,fun p3 h3=>⟨qim,fun p4 h4=>⟨qb5,fun p5 h5=>?_⟩⟩⟩
  obtain ⟨sA,lA⟩:=qlA hc h1 (qag h2 (HO.tup [V.int (m+1),V.int m])) qad h3 h4 h5
  show qbh _ _ (upd (upd (upd (upd (upd H' p1 (HO.tup [V.int 0,V.int 1])) p2 (HO.tup [V.int (m+1),V.int m])) p3 (HO.tup [V.ref c,V.ref p2])) p4 (HO.tup [V.ref p3])) p5 (HO.tup [V.ref p1,V.ref p4])) _
  generalize upd (upd (upd (upd (upd H' p1 (HO.tup [V.int 0,V.int 1])) p2 (HO.tup [V.int (m+1),V.int m])) p3 (HO.tup [V.ref c,V.ref p2])) p4 (HO.tup [V.ref p3])) p5 (HO.tup [V.ref p1,V.ref p4])=H1 at sA lA ⊢
  clear h1 h2 h3 h4 h5
  refine qaB ⟨_,rfl,qb5,fun pw hw=>?_⟩
  have sw':=qag hw (HO.tup [V.int 1,V.int T])
  have hww:upd H1 pw (HO.tup [V.int 1,V.int T]) pw=_:=qad
  have s02:=sA.trans sw'
  have lA:=lA.kp (tpS sw')
  show qdu K _ _ _ _
  generalize upd H1 pw (HO.tup [V.int 1,V.int T])=H2 at sw' hww s02 lA ⊢
  obtain ⟨qa,ta,us,ho,hqa,hta,hA⟩:=lA
  have hT2:Tab H2:=TabOk.same hT s02
  refine ⟨p5,pw,qa,ta,us,(0,1),(1,T),_,o,rfl,ho,hqa,hta,hA,hww,nul_cz.mono (by decide),ao,z1,by show 1≤24;decide,sw,w40,hT2,fun r a1 d1 lo hi H3 kp tb hr ha hd sl sh le wle inl=>?_⟩
  have k3:Kp qcj H' H3:=kpT (kpS s02) kp
  have hc3:=hT2.tp kp _ _ (s02 _ _ hc)
  clear hww ho hqa hta hA s02 sA sw' hw
  show qeh K _ [some (.ref c),some (.int m),some (.int (e:Int)),some (.int T),o4,some (.ref r),none] _
  refine qjL ⟨_,rfl,_,_,_,rfl,qhS hr,_,rfl,qbJ (fun c=>by cases c) fun _=>⟨_,rfl,r,_,rfl,hr,rfl,_,rfl,qbJ (fun c=>by cases c) fun _=>⟨_,rfl,r,0,_,_,rfl,rfl,hr,rfl,a1,lo.1,lo.2,rfl,ha,sl.1,fun H7 s7=>⟨_,rfl,qbJ (fun c=>by cases c) fun _=>⟨_,rfl,r,1,_,_,rfl,rfl,s7 _ _ hr,rfl,d1,hi.1,hi.2,rfl,s7 _ _ hd,sh.1,fun H8 s8=>⟨_,rfl,qbJ (fun c=>by cases c) fun _=>?_⟩⟩⟩⟩⟩⟩
  have s68:=s7.trans s8
  have hr:=s68 _ _ hr
  have ha:=s68 _ _ ha
  have hd:=s68 _ _ hd
  have hc8:=s68 _ _ hc3
  have k8:=kpT k3 (kpS s68)
  have t8:Tab H8:=TabOk.same tb s68
  show qeg K _ _ _
  obtain ⟨l0,l1',l2⟩:=sl.big
  obtain ⟨u0,u1,u2⟩:=sh.big
  obtain ⟨w0,w1,w2⟩:=sw.big
  refine qjL ⟨_,rfl,r,0,_,_,rfl,rfl,hr,rfl,_,rfl,r,1,_,_,rfl,rfl,hr,rfl,a1,d1,lo.1,lo.2,hi.1,hi.2,rfl,ha,hd,l1',l2,u1,u2,_,rfl,qbJ (fun c=>?_) fun _=>?_⟩
  · rw [qgv l0 u0 le] at c;cases c
  have vp:=qb4 l0 w0
  have np:0<(nadd lo (1,T)).2:=(qc9 l0 w0).pos
  refine ⟨_,rfl,r,1,_,_,rfl,rfl,hr,rfl,qa5 ⟨_,rfl,r,0,_,_,rfl,rfl,hr,rfl,qaB ⟨_,rfl,qb5,fun pv hv=>?_⟩⟩⟩
  have sv:=qag hv (HO.tup [V.int 1,V.int T])
  have hvv:upd H8 pv (HO.tup [V.int 1,V.int T]) pv=_:=qad
  show qbT nadd K _ _ _ _
  generalize upd H8 pv (HO.tup [V.int 1,V.int T])=H9 at sv hvv ⊢
  refine ⟨a1,pv,lo.1,lo.2,1,T,rfl,sv _ _ ha,hvv,l0,w0,l1',l2,w1,w2,fun p9 hp9=>?_⟩
  have s9:=qag hp9 (HO.tup [V.int (nadd (lo.1,lo.2) (1,T)).1,V.int (nadd (lo.1,lo.2) (1,T)).2])
  have h99:upd H9 p9 (HO.tup [V.int (nadd (lo.1,lo.2) (1,T)).1,V.int (nadd (lo.1,lo.2) (1,T)).2]) p9=_:=qad
  show ∃ _,_
  generalize upd H9 p9 (HO.tup [V.int (nadd (lo.1,lo.2) (1,T)).1,V.int (nadd (lo.1,lo.2) (1,T)).2])=H10 at s9 h99 ⊢
  have bn:=qlB sl sw
  have sv9:=sv.trans s9
  refine ⟨d1,p9,hi.1,hi.2,(nadd lo (1,T)).1,(nadd lo (1,T)).2,rfl,sv9 _ _ hd,h99,u1,u2,bn.1,bn.2,_,rfl,qbJ (fun c=>?_) fun _=>?_⟩
  · rw [qgv (r:=nadd lo (1,T)) u0 np (by rw [vp];grind)] at c;cases c
  have hr:=sv9 _ _ hr
  have ha:=sv9 _ _ ha
  have hd:=sv9 _ _ hd
  have hc:=sv9 _ _ hc8
  have k8:=kpT k8 (kpS sv9)
  have t8:Tab H10:=TabOk.same t8 sv9
  clear h99 hvv hv hp9 s9 sv sv9 hc8 hc3
  show qef K _ _ _
  obtain ⟨sA,vA⟩:=qkt cq sm1.1 sm1.2.1
  obtain ⟨sB,vB⟩:=qkt cq sm.1 sm.2.1
  obtain ⟨c1,c2⟩:=cq.bd
  refine qa6 (qki (qa5 ⟨_,rfl,qaB ⟨_,rfl,_,_,rfl,rfl,qb5,fun pa hpa=>?_⟩⟩))
  have sa:=qag hpa (HO.tup [V.int 1,V.int (m+1)])
  have haa:upd H10 pa (HO.tup [V.int 1,V.int (m+1)]) pa=_:=qad
  show qbT nmul K _ _ _ _
  generalize upd H10 pa (HO.tup [V.int 1,V.int (m+1)])=H11 at sa haa ⊢
  refine ⟨c,pa,q.1,q.2,1,m+1,rfl,sa _ _ hc,haa,cq.1.pos,sm1.1,c1.mono (by decide),c2.mono (by decide),(show Bd 1 1 by unfold Bd;decide).mono (by decide),sm1.b262.mono (by decide),fun rx hrx=>?_⟩
  have sx:=qag hrx (HO.tup [V.int (nmul (q.1,q.2) (1,m+1)).1,V.int (nmul (q.1,q.2) (1,m+1)).2])
  have hxx:upd H11 rx (HO.tup [V.int (nmul (q.1,q.2) (1,m+1)).1,V.int (nmul (q.1,q.2) (1,m+1)).2]) rx=_:=qad
  show qar _ _ _ _ _ _ _
  generalize upd H11 rx (HO.tup [V.int (nmul (q.1,q.2) (1,m+1)).1,V.int (nmul (q.1,q.2) (1,m+1)).2])=H12 at sx hxx ⊢
  refine qa5 ⟨_,rfl,qaB ⟨_,rfl,qb5,fun pb hpb=>?_⟩⟩
  have sb:=qag hpb (HO.tup [V.int 1,V.int m])
  have hbb:upd H12 pb (HO.tup [V.int 1,V.int m]) pb=_:=qad
  show qbT nmul K _ _ _ _
  generalize upd H12 pb (HO.tup [V.int 1,V.int m])=H13 at sb hbb ⊢
  refine ⟨c,pb,q.1,q.2,1,m,rfl,(sa.trans (sx.trans sb)) _ _ hc,hbb,cq.1.pos,sm.1,c1.mono (by decide),c2.mono (by decide),(show Bd 1 1 by unfold Bd;decide).mono (by decide),sm.b262.mono (by decide),fun ry hry=>?_⟩
  have sy:=qag hry (HO.tup [V.int (nmul (q.1,q.2) (1,m)).1,V.int (nmul (q.1,q.2) (1,m)).2])
  have hyy:upd H13 ry (HO.tup [V.int (nmul (q.1,q.2) (1,m)).1,V.int (nmul (q.1,q.2) (1,m)).2]) ry=_:=qad
  show [V.ref rx,V.ref ry].length≤sizeLine∧_
  generalize upd H13 ry (HO.tup [V.int (nmul (q.1,q.2) (1,m)).1,V.int (nmul (q.1,q.2) (1,m)).2])=H14 at sy hyy ⊢
  refine ⟨qb5,fun ea hea=>?_⟩
  have se:=qag hea (HO.lst [V.ref rx,V.ref ry])
  have hee:upd H14 ea (HO.lst [V.ref rx,V.ref ry]) ea=_:=qad
  have eN:H10 ea=none:=by
    cases ef:H10 ea with
    | none=>rfl
    | some o'=>have:=(sa.trans (sx.trans (sb.trans sy))) _ _ ef;rw [hea] at this;cases this
  have hN:H' ea=none:=by
    cases ef:H' ea with
    | none=>rfl
    | some o'=>
      have nt:ea≠qcj:=fun z=>by
        obtain ⟨ps,ep,_⟩:=t8
        rw [← z,eN] at ep;cases ep
      have:=k8 ea o' nt ef
      rw [eN] at this;cases this
  have sall:=(sa.trans (sx.trans (sb.trans sy))).trans se
  have hxx:=(sb.trans (sy.trans se)) _ _ hxx
  have hyy:=se _ _ hyy
  have hr:=sall _ _ hr
  have ha:=sall _ _ ha
  have hd:=sall _ _ hd
  have hc:=sall _ _ hc
  have k8:=kpT k8 (kpS sall)
  have t8:=TabOk.same t8 sall
  show qee K _ [some (.ref c),some (.int m),some (.int (e:Int)),some (.int T),o4,some (.ref r),some (.ref ea)] (upd H14 ea (HO.lst [V.ref rx,V.ref ry]))
  generalize upd H14 ea (HO.lst [V.ref rx,V.ref ry])=H15 at hee hxx hyy hr ha hd hc k8 t8 ⊢
  have inl:InL (val lo) (val hi) (fun l=>val q*(LW l (m+1) - LW l m)):=inl.congr fun l _=>by
    show val (0,1)+(val q*(LW l (m+1) - LW l m)+0)=_
    rw [qfT];grind
  have iq:=InL.quot (a:=m+1) (b:=m) sm1.bel sm.bel (by omega)
  have mr:(0:Rat)<(m:Rat):=by exact_mod_cast sm.1
  have m1r:(0:Rat)<((m+1:Int):Rat):=by exact_mod_cast sm1.1
  have ec:((m+1:Int):Rat)=(m:Rat)+1:=by push_cast;rfl
  have e1:1 - (m:Rat) / ((m+1:Int):Rat)=((1:Int):Rat) / ((m+1:Int):Rat):=by
    have i1:((m+1:Int):Rat)*((m+1:Int):Rat)⁻¹=1:=Rat.mul_inv_cancel _ (by grind)
    rw [Rat.div_def,Rat.div_def,show ((1:Int):Rat)=1 from rfl]
    generalize ((m+1:Int):Rat)⁻¹=i at *
    rw [ec] at i1;grind
  have e2:((m+1:Int):Rat) / (m:Rat) - 1=((1:Int):Rat) / (m:Rat):=by
    have i1:(m:Rat)*(m:Rat)⁻¹=1:=Rat.mul_inv_cancel _ (by grind)
    rw [Rat.div_def,Rat.div_def,show ((1:Int):Rat)=1 from rfl,ec]
    generalize (m:Rat)⁻¹=i at *
    grind
  rw [e1,e2] at iq
  refine qjL ⟨_,rfl,_,_,_,_,rfl,rfl,hc,rfl,_,_,rfl,rfl,_,rfl,qbJ (fun c=>?_) (fun c=>?_)⟩
  · have c:q.1<0:=of_decide_eq_true c
    have c0:=(qgt cq.1.pos).1 c
    have i2:=iq.neg (c:=val q) c0
    rw [← vA,← vB] at i2
    refine ⟨_,rfl,qcH hee,ea,_,rfl,rfl,hee,?_⟩
    have tp:Tp H15 (upd H15 ea (HO.lst [V.ref ry,V.ref rx])):=Tp.updL hee
    refine qgw (K:=K) (A:=nmul q (1,m)) (B:=nmul q (1,m+1)) (tp _ _ hr) (tp _ _ ha) (tp _ _ hd) qad (tp _ _ hyy) (tp _ _ hxx) sl sh sB sA (inl.cross i2) (i2.cross inl) (k _ (fun b o' n hb=>Kp.upd b o' (qak hb hN) (k8 b o' n hb)) (TabOk.keep t8 fun b o' nl hb=>(qal fun z=>?_).trans hb))
    rw [z,hee] at hb
    injection hb with hb
    exact nl _ hb.symm
  · have c:¬ q.1<0:=fun z=>c (decide_eq_true z)
    have c0:=(qgt cq.1.pos).2 c
    have i2:=iq.pos (c:=val q) c0
    rw [← vA,← vB] at i2
    exact qgw (K:=K) (A:=nmul q (1,m+1)) (B:=nmul q (1,m)) hr ha hd hee hxx hyy sl sh sA sB (inl.cross i2) (i2.cross inl) (k _ k8 t8)
theorem qlC {K:W.Frag} {ta:TE} {g:TG} {tb rest:TS} {D:Ends} {σ:L2.St} {H:Hp} (h:ta σ H fun x H1=>∃ a,[x]=[V.ref a]∧(∃ xs,SqL K H1 a xs)∧ForJ (qlJ K a) g tb { D with nx:=rest D } σ H1):qaG (qfy (qfe K (qac ta qaq)) g tb) rest D σ H:=h
theorem qov (ns:List Int):∃ ms:List Int,qi9 (ns.map V.int) none (some 1)=ms.map V.int∧ms.length≤1:=by
  unfold qi9 HT.sIx
  rw [← List.map_drop,← List.map_take]
  refine ⟨_,rfl,?_⟩
  rw [List.length_take]
  simp only [if_neg (show ¬ (1:Int)<0 by decide)]
  omega
theorem qnW {d:Int} (h0:0≤d) (h6:d<6):∃ e:Nat,atI [V.int 0,V.int 3,V.int 12,V.int 25,V.int 39,V.int 40] d=some (V.int (e:Int))∧e≤40:=by
  have:d=0∨d=1∨d=2∨d=3∨d=4∨d=5:=by omega
  rcases this with rfl | rfl | rfl | rfl | rfl | rfl
  · exact ⟨0,rfl,by decide⟩
  · exact ⟨3,rfl,by decide⟩
  · exact ⟨12,rfl,by decide⟩
  · exact ⟨25,rfl,by decide⟩
  · exact ⟨39,rfl,by decide⟩
  · exact ⟨40,rfl,by decide⟩
theorem qm6 (h:qfm K vs H Q E):qnG K { nx:=fun _ H'=>Q .non H',rt:=Q } (L2.start ["_law_script", "_law_k", "_law_cell", "_law_c_here", "_law_m"] vs) H:=by
  obtain ⟨a,ns,rfl,hS,_,aT,hT,k⟩:=h
  have t0:Tab H:=⟨_,hT,.inl rfl⟩
  obtain ⟨ms,ems,l1⟩:=qov ns
  refine qlC (qfI ⟨_,rfl,1,rfl,a,_,rfl,hS,fun p hp=>?_⟩)
  rw [ems]
  have s1:=qag hp (HO.lst (ms.map V.int))
  have hpp:upd H p (HO.lst (ms.map V.int)) p=_:=qad
  show qhf _ _ _ _
  generalize upd H p (HO.lst (ms.map V.int))=H1 at s1 hpp ⊢
  refine qmC ⟨qim,fun p2 hp2=>?_⟩
  have s2:=qag hp2 (HO.lst [V.int 4])
  have h22:upd H1 p2 (HO.lst [V.int 4]) p2=_:=qad
  have hpp:=s2 _ _ hpp
  have s12:=s1.trans s2
  show qjn _ _ _ _
  generalize upd H1 p2 (HO.lst [V.int 4])=H2 at s2 h22 hpp s12 ⊢
  refine ⟨p,p2,_,_,rfl,rfl,hpp,h22,sz (by rw [List.length_map];show _+1≤_;omega),fun p3 hp3=>?_⟩
  have ecat:ms.map V.int++[V.int 4]=(ms++[4]).map V.int:=by rw [List.map_append];rfl
  rw [ecat]
  have s3:=qag hp3 (HO.lst ((ms++[4]).map V.int))
  have h33:upd H2 p3 (HO.lst ((ms++[4]).map V.int)) p3=_:=qad
  have s13:=s12.trans s3
  have ll:(ms++[4]).length≤2:=by rw [List.length_append];show _+1≤2;omega
  generalize ms++[4]=cs at h33 s3 s13 ll ⊢
  show ∃ _,_
  generalize upd H2 p3 (HO.lst (cs.map V.int))=H3 at s3 h33 s13 ⊢
  have t3:Tab H3:=TabOk.same t0 s13
  have hS3:=s13.seq hS
  refine ⟨p3,rfl,⟨_,SqL.of h33⟩,ForJ.enumL (xs:=cs.map V.int) (fun i σ H'=>∃ o1 o2 o3 o4:Option V,σ=[some (.ref a),o1,o2,o3,o4]∧H' p3=some (.lst (cs.map V.int))∧SqL K H' a (ns.map V.int)∧Tab H') ⟨none,none,none,none,rfl,h33,hS3,t3⟩ ?_ ?_ ?_⟩
  · rintro i σ H' _ ⟨o1,o2,o3,o4,rfl,h,_⟩
    exact SqL.of h
  · rintro i x p4 σ H4 hx ⟨o1,o2,o3,o4,rfl,h3,hS4,t4⟩ hp4
    have il:i<cs.length:=by have:=(List.getElem?_eq_some_iff.mp hx).1;rw [List.length_map] at this;exact this
    rw [List.getElem?_map,List.getElem?_eq_getElem il] at hx
    obtain rfl:=Option.some.inj hx
    generalize cs[i]=cell
    have s4:=qag hp4 (HO.tup [V.int (i:Int),V.int cell])
    have h44:upd H4 p4 (HO.tup [V.int (i:Int),V.int cell]) p4=_:=qad
    have h3:=s4 _ _ h3
    have hS4:=s4.seq hS4
    have t4:Tab _:=TabOk.same t4 s4
    generalize upd H4 p4 (HO.tup [V.int (i:Int),V.int cell])=H5 at s4 h44 h3 hS4 t4 ⊢
    refine ⟨p4,_,rfl,h44,rfl,_,_,rfl,_,_,rfl,rfl,?_⟩
    show qem K _ [some (.ref a),some (.int (i:Int)),some (.int cell),o3,o4] _
    refine qlc (qfI (qa5 ⟨_,rfl,_,rfl,_,_,rfl,rfl,a,ns,(i:Int)+1,rfl,hS4,by omega,fun n=>⟨_,rfl,_,_,rfl,rfl,qjS (by decide) (by decide),_,_,rfl,rfl,n+5*(i:Int),rfl,fun c q H6 s6 hc cz q0 q5=>?_⟩⟩))
    have h3:=s6 _ _ h3
    have hS6:=s6.seq hS4
    have t6:Tab H6:=TabOk.same t4 s6
    show qel K _ [some (.ref a),some (.int (i:Int)),some (.int cell),some (.ref c),o4] _
    refine qbF ⟨_,rfl,qii (qfI (qa5 ⟨_,rfl,_,rfl,_,_,rfl,rfl,a,ns,(i:Int)+2,rfl,hS6,by omega,fun n2=>⟨_,rfl,_,_,rfl,rfl,qjS (by decide) (by decide),_,_,rfl,rfl,n2+7*(i:Int),2,6,rfl,by decide,by decide,by decide,fun d d0 d1=>⟨cell,d,rfl,d0,d1,fun m H7 s7 m2 ml=>?_⟩⟩⟩))⟩
    have h3:=s7 _ _ h3
    have hS7:=s7.seq hS6
    have t7:Tab H7:=TabOk.same t6 s7
    have hc7:=s7 _ _ hc
    show qek K _ [some (.ref a),some (.int (i:Int)),some (.int cell),some (.ref c),some (.int m)] _
    refine ⟨_,rfl,_,rfl,c,q,m,rfl,hc7,cz,q0,q5,m2,ml,t7,fun H8 kp tb=>⟨_,rfl,qbJ (fun z=>by cases z) fun _=>?_⟩⟩
    have h3:=qfs t7 kp h3
    have hS8:=Kp.seq kp aT hS7
    have hc8:=t7.tp kp _ _ hc7
    refine ⟨_,rfl,_,rfl,qnQ,fun p9 hp9=>?_⟩
    have s9:=qag hp9 (HO.tup [V.int 0,V.int 3,V.int 12,V.int 25,V.int 39,V.int 40])
    have h99:upd H8 p9 (HO.tup [V.int 0,V.int 3,V.int 12,V.int 25,V.int 39,V.int 40]) p9=_:=qad
    have h3:=s9 _ _ h3
    have hS9:=s9.seq hS8
    have hc9:=s9 _ _ hc8
    have t9:Tab _:=TabOk.same tb s9
    refine qii ⟨_,rfl,cell,3,6,rfl,by decide,by decide,by decide,fun d2 e0 e1=>?_⟩
    obtain ⟨e,he,e40⟩:=qnW e0 e1
    refine ⟨p9,d2,_,_,rfl,rfl,h99,he,?_⟩
    show ∃ _,_
    generalize upd H8 p9 (HO.tup [V.int 0,V.int 3,V.int 12,V.int 25,V.int 39,V.int 40])=H9 at s9 h99 h3 hS9 hc9 t9 ⊢
    refine ⟨c,q,m,e,rfl,hc9,cz,q0,e40,m2,ml,t9,fun H10 kp2 tb2=>⟨_,rfl,qbJ (fun z=>by cases z) fun _=>?_⟩⟩
    exact ⟨_,_,_,_,rfl,qfs t9 kp2 h3,Kp.seq kp2 aT hS9,tb2⟩
  · rintro σ H' ⟨o1,o2,o3,o4,rfl,_⟩
    exact k H'
end Bs
namespace Bs
open PySem PySem.Spec PyProof.Rows L2
set_option maxHeartbeats 4000000
open Hd
structure Bl (K:W.Frag) (mg:Str→Option Value):Prop where
  abs:mg "abs" = none
  sorted:mg "sorted" = none
  tuple:mg "tuple" = none
  list:mg "list" = none
  FIRST_BITS:mg "FIRST_BITS" = some (.int 64 243)
  len:mg "len" = none
  isinstance:mg "isinstance" = none
  int:mg "int" = none
  bool:mg "bool" = none
  range:mg "range" = none
  any:mg "any" = none
  enumerate:mg "enumerate" = none
section
variable (P:Program) (w:World) (K:W.Frag) (mg:Str→Option Value) (base:Heap)
noncomputable abbrev qaW:Prop:=Cal P w K mg base 1 "common_divisor" ["one", "other"] (qax K)
noncomputable abbrev qdT:Prop:=Cal P w K mg base 2 "ratio" ["top", "bottom"] (qbk K)
noncomputable abbrev qgx:Prop:=Cal P w K mg base 3 "plus" ["one", "other"] (qci K)
noncomputable abbrev qiX:Prop:=Cal P w K mg base 3 "minus" ["one", "other"] (qdb K)
noncomputable abbrev qeQ:Prop:=Cal P w K mg base 3 "times" ["one", "other"] (qbG K)
noncomputable abbrev qgy:Prop:=Cal P w K mg base 1 "before" ["one", "other"] (qbU K)
noncomputable abbrev qaD:Prop:=Cal P w K mg base 6 "settled_number" ["q", "rows"] (qan K)
noncomputable abbrev qbM:Prop:=Cal P w K mg base 5 "without_common" ["pieces"] (qaN K)
noncomputable abbrev qb0:Prop:=Cal P w K mg base 4 "pieces_of_two" ["one", "other"] (qaV K)
noncomputable abbrev qgz:Prop:=Cal P w K mg base 7 "n_plus" ["one", "other"] (qbz K)
noncomputable abbrev qeo:Prop:=Cal P w K mg base 7 "n_scaled" ["one", "c"] (qaZ K)
noncomputable abbrev qft:Prop:=Cal P w K mg base 7 "sign_of" ["one"] (qaO K)
noncomputable abbrev qku:Prop:=Cal P w K mg base 7 "held" ["one", "width"] (qdu K)
noncomputable abbrev qdU:Prop:=Cal P w K mg base 4 "ends_of" ["n", "bits"] (qa7 K)
noncomputable abbrev qep:Prop:=Cal P w K mg base 2 "log_ends" ["whole", "bits"] (qbH K)
noncomputable abbrev qcB:Prop:=Cal P w K mg base 1 "series_ends" ["top", "bottom", "bits"] (qaR K)
noncomputable abbrev qkv:Prop:=Cal P w K mg base 1 "_law_at" ["_law_script", "_law_k"] (qdv K)
noncomputable abbrev qeR:Prop:=Cal P w K mg base 1 "_law_draw" ["_law_cell", "_law_k", "_law_many"] (qba K)
noncomputable abbrev qbn:Prop:=Cal P w K mg base 1 "_law_number" ["_law_top", "_law_bottom"] (qaM K)
noncomputable abbrev qgA:Prop:=Cal P w K mg base 2 "_law_plus" ["_law_one", "_law_other"] (qcw K)
noncomputable abbrev qfu:Prop:=Cal P w K mg base 2 "_law_times" ["_law_one", "_law_other"] (qby K)
noncomputable abbrev qcC:Prop:=Cal P w K mg base 1 "_law_not_above" ["_law_one", "_law_other"] (qaE K)
noncomputable abbrev qcD:Prop:=Cal P w K mg base 2 "_law_is_number" ["_law_found"] (qaS K)
noncomputable abbrev qm7:Prop:=Cal P w K mg base 2 "_law_c" ["_law_cell"] (qgi K)
noncomputable abbrev qfv:Prop:=Cal P w K mg base 1 "_law_whole" ["_law_cell", "_law_kind"] (qb6 K)
noncomputable abbrev qfw:Prop:=Cal P w K mg base 8 "_law_signs" ["_law_c_here", "_law_m"] (qb7 K)
noncomputable abbrev qgB:Prop:=Cal P w K mg base 8 "_law_held" ["_law_c_here", "_law_m", "_law_places"] (qcx K)
end
section
variable {P:Program} {w:World} {K:W.Frag} {mg:Str→Option Value} {base:Heap} {f:Addr} {fd:FuncData}
theorem okm {n:Str} {st:Stmt} {N ps:List Str} {k:Nat} {sp:Sp} {t:TS} (F:Fun K n n st f fd) (v:∀ {vs:List V} {H:Hp} {Q:VK} {E:XK},sp vs H Q E→t { nx:=fun _ H'=>Q .non H',rt:=Q } (start N vs) H) (d:∀ {cdv:Value} {A:Around} {outer:List Env} {s:Shared} {H:Hp} {E:XK} (hr:Room k (A.deeper (envOfC n (qat st) s.heap.objs.size f cdv))) (nd:N.Nodup) (hu:(A.deeper (envOfC n (qat st) s.heap.objs.size f cdv)).units<cLine) (hu64:(A.deeper (envOfC n (qat st) s.heap.objs.size f cdv)).units+64<cLine),PSs (qjj CX0 P w K mg base N n (qat st) f cdv A outer s H E).nox (qaL st) t) (S:FnScope N ps (qat st):=by exact ⟨rfl,rfl,rfl,by decide +kernel,rfl,by decide +kernel,by decide +kernel⟩) (len:∀ vs H Q E,sp vs H Q E→vs.length=ps.length:=by intro vs H Q E h;repeat (first | (obtain ⟨rfl,_⟩:=h;rfl) | obtain ⟨_,h⟩:=h)):FnOk P w K mg base CX0 (k+1) f fd ps sp:=F.ok S len fun cdv A outer s H vs Q E hr h=>⟨t,d hr S.nd hr.units0 hr.units,v h⟩
theorem qow {n:Str} {st:Stmt} {c:Addr} {pm:Value} {N ps:List Str} {k:Nat} {sp:Sp} {t:TS} (l:K.lookup f=some ⟨.type "function", none,.func (PySem.W.fnOf n n (qa2 st) (qaL st) (qat st) .none .none .none pm none (.ref c) .none),#[]⟩) (e:PySem.W.codeIn K (.ref c) n=true) (v:∀ {vs:List V} {H:Hp} {Q:VK} {E:XK},sp vs H Q E→t { nx:=fun _ H'=>Q .non H',rt:=Q } (start N vs) H) (d:∀ {A:Around} {outer:List Env} {s:Shared} {H:Hp} {E:XK} (hr:Room k (A.deeper (envOfC n (qat st) s.heap.objs.size f (.ref c)))) (nd:N.Nodup) (hu:(A.deeper (envOfC n (qat st) s.heap.objs.size f (.ref c))).units<cLine) (hu64:(A.deeper (envOfC n (qat st) s.heap.objs.size f (.ref c))).units+64<cLine),PSs (qjj CX0 P w K mg base N n (qat st) f (.ref c) A outer s H E).nox (qaL st) t) (S:FnScope N ps (qat st):=by exact ⟨rfl,rfl,rfl,by decide +kernel,rfl,by decide +kernel,by decide +kernel⟩) (len:∀ vs H Q E,sp vs H Q E→vs.length=ps.length:=by intro vs H Q E h;repeat (first | (obtain ⟨rfl,_⟩:=h;rfl) | obtain ⟨_,h⟩:=h)):FnOk P w K mg base CX0 (k+1) f (PySem.W.fnOf n n (qa2 st) (qaL st) (qat st) .none .none .none pm none (.ref c) .none) ps sp:=qlX l e S len fun A outer s H vs Q E hr h=>⟨t,(d hr S.nd hr.units0 hr.units).nox,v h⟩
theorem li {a:Prop} {α:Type} {x:α}:x=x∨a:=Or.inl rfl
theorem qcO (F:Fun K "common_divisor" "common_divisor" qcZ f fd) (B:Bl K mg)  : FnOk P w K mg base CX0 1 f fd ["one", "other"] (qax K):=okm F (qcL ) fun hr nd hu ht=>(qah (qb1 PassesOwn.never (qaF qjg (pv 1) qab (nomark _)) (qah (qas (i:=2) nd rfl li (qao qkA (pv 0) (pv 1)))
    (qah (qas (i:=0) nd rfl li (pv 1))
    (qaj (qas (i:=1) nd rfl li (pv 2))))))
    (qaj (qaw (qaU qdl rfl B.abs qhT (qaa (pv 0) qae)))))
theorem qj4 (F:Fun K "ratio" "ratio" qkL f fd) (B:Bl K mg) (c0:qaW P w K mg base):FnOk P w K mg base CX0 2 f fd ["top", "bottom"] (qbk K):=okm F (qjT ) fun hr nd hu ht=>(qah (qas (i:=2) nd rfl li (c0.pe hr (by decide) rfl (qaa (pv 0) (qaa (pv 1) qae))))
    (qah (qb9 (qaF qe0 (pv 1) qab (nomark _)) (qaj (qas (i:=2) nd rfl li (qdh qbQ (pv 2)))) qaX)
    (qaj (qaw (qav (qaa (qao qcs (pv 0) (pv 2)) (qaa (qao qcs (pv 1) (pv 2)) qae)))))))
theorem qlD (F:Fun K "plus" "plus" ql2 f fd) (B:Bl K mg) (c0:qdT P w K mg base):FnOk P w K mg base CX0 3 f fd ["one", "other"] (qci K):=okm F (qlg ) fun hr nd hu ht=>(qaj (qaw (c0.pe hr (by decide) rfl (qaa (qao qaQ (qao qau (qam qaf (pv 0) qab (fun _ _=>rfl)) (qam qaf (pv 1) qab (fun _ _=>rfl))) (qao qau (qam qaf (pv 1) qab (fun _ _=>rfl)) (qam qaf (pv 0) qab (fun _ _=>rfl)))) (qaa (qao qau (qam qaf (pv 0) qab (fun _ _=>rfl)) (qam qaf (pv 1) qab (fun _ _=>rfl))) qae)))))
theorem qj5 (F:Fun K "minus" "minus" qkM f fd) (B:Bl K mg) (c0:qdT P w K mg base):FnOk P w K mg base CX0 3 f fd ["one", "other"] (qdb K):=okm F (qjV ) fun hr nd hu ht=>(qaj (qaw (c0.pe hr (by decide) rfl (qaa (qao qf2 (qao qau (qam qaf (pv 0) qab (fun _ _=>rfl)) (qam qaf (pv 1) qab (fun _ _=>rfl))) (qao qau (qam qaf (pv 1) qab (fun _ _=>rfl)) (qam qaf (pv 0) qab (fun _ _=>rfl)))) (qaa (qao qau (qam qaf (pv 0) qab (fun _ _=>rfl)) (qam qaf (pv 1) qab (fun _ _=>rfl))) qae)))))
theorem qj6 (F:Fun K "times" "times" qkN f fd) (B:Bl K mg) (c0:qdT P w K mg base):FnOk P w K mg base CX0 3 f fd ["one", "other"] (qbG K):=okm F (qjU ) fun hr nd hu ht=>(qaj (qaw (c0.pe hr (by decide) rfl (qaa (qao qau (qam qaf (pv 0) qab (fun _ _=>rfl)) (qam qaf (pv 1) qab (fun _ _=>rfl))) (qaa (qao qau (qam qaf (pv 0) qab (fun _ _=>rfl)) (qam qaf (pv 1) qab (fun _ _=>rfl))) qae)))))
theorem qiY (F:Fun K "before" "before" qjo f fd) (B:Bl K mg)  : FnOk P w K mg base CX0 1 f fd ["one", "other"] (qbU K):=okm F (qiO ) fun hr nd hu ht=>(qaj (qaw (qbR qe0 (qao qau (qam qaf (pv 0) qab (fun _ _=>rfl)) (qam qaf (pv 1) qab (fun _ _=>rfl))) (qao qau (qam qaf (pv 1) qab (fun _ _=>rfl)) (qam qaf (pv 0) qab (fun _ _=>rfl))) (nomark _))))
theorem qcP {pm:Value} (l:K.lookup f=some ⟨.type "function", none,.func (PySem.W.fnOf "settled_number" "settled_number" (qa2 qaA) (qaL qaA) (qat qaA) .none .none .none pm none (.ref 60) .none),#[]⟩) (e:PySem.W.codeIn K (.ref 60) "settled_number" = true) (hC:PySem.W.CodeHd base 60 qcj) (hbt:base.BuiltinsAt mg qcj) (B:Bl K mg) (c0:qeQ P w K mg base) (c1:qbM P w K mg base):FnOk P w K mg base CX0 6 f (PySem.W.fnOf "settled_number" "settled_number" (qa2 qaA) (qaL qaA) (qat qaA) .none .none .none pm none (.ref 60) .none) ["q", "rows"] (qan K):=qow l e (qcN ) fun {A outer s H E} hr nd hu ht=>by
  have hcd:(qjj CX0 P w K mg base ["q", "rows", "pieces", "found"] "settled_number" (qat qaA) f (.ref 60) A outer s H E).nox.env.code=.ref 60:=rfl
  have hrm:=hr.depth
  exact (qah (qas (i:=2) nd rfl li (qao qhI (qdn (N:=["c", "r"]) (capt:=[none,none]) rfl (BlkOk.of rfl rfl rfl rfl (fun _ h=>nomatch h) rfl rfl rfl) (qdg (pv 1)) (fun _ _ _ _=>(qcI rfl (qaT (qaK (i:=0) (show (["c", "r"]:List PySem.Str).Nodup by decide +kernel) rfl li) (qaT (qaK (i:=1) (show (["c", "r"]:List PySem.Str).Nodup by decide +kernel) rfl li) qcE)))) (fun _ _ _ _=>(qav (qaa (pv 0) (qaa (qam qaf (pv 1) qab (fun _ _=>rfl)) qae))))) (qdn (N:=["c", "r"]) (capt:=[none,none]) rfl (BlkOk.of rfl rfl rfl rfl (fun _ h=>nomatch h) rfl rfl rfl) (qdg (pv 1)) (fun _ _ _ _=>(qcI rfl (qaT (qaK (i:=0) (show (["c", "r"]:List PySem.Str).Nodup by decide +kernel) rfl li) (qaT (qaK (i:=1) (show (["c", "r"]:List PySem.Str).Nodup by decide +kernel) rfl li) qcE)))) (fun _ _ _ _=>(qav (qaa (c0.pe hr (by decide) rfl (qaa (pv 0) (qaa (qav (qaa (qdh qbQ qab) (qaa qab qae))) qae))) (qaa (qam qaf (pv 1) qab (fun _ _=>rfl)) qae)))))))
    (qah (qas (i:=3) nd rfl li (qid hcd hC hbt hrm B.sorted (c1.pe hr (by decide) rfl (qaa (pv 2) qae))))
    (qaj (qaw (qav (qaa (pv 0) (qaa (qa1 qh5 rfl B.tuple qez (qaa (qdn (N:=["c", "whole"]) (capt:=[none,none]) rfl (BlkOk.of rfl rfl rfl rfl (fun _ h=>nomatch h) rfl rfl rfl) (qdg (pv 3)) (fun _ _ _ _=>(qcI rfl (qaT (qaK (i:=0) (show (["c", "whole"]:List PySem.Str).Nodup by decide +kernel) rfl li) (qaT (qaK (i:=1) (show (["c", "whole"]:List PySem.Str).Nodup by decide +kernel) rfl li) qcE)))) (fun _ _ _ _=>(qav (qaa (pv 0) (qaa (qav (qaa (pv 1) (qaa qab qae))) qae))))) qae)) qae)))))))
theorem qcQ (F:Fun K "without_common" "without_common" qc0 f fd) (B:Bl K mg) (c0:qaW P w K mg base) (c1:qb0 P w K mg base):FnOk P w K mg base CX0 5 f fd ["pieces"] (qaN K):=okm F (qcM ) fun hr nd hu ht=>(qah (qas (i:=1) nd rfl li (qa1 qgT rfl B.list qcF (qaa (pv 0) qae)))
    (qah (qas (i:=2) nd rfl li (qd7 qae))
    (qah (qb1 PassesOwn.never (qh4 (pv 1) (fun _=>rfl)) (qah (qas (i:=3) nd rfl (Or.inr rfl) (qhG PySem.F.plainAttrs_list PySem.F.slot_list_pop PySem.F.type_list_pop ql0 (pv 1)))
    (qaj (qb9 (PW.pt (qhm (qaF qjg (qam qaf (qam qaf (pv 3) qab (fun _ _=>rfl)) qab (fun _ _=>rfl)) qab (nomark _)) (qfA (qaF qe1 (qam qaf (pv 3) qab (fun _ _=>rfl)) qab (nomark _))))) (qah (qjG (i:=4) (N:=["other", "piece"]) (capt:=[none,some 3]) nd rfl li rfl (BlkOk.of rfl rfl rfl rfl (List.forall_mem_singleton.mpr rfl) rfl rfl rfl) (qdg (pv 2)) (fun _ _ _ _=>(qaK (i:=0) (show (["other", "piece"]:List PySem.Str).Nodup by decide +kernel) rfl li)) (fun _ _ _ _=>(qaF qe1 (c0.pe hr (by decide) rfl (qaa (qam qaf (pv 1) qab (fun _ _=>rfl)) (qaa (qam qaf (pv 0) qab (fun _ _=>rfl)) qae))) qab (nomark _))) (fun _ _ _ _=>(pv 0)))
    (qaj (qb9 (qh4 (pv 4) (fun _=>rfl)) (qah (qde (qjl PySem.F.plainAttrs_list PySem.F.slot_list_remove PySem.F.type_list_remove (qh9 ht) (pv 2) (qaa (qam qcG (pv 4) qab (fun _ _=>rfl)) qae)))
    (qaj (qde (qjl PySem.F.plainAttrs_list PySem.F.slot_list_extend PySem.F.type_list_extend qhH (pv 1) (qaa (c1.pe hr (by decide) rfl (qaa (pv 3) (qaa (qam qcG (pv 4) qab (fun _ _=>rfl)) qae))) qae))))) (qaj (qde (qjl PySem.F.plainAttrs_list PySem.F.slot_list_append PySem.F.type_list_append qe8 (pv 2) (qaa (pv 3) qae))))))) qaX))))
    (qaj (qaw (pv 2))))))
theorem qc4 (F:Fun K "pieces_of_two" "pieces_of_two" qdj f fd) (B:Bl K mg) (c0:qaW P w K mg base) (c1:qgx P w K mg base):FnOk P w K mg base CX0 4 f fd ["one", "other"] (qaV K):=okm F (qc3 ) fun hr nd hu ht=>(qah (qas (i:=2) nd rfl li (c0.pe hr (by decide) rfl (qaa (qam qaf (pv 0) qab (fun _ _=>rfl)) (qaa (qam qaf (pv 1) qab (fun _ _=>rfl)) qae))))
    (qaj (qaw (qd7 (qaa (qav (qaa (qam qaf (pv 0) qab (fun _ _=>rfl)) (qaa (qao qc8 (qam qaf (pv 0) qab (fun _ _=>rfl)) (pv 2)) qae))) (qaa (qav (qaa (qam qaf (pv 1) qab (fun _ _=>rfl)) (qaa (qao qc8 (qam qaf (pv 1) qab (fun _ _=>rfl)) (pv 2)) qae))) (qaa (qav (qaa (c1.pe hr (by decide) rfl (qaa (qam qaf (pv 0) qab (fun _ _=>rfl)) (qaa (qam qaf (pv 1) qab (fun _ _=>rfl)) qae))) (qaa (pv 2) qae))) qae)))))))
theorem qiZ (F:Fun K "n_plus" "n_plus" qjp f fd) (B:Bl K mg) (c0:qgx P w K mg base) (c1:qaD P w K mg base):FnOk P w K mg base CX0 7 f fd ["one", "other"] (qbz K):=okm F (qiR ) fun hr nd hu ht=>(qaj (qaw (c1.pe hr (by decide) rfl (qaa (c0.pe hr (by decide) rfl (qaa (qam qaf (pv 0) qab (fun _ _=>rfl)) (qaa (qam qaf (pv 1) qab (fun _ _=>rfl)) qae))) (qaa (qao qhI (qa1 qbx rfl B.list qcF (qaa (qam qaf (pv 0) qab (fun _ _=>rfl)) qae)) (qa1 qbx rfl B.list qcF (qaa (qam qaf (pv 1) qab (fun _ _=>rfl)) qae))) qae)))))
theorem qfU (F:Fun K "n_scaled" "n_scaled" qgK f fd) (B:Bl K mg) (c0:qeQ P w K mg base) (c1:qaD P w K mg base):FnOk P w K mg base CX0 7 f fd ["one", "c"] (qaZ K):=okm F (qfS ) fun hr nd hu ht=>(qaj (qaw (c1.pe hr (by decide) rfl (qaa (c0.pe hr (by decide) rfl (qaa (qam qaf (pv 0) qab (fun _ _=>rfl)) (qaa (pv 1) qae))) (qaa (qdn (N:=["e", "r", "c"]) (capt:=[none,none,some 1]) rfl (BlkOk.of rfl rfl rfl rfl (List.forall_mem_singleton.mpr rfl) rfl rfl rfl) (qf0 (qam qaf (pv 0) qab (fun _ _=>rfl))) (fun _ _ _ _=>(qcI rfl (qaT (qaK (i:=0) (show (["e", "r", "c"]:List PySem.Str).Nodup by decide +kernel) rfl li) (qaT (qaK (i:=1) (show (["e", "r", "c"]:List PySem.Str).Nodup by decide +kernel) rfl li) qcE)))) (fun _ _ _ _=>(qav (qaa (c0.pe hr (by decide) rfl (qaa (pv 0) (qaa (pv 2) qae))) (qaa (pv 1) qae))))) qae)))))
theorem qg8 (F:Fun K "sign_of" "sign_of" qhL f fd) (B:Bl K mg) (c0:qaD P w K mg base) (c1:qdU P w K mg base):FnOk P w K mg base CX0 7 f fd ["one"] (qaO K):=okm F (qg5 ) fun hr nd hu ht=>(qah (qas (i:=1) nd rfl li (c0.pe hr (by decide) rfl (qaa (qam qaf (pv 0) qab (fun _ _=>rfl)) (qaa (qa1 qbx rfl B.list qcF (qaa (qam qaf (pv 0) qab (fun _ _=>rfl)) qae)) qae))))
    (qah (qb9 (qaF (qmr ht) (pv 1) (qav (qaa (qav (qaa qab (qaa qab qae))) (qaa (qav qae) qae))) (nomark _)) (qaj (qaw qab)) qaX)
    (qah (qas (i:=2) nd rfl li (qhk rfl B.FIRST_BITS ⟨_,rfl⟩))
    (qah (qas (i:=3) nd rfl li (c1.pe hr (by decide) rfl (qaa (pv 1) (qaa (pv 2) qae))))
    (qah (qb1 PassesOwn.never (PW.pt (qhm (qaF qkC (qam qaf (qam qaf (pv 3) qab (fun _ _=>rfl)) qab (fun _ _=>rfl)) qab (nomark _)) (qfA (qaF qno (qam qaf (qam qaf (pv 3) qab (fun _ _=>rfl)) qab (fun _ _=>rfl)) qab (nomark _))))) (qah (qfZ (i:=2) nd rfl li qab qf7)
    (qaj (qas (i:=3) nd rfl li (c1.pe hr (by decide) rfl (qaa (pv 1) (qaa (pv 2) qae)))))))
    (qaj (qaw (qjc (qaF qe1 (qam qaf (qam qaf (pv 3) qab (fun _ _=>rfl)) qab (fun _ _=>rfl)) qab (nomark _)) qab (qdh qbQ qab)))))))))
theorem qlE (F:Fun K "held" "held" ql3 f fd) (B:Bl K mg) (c0:qaD P w K mg base) (c1:qdU P w K mg base) (c2:qiX P w K mg base) (c3:qgy P w K mg base):FnOk P w K mg base CX0 7 f fd ["one", "width"] (qdu K):=okm F (qlt ) fun hr nd hu ht=>(qah (qas (i:=2) nd rfl li (c0.pe hr (by decide) rfl (qaa (qam qaf (pv 0) qab (fun _ _=>rfl)) (qaa (qa1 qbx rfl B.list qcF (qaa (qam qaf (pv 0) qab (fun _ _=>rfl)) qae)) qae))))
    (qah (qas (i:=3) nd rfl li (qhk rfl B.FIRST_BITS ⟨_,rfl⟩))
    (qah (qas (i:=4) nd rfl li (c1.pe hr (by decide) rfl (qaa (pv 2) (qaa (pv 3) qae))))
    (qah (qb1 PassesOwn.never (qbI (c3.pe hr (by decide) rfl (qaa (pv 1) (qaa (c2.pe hr (by decide) rfl (qaa (qam qaf (pv 4) qab (fun _ _=>rfl)) (qaa (qam qaf (pv 4) qab (fun _ _=>rfl)) qae))) qae)))) (qah (qfZ (i:=3) nd rfl li qab qf7)
    (qaj (qas (i:=4) nd rfl li (c1.pe hr (by decide) rfl (qaa (pv 2) (qaa (pv 3) qae)))))))
    (qaj (qaw (pv 4)))))))
theorem qg9 (F:Fun K "ends_of" "ends_of" qhM f fd) (B:Bl K mg) (c0:qep P w K mg base) (c1:qdT P w K mg base) (c2:qeQ P w K mg base) (c3:qgx P w K mg base):FnOk P w K mg base CX0 4 f fd ["n", "bits"] (qa7 K):=okm F (qg4 ) fun hr nd hu ht=>(qah (qas (i:=2) nd rfl li (qam qaf (pv 0) qab (fun _ _=>rfl)))
    (qah (qas (i:=3) nd rfl li (qam qaf (pv 0) qab (fun _ _=>rfl)))
    (qah (qeZ PassesOwn.never rfl (qf0 (qam qaf (pv 0) qab (fun _ _=>rfl))) (qcI rfl (qaT (qaK (i:=4) nd rfl (Or.inr rfl)) (qaT (qaK (i:=5) nd rfl li) qcE))) (qah (qk2 (i:=6) (N:=["end", "c", "bits"]) (capt:=[none,some 4,some 1]) nd rfl li rfl (BlkOk.of rfl rfl rfl rfl (List.forall_mem_cons.mpr ⟨rfl,(List.forall_mem_singleton.mpr rfl)⟩) rfl rfl rfl) (qf0 (c0.pe hr (by decide) rfl (qaa (qam qaf (pv 5) qab (fun _ _=>rfl)) (qaa (pv 1) qae)))) (fun _ _ _ _=>(qaK (i:=0) (show (["end", "c", "bits"]:List PySem.Str).Nodup by decide +kernel) rfl li)) (fun _ _ _ _=>(c2.pe hr (by decide) rfl (qaa (pv 1) (qaa (c1.pe hr (by decide) rfl (qaa (pv 0) (qaa (qao op_shl qab (pv 2)) qae))) qae)))))
    (qah (qb9 (qaF qe0 (qam qaf (pv 4) qab (fun _ _=>rfl)) qab (nomark _)) (qaj (qas (i:=6) nd rfl li (qmz (pv 6) (qdh qbQ qab)))) qaX)
    (qah (qas (i:=2) nd rfl li (c3.pe hr (by decide) rfl (qaa (pv 2) (qaa (qam qcG (pv 6) qab (fun _ _=>rfl)) qae))))
    (qaj (qas (i:=3) nd rfl li (c3.pe hr (by decide) rfl (qaa (pv 3) (qaa (qam qcG (pv 6) qab (fun _ _=>rfl)) qae)))))))))
    (qaj (qaw (qav (qaa (pv 2) (qaa (pv 3) qae))))))))
theorem qfV (F:Fun K "log_ends" "log_ends" qgL f fd) (B:Bl K mg) (c0:qcB P w K mg base):FnOk P w K mg base CX0 2 f fd ["whole", "bits"] (qbH K):=okm F (qfR ) fun hr nd hu ht=>(qah (qas (i:=2) nd rfl li (qao qf2 (qhG PySem.F.plainAttrs_int PySem.F.slot_int_bit_length PyProof.Rows.type_int_bit_length qk7 (pv 0)) qab))
    (qah (qas (i:=3) nd rfl li (qao op_shl qab (pv 2)))
    (qah (qas (i:=4) nd rfl li (c0.pe hr (by decide) rfl (qaa (qao qf2 (pv 0) (pv 3)) (qaa (qao qaQ (pv 0) (pv 3)) (qaa (pv 1) qae)))))
    (qah (qas (i:=5) nd rfl li (c0.pe hr (by decide) rfl (qaa qab (qaa qab (qaa (pv 1) qae)))))
    (qaj (qaw (qav (qaa (qao qaQ (qam qaf (pv 4) qab (fun _ _=>rfl)) (qao qau (pv 2) (qam qaf (pv 5) qab (fun _ _=>rfl)))) (qaa (qao qaQ (qam qaf (pv 4) qab (fun _ _=>rfl)) (qao qau (pv 2) (qam qaf (pv 5) qab (fun _ _=>rfl)))) qae)))))))))
theorem qd1 (F:Fun K "series_ends" "series_ends" qew f fd) (B:Bl K mg)  : FnOk P w K mg base CX0 1 f fd ["top", "bottom", "bits"] (qaR K):=okm F (qd0 ) fun hr nd hu ht=>(qah (qas (i:=3) nd rfl li (qao qc8 (qao op_shl (pv 0) (pv 2)) (pv 1)))
    (qah (qas (i:=4) nd rfl li (qao op_shr (qao qau (pv 3) (pv 3)) (pv 2)))
    (qah (qas (i:=5) nd rfl li qab)
    (qah (qas (i:=6) nd rfl li qab)
    (qah (qb1 PassesOwn.never (qaF qe1 (pv 3) qab (nomark _)) (qah (qfZ (i:=5) nd rfl li (qao qc8 (pv 3) (pv 6)) qhu)
    (qah (qas (i:=3) nd rfl li (qao op_shr (qao qau (pv 3) (pv 4)) (pv 2)))
    (qaj (qfZ (i:=6) nd rfl li qab qhu)))))
    (qaj (qaw (qav (qaa (qao qau qab (pv 5)) (qaa (qao qau qab (qao qaQ (qao qaQ (pv 5) (pv 6)) qab)) qae))))))))))
theorem qlF (F:Fun K "_law_at" "_law_at" ql4 f fd) (B:Bl K mg)  : FnOk P w K mg base CX0 1 f fd ["_law_script", "_law_k"] (qdv K):=okm F (qln ) fun hr nd hu ht=>(qah (qb9 (qjh qkC qe0 qab (pv 1) (qaU qh0 rfl B.len qhU (qaa (pv 0) qae))) (qaj (qaw (qam qhZ (pv 0) (pv 1) (fun _ _=>rfl)))) qaX)
    (qaj (qaw qab)))
theorem qi0 (F:Fun K "_law_draw" "_law_draw" qjq f fd) (B:Bl K mg)  : FnOk P w K mg base CX0 1 f fd ["_law_cell", "_law_k", "_law_many"] (qba K):=okm F (qiI ) fun hr nd hu ht=>(qah (qb9 (PW.pt (qhm (qaF qe1 (pv 0) (qao qhY qab qab) (nomark _)) (qfA (qaF qe0 (pv 2) qab (nomark _))))) (qaj (qaw (qao qcp (qao qcp (qao op_shr (pv 0) (qao qau qab (pv 1))) qab) (pv 2)))) qaX)
    (qah (qas (i:=3) nd rfl li (qao qcp (qao qau (qao qaQ (qao qaQ (qao qcp (pv 0) qab) (qao qau (qao qau (pv 1) (pv 1)) qab)) qab) qab) qab))
    (qaj (qaw (qao qcp (qao qjy (qao qcp (qao qau (pv 3) (pv 3)) qab) qab) (pv 2))))))
theorem qfW (F:Fun K "_law_number" "_law_number" qgM f fd) (B:Bl K mg)  : FnOk P w K mg base CX0 1 f fd ["_law_top", "_law_bottom"] (qaM K):=okm F (qfN ) fun hr nd hu ht=>(qah (qkc (i:=2) (j:=3) rfl nd rfl rfl (by decide) rfl rfl (qaa (qaU qdl rfl B.abs qhT (qaa (pv 0) qae)) (qaa (qaU qdl rfl B.abs qhT (qaa (pv 1) qae)) qae)) rfl)
    (qah (qb1 PassesOwn.never (qaF qe1 (pv 3) qab (nomark _)) (qaj (qkc (i:=2) (j:=3) rfl nd rfl rfl (by decide) rfl rfl (qaa (pv 3) (qaa (qao qcp (pv 2) (pv 3)) qae)) rfl)))
    (qah (qb9 (qaF qe0 (pv 1) qab (nomark _)) (qaj (qas (i:=2) nd rfl li (qdh qbQ (pv 2)))) qaX)
    (qaj (qaw (qav (qaa (qao qcs (pv 0) (pv 2)) (qaa (qao qcs (pv 1) (pv 2)) qae))))))))
theorem qi1 (F:Fun K "_law_plus" "_law_plus" qjr f fd) (B:Bl K mg) (c0:qbn P w K mg base):FnOk P w K mg base CX0 2 f fd ["_law_one", "_law_other"] (qcw K):=okm F (qiC ) fun hr nd hu ht=>(qaj (qaw (c0.pe hr (by decide) rfl (qaa (qao qaQ (qao qau (qam qaf (pv 0) qab (fun _ _=>rfl)) (qam qaf (pv 1) qab (fun _ _=>rfl))) (qao qau (qam qaf (pv 1) qab (fun _ _=>rfl)) (qam qaf (pv 0) qab (fun _ _=>rfl)))) (qaa (qao qau (qam qaf (pv 0) qab (fun _ _=>rfl)) (qam qaf (pv 1) qab (fun _ _=>rfl))) qae)))))
theorem qha (F:Fun K "_law_times" "_law_times" qhN f fd) (B:Bl K mg) (c0:qbn P w K mg base):FnOk P w K mg base CX0 2 f fd ["_law_one", "_law_other"] (qby K):=okm F (qg2 ) fun hr nd hu ht=>(qaj (qaw (c0.pe hr (by decide) rfl (qaa (qao qau (qam qaf (pv 0) qab (fun _ _=>rfl)) (qam qaf (pv 1) qab (fun _ _=>rfl))) (qaa (qao qau (qam qaf (pv 0) qab (fun _ _=>rfl)) (qam qaf (pv 1) qab (fun _ _=>rfl))) qae)))))
theorem qd2 (F:Fun K "_law_not_above" "_law_not_above" qex f fd) (B:Bl K mg)  : FnOk P w K mg base CX0 1 f fd ["_law_one", "_law_other"] (qaE K):=okm F (qdZ ) fun hr nd hu ht=>(qaj (qaw (qbR qkC (qao qau (qam qaf (pv 0) qab (fun _ _=>rfl)) (qam qaf (pv 1) qab (fun _ _=>rfl))) (qao qau (qam qaf (pv 1) qab (fun _ _=>rfl)) (qam qaf (pv 0) qab (fun _ _=>rfl))) (nomark _))))
theorem qd3 (F:Fun K "_law_is_number" "_law_is_number" qey f fd) (B:Bl K mg) (c0:qbn P w K mg base):FnOk P w K mg base CX0 2 f fd ["_law_found"] (qaS K):=okm F (qdY ) fun hr nd hu ht=>(qah (qb9 (PW.pt (qeW (qcm (qbI (qaU qcq rfl B.isinstance qa3 (qaa (pv 0) (qaa (qdd rfl B.tuple qez rfl) qae))))) (qd5 (qaF qjg (qaU qfd rfl B.len qhU (qaa (pv 0) qae)) qab (nomark _))))) (qaj (qaw qfz)) qaX)
    (qah (qeZ PassesOwn.never rfl (qf0 (pv 0)) (qaK (i:=1) nd rfl li) (qaj (qb9 (PW.pt (qeW (qcm (qbI (qaU qcq rfl B.isinstance qa3 (qaa (pv 1) (qaa (qdd rfl B.int qhV rfl) qae))))) (qd5 (qbI (qaU qcq rfl B.isinstance qa3 (qaa (pv 1) (qaa (qdd rfl B.bool qhW rfl) qae))))))) (qaj (qaw qfz)) qaX)))
    (qaj (qaw (qhp (qbR qe1 (qam qaf (pv 0) qab (fun _ _=>rfl)) qab (nomark _)) (qho (qbR (qmp hu) (pv 0) (c0.pe hr (by decide) rfl (qaa (qam qaf (pv 0) qab (fun _ _=>rfl)) (qaa (qam qaf (pv 0) qab (fun _ _=>rfl)) qae))) (nomark _))))))))
theorem qm8 (F:Fun K "_law_c" "_law_c" qns f fd) (B:Bl K mg) (c0:qeR P w K mg base) (c1:qbn P w K mg base):FnOk P w K mg base CX0 2 f fd ["_law_cell"] (qgi K):=okm F (qm3 ) fun hr nd hu ht=>(qah (qas (i:=1) nd rfl li (qam qaf (qav (qaa (qdh qbQ qab) (qaa (qdh qbQ qab) (qaa (qdh qbQ qab) (qaa qab (qaa qab (qaa qab qae))))))) (c0.pe hr (by decide) rfl (qaa (pv 0) (qaa qab (qaa qab qae)))) (fun _ _=>rfl)))
    (qah (qb9 (qaF qkB (c0.pe hr (by decide) rfl (qaa (pv 0) (qaa qab (qaa qab qae)))) qab (nomark _)) (qaj (qas (i:=1) nd rfl li (qao qau (pv 1) (qao qaQ qab (qao qcp (pv 0) (qao qhY qab qab)))))) qaX)
    (qaj (qaw (c1.pe hr (by decide) rfl (qaa (pv 1) (qaa (qao qaQ qab (c0.pe hr (by decide) rfl (qaa (pv 0) (qaa qab (qaa qab qae))))) qae)))))))
theorem qhb (F:Fun K "_law_whole" "_law_whole" qhO f fd) (B:Bl K mg)  : FnOk P w K mg base CX0 1 f fd ["_law_cell", "_law_kind"] (qb6 K):=okm F (qg6 ) fun hr nd hu ht=>(qah (qas (i:=2) nd rfl li qab)
    (qah (qeZ PassesOwn.never rfl (qeY rfl B.range (qaa (qam qaf (qav (qaa qab (qaa qab (qaa qab (qaa qab (qaa qab (qaa qab qae))))))) (pv 1) (fun _ _=>rfl)) qae)) (qaK (i:=3) nd rfl li) (qaj (qas (i:=2) nd rfl li (qao qau (pv 2) qab))))
    (qaj (qaw (qao qaQ (qao qcp (pv 0) (pv 2)) qab)))))
theorem qhc (F:Fun K "_law_signs" "_law_signs" qhP f fd) (B:Bl K mg) (c0:qbn P w K mg base) (c1:qeo P w K mg base) (c2:qft P w K mg base) (c3:qaD P w K mg base) (c4:qgz P w K mg base):FnOk P w K mg base CX0 8 f fd ["_law_c_here", "_law_m"] (qb7 K):=okm F (qg7 ) fun hr nd hu ht=>(qah (qas (i:=2) nd rfl li (qav (qaa (qav (qaa qab (qaa qab qae))) (qaa (qav (qaa (qav (qaa (pv 0) (qaa (qav (qaa (qao qaQ (pv 1) qab) (qaa (pv 1) qae))) qae))) qae)) qae))))
    (qah (qas (i:=3) nd rfl li (qav (qaa (qav (qaa qab (qaa qab qae))) (qaa (qav (qaa (qav (qaa (pv 0) (qaa (c0.pe hr (by decide) rfl (qaa (qao qaQ (pv 1) qab) (qaa (qao qaQ (pv 1) qab) qae))) qae))) qae)) qae))))
    (qah (qas (i:=4) nd rfl li (qao qf2 (qa1 qfc rfl B.int qhV (qaa (qbR qe1 (qam qaf (pv 0) qab (fun _ _=>rfl)) qab (nomark _)) qae)) (qa1 qfc rfl B.int qhV (qaa (qbR qe0 (qam qaf (pv 0) qab (fun _ _=>rfl)) qab (nomark _)) qae))))
    (qah (qas (i:=5) nd rfl li (c1.pe hr (by decide) rfl (qaa (pv 2) (qaa (qav (qaa (qdh qbQ qab) (qaa qab qae))) qae))))
    (qah (qas (i:=6) nd rfl li (qd7 (qaa (c2.pe hr (by decide) rfl (qaa (pv 2) qae)) (qaa (c2.pe hr (by decide) rfl (qaa (c3.pe hr (by decide) rfl (qaa (qam qaf (pv 2) qab (fun _ _=>rfl)) (qaa (qa1 qbx rfl B.list qcF (qaa (qam qaf (pv 2) qab (fun _ _=>rfl)) qae)) qae))) qae)) qae))))
    (qah (qde (qjl PySem.F.plainAttrs_list PySem.F.slot_list_append PySem.F.type_list_append qe8 (pv 6) (qaa (c2.pe hr (by decide) rfl (qaa (c4.pe hr (by decide) rfl (qaa (pv 2) (qaa (c1.pe hr (by decide) rfl (qaa (pv 3) (qaa (qav (qaa (qdh qbQ qab) (qaa qab qae))) qae))) qae))) qae)) qae)))
    (qah (qb9 (PW.pt (qeW (qbI (qaU (qie rfl) rfl B.any qmu (qaa (qdn (N:=["_law_part"]) (capt:=[none]) rfl (BlkOk.of rfl rfl rfl rfl (fun _ h=>nomatch h) rfl rfl rfl) (qdg (pv 6)) (fun _ _ _ _=>(qaK (i:=0) (show (["_law_part"]:List PySem.Str).Nodup by decide +kernel) rfl li)) (fun _ _ _ _=>(qaU qcq rfl B.isinstance qa3 (qaa (pv 0) (qaa (qdd rfl B.bool qhW rfl) qae))))) qae))) (qd5 (qaF (qms ht) (pv 6) (qd7 (qaa (pv 4) (qaa (pv 4) (qaa (pv 4) qae)))) (nomark _))))) (qaj (qaw qfz)) qaX)
    (qaj (qaw (qhp (qbR qkB (c2.pe hr (by decide) rfl (qaa (pv 5) qae)) (qdh qbQ (pv 4)) (nomark _)) (qho (qbR qkB (c2.pe hr (by decide) rfl (qaa (c4.pe hr (by decide) rfl (qaa (pv 2) (qaa (pv 5) qae))) qae)) qab (nomark _)))))))))))))
theorem qi2 (F:Fun K "_law_held" "_law_held" qjs f fd) (B:Bl K mg) (c0:qku P w K mg base) (c1:qcD P w K mg base) (c2:qcC P w K mg base) (c3:qgA P w K mg base) (c4:qfu P w K mg base):FnOk P w K mg base CX0 8 f fd ["_law_c_here", "_law_m", "_law_places"] (qcx K):=okm F (qiW ) fun hr nd hu ht=>(qah (qas (i:=3) nd rfl li qab)
    (qah (qeZ PassesOwn.never rfl (qeY rfl B.range (qaa (pv 2) qae)) (qaK (i:=4) nd rfl li) (qaj (qas (i:=3) nd rfl li (qao qau (pv 3) qab))))
    (qah (qas (i:=5) nd rfl li (c0.pe hr (by decide) rfl (qaa (qav (qaa (qav (qaa qab (qaa qab qae))) (qaa (qav (qaa (qav (qaa (pv 0) (qaa (qav (qaa (qao qaQ (pv 1) qab) (qaa (pv 1) qae))) qae))) qae)) qae))) (qaa (qav (qaa qab (qaa (pv 3) qae))) qae))))
    (qah (qb9 (PW.pt (qeW (qcm (qbI (qaU qcq rfl B.isinstance qa3 (qaa (pv 5) (qaa (qdd rfl B.tuple qez rfl) qae))))) (qeW (qaF qjg (qaU qfd rfl B.len qhU (qaa (pv 5) qae)) qab (nomark _)) (qeW (qcm (qbI (c1.pe hr (by decide) rfl (qaa (qam qaf (pv 5) qab (fun _ _=>rfl)) qae)))) (qd5 (qcm (qbI (c1.pe hr (by decide) rfl (qaa (qam qaf (pv 5) qab (fun _ _=>rfl)) qae))))))))) (qaj (qaw qfz)) qaX)
    (qah (qb9 (PW.pt (qeW (qcm (qbI (c2.pe hr (by decide) rfl (qaa (qam qaf (pv 5) qab (fun _ _=>rfl)) (qaa (qam qaf (pv 5) qab (fun _ _=>rfl)) qae))))) (qd5 (qcm (qbI (c2.pe hr (by decide) rfl (qaa (qam qaf (pv 5) qab (fun _ _=>rfl)) (qaa (c3.pe hr (by decide) rfl (qaa (qam qaf (pv 5) qab (fun _ _=>rfl)) (qaa (qav (qaa qab (qaa (pv 3) qae))) qae))) qae)))))))) (qaj (qaw qfz)) qaX)
    (qah (qas (i:=6) nd rfl li (qd7 (qaa (c4.pe hr (by decide) rfl (qaa (pv 0) (qaa (qav (qaa qab (qaa (qao qaQ (pv 1) qab) qae))) qae))) (qaa (c4.pe hr (by decide) rfl (qaa (pv 0) (qaa (qav (qaa qab (qaa (pv 1) qae))) qae))) qae))))
    (qah (qb9 (qaF qe0 (qam qaf (pv 0) qab (fun _ _=>rfl)) qab (nomark _)) (qaj (qde (qhG PySem.F.plainAttrs_list PySem.F.slot_list_reverse PySem.F.type_list_reverse qgJ (pv 6)))) qaX)
    (qaj (qaw (qhp (c2.pe hr (by decide) rfl (qaa (qam qaf (pv 5) qab (fun _ _=>rfl)) (qaa (qam qcG (pv 6) qab (fun _ _=>rfl)) qae))) (qho (c2.pe hr (by decide) rfl (qaa (qam qcG (pv 6) qab (fun _ _=>rfl)) (qaa (qam qaf (pv 5) qab (fun _ _=>rfl)) qae))))))))))))))
theorem qm9 (F:Fun K "law" "law" qhQ f fd) (B:Bl K mg) (c0:qkv P w K mg base) (c1:qm7 P w K mg base) (c2:qeR P w K mg base) (c3:qfv P w K mg base) (c4:qfw P w K mg base) (c5:qgB P w K mg base):FnOk P w K mg base CX0 9 f fd ["_law_script"] (qfm K):=okm F (qm6 ) fun hr nd hu ht=>(qah (qeZ PassesOwn.never rfl (qjD rfl B.enumerate (qaa (qao qhI (qjk qh6 (pv 0) qkG (qhD qab)) (qd7 (qaa qab qae))) qae)) (qcI rfl (qaT (qaK (i:=1) nd rfl li) (qaT (qaK (i:=2) nd rfl li) qcE))) (qah (qas (i:=3) nd rfl li (c1.pe hr (by decide) rfl (qaa (qao qaQ (c0.pe hr (by decide) rfl (qaa (pv 0) (qaa (qao qaQ (pv 1) qab) qae))) (qao qau qab (pv 1))) qae)))
    (qah (qas (i:=4) nd rfl li (c3.pe hr (by decide) rfl (qaa (pv 2) (qaa (c2.pe hr (by decide) rfl (qaa (qao qaQ (c0.pe hr (by decide) rfl (qaa (pv 0) (qaa (qao qaQ (pv 1) qab) qae))) (qao qau qab (pv 1))) (qaa qab (qaa qab qae)))) qae))))
    (qaj (qb9 (PW.pt (qeW (qcm (qbI (c4.pe hr (by decide) rfl (qaa (pv 3) (qaa (pv 4) qae))))) (qd5 (qcm (qbI (c5.pe hr (by decide) rfl (qaa (pv 3) (qaa (pv 4) (qaa (qam qaf (qav (qaa qab (qaa qab (qaa qab (qaa qab (qaa qab (qaa qab qae))))))) (c2.pe hr (by decide) rfl (qaa (pv 2) (qaa qab (qaa qab qae)))) (fun _ _=>rfl)) qae))))))))) (qaj (qaw qfz)) qaX)))))
    (qaj (qaw qfz)))
end
end Bs
namespace Bs
open PySem PySem.Spec PyProof.Rows L2
set_option maxHeartbeats 4000000
open Hd
theorem qlG {K:W.Frag} {st:Stmt} {f c:Addr} {n:Str} {pm:Value} (l:K.lookup f=some (fnO n st pm c)) (e:PySem.W.codeIn K (.ref c) n=true) (k:PySem.W.keepIn K (.ref f)=true):Fun K n n st f (PySem.W.fnOf n n (qa2 st) (qaL st) (qat st) .none .none .none pm none (.ref c) .none):=ql1 (st:=st) l e k
theorem qna {P:Program} {K:W.Frag} {w:World} {h base:Heap} {mg:Str→Option Value} {k:Nat} {f:Addr} {fd:FuncData} {n:Str} {ps:List Str} {sp:Sp} (X:K.In h) (G:h.Ns mainGlobals mg) (ok:FnOk P w K mg base CX0 k f fd ps sp) (b:Binds K fd ps []) (e:PySem.W.keepIn K (.ref f)=true) (a:PySem.W.nsIn K mainGlobals n=some (some (.ref f))):Cal P w K mg base k n ps sp:=⟨f,fd,ok,b,e,PySem.W.mg_of X G a⟩
theorem qnX {us:List Value} {n:Nat} (h:us.length=n+1):∃ x t,us=x::t∧t.length=n:=by cases us with | nil=>cases h | cons x t=>exact ⟨x,t,rfl,Nat.succ.inj h⟩
theorem qn7 (us:List Value) (h:us.length=1):∃ x0,us=[x0]:=by obtain ⟨x,t,rfl,q⟩:=qnX h;exact ⟨x,by rw [List.length_eq_zero_iff.mp q]⟩
theorem qn8 (us:List Value) (h:us.length=2):∃ x0 x1,us=[x0,x1]:=by obtain ⟨x,t,rfl,q⟩:=qnX h;obtain ⟨x1,rfl⟩:=qn7 t q;exact ⟨x,x1,rfl⟩
theorem qox (us:List Value) (h:us.length=3):∃ x0 x1 x2,us=[x0,x1,x2]:=by obtain ⟨x,t,rfl,q⟩:=qnX h;obtain ⟨x1,x2,rfl⟩:=qn8 t q;exact ⟨x,x1,x2,rfl⟩
theorem qa8 {P:Program} {K:W.Frag} {w:World} {h base:Heap} {mg:Str→Option Value} {k:Nat} {f c:Addr} {n:Str} {ps:List Str} {sp:Sp} {st:Stmt} {pm:Value} (X:K.In h) (G:h.Ns mainGlobals mg) (ok:Fun K n n st f (PySem.W.fnOf n n (qa2 st) (qaL st) (qat st) .none .none .none pm none (.ref c) .none)→FnOk P w K mg base CX0 k f (PySem.W.fnOf n n (qa2 st) (qaL st) (qat st) .none .none .none pm none (.ref c) .none) ps sp) (l:K.lookup f=some (fnO n st pm c):=by kernel_rfl) (e:PySem.W.codeIn K (.ref c) n=true:=by kernel_rfl) (q:PySem.W.keepIn K (.ref f)=true:=by kernel_rfl) (a:PySem.W.nsIn K mainGlobals n=some (some (.ref f)):=by kernel_rfl) (b:∀ (kV doc pm:Value) (an:Option Addr) (cdv ct:Value) (us:List Value),us.length=ps.length→bindArgs (PySem.W.fnOf n n (qa2 st) (qaL st) (qat st) .none kV doc pm an cdv ct) ⟨us,[]⟩=pure (ps.zip us):=by first | exact fun _ _ _ _ _ _ us hl=>by obtain ⟨_,rfl⟩:=qn7 us hl;rfl | exact fun _ _ _ _ _ _ us hl=>by obtain ⟨_,_,rfl⟩:=qn8 us hl;rfl | exact fun _ _ _ _ _ _ us hl=>by obtain ⟨_,_,_,rfl⟩:=qox us hl;rfl):Cal P w K mg base k n ps sp:=qna X G (ok (qlG l e q)) ((qlG l e q).binds b) q a
section
variable {P:Program} {w:World} {mg:Str→Option Value} {base h:Heap} (X:(hp w.params).In h) (G:h.Ns mainGlobals mg) (B:Bl (hp w.params) mg)
include X G B
theorem qbj:qaW P w (hp w.params) mg base:=qa8 (f:=21) (c:=20) (pm:=mo0) X G fun F=>qcO F B
theorem qj7:qgy P w (hp w.params) mg base:=qa8 (f:=56) (c:=55) (pm:=mo1) X G fun F=>qiY F B
theorem qeS:qcB P w (hp w.params) mg base:=qa8 (f:=118) (c:=117) (pm:=mo2) X G fun F=>qd1 F B
theorem qnb:qkv P w (hp w.params) mg base:=qa8 (f:=125) (c:=124) (pm:=mo3) X G fun F=>qlF F B
theorem qgC:qeR P w (hp w.params) mg base:=qa8 (f:=132) (c:=131) (pm:=mo3) X G fun F=>qi0 F B
theorem qbA:qbn P w (hp w.params) mg base:=qa8 (f:=139) (c:=138) (pm:=mo3) X G fun F=>qfW F B
theorem qeT:qcC P w (hp w.params) mg base:=qa8 (f:=160) (c:=159) (pm:=mo3) X G fun F=>qd2 F B
theorem qi3:qfv P w (hp w.params) mg base:=qa8 (f:=181) (c:=180) (pm:=mo3) X G fun F=>qhb F B
theorem qeU:qdT P w (hp w.params) mg base:=qa8 (f:=28) (c:=27) (pm:=mo1) X G fun F=>qj4 F B (qbj X G B)
theorem qhd:qep P w (hp w.params) mg base:=qa8 (f:=111) (c:=110) (pm:=mo2) X G fun F=>qfV F B (qeS X G B)
theorem qj8:qgA P w (hp w.params) mg base:=qa8 (f:=146) (c:=145) (pm:=mo3) X G fun F=>qi1 F B (qbA X G B)
theorem qi4:qfu P w (hp w.params) mg base:=qa8 (f:=153) (c:=152) (pm:=mo3) X G fun F=>qha F B (qbA X G B)
theorem qeV:qcD P w (hp w.params) mg base:=qa8 (f:=167) (c:=166) (pm:=mo3) X G fun F=>qd3 F B (qbA X G B)
theorem qnY:qm7 P w (hp w.params) mg base:=qa8 (f:=174) (c:=173) (pm:=mo3) X G fun F=>qm8 F B (qgC X G B) (qbA X G B)
theorem qi5:qgx P w (hp w.params) mg base:=qa8 (f:=35) (c:=34) (pm:=mo1) X G fun F=>qlD F B (qeU X G B)
theorem qlH:qiX P w (hp w.params) mg base:=qa8 (f:=42) (c:=41) (pm:=mo1) X G fun F=>qj5 F B (qeU X G B)
theorem qfX:qeQ P w (hp w.params) mg base:=qa8 (f:=49) (c:=48) (pm:=mo1) X G fun F=>qj6 F B (qeU X G B)
theorem qdV:qb0 P w (hp w.params) mg base:=qa8 (f:=73) (c:=72) (pm:=mo2) X G fun F=>qc4 F B (qbj X G B) (qi5 X G B)
theorem qfx:qdU P w (hp w.params) mg base:=qa8 (f:=104) (c:=103) (pm:=mo2) X G fun F=>qg9 F B (qhd X G B) (qeU X G B) (qfX X G B) (qi5 X G B)
theorem qc5:qbM P w (hp w.params) mg base:=qa8 (f:=66) (c:=65) (pm:=mo2) X G fun F=>qcQ F B (qbj X G B) (qdV X G B)
theorem qaJ (XB:(hp w.params).In base):qaD P w (hp w.params) mg base:=qa8 (f:=61) (c:=60) (pm:=mo2) X G fun _=>qcP (by kernel_rfl) (by kernel_rfl) (PySem.W.codeHd_of_K XB (by kernel_rfl)) ⟨4,⟨.type "module", some builtinsNs,.plain,#[]⟩,PySem.W.mg_of X G (n := "__builtins__") (v:=.ref 4) (by kernel_rfl),by decide,by decide,by decide,XB 4 _ (by kernel_rfl),rfl,rfl,rfl⟩ B (qfX X G B) (qc5 X G B)
theorem qj9 (XB:(hp w.params).In base):qgz P w (hp w.params) mg base:=qa8 (f:=80) (c:=79) (pm:=mo2) X G fun F=>qiZ F B (qi5 X G B) (qaJ X G B XB)
theorem qhe (XB:(hp w.params).In base):qeo P w (hp w.params) mg base:=qa8 (f:=85) (c:=84) (pm:=mo2) X G fun F=>qfU F B (qfX X G B) (qaJ X G B XB)
theorem qi6 (XB:(hp w.params).In base):qft P w (hp w.params) mg base:=qa8 (f:=92) (c:=91) (pm:=mo2) X G fun F=>qg8 F B (qaJ X G B XB) (qfx X G B)
theorem qnc (XB:(hp w.params).In base):qku P w (hp w.params) mg base:=qa8 (f:=99) (c:=98) (pm:=mo2) X G fun F=>qlE F B (qaJ X G B XB) (qfx X G B) (qlH X G B) (qj7 X G B)
theorem qi7 (XB:(hp w.params).In base):qfw P w (hp w.params) mg base:=qa8 (f:=186) (c:=185) (pm:=mo3) X G fun F=>qhc F B (qbA X G B) (qhe X G B XB) (qi6 X G B XB) (qaJ X G B XB) (qj9 X G B XB)
theorem qka (XB:(hp w.params).In base):qgB P w (hp w.params) mg base:=qa8 (f:=193) (c:=192) (pm:=mo3) X G fun F=>qi2 F B (qnc X G B XB) (qeV X G B) (qeT X G B) (qj8 X G B) (qi4 X G B)
end
theorem all_mk {l:PySem.W.OpenLaw} {w:World} {h:Heap} {mg:Str→Option Value} {fa:Addr} (X:(hp w.params).In h) (G:h.Ns mainGlobals mg) (hfa:mg "law" = some (.ref fa))
    : ∃ fd:FuncData,(∀ (s:Shared) (v:Value),BindsTo s fd ⟨[v],[]⟩ [("_law_script", v)])∧∀ base:Heap,(hp w.params).In base→base.Ns mainGlobals mg→FnOk l.prog w (hp w.params) mg base CX0 9 fa fd ["_law_script"] (qfm (hp w.params)):=by
  have e:=hfa.symm.trans (PySem.W.mg_of X G (n := "law") (v:=.ref 200) (by kernel_rfl))
  cases e
  have B:Bl (hp w.params) mg:=⟨PySem.W.mg_none_of X G (by kernel_rfl),PySem.W.mg_none_of X G (by kernel_rfl),PySem.W.mg_none_of X G (by kernel_rfl),PySem.W.mg_none_of X G (by kernel_rfl),PySem.W.mg_of X G (by kernel_rfl),PySem.W.mg_none_of X G (by kernel_rfl),PySem.W.mg_none_of X G (by kernel_rfl),PySem.W.mg_none_of X G (by kernel_rfl),PySem.W.mg_none_of X G (by kernel_rfl),PySem.W.mg_none_of X G (by kernel_rfl),PySem.W.mg_none_of X G (by kernel_rfl),PySem.W.mg_none_of X G (by kernel_rfl)⟩
  have FL:=qlG (K:=hp w.params) (st:=qhQ) (f:=200) (c:=199) (n := "law") (pm:=mo3) (by kernel_rfl) (by kernel_rfl) (by kernel_rfl)
  refine ⟨PySem.W.fnOf "law" "law" (qa2 qhQ) (qaL qhQ) (qat qhQ) .none .none .none mo3 none (.ref 199) .none,fun s v=>.of_eq rfl,fun base KB _=>?_⟩
  exact qm9 FL B (qnb X G B) (qnY X G B) (qgC X G B) (qi3 X G B) (qi7 X G B KB) (qka X G B KB)
theorem qnZ {K:W.Frag} {H:Hp} {a T:Addr} {xs:List V} {ps:Array Value} (hK:K.lookup T=none) (hT:H T=some (.tbl ps)) (hS:SqL K H a xs):a≠T:=fun z=>by
  subst z
  rcases hS with (h | ⟨o,h⟩) | ⟨o,its,n,h,_⟩
  · rw [hT] at h;cases h
  · rw [hT] at h;cases h
  · rw [hK] at h;cases h
theorem ctab {h:Heap} (e:h.get? 60=some (cdO "settled_number" 245 24 2 3 57 (R 58) N N N (R 59) 248 249)):isCodeTable h 58:=⟨60,_,_,e,rfl,rfl,rfl⟩
theorem walk {l:PySem.W.OpenLaw} {q:Program} {loose:List Str} {XP:(Str→Option Value)→Heap→Prop} {YP:World→Heap→Prop} {d:DefRec} {K:Params→W.Frag} (hn:l.most=some 63) (hdf:d.params.defaults=[]) (hq:importsNone q=true) (ht:∀ w,(model l.prog w).prog.given.tree=none)
    (hY:∀ (w:World) (h:Heap),YP w h→(K w.params).In h)
    (F:∀ (w:World) (mg:Str→Option Value) (fa:Addr) (h:Heap),(K w.params).In h→h.Ns mainGlobals mg→mg d.name=some (.ref fa)→
      ∃ fd:FuncData,(∀ (s:Shared) (u:Value),BindsTo s fd ⟨[u],[]⟩ [("_law_script", u)])∧∀ base:Heap,(K w.params).In base→base.Ns mainGlobals mg→FnOk l.prog w (K w.params) mg base CX0 9 fa fd ["_law_script"] (qfm (K w.params)))
    (hKT:∀ w:World,(K w.params).lookup 58=none) (hT:∀ (w:World) (h:Heap),YP w h→h.get? 58=some { cls:=.none,data:=.fields #[] }∧isCodeTable h 58) :
    PySem.W.WalkO q loose XP YP l.row.toRowW d [] (fun f vs=>PySem.call f vs):=
  L2.walk_ofT (T:=58) (n:=63) (k:=9) (x := "_law_script") (CX:=fun _=>CX0) (sp:=fun w=>qfm (K w.params)) hn (by decide) hdf hq ht ⟨rfl,by decide,by decide⟩ hY F hKT hT (fun w _ a ns hl hT hS=>⟨a,ns,rfl,hS,hl,qnZ (hKT w) hT hS,hT,fun _=>rfl⟩) fun _ _ _ _ _ z=>z
end Bs
open PySem PySem.W PyProof.Rows
set_option maxRecDepth 100000 in
set_option maxHeartbeats 0 in
theorem PySem.Challenge.cw_backslope_k97_logarithms_near_nought_holds : PySem.Challenge.rw_backslope_k97_logarithms_near_nought.Holds := by
  w_on; o_law
  refine PySem.W.holds_open (q := Bs.Hd.vw) (loose := []) (Xt := fun s => PySem.W.xlAt Bs.Hd.vw [] s && PySem.W.recOk (PySem.W.RowW.records (PySem.W.OpenRow.toRowW (PySem.W.OpenLaw.row PySem.Challenge.rw_backslope_k97_logarithms_near_nought))) s) (XP := PySem.W.XL Bs.Hd.vw []) (Yf := Bs.Hd.hk.obs) (Ya := Bs.Hd.hk.val) (YP := Bs.Hd.hk.says) (N := 1918) Bs.Hd.left Bs.Hd.hk.of Bs.Hd.hk.keeps (fun s e => PySem.W.xl_of s (Bool.and_eq_true_iff.mp e).1) PySem.W.XL.keeps (by rfl) (by rfl) (by rfl) (fun s e => PySem.W.recFacts_of (Bool.and_eq_true_iff.mp e).2) (by rfl) (by first | assumption | decide +kernel) (by decide +kernel) ⟨rfl, rfl, rfl, rfl, rfl, by decide +kernel⟩ ?hw ?hc
  case hw => w_witness2
  case hc => exact Bs.walk (l := PySem.Challenge.rw_backslope_k97_logarithms_near_nought) (K := Bs.Hd.hp) rfl rfl (by decide +kernel) (fun _ => rfl) (fun w h Y => Y.1) (fun w mg fa h KX G hmg => Bs.all_mk KX G hmg) (fun w => by kernel_rfl) (fun w h Y => ⟨Y.2 58 (by decide), Bs.ctab (Y.1 60 _ (by kernel_rfl))⟩)
#print axioms PySem.Challenge.cw_backslope_k97_logarithms_near_nought_holds
