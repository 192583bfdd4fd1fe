import PyProof.Rows.All
import Wide.All
import OpenK.AllK
import Wide.FinOn
import Lean
import PyProof.EqAt
import PyProof.EqKinds
import PyProof.TupleCall
import PySem.Challenge.RW_backslope_k15_parts_put_in
set_option Elab.async false
set_option linter.all false
set_option maxRecDepth 100000
namespace L2
open PySem PySem.Spec PyProof.Rows
noncomputable abbrev Key := Sum Int Str
noncomputable def qp2 : Key → Value → Bool
  | .inl k, v => Value.isInt k v
  | .inr x, v => Value.isStrOf x v
noncomputable def qsa (w : World) : Key → Int
  | .inl k => hashInt k
  | .inr x => hashStr w x
theorem qbj : ∀ {k : Key} {v : Value}, qp2 k v = true → (∃ i t, k = Sum.inl i ∧ v = Value.int i t) ∨ (∃ x t, k = Sum.inr x ∧ v = Value.str x t)
  | .inl i, v, h => by
    obtain ⟨t, e⟩ := Value.isInt_shape (k := i) (v := v) h
    exact .inl ⟨i, t, rfl, e⟩
  | .inr x, v, h => by
    obtain ⟨t, e⟩ := Value.isStrOf_shape (x := x) (v := v) h
    exact .inr ⟨x, t, rfl, e⟩
theorem qp3 (a b : Int) : decide ((Sum.inl a : Key) = Sum.inl b) = (a == b) := by
  by_cases e : a = b
  · subst e; simp
  · have h : ¬ (Sum.inl a : Key) = Sum.inl b := fun q => e (Sum.inl.inj q)
    rw [decide_eq_false h]
    exact (beq_eq_false_iff_ne.mpr e).symm
theorem qp4 (a b : Str) : decide ((Sum.inr a : Key) = Sum.inr b) = decide (a = b) := by
  by_cases e : a = b
  · subst e; simp
  · have h : ¬ (Sum.inr a : Key) = Sum.inr b := fun q => e (Sum.inr.inj q)
    rw [decide_eq_false h, decide_eq_false e]
theorem qp5 (a : Int) (b : Str) : decide ((Sum.inl a : Key) = Sum.inr b) = false := decide_eq_false (fun q => nomatch q)
theorem qp6 (a : Str) (b : Int) : decide ((Sum.inr a : Key) = Sum.inl b) = false := decide_eq_false (fun q => nomatch q)
noncomputable def qjM (prog : Program) (w : World) : PySem.KeyKind prog w Key where
  is := qp2
  hash := qsa w
  inj := fun v a b ha hb => by
    rcases qbj ha with ⟨i, t, rfl, rfl⟩ | ⟨x, t, rfl, rfl⟩
    · rcases qbj hb with ⟨j, u, rfl, e⟩ | ⟨y, u, rfl, e⟩
      · injection e with e1 _; rw [e1]
      · exact nomatch e
    · rcases qbj hb with ⟨j, u, rfl, e⟩ | ⟨y, u, rfl, e⟩
      · exact nomatch e
      · injection e with e1 _; rw [e1]
  byValue := fun k v h => by
    rcases qbj h with ⟨i, t, rfl, rfl⟩ | ⟨x, t, rfl, rfl⟩ <;> rfl
  pyHash := fun hv h => by
    rcases qbj hv with ⟨i, t, rfl, rfl⟩ | ⟨x, t, rfl, rfl⟩
    · exact wpAny_pyHash_int h
    · exact wpAny_pyHash_str h
  eqBool := fun hu hv h => by
    rcases qbj hu with ⟨i, t, rfl, rfl⟩ | ⟨x, t, rfl, rfl⟩
    · rcases qbj hv with ⟨j, u, rfl, rfl⟩ | ⟨y, u, rfl, rfl⟩
      · rw [qp3] at h; exact wpAny_eqBool_int h
      · rw [qp5] at h; exact SeqAt.EqAt.int_str i t y u _ _ _ _ h
    · rcases qbj hv with ⟨j, u, rfl, rfl⟩ | ⟨y, u, rfl, rfl⟩
      · rw [qp6] at h; exact SeqAt.EqAt.str_int x t j u _ _ _ _ h
      · rw [qp4] at h; exact wpAny_eqBool_str h
  «strs» := fun k x t v h => by
    rcases qbj h with ⟨i, u, rfl, e⟩ | ⟨y, u, rfl, e⟩
    · exact nomatch e
    · injection e with e1 _
      subst e1
      cases v <;> rfl
end L2
namespace L2
open PySem PySem.Spec PyProof.Rows
inductive V where
  | non | bl (b : Bool) | int (i : Int) | str (x : Str) | byt (b : Array UInt8) | flt (b : UInt64) | ref (a : Addr) | ty (n : String)
  deriving DecidableEq
noncomputable def RelV : V → Value → Prop
  | .non, u => u = Value.none
  | .bl b, u => u = Value.bool b
  | .int i, u => ∃ t, u = Value.int i t
  | .str x, u => ∃ t, u = Value.str x t
  | .byt b, u => ∃ t, u = Value.bytes b t
  | .flt b, u => ∃ t, u = Value.float b t
  | .ref a, u => u = Value.ref a
  | .ty n, u => u = Value.type n
noncomputable abbrev Vals : List V → List Value → Prop := Paired RelV
theorem Vals.length {xs : List V} {us : List Value} (r : Vals xs us) : xs.length = us.length := Paired.length r
theorem Vals.get : ∀ {xs : List V} {us : List Value} {i : Nat} {x : V}, Vals xs us → xs[i]? = some x → ∃ u, us[i]? = some u ∧ RelV x u
  | _, _, _, _, .nil, e => by simp at e
  | _, _, 0, _, .cons r _, e => by simp at e; subst e; exact ⟨_, rfl, r⟩
  | _, _, i + 1, x, .cons _ t, e => by
    obtain ⟨u, h1, h2⟩ := Vals.get (i := i) (x := x) t (by simpa using e)
    exact ⟨u, by simpa using h1, h2⟩
theorem Vals.set {x : V} {u : Value} (r : RelV x u) : ∀ {xs : List V} {us : List Value} (i : Nat), Vals xs us → Vals (xs.set i x) (us.set i u)
  | _, _, _, .nil => .nil
  | _, _, 0, .cons _ t => .cons r t
  | _, _, i + 1, .cons q t => .cons q (Vals.set r i t)
theorem Vals.append : ∀ {xs ys : List V} {us ws : List Value}, Vals xs us → Vals ys ws → Vals (xs ++ ys) (us ++ ws)
  | _, _, _, _, .nil, s => s
  | _, _, _, _, .cons r t, s => .cons r (Vals.append t s)
theorem Vals.take : ∀ {xs : List V} {us : List Value} (n : Nat), Vals xs us → Vals (xs.take n) (us.take n)
  | _, _, 0, _ => .nil
  | _, _, _ + 1, .nil => .nil
  | _, _, n + 1, .cons r t => .cons r (Vals.take n t)
theorem Vals.drop : ∀ {xs : List V} {us : List Value} (n : Nat), Vals xs us → Vals (xs.drop n) (us.drop n)
  | _, _, 0, r => r
  | _, _, _ + 1, .nil => .nil
  | _, _, n + 1, .cons _ t => Vals.drop n t
noncomputable def qrv : Option V → Option Value → Prop
  | some v, some u => RelV v u
  | none, none => True
  | _, _ => False
noncomputable def KV {κ : Type} : List (κ × V) → List (κ × Value) → Prop := Paired fun (p : κ × V) (q : κ × Value) => p.1 = q.1 ∧ RelV p.2 q.2
noncomputable def kV : Key → V
  | .inl i => .int i
  | .inr x => .str x
inductive HO where

  | lst (xs : List V)

  | tup (xs : List V)

  | dK (kvs : List (Key × V)) | dT (kvs : List (List Key × V))

  | set (S : Int → Bool) (n : Nat)

  | ins (C dx : Addr) (fs : List (Str × V))

  | own (x : Addr)

  | xd (fs : List (Str × V))

  | met (f x : Addr)

  | rng (lo hi : Int)

  | frz (o : Obj) (u : HO)

  | tbl (ps : Array Value)

  | ext (φ : Heap → Prop)
noncomputable abbrev Hp := Addr → Option HO
noncomputable def upd (H : Hp) (a : Addr) (o : HO) : Hp := fun b => if b = a then some o else H b
theorem upd_same {H : Hp} {a : Addr} {o : HO} : upd H a o a = some o := by unfold upd; rw [if_pos rfl]
theorem qaw {H : Hp} {a b : Addr} {o : HO} (h : b ≠ a) : upd H a o b = H b := by unfold upd; rw [if_neg h]
theorem qrw {H : Hp} {a b : Addr} {o u : HO} (h : H a = some o) (h' : H b = some u) (d : o ≠ u) : a ≠ b := by
  intro e; subst e; rw [h] at h'; exact d (Option.some.inj h')
theorem qau {H : Hp} {a b : Addr} {o : HO} (h : H a = some o) (h' : H b = none) : a ≠ b := by
  intro e; subst e; rw [h] at h'; cases h'
section
variable (P : Program) (w : World)
noncomputable def ObjOk (H : Hp) (h : Heap) (a : Addr) : HO → Prop
  | .lst xs => xs.length ≤ sizeLine ∧ ∃ (its : List Value) (n : Nat), Vals xs its ∧ h.get? a = some { cls := .type "list", data := .seq its.toArray n }
  | .tup xs => xs.length ≤ sizeLine ∧ ∃ its : List Value, Vals xs its ∧ IsTup h a its.toArray
  | .dK kvs => kvs.length ≤ sizeLine ∧ (a == sysModules) = false ∧ ∃ vs, KV kvs vs ∧ h.DictOf (qjM P w) a vs
  | .dT kvs => kvs.length ≤ sizeLine ∧ (a == sysModules) = false ∧ ∃ xs : List (List Key × Addr × Value),
      Paired (fun (p : List Key × V) (q : List Key × Addr × Value) => p.1 = q.1 ∧ H q.2.1 = some (.tup (p.1.map kV)) ∧ RelV p.2 q.2.2) kvs xs ∧
      ∃ o es ep, h.get? a = some o ∧ o.ExactDict ∧ o.data = .dict es ep ∧ es.toList = xs.map (entryOfKey (tupleKind (qjM P w))) ∧ (xs.map (·.1)).Nodup
  | .set S n => h.SetOf (intKind P w) a S n
  | .ins C dx fs => H dx = some (.own a) ∧ fs.length ≤ 1000 ∧ dx ≠ a ∧ h.get? a = some (PySem.W.instObj C dx) ∧
      ∃ mA, h.Ns1 dx mA ∧ (∀ f, qrv (fs.lookup f) (mA f)) ∧ PySem.Within mA (fs.map (·.1))
  | .own _ => ∃ o, h.get? a = some o
  | .xd fs => ∃ mA, h.Ns1 a mA ∧ ∀ f, qrv (fs.lookup f) (mA f)
  | .rng lo hi => ∃ t u v, h.get? a = some { cls := .type "range", data := .fields #[.int lo t, .int hi u, .int 1 v] }
  | .frz o u => h.get? a = some o ∧ ObjOk H h a u
  | .tbl ps => h.get? a = some { cls := .none, data := .fields ps }
  | .met f x => h.get? a = some (PySem.W.methodObj (.ref f) (.ref x))
  | .ext φ => φ h ∧ (∃ o, h.get? a = some o) ∧ ∀ h1 h2 : Heap, φ h1 → (∀ o, h1.get? a = some o → h2.get? a = some o) → φ h2
noncomputable def HOk (H : Hp) (h : Heap) : Prop := ∀ a o, H a = some o → ObjOk P w H h a o
end
section
variable {P : Program} {w : World} {H H' : Hp} {h h' : Heap} {a : Addr} {o : HO}
theorem ObjOk.lt (x : ObjOk P w H h a o) : a < h.objs.size := by
  cases o with
  | lst xs => obtain ⟨_, _, _, _, e⟩ := x; exact Heap.lt_size e
  | tup xs => obtain ⟨_, _, _, p⟩ := x; exact p.lt
  | dK kvs => obtain ⟨_, _, _, _, o, _, _, e, _⟩ := x; exact Heap.lt_size e
  | dT kvs => obtain ⟨_, _, _, _, o, _, _, e, _⟩ := x; exact Heap.lt_size e
  | set S n => obtain ⟨o, _, _, _, e, _⟩ := x; exact Heap.lt_size e
  | ins C dx fs => obtain ⟨_, _, _, e, _⟩ := x; exact Heap.lt_size e
  | own y => obtain ⟨_, e⟩ := x; exact Heap.lt_size e
  | xd fs => obtain ⟨_, ⟨_, _, _, e, _⟩, _⟩ := x; exact Heap.lt_size e
  | rng lo hi => obtain ⟨_, _, _, e⟩ := x; exact Heap.lt_size e
  | frz ob u => obtain ⟨e, _⟩ := x; exact Heap.lt_size e
  | tbl ps => exact Heap.lt_size (show h.get? a = some _ from x)
  | met f y => exact Heap.lt_size (show h.get? a = some _ from x)
  | ext φ => obtain ⟨_, ⟨_, e⟩, _⟩ := x; exact Heap.lt_size e
theorem Paired.mapP {α β : Type} {F G : α → β → Prop} : ∀ {l₁ : List α} {l₂ : List β}, Paired F l₁ l₂ → (∀ a b, F a b → G a b) → Paired G l₁ l₂
  | _, _, .nil, _ => .nil
  | _, _, .cons r t, f => .cons (f _ _ r) (Paired.mapP t f)
theorem ObjOk.stay (x : ObjOk P w H h a o) (k : ∀ b u, (b = a ∨ H b = some (.own a)) → h.get? b = some u → h'.get? b = some u)
    (ho : ∀ b, H b = some (.own a) → H' b = some (.own a)) (ht : ∀ b xs, H b = some (.tup xs) → H' b = some (.tup xs)) : ObjOk P w H' h' a o := by
  induction o with
  | lst xs => obtain ⟨z, its, n, r, e⟩ := x; exact ⟨z, its, n, r, k _ _ (.inl rfl) e⟩
  | tup xs => obtain ⟨z, its, r, ob, e, c⟩ := x; exact ⟨z, its, r, ob, k _ _ (.inl rfl) e, c⟩
  | dK kvs => obtain ⟨z, y, vs, r, ob, es, ep, e, c⟩ := x; exact ⟨z, y, vs, r, ob, es, ep, k _ _ (.inl rfl) e, c⟩
  | dT kvs =>
    obtain ⟨z, y, xs, r, ob, es, ep, e, c⟩ := x
    exact ⟨z, y, xs, Paired.mapP r fun p q z => ⟨z.1, ht _ _ z.2.1, z.2.2⟩, ob, es, ep, k _ _ (.inl rfl) e, c⟩
  | set S n => obtain ⟨ob, es, ep, t, e, c⟩ := x; exact ⟨ob, es, ep, t, k _ _ (.inl rfl) e, c⟩
  | ins C dx fs =>
    obtain ⟨d, z, ne, e, mA, ⟨od, es, ep, e2, c⟩, r⟩ := x
    exact ⟨ho _ d, z, ne, k _ _ (.inl rfl) e, mA, ⟨od, es, ep, k _ _ (.inr d) e2, c⟩, r⟩
  | own y => obtain ⟨ob, e⟩ := x; exact ⟨ob, k _ _ (.inl rfl) e⟩
  | xd fs => obtain ⟨mA, ⟨od, es, ep, e, c⟩, r⟩ := x; exact ⟨mA, ⟨od, es, ep, k _ _ (.inl rfl) e, c⟩, r⟩
  | rng lo hi => obtain ⟨t, u, v, e⟩ := x; exact ⟨t, u, v, k _ _ (.inl rfl) e⟩
  | frz ob u ih => obtain ⟨e, q⟩ := x; exact ⟨k _ _ (.inl rfl) e, ih q⟩
  | tbl ps =>
    have e : h.get? a = some { cls := .none, data := .fields ps } := x
    show h'.get? a = some { cls := .none, data := .fields ps }
    exact k a _ (.inl rfl) e
  | met f y =>
    have e : h.get? a = some (PySem.W.methodObj (.ref f) (.ref y)) := x
    show h'.get? a = some (PySem.W.methodObj (.ref f) (.ref y))
    exact k a _ (.inl rfl) e
  | ext φ => obtain ⟨p, ⟨o, e⟩, st⟩ := x; exact ⟨st _ _ p fun o q => k _ _ (.inl rfl) q, ⟨o, k _ _ (.inl rfl) e⟩, st⟩
theorem HOk.lt (x : HOk P w H h) (e : H a = some o) : a < h.objs.size := (x a o e).lt
theorem HOk.fresh (x : HOk P w H h) (e : h.objs.size ≤ a) : H a = none := by
  cases q : H a with
  | none => rfl
  | some u => exact absurd (Nat.lt_of_lt_of_le (x.lt q) e) (Nat.lt_irrefl _)
theorem HOk.kept (x : HOk P w H h) (k : ∀ b u, h.get? b = some u → h'.get? b = some u) : HOk P w H h' := fun a o e =>
  (x a o e).stay (fun b u _ q => k b u q) (fun _ q => q) fun _ _ q => q
theorem HOk.laid (x : HOk P w H h) (k : ∀ b u, h.get? b = some u → h'.get? b = some u) (hp : h.objs.size ≤ a) (new : ObjOk P w (upd H a o) h' a o) : HOk P w (upd H a o) h' := fun b u e => by
  have hn := x.fresh hp
  by_cases hb : b = a
  · subst hb; rw [upd_same] at e; cases e; exact new
  · rw [qaw hb] at e
    exact (x b u e).stay (fun c v _ q => k c v q) (fun c q => by rw [qaw (qau q hn)]; exact q) fun c xs q => by rw [qaw (qau q hn)]; exact q
end
noncomputable def Rd (H : Hp) (a : Addr) (u : HO) : Prop := H a = some u ∨ ∃ o, H a = some (.frz o u)
theorem Rd.of {H : Hp} {a : Addr} {u : HO} (h : H a = some u) : Rd H a u := .inl h
theorem Rd.ok {P : Program} {w : World} {H : Hp} {h : Heap} {a : Addr} {u : HO} (r : Rd H a u) (x : HOk P w H h) : ObjOk P w H h a u := by
  rcases r with r | ⟨o, r⟩
  · exact x a u r
  · obtain ⟨_, q⟩ := x a _ r
    exact q
noncomputable def Mut : Option HO → Prop
  | some (.lst _) => True
  | some (.dK _) => True
  | some (.dT _) => True
  | some (.set _ _) => True
  | some (.ins _ _ _) => True
  | some (.ext _) => True
  | _ => False
section
variable {P : Program} {w : World} {H : Hp} {h h' : Heap} {x e : Addr} {o' : HO}
theorem HOk.write (ok : HOk P w H h) (mu : Mut (H x)) (he : e = x ∨ H e = some (.own x)) (k : ∀ b u, b ≠ e → h.get? b = some u → h'.get? b = some u) (heo : ∃ u, h'.get? e = some u)
    (new : ObjOk P w (upd H x o') h' x o') : HOk P w (upd H x o') h' := fun b u q => by
  have nown : ∀ c y, H c = some (.own y) → c ≠ x := fun c y r z => by subst z; rw [r] at mu; exact mu
  have ntup : ∀ c xs, H c = some (.tup xs) → c ≠ x := fun c xs r z => by subst z; rw [r] at mu; exact mu
  by_cases hb : b = x
  · subst hb; rw [upd_same] at q; cases q; exact new
  · rw [qaw hb] at q
    by_cases hbe : b = e
    · have q' : H b = some (.own x) := by
        rcases he with z | z
        · exact absurd (hbe.trans z) hb
        · rw [hbe]; exact z
      rw [q] at q'; cases q'
      obtain ⟨v, hv⟩ := heo
      exact ⟨v, by rw [hbe]; exact hv⟩
    · refine (ok b u q).stay (fun c v hc r => k c v ?_ r) (fun c r => by rw [qaw (nown c b r)]; exact r) fun c xs r => by rw [qaw (ntup c xs r)]; exact r
      rcases hc with rfl | hc
      · exact hbe
      · rintro rfl
        rcases he with z | z
        · exact nown c b hc z
        · rw [hc] at z; cases z; exact hb rfl
end
structure Un (fs ex : List Addr) (H H' : Hp) (h h' : Heap) : Prop where
  keep : ∀ b o, h.get? b = some o → H b = none → b ∉ fs → b ∉ ex → h'.get? b = some o
  slot : ∀ b o, h.get? b = some o → H b = none → b ∈ fs → b ∉ ex → ∃ sl, h'.get? b = some { o with slots := sl }
  free : ∀ b o, h.get? b = some o → H b = none → b ∉ ex → H' b = none
  there : ∀ b o, h.get? b = some o → b ∉ ex → ∃ o', h'.get? b = some o'
  tups : ∀ b xs, H b = some (.tup xs) → H' b = some (.tup xs)
  frzs : ∀ b o u, H b = some (.frz o u) → H' b = some (.frz o u)
  tbls : ∀ b ps, H b = some (.tbl ps) → ∃ more, H' b = some (.tbl (ps ++ more))
section
variable {fs fs' ex ex' : List Addr} {H H1 H2 : Hp} {h h1 h2 h' : Heap} {a x e : Addr} {o : HO}
theorem Un.any (u : Un fs ex H H1 h h1) {b : Addr} {ob : Obj} (q : h.get? b = some ob) (n : H b = none) (hx : b ∉ ex) : ∃ sl, h1.get? b = some { ob with slots := sl } := by
  by_cases hb : b ∈ fs
  · exact u.slot b ob q n hb hx
  · exact ⟨ob.slots, u.keep b ob q n hb hx⟩
theorem Un.trans (a : Un fs ex H H1 h h1) (b : Un fs ex H1 H2 h1 h2) : Un fs ex H H2 h h2 where
  keep := fun c ob q n hc hx => b.keep c ob (a.keep c ob q n hc hx) (a.free c ob q n hx) hc hx
  slot := fun c ob q n hc hx => by
    obtain ⟨sl, e1⟩ := a.slot c ob q n hc hx
    obtain ⟨sl', e2⟩ := b.slot c _ e1 (a.free c ob q n hx) hc hx
    exact ⟨sl', e2⟩
  free := fun c ob q n hx => by
    obtain ⟨o', e1⟩ := a.there c ob q hx
    exact b.free c o' e1 (a.free c ob q n hx) hx
  there := fun c ob q hx => by
    obtain ⟨o', e1⟩ := a.there c ob q hx
    exact b.there c o' e1 hx
  tups := fun c xs q => b.tups c xs (a.tups c xs q)
  frzs := fun c ob xs q => b.frzs c ob xs (a.frzs c ob xs q)
  tbls := fun c ps q => by
    obtain ⟨m1, e1⟩ := a.tbls c ps q
    obtain ⟨m2, e2⟩ := b.tbls c _ e1
    exact ⟨m1 ++ m2, by rw [e2, Array.append_assoc]⟩
theorem Un.kept (k : ∀ b u, h.get? b = some u → h'.get? b = some u) : Un fs ex H H h h' :=
  ⟨fun b ob q _ _ _ => k b ob q, fun b ob q _ _ _ => ⟨ob.slots, k b ob q⟩, fun _ _ _ n _ => n, fun b ob q _ => ⟨ob, k b ob q⟩, fun _ _ q => q, fun _ _ _ q => q, fun _ ps q => ⟨#[], by rw [q]; simp⟩⟩
theorem Un.refl : Un fs ex H H h h := Un.kept fun _ _ q => q
theorem Un.laid (k : ∀ b u, h.get? b = some u → h'.get? b = some u) (hp : h.objs.size ≤ a) (hn : H a = none) : Un fs ex H (upd H a o) h h' where
  keep := fun b u q _ _ _ => k b u q
  slot := fun b u q _ _ _ => ⟨u.slots, k b u q⟩
  free := fun b u q n _ => by rw [qaw (Nat.ne_of_lt (Nat.lt_of_lt_of_le (Heap.lt_size q) hp))]; exact n
  there := fun b u q _ => ⟨u, k b u q⟩
  tups := fun b xs q => by rw [qaw (qau q hn)]; exact q
  frzs := fun b u xs q => by rw [qaw (qau q hn)]; exact q
  tbls := fun b ps q => ⟨#[], by rw [qaw (qau q hn), q]; simp⟩
theorem Un.write (mu : Mut (H x)) (he : e = x ∨ H e = some (.own x)) (k : ∀ b u, b ≠ e → h.get? b = some u → h'.get? b = some u) (heo : ∃ u, h'.get? e = some u) : Un fs ex H (upd H x o) h h' := by
  have hx : ∀ b, H b = none → b ≠ x := fun b n z => by subst z; rw [n] at mu; exact mu
  have hb : ∀ b, H b = none → b ≠ e := fun b n z => by
    subst z
    rcases he with r | r
    · exact hx b n r
    · rw [n] at r; cases r
  have hm : ∀ b u, H b = some u → ¬ Mut (some u) → b ≠ x := fun b u q nm z => by subst z; rw [q] at mu; exact nm mu
  refine ⟨fun b u q n _ _ => k b u (hb b n) q, fun b u q n _ _ => ⟨u.slots, k b u (hb b n) q⟩, fun b u q n _ => by rw [qaw (hx b n)]; exact n, fun b u q _ => ?_,
    fun b xs q => by rw [qaw (hm b _ q fun z => z)]; exact q, fun b u xs q => by rw [qaw (hm b _ q fun z => z)]; exact q, fun b ps q => ⟨#[], by rw [qaw (hm b _ q fun z => z), q]; simp⟩⟩
  by_cases hbe : b = e
  · subst hbe; exact heo
  · exact ⟨u, k b u hbe q⟩
theorem Un.mono (u : Un fs ex H H1 h h1) (hs : ∀ b ∈ fs, b ∈ fs') (hx : ∀ b ∈ ex, b ∈ ex') : Un fs' ex' H H1 h h1 :=
  ⟨fun b ob q n hb he => u.keep b ob q n (fun z => hb (hs b z)) fun z => he (hx b z), fun _ _ q n _ he => u.any q n fun z => he (hx _ z), fun b ob q n he => u.free b ob q n fun z => he (hx b z), fun b ob q he => u.there b ob q fun z => he (hx b z), u.tups, u.frzs, u.tbls⟩
end
noncomputable def trk (h : Heap) (H : Hp) : List Addr := (List.range h.objs.size).filter fun a => (H a).isSome
noncomputable def qnB (h : Heap) (H : Hp) : Heap := PySem.W.hideAll h (trk h H)
theorem qlB (h : Heap) (H : Hp) : (qnB h H).objs.size = h.objs.size := PySem.W.hideAll_size _ _
theorem qnE {h : Heap} {H : Hp} {b : Addr} {o : Obj} (e : h.get? b = some o) (n : H b = none) : (qnB h H).get? b = some o :=
  PySem.W.hideAll_get _ e fun hm => by
    have q : (H b).isSome = true := (List.mem_filter.mp hm).2
    rw [n] at q; simp at q
theorem qoV {h : Heap} {H : Hp} {b : Addr} {o : Obj} (e : (qnB h H).get? b = some o) : h.get? b = some o ∧ H b = none := by
  have e' : h.get? b = some o := PySem.W.of_hideAll (trk h H) e
  refine ⟨e', ?_⟩
  cases q : H b with
  | none => rfl
  | some x =>
    have hm : b ∈ trk h H := List.mem_filter.mpr ⟨List.mem_range.mpr (Heap.lt_size e'), by simp [q]⟩
    have z : (qnB h H).get? b = none := PySem.W.hideAll_none (trk h H) hm
    rw [z] at e; cases e
noncomputable def qoW (g h : Heap) (L : Addr) : List (Addr × Obj) := (List.range h.objs.size).filterMap fun a => if a = L ∨ (g.get? a).isSome = true then none else (h.get? a).map fun o => (a, o)
noncomputable def rest (g h : Heap) (L d : Addr) : List (Addr × Obj) := (qoW g h L).filter fun p => decide (p.1 ≠ d)
end L2
namespace L2
open PySem PySem.Spec PyProof.Rows
structure Mod (K : PySem.W.Frag) (mg : Str → Option Value) (base : Heap) : Prop where
  kin : K.In base
  glob : base.Ns mainGlobals mg
  blt : ∃ mb, base.Ns builtinsNs mb ∧ ∀ x : Str, x ≠ "__name__" → mb x = bootBuiltins x
  nolimit : base.NoLimit
structure Cx where
  prog : Program
  w : World
  K : PySem.W.Frag
  mg : Str → Option Value
  base : Heap
  A : Around
  N : List Str
  s₀ : Shared
  H₀ : Hp
  env : Env
  outer : List Env
  stack : List Env
  ex : List Addr
  fn : Str → Bool
  calm : Bool
  pn : List (Addr × Obj)
  xe : Value → Shared → Prop
noncomputable def frs (l : List Env) : List Addr := l.filterMap (·.frame)
noncomputable abbrev Cx.fs (X : Cx) : List Addr := frs X.outer
noncomputable def Vis (sc : Scope) (x : Str) : Prop := sc.names.lookup x = some .local ∨ sc.names.lookup x = some .cell ∨ sc.names.lookup x = some .free
noncomputable def Loc (sc : Scope) (x : Str) : Prop := sc.names.lookup x = some .local ∨ sc.names.lookup x = some .cell
noncomputable def Look (env : Env) (h : Heap) (m : Str → Option Value) (x : Str) (u : Value) : Prop :=
  (env.kindOf x = some .local ∧ m x = some u) ∨ ((env.kindOf x = some .cell ∨ env.kindOf x = some .free) ∧ ∃ c, env.cells.lookup x = some c ∧ h.IsCell c (some u))
structure Cx.Ok (X : Cx) : Prop where
  mod : Mod X.K X.mg X.base
  kind : X.env.scope.kind = .function
  glob : X.env.globals = mainGlobals
  blt : X.env.builtins = builtinsNs
  above : X.s₀.heap.objs.size ≤ X.env.locals
  inj : ∀ x y c, X.env.cells.lookup x = some c → X.env.cells.lookup y = some c → x = y
  has : ∀ x, (X.env.kindOf x = some .cell ∨ X.env.kindOf x = some .free) → ∃ c, X.env.cells.lookup x = some c
  cab : ∀ x c, X.fn x = true → X.env.cells.lookup x = some c → X.s₀.heap.objs.size ≤ c
  hd : X.calm = true → X.A.handled = none
  frames : X.A.frames = some X.stack
  stk : X.stack = X.outer ∨ (X.stack = X.env :: X.outer ∧ X.env.frame = some X.env.locals)
  exf : ∀ b ∈ X.ex, b ≠ X.env.locals ∧ ∀ x c, X.env.cells.lookup x = some c → c ≠ b
  bs : ∀ b o, X.base.get? b = some o → X.s₀.heap.get? b = some o ∧ X.H₀ b = none
  bsz : X.base.objs.size ≤ X.s₀.heap.objs.size
  noex : ∀ b o, X.base.get? b = some o → b ∉ X.ex
  exfs : ∀ b ∈ X.ex, b ∉ X.fs
  funs : X.s₀.heap.FunFrames X.base X.outer
  frf : ∀ b ∈ X.fs, X.H₀ b = none
  seer : X.base.NoSeer
  tree : (model X.prog X.w).prog.given.tree = none
  plr : ∀ s : Shared, (∀ b o, X.base.get? b = some o → s.heap.get? b = some o) → PySem.PylongRoom (model X.prog X.w) X.A s
structure Inv (X : Cx) (pins : List (Addr × Obj)) (σ : List (Option V)) (H : Hp) (s : Shared) : Prop where
  ok : X.Ok
  os : s.os = X.s₀.os
  bare : AllBare s.gens
  base : Un X.fs X.ex X.H₀ H X.s₀.heap s.heap
  loc : ∃ m, s.heap.Ns X.env.locals m ∧ ∀ (i : Nat) (x : Str) (v : V), X.N[i]? = some x → σ[i]? = some (some v) → Vis X.env.scope x → ∃ u, RelV v u ∧ Look X.env s.heap m x u
  cell : ∀ x c, X.env.cells.lookup x = some c → ∃ v, s.heap.IsCell c v
  free : H X.env.locals = none
  freeC : ∀ x c, X.env.cells.lookup x = some c → H c = none
  pin : ∀ p ∈ X.pn ++ pins, s.heap.get? p.1 = some p.2 ∧ H p.1 = none ∧ p.1 ≠ X.env.locals ∧ p.1 ∉ X.fs ∧ ∀ v, p.2.data ≠ .cell v
  hok : HOk X.prog X.w H s.heap
  len : σ.length = X.N.length
section
variable {X : Cx} {pins : List (Addr × Obj)} {σ : List (Option V)} {H H' : Hp} {s : Shared} {h' : Heap}
theorem Cx.Ok.nofr (ok : X.Ok) {b : Addr} {o : Obj} (e : X.base.get? b = some o) : b ∉ X.fs := fun hb => by
  have := (ok.funs.mem hb).1
  rw [e] at this; cases this
theorem Inv.bs (I : Inv X pins σ H s) : ∀ b o, X.base.get? b = some o → s.heap.get? b = some o ∧ H b = none := fun b o e =>
  ⟨I.base.keep b o (I.ok.bs b o e).1 (I.ok.bs b o e).2 (I.ok.nofr e) (I.ok.noex b o e), I.base.free b o (I.ok.bs b o e).1 (I.ok.bs b o e).2 (I.ok.noex b o e)⟩
theorem Inv.bk (I : Inv X pins σ H s) : ∀ b o, X.base.get? b = some o → s.heap.get? b = some o := fun b o e => (I.bs b o e).1
theorem Inv.mod (I : Inv X pins σ H s) : Mod X.K X.mg X.base := I.ok.mod
theorem Inv.kIn (I : Inv X pins σ H s) : X.K.In s.heap := I.ok.mod.kin.keeps I.bk
theorem Inv.nolimit (I : Inv X pins σ H s) : s.heap.NoLimit := I.ok.mod.nolimit.keeps I.bk
theorem Inv.lt (I : Inv X pins σ H s) : X.env.locals < s.heap.objs.size := let ⟨_, hn, _⟩ := I.loc; hn.lt
theorem Inv.sz (I : Inv X pins σ H s) : X.s₀.heap.objs.size ≤ s.heap.objs.size := Nat.le_trans I.ok.above (Nat.le_of_lt I.lt)
theorem Inv.nofs (I : Inv X pins σ H s) {a : Addr} (h : s.heap.objs.size ≤ a) : a ∉ X.fs := fun hb => by
  obtain ⟨_, o, ho, _⟩ := I.ok.funs.mem hb
  exact absurd (Nat.lt_of_lt_of_le (Heap.lt_size ho) (Nat.le_trans I.sz h)) (Nat.lt_irrefl _)
theorem Inv.cne (I : Inv X pins σ H s) : ∀ x c, X.env.cells.lookup x = some c → c ≠ X.env.locals := fun x c e z => by
  obtain ⟨v, o, ho, hd⟩ := I.cell x c e
  obtain ⟨m, ⟨o', es, ep, ho', hd', _⟩, _⟩ := I.loc
  rw [z, ho'] at ho; cases ho; rw [hd'] at hd; cases hd
theorem Inv.funs (I : Inv X pins σ H s) : s.heap.FunFrames X.base X.outer := by
  have all : ∀ (l : List Env), (∀ b ∈ frs l, b ∈ X.fs) → X.s₀.heap.FunFrames X.base l → s.heap.FunFrames X.base l := by
    intro l
    induction l with
    | nil => intro _ _; trivial
    | cons env r ih =>
      intro hs hl
      obtain ⟨hk, ⟨L, o, hf, hn, ho, hd⟩, hr⟩ := hl
      have hL : L ∈ X.fs := hs L (by unfold frs; rw [List.filterMap_cons, hf]; exact List.mem_cons_self)
      obtain ⟨sl, e⟩ := I.base.slot L o ho (I.ok.frf L hL) hL fun z => I.ok.exfs L z hL
      exact ⟨hk, ⟨L, _, hf, hn, e, hd⟩, ih (fun b hb => hs b (by unfold frs; rw [List.filterMap_cons, hf]; exact List.mem_cons_of_mem _ hb)) hr⟩
  exact all X.outer (fun _ hb => hb) I.ok.funs
theorem Inv.stack (I : Inv X pins σ H s) : s.heap.FunFrames X.base X.stack := by
  rcases I.ok.stk with e | ⟨e, hf⟩
  · rw [e]; exact I.funs
  · rw [e]
    obtain ⟨m, hn, _⟩ := I.loc
    refine .cons (by rw [I.ok.kind]; decide) hf hn ?_ I.funs
    exact Heap.get?_none_of_le (Nat.le_trans I.ok.bsz I.ok.above)
theorem Inv.stkSub (I : Inv X pins σ H s) : ∀ b ∈ frs X.stack, b ∈ X.env.locals :: X.fs := fun b hb => by
  rcases I.ok.stk with e | ⟨e, hf⟩
  · rw [e] at hb; exact List.mem_cons_of_mem _ hb
  · rw [e] at hb
    unfold frs at hb
    rw [List.filterMap_cons, hf] at hb
    exact hb
theorem Inv.stkFree (I : Inv X pins σ H s) : ∀ b ∈ frs X.stack, H b = none := fun b hb => by
  rcases List.mem_cons.mp (I.stkSub b hb) with e | hb
  · rw [e]; exact I.free
  · obtain ⟨_, o, ho, _⟩ := I.ok.funs.mem hb
    exact I.base.free b o ho (I.ok.frf b hb) fun z => I.ok.exfs b z hb
theorem Inv.step {g' : Array GenState} {t' : Nat} {d' : Drawn} {ch : List Addr} (I : Inv X pins σ H s)
    (hch : ∀ b ∈ ch, (b ∈ X.ex ∨ X.s₀.heap.objs.size ≤ b) ∧ b ≠ X.env.locals ∧ (∀ x c, X.env.cells.lookup x = some c → c ≠ b) ∧ ∀ p ∈ X.pn ++ pins, p.1 ≠ b)
    (keep : ∀ b o, b ≠ X.env.locals → b ∉ X.fs → b ∉ ch → s.heap.get? b = some o → H b = none → h'.get? b = some o)
    (slot : ∀ b o, b ≠ X.env.locals → b ∈ X.fs → b ∉ ch → s.heap.get? b = some o → H b = none → ∃ sl, h'.get? b = some { o with slots := sl }) (free : ∀ b o, b ∉ ch → s.heap.get? b = some o → H b = none → H' b = none)
    (there : ∀ b o, b ∉ ch → s.heap.get? b = some o → ∃ o', h'.get? b = some o')
    (tups : ∀ b xs, H b = some (.tup xs) → H' b = some (.tup xs)) (frzs : ∀ b o u, H b = some (.frz o u) → H' b = some (.frz o u)) (tbls : ∀ b ps, H b = some (.tbl ps) → ∃ more, H' b = some (.tbl (ps ++ more)))
    (ns : ∀ m, s.heap.Ns X.env.locals m → h'.Ns X.env.locals m) (hok : HOk X.prog X.w H' h') (hg : AllBare g') :
    Inv X pins σ H' { s with heap := h', gens := g', drawn := d', toks := t' } := by
  have neL : ∀ b o, X.s₀.heap.get? b = some o → b ≠ X.env.locals := fun b o e => Nat.ne_of_lt (Nat.lt_of_lt_of_le (Heap.lt_size e) I.ok.above)
  have neC : ∀ b o, X.s₀.heap.get? b = some o → b ∉ X.ex → b ∉ ch := fun b o e hx hb => by
    rcases (hch b hb).1 with z | z
    · exact hx z
    · exact absurd (Nat.lt_of_lt_of_le (Heap.lt_size e) z) (Nat.lt_irrefl _)
  have cellK : ∀ x c, X.env.cells.lookup x = some c → ∀ v, s.heap.IsCell c v → h'.IsCell c v := fun x c e v ⟨o, ho, hd⟩ => by
    have nch : c ∉ ch := fun z => (hch c z).2.2.1 x c e rfl
    by_cases hc : c ∈ X.fs
    · obtain ⟨sl, q⟩ := slot c o (I.cne x c e) hc nch ho (I.freeC x c e)
      exact ⟨_, q, hd⟩
    · exact ⟨o, keep c o (I.cne x c e) hc nch ho (I.freeC x c e), hd⟩
  refine ⟨I.ok, I.os, hg, ⟨fun b o e n hb hx => ?_, fun b o e n hb hx => ?_, fun b o e n hx => ?_, fun b o e hx => ?_, fun b xs e => tups b xs (I.base.tups b xs e), fun b o xs e => frzs b o xs (I.base.frzs b o xs e), fun b ps e => ?_⟩, ?_, fun x c e => ?_, ?_, fun x c e => ?_, fun p hp => ?_, hok, I.len⟩
  · exact keep b o (neL b o e) hb (neC b o e hx) (I.base.keep b o e n hb hx) (I.base.free b o e n hx)
  · obtain ⟨sl, e1⟩ := I.base.slot b o e n hb hx
    obtain ⟨sl', e2⟩ := slot b _ (neL b o e) hb (neC b o e hx) e1 (I.base.free b o e n hx)
    exact ⟨sl', e2⟩
  · obtain ⟨o', e1⟩ := I.base.there b o e hx
    exact free b o' (neC b o e hx) e1 (I.base.free b o e n hx)
  · obtain ⟨o', e1⟩ := I.base.there b o e hx
    exact there b o' (neC b o e hx) e1
  · obtain ⟨m1, e1⟩ := I.base.tbls b ps e
    obtain ⟨m2, e2⟩ := tbls b _ e1
    exact ⟨m1 ++ m2, by rw [e2, Array.append_assoc]⟩
  · obtain ⟨m, hn, hl⟩ := I.loc
    refine ⟨m, ns m hn, fun i x v e1 e2 e3 => ?_⟩
    obtain ⟨u, r, l⟩ := hl i x v e1 e2 e3
    refine ⟨u, r, ?_⟩
    rcases l with l | ⟨k, c, e, z⟩
    · exact .inl l
    · exact .inr ⟨k, c, e, cellK x c e _ z⟩
  · obtain ⟨v, z⟩ := I.cell x c e
    exact ⟨v, cellK x c e v z⟩
  · obtain ⟨m, ⟨o, _, _, ho, _⟩, _⟩ := I.loc
    exact free _ o (fun z => (hch _ z).2.1 rfl) ho I.free
  · obtain ⟨v, o, ho, hd⟩ := I.cell x c e
    exact free c o (fun z => (hch c z).2.2.1 x c e rfl) ho (I.freeC x c e)
  · obtain ⟨e, n, ne, nf, d⟩ := I.pin p hp
    have nch : p.1 ∉ ch := fun z => (hch p.1 z).2.2.2 p hp rfl
    exact ⟨keep p.1 p.2 ne nf nch e n, free p.1 p.2 nch e n, ne, nf, d⟩
theorem Inv.un {t' : Nat} (I : Inv X pins σ H s) (u : Un X.fs [] H H' s.heap h') (hok : HOk X.prog X.w H' h') : Inv X pins σ H' { s with heap := h', toks := t' } := by
  obtain ⟨m, ⟨o, es, ep, ho, r⟩, _⟩ := id I.loc
  obtain ⟨sl, hL⟩ := u.any ho I.free (by simp)
  exact I.step (g' := s.gens) (d' := s.drawn) (ch := []) (fun _ z => nomatch z) (fun b o _ hb _ e n => u.keep b o e n hb (by simp)) (fun b o _ hb _ e n => u.slot b o e n hb (by simp)) (fun b o _ e n => u.free b o e n (by simp)) (fun b o _ e => u.there b o e (by simp)) u.tups u.frzs u.tbls (fun m' hm => by
    obtain ⟨o', es', ep', ho', r'⟩ := hm
    rw [ho] at ho'; cases ho'
    exact ⟨_, es', ep', hL, r'⟩) hok I.bare
theorem Inv.call {g' : Array GenState} {t' : Nat} {d' : Drawn} {ch : List Addr} (I : Inv X pins σ H s) (u : Un (frs X.stack) ch H H' s.heap h') (hok : HOk X.prog X.w H' h') (hg : AllBare g')
    (hch : ∀ b ∈ ch, (b ∈ X.ex ∨ X.s₀.heap.objs.size ≤ b) ∧ b ≠ X.env.locals ∧ (∀ x c, X.env.cells.lookup x = some c → c ≠ b) ∧ ∀ p ∈ X.pn ++ pins, p.1 ≠ b) :
    Inv X pins σ H' { s with heap := h', gens := g', drawn := d', toks := t' } := by
  obtain ⟨m, ⟨o, es, ep, ho, r⟩, _⟩ := id I.loc
  obtain ⟨sl, hL⟩ := u.any ho I.free fun z => (hch _ z).2.1 rfl
  exact I.step (ch := ch) hch (fun b o hL hb hc e n => u.keep b o e n (fun z => (List.mem_cons.mp (I.stkSub b z)).elim hL hb) hc) (fun b o _ _ hc e n => u.any e n hc) (fun b o hc e n => u.free b o e n hc) (fun b o hc e => u.there b o e hc) u.tups u.frzs u.tbls (fun m' hm => by
    obtain ⟨o', es', ep', ho', r'⟩ := hm
    rw [ho] at ho'; cases ho'
    exact ⟨_, es', ep', hL, r'⟩) hok hg
theorem Inv.turned {t' : Nat} {it : Addr} (I : Inv X pins σ H s) (k : ∀ b o, b ≠ it → s.heap.get? b = some o → h'.get? b = some o) (hn : H it = none) (hL : it ≠ X.env.locals)
    (h1 : it ∈ X.ex ∨ X.s₀.heap.objs.size ≤ it) (h2 : ∀ x c, X.env.cells.lookup x = some c → c ≠ it) (h3 : ∀ p ∈ X.pn ++ pins, p.1 ≠ it) : Inv X pins σ H { s with heap := h', toks := t' } := by
  have nit : ∀ b u, H b = some u → b ≠ it := fun b u e z => by rw [z, hn] at e; cases e
  refine I.step (g' := s.gens) (d' := s.drawn) (ch := [it]) (fun b hb => ?_) (fun b o _ _ hc e _ => k b o (fun z => hc (by simp [z])) e) (fun b o _ _ hc e _ => ⟨o.slots, k b o (fun z => hc (by simp [z])) e⟩) (fun _ _ _ _ n => n)
    (fun b o hc e => ⟨o, k b o (fun z => hc (by simp [z])) e⟩) (fun _ _ e => e) (fun _ _ _ e => e) (fun b ps e => ⟨#[], by rw [e]; simp⟩) (fun m hm => ?_) (fun b u e => ?_) I.bare
  · have e : b = it := by simpa using hb
    subst e
    exact ⟨h1, hL, h2, h3⟩
  · obtain ⟨o, es, ep, ho, r⟩ := hm
    exact ⟨o, es, ep, k _ o (Ne.symm hL) ho, r⟩
  · refine (I.hok b u e).stay (fun c v hc q => k c v ?_ q) (fun _ q => q) fun _ _ q => q
    rcases hc with z | z
    · rw [z]; exact nit b u e
    · exact nit c _ z
theorem Inv.tok (I : Inv X pins σ H s) (t : Nat) : Inv X pins σ H { s with toks := t } := I.un (h' := s.heap) (t' := t) Un.refl I.hok
theorem Inv.kept {t' : Nat} (I : Inv X pins σ H s) (k : ∀ b u, s.heap.get? b = some u → h'.get? b = some u) : Inv X pins σ H { s with heap := h', toks := t' } := I.un (Un.kept k) (I.hok.kept k)
theorem Inv.laid {a : Addr} {o : HO} {t' : Nat} (I : Inv X pins σ H s) (k : ∀ b u, s.heap.get? b = some u → h'.get? b = some u) (hp : s.heap.objs.size ≤ a) (new : ObjOk X.prog X.w (upd H a o) h' a o) :
    Inv X pins σ (upd H a o) { s with heap := h', toks := t' } := I.un (Un.laid k hp (I.hok.fresh hp)) (I.hok.laid k hp new)
theorem Inv.write {x e : Addr} {o : HO} {t' : Nat} (I : Inv X pins σ H s) (mu : Mut (H x)) (he : e = x ∨ H e = some (.own x)) (k : ∀ b u, b ≠ e → s.heap.get? b = some u → h'.get? b = some u) (heo : ∃ u, h'.get? e = some u)
    (new : ObjOk X.prog X.w (upd H x o) h' x o) : Inv X pins σ (upd H x o) { s with heap := h', toks := t' } := I.un (Un.write mu he k heo) (I.hok.write mu he k heo new)
theorem Inv.pins_of {pins' : List (Addr × Obj)} (I : Inv X pins σ H s) (h : ∀ p ∈ pins', s.heap.get? p.1 = some p.2 ∧ H p.1 = none ∧ p.1 ≠ X.env.locals ∧ p.1 ∉ X.fs ∧ ∀ v, p.2.data ≠ .cell v) : Inv X pins' σ H s :=
  ⟨I.ok, I.os, I.bare, I.base, I.loc, I.cell, I.free, I.freeC, fun p hp => (List.mem_append.mp hp).elim (fun z => I.pin p (List.mem_append_left _ z)) (h p), I.hok, I.len⟩
theorem qkn {N : List Str} (hN : N.Nodup) {i j : Nat} {x : Str} (a : N[i]? = some x) (b : N[j]? = some x) : i = j := by
  obtain ⟨h1, e1⟩ := List.getElem?_eq_some_iff.mp a
  obtain ⟨h2, e2⟩ := List.getElem?_eq_some_iff.mp b
  exact (List.getElem_inj hN).mp (e1.trans e2.symm)
theorem qi0 {M : Model} {A : Around} {E : Value → Shared → Prop} {i : Nat} {x : Str} {v : V} {u : Value} {Q : Unit → Shared → Prop} (I : Inv X pins σ H s) (hN : X.N.Nodup) (hi : X.N[i]? = some x) (hx : Loc X.env.scope x) (r : RelV v u)
    (h : ∀ s', Inv X pins (σ.set i (some v)) H s' → (∃ a, Heap.SameBut a s.heap s'.heap ∧ (a = X.env.locals ∨ X.env.cells.lookup x = some a)) → Q () s') (hf : X.fn x = true ∨ X.env.scope.names.lookup x = some .local := by first | exact .inl rfl | exact .inr rfl | assumption) : wpAny M A (storeName X.env x u) Q E s := by
  obtain ⟨m, hn, hl⟩ := id I.loc
  have hcls : (X.env.scope.kind == .class || (X.env.scope.kind == .module && X.env.locals != X.env.globals)) = false := by rw [I.ok.kind]; rfl
  have hiσ : i < σ.length := by rw [I.len]; exact (List.getElem?_eq_some_iff.mp hi).1
  have cne := I.cne
  have tracked : ∀ {a : Addr} {h' : Heap}, (∃ o, s.heap.get? a = some o ∧ H a = none) → Heap.SameBut a s.heap h' → HOk X.prog X.w H h' := fun {a h'} ha hs b ob e => by
    obtain ⟨_, _, hfree⟩ := ha
    refine (I.hok b ob e).stay (fun c w' hc q => (hs.2 c ?_).trans q) (fun _ q => q) fun _ _ q => q
    rintro rfl
    rcases hc with rfl | hc
    · rw [hfree] at e; cases e
    · rw [hfree] at hc; cases hc
  rcases hx with hk | hk
  · refine wpAny_storeName_local hk hn (fun h' hn' hs => ?_) hcls
    obtain ⟨oL, _, _, hoL, _⟩ := id hn
    refine h _ ⟨I.ok, I.os, I.bare, ⟨fun b o e n hb hx => ?_, fun b o e n hb hx => ?_, I.base.free, fun b o e hx => ?_, I.base.tups, I.base.frzs, I.base.tbls⟩, ⟨_, hn', fun j y v' e1 e2 e3 => ?_⟩, fun y c e => ?_, I.free, I.freeC, fun p hp => ?_, tracked ⟨oL, hoL, I.free⟩ hs, by simpa using I.len⟩ ⟨_, hs, .inl rfl⟩
    · exact (hs.2 b (Nat.ne_of_lt (Nat.lt_of_lt_of_le (Heap.lt_size e) I.ok.above))).trans (I.base.keep b o e n hb hx)
    · obtain ⟨sl, e1⟩ := I.base.slot b o e n hb hx
      exact ⟨sl, (hs.2 b (Nat.ne_of_lt (Nat.lt_of_lt_of_le (Heap.lt_size e) I.ok.above))).trans e1⟩
    · obtain ⟨o', e1⟩ := I.base.there b o e hx
      exact ⟨o', (hs.2 b (Nat.ne_of_lt (Nat.lt_of_lt_of_le (Heap.lt_size e) I.ok.above))).trans e1⟩
    · by_cases hj : j = i
      · subst hj
        rw [hi] at e1; cases e1
        rw [List.getElem?_set_self hiσ] at e2
        cases e2
        exact ⟨u, r, .inl ⟨hk, by simp⟩⟩
      · rw [List.getElem?_set_ne (Ne.symm hj)] at e2
        obtain ⟨u', r', q⟩ := hl j y v' e1 e2 e3
        refine ⟨u', r', ?_⟩
        rcases q with ⟨k, e⟩ | ⟨k, c, e, z⟩
        · refine .inl ⟨k, ?_⟩
          have : y ≠ x := fun e => hj (qkn hN e1 (e ▸ hi))
          simp [this, e]
        · exact .inr ⟨k, c, e, z.sameBut hs (cne y c e)⟩
    · obtain ⟨w', z⟩ := I.cell y c e
      exact ⟨w', z.sameBut hs (cne y c e)⟩
    · obtain ⟨e, n, ne, nf, d⟩ := I.pin p hp
      exact ⟨(hs.2 p.1 ne).trans e, n, ne, nf, d⟩
  · have hfn : X.fn x = true := by
      rcases hf with z | z
      · exact z
      · rw [z] at hk; cases hk
    obtain ⟨c, hc⟩ := I.ok.has x (.inl hk)
    obtain ⟨w', z⟩ := I.cell x c hc
    refine wpAny_storeName_cell I.ok.kind hk hc z (fun h' hc' hs => ?_)
    obtain ⟨oc, hoc, hocd⟩ := id z
    refine h { s with heap := h' } ⟨I.ok, I.os, I.bare, ⟨fun b o e n hb hx => ?_, fun b o e n hb hx => ?_, I.base.free, fun b o e hx => ?_, I.base.tups, I.base.frzs, I.base.tbls⟩, ⟨m, hn.sameBut hs (Ne.symm (cne x c hc)), fun j y v' e1 e2 e3 => ?_⟩, fun y c' e => ?_, I.free, I.freeC, fun p hp => ?_, tracked ⟨oc, hoc, I.freeC x c hc⟩ hs, by simpa using I.len⟩ ⟨c, hs, .inr hc⟩
    · exact (hs.2 b (Nat.ne_of_lt (Nat.lt_of_lt_of_le (Heap.lt_size e) (I.ok.cab x c hfn hc)))).trans (I.base.keep b o e n hb hx)
    · obtain ⟨sl, e1⟩ := I.base.slot b o e n hb hx
      exact ⟨sl, (hs.2 b (Nat.ne_of_lt (Nat.lt_of_lt_of_le (Heap.lt_size e) (I.ok.cab x c hfn hc)))).trans e1⟩
    · obtain ⟨o', e1⟩ := I.base.there b o e hx
      exact ⟨o', (hs.2 b (Nat.ne_of_lt (Nat.lt_of_lt_of_le (Heap.lt_size e) (I.ok.cab x c hfn hc)))).trans e1⟩
    · by_cases hj : j = i
      · subst hj
        rw [hi] at e1; cases e1
        rw [List.getElem?_set_self hiσ] at e2
        cases e2
        exact ⟨u, r, .inr ⟨.inl hk, c, hc, hc'⟩⟩
      · rw [List.getElem?_set_ne (Ne.symm hj)] at e2
        obtain ⟨u', r', q⟩ := hl j y v' e1 e2 e3
        refine ⟨u', r', ?_⟩
        rcases q with q | ⟨k, c', e, z'⟩
        · exact .inl q
        · refine .inr ⟨k, c', e, z'.sameBut hs ?_⟩
          rintro rfl
          exact hj (qkn hN e1 (I.ok.inj _ _ _ e hc ▸ hi))
    · by_cases hcc : c' = c
      · subst hcc; exact ⟨_, hc'⟩
      · obtain ⟨w2, z2⟩ := I.cell y c' e
        exact ⟨w2, z2.sameBut hs hcc⟩
    · obtain ⟨e, n, ne, nf, d⟩ := I.pin p hp
      refine ⟨(hs.2 p.1 ?_).trans e, n, ne, nf, d⟩
      intro q
      rw [q, hoc] at e
      have q' : oc = p.2 := Option.some.inj e
      exact d w' (by rw [← q']; exact hocd)
theorem qeT {M : Model} {A : Around} {E : Value → Shared → Prop} {i : Nat} {x : Str} {v : V} {u : Value} {Q : Unit → Shared → Prop} (I : Inv X pins σ H s) (hN : X.N.Nodup) (hi : X.N[i]? = some x) (hx : Loc X.env.scope x) (r : RelV v u)
    (h : ∀ s', Inv X pins (σ.set i (some v)) H s' → Q () s') (hf : X.fn x = true ∨ X.env.scope.names.lookup x = some .local := by first | exact .inl rfl | exact .inr rfl | assumption) : wpAny M A (storeName X.env x u) Q E s :=
  qi0 I hN hi hx r (fun s' I' _ => h s' I') hf
theorem Inv.call' {s' : Shared} {ch : List Addr} (I : Inv X pins σ H s) (ho : s'.os = s.os) (u : Un (frs X.stack) ch H H' s.heap s'.heap) (hok : HOk X.prog X.w H' s'.heap) (hg : AllBare s'.gens)
    (hch : ∀ b ∈ ch, (b ∈ X.ex ∨ X.s₀.heap.objs.size ≤ b) ∧ b ≠ X.env.locals ∧ (∀ x c, X.env.cells.lookup x = some c → c ≠ b) ∧ ∀ p ∈ X.pn ++ pins, p.1 ≠ b) : Inv X pins σ H' s' := by
  obtain ⟨h', g', d', t', o'⟩ := s'
  have e : o' = s.os := ho
  subst e
  exact I.call (g' := g') (t' := t') (d' := d') u hok hg hch
end
noncomputable abbrev XK := Value → Option Addr → Hp → Prop
noncomputable abbrev St := List (Option V)
noncomputable abbrev VK := V → Hp → Prop
noncomputable abbrev TE := St → Hp → VK → Prop
noncomputable abbrev TT := St → Hp → (Bool → Hp → Prop) → Prop
noncomputable abbrev TA := St → Hp → (List V → Hp → Prop) → Prop
structure Ends where
  nx : St → Hp → Prop
  rt : VK
  bk : St → Hp → Prop := fun _ _ => False
  ct : St → Hp → Prop := fun _ _ => False
noncomputable abbrev TS := Ends → St → Hp → Prop
noncomputable def EP (X : Cx) (pins : List (Addr × Obj)) (σ : St) (Q : VK) (u : Value) (s' : Shared) : Prop := ∃ v H', Inv X pins σ H' s' ∧ RelV v u ∧ Q v H'
noncomputable def TP (X : Cx) (pins : List (Addr × Obj)) (σ : St) (Q : Bool → Hp → Prop) (b : Bool) (s' : Shared) : Prop := ∃ H', Inv X pins σ H' s' ∧ Q b H'
noncomputable def AP (X : Cx) (pins : List (Addr × Obj)) (σ : St) (Q : List V → Hp → Prop) (us : List Value) (s' : Shared) : Prop := ∃ vs H', Inv X pins σ H' s' ∧ Vals vs us ∧ Q vs H'
noncomputable def SP (X : Cx) (pins : List (Addr × Obj)) (D : Ends) (f : Flow) (s' : Shared) : Prop :=
  match f with
  | .next => ∃ σ' H', Inv X pins σ' H' s' ∧ D.nx σ' H'
  | .brk => ∃ σ' H', Inv X pins σ' H' s' ∧ D.bk σ' H'
  | .cont => ∃ σ' H', Inv X pins σ' H' s' ∧ D.ct σ' H'
  | .ret u => ∃ v σ' H', Inv X pins σ' H' s' ∧ RelV v u ∧ D.rt v H'
noncomputable def PE (X : Cx) (e : Expr) (t : TE) : Prop :=
  ∀ (pins : List (Addr × Obj)) (s : Shared) (σ : St) (H : Hp) (Q : VK), Inv X pins σ H s → t σ H Q → wpAny (model X.prog X.w) X.A (eval e X.env) (EP X pins σ Q) X.xe s
noncomputable def PT (X : Cx) (e : Expr) (t : TT) : Prop :=
  ∀ (pins : List (Addr × Obj)) (s : Shared) (σ : St) (H : Hp) (Q : Bool → Hp → Prop), Inv X pins σ H s → t σ H Q → wpAny (model X.prog X.w) X.A (isTrue e X.env (eval e X.env)) (TP X pins σ Q) X.xe s
noncomputable def PW (X : Cx) (e : Expr) (t : TT) : Prop :=
  ∀ (whole : Sem Value) (pins : List (Addr × Obj)) (s : Shared) (σ : St) (H : Hp) (Q : Bool → Hp → Prop), Inv X pins σ H s → t σ H Q → wpAny (model X.prog X.w) X.A (isTrue e X.env whole) (TP X pins σ Q) X.xe s
theorem PW.pt {X : Cx} {e : Expr} {t : TT} (h : PW X e t) : PT X e t := h _
noncomputable def PA (X : Cx) (es : List Expr) (t : TA) : Prop :=
  ∀ (pos : Pos) (pins : List (Addr × Obj)) (s : Shared) (σ : St) (H : Hp) (Q : List V → Hp → Prop), Inv X pins σ H s → t σ H Q → wpAny (model X.prog X.w) X.A (spliced (backTo pos (starEach es X.env))) (AP X pins σ Q) X.xe s
noncomputable def PS (X : Cx) (st : Stmt) (t : TS) : Prop :=
  ∀ (pins : List (Addr × Obj)) (s : Shared) (σ : St) (H : Hp) (D : Ends), Inv X pins σ H s → t D σ H → wpAny (model X.prog X.w) X.A (exec st X.env) (SP X pins D) X.xe s
noncomputable def PSs (X : Cx) (st : List Stmt) (t : TS) : Prop :=
  ∀ (pins : List (Addr × Obj)) (s : Shared) (σ : St) (H : Hp) (D : Ends), Inv X pins σ H s → t D σ H → wpAny (model X.prog X.w) X.A (execs st X.env) (SP X pins D) X.xe s
theorem thn {α : Type} {t : Sem α} {Q Q' : α → Shared → Prop} {M : Model} {A : Around} {E : Value → Shared → Prop} {s : Shared} (h : wpAny M A t Q E s) (hQ : ∀ a s, Q a s → Q' a s) : wpAny M A t Q' E s := wpAny_mono h hQ fun _ _ x => x
end L2
namespace L2
open PySem PySem.Spec PyProof.Rows
section
variable {X : Cx}
noncomputable def qaf (i : Nat) : TE := fun σ H Q => ∃ v, σ[i]? = some (some v) ∧ Q v H
noncomputable def tC (v : V) : TE := fun _ H Q => Q v H
theorem qp7 {i : Nat} {x : Str} {pos : Pos} (hN : X.N[i]? = some x) (hv : Vis X.env.scope x) (hd : (x == ("__debug__" : Str)) = false := by decide) (hcd : (x == ("__classdict__" : Str)) = false := by decide) : PE X (.Name x pos) (qaf i) := by
  intro pins s σ H Q I h
  obtain ⟨v, e, h⟩ := h
  obtain ⟨m, hn, hl⟩ := I.loc
  obtain ⟨u, r, l⟩ := hl i x v hN e hv
  have fin : EP X pins σ Q u s := ⟨v, H, I, r, h⟩
  rcases l with ⟨hk, hm⟩ | ⟨hk, c, hc, hcell⟩
  · exact wpAny_Name (wpAny_loadName_local I.ok.kind hk hn hm fin) hd
  · rcases hk with hk | hk
    · exact wpAny_Name (wpAny_loadName_cell I.ok.kind hk hc hcell fin) hd
    · exact wpAny_Name (wpAny_loadName_free I.ok.kind hk hc hcell fin hcd) hd
theorem qad {i j pos} : PE X (.Constant (.int i) j pos) (tC (.int i)) := fun _ _ _ H _ I h => wpAny_Constant_int ⟨.int i, H, I.tok _, ⟨_, rfl⟩, h⟩
theorem qp8 {b j pos} : PE X (.Constant (.bool b) j pos) (tC (.bl b)) := fun _ _ _ H _ I h => Constant_bool ⟨.bl b, H, I, rfl, h⟩
theorem qgi {j pos} : PE X (.Constant .none j pos) (tC .non) := fun _ _ _ H _ I h => Constant_none ⟨.non, H, I, rfl, h⟩
noncomputable def Gl (X : Cx) (x : Str) : Prop := X.env.kindOf x = some .globalImplicit
theorem qlC {E : Value → Shared → Prop} {pins : List (Addr × Obj)} {s : Shared} {σ : St} {H : Hp} {x : Str} {u : Value} {pos : Pos} {Q : Value → Shared → Prop} (I : Inv X pins σ H s) (hg : Gl X x) (hm : X.mg x = some u) (h : Q u s)
    (hd : (x == ("__debug__" : Str)) = false := by decide) : wpAny (model X.prog X.w) X.A (eval (.Name x pos) X.env) Q E s :=
  Calls.Name_function_global I.ok.kind hg (Calls.loadGlobal_global (by rw [I.ok.glob]; exact I.mod.glob.keeps I.bk) hm h) hd
theorem qeU {E : Value → Shared → Prop} {pins : List (Addr × Obj)} {s : Shared} {σ : St} {H : Hp} {x : Str} {u : Value} {pos : Pos} {Q : Value → Shared → Prop} (I : Inv X pins σ H s) (hg : Gl X x) (hm : X.mg x = none) (hv : bootBuiltins x = some u) (h : Q u s)
    (hn : x ≠ "__name__" := by decide) (hd : (x == ("__debug__" : Str)) = false := by decide) : wpAny (model X.prog X.w) X.A (eval (.Name x pos) X.env) Q E s := by
  obtain ⟨mb, h1, h2⟩ := I.mod.blt
  exact Calls.Name_function_global I.ok.kind hg (Calls.loadGlobal_builtin (by rw [I.ok.glob]; exact I.mod.glob.keeps I.bk) hm (by rw [I.ok.blt]; exact h1.keeps I.bk) ((h2 x hn).trans hv) h) hd
theorem qoX {x : Str} {v : V} {u : Value} {pos : Pos} (hg : Gl X x) (hm : X.mg x = some u) (r : RelV v u) (hd : (x == ("__debug__" : Str)) = false := by decide) : PE X (.Name x pos) (tC v) :=
  fun _ _ _ H _ I h => qlC I hg hm ⟨v, H, I, r, h⟩ hd
theorem qoY {x : Str} {v : V} {u : Value} {pos : Pos} (hg : Gl X x) (hm : X.mg x = none) (hv : bootBuiltins x = some u) (r : RelV v u) (hn : x ≠ "__name__" := by decide) (hd : (x == ("__debug__" : Str)) = false := by decide) : PE X (.Name x pos) (tC v) :=
  fun _ _ _ H _ I h => qeU I hg hm hv ⟨v, H, I, r, h⟩ hn hd
variable {a b : Expr} {ta tb : TE} {pos : Pos}
noncomputable def tB (t : TE) : TT := fun σ H Q => t σ H fun x H1 => ∃ c, x = .bl c ∧ Q c H1
theorem qlD {e : Expr} {t : TE} (h : PE X e t) (he : ∀ whole, isTrue e X.env whole = (do let v ← whole; standAt e.pos; holding [v] (truthy v)) := by intro _; rfl) : PT X e (tB t) := by
  intro pins s σ H Q I hw
  refine isTrue_plain (thn (h pins s σ H _ I hw) fun v s1 ⟨x, H1, I1, r1, q1⟩ => ?_) (he _)
  obtain ⟨d, rfl, q⟩ := q1
  cases r1
  exact wpAny_truthy_bool ⟨H1, I1, q⟩
variable {tA tB' : TT} {rest : List Expr}
noncomputable def qnC (t u : TT) : TT := fun σ H Q => t σ H fun c H1 => if c = true then u σ H1 Q else Q false H1
noncomputable def tOr (t u : TT) : TT := fun σ H Q => t σ H fun c H1 => if c = true then Q true H1 else u σ H1 Q
noncomputable def qp9 (t : TT) : TT := fun σ H Q => t σ H fun c H1 => Q (!c) H1
theorem qfl (ha : PT X a tA) : PW X (.BoolOp .And [a] pos) tA := by
  intro wh pins s σ H Q I h
  refine isTrue_and (thn (ha pins s σ H Q I h) fun c s1 e => ?_)
  cases c with
  | true => exact isTrue_and_nil e
  | false => exact e
theorem qos (ha : PT X a tA) : PW X (.BoolOp .Or [a] pos) tA := by
  intro wh pins s σ H Q I h
  refine isTrue_or (thn (ha pins s σ H Q I h) fun c s1 e => ?_)
  cases c with
  | false => exact isTrue_or_nil e
  | true => exact e
theorem qgj (ha : PT X a tA) (hb : PW X (.BoolOp .And (b :: rest) pos) tB') : PW X (.BoolOp .And (a :: b :: rest) pos) (qnC tA tB') := by
  intro wh pins s σ H Q I h
  refine isTrue_and (thn (ha pins s σ H _ I h) fun c s1 ⟨H1, I1, q1⟩ => ?_)
  cases c with
  | true => exact hb wh pins s1 σ H1 Q I1 q1
  | false => exact ⟨H1, I1, q1⟩
theorem qoZ (ha : PT X a tA) (hb : PW X (.BoolOp .Or (b :: rest) pos) tB') : PW X (.BoolOp .Or (a :: b :: rest) pos) (tOr tA tB') := by
  intro wh pins s σ H Q I h
  refine isTrue_or (thn (ha pins s σ H _ I h) fun c s1 ⟨H1, I1, q1⟩ => ?_)
  cases c with
  | true => exact ⟨H1, I1, q1⟩
  | false => exact hb wh pins s1 σ H1 Q I1 q1
theorem qot (ha : PT X a tA) : PT X (.UnaryOp .Not a pos) (qp9 tA) := by
  intro pins s σ H Q I h
  exact isTrue_not (ha pins s σ H (fun c H1 => Q (!c) H1) I h)
noncomputable def qqa (ta tb : TE) : TE := fun σ H Q => ta σ H fun x H1 => ∃ c, x = .bl c ∧ if c = true then tb σ H1 Q else Q (.bl false) H1
noncomputable def qr1 (ta tb : TE) : TE := fun σ H Q => ta σ H fun x H1 => ∃ c, x = .bl c ∧ if c = true then Q (.bl true) H1 else tb σ H1 Q
noncomputable def qqb (ta : TE) : TE := fun σ H Q => ta σ H fun x H1 => ∃ c, x = .bl c ∧ Q (.bl (!c)) H1
noncomputable def tIf (t : TT) (ta tb : TE) : TE := fun σ H Q => t σ H fun c H1 => if c = true then ta σ H1 Q else tb σ H1 Q
theorem qhX {c : Expr} (hc : PT X c tA) (ha : PE X a ta) (hb : PE X b tb) : PE X (.IfExp c a b pos) (tIf tA ta tb) := by
  intro pins s σ H Q I h
  refine wpAny_IfExp (thn (hc pins s σ H _ I h) fun d s1 ⟨H1, I1, q1⟩ => ?_)
  cases d with
  | true => exact ha pins s1 σ H1 Q I1 q1
  | false => exact hb pins s1 σ H1 Q I1 q1
end
end L2
namespace L2
open PySem PySem.Spec PyProof.Rows
noncomputable def SqL (K : PySem.W.Frag) (H : Hp) (a : Addr) (xs : List V) : Prop :=
  Rd H a (.lst xs) ∨
    ∃ (o : Obj) (its : Array Value) (n : Nat), K.lookup a = some o ∧ o.cls = .type "list" ∧ o.dict = none ∧ o.data = .seq its n ∧ its.size ≤ sizeLine ∧ Vals xs its.toList
noncomputable def SqT (K : PySem.W.Frag) (H : Hp) (a : Addr) (xs : List V) : Prop :=
  Rd H a (.tup xs) ∨
    ∃ (o : Obj) (its : Array Value) (n : Nat), K.lookup a = some o ∧ o.cls = .type "tuple" ∧ o.data = .seq its n ∧ its.size ≤ sizeLine ∧ Vals xs its.toList
noncomputable def qsb : Value → Option V
  | .none => some .non
  | .bool b => some (.bl b)
  | .int i _ => some (.int i)
  | .str x _ => some (.str x)
  | .bytes b _ => some (.byt b)
  | .float b _ => some (.flt b)
  | .ref a => some (.ref a)
  | .type n => some (.ty n)
  | _ => none
theorem RelV.abs {x : V} {u : Value} (r : RelV x u) : qsb u = some x := by
  cases x with
  | non => cases r; rfl
  | bl _ => cases r; rfl
  | int _ => obtain ⟨t, rfl⟩ := r; rfl
  | str _ => obtain ⟨t, rfl⟩ := r; rfl
  | byt _ => obtain ⟨t, rfl⟩ := r; rfl
  | flt _ => obtain ⟨t, rfl⟩ := r; rfl
  | ref _ => cases r; rfl
  | ty _ => cases r; rfl
theorem RelV.inj {x y : V} {u : Value} (r : RelV x u) (q : RelV y u) : x = y := Option.some.inj (r.abs.symm.trans q.abs)
theorem Vals.inj : ∀ {xs ys : List V} {us : List Value}, Vals xs us → Vals ys us → xs = ys
  | _, _, _, .nil, .nil => rfl
  | _, _, _, .cons r t, .cons r' t' => by rw [r.inj r', Vals.inj t t']
section
variable {X : Cx} {pins : List (Addr × Obj)} {σ : St} {H : Hp} {s : Shared} {a : Addr} {xs ys : List V}
theorem SqL.of {K : PySem.W.Frag} (h : H a = some (.lst xs)) : SqL K H a xs := .inl (.inl h)
theorem SqT.of {K : PySem.W.Frag} (h : H a = some (.tup xs)) : SqT K H a xs := .inl (.inl h)
theorem Inv.list (I : Inv X pins σ H s) (h : SqL X.K H a xs) : ∃ its : List Value, Vals xs its ∧ PlainL s.heap a its.toArray ∧ xs.length ≤ sizeLine := by
  rcases h with h | ⟨o, its, n, hk, hc, hd, hs, hz, r⟩
  · obtain ⟨z, its, n, r, e⟩ := h.ok I.hok
    exact ⟨its, r, ⟨_, n, e, rfl, rfl, rfl⟩, z⟩
  · refine ⟨its.toList, r, ⟨o, n, I.kIn a o hk, hc, hd, by simpa using hs⟩, ?_⟩
    have e := r.length
    simp only [Array.length_toList] at e
    omega
theorem Inv.tuple (I : Inv X pins σ H s) (h : SqT X.K H a xs) : ∃ its : List Value, Vals xs its ∧ IsTup s.heap a its.toArray ∧ xs.length ≤ sizeLine := by
  rcases h with h | ⟨o, its, n, hk, hc, hs, hz, r⟩
  · obtain ⟨z, its, r, p⟩ := h.ok I.hok
    exact ⟨its, r, p, z⟩
  · refine ⟨its.toList, r, ⟨o, I.kIn a o hk, hc, n, by simpa using hs⟩, ?_⟩
    have e := r.length
    simp only [Array.length_toList] at e
    omega
theorem Inv.list_inj (I : Inv X pins σ H s) (h : SqL X.K H a xs) (h' : SqL X.K H a ys) : xs = ys := by
  obtain ⟨its, r, ⟨o, n, e, _, _, d⟩, _⟩ := I.list h
  obtain ⟨its', r', ⟨o', n', e', _, _, d'⟩, _⟩ := I.list h'
  rw [e] at e'; cases e'
  rw [d] at d'
  injection d' with d1 _
  have : its = its' := by simpa using congrArg Array.toList d1
  subst this
  exact r.inj r'
theorem Inv.tuple_inj (I : Inv X pins σ H s) (h : SqT X.K H a xs) (h' : SqT X.K H a ys) : xs = ys := by
  obtain ⟨its, r, ⟨o, e, _, n, d⟩, _⟩ := I.tuple h
  obtain ⟨its', r', ⟨o', e', _, n', d'⟩, _⟩ := I.tuple h'
  rw [e] at e'; cases e'
  rw [d] at d'
  injection d' with d1 _
  have : its = its' := by simpa using congrArg Array.toList d1
  subst this
  exact r.inj r'
end
noncomputable abbrev Cx.wish (X : Cx) (E : Value → Shared → Prop) : Cx := { X with xe := E }
noncomputable abbrev Cx.nox (X : Cx) : Cx := X.wish fun _ _ => False
theorem Cx.Ok.wish {X : Cx} (ok : X.Ok) (E : Value → Shared → Prop) : (X.wish E).Ok :=
  ⟨ok.mod, ok.kind, ok.glob, ok.blt, ok.above, ok.inj, ok.has, ok.cab, ok.hd, ok.frames, ok.stk, ok.exf, ok.bs, ok.bsz, ok.noex, ok.exfs, ok.funs, ok.frf, ok.seer, ok.tree, ok.plr⟩
theorem Cx.Ok.unwish {X : Cx} {E : Value → Shared → Prop} (ok : (X.wish E).Ok) : X.Ok :=
  ⟨ok.mod, ok.kind, ok.glob, ok.blt, ok.above, ok.inj, ok.has, ok.cab, ok.hd, ok.frames, ok.stk, ok.exf, ok.bs, ok.bsz, ok.noex, ok.exfs, ok.funs, ok.frf, ok.seer, ok.tree, ok.plr⟩
section
variable {X : Cx} {pins : List (Addr × Obj)} {σ : St} {H : Hp} {s : Shared} {E : Value → Shared → Prop}
theorem Inv.wish (I : Inv X pins σ H s) (E : Value → Shared → Prop) : Inv (X.wish E) pins σ H s := ⟨I.ok.wish E, I.os, I.bare, I.base, I.loc, I.cell, I.free, I.freeC, I.pin, I.hok, I.len⟩
theorem Inv.unwish (I : Inv (X.wish E) pins σ H s) : Inv X pins σ H s := ⟨I.ok.unwish, I.os, I.bare, I.base, I.loc, I.cell, I.free, I.freeC, I.pin, I.hok, I.len⟩
theorem SP.unwish {D : Ends} {f : Flow} {s' : Shared} (h : SP (X.wish E) pins D f s') : SP X pins D f s' := by
  cases f with
  | next => obtain ⟨σ', H', I, q⟩ := h; exact ⟨σ', H', I.unwish, q⟩
  | brk => obtain ⟨σ', H', I, q⟩ := h; exact ⟨σ', H', I.unwish, q⟩
  | cont => obtain ⟨σ', H', I, q⟩ := h; exact ⟨σ', H', I.unwish, q⟩
  | ret u => obtain ⟨v, σ', H', I, r, q⟩ := h; exact ⟨v, σ', H', I.unwish, r, q⟩
theorem PE.nox {e : Expr} {t : TE} (h : PE X.nox e t) : PE X e t := fun pins s σ H Q I hw =>
  wpAny_mono (h pins s σ H Q (I.wish _) hw) (fun _ _ ⟨v, H', I', r, q⟩ => ⟨v, H', I'.unwish, r, q⟩) fun _ _ z => False.elim z
theorem PT.nox {e : Expr} {t : TT} (h : PT X.nox e t) : PT X e t := fun pins s σ H Q I hw =>
  wpAny_mono (h pins s σ H Q (I.wish _) hw) (fun _ _ ⟨H', I', q⟩ => ⟨H', I'.unwish, q⟩) fun _ _ z => False.elim z
theorem PSs.nox {st : List Stmt} {t : TS} (h : PSs X.nox st t) : PSs X st t := fun pins s σ H D I hw =>
  wpAny_mono (h pins s σ H D (I.wish _) hw) (fun _ _ q => q.unwish) fun _ _ z => False.elim z
end
section
variable {X : Cx} {st : Stmt} {rest : List Stmt} {t u : TS} {e : Expr} {te : TE} {pos : Pos}
noncomputable def qcp : TS := fun D σ H => D.nx σ H
noncomputable def qaJ (t u : TS) : TS := fun D σ H => t { D with nx := u D } σ H
theorem qbf : PSs X [] qcp := fun _ _ σ H _ I h => wpAny_execs_nil ⟨σ, H, I, h⟩
theorem qab (h1 : PS X st t) (h2 : PSs X rest u) : PSs X (st :: rest) (qaJ t u) := by
  intro pins s σ H D I h
  refine wpAny_execs_cons (thn (h1 pins s σ H { D with nx := u D } I h) fun f s1 q => ?_)
  cases f with
  | next =>
    obtain ⟨σ', H', I', q⟩ := q
    exact h2 pins s1 σ' H' D I' q
  | ret v => exact q
  | brk => exact q
  | cont => exact q
theorem qah (h1 : PS X st t) : PSs X [st] t := by
  intro pins s σ H D I h
  refine wpAny_execs_cons (thn (h1 pins s σ H D I h) fun f s1 q => ?_)
  cases f with
  | next => exact wpAny_execs_nil q
  | ret v => exact q
  | brk => exact q
  | cont => exact q
theorem Inv.quiet {pins : List (Addr × Obj)} {σ : St} {H : Hp} {s : Shared} (I : Inv X pins σ H s) : interactive X.env = false := by simp [interactive, I.ok.kind]
noncomputable def qhY (te : TE) : TS := fun D σ H => te σ H fun _ H1 => D.nx σ H1
theorem qfm (he : PE X e te) (hs : swapsWith e none pos.line X.env = pure false := by rfl) : PS X (.Expr e pos) (qhY te) := by
  intro pins s σ H D I h
  exact wpAny_Expr_any (thn (he pins s σ H _ I h) fun v s1 ⟨x, H1, I1, r1, q1⟩ => ⟨σ, H1, I1, q1⟩) I.quiet hs
noncomputable def qb3 (te : TE) : TS := fun D σ H => te σ H D.rt
theorem qaF (he : PE X e te) : PS X (.Return (some e) pos) (qb3 te) := by
  intro pins s σ H D I h
  exact wpAny_Return_some (thn (he pins s σ H _ I h) fun v s1 ⟨x, H1, I1, r1, q1⟩ => ⟨x, σ, H1, I1, r1, q1⟩)
noncomputable def qgk (c : TT) (t u : TS) : TS := fun D σ H => c σ H fun b H1 => if b = true then t D σ H1 else u D σ H1
theorem qdc {c : Expr} {a b : List Stmt} {tc : TT} (hc : PT X c tc) (ha : PSs X a t) (hb : PSs X b u) : PS X (.If c a b pos) (qgk tc t u) := by
  intro pins s σ H D I h
  refine wpAny_If (thn (hc pins s σ H _ I h) fun d s1 ⟨H1, I1, q1⟩ => ?_)
  cases d with
  | true => exact ha pins s1 σ H1 D I1 q1
  | false => exact hb pins s1 σ H1 D I1 q1
end
noncomputable abbrev TG := V → St → Hp → (St → Hp → Prop) → Prop
noncomputable abbrev TGs := List V → St → Hp → (St → Hp → Prop) → Prop
noncomputable def PG (X : Cx) (target : Expr) (t : TG) : Prop :=
  ∀ (pins : List (Addr × Obj)) (s : Shared) (σ : St) (H : Hp) (v : V) (u : Value) (Q : St → Hp → Prop), Inv X pins σ H s → RelV v u → t v σ H Q →
    wpAny (model X.prog X.w) X.A (assign target X.env u) (fun _ s' => ∃ σ' H', Inv X pins σ' H' s' ∧ Q σ' H') X.xe s
noncomputable def PGs (X : Cx) (ts : List Expr) (t : TGs) : Prop :=
  ∀ (pins : List (Addr × Obj)) (s : Shared) (σ : St) (H : Hp) (vs : List V) (us : List Value) (Q : St → Hp → Prop), Inv X pins σ H s → Vals vs us → t vs σ H Q →
    wpAny (model X.prog X.w) X.A (assignInOrder ((assignEach ts X.env).map (·.2)) us) (fun _ s' => ∃ σ' H', Inv X pins σ' H' s' ∧ Q σ' H') X.xe s
noncomputable abbrev TSet := V → V → V → Hp → (Hp → Prop) → Prop
noncomputable def PSet (X : Cx) (t : TSet) : Prop :=
  ∀ (pins : List (Addr × Obj)) (s : Shared) (σ : St) (H : Hp) (o i v : V) (ov iv u : Value) (Q : Hp → Prop), Inv X pins σ H s → RelV o ov → RelV i iv → RelV v u → t o i v H Q →
    wpAny (model X.prog X.w) X.A (setItem ov iv u) (fun _ s' => ∃ H', Inv X pins σ H' s' ∧ Q H') X.xe s
noncomputable abbrev TIp := V → V → Hp → VK → Prop
noncomputable def PIp (X : Cx) (op : Operator) (t : TIp) : Prop :=
  ∀ (pins : List (Addr × Obj)) (s : Shared) (σ : St) (H : Hp) (x y : V) (v u : Value) (Q : VK), Inv X pins σ H s → RelV x v → RelV y u → t x y H Q →
    wpAny (model X.prog X.w) X.A (inplaceOp op v u) (EP X pins σ Q) X.xe s
section
variable {X : Cx} {pos : Pos}
noncomputable def qak (i : Nat) : TG := fun v σ H Q => Q (σ.set i (some v)) H
theorem qaD {i : Nat} {x : Str} (hN : X.N.Nodup) (hi : X.N[i]? = some x) (hx : Loc X.env.scope x) (hf : X.fn x = true ∨ X.env.scope.names.lookup x = some .local := by first | exact .inl rfl | exact .inr rfl | assumption) : PG X (.Name x pos) (qak i) := by
  intro pins s σ H v u Q I r h
  exact wpAny_assign_Name (qeT I hN hi hx r (fun s' I' => ⟨_, H, I', h⟩) hf)
noncomputable def qnD : TGs := fun vs σ H Q => vs = [] ∧ Q σ H
noncomputable def qdR (t : TG) (u : TGs) : TGs := fun vs σ H Q => ∃ v r, vs = v :: r ∧ t v σ H fun σ' H' => u r σ' H' Q
theorem qey : PGs X [] qnD := by
  intro pins s σ H vs us Q I r h
  obtain ⟨e, h⟩ := h
  subst e
  cases r
  exact assignInOrder_nil ⟨σ, H, I, h⟩
theorem qbr {e : Expr} {es : List Expr} {t : TG} {u : TGs} (h1 : PG X e t) (h2 : PGs X es u)
    (hs : (assignEach (e :: es) X.env).map (·.2) = assign e X.env :: (assignEach es X.env).map (·.2) := by rfl) : PGs X (e :: es) (qdR t u) := by
  intro pins s σ H vs us Q I r h
  obtain ⟨v, vr, e1, h⟩ := h
  subst e1
  cases r with
  | cons r rr =>
    rw [hs]
    refine assignInOrder_cons (thn (h1 pins s σ H _ _ _ I r h) fun _ s1 ⟨σ1, H1, I1, q1⟩ => ?_)
    exact h2 pins s1 σ1 H1 _ _ Q I1 rr q1
noncomputable def qsc (K : PySem.W.Frag) (n : Nat) (t : TGs) : TG := fun v σ H Q => ∃ a xs, v = .ref a ∧ SqT K H a xs ∧ xs.length = n ∧ t xs σ H Q
theorem qqc {es : List Expr} {k : Nat} {t : TGs} {n : Nat} (hc : X.calm = true) (h : PGs X es t)
    (hn : (assignEach es X.env).length = n := by rfl) (hst : (assignEach es X.env).findIdx? (·.1) = none := by rfl) : PG X (.Tuple es k pos) (qsc X.K n t) := by
  intro pins s σ H v u Q I r hw
  obtain ⟨a, xs, e1, hq, hl, hw⟩ := hw
  subst e1
  cases r
  obtain ⟨its, rv, ht, hz⟩ := I.tuple hq
  refine assign_Tuple_tuple (I.ok.hd hc) ht (by simp [hn, ← hl, rv.length]) hst fun h' hx => ?_
  have I1 : Inv X pins σ H { s with heap := h' } := I.kept (t' := s.toks) fun b o e => hx b o (Nat.ne_of_lt (Heap.lt_size e)) e
  exact h pins _ σ H xs _ Q I1 (by simpa using rv) hw
noncomputable def qlE (to ti : TE) (t : TSet) : TG := fun v σ H Q => to σ H fun o H1 => ti σ H1 fun i H2 => t o i v H2 fun H3 => Q σ H3
theorem qfM {o i : Expr} {to ti : TE} {t : TSet} (ho : PE X o to) (hi : PE X i ti) (hs : PSet X t)
    (ha : ∀ v, assign (.Subscript o i pos) X.env v = (do
      let ov ← holding [v] (eval o X.env)
      let iv ← holding [v, ov] (eval i X.env)
      standAt pos
      holding [v, ov, iv] (setItem ov iv v)
      release [v, ov, iv] []) := by intro _; rfl) : PG X (.Subscript o i pos) (qlE to ti t) := by
  intro pins s σ H v u Q I r h
  rw [ha]
  refine wpAny_bind (wpAny_holding (thn (ho pins s σ H _ I h) fun ov s1 ⟨x, H1, I1, r1, q1⟩ => ?_))
  refine wpAny_bind (wpAny_holding (thn (hi pins s1 σ H1 _ I1 q1) fun iv s2 ⟨y, H2, I2, r2, q2⟩ => ?_))
  refine wpAny_bind (wpAny_standAt (wpAny_bind (wpAny_holding (thn (hs pins s2 σ H2 x y v ov iv u _ I2 r1 r2 r q2) fun _ s3 ⟨H3, I3, q3⟩ => ?_))))
  exact wpAny_release ⟨σ, H3, I3, q3⟩
noncomputable def qaV (te : TE) (g : TG) : TS := fun D σ H => te σ H fun x H1 => g x σ H1 D.nx
theorem qfN {tg e : Expr} {te : TE} {g : TG} (he : PE X e te) (hg : PG X tg g) (hs : swapsWithSole [tg] e pos.line X.env = pure false := by rfl) (hw : swappedStores [tg] e X.env = pure none := by rfl)
    (h1 : (assignEach [tg] X.env).map (·.2) = [assign tg X.env] := by rfl) : PS X (.Assign [tg] e pos) (qaV te g) := by
  intro pins s σ H D I h
  refine wpAny_Assign_stores (thn (he pins s σ H _ I h) fun v s1 ⟨x, H1, I1, r1, q1⟩ => ?_) hs hw
  rw [h1]
  exact thn (hg pins s1 σ H1 x v _ I1 r1 q1) fun _ s2 q => q
theorem qal {i : Nat} {x : Str} {e : Expr} {te : TE} {pos' : Pos} (hN : X.N.Nodup) (hi : X.N[i]? = some x) (hx : Loc X.env.scope x) (he : PE X e te) (hs : swapsWith e (some (.Name x pos')) pos.line X.env = pure false := by rfl) (hf : X.fn x = true ∨ X.env.scope.names.lookup x = some .local := by first | exact .inl rfl | exact .inr rfl | assumption) :
    PS X (.Assign [.Name x pos'] e pos) (qaV te (qak i)) := by
  intro pins s σ H D I h
  refine wpAny_Assign_Name (thn (he pins s σ H _ I h) fun v s1 ⟨y, H1, I1, r1, q1⟩ => ?_) hs
  exact qeT I1 hN hi hx r1 (fun s2 I2 => ⟨_, H1, I2, q1⟩) hf
noncomputable def qqd (i j : Nat) (ta : TA) : TS := fun D σ H => ta σ H fun vs H1 => ∃ v w, vs = [v, w] ∧ D.nx ((σ.set i (some v)).set j (some w)) H1
theorem qou {i j : Nat} {x y : Str} {a b : Expr} {ta : TA} {px py pt : Pos} {kt k2 pt2} (hc : X.calm = true) (hN : X.N.Nodup) (hi : X.N[i]? = some x) (hj : X.N[j]? = some y) (hij : i ≠ j)
    (hx : X.env.scope.names.lookup x = some .local) (hy : X.env.scope.names.lookup y = some .local) (ha : PA X [a, b] ta)
    (hw : swappedStores [.Tuple [.Name x px, .Name y py] kt pt] (.Tuple [a, b] k2 pt2) X.env = pure (some [x, y]))
    (hs : swapsWithSole [.Tuple [.Name x px, .Name y py] kt pt] (.Tuple [a, b] k2 pt2) pos.line X.env = pure false := by rfl) :
    PS X (.Assign [.Tuple [.Name x px, .Name y py] kt pt] (.Tuple [a, b] k2 pt2) pos) (qqd i j ta) := by
  intro pins s σ H D I h
  rw [exec_Assign_arm]
  refine wpAny_bind (wpAny_standAt ?_)
  rw [hs]
  refine wpAny_bind (wpAny_pure ?_)
  rw [if_neg (by decide)]
  refine wpAny_bind (Tuple_ (thn (ha _ pins s σ H _ I h) fun us s1 ⟨vs, H1, I1, r1, q1⟩ => ?_))
  obtain ⟨v, w, e1, q1⟩ := q1
  subst e1
  obtain ⟨u1, u2, rfl, rv, rw'⟩ : ∃ u1 u2, us = [u1, u2] ∧ RelV v u1 ∧ RelV w u2 := by
    cases r1 with
    | cons p q =>
      cases q with
      | cons p' q' =>
        cases q'
        exact ⟨_, _, rfl, p, p'⟩
  refine wpAny_newObj_type ?_ (by show 2 ≤ sizeLine; decide)
  have I2 : Inv X pins σ H1 { s1 with heap := s1.heap.push { cls := .type "tuple", data := .seq [u1, u2].toArray } } := I1.kept (t' := s1.toks) fun b o e => Heap.get?_push_of_some _ e
  rw [hw]
  refine wpAny_bind (wpAny_pure ?_)
  show wpAny (model X.prog X.w) X.A (do rule "assign.swapped-stores"; let items ← unpackItems (.ref s1.heap.objs.size) 2 none; assignInOrder [fun v => bindName X.env y v, fun v => bindName X.env x v] items.reverse; pure Flow.next) _ _ _
  refine wpAny_bind (wpAny_rule (wpAny_bind (unpackItems_tuple (items := #[u1, u2]) (I.ok.hd hc) (IsTup.new s1.heap _) fun h' hx' => ?_)))
  have I3 := I2.kept (h' := h') (t' := s1.toks) fun b o e => hx' b o (Nat.ne_of_lt (Heap.lt_size e)) e
  show wpAny _ _ (assignInOrder [fun v => bindName X.env y v, fun v => bindName X.env x v] [u2, u1] >>= fun _ => pure Flow.next) _ _ _
  refine wpAny_bind (assignInOrder_cons (wpAny_bindName (qeT I3 hN hj (.inl hy) rw' (fun s2 I4 => ?_) (.inr hy))))
  refine assignInOrder_cons (wpAny_bindName (qeT I4 hN hi (.inl hx) rv (fun s3 I5 => assignInOrder_nil (wpAny_pure ?_)) (.inr hx)))
  rw [List.set_comm _ _ (Ne.symm hij)] at I5
  exact ⟨_, H1, I5, q1⟩
noncomputable def qnF (i : Nat) (te : TE) (ti : TIp) : TS := fun D σ H => ∃ x, σ[i]? = some (some x) ∧ te σ H fun y H1 => ti x y H1 fun z H2 => D.nx (σ.set i (some z)) H2
theorem qhu {i : Nat} {x : Str} {e : Expr} {te : TE} {op : Operator} {ti : TIp} {pos' : Pos} (hN : X.N.Nodup) (hi : X.N[i]? = some x) (hx : Loc X.env.scope x) (he : PE X e te) (ho : PIp X op ti) (hf : X.fn x = true ∨ X.env.scope.names.lookup x = some .local := by first | exact .inl rfl | exact .inr rfl | assumption) :
    PS X (.AugAssign (.Name x pos') op e pos) (qnF i te ti) := by
  intro pins s σ H D I h
  obtain ⟨v, e1, h⟩ := h
  obtain ⟨m, hn, hl⟩ := I.loc
  have vis : Vis X.env.scope x := by rcases hx with k | k; exact .inl k; exact .inr (.inl k)
  obtain ⟨u, r, l⟩ := hl i x v hi e1 vis
  refine wpAny_AugAssign_Name ?_
  have go : wpAny (model X.prog X.w) X.A (eval e X.env) (fun w s₂ => wpAny (model X.prog X.w) X.A (inplaceOp op u w) (fun r s₃ => wpAny (model X.prog X.w) X.A (storeName X.env x r) (fun _ => SP X pins D .next) X.xe s₃) X.xe s₂) X.xe s := by
    refine thn (he pins s σ H _ I h) fun w s1 ⟨y, H1, I1, r1, q1⟩ => ?_
    refine thn (ho pins s1 σ H1 v y u w _ I1 r r1 q1) fun z s2 ⟨zv, H2, I2, r2, q2⟩ => ?_
    exact qeT I2 hN hi hx r2 (fun s3 I3 => ⟨_, H2, I3, q2⟩) hf
  rcases l with ⟨hk, hm⟩ | ⟨hk, c, hc, hcell⟩
  · exact wpAny_loadName_local I.ok.kind hk hn hm go
  · rcases hk with hk | hk
    · exact wpAny_loadName_cell I.ok.kind hk hc hcell go
    · rcases hx with k | k
      · have : X.env.scope.names.lookup x = some .free := hk
        rw [k] at this; cases this
      · have : X.env.scope.names.lookup x = some .free := hk
        rw [k] at this; cases this
noncomputable def qk8 (to ti te : TE) (tget : V → V → Hp → VK → Prop) (tip : TIp) (tset : TSet) : TS := fun D σ H => to σ H fun o H1 => ti σ H1 fun i H2 => tget o i H2 fun x H3 => te σ H3 fun y H4 => tip x y H4 fun z H5 => tset o i z H5 fun H6 => D.nx σ H6
noncomputable def PGet (X : Cx) (t : V → V → Hp → VK → Prop) : Prop :=
  ∀ (pins : List (Addr × Obj)) (s : Shared) (σ : St) (H : Hp) (o i : V) (ov iv : Value) (Q : VK), Inv X pins σ H s → RelV o ov → RelV i iv → t o i H Q →
    wpAny (model X.prog X.w) X.A (getItem ov iv) (EP X pins σ Q) X.xe s
theorem qjN {o i e : Expr} {to ti te : TE} {tget : V → V → Hp → VK → Prop} {tip : TIp} {tset : TSet} {op : Operator} {tpos : Pos} (ho : PE X o to) (hi : PE X i ti) (hg : PGet X tget) (he : PE X e te) (hp : PIp X op tip) (hs : PSet X tset)
    (ha : ∀ ov iv new, augStore i ov iv new = (do holding [new, ov, iv] (setItem ov iv new); release [new, ov, iv] []; pure .next) := by intros; rfl) : PS X (.AugAssign (.Subscript o i tpos) op e pos) (qk8 to ti te tget tip tset) := by
  intro pins s σ H D I h
  refine wpAny_AugAssign_SubscriptAny (thn (ho pins s σ H _ I h) fun ov s1 ⟨x1, H1, I1, r1, q1⟩ => ?_) ha
  refine thn (hi pins s1 σ H1 _ I1 q1) fun iv s2 ⟨x2, H2, I2, r2, q2⟩ => ?_
  refine thn (hg pins s2 σ H2 x1 x2 ov iv _ I2 r1 r2 q2) fun old s3 ⟨x3, H3, I3, r3, q3⟩ => ?_
  refine thn (he pins s3 σ H3 _ I3 q3) fun v s4 ⟨x4, H4, I4, r4, q4⟩ => ?_
  refine thn (hp pins s4 σ H4 x3 x4 old v _ I4 r3 r4 q4) fun new s5 ⟨x5, H5, I5, r5, q5⟩ => ?_
  exact thn (hs pins s5 σ H5 x1 x2 x5 ov iv new _ I5 r1 r2 r5 q5) fun _ s6 ⟨H6, I6, q6⟩ => ⟨σ, H6, I6, q6⟩
end
section
variable {X : Cx} {pos : Pos}
noncomputable def qcN (c : TT) (tb : TS) : TS := fun D σ H => ∃ W : Nat → St → Hp → Prop, (∃ m, W m σ H) ∧ ∀ m σ H, W m σ H →
  c σ H fun b H1 => if b = true then ∃ N : St → Hp → Prop, (∀ σ' H', N σ' H' → ∃ m', m' < m ∧ W m' σ' H') ∧ tb { D with nx := N, ct := N, bk := D.nx } σ H1 else D.nx σ H1
theorem qbJ {c : Expr} {body : List Stmt} {tc : TT} {tb : TS} (hp : PassesOwn (model X.prog X.w) X.A X.env X.xe) (hc : PT X c tc) (hb : PSs X body tb) : PS X (.While c body [] pos) (qcN tc tb) := by
  intro pins s σ H D I h
  obtain ⟨W, ⟨m0, w0⟩, turn⟩ := h
  refine wpAny_While (codeAny_whileLoop (fun n s' => ∃ σ' H', Inv X pins σ' H' s' ∧ W n σ' H') ?_ m0 ⟨σ, H, I, w0⟩)
  rintro n s1 ⟨σ1, H1, I1, w1⟩
  refine wpAny_passesOwn hp (thn (hc pins s1 σ1 H1 _ I1 (turn n σ1 H1 w1)) fun b s2 ⟨H2, I2, q2⟩ => ?_)
  cases b with
  | true =>
    obtain ⟨N, hN, q2⟩ := q2
    rw [if_pos rfl]
    refine wpAny_passesOwn hp (thn (hb pins s2 σ1 H2 _ I2 q2) fun f s3 q3 => ?_)
    cases f with
    | next =>
      obtain ⟨σ3, H3, I3, n3⟩ := q3
      obtain ⟨m', hm, w3⟩ := hN σ3 H3 n3
      exact ⟨m', hm, σ3, H3, I3, w3⟩
    | cont =>
      obtain ⟨σ3, H3, I3, n3⟩ := q3
      obtain ⟨m', hm, w3⟩ := hN σ3 H3 n3
      exact ⟨m', hm, σ3, H3, I3, w3⟩
    | brk => exact q3
    | ret v => exact q3
  | false =>
    rw [if_neg Bool.false_ne_true]
    exact wpAny_execs_nil ⟨σ1, H2, I2, q2⟩
end
structure It where
  go : Nat → Hp → Prop
  yld : Nat → Hp → V → Hp → Prop
  stop : Nat → Hp → Prop
noncomputable def qjO (X : Cx) (pins : List (Addr × Obj)) (H : Hp) (b : Addr) : Prop :=
  H b = none ∧ b ≠ X.env.locals ∧ b ∉ X.fs ∧ (b ∈ X.ex ∨ X.s₀.heap.objs.size ≤ b) ∧ (∀ x c, X.env.cells.lookup x = some c → c ≠ b) ∧ ∀ p ∈ X.pn ++ pins, p.1 ≠ b
theorem Inv.fpOk {X : Cx} {pins : List (Addr × Obj)} {σ : St} {H H' : Hp} {s : Shared} {b : Addr} (I : Inv X pins σ H s) (hb : s.heap.objs.size ≤ b) (hn : H' b = none) : qjO X pins H' b := by
  refine ⟨hn, Nat.ne_of_gt (Nat.lt_of_lt_of_le I.lt hb), I.nofs hb, .inr (Nat.le_trans I.sz hb), fun x c e z => ?_, fun p hp z => ?_⟩
  · obtain ⟨v, q⟩ := I.cell x c e
    exact absurd (Nat.lt_of_lt_of_le q.lt (by rw [z]; exact hb)) (Nat.lt_irrefl _)
  · exact absurd (Nat.lt_of_lt_of_le (Heap.lt_size (I.pin p hp).1) (by rw [z]; exact hb)) (Nat.lt_irrefl _)
structure Turn (P : Program) (w : World) (K : PySem.W.Frag) (tg : Expr) (J : It) (fp : List Addr) (it : Addr) (tn : Nat → Heap → Prop) : Prop where
  mem : it ∈ fp
  obj : ∀ i h, tn i h → ∀ b ∈ fp, ∃ o, h.get? b = some o ∧ ∀ v, o.data ≠ .cell v
  keep : ∀ i h h', tn i h → (∀ b ∈ fp, ∀ o, h.get? b = some o → h'.get? b = some o) → tn i h'
  item : ∀ (X : Cx), X.prog = P → X.w = w → X.K = K → X.calm = true → ∀ (i : Nat) (pins : List (Addr × Obj)) (s : Shared) (σ : St) (H : Hp) (E : Value → Shared → Prop), Inv X pins σ H s → (∀ b ∈ fp, qjO X pins H b) → tn i s.heap → J.go i H →
    wpAny (model P w) X.A (pyNext (.ref it)) (fun r s1 => ∃ u, r = some u ∧
      wpAny (model P w) X.A (letOwnedTupleGo tg (.ref it) u) (fun _ s2 => ∃ x H', Inv X pins σ H' s2 ∧ RelV x u ∧ J.yld i H x H' ∧ tn (i + 1) s2.heap ∧ ∀ b ∈ fp, H' b = none) E s1) E s
  done : ∀ (X : Cx), X.prog = P → X.w = w → X.K = K → X.calm = true → ∀ (i : Nat) (pins : List (Addr × Obj)) (s : Shared) (σ : St) (H : Hp) (E : Value → Shared → Prop), Inv X pins σ H s → (∀ b ∈ fp, qjO X pins H b) → tn i s.heap → J.stop i H →
    wpAny (model P w) X.A (pyNext (.ref it)) (fun r s1 => r = none ∧ Inv X pins σ H s1) E s
  self : ∀ (A : Around) (i : Nat) (s : Shared) (Q : Value → Shared → Prop) (E : Value → Shared → Prop), tn i s.heap → Q (.ref it) s → wpAny (model P w) A (pyIter (.ref it)) Q E s
noncomputable abbrev TI := St → Hp → (It → Hp → Prop) → Prop
noncomputable def PIE (X : Cx) (pins : List (Addr × Obj)) (σ : St) (tg : Expr) (R : It → Hp → Prop) (itv : Value) (s2 : Shared) : Prop :=
  ∃ (it : Addr) (fp : List Addr) (tn : Nat → Heap → Prop) (J : It) (H' : Hp), itv = .ref it ∧ Inv X pins σ H' s2 ∧ Turn X.prog X.w X.K tg J fp it tn ∧ tn 0 s2.heap ∧ (∀ b ∈ fp, qjO X pins H' b) ∧ R J H'
noncomputable def PI (X : Cx) (tg iter : Expr) (wi : TI) : Prop :=
  ∀ (pins : List (Addr × Obj)) (s : Shared) (σ : St) (H : Hp) (R : It → Hp → Prop), Inv X pins σ H s → wi σ H R →
    wpAny (model X.prog X.w) X.A (eval iter X.env) (fun v s1 => wpAny (model X.prog X.w) X.A (pyIter v) (PIE X pins σ tg R) X.xe s1) X.xe s
theorem qnG {M : Model} {A : Around} {E : Value → Shared → Prop} {s : Shared} {tg : Expr} {it : Addr} {u : Value} {o : Obj} {n : String} {vs : Array Value} {Q : Unit → Shared → Prop} (ho : s.heap.get? it = some o) (hc : o.cls = .type n) (hd : o.data = .fields vs)
    (hn : ["enumerate", "zip", "dict_itemiterator", "dict_reverseitemiterator", "odict_iterator", "itertools.zip_longest", "itertools.pairwise"].contains n = false) (hQ : Q () s) : wpAny M A (letOwnedTupleGo tg (.ref it) u) Q E s := by
  unfold letOwnedTupleGo
  cases tg <;> first
    | exact wpAny_pure hQ
    | (cases u <;> first
        | exact wpAny_pure hQ
        | (refine wpAny_bind (wpAny_load ho ?_)
           rw [hc, hd]
           show wpAny M A (if (["enumerate", "zip", "dict_itemiterator", "dict_reverseitemiterator", "odict_iterator", "itertools.zip_longest", "itertools.pairwise"].contains n && vs[0]? == some (rawInt _)) = true then _ else _) Q E s
           rw [if_neg (by intro h; rw [hn, Bool.false_and] at h; cases h)]
           exact wpAny_pure hQ))
noncomputable def Itl (K : PySem.W.Frag) (a : Addr) : It :=
  ⟨fun i H => ∃ xs x, SqL K H a xs ∧ xs[i]? = some x, fun i H x H' => H' = H ∧ ∀ xs, SqL K H a xs → xs[i]? = some x, fun i H => ∃ xs, SqL K H a xs ∧ xs.length ≤ i⟩
noncomputable def Itt (K : PySem.W.Frag) (a : Addr) : It :=
  ⟨fun i H => ∃ xs x, SqT K H a xs ∧ xs[i]? = some x, fun i H x H' => H' = H ∧ ∀ xs, SqT K H a xs → xs[i]? = some x, fun i H => ∃ xs, SqT K H a xs ∧ xs.length ≤ i⟩
noncomputable def Itr (lo : Int) (n : Nat) : It := ⟨fun i _ => i < n, fun i H x H' => H' = H ∧ x = .int (lo + i), fun i _ => n ≤ i⟩
theorem qlF {P : Program} {w : World} {K : PySem.W.Frag} {tg : Expr} (a it : Addr) : Turn P w K tg (Itl K a) [it] it (fun i h => h.IsListIter it a i) where
  mem := by simp
  obj := fun i h st b hb => by
    have e : b = it := by simpa using hb
    subst e
    obtain ⟨o, e, c, d⟩ := st
    exact ⟨o, e, fun v z => by rw [d] at z; cases z⟩
  keep := fun i h h' st k => st.at fun o e => k it (by simp) o e
  item := by
    intro X hP hw hK hc i pins s σ H E I hf st hg
    subst hP hw hK
    obtain ⟨xs, x, hq, hx⟩ := hg
    obtain ⟨its, rv, p, hz⟩ := I.list hq
    obtain ⟨u, hu, ru⟩ := rv.get hx
    obtain ⟨f0, f1, f2, f3, f4, f5⟩ := hf it (by simp)
    refine wpAny_pyNext_list_item st p.isList (x := u) (by simpa using hu) fun h' st' sb => ?_
    have I1 : Inv X pins σ H { s with heap := h' } := I.turned (t' := s.toks) (fun b o hb e => (sb.2 b hb).trans e) f0 f1 f3 f4 f5
    obtain ⟨o, e, c, d⟩ := id st'
    exact ⟨u, rfl, qnG (s := { s with heap := h' }) e c d (by decide) ⟨x, H, I1, ru, ⟨rfl, fun ys hy => by rw [I.list_inj hy hq]; exact hx⟩, st', fun b hb => (hf b hb).1⟩⟩
  done := by
    intro X hP hw hK hc i pins s σ H E I hf st hg
    subst hP hw hK
    obtain ⟨xs, hq, hx⟩ := hg
    obtain ⟨its, rv, p, hz⟩ := I.list hq
    obtain ⟨f0, f1, f2, f3, f4, f5⟩ := hf it (by simp)
    have hl := rv.length
    exact wpAny_pyNext_list_end (I.ok.hd hc) st p.isList (by simp; omega) fun h' eb => ⟨rfl, I.turned (t' := s.toks) (fun b o hb e => eb b o hb e) f0 f1 f3 f4 f5⟩
  self := fun _ _ _ _ _ st h => wpAny_pyIter_listiter st h
theorem qk9 {P : Program} {w : World} {K : PySem.W.Frag} {tg : Expr} (a it : Addr) : Turn P w K tg (Itt K a) [it] it (fun i h => h.IsTupleIter it a i) where
  mem := by simp
  obj := fun i h st b hb => by
    have e : b = it := by simpa using hb
    subst e
    obtain ⟨o, e, c, d⟩ := st
    exact ⟨o, e, fun v z => by rw [d] at z; cases z⟩
  keep := fun i h h' st k => st.at fun o e => k it (by simp) o e
  item := by
    intro X hP hw hK hc i pins s σ H E I hf st hg
    subst hP hw hK
    obtain ⟨xs, x, hq, hx⟩ := hg
    obtain ⟨its, rv, p, hz⟩ := I.tuple hq
    obtain ⟨u, hu, ru⟩ := rv.get hx
    obtain ⟨f0, f1, f2, f3, f4, f5⟩ := hf it (by simp)
    refine wpAny_pyNext_tuple_item st (show s.heap.IsTuple a its.toArray from p) (x := u) (by simpa using hu) fun h' st' sb => ?_
    have I1 : Inv X pins σ H { s with heap := h' } := I.turned (t' := s.toks) (fun b o hb e => (sb.2 b hb).trans e) f0 f1 f3 f4 f5
    obtain ⟨o, e, c, d⟩ := id st'
    exact ⟨u, rfl, qnG (s := { s with heap := h' }) e c d (by decide) ⟨x, H, I1, ru, ⟨rfl, fun ys hy => by rw [I.tuple_inj hy hq]; exact hx⟩, st', fun b hb => (hf b hb).1⟩⟩
  done := by
    intro X hP hw hK hc i pins s σ H E I hf st hg
    subst hP hw hK
    obtain ⟨xs, hq, hx⟩ := hg
    obtain ⟨its, rv, p, hz⟩ := I.tuple hq
    obtain ⟨f0, f1, f2, f3, f4, f5⟩ := hf it (by simp)
    have hl := rv.length
    exact wpAny_pyNext_tuple_end (I.ok.hd hc) st (show s.heap.IsTuple a its.toArray from p) (by simp; omega) fun h' eb => ⟨rfl, I.turned (t' := s.toks) (fun b o hb e => eb b o hb e) f0 f1 f3 f4 f5⟩
  self := fun _ _ _ _ _ st h => wpAny_pyIter_tupleiter st h
theorem qla {P : Program} {w : World} {K : PySem.W.Frag} {tg : Expr} (it : Addr) (lo : Int) (n : Nat) : Turn P w K tg (Itr lo n) [it] it (fun i h => IsRangeIter h it (lo + (i : Nat) * 1) ((n : Int) - (i : Nat)) 1) where
  mem := by simp
  obj := fun i h st b hb => by
    have e : b = it := by simpa using hb
    subst e
    exact ⟨_, st, fun v z => by
      have z' : Data.fields _ = Data.cell v := z
      cases z'⟩
  keep := fun i h h' st k => k it (by simp) _ st
  item := by
    intro X hP hw hK hc i pins s σ H E I hf st hg
    subst hP hw hK
    obtain ⟨f0, f1, f2, f3, f4, f5⟩ := hf it (by simp)
    have W := Walks.range (prog := X.prog) (w := X.w) (I.ok.hd hc) it lo 1 n
    refine W.item i s _ _ hg st fun v h' tk hv st' kk => ?_
    obtain ⟨t, rfl⟩ := hv
    have I1 : Inv X pins σ H { s with heap := h', toks := tk } := I.turned (fun b o hb e => kk b o (by simpa using hb) e) f0 f1 f3 f4 f5
    refine ⟨_, rfl, qnG (s := { s with heap := h', toks := tk }) (n := "range_iterator") st' rfl rfl (by decide) ⟨.int (lo + i), H, I1, ⟨t, ?_⟩, ⟨rfl, rfl⟩, st', fun b hb => (hf b hb).1⟩⟩
    rw [Int.mul_one]
  done := by
    intro X hP hw hK hc i pins s σ H E I hf st hg
    subst hP hw hK
    obtain ⟨f0, f1, f2, f3, f4, f5⟩ := hf it (by simp)
    exact wpAny_pyNext_range_end (I.ok.hd hc) st (by have : n ≤ i := hg; omega) fun h' eb => ⟨rfl, I.turned (t' := s.toks) (fun b o hb e => eb b o hb e) f0 f1 f3 f4 f5⟩
  self := fun _ _ _ _ _ st h => wpAny_pyIter_rangeiter st h
end L2
namespace L2
open PySem PySem.Spec PyProof.Rows
section
variable {X : Cx} {tg : Expr}
noncomputable def qc1 (K : PySem.W.Frag) (tl : TE) : TI := fun σ H R => tl σ H fun x H1 => ∃ a, x = .ref a ∧ (∃ xs, SqL K H1 a xs) ∧ R (Itl K a) H1
noncomputable def qpU (K : PySem.W.Frag) (tl : TE) : TI := fun σ H R => tl σ H fun x H1 => ∃ a, x = .ref a ∧ (∃ xs, SqT K H1 a xs) ∧ R (Itt K a) H1
theorem qbw {l : Expr} {tl : TE} (hl : PE X l tl) : PI X tg l (qc1 X.K tl) := by
  intro pins s σ H R I h
  refine thn (hl pins s σ H _ I h) fun v s1 ⟨x, H1, I1, r1, q1⟩ => ?_
  obtain ⟨a, e, ⟨xs, hq⟩, q⟩ := q1
  subst e
  cases r1
  obtain ⟨its, rv, p, hz⟩ := I1.list hq
  refine wpAny_pyIter_list p.isList ?_
  refine ⟨s1.heap.objs.size, [s1.heap.objs.size], _, _, H1, rfl, I1.kept (t' := s1.toks) fun b o e => Heap.get?_push_of_some _ e, qlF a _, ⟨_, Heap.get?_push_size _ rfl, rfl, rfl⟩, fun b hb => ?_, q⟩
  have e : b = s1.heap.objs.size := by simpa using hb
  subst e
  exact I1.fpOk (Nat.le_refl _) (I1.hok.fresh (Nat.le_refl _))
theorem qlG {l : Expr} {tl : TE} (hl : PE X l tl) : PI X tg l (qpU X.K tl) := by
  intro pins s σ H R I h
  refine thn (hl pins s σ H _ I h) fun v s1 ⟨x, H1, I1, r1, q1⟩ => ?_
  obtain ⟨a, e, ⟨xs, hq⟩, q⟩ := q1
  subst e
  cases r1
  obtain ⟨its, rv, p, hz⟩ := I1.tuple hq
  refine wpAny_pyIter_tuple (show s1.heap.IsTuple a its.toArray from p) ?_
  refine ⟨s1.heap.objs.size, [s1.heap.objs.size], _, _, H1, rfl, I1.kept (t' := s1.toks) fun b o e => Heap.get?_push_of_some _ e, qk9 a _, ⟨_, Heap.get?_push_size _ rfl, rfl, rfl⟩, fun b hb => ?_, q⟩
  have e : b = s1.heap.objs.size := by simpa using hb
  subst e
  exact I1.fpOk (Nat.le_refl _) (I1.hok.fresh (Nat.le_refl _))
theorem qko {pins : List (Addr × Obj)} {σ : St} {H : Hp} {s : Shared} {R : It → Hp → Prop} {E : Value → Shared → Prop} {lo hi : Int} {t u v : Tok} {tk : Nat} (I : Inv X pins σ H s) (h1 : -(2 ^ 62) ≤ lo) (h2 : lo < 2 ^ 62) (h3 : -(2 ^ 62) ≤ hi) (h4 : hi < 2 ^ 62)
    (q : R (Itr lo (hi - lo).toNat) H) : wpAny (model X.prog X.w) X.A (pyIter (.ref s.heap.objs.size)) (PIE X pins σ tg R) E { s with heap := s.heap.push { cls := .type "range", data := .fields #[.int lo t, .int hi u, .int 1 v] }, toks := tk } := by
  refine wpAny_pyIter_range (IsRange.new ..) (small_one h1 h2 h3 h4) ?_
  have I1 : Inv X pins σ H { s with heap := s.heap.push { cls := .type "range", data := .fields #[.int lo t, .int hi u, .int 1 v] }, toks := tk } := I.kept fun b o e => Heap.get?_push_of_some _ e
  refine ⟨(s.heap.push { cls := .type "range", data := .fields #[.int lo t, .int hi u, .int 1 v] }).objs.size, [(s.heap.push { cls := .type "range", data := .fields #[.int lo t, .int hi u, .int 1 v] }).objs.size], _, _, H, rfl,
    I1.kept (t' := tk) fun b o e => Heap.get?_push_of_some _ e, qla _ lo (hi - lo).toNat, ?_, fun b hb => ?_, q⟩
  · have e1 : lo + ((0 : Nat) : Int) * 1 = lo := by simp
    have e2 : (((hi - lo).toNat : Nat) : Int) - ((0 : Nat) : Int) = Builtin.Range.rangeSize lo hi 1 := by rw [rangeSize_one]; split <;> omega
    show IsRangeIter _ _ (lo + ((0 : Nat) : Int) * 1) ((((hi - lo).toNat : Nat) : Int) - ((0 : Nat) : Int)) 1
    rw [e1, e2]
    exact Heap.get?_push_size _ rfl
  · have e : b = (s.heap.push { cls := .type "range", data := .fields #[.int lo t, .int hi u, .int 1 v] }).objs.size := by simpa using hb
    subst e
    exact I1.fpOk (Nat.le_refl _) (I1.hok.fresh (Nat.le_refl _))
noncomputable def qi1 (ta : TA) : TI := fun σ H R => ta σ H fun vs H1 => ∃ j : Int, vs = [.int j] ∧ -(2 ^ 62) ≤ j ∧ j < 2 ^ 62 ∧ R (Itr 0 j.toNat) H1
noncomputable def qnH (ta : TA) : TI := fun σ H R => ta σ H fun vs H1 => ∃ i j : Int, vs = [.int i, .int j] ∧ (-(2 ^ 62) ≤ i ∧ i < 2 ^ 62 ∧ -(2 ^ 62) ≤ j ∧ j < 2 ^ 62) ∧ R (Itr i (j - i).toNat) H1
theorem qdS {a : Expr} {ta : TA} {p pos : Pos} (hg : Gl X "range") (hm : X.mg "range" = none) (ha : PA X [a] ta) (hs : starEach [a] X.env = [(false, eval a X.env)] := by rfl) : PI X tg (.Call (.Name "range" p) [a] [] pos) (qi1 ta) := by
  intro pins s σ H R I h
  refine Call_ (qeU I hg hm boot_range (PyProof.Rows.callWith_type1 (thn (ha pos pins s σ H _ I h) fun us s1 ⟨vs, H1, I1, r1, q1⟩ => ?_) hs rfl))
  obtain ⟨j, e, q1, q2, q⟩ := q1
  subst e
  cases r1 with
  | cons r rr =>
    cases rr
    obtain ⟨t, rfl⟩ := r
    exact call_range_1 (qko I1 (by omega) (by omega) q1 q2 (by simpa using q))
theorem qlH {a b : Expr} {ta : TA} {p pos : Pos} (hg : Gl X "range") (hm : X.mg "range" = none) (ha : PA X [a, b] ta) (hs : starEach [a, b] X.env = [(false, eval a X.env), (false, eval b X.env)] := by rfl) (hs2 : starEach [b] X.env = [(false, eval b X.env)] := by rfl) :
    PI X tg (.Call (.Name "range" p) [a, b] [] pos) (qnH ta) := by
  intro pins s σ H R I h
  refine Call_ (qeU I hg hm boot_range (PyProof.Rows.callWith_type1 (thn (ha pos pins s σ H _ I h) fun us s1 ⟨vs, H1, I1, r1, q1⟩ => ?_) (by rw [hs, hs2]) (by rw [hs2]; rfl)))
  obtain ⟨i, j, e, ⟨q1, q2, q3, q4⟩, q⟩ := q1
  subst e
  cases r1 with
  | cons r rr =>
    cases rr with
    | cons r' rr =>
      cases rr
      obtain ⟨t, rfl⟩ := r
      obtain ⟨t', rfl⟩ := r'
      exact call_range_2 (qko I1 q1 q2 q3 q4 q)
noncomputable def qf8 (wi : TI) (g : TG) (tb : TS) : TS := fun D σ H => wi σ H fun J H1 => ∃ W : Nat → Nat → St → Hp → Prop, (∃ m, W 0 m σ H1) ∧ ∀ i m σ H, W i m σ H →
  (J.stop i H ∧ D.nx σ H) ∨ (J.go i H ∧ ∃ N : St → Hp → Prop, (∀ σ' H', N σ' H' → ∃ m', m' < m ∧ W (i + 1) m' σ' H') ∧ ∀ x H', J.yld i H x H' → g x σ H' fun σ2 H2 => tb { D with nx := N, ct := N, bk := D.nx } σ2 H2)
noncomputable def qkp (fp : List Addr) (h : Heap) : List (Addr × Obj) := fp.filterMap fun b => (h.get? b).map fun o => (b, o)
theorem qdd {fp : List Addr} {h : Heap} {b : Addr} {o : Obj} (hb : b ∈ fp) (e : h.get? b = some o) : (b, o) ∈ qkp fp h := List.mem_filterMap.mpr ⟨b, hb, by rw [e]; rfl⟩
theorem qlI {fp : List Addr} {h : Heap} {p : Addr × Obj} (hp : p ∈ qkp fp h) : p.1 ∈ fp ∧ h.get? p.1 = some p.2 := by
  obtain ⟨b, hb, e⟩ := List.mem_filterMap.mp hp
  cases q : h.get? b with
  | none => rw [q] at e; cases e
  | some o =>
    rw [q] at e
    have e' : (b, o) = p := Option.some.inj e
    subst e'
    exact ⟨hb, q⟩
theorem Inv.pinned {pins : List (Addr × Obj)} {σ : St} {H : Hp} {s : Shared} {fp : List Addr} (I : Inv X pins σ H s) (hf : ∀ b ∈ fp, qjO X pins H b) (ho : ∀ b ∈ fp, ∃ o, s.heap.get? b = some o ∧ ∀ v, o.data ≠ .cell v) : Inv X (pins ++ qkp fp s.heap) σ H s :=
  I.pins_of fun p hp => (List.mem_append.mp hp).elim (fun z => I.pin p (List.mem_append_right _ z)) fun z => by
    obtain ⟨hb, e⟩ := qlI z
    obtain ⟨f0, f1, f2, _⟩ := hf p.1 hb
    obtain ⟨o, e', d⟩ := ho p.1 hb
    rw [e] at e'; cases e'
    exact ⟨e, f0, f1, f2, d⟩
theorem Inv.unpinned {pins pl : List (Addr × Obj)} {σ : St} {H : Hp} {s : Shared} (I : Inv X (pins ++ pl) σ H s) : Inv X pins σ H s := I.pins_of fun p hp => I.pin p (List.mem_append_right _ (List.mem_append_left _ hp))
theorem qcq {iter : Expr} {body : List Stmt} {wi : TI} {g : TG} {tb : TS} {pos : Pos} (hp : PassesOwn (model X.prog X.w) X.A X.env X.xe) (hc : X.calm = true) (hi : PI X tg iter wi) (hg : PG X tg g) (hb : PSs X body tb)
    (hs : ∀ x, foldedSetIterable iter X.env x = pure x := by intro _; rfl) : PS X (.For tg iter body [] pos) (qf8 wi g tb) := by
  intro pins s σ H D I h
  refine wpAny_For (thn (hi pins s σ H _ I h) fun v s1 h1 => thn h1 fun itv s2 h2 => ?_) hs
  obtain ⟨it, fp, tn, J, H2, e, I2, T, st2, f2, W, ⟨m0, w0⟩, turn⟩ := h2
  subst e
  have stat : ∀ {H' : Hp}, (∀ b ∈ fp, H' b = none) → ∀ b ∈ fp, qjO X pins H' b := fun hn b hb => ⟨hn b hb, (f2 b hb).2⟩
  refine codeAny_forLoop_any (fun n s' => ∃ i σ' H', Inv X pins σ' H' s' ∧ tn i s'.heap ∧ (∀ b ∈ fp, H' b = none) ∧ W i n σ' H') ?_ m0 ⟨0, σ, H2, I2, st2, fun b hb => (f2 b hb).1, w0⟩
  rintro n s3 ⟨i, σ3, H3, I3, st3, fr3, w3⟩
  rcases turn i n σ3 H3 w3 with ⟨stop, qn⟩ | ⟨go, N, hN, step⟩
  · refine wpAny_passesOwn hp (thn (T.done X rfl rfl rfl hc i pins s3 σ3 H3 X.xe I3 (stat fr3) st3 stop) fun r s4 ⟨hr, I4⟩ => ?_)
    subst hr
    exact wpAny_execs_nil ⟨σ3, H3, I4, qn⟩
  · refine wpAny_passesOwn hp (thn (T.item X rfl rfl rfl hc i pins s3 σ3 H3 X.xe I3 (stat fr3) st3 go) fun r s4 ⟨u, hr, h4⟩ => ?_)
    subst hr
    refine wpAny_passesOwn hp (thn h4 fun _ s5 ⟨x, H5, I5, r5, y5, st5, fr5⟩ => ?_)
    have I5' := I5.pinned (stat fr5) (T.obj _ _ st5)
    refine wpAny_passesOwn hp (thn (hg _ s5 σ3 H5 x u _ I5' r5 (step x H5 y5)) fun _ s6 ⟨σ6, H6, I6, q6⟩ => ?_)
    refine wpAny_passesOwn hp (thn (hb _ s6 σ6 H6 _ I6 q6) fun f s7 q7 => ?_)
    have again : ∀ {σ7 : St} {H7 : Hp}, Inv X (pins ++ qkp fp s5.heap) σ7 H7 s7 → N σ7 H7 → ∃ m, m < n ∧ ∃ i σ' H', Inv X pins σ' H' s7 ∧ tn i s7.heap ∧ (∀ b ∈ fp, H' b = none) ∧ W i m σ' H' := fun {σ7 H7} I7 n7 => by
      obtain ⟨m', hm, w7⟩ := hN σ7 H7 n7
      refine ⟨m', hm, i + 1, σ7, H7, I7.unpinned, T.keep _ _ _ st5 fun b hb o e => (I7.pin (b, o) (List.mem_append_right _ (List.mem_append_right _ (qdd hb e)))).1, fun b hb => ?_, w7⟩
      obtain ⟨o, e, d⟩ := T.obj _ _ st5 b hb
      exact (I7.pin (b, o) (List.mem_append_right _ (List.mem_append_right _ (qdd hb e)))).2.1
    cases f with
    | next => obtain ⟨σ7, H7, I7, n7⟩ := q7; exact again I7 n7
    | cont => obtain ⟨σ7, H7, I7, n7⟩ := q7; exact again I7 n7
    | brk => obtain ⟨σ7, H7, I7, q7⟩ := q7; exact ⟨σ7, H7, I7.unpinned, q7⟩
    | ret v => obtain ⟨x7, σ7, H7, I7, r7, q7⟩ := q7; exact ⟨x7, σ7, H7, I7.unpinned, r7, q7⟩
end
theorem qnI {K : PySem.W.Frag} {a : Addr} {xs : List V} {g : TG} {tb : TS} {D : Ends} {σ : St} {H : Hp} (Pv : Nat → St → Hp → Prop) (h0 : Pv 0 σ H) (hl : ∀ i σ H, i ≤ xs.length → Pv i σ H → SqL K H a xs)
    (hs : ∀ i x σ H, xs[i]? = some x → Pv i σ H → g x σ H fun σ2 H2 => tb { D with nx := Pv (i + 1), ct := Pv (i + 1), bk := D.nx } σ2 H2) (hd : ∀ σ H, Pv xs.length σ H → D.nx σ H) :
    ∃ W : Nat → Nat → St → Hp → Prop, (∃ m, W 0 m σ H) ∧ ∀ i m σ H, W i m σ H →
      ((Itl K a).stop i H ∧ D.nx σ H) ∨ ((Itl K a).go i H ∧ ∃ N : St → Hp → Prop, (∀ σ' H', N σ' H' → ∃ m', m' < m ∧ W (i + 1) m' σ' H') ∧ ∀ x H', (Itl K a).yld i H x H' → g x σ H' fun σ2 H2 => tb { D with nx := N, ct := N, bk := D.nx } σ2 H2) := by
  refine ⟨fun i m σ H => m = xs.length - i ∧ i ≤ xs.length ∧ Pv i σ H, ⟨xs.length, by simp, Nat.zero_le _, h0⟩, ?_⟩
  rintro i m σ H ⟨rfl, hi, p⟩
  have q := hl i σ H hi p
  by_cases hlt : i < xs.length
  · refine .inr ⟨⟨xs, xs[i], q, by simp [hlt]⟩, Pv (i + 1), fun σ' H' p' => ⟨xs.length - (i + 1), by omega, rfl, hlt, p'⟩, fun x H' y => ?_⟩
    obtain ⟨e, y⟩ := y
    subst e
    exact hs i x σ _ (y xs q) p
  · have e : i = xs.length := by omega
    subst e
    exact .inl ⟨⟨xs, q, Nat.le_refl _⟩, hd σ H p⟩
theorem qlJ {K : PySem.W.Frag} {a : Addr} {xs : List V} {g : TG} {tb : TS} {D : Ends} {σ : St} {H : Hp} (Pv : Nat → St → Hp → Prop) (h0 : Pv 0 σ H) (hl : ∀ i σ H, i ≤ xs.length → Pv i σ H → SqT K H a xs)
    (hs : ∀ i x σ H, xs[i]? = some x → Pv i σ H → g x σ H fun σ2 H2 => tb { D with nx := Pv (i + 1), ct := Pv (i + 1), bk := D.nx } σ2 H2) (hd : ∀ σ H, Pv xs.length σ H → D.nx σ H) :
    ∃ W : Nat → Nat → St → Hp → Prop, (∃ m, W 0 m σ H) ∧ ∀ i m σ H, W i m σ H →
      ((Itt K a).stop i H ∧ D.nx σ H) ∨ ((Itt K a).go i H ∧ ∃ N : St → Hp → Prop, (∀ σ' H', N σ' H' → ∃ m', m' < m ∧ W (i + 1) m' σ' H') ∧ ∀ x H', (Itt K a).yld i H x H' → g x σ H' fun σ2 H2 => tb { D with nx := N, ct := N, bk := D.nx } σ2 H2) := by
  refine ⟨fun i m σ H => m = xs.length - i ∧ i ≤ xs.length ∧ Pv i σ H, ⟨xs.length, by simp, Nat.zero_le _, h0⟩, ?_⟩
  rintro i m σ H ⟨rfl, hi, p⟩
  have q := hl i σ H hi p
  by_cases hlt : i < xs.length
  · refine .inr ⟨⟨xs, xs[i], q, by simp [hlt]⟩, Pv (i + 1), fun σ' H' p' => ⟨xs.length - (i + 1), by omega, rfl, hlt, p'⟩, fun x H' y => ?_⟩
    obtain ⟨e, y⟩ := y
    subst e
    exact hs i x σ _ (y xs q) p
  · have e : i = xs.length := by omega
    subst e
    exact .inl ⟨⟨xs, q, Nat.le_refl _⟩, hd σ H p⟩
theorem qlK {lo : Int} {n : Nat} {g : TG} {tb : TS} {D : Ends} {σ : St} {H : Hp} (Pv : Nat → St → Hp → Prop) (h0 : Pv 0 σ H)
    (hs : ∀ i σ H, i < n → Pv i σ H → g (.int (lo + i)) σ H fun σ2 H2 => tb { D with nx := Pv (i + 1), ct := Pv (i + 1), bk := D.nx } σ2 H2) (hd : ∀ σ H, Pv n σ H → D.nx σ H) :
    ∃ W : Nat → Nat → St → Hp → Prop, (∃ m, W 0 m σ H) ∧ ∀ i m σ H, W i m σ H →
      ((Itr lo n).stop i H ∧ D.nx σ H) ∨ ((Itr lo n).go i H ∧ ∃ N : St → Hp → Prop, (∀ σ' H', N σ' H' → ∃ m', m' < m ∧ W (i + 1) m' σ' H') ∧ ∀ x H', (Itr lo n).yld i H x H' → g x σ H' fun σ2 H2 => tb { D with nx := N, ct := N, bk := D.nx } σ2 H2) := by
  refine ⟨fun i m σ H => m = n - i ∧ i ≤ n ∧ Pv i σ H, ⟨n, by simp, Nat.zero_le _, h0⟩, ?_⟩
  rintro i m σ H ⟨rfl, hi, p⟩
  by_cases hlt : i < n
  · refine .inr ⟨hlt, Pv (i + 1), fun σ' H' p' => ⟨n - (i + 1), by omega, rfl, hlt, p'⟩, fun x H' y => ?_⟩
    obtain ⟨e, y⟩ := y
    subst e y
    exact hs i σ _ hlt p
  · have e : i = n := by omega
    subst e
    exact .inl ⟨Nat.le_refl _, hd σ H p⟩
theorem while_by {c : TT} {tb : TS} {D : Ends} {σ : St} {H : Hp} (Pv : St → Hp → Prop) (μ : St → Hp → Nat) (h0 : Pv σ H)
    (hs : ∀ σ H, Pv σ H → c σ H fun b H1 => if b = true then tb { D with nx := fun σ' H' => Pv σ' H' ∧ μ σ' H' < μ σ H, ct := fun σ' H' => Pv σ' H' ∧ μ σ' H' < μ σ H, bk := D.nx } σ H1 else D.nx σ H1)
    (mono : ∀ σ H Q Q', (∀ b H1, Q b H1 → Q' b H1) → c σ H Q → c σ H Q') : qcN c tb D σ H := by
  refine ⟨fun m σ H => m = μ σ H ∧ Pv σ H, ⟨_, rfl, h0⟩, ?_⟩
  rintro m σ H ⟨rfl, p⟩
  refine mono σ H _ _ (fun b H1 q => ?_) (hs σ H p)
  cases b with
  | true => exact ⟨_, fun σ' H' ⟨p', l⟩ => ⟨_, l, rfl, p'⟩, q⟩
  | false => exact q
end L2
namespace L2
open PySem PySem.Spec PyProof.Rows
noncomputable abbrev R2 := V → V → Hp → VK → Prop
noncomputable def OpR (X : Cx) (f : Value → Value → Sem Value) (r : R2) : Prop :=
  ∀ (pins : List (Addr × Obj)) (s : Shared) (σ : St) (H : Hp) (x y : V) (v u : Value) (Q : VK), Inv X pins σ H s → RelV x v → RelV y u → r x y H Q →
    wpAny (model X.prog X.w) X.A (f v u) (EP X pins σ Q) X.xe s
noncomputable def UnR (X : Cx) (f : Value → Sem Value) (r : V → Hp → VK → Prop) : Prop :=
  ∀ (pins : List (Addr × Obj)) (s : Shared) (σ : St) (H : Hp) (x : V) (v : Value) (Q : VK), Inv X pins σ H s → RelV x v → r x H Q →
    wpAny (model X.prog X.w) X.A (f v) (EP X pins σ Q) X.xe s
noncomputable def qdT (X : Cx) (f : Value) (r : List V → Hp → VK → Prop) : Prop :=
  ∀ (pins : List (Addr × Obj)) (s : Shared) (σ : St) (H : Hp) (xs : List V) (us : List Value) (Q : VK), Inv X pins σ H s → Vals xs us → r xs H Q →
    wpAny (model X.prog X.w) X.A (call f us) (EP X pins σ Q) X.xe s
noncomputable def qsd (X : Cx) (r : V → Hp → (Bool → Hp → Prop) → Prop) : Prop :=
  ∀ (pins : List (Addr × Obj)) (s : Shared) (σ : St) (H : Hp) (x : V) (v : Value) (Q : Bool → Hp → Prop), Inv X pins σ H s → RelV x v → r x H Q →
    wpAny (model X.prog X.w) X.A (truthy v) (TP X pins σ Q) X.xe s
noncomputable def tOp (r : R2) (ta tb : TE) : TE := fun σ H Q => ta σ H fun x H1 => tb σ H1 fun y H2 => r x y H2 Q
noncomputable def tUn (r : V → Hp → VK → Prop) (ta : TE) : TE := fun σ H Q => ta σ H fun x H1 => r x H1 Q
noncomputable def rI (C : Int → Int → Prop) (g : Int → Int → V) : R2 := fun x y H Q => ∃ i j, x = .int i ∧ y = .int j ∧ C i j ∧ Q (g i j) H
noncomputable def rI0 (g : Int → Int → V) : R2 := fun x y H Q => ∃ i j, x = .int i ∧ y = .int j ∧ Q (g i j) H
noncomputable def rU (g : Int → V) : V → Hp → VK → Prop := fun x H Q => ∃ i, x = .int i ∧ Q (g i) H
section
variable {X : Cx} {a b c : Expr} {ta tb tc : TE} {pos : Pos}
theorem qrx (ha : PE X a ta) (hb : PE X b tb) {pins : List (Addr × Obj)} {s : Shared} {σ : St} {H : Hp} {R : V → V → Hp → Prop} (I : Inv X pins σ H s)
    (h : ta σ H fun x H1 => tb σ H1 fun y H2 => R x y H2) {Q : Value → Shared → Prop} {f : Value → Value → Sem Value}
    (hf : ∀ v u s2 x y H2, Inv X pins σ H2 s2 → RelV x v → RelV y u → R x y H2 → wpAny (model X.prog X.w) X.A (f v u) Q X.xe s2) :
    wpAny (model X.prog X.w) X.A (eval a X.env) (fun v s₁ => wpAny (model X.prog X.w) X.A (eval b X.env) (fun u s₂ => wpAny (model X.prog X.w) X.A (f v u) Q X.xe s₂) X.xe s₁) X.xe s := by
  refine thn (ha pins s σ H _ I h) fun v s1 ⟨x, H1, I1, r1, q1⟩ => ?_
  refine thn (hb pins s1 σ H1 _ I1 q1) fun u s2 ⟨y, H2, I2, r2, q2⟩ => ?_
  exact hf v u s2 x y H2 I2 r1 r2 q2
theorem qao {op : Operator} {r : R2} (ho : OpR X (binaryOp op) r) (ha : PE X a ta) (hb : PE X b tb) : PE X (.BinOp a op b pos) (tOp r ta tb) := by
  intro pins s σ H Q I h
  exact wpAny_BinOp (qrx ha hb I h fun v u s2 x y H2 I2 rx ry q => ho pins s2 σ H2 x y v u Q I2 rx ry q)
theorem qdj {op : UnaryOp} {r : V → Hp → VK → Prop} (ho : UnR X (unaryOp op) r) (ha : PE X a ta) : PE X (.UnaryOp op a pos) (tUn r ta) := by
  intro pins s σ H Q I h
  exact UnaryOp_ (thn (ha pins s σ H _ I h) fun v s1 ⟨x, H1, I1, r1, q1⟩ => ho pins s1 σ H1 x v Q I1 r1 q1)
theorem opI {f : Value → Value → Sem Value} {C : Int → Int → Prop} {g : Int → Int → Int}
    (rule : ∀ (i j : Int) (t u : Tok) (s : Shared) (Q : Value → Shared → Prop) (E : Value → Shared → Prop), C i j → Q (.int (g i j) s.toks) { s with toks := s.toks + 1 } → wpAny (model X.prog X.w) X.A (f (.int i t) (.int j u)) Q E s) :
    OpR X f (rI C fun i j => .int (g i j)) := by
  intro pins s σ H x y v u Q I rx ry h
  obtain ⟨i, j, rfl, rfl, hc, q⟩ := h
  obtain ⟨t, rfl⟩ := rx
  obtain ⟨t', rfl⟩ := ry
  exact rule i j t t' s _ _ hc ⟨.int (g i j), H, I.tok _, ⟨_, rfl⟩, q⟩
theorem qry {f : Value → Value → Sem Value} {g : Int → Int → Int}
    (rule : ∀ (i j : Int) (t u : Tok) (s : Shared) (Q : Value → Shared → Prop) (E : Value → Shared → Prop), Q (.int (g i j) s.toks) { s with toks := s.toks + 1 } → wpAny (model X.prog X.w) X.A (f (.int i t) (.int j u)) Q E s) :
    OpR X f (rI0 fun i j => .int (g i j)) := by
  intro pins s σ H x y v u Q I rx ry h
  obtain ⟨i, j, rfl, rfl, q⟩ := h
  obtain ⟨t, rfl⟩ := rx
  obtain ⟨t', rfl⟩ := ry
  exact rule i j t t' s _ _ ⟨.int (g i j), H, I.tok _, ⟨_, rfl⟩, q⟩
theorem qrz {f : Value → Value → Sem Value} {g : Int → Int → Bool}
    (rule : ∀ (i j : Int) (t u : Tok) (s : Shared) (Q : Value → Shared → Prop) (E : Value → Shared → Prop), Q (.bool (g i j)) s → wpAny (model X.prog X.w) X.A (f (.int i t) (.int j u)) Q E s) :
    OpR X f (rI0 fun i j => .bl (g i j)) := by
  intro pins s σ H x y v u Q I rx ry h
  obtain ⟨i, j, rfl, rfl, q⟩ := h
  obtain ⟨t, rfl⟩ := rx
  obtain ⟨t', rfl⟩ := ry
  exact rule i j t t' s _ _ ⟨.bl (g i j), H, I, rfl, q⟩
noncomputable def CMul (i j : Int) : Prop := (-(2 ^ 64) < i ∧ i < 2 ^ 64) ∨ (-(2 ^ 64) < j ∧ j < 2 ^ 64)
theorem CMul.ok {i j : Int} (h : CMul i j) : IntMulOk i j := by
  rcases h with ⟨h1, h2⟩ | ⟨h1, h2⟩
  · exact .of_left (intBits_le_64 h1 h2)
  · exact .of_right (intBits_le_64 h1 h2)
theorem qbe : OpR X (binaryOp .Add) (rI0 fun i j => .int (i + j)) := qry fun _ _ _ _ _ _ _ q => add_int q
theorem qbg : OpR X (binaryOp .Sub) (rI0 fun i j => .int (i - j)) := qry fun _ _ _ _ _ _ _ q => sub_int q
theorem qb5 : OpR X (binaryOp .Mod) (rI (fun _ j => 0 < j) fun i j => .int (i % j)) := opI fun i j _ _ _ _ _ hc q => by
  have h1 : (0 : Int) < j := hc
  exact mod_int' (by omega) (by rw [Int.fmod_eq_emod_of_nonneg i (by omega)]; exact q)
theorem qo0 : OpR X (binaryOp .Mod) (rI (fun _ j => j ≠ 0) fun i j => .int (i.fmod j)) := opI fun _ _ _ _ _ _ _ hc q => mod_int' hc q
theorem qgl : OpR X (inplaceOp .Sub) (rI0 fun i j => .int (i - j)) := qry fun _ _ _ _ _ _ _ q => isub_int q
theorem unI {f : Value → Sem Value} {g : Int → Int}
    (rule : ∀ (i : Int) (t : Tok) (s : Shared) (Q : Value → Shared → Prop) (E : Value → Shared → Prop), Q (.int (g i) s.toks) { s with toks := s.toks + 1 } → wpAny (model X.prog X.w) X.A (f (.int i t)) Q E s) :
    UnR X f (rU fun i => .int (g i)) := by
  intro pins s σ H x v Q I rx h
  obtain ⟨i, rfl, q⟩ := h
  obtain ⟨t, rfl⟩ := rx
  exact rule i t s _ _ ⟨.int (g i), H, I.tok _, ⟨_, rfl⟩, q⟩
theorem qbK : UnR X (unaryOp .USub) (rU fun i => .int (-i)) := unI fun _ _ _ _ _ q => neg_int q
end
noncomputable def scal : V → V → Bool
  | .non, .non => true | .non, .int _ => true | .int _, .non => true | .non, .bl _ => true | .bl _, .non => true | .non, .str _ => true | .str _, .non => true
  | .int _, .int _ => true | .bl _, .bl _ => true | .str _, .str _ => true | .byt _, .byt _ => true
  | .int _, .str _ => true | .str _, .int _ => true | .bl _, .str _ => true | .str _, .bl _ => true
  | _, _ => false
noncomputable def rEq : R2 := fun x y H Q => scal x y = true ∧ Q (.bl (decide (x = y))) H
noncomputable def rNe : R2 := fun x y H Q => scal x y = true ∧ Q (.bl (!decide (x = y))) H
theorem qlL {i j : Int} : decide (V.int i = V.int j) = (i == j) := by
  rw [Bool.eq_iff_iff]
  simp
theorem qov {i j : Bool} : decide (V.bl i = V.bl j) = (i == j) := by
  rw [Bool.eq_iff_iff]
  simp
theorem qlM {i j : Str} : decide (V.str i = V.str j) = (i == j) := by
  rw [Bool.eq_iff_iff]
  simp
theorem qlN {i j : Array UInt8} : decide (V.byt i = V.byt j) = (i.toList == j.toList) := by
  rw [Bool.eq_iff_iff]
  cases i
  cases j
  simp
section
variable {X : Cx} {a b c : Expr} {ta tb tc : TE} {pos : Pos}
theorem qa3 {pins : List (Addr × Obj)} {σ : St} {H : Hp} {s : Shared} {Q : VK} {k k' : Bool} (I : Inv X pins σ H s) (q : Q (.bl k) H) (e : k = k') : EP X pins σ Q (.bool k') s := by
  subst e
  exact ⟨.bl k, H, I, rfl, q⟩
theorem qg9 : OpR X (compareOp .Eq) rEq := by
  intro pins s σ H x y v u Q I rx ry h
  obtain ⟨hs, q⟩ := h
  cases x with
  | non =>
    cases rx
    cases y with
    | non => cases ry; exact PySem.EqNone.eq_none_none (qa3 I q (by simp))
    | bl j => cases ry; exact PySem.EqNone.eq_none_bool (qa3 I q (by simp))
    | int j => obtain ⟨t', rfl⟩ := ry; exact PySem.EqNone.eq_none_int (qa3 I q (by simp))
    | str j => obtain ⟨t', rfl⟩ := ry; exact PySem.EqNone.eq_none_str (qa3 I q (by simp))
    | _ => exact absurd (show false = true from hs) Bool.false_ne_true
  | bl i =>
    cases rx
    cases y with
    | non => cases ry; exact PySem.EqNone.eq_bool_none (qa3 I q (by simp))
    | bl j => cases ry; exact eq_bool (qa3 I q qov)
    | str j => obtain ⟨t', rfl⟩ := ry; exact PySem.EqMixed.eq_bool_str (qa3 I q (by simp))
    | _ => exact absurd (show false = true from hs) Bool.false_ne_true
  | int i =>
    obtain ⟨t, rfl⟩ := rx
    cases y with
    | non => cases ry; exact PySem.EqNone.eq_int_none (qa3 I q (by simp))
    | int j => obtain ⟨t', rfl⟩ := ry; exact eq_int (qa3 I q qlL)
    | str j => obtain ⟨t', rfl⟩ := ry; exact PySem.EqMixed.eq_int_str (qa3 I q (by simp))
    | _ => exact absurd (show false = true from hs) Bool.false_ne_true
  | str i =>
    obtain ⟨t, rfl⟩ := rx
    cases y with
    | non => cases ry; exact PySem.EqNone.eq_str_none (qa3 I q (by simp))
    | bl j => cases ry; exact PySem.EqMixed.eq_str_bool (qa3 I q (by simp))
    | int j => obtain ⟨t', rfl⟩ := ry; exact PySem.EqMixed.eq_str_int (qa3 I q (by simp))
    | str j => obtain ⟨t', rfl⟩ := ry; exact eq_str (qa3 I q qlM)
    | _ => exact absurd (show false = true from hs) Bool.false_ne_true
  | byt i =>
    obtain ⟨t, rfl⟩ := rx
    cases y with
    | byt j => obtain ⟨t', rfl⟩ := ry; exact PySem.W.eq_bytes (qa3 I q qlN)
    | _ => exact absurd (show false = true from hs) Bool.false_ne_true
  | _ => cases y <;> exact absurd (show false = true from hs) Bool.false_ne_true
theorem qlb : OpR X (compareOp .NotEq) rNe := by
  intro pins s σ H x y v u Q I rx ry h
  obtain ⟨hs, q⟩ := h
  cases x with
  | non =>
    cases rx
    cases y with
    | non => cases ry; exact PySem.EqNone.ne_none_none (qa3 I q (by simp))
    | bl j => cases ry; exact PySem.EqNone.ne_none_bool (qa3 I q (by simp))
    | int j => obtain ⟨t', rfl⟩ := ry; exact PySem.EqNone.ne_none_int (qa3 I q (by simp))
    | str j => obtain ⟨t', rfl⟩ := ry; exact PySem.EqNone.ne_none_str (qa3 I q (by simp))
    | _ => exact absurd (show false = true from hs) Bool.false_ne_true
  | bl i =>
    cases rx
    cases y with
    | non => cases ry; exact PySem.EqNone.ne_bool_none (qa3 I q (by simp))
    | bl j => cases ry; exact ne_bool (qa3 I q (congrArg not qov))
    | str j => obtain ⟨t', rfl⟩ := ry; exact PySem.EqMixed.ne_bool_str (qa3 I q (by simp))
    | _ => exact absurd (show false = true from hs) Bool.false_ne_true
  | int i =>
    obtain ⟨t, rfl⟩ := rx
    cases y with
    | non => cases ry; exact PySem.EqNone.ne_int_none (qa3 I q (by simp))
    | int j => obtain ⟨t', rfl⟩ := ry; exact ne_int (qa3 I q (congrArg not qlL))
    | str j => obtain ⟨t', rfl⟩ := ry; exact PySem.EqMixed.ne_int_str (qa3 I q (by simp))
    | _ => exact absurd (show false = true from hs) Bool.false_ne_true
  | str i =>
    obtain ⟨t, rfl⟩ := rx
    cases y with
    | non => cases ry; exact PySem.EqNone.ne_str_none (qa3 I q (by simp))
    | bl j => cases ry; exact PySem.EqMixed.ne_str_bool (qa3 I q (by simp))
    | int j => obtain ⟨t', rfl⟩ := ry; exact PySem.EqMixed.ne_str_int (qa3 I q (by simp))
    | str j => obtain ⟨t', rfl⟩ := ry; exact ne_str (qa3 I q (congrArg not qlM))
    | _ => exact absurd (show false = true from hs) Bool.false_ne_true
  | byt i =>
    obtain ⟨t, rfl⟩ := rx
    cases y with
    | byt j => obtain ⟨t', rfl⟩ := ry; exact PySem.W.ne_bytes (qa3 I q (congrArg not qlN))
    | _ => exact absurd (show false = true from hs) Bool.false_ne_true
  | _ => cases y <;> exact absurd (show false = true from hs) Bool.false_ne_true
theorem qlO : OpR X (compareOp .Lt) (rI0 fun i j => .bl (decide (i < j))) := qrz fun _ _ _ _ _ _ _ q => lt_int q
theorem qha : OpR X (compareOp .Gt) (rI0 fun i j => .bl (decide (j < i))) := qrz fun _ _ _ _ _ _ _ q => gt_int q
theorem qrA : OpR X (compareOp .GtE) (rI0 fun i j => .bl (decide (j ≤ i))) := qrz fun _ _ _ _ _ _ _ q => ge_int q
theorem qow : OpR X (compareOp .Is) (fun x y H Q => y = .non ∧ Q (.bl (decide (x = .non))) H) := by
  intro pins s σ H x y v u Q I rx ry h
  obtain ⟨rfl, q⟩ := h
  cases ry
  refine is_none_gen (qa3 I q ?_)
  cases x <;> first
    | (cases rx; rfl)
    | (obtain ⟨t, rfl⟩ := rx; rfl)
theorem qo1 : OpR X (compareOp .IsNot) (fun x y H Q => y = .non ∧ Q (.bl (!decide (x = .non))) H) := by
  intro pins s σ H x y v u Q I rx ry h
  obtain ⟨rfl, q⟩ := h
  cases ry
  refine isnot_none_gen (qa3 I q ?_)
  cases x <;> first
    | (cases rx; rfl)
    | (obtain ⟨t, rfl⟩ := rx; rfl)
theorem nomark (b : Expr) {op : CmpOp} (h : op ≠ .In := by decide) (h2 : op ≠ .NotIn := by decide) : behindInMarks op b = false := by
  have e1 : (op == CmpOp.In) = false := by cases op <;> first | rfl | exact absurd rfl h
  have e2 : (op == CmpOp.NotIn) = false := by cases op <;> first | rfl | exact absurd rfl h2
  cases b <;> simp [behindInMarks, e1, e2]
theorem qlP {op : CmpOp} {r : R2} (ho : OpR X (compareOp op) r) (ha : PE X a ta) (hb : PE X b tb) (hm : behindInMarks op b = false) : PE X (.Compare a [op] [b] pos) (tOp r ta tb) := by
  intro pins s σ H Q I h
  exact wpAny_Compare1 (qrx ha hb I h fun v u s2 x y H2 I2 rx ry q => ho pins s2 σ H2 x y v u Q I2 rx ry q) hm
noncomputable def qbi (t : TE) : TT := fun σ H Q => t σ H fun x H' => ∃ k, x = .bl k ∧ Q k H'
theorem qaG {op : CmpOp} {r : R2} (ho : OpR X (compareOp op) r) (ha : PE X a ta) (hb : PE X b tb) (hm : behindInMarks op b = false) : PT X (.Compare a [op] [b] pos) (qbi (tOp r ta tb)) := by
  intro pins s σ H Q I h
  refine wpAny_isTrue_Compare1 (thn (ha pins s σ H _ I h) fun v s1 ⟨x, H1, I1, r1, q1⟩ => thn (hb pins s1 σ H1 _ I1 q1) fun u s2 ⟨y, H2, I2, r2, q2⟩ =>
    thn (ho pins s2 σ H2 x y v u _ I2 r1 r2 q2) fun c s3 ⟨z, H3, I3, r3, k, e, q3⟩ => ?_) hm
  subst e
  cases r3
  exact wpAny_truthy_bool ⟨H3, I3, q3⟩
noncomputable def qox (r r' : R2) (ta tb tc : TE) : TE := fun σ H Q => ta σ H fun x H1 => tb σ H1 fun y H2 => r x y H2 fun z H3 => ∃ k, z = .bl k ∧
  (if k = true then tc σ H3 fun w' H4 => r' y w' H4 Q else Q (.bl false) H3)
noncomputable def qse (K : PySem.W.Frag) (x : V) (H : Hp) (k : Bool) : Prop :=
  match x with
  | .non => k = false
  | .bl b => k = b
  | .int i => k = (i != 0)
  | .str y => y.length ≤ sizeLine ∧ k = ((y.length : Int) != 0)
  | .byt y => y.size ≤ sizeLine ∧ k = ((y.size : Int) != 0)
  | .ref p => (∃ xs, SqL K H p xs ∧ k = !xs.isEmpty) ∨ (∃ xs, SqT K H p xs ∧ k = !xs.isEmpty) ∨ ∃ kvs, H p = some (.dK kvs) ∧ k = !kvs.isEmpty
  | _ => False
theorem qlc {κ : Type} {kvs : List (κ × V)} {vs : List (κ × Value)} (r : KV kvs vs) : (!vs.isEmpty) = !kvs.isEmpty := by
  cases r <;> rfl
theorem qhv {xs : List V} {its : List Value} (r : Vals xs its) : (!its.toArray.isEmpty) = !xs.isEmpty := by
  cases r <;> simp
theorem qhw : (sizeLine : Nat) < 2 ^ 63 := by rw [sizeLine_eq]; decide
theorem qqe : qsd X (fun x H Q => ∃ k, qse X.K x H k ∧ Q k H) := by
  intro pins s σ H x v Q I rx h
  obtain ⟨k, e, q⟩ := h
  have hl := qhw
  have hs : sizeLine = 16777216 := sizeLine_eq
  cases x with
  | non =>
    cases rx
    have e' : k = false := e
    subst e'
    exact truthy_none ⟨H, I, q⟩
  | bl b =>
    cases rx
    have e' : k = b := e
    subst e'
    exact wpAny_truthy_bool ⟨H, I, q⟩
  | int i =>
    obtain ⟨t, rfl⟩ := rx
    have e' : k = (i != 0) := e
    subst e'
    exact PySem.P.truthy_int ⟨H, I, q⟩
  | str y =>
    obtain ⟨t, rfl⟩ := rx
    obtain ⟨hy, e'⟩ : y.length ≤ sizeLine ∧ k = ((y.length : Int) != 0) := e
    subst e'
    exact PySem.P.truthy_str (by omega) ⟨H, I.tok _, q⟩
  | byt y =>
    obtain ⟨t, rfl⟩ := rx
    obtain ⟨hy, e'⟩ : y.size ≤ sizeLine ∧ k = ((y.size : Int) != 0) := e
    subst e'
    exact PySem.W.truthy_bytes (by omega) ⟨H, I.tok _, q⟩
  | ref p =>
    cases rx
    have e' : (∃ xs, SqL X.K H p xs ∧ k = !xs.isEmpty) ∨ (∃ xs, SqT X.K H p xs ∧ k = !xs.isEmpty) ∨ ∃ kvs, H p = some (.dK kvs) ∧ k = !kvs.isEmpty := e
    rcases e' with ⟨xs, hx, e'⟩ | ⟨xs, hx, e'⟩ | ⟨kvs, hx, e'⟩
    · subst e'
      obtain ⟨its, r, pl, hz⟩ := I.list hx
      have hlen := r.length
      exact wpAny_truthy_list pl.isList (by simp only [List.size_toArray]; omega) ⟨H, I.tok _, by rw [qhv r]; exact q⟩
    · subst e'
      obtain ⟨its, r, pl, hz⟩ := I.tuple hx
      have hlen := r.length
      exact truthy_tuple pl (by simp only [List.size_toArray]; omega) ⟨H, I.tok _, by rw [qhv r]; exact q⟩
    · subst e'
      obtain ⟨hz, hS, vs, r, m⟩ : kvs.length ≤ sizeLine ∧ (p == sysModules) = false ∧ ∃ vs, KV kvs vs ∧ s.heap.DictOf (qjM X.prog X.w) p vs := I.hok p _ hx
      have hlen : kvs.length = vs.length := Paired.length r
      exact wpAny_truthy_dict hS m (by omega) ⟨H, I.tok _, by rw [qlc r]; exact q⟩
  | _ => exact (show False from e).elim
theorem qhb {x : V} {us : List Value} (r : Vals [x] us) : ∃ u, us = [u] ∧ RelV x u := by
  cases r with
  | cons r1 r2 => cases r2; exact ⟨_, rfl, r1⟩
theorem vals2 {x y : V} {us : List Value} (r : Vals [x, y] us) : ∃ u w', us = [u, w'] ∧ RelV x u ∧ RelV y w' := by
  cases r with
  | cons r1 r2 =>
    cases r2 with
    | cons r3 r4 => cases r4; exact ⟨_, _, rfl, r1, r3⟩
theorem qnJ : qdT X (.builtin "abs") (fun xs H Q => ∃ i, xs = [.int i] ∧ Q (.int (if i < 0 then -i else i)) H) := by
  intro pins s σ H xs us Q I r h
  obtain ⟨i, rfl, q⟩ := h
  obtain ⟨u, rfl, t, rfl⟩ := qhb r
  exact call_abs_int fun u tk => ⟨.int (if i < 0 then -i else i), H, I.tok _, ⟨_, rfl⟩, q⟩
theorem qlQ (hc : X.calm = true) : qdT X (.builtin "max") (fun xs H Q => ∃ i j, xs = [.int i, .int j] ∧ Q (.int (if j > i then j else i)) H) := by
  intro pins s σ H xs us Q I r h
  obtain ⟨i, j, rfl, q⟩ := h
  obtain ⟨u, w', rfl, ⟨t, rfl⟩, ⟨t', rfl⟩⟩ := vals2 r
  refine max_two_ints (I.ok.hd hc) fun h' tk k => ⟨_, H, I.kept k, ?_, q⟩
  by_cases hj : j > i
  · rw [if_pos hj, if_pos hj]; exact ⟨_, rfl⟩
  · rw [if_neg hj, if_neg hj]; exact ⟨_, rfl⟩
theorem qlR : qdT X (.type "int") (fun xs H Q => (∃ i, xs = [.int i] ∧ Q (.int i) H) ∨ ∃ k, xs = [.bl k] ∧ Q (.int (if k then 1 else 0)) H) := by
  intro pins s σ H xs us Q I r h
  rcases h with ⟨i, rfl, q⟩ | ⟨k, rfl, q⟩
  · obtain ⟨u, rfl, t, rfl⟩ := qhb r
    exact call_int_int ⟨.int i, H, I, ⟨_, rfl⟩, q⟩
  · obtain ⟨u, rfl, r1⟩ := qhb r
    cases r1
    exact call_int_bool ⟨.int (if k then 1 else 0), H, I.tok _, ⟨_, rfl⟩, q⟩
end
end L2
namespace L2
open PySem PySem.Spec PyProof.Rows
structure ObjM (h : Heap) (x dx C : Addr) (mA : Str → Option Value) : Prop where
  obj : h.get? x = some (PySem.W.instObj C dx)
  ns : h.Ns1 dx mA
  ne : dx ≠ x
theorem qlS {h : Heap} {dx : Addr} {mA : Str → Option Value} (n : h.Ns1 dx mA) : ∃ od, h.get? dx = some od ∧ ∀ name, PySem.W.lookIn name od = some (mA name) := by
  obtain ⟨o, es, ep, ho, hd, hk, _, hm⟩ := n
  refine ⟨o, ho, fun name => ?_⟩
  have e := hm name
  unfold nsFind findBy at e
  rw [← Array.find?_toList] at e
  unfold PySem.W.lookIn
  rw [hd]
  dsimp only
  split
  · rename_i y q
    rw [q] at e
    exact congrArg some e
  · rename_i q
    rw [q] at e
    have a : es.toList.any (·.refKey) = false := by
      rw [List.any_eq_false]
      intro y hy
      obtain ⟨z, t, hkey⟩ := hk y (Array.mem_toList_iff.mp hy)
      simp [DictEntry.refKey, hkey]
    have a' : ¬ es.toList.any (·.refKey) = true := by rw [a]; exact Bool.false_ne_true
    rw [if_neg a']
    exact congrArg some e
theorem ObjM.look {h : Heap} {x dx C : Addr} {mA : Str → Option Value} (I : ObjM h x dx C mA) : ∃ od, PySem.W.InstAt h x (PySem.W.instObj C dx) C (some od) ∧ ∀ name, PySem.W.lookIn name od = some (mA name) :=
  let ⟨od, ho, hl⟩ := qlS I.ns
  ⟨od, ⟨I.obj, rfl, rfl, ho⟩, hl⟩
section
variable {prog : Program} {w : World} {A : Around} {E : Value → Shared → Prop} {s : Shared} {K : PySem.W.Frag} {x dx C f : Addr} {mA : Str → Option Value} {name : Str} {v : Value}
end
section
variable {P : Program} {w : World} {H H' : Hp} {h h' : Heap} {a C dx : Addr} {fs fs' : List (Str × V)}
theorem qo2 (hok : HOk P w H h) (e : H a = some (.ins C dx fs)) : ∃ mA, ObjM h a dx C mA ∧ (∀ f, qrv (fs.lookup f) (mA f)) ∧ PySem.Within mA (fs.map (·.1)) ∧ fs.length ≤ 1000 ∧ H dx = some (.own a) := by
  obtain ⟨d, z, ne, ob, mA, n, r, q⟩ := (show ObjOk P w H h a (.ins C dx fs) from hok a _ e)
  exact ⟨mA, ⟨ob, n, ne⟩, r, q, z, d⟩
end
structure Cls (K : PySem.W.Frag) (C : Addr) : Prop where
  pg : PySem.W.plainGet K C Str.empty = true
  hd : PySem.W.hasDictIn K C = true
  po : PySem.W.plainOver K C = true
  sa : PySem.W.findIn K (.ref C) "__setattr__" = some (some (.builtin "object.__setattr__"))
theorem Cls.get {K : PySem.W.Frag} {C : Addr} (c : Cls K C) (f : Str) : PySem.W.plainGet K C f = true := c.pg
structure Con (K : PySem.W.Frag) (C : Addr) (f : Str) (v : V) (u : Value) : Prop where
  at_ : PySem.W.findIn K (.ref C) f = some (some u)
  rel : RelV v u
  get : PySem.W.specialIn K u "__get__" = some none
  cp : PySem.W.copiedNames.contains f = false
structure Meth (K : PySem.W.Frag) (C : Addr) (m : Str) (f : Addr) : Prop where
  at_ : PySem.W.findIn K (.ref C) m = some (some (.ref f))
  fn : PySem.W.isFn K (.ref f) = true
  kp : PySem.W.keepIn K (.ref f) = true
section
variable {X : Cx} {pins : List (Addr × Obj)} {σ : St} {H : Hp} {s : Shared} {a C dx : Addr} {fs : List (Str × V)} {f : Str} {v : V} {A : Around} {E : Value → Shared → Prop}
end
section
variable {X : Cx} {o e value : Expr} {f : Str} {pos pos' tpos : Pos} {ta tv : TE}
end
section
variable {X : Cx} {pins : List (Addr × Obj)} {σ : St} {H : Hp} {s : Shared} {A : Around} {E : Value → Shared → Prop} {Q : Value → Shared → Prop} {c : Value} {b : Bool}
inductive TyOf (K : PySem.W.Frag) (H : Hp) : V → Value → Prop where
  | non : TyOf K H .non (.type "NoneType")
  | bl (x : Bool) : TyOf K H (.bl x) (.type "bool")
  | int (i : Int) : TyOf K H (.int i) (.type "int")
  | str (x : Str) : TyOf K H (.str x) (.type "str")
  | flt (x : UInt64) : TyOf K H (.flt x) (.type "float")
  | lst {a : Addr} {xs : List V} (e : H a = some (.lst xs)) : TyOf K H (.ref a) (.type "list")
  | frz {a : Addr} {o : Obj} {xs : List V} (e : H a = some (.frz o (.lst xs))) : TyOf K H (.ref a) (.type "list")
  | tup {a : Addr} {xs : List V} (e : H a = some (.tup xs)) : TyOf K H (.ref a) (.type "tuple")
  | dK {a : Addr} {kvs : List (Key × V)} (e : H a = some (.dK kvs)) : TyOf K H (.ref a) (.type "dict")
  | dT {a : Addr} {kvs : List (List Key × V)} (e : H a = some (.dT kvs)) : TyOf K H (.ref a) (.type "dict")
  | ins {a C dx : Addr} {fs : List (Str × V)} (e : H a = some (.ins C dx fs)) (cl : Cls K C) (ha : PySem.W.findIn K (.ref C) "__class__" = some (some (.builtin "object.__class__")))
      (hn : PySem.W.specialIn K (.builtin "object.__class__") "__get__" = some (some (.builtin "getset_descriptor.__get__"))) (htk : PySem.W.takesIn K (.builtin "object.__class__") = some true)
      (hm : PySem.W.mroIn K C (.type "object") = some true) : TyOf K H (.ref a) (.ref C)
theorem qlT {x : V} {u t : Value} (I : Inv X pins σ H s) (rx : RelV x u) (ty : TyOf X.K H x t) (e : PySem.W.kitOne X.K t c = some b) (h : ∀ tk, Q (.bool b) { s with toks := tk }) :
    wpAny (model X.prog X.w) A (call (.builtin "isinstance") [u, c]) Q E s := by
  cases ty with
  | non => cases (show u = Value.none from rx); exact PySem.W.kia_one PySem.W.kitx_none I.kIn True.intro e (fun z => nomatch z) h
  | bl y => cases (show u = Value.bool y from rx); exact PySem.W.kia_one PySem.W.kitx_bool I.kIn True.intro e (fun z => nomatch z) h
  | int i => obtain ⟨t, q⟩ := (show ∃ t, u = Value.int i t from rx); cases q; exact PySem.W.kia_one PySem.W.kitx_int I.kIn True.intro e (fun z => nomatch z) h
  | str y => obtain ⟨t, q⟩ := (show ∃ t, u = Value.str y t from rx); cases q; exact PySem.W.kia_one PySem.W.kitx_str I.kIn True.intro e (fun z => nomatch z) h
  | flt y => obtain ⟨t, q⟩ := (show ∃ t, u = Value.float y t from rx); cases q; exact PySem.W.kia_one PySem.W.kitx_float I.kIn True.intro e (fun z => nomatch z) h
  | @lst a xs ea =>
    cases (show u = Value.ref a from rx)
    obtain ⟨_, _, n, _, h1⟩ := (show ObjOk X.prog X.w H s.heap a (.lst xs) from I.hok a _ ea)
    exact PySem.W.kia_one PySem.W.kitx_list I.kIn ⟨_, h1, rfl⟩ e (fun z => nomatch z) h
  | @frz a ob xs ea =>
    cases (show u = Value.ref a from rx)
    obtain ⟨_, _, _, n, _, h1⟩ := (show ObjOk X.prog X.w H s.heap a (.frz ob (.lst xs)) from I.hok a _ ea)
    exact PySem.W.kia_one PySem.W.kitx_list I.kIn ⟨_, h1, rfl⟩ e (fun z => nomatch z) h
  | @tup a xs ea =>
    cases (show u = Value.ref a from rx)
    obtain ⟨_, _, _, p⟩ := (show ObjOk X.prog X.w H s.heap a (.tup xs) from I.hok a _ ea)
    obtain ⟨o, h1, h2, _⟩ := p
    exact PySem.W.kia_one PySem.W.kitx_tuple I.kIn ⟨o, h1, h2⟩ e (fun z => nomatch z) h
  | @dK a kvs ea =>
    cases (show u = Value.ref a from rx)
    obtain ⟨_, _, vs, _, p⟩ := (show ObjOk X.prog X.w H s.heap a (.dK kvs) from I.hok a _ ea)
    obtain ⟨o, es, ep, h1, h2, _⟩ := p
    exact PySem.W.kia_one PySem.W.kitx_dict I.kIn ⟨o, h1, h2.1⟩ e (fun z => nomatch z) h
  | @dT a kvs ea =>
    cases (show u = Value.ref a from rx)
    obtain ⟨_, _, xs, _, o, es, ep, h1, h2, _⟩ := (show ObjOk X.prog X.w H s.heap a (.dT kvs) from I.hok a _ ea)
    exact PySem.W.kia_one PySem.W.kitx_dict I.kIn ⟨o, h1, h2.1⟩ e (fun z => nomatch z) h
  | @ins a C dx fs ea cl ha hn htk hm =>
    cases (show u = Value.ref a from rx)
    obtain ⟨mA, O, _⟩ := qo2 I.hok ea
    obtain ⟨od, J, _⟩ := O.look
    exact PySem.W.kia_one (PySem.W.kitx_own (cl.get _) cl.hd ha hn htk hm) I.kIn J e (fun z => nomatch z) h
end
end L2
namespace L2
open PySem PySem.Spec PyProof.Rows
structure Room (k : Nat) (A : Around) : Prop where
  hd : A.handled = none
  dp : A.depth + 3 * k + 105 < recursionLimit
  un : A.units + 16 * k + 200 < cLine
theorem Room.mono {j k : Nat} {A : Around} (r : Room k A) (h : j ≤ k) : Room j A := ⟨r.hd, by have := r.dp; omega, by have := r.un; omega⟩
theorem Room.deeper {k : Nat} {A : Around} (r : Room (k + 1) A) (env : Env) : Room k (A.deeper env) :=
  ⟨r.hd, by have := r.dp; show A.depth + 1 + 3 * k + 105 < _; omega, by have := r.un; show A.units + 3 + 16 * k + 200 < _; omega⟩
theorem Room.in1 {k : Nat} {A : Around} (r : Room (k + 1) A) : Room k A.in1 :=
  ⟨r.hd, by have := r.dp; show A.depth + 3 * k + 105 < _; omega, by have := r.un; show A.units + 1 + 16 * k + 200 < _; omega⟩
theorem Room.depth {k : Nat} {A : Around} (r : Room k A) : A.depth < recursionLimit := by have := r.dp; omega
theorem Room.units {k : Nat} {A : Around} (r : Room k A) : A.units + 64 < cLine := by have := r.un; omega
theorem Room.units0 {k : Nat} {A : Around} (r : Room k A) : A.units < cLine := by have := r.un; omega
noncomputable def qaA : TA := fun _ H Q => Q [] H
noncomputable def qac (ta : TE) (tr : TA) : TA := fun σ H Q => ta σ H fun x H1 => tr σ H1 fun xs H2 => Q (x :: xs) H2
section
variable {X : Cx} {e : Expr} {es : List Expr} {te : TE} {t : TA} {pos : Pos}
theorem qae : PA X [] qaA := fun _ _ _ _ H Q I h => Calls.spliced_nil ⟨[], H, I, .nil, h⟩
theorem qaa (ha : PE X e te) (hr : PA X es t) (hs : starEach (e :: es) X.env = (false, eval e X.env) :: starEach es X.env := by rfl) : PA X (e :: es) (qac te t) := by
  intro pos pins s σ H Q I h
  rw [hs]
  show wpAny _ _ (spliced ((false, eval e X.env) :: backTo pos (starEach es X.env))) _ _ s
  refine Calls.spliced_cons (thn (ha pins s σ H _ I h) fun u s1 ⟨x, H1, I1, r1, q1⟩ => ?_)
  exact thn (hr pos pins s1 σ H1 _ I1 q1) fun us s2 ⟨xs, H2, I2, r2, q2⟩ => ⟨x :: xs, H2, I2, .cons r1 r2, q2⟩
noncomputable def qnK (t : TA) : TE := fun σ H Q => t σ H fun xs H1 => xs.length ≤ sizeLine ∧ ∀ p, H1 p = none → Q (.ref p) (upd H1 p (.tup xs))
noncomputable def qfZ (t : TA) : TE := fun σ H Q => t σ H fun xs H1 => xs.length ≤ sizeLine ∧ ∀ p, H1 p = none → Q (.ref p) (upd H1 p (.lst xs))
theorem qhx {x1} (h : PA X es t) : PE X (.Tuple es x1 pos) (qnK t) := by
  intro pins s σ H Q I hq
  refine wpAny_Tuple_spliced (thn (h pos pins s σ H _ I hq) fun us s1 ⟨xs, H1, I1, r, z, q⟩ => ⟨by rw [← r.length]; exact z, ?_⟩)
  have hf : H1 s1.heap.objs.size = none := I1.hok.fresh (Nat.le_refl _)
  refine ⟨.ref s1.heap.objs.size, upd H1 s1.heap.objs.size (.tup xs), I1.laid (t' := s1.toks) (fun b u e => Heap.get?_push_of_some _ e) (Nat.le_refl _) ?_, rfl, q _ hf⟩
  exact ⟨z, us, r, ⟨_, Heap.get?_push_size _ rfl, rfl, _, rfl⟩⟩
theorem qbF (h : PA X es t) : PE X (.List es pos) (qfZ t) := by
  intro pins s σ H Q I hq
  refine wpAny_List_spliced (thn (h pos pins s σ H _ I hq) fun us s1 ⟨xs, H1, I1, r, z, q⟩ => ⟨by rw [← r.length]; exact z, ?_⟩)
  have hf : H1 s1.heap.objs.size = none := I1.hok.fresh (Nat.le_refl _)
  refine ⟨.ref s1.heap.objs.size, upd H1 s1.heap.objs.size (.lst xs), I1.laid (t' := s1.toks) (fun b u e => Heap.get?_push_of_some _ e) (Nat.le_refl _) ?_, rfl, q _ hf⟩
  exact ⟨z, us, 0, r, Heap.get?_push_size _ rfl⟩
end
noncomputable abbrev Sp := List V → Hp → VK → XK → Prop
noncomputable abbrev CXT := List Env → Hp → Shared → XK → Value → Shared → Prop
structure Env0 (P : Program) (w : World) (K : PySem.W.Frag) (mg : Str → Option Value) (base : Heap) (A : Around) (outer : List Env) (s : Shared) (H : Hp) : Prop where
  frames : A.frames = some outer
  mod : Mod K mg base
  bs : ∀ b o, base.get? b = some o → s.heap.get? b = some o ∧ H b = none
  bsz : base.objs.size ≤ s.heap.objs.size
  funs : s.heap.FunFrames base outer
  frf : ∀ b ∈ frs outer, H b = none
  hok : HOk P w H s.heap
  bare : AllBare s.gens
  seer : base.NoSeer
  tree : (model P w).prog.given.tree = none
noncomputable def CE (outer : List Env) (P : Program) (w : World) (H : Hp) (s : Shared) (Q : VK) (u : Value) (s' : Shared) : Prop :=
  ∃ v H', s'.os = s.os ∧ AllBare s'.gens ∧ Un (frs outer) [] H H' s.heap s'.heap ∧ HOk P w H' s'.heap ∧ RelV v u ∧ Q v H'
noncomputable def CR (CX : CXT) (outer : List Env) (P : Program) (w : World) (H : Hp) (s : Shared) (Q : VK) (E : XK) (r : Result) (s' : Shared) : Prop :=
  match r with
  | .ok (.ret u) => CE outer P w H s Q u s'
  | .ok _ => False
  | .error e => CX outer H s E e s'
structure FnOk (P : Program) (w : World) (K : PySem.W.Frag) (mg : Str → Option Value) (base : Heap) (CX : CXT) (k : Nat) (f : Addr) (fd : FuncData) (ps : List Str) (sp : Sp) : Prop where
  len : ∀ vs H Q E, sp vs H Q E → vs.length = ps.length
  run : ∀ (A : Around) (outer : List Env) (s : Shared) (H : Hp) (args : Args) (us : List Value) (vs : List V) (Q : VK) (E : XK), Room k A → Env0 P w K mg base A outer s H → BindsTo s fd args (ps.zip us) → Vals vs us → sp vs H Q E →
    codeAny (model P w) A (.call (.ref f) args) (CR CX outer P w H s Q E) s
theorem FnOk.mono {P : Program} {w : World} {K : PySem.W.Frag} {mg : Str → Option Value} {base : Heap} {CX : CXT} {j k : Nat} {f : Addr} {fd : FuncData} {ps : List Str} {sp : Sp} (F : FnOk P w K mg base CX j f fd ps sp) (h : j ≤ k) :
    FnOk P w K mg base CX k f fd ps sp := ⟨F.len, fun A outer s H args us vs Q E hr => F.run A outer s H args us vs Q E (hr.mono h)⟩
theorem FnOk.imp {P : Program} {w : World} {K : PySem.W.Frag} {mg : Str → Option Value} {base : Heap} {CX : CXT} {k : Nat} {f : Addr} {fd : FuncData} {ps : List Str} {sp sp' : Sp} (F : FnOk P w K mg base CX k f fd ps sp)
    (h : ∀ vs H Q E, sp' vs H Q E → sp vs H Q E) : FnOk P w K mg base CX k f fd ps sp' :=
  ⟨fun vs H Q E q => F.len vs H Q E (h _ _ _ _ q), fun A outer s H args us vs Q E hr he hb hv hs => F.run A outer s H args us vs Q E hr he hb hv (h _ _ _ _ hs)⟩
theorem Env0.in1 {P : Program} {w : World} {K : PySem.W.Frag} {mg : Str → Option Value} {base : Heap} {A : Around} {outer : List Env} {s : Shared} {H : Hp} (e : Env0 P w K mg base A outer s H) :
    Env0 P w K mg base A.in1 outer s H := ⟨e.frames, e.mod, e.bs, e.bsz, e.funs, e.frf, e.hok, e.bare, e.seer, e.tree⟩
section
variable {X : Cx} {pins : List (Addr × Obj)} {σ : St} {H : Hp} {s s' : Shared}
theorem Inv.env0 (I : Inv X pins σ H s) : Env0 X.prog X.w X.K X.mg X.base X.A X.stack s H :=
  ⟨I.ok.frames, I.ok.mod, I.bs, Nat.le_trans I.ok.bsz I.sz, I.stack, I.stkFree, I.hok, I.bare, I.ok.seer, I.ok.tree⟩
theorem Inv.after {Q : VK} {u : Value} (I : Inv X pins σ H s) (h : CE X.stack X.prog X.w H s Q u s') : EP X pins σ Q u s' := by
  obtain ⟨v, H', os, bare, un, hok, r, q⟩ := h
  obtain ⟨hh, g, d, t, os'⟩ := s'
  obtain rfl : os' = s.os := os
  exact ⟨v, H', I.call (h' := hh) (g' := g) (d' := d) (t' := t) (ch := []) un hok bare (fun b z => absurd z (by simp)), r, q⟩
end
noncomputable def qaz (sp : Sp) (dvs : List V) (E : XK) (t : TA) : TE := fun σ H Q => t σ H fun vs H1 => sp (vs ++ dvs) H1 Q E
noncomputable def Binds (K : PySem.W.Frag) (fd : FuncData) (ps : List Str) (ds : List Value) : Prop :=
  ∀ (s : Shared) (us : List Value), K.In s.heap → (us ++ ds).length = ps.length → BindsTo s fd ⟨us, []⟩ (ps.zip (us ++ ds))
theorem Binds.all {K : PySem.W.Frag} {fd : FuncData} {ps : List Str} (h : ∀ us : List Value, us.length = ps.length → bindArgs fd ⟨us, []⟩ = pure (ps.zip us)) : Binds K fd ps [] := fun s us _ hl => by
  rw [List.append_nil] at hl ⊢
  exact .of_eq (h us hl)
noncomputable def Passes (CX : CXT) (X : Cx) (E : XK) : Prop := ∀ (pins : List (Addr × Obj)) (σ : St) (H : Hp) (s : Shared) (e : Value) (s' : Shared), Inv X pins σ H s → CX X.stack H s E e s' → X.xe e s'
section
variable {X : Cx} {CX : CXT} {k : Nat} {f C : Addr} {fd : FuncData} {ps : List Str} {sp : Sp} {dvs : List V} {ds : List Value} {E : XK} {x m : Str} {p pos apos : Pos} {e o : Expr} {es : List Expr} {ta : TE} {t : TA}
theorem qqf {pins : List (Addr × Obj)} {σ : St} {H : Hp} {s : Shared} {Q : VK} {us : List Value} {vs : List V} (F : FnOk X.prog X.w X.K X.mg X.base CX k f fd ps sp) (hr : Room k X.A) (hb : Binds X.K fd ps ds) (hd : Vals dvs ds) (hx : Passes CX X E)
    (I : Inv X pins σ H s) (r : Vals vs us) (h : sp (vs ++ dvs) H Q E) : wpAny (model X.prog X.w) X.A (call (.ref f) us) (EP X pins σ Q) X.xe s := by
  have r2 : Vals (vs ++ dvs) (us ++ ds) := r.append hd
  have hl : (us ++ ds).length = ps.length := by rw [← r2.length]; exact F.len _ _ _ _ h
  refine wpAny_call (codeAny_mono (F.run X.A X.stack s H ⟨us, []⟩ (us ++ ds) (vs ++ dvs) Q E hr I.env0 (hb s us I.kIn hl) r2 h) fun r s' hq => ?_)
  cases r with
  | error e => exact hx pins σ H s e s' I hq
  | ok fl =>
    cases fl with
    | ret u => exact I.after hq
    | next => exact False.elim hq
    | brk => exact False.elim hq
    | cont => exact False.elim hq
theorem qo3 (F : FnOk X.prog X.w X.K X.mg X.base CX k f fd ps sp) (hr : Room k X.A) (hg : Gl X x) (hm : X.mg x = some (.ref f)) (hk : PySem.W.keepIn X.K (.ref f) = true) (hb : Binds X.K fd ps ds) (hd : Vals dvs ds) (hx : Passes CX X E)
    (ha : PA X (e :: es) t) (hdb : (x == ("__debug__" : Str)) = false := by decide) (he : starEach (e :: es) X.env = (false, eval e X.env) :: starEach es X.env := by rfl) (hpl : (backTo pos (starEach es X.env)).any (·.1) = false := by rfl) :
    PE X (.Call (.Name x p) (e :: es) [] pos) (qaz sp dvs E t) := by
  intro pins s σ H Q I h
  refine wpAny_Call_Name_kw (qlC I hg hm ?_ hdb)
  refine PySem.W.callWith_K (h₀ := X.base) I.ok.mod.kin hk (thn (ha pos pins s σ H _ I h) fun us s1 ⟨vs, H1, I1, r, q⟩ => ⟨I1.kIn, ?_⟩) he hpl
  exact qqf F hr hb hd hx I1 r q
structure Mk (K : PySem.W.Frag) (C f : Addr) : Prop where
  makes : PySem.W.makesIn K C = true
  init : PySem.W.findIn K (.ref C) "__init__" = some (some (.ref f))
  fn : PySem.W.isFn K (.ref f) = true
  kp : PySem.W.keepIn K (.ref C) = true
end
noncomputable def PK (X : Cx) (kws : List Keyword) (t : TA) : Prop :=
  ∀ (pos : Pos) (pins : List (Addr × Obj)) (s : Shared) (σ : St) (H : Hp) (Q : List V → Hp → Prop), Inv X pins σ H s → t σ H Q → wpAny (model X.prog X.w) X.A (evalAll ((backToKw pos (keywordEach kws X.env)).map (·.2))) (AP X pins σ Q) X.xe s
section
variable {X : Cx} {CX : CXT} {k : Nat} {f C : Addr} {fd : FuncData} {ps ks : List Str} {sp : Sp} {E : XK} {x m : Str} {p pos apos kpos : Pos} {e o : Expr} {es : List Expr} {kws : List Keyword} {te ta : TE} {t tk : TA} {nm : Option Str}
theorem qqg : PK X [] qaA := fun _ _ _ _ H Q I h => wpAny_evalAll_nil ⟨[], H, I, .nil, h⟩
theorem qo4 (ha : PE X e te) (hr : PK X kws t) : PK X (⟨nm, e, kpos⟩ :: kws) (qac te t) := by
  intro pos pins s σ H Q I h
  show wpAny _ _ (evalAll ((do let v ← eval e X.env; standAt pos; pure v) :: (backToKw pos (keywordEach kws X.env)).map (·.2))) _ _ s
  refine wpAny_evalAll_cons (wpAny_bind (thn (ha pins s σ H _ I h) fun u s1 ⟨x, H1, I1, r1, q1⟩ => wpAny_bind (wpAny_standAt (wpAny_pure ?_))))
  exact thn (hr pos pins s1 σ H1 _ I1 q1) fun us s2 ⟨xs, H2, I2, r2, q2⟩ => ⟨x :: xs, H2, I2, .cons r1 r2, q2⟩
structure KBinds (K : PySem.W.Frag) (fd : FuncData) (ps ks : List Str) (g : List Value → List Value → List Value) (gV : List V → List V → List V) : Prop where
  to : ∀ (s : Shared) (us ws : List Value), K.In s.heap → (g us ws).length = ps.length → BindsTo s fd ⟨us, ks.zip ws⟩ (ps.zip (g us ws))
  rel : ∀ {vs : List V} {us : List Value} {zs : List V} {ws : List Value}, Vals vs us → Vals zs ws → Vals (gV vs zs) (g us ws)
variable {g : List Value → List Value → List Value} {gV : List V → List V → List V}
end
structure FnScope (N P : List Str) (sc : Scope) : Prop where
  kind : sc.kind = .function
  co : sc.isCoroutine = false
  gen : sc.isGenerator = false
  nd : N.Nodup
  pre : N.take P.length = P
  par : ∀ x ∈ P, sc.names.lookup x = some .local ∨ sc.names.lookup x = some .cell
  nofree : ∀ y ∈ sc.names, y.2 ≠ .free
theorem qi2 {kindOf : Str → Option NameKind} {x : Str} : ∀ {binds : List (Str × Value)} {m : Str → Option Value}, (∀ v, (x, v) ∉ binds) → bindL kindOf binds m x = m x
  | [], _, _ => rfl
  | (n, v) :: r, m, h => by
    unfold bindL
    rw [qi2 fun w hw => h w (List.mem_cons_of_mem _ hw)]
    split
    · have : x ≠ n := by rintro rfl; exact h v List.mem_cons_self
      simp [this]
    · rfl
theorem qi3 {kindOf : Str → Option NameKind} {x : Str} : ∀ {binds : List (Str × Value)} {m : Str → Option Value}, (∀ v, (x, v) ∉ binds) → bindC kindOf binds m x = m x
  | [], _, _ => rfl
  | (n, v) :: r, m, h => by
    unfold bindC
    rw [qi3 fun w hw => h w (List.mem_cons_of_mem _ hw)]
    split
    · rfl
    · have : x ≠ n := by rintro rfl; exact h v List.mem_cons_self
      simp [this]
theorem qi4 {kindOf : Str → Option NameKind} {x : Str} {v : Value} : ∀ {P : List Str} {vs : List Value} {i : Nat} {m : Str → Option Value}, P.Nodup → P[i]? = some x → vs[i]? = some v → kindOf x = some .local →
    bindL kindOf (P.zip vs) m x = some v
  | [], _, _, _, _, h, _, _ => by simp at h
  | _ :: _, [], _, _, _, _, h, _ => by simp at h
  | p :: P, w :: vs, 0, m, nd, h1, h2, hk => by
    simp at h1 h2; subst h1; subst h2
    show bindL kindOf ((p, w) :: P.zip vs) m p = _
    unfold bindL
    rw [qi2 fun v hv => (List.nodup_cons.mp nd).1 (List.of_mem_zip hv).1, if_pos hk]
    simp
  | p :: P, w :: vs, i + 1, m, nd, h1, h2, hk => by
    show bindL kindOf ((p, w) :: P.zip vs) m x = _
    unfold bindL
    exact qi4 (i := i) (List.nodup_cons.mp nd).2 (by simpa using h1) (by simpa using h2) hk
theorem qi5 {kindOf : Str → Option NameKind} {x : Str} {v : Value} : ∀ {P : List Str} {vs : List Value} {i : Nat} {m : Str → Option Value}, P.Nodup → P[i]? = some x → vs[i]? = some v → kindOf x ≠ some .local →
    bindC kindOf (P.zip vs) m x = some v
  | [], _, _, _, _, h, _, _ => by simp at h
  | _ :: _, [], _, _, _, _, h, _ => by simp at h
  | p :: P, w :: vs, 0, m, nd, h1, h2, hk => by
    simp at h1 h2; subst h1; subst h2
    show bindC kindOf ((p, w) :: P.zip vs) m p = _
    unfold bindC
    rw [qi3 fun v hv => (List.nodup_cons.mp nd).1 (List.of_mem_zip hv).1, if_neg hk]
    simp
  | p :: P, w :: vs, i + 1, m, nd, h1, h2, hk => by
    show bindC kindOf ((p, w) :: P.zip vs) m x = _
    unfold bindC
    exact qi5 (i := i) (List.nodup_cons.mp nd).2 (by simpa using h1) (by simpa using h2) hk
noncomputable def start (N : List Str) (vs : List V) : St := vs.map some ++ List.replicate (N.length - vs.length) none
noncomputable def qpV (CX : CXT) (P : Program) (w : World) (K : PySem.W.Frag) (mg : Str → Option Value) (base : Heap) (N : List Str) (qual : Str) (scope : Scope) (f : Addr) (cd : Value) (A : Around) (outer : List Env) (s : Shared) (H : Hp) (E : XK) : Cx where
  prog := P
  w := w
  K := K
  mg := mg
  base := base
  A := A.deeper (envOfC qual scope s.heap.objs.size f cd)
  N := N
  s₀ := s
  H₀ := H
  env := envOfC qual scope s.heap.objs.size f cd
  outer := outer
  stack := envOfC qual scope s.heap.objs.size f cd :: outer
  ex := []
  calm := true
  fn := fun _ => true
  pn := []
  xe := fun e s' => wpAny (model P w) (A.deeper (envOfC qual scope s.heap.objs.size f cd)) (leaving (envOfC qual scope s.heap.objs.size f cd) e) (fun _ s'' => CX outer H s E e s'') (fun e' s'' => CX outer H s E e' s'') s'
theorem qkq {sc : Scope} {n : Nat} {x : Str} (h : sc.names.lookup x = some .cell) : ∃ c, (cellsFrom n sc.names []).lookup x = some c := by
  have q := PySem.W.cellsFrom_some sc.names n [] (.inl h)
  exact Option.isSome_iff_exists.mp q
theorem qlU {CX : CXT} {P : Program} {w : World} {K : PySem.W.Frag} {mg : Str → Option Value} {base : Heap} {N ps : List Str} {qual : Str} {scope : Scope} {f : Addr} {cd : Value} {A : Around} {outer : List Env} {s s1 : Shared} {H : Hp} {E : XK} {us : List Value} {vs : List V}
    (S : FnScope N ps scope) (hd : A.handled = none) (hdp : (A.deeper (envOfC qual scope s.heap.objs.size f cd)).depth + Builtin.pylongFrames < recursionLimit) (e0 : Env0 P w K mg base A outer s H) (hl : vs.length = ps.length) (r : Vals vs us)
    (x : InCallC s s.heap.objs.size (bindL (envOfC qual scope s.heap.objs.size f cd).kindOf (ps.zip us) fun _ => none) (cellsFrom (s.heap.objs.size + 1) scope.names []) (bindC (envOfC qual scope s.heap.objs.size f cd).kindOf (ps.zip us) fun _ => none) s1) :
    Inv (qpV CX P w K mg base N qual scope f cd A outer s H E) [] (start N vs) H s1 := by
  have hpl : ps.length ≤ N.length := by have := congrArg List.length S.pre; rw [List.length_take] at this; omega
  obtain ⟨h1, tk, rfl, hk⟩ := x.done
  have noA : ∀ b : Addr, b ∉ (qpV CX P w K mg base N qual scope f cd A outer s H E).ex := fun b z => absurd (show b ∈ ([] : List Addr) from z) (by simp)
  refine ⟨⟨e0.mod, S.kind, rfl, rfl, Nat.le_refl _, fun y z c h1 h2 => ?_, fun y hy => ?_, fun y c _ h => ?_, fun _ => hd, Around.frames_deeper e0.frames, .inr ⟨rfl, rfl⟩, fun b z => absurd z (noA b), e0.bs, e0.bsz, fun b _ _ => noA b, fun b z => absurd z (noA b), e0.funs, e0.frf, e0.seer, e0.tree, fun s' hk' => PySem.PylongRoom.of (e0.mod.nolimit.keeps hk') hdp (PySem.SeerAt.of (e0.seer.keeps hk') e0.tree (Around.frames_deeper e0.frames) S.gen S.co rfl rfl)⟩,
    rfl, e0.bare, Un.kept hk, ⟨_, x.toInCall.ns, fun i y v h1 h2 h3 => ?_⟩, fun y c h => ⟨_, x.cell y c h⟩, e0.hok.fresh (Nat.le_refl _), fun y c h => ?_, fun p hp => absurd (show p ∈ ([] : List (Addr × Obj)) from hp) (by simp), e0.hok.kept hk, ?_⟩
  · exact name_of_addr x.apart (PySem.mem_of_lookup h1) (PySem.mem_of_lookup h2)
  · have hy : scope.names.lookup y = some .cell ∨ scope.names.lookup y = some .free := hy
    rcases hy with hy | hy
    · exact qkq hy
    · exact absurd rfl (S.nofree _ (PySem.mem_of_lookup hy))
  · exact Nat.le_of_lt (x.above y c (PySem.mem_of_lookup h))
  · have hi : i < vs.length := by
      unfold start at h2
      by_cases hi : i < vs.length
      · exact hi
      · rw [List.getElem?_append_right (by simpa using hi)] at h2
        rw [List.getElem?_replicate] at h2
        split at h2 <;> cases h2
    have ha : vs[i]? = some v := by
      unfold start at h2
      rw [List.getElem?_append_left (by simpa using hi), List.getElem?_map] at h2
      cases e : vs[i]? with
      | none => rw [e] at h2; cases h2
      | some a => rw [e] at h2; cases h2; rfl
    obtain ⟨u, hu, rv⟩ := r.get ha
    have hp : ps[i]? = some y := by
      rw [← S.pre, List.getElem?_take_of_lt (by omega)]; exact h1
    have ndP : ps.Nodup := by rw [← S.pre]; exact S.nd.sublist (List.take_sublist _ _)
    refine ⟨u, rv, ?_⟩
    rcases S.par y (List.mem_of_getElem? hp) with k | k
    · exact .inl ⟨k, qi4 ndP hp hu k⟩
    · obtain ⟨c, e⟩ := qkq (n := s.heap.objs.size + 1) k
      refine .inr ⟨.inl k, c, e, ?_⟩
      have q := x.cell y c e
      rw [qi5 ndP hp hu (by show scope.names.lookup y ≠ _; rw [k]; decide)] at q
      exact q
  · exact e0.hok.fresh (Nat.le_of_lt (x.above y c (PySem.mem_of_lookup h)))
  · unfold start
    show _ = N.length
    rw [List.length_append, List.length_map, List.length_replicate]
    omega
theorem qrB {CX : CXT} {P : Program} {w : World} {K : PySem.W.Frag} {mg : Str → Option Value} {base : Heap} {k : Nat} {f : Addr} {name qual : Str} {params : Arguments} {body : List Stmt} {scope : Scope} {dV kV doc pm cdv ct oc : Value} {an od : Option Addr}
    {osl : Array (Option Value)} {N ps : List Str} {sp : Sp} (lk : K.lookup f = some ⟨oc, od, .func (PySem.W.fnOf name qual params body scope dV kV doc pm an cdv ct), osl⟩) (hcd : PySem.W.codeIn K cdv qual = true) (S : FnScope N ps scope)
    (len : ∀ vs H Q E, sp vs H Q E → vs.length = ps.length)
    (hbody : ∀ (A : Around) (outer : List Env) (s : Shared) (H : Hp) (vs : List V) (Q : VK) (E : XK), Room k (A.deeper (envOfC qual scope s.heap.objs.size f cdv)) → sp vs H Q E →
      ∃ t, PSs (qpV CX P w K mg base N qual scope f cdv A outer s H E) body t ∧ t { nx := fun _ H' => Q .non H', rt := Q } (start N vs) H) :
    FnOk P w K mg base CX (k + 1) f (PySem.W.fnOf name qual params body scope dV kV doc pm an cdv ct) ps sp := by
  refine ⟨len, fun A outer s H args us vs Q E hr e0 hb r hsp => ?_⟩
  have hl := len _ _ _ _ hsp
  have KX : K.In s.heap := e0.mod.kin.keeps fun b o e => (e0.bs b o e).1
  have lim : s.heap.NoLimit := e0.mod.nolimit.keeps fun b o e => (e0.bs b o e).1
  have hkind : ∀ y ∈ ps.zip us, scope.names.lookup y.1 = some .local ∨ (scope.names.lookup y.1 = some .cell ∧ ((cellsFrom (s.heap.objs.size + 1) scope.names []).lookup y.1).isSome = true) := fun ⟨n, v⟩ hy => by
    rcases S.par n (List.of_mem_zip hy).1 with q | q
    · exact .inl q
    · exact .inr ⟨q, PySem.W.cellsFrom_some _ _ _ (.inl q)⟩
  refine codeAny_call_function hr.depth (KX _ _ lk) rfl S.co S.gen rfl (PySem.W.codeRec_of KX hcd) (hb _ _ _ _ ?_)
  refine wpAny_newFunctionEnv_cells S.kind hkind fun env he s1 x => ?_
  subst he
  refine ⟨lim.keeps x.toInCall.keep, codeAny_func ?_⟩
  obtain ⟨t, ht, hq⟩ := hbody A outer s H vs Q E (hr.deeper _) hsp
  have I : Inv (qpV CX P w K mg base N qual scope f cdv A outer s H E) [] (start N vs) H s1 := qlU S hr.hd (by have := (hr.deeper (envOfC qual scope s.heap.objs.size f cdv)).dp; show _ + 100 < _; omega) e0 hl r x
  refine wpAny_mono (ht [] s1 (start N vs) H _ I hq) (fun fl s' hs => ?_) fun e s' hs => hs
  have fin : ∀ {σ' : St} {H' : Hp} {v : V} {u : Value}, Inv (qpV CX P w K mg base N qual scope f cdv A outer s H E) [] σ' H' s' → RelV v u → Q v H' → CE outer P w H s Q u s' :=
    fun {σ' H' v u} J rv q => ⟨v, H', J.os, J.bare, J.base, J.hok, rv, q⟩
  cases fl with
  | ret u =>
    obtain ⟨v, σ', H', J, rv, q⟩ := hs
    exact fin J rv q
  | next =>
    obtain ⟨σ', H', J, q⟩ := hs
    exact fin (v := V.non) (u := Value.none) J rfl q
  | brk =>
    obtain ⟨_, _, _, q⟩ := hs
    exact False.elim q
  | cont =>
    obtain ⟨_, _, _, q⟩ := hs
    exact False.elim q
end L2
namespace L2
open PySem PySem.Spec PyProof.Rows
section
variable {X : Cx} {x : Str} {p pos : Pos} {e : Expr} {es : List Expr} {t : TA} {id T : String} {r : List V → Hp → VK → Prop}
noncomputable def tCB (r : List V → Hp → VK → Prop) (t : TA) : TE := fun σ H Q => t σ H fun vs H1 => r vs H1 Q
theorem qax (hc : qdT X (.builtin id) r) (hg : Gl X x) (hm : X.mg x = none) (hv : bootBuiltins x = some (.builtin id)) (ha : PA X (e :: es) t) (hn : x ≠ "__name__" := by decide) (hdb : (x == ("__debug__" : Str)) = false := by decide)
    (he : starEach (e :: es) X.env = (false, eval e X.env) :: starEach es X.env := by rfl) (hpl : (backTo pos (starEach es X.env)).any (·.1) = false := by rfl) : PE X (.Call (.Name x p) (e :: es) [] pos) (tCB r t) := by
  intro pins s σ H Q I h
  refine wpAny_Call_Name_kw (qeU I hg hm hv ?_ hn hdb)
  exact PyProof.Rows.callWith_builtin1 (thn (ha pos pins s σ H _ I h) fun us s1 ⟨vs, H1, I1, r1, q1⟩ => hc pins s1 σ H1 vs us Q I1 r1 q1) he hpl
theorem qcr (hc : qdT X (.type T) r) (hg : Gl X x) (hm : X.mg x = none) (hv : bootBuiltins x = some (.type T)) (ha : PA X (e :: es) t) (hn : x ≠ "__name__" := by decide) (hdb : (x == ("__debug__" : Str)) = false := by decide)
    (he : starEach (e :: es) X.env = (false, eval e X.env) :: starEach es X.env := by rfl) (hpl : (backTo pos (starEach es X.env)).any (·.1) = false := by rfl) : PE X (.Call (.Name x p) (e :: es) [] pos) (tCB r t) := by
  intro pins s σ H Q I h
  refine wpAny_Call_Name_kw (qeU I hg hm hv ?_ hn hdb)
  exact PyProof.Rows.callWith_type1 (thn (ha pos pins s σ H _ I h) fun us s1 ⟨vs, H1, I1, r1, q1⟩ => hc pins s1 σ H1 vs us Q I1 r1 q1) he hpl
end
end L2
namespace HT
open PySem PyProof.Rows
section
open PySem.SeqAt
open PySem.AutoSeq1 (wpAny_loadPart')
open PySem.MeetsSeq PySem.MeetsSeq2 PySem.MeetsSeq3
end
section
variable {prog : Program} {w : World} {A : Around} {E : Value → Shared → Prop} {s : Shared}
noncomputable def sIx (n d : Nat) : Option Int → Nat
  | none => d
  | some v => if v < 0 then (v + (n : Int)).toNat else min v.toNat n
end
end HT
namespace L2
open PySem PySem.Spec PyProof.Rows
noncomputable abbrev TO := St → Hp → (Option Int → Hp → Prop) → Prop
noncomputable def PO (X : Cx) (e : Option Expr) (t : TO) : Prop :=
  ∀ (pins : List (Addr × Obj)) (s : Shared) (σ : St) (H : Hp) (Q : Option Int → Hp → Prop), Inv X pins σ H s → t σ H Q →
    wpAny (model X.prog X.w) X.A (evalPart e X.env) (fun u s' => ∃ o H', Inv X pins σ H' s' ∧ IsPart u o ∧ Q o H') X.xe s
noncomputable def qcs : TO := fun _ H Q => Q none H
noncomputable def qgm (t : TE) : TO := fun σ H Q => t σ H fun x H1 => ∃ i, x = .int i ∧ Q (some i) H1
section
variable {X : Cx} {e : Expr} {te : TE} {lo hi : Option Expr} {tl th : TO} {pos p2 : Pos}
theorem qdU : PO X none qcs := by
  intro pins s σ H Q I h
  rw [evalPart_none]
  exact wpAny_pure ⟨none, H, I, .none, h⟩
theorem qdV (h : PE X e te) : PO X (some e) (qgm te) := by
  intro pins s σ H Q I hw
  rw [evalPart_some]
  refine thn (h pins s σ H _ I hw) fun u s1 ⟨x, H1, I1, r1, q1⟩ => ?_
  obtain ⟨i, rfl, q⟩ := q1
  obtain ⟨t, rfl⟩ := r1
  exact ⟨some i, H1, I1, .int i t, q⟩
noncomputable def SlR (X : Cx) (r : V → Option Int → Option Int → Hp → VK → Prop) : Prop :=
  ∀ (pins : List (Addr × Obj)) (s : Shared) (σ : St) (H : Hp) (x : V) (v vl vu : Value) (lo hi : Option Int) (sl : Addr) (Q : VK), Inv X pins σ H s → RelV x v → s.heap.IsSliceOf sl vl vu .none → IsPart vl lo → IsPart vu hi → r x lo hi H Q →
    ∃ T id, typeLookup (.type T) "__getitem__" = pure (some (.builtin id)) ∧ s.TypeIs v T ∧ wpAny (model X.prog X.w) X.A (getItem v (.ref sl)) (EP X pins σ Q) X.xe s
noncomputable def tSl (r : V → Option Int → Option Int → Hp → VK → Prop) (te : TE) (tl th : TO) : TE := fun σ H Q => te σ H fun x H1 => tl σ H1 fun l H2 => th σ H2 fun u H3 => r x l u H3 Q
theorem qcO {r : V → Option Int → Option Int → Hp → VK → Prop} (hr : SlR X r) (he : PE X e te) (hl : PO X lo tl) (hu : PO X hi th) : PE X (.Subscript e (.Slice lo hi none p2) pos) (tSl r te tl th) := by
  intro pins s σ H Q I h
  refine Subscript_ (thn (he pins s σ H _ I h) fun v s1 ⟨x, H1, I1, r1, q1⟩ => ?_)
  refine wpAny_Slice (thn (hl pins s1 σ H1 _ I1 q1) fun vl s2 ⟨l, H2, I2, pl, q2⟩ => thn (hu pins s2 σ H2 _ I2 q2) fun vu s3 ⟨u, H3, I3, pu, q3⟩ => ?_)
  rw [evalPart_none]
  refine wpAny_pure ?_
  have I4 : Inv X pins σ H3 { s3 with heap := s3.heap.push { cls := .type "slice", data := .fields #[vl, vu, .none] } } := I3.kept (t' := s3.toks) fun b ob q => Heap.get?_push_of_some _ q
  obtain ⟨T, id, hT, ht, hg⟩ := hr pins { s3 with heap := s3.heap.push { cls := .type "slice", data := .fields #[vl, vu, .none] } } σ H3 x v vl vu l u s3.heap.objs.size Q I4 r1 (Heap.IsSliceOf.new ..) pl pu q3
  show wpAny (model X.prog X.w) X.A (subscriptTail e (.Slice lo hi none p2) v (.ref s3.heap.objs.size)) (EP X pins σ Q) X.xe { s3 with heap := s3.heap.push { cls := .type "slice", data := .fields #[vl, vu, .none] } }
  exact tail_any (ops := [.ref s3.heap.objs.size, v]) ht hT hg (by with_unfolding_all rfl)
noncomputable def qgn (xs : List V) (lo hi : Option Int) : List V := (xs.drop (HT.sIx xs.length 0 lo)).take (HT.sIx xs.length xs.length hi - HT.sIx xs.length 0 lo)
theorem qjP (xs : List V) (lo hi : Option Int) : (qgn xs lo hi).length ≤ xs.length := by
  unfold qgn
  rw [List.length_take, List.length_drop]
  omega
end
end L2
namespace L2
open PySem PySem.Spec PyProof.Rows
noncomputable def ixN (n : Nat) (i : Int) : Option Nat := if 0 ≤ i then (if i < n then some i.toNat else none) else if -(n : Int) ≤ i then some (i + n).toNat else none
noncomputable def atI {α : Type} (xs : List α) (i : Int) : Option α := (ixN xs.length i).bind fun j => xs[j]?
theorem qlV {n : Nat} {i : Int} {j : Nat} (h : ixN n i = some j) : seqIndex? i n = some j ∧ j < n ∧ -(n : Int) ≤ i ∧ i < n := by
  unfold ixN at h
  by_cases h0 : 0 ≤ i
  · rw [if_pos h0] at h
    by_cases h1 : i < n
    · rw [if_pos h1] at h
      have e : i.toNat = j := Option.some.inj h
      exact ⟨by rw [seqIndex_of h0 h1, e], by omega, by omega, h1⟩
    · rw [if_neg h1] at h; cases h
  · rw [if_neg h0] at h
    by_cases h1 : -(n : Int) ≤ i
    · rw [if_pos h1] at h
      have e : (i + n).toNat = j := Option.some.inj h
      exact ⟨by rw [seqIndex_neg (by omega) h1, e], by omega, h1, by omega⟩
    · rw [if_neg h1] at h; cases h
theorem qjQ {α : Type} {xs : List α} {i : Int} {v : α} (h : atI xs i = some v) : ∃ j, seqIndex? i xs.length = some j ∧ xs[j]? = some v ∧ j < xs.length ∧ -(xs.length : Int) ≤ i ∧ i < xs.length := by
  unfold atI at h
  cases e : ixN xs.length i with
  | none => rw [e] at h; cases h
  | some j =>
    rw [e] at h
    obtain ⟨h1, h2, h3, h4⟩ := qlV e
    exact ⟨j, h1, h, h2, h3, h4⟩
theorem qlW {α : Type} {xs : List α} {j : Nat} {v : α} (h : xs[j]? = some v) : atI xs (j : Int) = some v := by
  have hj : j < xs.length := (List.getElem?_eq_some_iff.mp h).1
  have e : ixN xs.length (j : Int) = some j := by
    unfold ixN
    rw [if_pos (by omega), if_pos (by omega)]; simp
  unfold atI; rw [e]; exact h
theorem atI_last {α : Type} (xs : List α) (v : α) : atI (xs ++ [v]) (-1) = some v := by
  have hl : (xs ++ [v]).length = xs.length + 1 := by simp
  have e : ixN (xs ++ [v]).length (-1) = some xs.length := by
    unfold ixN
    rw [hl, if_neg (by decide), if_pos (by omega)]
    congr 1
    omega
  unfold atI
  rw [e]
  show (xs ++ [v])[xs.length]? = some v
  simp
noncomputable def qo5 (b : Expr) : Prop := ∀ o i, subscripted b false o i = operate [o, i] (getItem o i)
noncomputable def IxR (X : Cx) (r : R2) : Prop :=
  ∀ (value slice : Expr) (pins : List (Addr × Obj)) (s : Shared) (σ : St) (H : Hp) (x y : V) (v u : Value) (Q : VK), Inv X pins σ H s → RelV x v → RelV y u → r x y H Q →
    subscripted slice false v u = operate [v, u] (getItem v u) → wpAny (model X.prog X.w) X.A (subscriptTail value slice v u) (EP X pins σ Q) X.xe s
noncomputable def MtR (X : Cx) (id : String) (r : V → List V → Hp → VK → Prop) : Prop :=
  ∀ (pins : List (Addr × Obj)) (s : Shared) (σ : St) (H : Hp) (x : V) (xs : List V) (v : Value) (us : List Value) (Q : VK), Inv X pins σ H s → RelV x v → Vals xs us → r x xs H Q →
    wpAny (model X.prog X.w) X.A (call (.builtin id) (v :: us)) (EP X pins σ Q) X.xe s
section
variable {X : Cx} {a b : Expr} {ta tb : TE} {pos : Pos}
theorem qaL {r : R2} (hr : IxR X r) (ha : PE X a ta) (hb : PE X b tb) (hs : qo5 b) : PE X (.Subscript a b pos) (tOp r ta tb) := by
  intro pins s σ H Q I h
  exact Subscript_ (qrx ha hb I h fun v u s2 x y H2 I2 rx ry q => hr a b pins s2 σ H2 x y v u Q I2 rx ry q (hs _ _))
noncomputable def qsf (K : PySem.W.Frag) : R2 := fun x y H Q => ∃ p xs i v, x = .ref p ∧ y = .int i ∧ SqL K H p xs ∧ atI xs i = some v ∧ Q v H
noncomputable def qsg (K : PySem.W.Frag) : R2 := fun x y H Q => ∃ p xs i v, x = .ref p ∧ y = .int i ∧ SqT K H p xs ∧ atI xs i = some v ∧ Q v H
theorem qo6 : IxR X (qsf X.K) := by
  intro value slice pins s σ H x y v u Q I rx ry h hs
  obtain ⟨p, xs, i, z, rfl, rfl, hq, he, q⟩ := h
  cases rx
  obtain ⟨t, rfl⟩ := ry
  obtain ⟨its, r, pl, hz⟩ := I.list hq
  obtain ⟨j, h1, h2, h3, h4, h5⟩ := qjQ he
  obtain ⟨w, ew, rw'⟩ := r.get h2
  have hl := r.length
  have hn := qhw
  have fin : EP X pins σ Q w s := ⟨z, H, I, rw', q⟩
  by_cases h0 : 0 ≤ i
  · have hj : i.toNat = j := by
      rw [seqIndex_of h0 h5] at h1
      exact Option.some.inj h1
    exact item_listR pl.isList h0 (by omega) (by rw [hj]; simpa using ew) fin hs
  · have hj : (i + (its.toArray.size : Int)).toNat = j := by
      rw [seqIndex_neg (by omega) h4] at h1
      rw [List.size_toArray, ← hl]
      exact Option.some.inj h1
    exact subscriptTail_builtinR (x := w) pl.isList.typeIs slot_list_getitem.lookup
      (wpAny_getItem_list_neg (Q := fun r s' => r = w ∧ EP X pins σ Q r s') pl.isList (by omega) (by rw [List.size_toArray] <;> omega) (by omega) (by rw [hj]; simpa using ew) ⟨rfl, fin⟩) hs
theorem qqh : IxR X (qsg X.K) := by
  intro value slice pins s σ H x y v u Q I rx ry h hs
  obtain ⟨p, xs, i, z, rfl, rfl, hq, he, q⟩ := h
  cases rx
  obtain ⟨t, rfl⟩ := ry
  obtain ⟨its, r, pl, hz⟩ := I.tuple hq
  obtain ⟨j, h1, h2, h3, h4, h5⟩ := qjQ he
  obtain ⟨w, ew, rw'⟩ := r.get h2
  have hl := r.length
  have hn := qhw
  have fin : EP X pins σ Q w s := ⟨z, H, I, rw', q⟩
  exact subscriptTail_builtinR (x := w) pl.typeIs slot_tuple_getitem.lookup
    (getItem_tuple (j := j) (Q := fun r s' => r = w ∧ EP X pins σ Q r s') pl (by omega) (by omega) (by rw [List.size_toArray, ← hl]; exact h1) (by simpa using ew) ⟨rfl, fin⟩) hs
theorem qld (its : List Value) (n j : Nat) (u : Value) : Obj.mapSeq (·.setIfInBounds j u) { cls := .type "list", data := .seq its.toArray n } = { cls := .type "list", data := .seq (its.set j u).toArray n } := by
  simp [Obj.mapSeq]
theorem Inv.lst {pins : List (Addr × Obj)} {σ : St} {H : Hp} {s : Shared} {p : Addr} {xs : List V} (I : Inv X pins σ H s) (h : H p = some (.lst xs)) :
    ∃ (its : List Value) (n : Nat), Vals xs its ∧ s.heap.get? p = some { cls := .type "list", data := .seq its.toArray n } ∧ xs.length ≤ sizeLine := by
  obtain ⟨z, its, n, r, e⟩ := I.hok p _ h
  exact ⟨its, n, r, e, z⟩
theorem Inv.lstUpd {pins : List (Addr × Obj)} {σ : St} {H : Hp} {s : Shared} {p : Addr} {xs ys : List V} {its its' : List Value} {n n' : Nat} {f : Obj → Obj} (I : Inv X pins σ H s) (h : H p = some (.lst xs))
    (ho : s.heap.get? p = some { cls := .type "list", data := .seq its.toArray n }) (hf : f { cls := .type "list", data := .seq its.toArray n } = { cls := .type "list", data := .seq its'.toArray n' }) (r : Vals ys its') (hz : ys.length ≤ sizeLine) (t : Nat) :
    Inv X pins σ (upd H p (.lst ys)) { s with heap := s.heap.update p f, toks := t } := by
  have e : (s.heap.update p f).get? p = some { cls := .type "list", data := .seq its'.toArray n' } := by
    rw [Heap.get?_update_self f ho (by rw [hf] <;> rfl), hf]
  refine I.write (x := p) (e := p) (by rw [h]; trivial) (.inl rfl) (fun b u hb q => (Heap.get?_update_other _ _ (Ne.symm hb)).trans q) ⟨_, e⟩ ?_
  exact ⟨hz, its', n', r, e⟩
noncomputable def qeV : V → V → V → Hp → (Hp → Prop) → Prop := fun o i v H Q => ∃ p xs k j, o = .ref p ∧ i = .int k ∧ H p = some (.lst xs) ∧ ixN xs.length k = some j ∧ Q (upd H p (.lst (xs.set j v)))
theorem qbL : PSet X qeV := by
  intro pins s σ H o i v ov iv u Q I ro ri rv h
  obtain ⟨p, xs, k, j, rfl, rfl, hp, hj, q⟩ := h
  cases ro
  obtain ⟨t, rfl⟩ := ri
  obtain ⟨its, n, r, ho, hz⟩ := I.lst hp
  obtain ⟨h1, h2, h3, h4⟩ := qlV hj
  have hl := r.length
  have hn := qhw
  have I' : Inv X pins σ (upd H p (.lst (xs.set j v))) { s with heap := s.heap.update p (Obj.mapSeq (·.setIfInBounds j u)) } :=
    I.lstUpd hp ho (qld its n j u) (r.set rv j) (by rw [List.length_set]; exact hz) s.toks
  by_cases h0 : 0 ≤ k
  · have hk : k.toNat = j := by
      rw [seqIndex_of h0 h4] at h1
      exact Option.some.inj h1
    exact PySem.W.ki_setAt ho h0 (by omega) (by rw [List.size_toArray, ← hl]; exact h4) (by rw [hk]; exact ⟨_, I', q⟩)
  · have hk : (k + (its.toArray.size : Int)).toNat = j := by
      rw [seqIndex_neg (by omega) h3] at h1
      rw [List.size_toArray, ← hl]
      exact Option.some.inj h1
    exact PySem.W.ki_setBack ho (by omega) (by rw [List.size_toArray, ← hl]; exact h3) (by omega) (by rw [hk]; exact ⟨_, I', q⟩)
theorem qi6 (lo hi : Option Int) (n : Nat) : (sliceBounds lo hi none n).1 = ((HT.sIx n 0 lo : Nat) : Int) ∧ (sliceBounds lo hi none n).2.1 = ((HT.sIx n n hi : Nat) : Int) ∧ (sliceBounds lo hi none n).2.2 = 1 := by
  refine ⟨?_, ?_, rfl⟩
  · cases lo with
    | none => simp [sliceBounds, HT.sIx]
    | some i =>
      simp only [sliceBounds, HT.sIx, Option.getD_none, show (1 : Int) > 0 by decide, if_true]
      by_cases h : i < 0
      · simp only [h, if_true] <;> omega
      · simp only [h, if_false] <;> omega
  · cases hi with
    | none => simp [sliceBounds, HT.sIx]
    | some i =>
      simp only [sliceBounds, HT.sIx, Option.getD_none, show (1 : Int) > 0 by decide, if_true]
      by_cases h : i < 0
      · simp only [h, if_true] <;> omega
      · simp only [h, if_false] <;> omega
theorem qhZ (its : List Value) (lo hi : Option Int) : slicePick its.toArray lo hi none = ((its.drop (HT.sIx its.length 0 lo)).take (HT.sIx its.length its.length hi - HT.sIx its.length 0 lo)).toArray := by
  obtain ⟨h1, h2, h3⟩ := qi6 lo hi its.toArray.size
  unfold slicePick
  rw [h1, h2, h3]
  simp only [sliceRange_one, pick_run, List.size_toArray] <;> rfl
noncomputable def qsh (K : PySem.W.Frag) : V → Option Int → Option Int → Hp → VK → Prop := fun x lo hi H Q => ∃ a xs, x = .ref a ∧ SqL K H a xs ∧ ∀ p, H p = none → Q (.ref p) (upd H p (.lst (qgn xs lo hi)))
theorem qlX : SlR X (qsh X.K) := by
  intro pins s σ H x v vl vu lo hi sl Q I rx hs pl pu h
  obtain ⟨a, xs, rfl, hx, q⟩ := h
  cases rx
  obtain ⟨its, r, ht, hz⟩ := I.list hx
  have hlen := r.length
  refine ⟨"list", _, slot_list_getitem.lookup, ht.isList.typeIs, ?_⟩
  refine wpAny_getItem_list_slice ht.isList hs pl pu .none (by simp) ?_ (by rw [List.size_toArray] <;> omega)
  rw [qhZ, ← hlen]
  refine ⟨.ref s.heap.objs.size, _, I.laid (t' := s.toks) (o := .lst (qgn xs lo hi)) (fun b ob q => Heap.get?_push_of_some _ q) (Nat.le_refl _) ?_, rfl, q _ (I.hok.fresh (Nat.le_refl _))⟩
  exact ⟨Nat.le_trans (qjP xs lo hi) hz, _, 0, (r.drop (HT.sIx xs.length 0 lo)).take (HT.sIx xs.length xs.length hi - HT.sIx xs.length 0 lo), Heap.get?_push_size _ rfl⟩
theorem qi7 : qdT X (.builtin "len") (fun xs H Q => ∃ p ys, xs = [.ref p] ∧ (SqL X.K H p ys ∨ SqT X.K H p ys) ∧ Q (.int ys.length) H) := by
  intro pins s σ H xs us Q I r h
  obtain ⟨p, ys, rfl, hq, q⟩ := h
  obtain ⟨u, rfl, rx⟩ := qhb r
  cases rx
  have hn := qhw
  rcases hq with hq | hq
  · obtain ⟨its, r', pl, hz⟩ := I.list hq
    have hlen := r'.length
    exact Calls.call_len_list pl.isList (by simp only [List.size_toArray] <;> omega) ⟨.int ys.length, H, I.tok _, ⟨s.toks + 1, by rw [List.size_toArray, hlen]⟩, q⟩
  · obtain ⟨its, r', pl, hz⟩ := I.tuple hq
    have hlen := r'.length
    exact len_tuple pl (by simp only [List.size_toArray] <;> omega) ⟨.int ys.length, H, I.tok _, ⟨s.toks + 1, by rw [List.size_toArray, hlen]⟩, q⟩
theorem qi8 : qdT X (.type "list") (fun xs H Q => ∃ p ys, xs = [.ref p] ∧ (SqL X.K H p ys ∨ SqT X.K H p ys) ∧ ∀ l, H l = none → Q (.ref l) (upd H l (.lst ys))) := by
  intro pins s σ H xs us Q I r h
  obtain ⟨p, ys, rfl, hq, q⟩ := h
  obtain ⟨u, rfl, rx⟩ := qhb r
  cases rx
  have fin : ∀ (its : List Value), Vals ys its → ys.length ≤ sizeLine → ∀ (h' : Heap) (c' : Nat), (∀ b o', s.heap.get? b = some o' → h'.get? b = some o') →
      h'.get? s.heap.objs.size = some { cls := .type "list", dict := none, data := .seq its.toArray c', slots := #[] } → EP X pins σ Q (.ref s.heap.objs.size) { s with heap := h' } := fun its r' hz h' c' kp e =>
    ⟨.ref s.heap.objs.size, _, I.laid (t' := s.toks) kp (Nat.le_refl _) (show ObjOk X.prog X.w _ h' _ (.lst ys) from ⟨hz, its, c', r', e⟩), rfl, q _ (I.hok.fresh (Nat.le_refl _))⟩
  rcases hq with hq | hq
  · obtain ⟨its, r', pl, hz⟩ := I.list hq
    have hlen := r'.length
    obtain ⟨o, ho, hc, n, hd⟩ := pl.isList
    exact call_list_seq p (.inl rfl) ho hc hd (fun h' c' kp e => fin its r' hz h' c' kp e) (by simp only [List.size_toArray] <;> omega)
  · obtain ⟨its, r', pl, hz⟩ := I.tuple hq
    have hlen := r'.length
    obtain ⟨o, ho, hc, n, hd⟩ := pl
    exact call_list_seq p (.inr rfl) ho hc hd (fun h' c' kp e => fin its r' hz h' c' kp e) (by simp only [List.size_toArray] <;> omega)
theorem qh0 : qdT X (.type "tuple") (fun xs H Q => ∃ p ys, xs = [.ref p] ∧ ((SqL X.K H p ys ∧ ∀ l, H l = none → Q (.ref l) (upd H l (.tup ys))) ∨ (SqT X.K H p ys ∧ Q (.ref p) H))) := by
  intro pins s σ H xs us Q I r h
  obtain ⟨p, ys, rfl, h⟩ := h
  obtain ⟨u, rfl, rx⟩ := qhb r
  cases rx
  rcases h with ⟨hq, q⟩ | ⟨hq, q⟩
  · obtain ⟨its, r', pl, hz⟩ := I.list hq
    have hlen := r'.length
    refine call_tuple_list pl.isList (fun h' kp => ?_) (by simp only [List.size_toArray] <;> omega)
    have I1 : Inv X pins σ H { s with heap := h' } := I.kept (t' := s.toks) kp
    have I2 : Inv X pins σ (upd H h'.objs.size (.tup ys)) { s with heap := h'.push { cls := .type "tuple", data := .seq its.toArray } } :=
      I1.laid (t' := s.toks) (fun b o e => Heap.get?_push_of_some _ e) (Nat.le_refl _) (show ObjOk X.prog X.w _ _ _ (.tup ys) from ⟨hz, its, r', IsTup.new _ _⟩)
    exact ⟨.ref h'.objs.size, _, I2, rfl, q _ (I1.hok.fresh (Nat.le_refl _))⟩
  · obtain ⟨its, r', pl, hz⟩ := I.tuple hq
    exact call_tuple_same pl ⟨.ref p, H, I, rfl, q⟩
noncomputable def tyV (K : PySem.W.Frag) (T : String) (x : V) (H : Hp) : Prop := match x with
  | .str _ => T = "str"
  | .int _ => T = "int"
  | .ref p => (T = "list" ∧ ∃ xs, SqL K H p xs) ∨ (T = "tuple" ∧ ∃ o, K.lookup p = some o ∧ o.cls = .type "tuple" ∧ o.dict = none) ∨
      (T = "dict" ∧ ((∃ kvs, H p = some (.dK kvs)) ∨ ∃ kvs, H p = some (.dT kvs))) ∨ (T = "set" ∧ ∃ S n, H p = some (.set S n))
  | _ => False
theorem qqi {pins : List (Addr × Obj)} {σ : St} {H : Hp} {s : Shared} {T : String} {x : V} {v : Value} (I : Inv X pins σ H s) (r : RelV x v) (ty : tyV X.K T x H) :
    s.TypeIs v T ∧ ∀ a, v = .ref a → ∃ ob, s.heap.get? a = some ob ∧ ob.dict = none := by
  cases x with
  | str z =>
    obtain ⟨t, rfl⟩ := r
    cases (show T = "str" from ty)
    exact ⟨typeIs_str s z t, fun _ e => nomatch e⟩
  | int i =>
    obtain ⟨t, rfl⟩ := r
    cases (show T = "int" from ty)
    exact ⟨typeIs_int s i t, fun _ e => nomatch e⟩
  | ref p =>
    cases r
    rcases ty with ⟨rfl, xs, hq⟩ | ⟨rfl, o, hk, hc, hd⟩ | ⟨rfl, hk⟩ | ⟨rfl, S, n, hk⟩
    · obtain ⟨its, _, pl, _⟩ := I.list hq
      refine ⟨pl.isList.typeIs, fun a e => ?_⟩
      cases e
      obtain ⟨o, n, e, c, hd, _⟩ := pl
      exact ⟨o, e, hd⟩
    · refine ⟨⟨o, I.kIn p o hk, hc⟩, fun a e => ?_⟩
      cases e
      exact ⟨o, I.kIn _ o hk, hd⟩
    · have z : ∃ o, s.heap.get? p = some o ∧ o.ExactDict := by
        rcases hk with ⟨kvs, hk⟩ | ⟨kvs, hk⟩
        · obtain ⟨_, _, _, _, o, _, _, e, ex, _⟩ := I.hok p _ hk
          exact ⟨o, e, ex⟩
        · obtain ⟨_, _, _, _, o, _, _, e, ex, _⟩ := I.hok p _ hk
          exact ⟨o, e, ex⟩
      obtain ⟨o, e, ex⟩ := z
      refine ⟨⟨o, e, ex.1⟩, fun a e2 => ?_⟩
      cases e2
      exact ⟨o, e, ex.2.1⟩
    · obtain ⟨o, _, _, _, e, ex, _⟩ := I.hok p _ hk
      refine ⟨⟨o, e, ex.1⟩, fun a e2 => ?_⟩
      cases e2
      exact ⟨o, e, ex.2.1⟩
  | _ => exact False.elim ty
noncomputable def qr2 (K : PySem.W.Frag) (T : String) (r : V → List V → Hp → VK → Prop) (to : TE) : TE := fun σ H Q => to σ H fun x H1 => tyV K T x H1 ∧ r x [] H1 Q
noncomputable def tBM (K : PySem.W.Frag) (T : String) (r : V → List V → Hp → VK → Prop) (to : TE) (t : TA) : TE := fun σ H Q => to σ H fun x H1 => tyV K T x H1 ∧ t σ H1 fun xs H2 => r x xs H2 Q
variable {o e : Expr} {es : List Expr} {to : TE} {t : TA} {name : Str} {apos cpos : Pos} {T id : String} {r : V → List V → Hp → VK → Prop}
theorem qle (pa : PlainAttrs T) (slot : Slot T name id) (hty : typeOf (.builtin id) = pure (.type "method_descriptor")) (hm : MtR X id r) (ho : PE X o to) (ha : PA X (e :: es) t)
    (hbase : attributeBase o name X.env (eval o X.env) = eval o X.env := by rfl)
    (hfew : ((backTo cpos (starEach (e :: es) X.env)).all (fun x => !x.1) && (backToKw cpos (keywordEach [] X.env)).all (fun x => x.1.isSome)
      && decide ((e :: es).length + ([] : List Keyword).length + (if ([] : List Keyword).isEmpty then 0 else 1) < 30)) = true := by rfl)
    (hline : (apos.endLine == cpos.line) = true := by rfl) (hs : starEach (e :: es) X.env = (false, eval e X.env) :: starEach es X.env := by rfl) (hplain : (backTo cpos (starEach es X.env)).any (·.1) = false := by rfl) :
    PE X (.Call (.Attribute o name apos) (e :: es) [] cpos) (tBM X.K T r to t) := by
  intro pins s σ H Q I h
  refine wpAny_Call_method_late hbase hfew hline rfl (thn (ho pins s σ H _ I h) fun v s1 ⟨x, H1, I1, r1, ty, q1⟩ => ?_)
  obtain ⟨h1, h2⟩ := qqi I1 r1 ty
  refine ⟨T, id, pa, slot, hty, h1, h2, ?_⟩
  have hA := ha cpos pins s1 σ H1 _ I1 q1
  rw [hs] at hA ⊢
  refine Calls.callWith_builtin (by show (false || (backTo cpos (starEach es X.env)).any (·.1)) = false; rw [hplain] <;> rfl) (Calls.evalArgs_plain ?_)
  exact thn hA fun us s2 ⟨vs, H2, I2, r2, q2⟩ => hm pins s2 σ H2 x vs v us Q I2 r1 r2 q2
end
end L2
namespace L2
open PySem PySem.Spec PyProof.Rows
noncomputable def MtM (X : Cx) (id : String) (r : V → List V → Hp → VK → Prop) : Prop :=
  ∀ (pins : List (Addr × Obj)) (s : Shared) (σ : St) (H : Hp) (x : V) (xs : List V) (v : Value) (us : List Value) (Q : VK), Inv X pins σ H s → RelV x v → Vals xs us → r x xs H Q →
    wpAny (model X.prog X.w) X.A (call (.builtin id) (v :: us)) (EP X pins σ Q) X.xe s
theorem Vals.one : ∀ {x : V} {us : List Value}, Vals [x] us → ∃ u, us = [u] ∧ RelV x u
  | _, _, .cons r .nil => ⟨_, rfl, r⟩
theorem Vals.two : ∀ {x y : V} {us : List Value}, Vals [x, y] us → ∃ u v, us = [u, v] ∧ RelV x u ∧ RelV y v
  | _, _, _, .cons r (.cons q .nil) => ⟨_, _, rfl, r, q⟩
theorem Vals.zero : ∀ {us : List Value}, Vals [] us → us = []
  | _, .nil => rfl
theorem Vals.dropLast {xs : List V} {us : List Value} (h : Vals xs us) : Vals xs.dropLast us.dropLast := by
  induction h with
  | nil => exact .nil
  | cons r t ih =>
    cases t with
    | nil => exact .nil
    | cons q t' => exact .cons r ih
theorem Vals.reverse {xs : List V} {us : List Value} (h : Vals xs us) : Vals xs.reverse us.reverse := by
  induction h with
  | nil => exact .nil
  | cons r t ih => rw [List.reverse_cons, List.reverse_cons]; exact Vals.append ih (.cons r .nil)
theorem Vals.rep {xs : List V} {us : List Value} (h : Vals xs us) : ∀ k : Nat, Vals (List.replicate k xs).flatten (List.replicate k us).flatten
  | 0 => .nil
  | k + 1 => by
    rw [List.replicate_succ, List.replicate_succ, List.flatten_cons, List.flatten_cons]
    exact Vals.append h (Vals.rep h k)
theorem qi9 (its : List Value) : ∀ (k : Nat) (acc : List Value),
    List.foldl (fun x1 x2 => x1 ++ x2) acc.toArray (List.replicate k its.toArray) = (acc ++ (List.replicate k its).flatten).toArray
  | 0, acc => by simp
  | k + 1, acc => by
    have e : acc.toArray ++ its.toArray = (acc ++ its).toArray := by simp
    have e2 : (acc ++ its) ++ (List.replicate k its).flatten = acc ++ (List.replicate (k + 1) its).flatten := by
      rw [List.replicate_succ, List.flatten_cons, List.append_assoc]
    rw [← e2, ← qi9 its k (acc ++ its), ← e, List.replicate_succ, List.foldl_cons]
section
variable {X : Cx} {pins : List (Addr × Obj)} {σ : St} {H : Hp} {s : Shared} {l b : Addr} {xs ys zs : List V}
theorem Inv.lset {its its' : List Value} {n : Nat} {f : Array Value → Array Value} {t' : Nat} (I : Inv X pins σ H s) (hH : H l = some (.lst xs))
    (e : s.heap.get? l = some { cls := .type "list", data := .seq its.toArray n }) (hf : f its.toArray = its'.toArray) (hv : Vals ys its') (hz : ys.length ≤ sizeLine) :
    Inv X pins σ (upd H l (.lst ys)) { s with heap := s.heap.update l (Obj.mapSeq f), toks := t' } := by
  have q := PySem.IsL.update e f
  rw [hf] at q
  refine I.write (x := l) (e := l) (by rw [hH]; exact trivial) (.inl rfl) (fun b' u hb hu => (Heap.get?_update_other s.heap (Obj.mapSeq f) (Ne.symm hb)).trans hu) ⟨_, q⟩ ?_
  exact ⟨hz, its', _, hv, q⟩
theorem Inv.lnew {its : List Value} {t' : Nat} (I : Inv X pins σ H s) (hv : Vals ys its) (hz : ys.length ≤ sizeLine) :
    Inv X pins σ (upd H s.heap.objs.size (.lst ys)) { s with heap := s.heap.push { cls := .type "list", data := .seq its.toArray }, toks := t' } :=
  I.laid (fun _ _ q => Heap.get?_push_of_some _ q) (Nat.le_refl _) ⟨hz, its, 0, hv, Heap.get?_push_size _ rfl⟩
theorem Inv.fresh (I : Inv X pins σ H s) : H s.heap.objs.size = none := I.hok.fresh (Nat.le_refl _)
theorem Inv.lstM (I : Inv X pins σ H s) (hH : H l = some (.lst xs)) : xs.length ≤ sizeLine ∧ ∃ (its : List Value) (n : Nat), Vals xs its ∧ xs.length = its.length ∧ s.heap.get? l = some { cls := .type "list", data := .seq its.toArray n } := by
  obtain ⟨z, its, n, r, e⟩ := I.hok l _ hH
  exact ⟨z, its, n, r, r.length, e⟩
theorem qkr {n : Nat} (h : n ≤ sizeLine) : Builtin.List.listTooLong n = false := by
  unfold Builtin.List.listTooLong
  exact decide_eq_false (by omega)
end
section
variable {X : Cx}
noncomputable def qdW : V → List V → Hp → VK → Prop := fun x vs H Q => ∃ l xs y, x = .ref l ∧ vs = [y] ∧ H l = some (.lst xs) ∧ xs.length < sizeLine ∧ Q .non (upd H l (.lst (xs ++ [y])))
theorem qdX : MtM X "list.append" qdW := by
  intro pins s σ H x vs v us Q I rx rv h
  obtain ⟨l, xs, y, rfl, rfl, hH, hz, q⟩ := h
  cases rx
  obtain ⟨u, rfl, ru⟩ := rv.one
  obtain ⟨z, its, n, r, hl, e⟩ := I.lstM hH
  refine call_meets F.slot_list_append ⟨_, e, rfl⟩ F.entry_list_append (F.args_list_append_2 _ _) (PySem.list_append l its.toArray n u (by rw [List.size_toArray]; omega)) ⟨e, ?_⟩
  refine ⟨.non, _, I.lset (its' := its ++ [u]) hH e (by simp) (r.append (.cons ru .nil)) ?_, rfl, q⟩
  rw [List.length_append, List.length_singleton]
  omega
noncomputable def qh1 : V → List V → Hp → VK → Prop := fun x vs H Q => ∃ l b xs zs, x = .ref l ∧ vs = [.ref b] ∧ H l = some (.lst xs) ∧ H b = some (.lst zs) ∧ xs.length + zs.length ≤ sizeLine ∧ Q .non (upd H l (.lst (xs ++ zs)))
theorem qlY : MtM X "list.extend" qh1 := by
  intro pins s σ H x vs v us Q I rx rv h
  obtain ⟨l, b, xs, zs, rfl, rfl, hH, hB, hz, q⟩ := h
  cases rx
  obtain ⟨u, rfl, ru⟩ := rv.one
  cases ru
  obtain ⟨z, its, n, r, hl, e⟩ := I.lstM hH
  obtain ⟨z2, its2, n2, r2, hl2, e2⟩ := I.lstM hB
  have hsz : its.toArray.size + its2.toArray.size ≤ sizeLine := by rw [List.size_toArray, List.size_toArray]; omega
  have hlong : ¬ (!its.toArray.isEmpty && Builtin.List.listTooLong (its.toArray.size + its2.toArray.size)) = true := by
    rw [qkr hsz, Bool.and_false]
    exact Bool.false_ne_true
  refine call_meets F.slot_list_extend ⟨_, e, rfl⟩ F.entry_list_extend (F.args_list_extend_2 _ _)
    (AutoSeq1.list_extend_list_list_0 l its.toArray n b its2.toArray n2 hlong (by rw [List.size_toArray]; omega) (by omega)) ⟨e, e2, ?_⟩
  refine ⟨.non, _, I.lset (its' := its ++ its2) hH e (by simp) (r.append r2) ?_, rfl, q⟩
  rw [List.length_append]
  omega
noncomputable def qr3 : V → List V → Hp → VK → Prop := fun x vs H Q => ∃ l xs y, x = .ref l ∧ vs = [] ∧ H l = some (.lst xs) ∧ xs[xs.length - 1]? = some y ∧ Q y (upd H l (.lst xs.dropLast))
noncomputable def qro : R2 := fun x y H Q => ∃ l b xs zs, x = .ref l ∧ y = .ref b ∧ H l = some (.lst xs) ∧ H b = some (.lst zs) ∧ xs.length + zs.length ≤ sizeLine ∧ ∀ p, H p = none → Q (.ref p) (upd H p (.lst (xs ++ zs)))
theorem qqj : OpR X (binaryOp .Add) qro := by
  intro pins s σ H x y v u Q I rx ry h
  obtain ⟨l, b, xs, zs, rfl, rfl, hH, hB, hz, q⟩ := h
  cases rx
  cases ry
  obtain ⟨z, its, n, r, hl, e⟩ := I.lstM hH
  obtain ⟨z2, its2, n2, r2, hl2, e2⟩ := I.lstM hB
  refine PySem.P.add_list e e2 ?_ (by rw [List.size_toArray, List.size_toArray]; omega)
  have ea : its.toArray ++ its2.toArray = (its ++ its2).toArray := by simp
  rw [ea]
  exact ⟨.ref _, _, I.lnew (t' := s.toks) (r.append r2) (by rw [List.length_append]; omega), rfl, q _ I.fresh⟩
noncomputable def qo7 : R2 := fun x y H Q => ∃ l k xs, x = .ref l ∧ y = .int k ∧ H l = some (.lst xs) ∧ -(2 ^ 63) ≤ k ∧ k < 2 ^ 63 ∧ xs.length * k.toNat ≤ sizeLine ∧
  ∀ p, H p = none → Q (.ref p) (upd H p (.lst (List.replicate k.toNat xs).flatten))
theorem qo8 {α : Type} (xs : List α) (k : Nat) : (List.replicate k xs).flatten.length = k * xs.length := by
  induction k with
  | zero => simp
  | succ k ih => rw [List.replicate_succ, List.flatten_cons, List.length_append, ih, Nat.succ_mul, Nat.add_comm]
theorem qks : OpR X (binaryOp .Mult) qo7 := by
  intro pins s σ H x y v u Q I rx ry h
  obtain ⟨l, k, xs, rfl, rfl, hH, h1, h2, hz, q⟩ := h
  cases rx
  obtain ⟨t, rfl⟩ := ry
  obtain ⟨z, its, n, r, hl, e⟩ := I.lstM hH
  have hlen : its.toArray.size * k.toNat ≤ sizeLine := by rw [List.size_toArray, ← hl]; exact hz
  have hcap : ¬ its.toArray.size * k.toNat > (2 ^ 63 - 1) / 8 := by
    have : (sizeLine : Nat) ≤ (2 ^ 63 - 1) / 8 := by decide
    omega
  have hfit : ¬ (!Builtin.List.listFitsIndex k) = true := by
    rw [fitsIndex_both h1 h2]
    exact Bool.false_ne_true
  have hlong : ¬ Builtin.List.listTooLong (its.toArray.size * k.toNat) = true := by
    rw [qkr hlen]
    exact Bool.false_ne_true
  have hnew : List.foldl (fun x1 x2 => x1 ++ x2) #[] (List.replicate (if its.toArray.isEmpty = true then 0 else k.toNat) its.toArray) = (List.replicate k.toNat its).flatten.toArray := by
    have f0 : ∀ m : Nat, List.foldl (fun x1 x2 => x1 ++ x2) #[] (List.replicate m its.toArray) = (List.replicate m its).flatten.toArray := fun m => by
      have := qi9 its m []
      rw [List.nil_append] at this
      exact this
    rw [f0]
    cases its with
    | nil => simp
    | cons a r' => rw [if_neg (by simp)]
  refine wpAny_binaryOp_repeat_ref (T := "list") (U := "int") (by decide) ⟨_, e, rfl⟩ (fun s' => typeIs_int s' k t) noFill_list_mul F.fills_int_mul F.slot_int_rmul repeat_list F.slot_int_index.lookup
    (call_meets F.slot_int_rmul (typeIs_int s k t) F.entry_int_rmul (F.args_int_rmul_2 _ _) (int___rmul___int_list k t l its.toArray n)
      ⟨e, rfl, ⟨_, e, rfl⟩, call_meets F.slot_list_mul ⟨_, e, rfl⟩ F.entry_list_mul (F.args_list_mul_2 _ _) (AutoListH.list___mul___list_int_3 l its.toArray n k t hfit hcap hlong) ⟨e, ?_⟩⟩)
  rw [hnew]
  exact ⟨.ref _, _, I.lnew (t' := s.toks) (r.rep k.toNat) (by rw [qo8, Nat.mul_comm]; exact hz), rfl, q _ I.fresh⟩
end
section
variable {prog : Program} {w : World} {A : Around} {E : Value → Shared → Prop} {s : Shared}
end
section
variable {X : Cx}
end
end L2
namespace Att
open PySem PySem.W PySem.Calls PyProof.Rows
theorem qgo {P : Params} {h : Heap} : ∀ (ns : List Int) (vs : List Value), WellAll P h vs (ns.map WData.int) → IntsAre vs ns := by
  intro ns
  induction ns with
  | nil =>
    intro vs w
    rw [List.map_nil] at w
    cases w
    exact .nil
  | cons n ns ih =>
    intro vs w
    rw [List.map_cons] at w
    cases w with
    | cons a b =>
      cases a
      exact .cons _ _ (ih _ b)
theorem qlZ {l : OpenLaw} {n : Nat} (hn : l.most = some n) {P : Params} {h : Heap} {args : List WData} {vals : List Value}
    (hpre : l.row.toRowW.claim.pre args = true) (hwl : WellAll P h vals args) :
    ∃ a vs ns, vals = [Value.ref a] ∧ args = [WData.list (ns.map WData.int)] ∧ h.get? a = some { cls := .type "list", data := .seq vs.toArray } ∧ IntsAre vs ns ∧ ns.length ≤ n := by
  have hsh : WShape.hasAll [] args [.list .int] = true := (pre_splitW hpre).1
  have hc : l.pre.holds [] { args := args } = true := (pre_splitW hpre).2
  obtain ⟨d, r, rfl, h1, h2⟩ := hasAllW_cons hsh
  obtain rfl := hasAllW_nil h2
  obtain ⟨xs, rfl, h3⟩ := hasW_list h1
  obtain ⟨ns, rfl⟩ := items_int h3
  have hlen : ns.length ≤ n := by
    unfold OpenLaw.pre at hc
    have h4 : (WTm.not (.lt (.lit (.int (n : Int))) (.len (.arg 0)))).holds [] { args := [.list (ns.map .int)] } = true := by
      have h4 := (holds_andW hc).1
      rw [hn] at h4
      exact h4
    have h5 := condW_of h4 (w_not (w_lt w_lit (w_len_list (w_arg rfl))))
    rw [List.length_map] at h5
    refine Nat.le_of_not_lt fun q => ?_
    have q' : (n : Int) < ((ns.length : Nat) : Int) := by omega
    first
      | (rw [decide_eq_true q'] at h5; exact absurd h5 (by decide))
      | (simp at h5; omega)
  cases hwl with
  | cons w1 w2 =>
    cases w2
    cases w1 with
    | list ho hall => exact ⟨_, _, ns, rfl, rfl, ho, qgo ns _ hall, hlen⟩
theorem ql0 (l : OpenLaw) (args : List WData) : l.row.toRowW.claim.post args (.bool true) args = true :=
  postW_of (r := l.row.toRowW) (X := (true == true))
    (show WShape.has [] (.bool true) .bool = true by first | rfl | decide | simp [WShape.has, WShape.arms, WShape.armsAll])
    (show (WTm.eq .res (.lit (.bool true))).value [] { args := args, res := some (.bool true), after := args } = some (.bool (true == true)) from w_eq_bool (w_res rfl) w_lit) rfl
theorem attach_call {l : OpenLaw} {n : Nat} {q : Program} {loose : List Str} {XP : (Str → Option Value) → Heap → Prop} {YP : World → Heap → Prop} {d : DefRec}
    (hn : l.most = some n) (hdf : d.params.defaults = [])
    (call : ∀ (w : World) (s₀ s₁ : Shared) (mg mb : Str → Option Value) (fa : Addr) (o : Obj) (pm cd doc : Value) (a : Addr) (vs : List Value) (ns : List Int),
      Ground q loose [] XP w s₀ mg mb s₁.heap → YP w s₁.heap →
      s₁.heap.get? fa = some o → o.data = .func (docDef d.name d.params d.body d.scope pm cd doc) → s₁.heap.CodeRec cd d.name → mg d.name = some (.ref fa) →
      s₁.heap.get? a = some { cls := .type "list", data := .seq vs.toArray } → IntsAre vs ns → ns.length ≤ n → s₁.gens = #[] →
      codeAny (model l.prog w) callerA (.call (.ref fa) ⟨[.ref a], []⟩) (fun r s' => r = .ok (.ret (.bool true)) ∧ OldK s₁.heap s'.heap ∧ s'.os = s₁.os ∧ AllBare s'.gens) s₁) :
    WalkO q loose XP YP l.row.toRowW d [] (fun f vs => PySem.call f vs) := by
  intro w s₀ s₁ mg mb G Y fa o pm cd doc dV kV ho hd hcd hD hmg hg args vals as hpre hlay hrd hwl hlo
  obtain rfl : dV = .none := Dflts.none hD hdf
  obtain rfl : kV = .none := Dflts.noKw hD
  obtain ⟨a, vs, ns, rfl, rfl, hobj, hints, hlen⟩ := qlZ hn hpre hwl
  refine enter_call (codeAny_mono (call w s₀ s₁ mg mb fa o pm cd doc a vs ns G Y ho (fd_plain hd) hcd hmg hobj hints hlen hg) fun r s' hq => ?_)
  obtain ⟨rfl, h2, h3, h4⟩ := hq
  exact ⟨.inl ⟨.bool true, .bool true, [], rfl, fun _ => rfl, .bool true, ql0 l _, fun _ => ⟨List.Pairwise.nil, fun _ hm => (nomatch hm)⟩⟩, h2, h3, h4⟩
section
variable {prog : Program} {w : World} {A : Around} {E : Value → Shared → Prop} {s : Shared} {K : Frag}
end
end Att
namespace L2
open PySem PySem.Spec PyProof.Rows
theorem qja : ∀ {vs : List Value} {ns : List Int}, IntsAre vs ns → Vals (ns.map V.int) vs
  | _, _, .nil => .nil
  | _, _, .cons n t h => .cons ⟨t, rfl⟩ (qja h)
noncomputable def Only (H : Hp) : Prop := ∀ b, H b = none ∨ ∃ o xs, H b = some (.frz o (.lst xs))
theorem qnL {P : Program} {w : World} {K : PySem.W.Frag} {mg mb : Str → Option Value} {CX : CXT} {k : Nat} {fa a : Addr} {fd : FuncData} {x : Str} {sp : Sp} {s₁ : Shared} {vs : List Value} {ns : List Int}
    (KX : K.In s₁.heap) (hns : s₁.heap.Ns mainGlobals mg) (hb : s₁.heap.Ns builtinsNs mb) (hbb : ∀ x : Str, x ≠ "__name__" → mb x = bootBuiltins x) (hlim : s₁.heap.NoLimit) (hseer : s₁.heap.NoSeer) (htree : (model P w).prog.given.tree = none) (hg : s₁.gens = #[])
    (ha : s₁.heap.get? a = some { cls := .type "list", data := .seq vs.toArray }) (hi : IntsAre vs ns) (hl : ns.length ≤ sizeLine) (hr : Room k callerA)
    (F : ∀ base : Heap, K.In base → base.Ns mainGlobals mg → FnOk P w K mg base CX k fa fd [x] sp) (hbind : ∀ (s : Shared) (u : Value), BindsTo s fd ⟨[u], []⟩ [(x, u)])
    (hsp : ∀ H : Hp, Only H → SqL K H a (ns.map V.int) → sp [.ref a] H (fun v _ => v = .bl true) fun _ _ _ => False)
    (hCX : ∀ H e s', CX [] H s₁ (fun _ _ _ => False) e s' → False) :
    codeAny (model P w) callerA (.call (.ref fa) ⟨[.ref a], []⟩) (fun r s' => r = .ok (.ret (.bool true)) ∧ OldK s₁.heap s'.heap ∧ s'.os = s₁.os ∧ AllBare s'.gens) s₁ := by
  have rv := qja hi
  have lenV := hi.length
  have core : ∀ H : Hp, Only H → SqL K H a (ns.map V.int) → HOk P w H s₁.heap → (∀ b, H b ≠ none → b = a) → (H a ≠ none → K.lookup a = none) →
      codeAny (model P w) callerA (.call (.ref fa) ⟨[.ref a], []⟩) (fun r s' => r = .ok (.ret (.bool true)) ∧ OldK s₁.heap s'.heap ∧ s'.os = s₁.os ∧ AllBare s'.gens) s₁ := by
    intro H hO hS hok hA hK
    have base_of : ∀ {b : Addr} {o : Obj}, s₁.heap.get? b = some o → H b = none → (qnB s₁.heap H).get? b = some o := fun e n => qnE e n
    have noA : ∀ {b : Addr} {o : Obj} {es : Array DictEntry} {ep : Nat}, s₁.heap.get? b = some o → o.data = .dict es ep → H b = none := fun {b o es ep} e d => by
      cases q : H b with
      | none => rfl
      | some u =>
        have e' : b = a := hA b (by rw [q]; simp)
        subst e'
        rw [ha] at e; cases e
        have d' : Data.seq vs.toArray _ = Data.dict es ep := d
        cases d'
    have nsK : ∀ {b : Addr} {m : Str → Option Value}, s₁.heap.Ns b m → (qnB s₁.heap H).Ns b m := fun {b m} ⟨o, es, ep, e, d, r⟩ => ⟨o, es, ep, base_of e (noA e d), d, r⟩
    have hKb : K.In (qnB s₁.heap H) := fun b o e => base_of (KX b o e) (by
      cases q : H b with
      | none => rfl
      | some u =>
        have e' : b = a := hA b (by rw [q]; simp)
        subst e'
        rw [hK (by rw [q]; simp)] at e; cases e)
    have hM : Mod K mg (qnB s₁.heap H) := ⟨hKb, nsK hns, ⟨mb, nsK hb, hbb⟩, let ⟨mc, h1, h2⟩ := hlim; ⟨mc, nsK h1, h2⟩⟩
    have hSe : (qnB s₁.heap H).NoSeer := ⟨let ⟨mc, a, b⟩ := hseer.statics; ⟨mc, nsK a, b⟩, let ⟨mc, a, b⟩ := hseer.mods; ⟨mc, nsK a, b⟩, let ⟨mc, a, b⟩ := hseer.imp; ⟨mc, nsK a, b⟩,
      let ⟨mg', bm, ob, a', b', c', d', e'⟩ := hseer.main; ⟨mg', bm, ob, nsK a', b', base_of c' (by
        cases q : H bm with
        | none => rfl
        | some u =>
          have z : bm = a := hA bm (by rw [q]; simp)
          subst z
          rw [ha] at c'; cases c'
          simp at d'), d', e'⟩⟩
    have e0 : Env0 P w K mg (qnB s₁.heap H) callerA [] s₁ H := ⟨rfl, hM, fun b o e => qoV e, Nat.le_of_eq (qlB _ _), trivial, fun b hb => absurd (show b ∈ ([] : List Addr) from hb) (by simp), hok, .of_eq hg, hSe, htree⟩
    refine codeAny_mono ((F _ hKb (nsK hns)).run callerA [] s₁ H ⟨[.ref a], []⟩ [.ref a] [.ref a] _ _ hr e0 (hbind s₁ (.ref a)) (.cons rfl .nil) (hsp H hO hS)) fun r s' h => ?_
    cases r with
    | error e => exact (hCX H e s' h).elim
    | ok fl =>
      cases fl with
      | next => exact False.elim h
      | brk => exact False.elim h
      | cont => exact False.elim h
      | ret u =>
        obtain ⟨v, H', os, bare, un, hok', r', q⟩ := h
        have q' : v = .bl true := q
        subst q'
        obtain rfl : u = Value.bool true := r'
        refine ⟨rfl, OldK.of_keep fun b o e => ?_, os, bare⟩
        cases q : H b with
        | none => exact un.keep b o e q (by intro z; exact absurd (show b ∈ ([] : List Addr) from z) (by simp)) (by simp)
        | some u =>
          rcases hO b with z | ⟨ob, xs, z⟩
          · rw [q] at z; cases z
          · have z2 := un.frzs b ob _ z
            obtain ⟨e1, _⟩ := hok b _ z
            obtain ⟨e2, _⟩ := hok' b _ z2
            rw [e] at e1; cases e1
            exact e2
  cases hk : K.lookup a with
  | some o =>
    have e := KX a o hk
    rw [ha] at e
    cases e
    refine core (fun _ => none) (fun _ => .inl rfl) (.inr ⟨_, vs.toArray, _, hk, rfl, rfl, rfl, by rw [List.size_toArray, lenV]; exact hl, by simpa using rv⟩) (fun b u z => by have z' : (none : Option HO) = some u := z; cases z') (fun b z => absurd rfl z) fun z => absurd rfl z
  | none =>
    refine core (fun b => if b = a then some (.frz { cls := .type "list", data := .seq vs.toArray } (.lst (ns.map V.int))) else none) (fun b => ?_) (.inl (.inr ⟨{ cls := .type "list", data := .seq vs.toArray }, if_pos rfl⟩)) (fun b u z => ?_) (fun b z => ?_) fun _ => hk
    · by_cases hb : b = a
      · exact .inr ⟨_, _, if_pos hb⟩
      · exact .inl (if_neg hb)
    · by_cases hb : b = a
      · have z' := (if_pos hb).symm.trans z
        cases z'
        subst hb
        exact ⟨ha, by rw [List.length_map]; exact hl, vs, _, rv, ha⟩
      · have z' := (if_neg hb).symm.trans z
        cases z'
    · by_cases hb : b = a
      · exact hb
      · exact absurd (if_neg hb) z
end L2
namespace L2
open PySem PySem.Spec PyProof.Rows
theorem walk_of {l : PySem.W.OpenLaw} {n k : Nat} {q : Program} {loose : List Str} {XP : (Str → Option Value) → Heap → Prop} {YP : World → Heap → Prop} {d : DefRec} {K : Params → PySem.W.Frag} {CX : World → CXT} {sp : World → Sp} {x : Str}
    (hn : l.most = some n) (hn2 : n ≤ sizeLine) (hdf : d.params.defaults = []) (hq : importsNone q = true) (htree : ∀ w, (model l.prog w).prog.given.tree = none) (hr : Room k callerA)
    (hY : ∀ (w : World) (h : Heap), YP w h → (K w.params).In h)
    (F : ∀ (w : World) (mg : Str → Option Value) (fa : Addr) (h : Heap), (K w.params).In h → h.Ns mainGlobals mg → mg d.name = some (.ref fa) →
      ∃ fd : FuncData, (∀ (s : Shared) (u : Value), BindsTo s fd ⟨[u], []⟩ [(x, u)]) ∧
        ∀ base : Heap, (K w.params).In base → base.Ns mainGlobals mg → FnOk l.prog w (K w.params) mg base (CX w) k fa fd [x] (sp w))
    (hsp : ∀ (w : World) (H : Hp) (a : Addr) (ns : List Int), ns.length ≤ n → Only H → SqL (K w.params) H a (ns.map V.int) → sp w [.ref a] H (fun v _ => v = .bl true) fun _ _ _ => False)
    (hCX : ∀ (w : World) (H : Hp) (s : Shared) (e : Value) (s' : Shared), CX w [] H s (fun _ _ _ => False) e s' → False) :
    PySem.W.WalkO q loose XP YP l.row.toRowW d [] (fun f vs => PySem.call f vs) := by
  refine Att.attach_call hn hdf fun w s₀ s₁ mg mb fa o pm cd doc a vs ns G Y ho hd hcd hmg hobj hints hlen hg => ?_
  have KX := hY w _ Y
  obtain ⟨fd, hb, hF⟩ := F w mg fa _ KX G.T.g hmg
  exact qnL KX G.T.g G.T.b G.T.builtins G.T.nolimit (G.T.seer hq) (htree w) hg hobj hints (Nat.le_trans hlen hn2) hr hF hb (fun H hO hS => hsp w H a ns hlen hO hS) fun H e s' => hCX w H s₁ e s'
end L2
namespace L2
open PySem PySem.Spec PyProof.Rows
noncomputable def qez (s : Stmt) : Arguments := match s with
  | .FunctionDef _ a _ _ _ _ _ _ _ _ => a
  | _ => { posonlyargs := [], args := [], vararg := none, kwonlyargs := [], kw_defaults := [], kwarg := none, defaults := [] }
noncomputable def qdY (s : Stmt) : List Stmt := match s with
  | .FunctionDef _ _ b _ _ _ _ _ _ _ => b
  | _ => []
noncomputable def qan (s : Stmt) : Scope := match s with
  | .FunctionDef _ _ _ _ _ _ sc _ _ _ => sc
  | _ => { kind := .function, names := [], isGenerator := false, isCoroutine := false }
noncomputable abbrev CX0 : CXT := fun _ _ _ _ _ _ => False
noncomputable abbrev E0 : XK := fun _ _ _ => False
theorem qrC {X : Cx} : Passes CX0 X E0 := fun _ _ _ _ _ _ _ h => h.elim
structure Fun (K : PySem.W.Frag) (x qual : Str) (st : Stmt) (f : Addr) (fd : FuncData) : Prop where
  ex : ∃ (oc : Value) (od : Option Addr) (kV doc pm : Value) (an : Option Addr) (cdv ct : Value) (osl : Array (Option Value)),
    fd = PySem.W.fnOf x qual (qez st) (qdY st) (qan st) .none kV doc pm an cdv ct ∧ K.lookup f = some ⟨oc, od, .func fd, osl⟩ ∧ PySem.W.codeIn K cdv qual = true
  kp : PySem.W.keepIn K (.ref f) = true
section
variable {P : Program} {w : World} {K : PySem.W.Frag} {mg : Str → Option Value} {base : Heap}
theorem Fun.ok {x qual : Str} {st : Stmt} {f : Addr} {fd : FuncData} {N ps : List Str} {k : Nat} {sp : Sp} (F : Fun K x qual st f fd) (S : FnScope N ps (qan st)) (len : ∀ vs H Q E, sp vs H Q E → vs.length = ps.length)
    (hbody : ∀ (cdv : Value) (A : Around) (outer : List Env) (s : Shared) (H : Hp) (vs : List V) (Q : VK) (E : XK), Room k (A.deeper (envOfC qual (qan st) s.heap.objs.size f cdv)) → sp vs H Q E →
      ∃ t, PSs (qpV CX0 P w K mg base N qual (qan st) f cdv A outer s H E).nox (qdY st) t ∧ t { nx := fun _ H' => Q .non H', rt := Q } (start N vs) H) : FnOk P w K mg base CX0 (k + 1) f fd ps sp := by
  obtain ⟨oc, od, kV, doc, pm, an, cdv, ct, osl, rfl, lk, hcd⟩ := F.ex
  refine qrB lk hcd S len fun A outer s H vs Q E hr hsp => ?_
  obtain ⟨t, h, q⟩ := hbody cdv A outer s H vs Q E hr hsp
  exact ⟨t, h.nox, q⟩
theorem Fun.binds {x qual : Str} {st : Stmt} {f : Addr} {fd : FuncData} {ps : List Str} (F : Fun K x qual st f fd)
    (h : ∀ (kV doc pm : Value) (an : Option Addr) (cdv ct : Value) (us : List Value), us.length = ps.length → bindArgs (PySem.W.fnOf x qual (qez st) (qdY st) (qan st) .none kV doc pm an cdv ct) ⟨us, []⟩ = pure (ps.zip us)) : Binds K fd ps [] := by
  obtain ⟨oc, od, kV, doc, pm, an, cdv, ct, osl, rfl, lk, hcd⟩ := F.ex
  exact .all (h kV doc pm an cdv ct)
theorem qqk {x qual : Str} {st : Stmt} {f : Addr} {oc : Value} {od an : Option Addr} {osl : Array (Option Value)} {kV doc pm cdv ct : Value} (l : K.lookup f = some ⟨oc, od, .func (PySem.W.fnOf x qual (qez st) (qdY st) (qan st) .none kV doc pm an cdv ct), osl⟩)
    (c : PySem.W.codeIn K cdv qual = true) (k : PySem.W.keepIn K (.ref f) = true) : Fun K x qual st f (PySem.W.fnOf x qual (qez st) (qdY st) (qan st) .none kV doc pm an cdv ct) := ⟨⟨oc, od, kV, doc, pm, an, cdv, ct, osl, rfl, l, c⟩, k⟩
end
section
variable {X : Cx}
theorem pv (i : Nat) {x : Str} {pos : Pos} (hN : X.N[i]? = some x := by rfl) (hv : Vis X.env.scope x := by first | exact Or.inl rfl | exact Or.inr (Or.inl rfl) | exact Or.inr (Or.inr rfl)) (hd : (x == ("__debug__" : Str)) = false := by decide)
    (hcd : (x == ("__classdict__" : Str)) = false := by decide) : PE X (.Name x pos) (qaf i) := qp7 hN hv hd hcd
end
theorem qcM {c A B : Prop} [Decidable c] (h1 : c → A) (h2 : ¬ c → B) : if c then A else B := by
  by_cases h : c
  · rw [if_pos h]
    exact h1 h
  · rw [if_neg h]
    exact h2 h
noncomputable def Same (H H' : Hp) : Prop := ∀ b o, H b = some o → H' b = some o
theorem Same.refl (H : Hp) : Same H H := fun _ _ h => h
theorem Same.trans {H H1 H2 : Hp} (a : Same H H1) (b : Same H1 H2) : Same H H2 := fun c o h => b c o (a c o h)
theorem Same.free {H H' : Hp} (e : Same H H') {l : Addr} (h : H' l = Option.none) : H l = Option.none := by
  cases q : H l with
  | none => rfl
  | some o =>
    rw [e l o q] at h
    cases h
theorem Same.seq {K : PySem.W.Frag} {H H' : Hp} {a : Addr} {xs : List V} (e : Same H H') (h : SqL K H a xs) : SqL K H' a xs := by
  rcases h with (h | ⟨o, h⟩) | h
  · exact .inl (.inl (e _ _ h))
  · exact .inl (.inr ⟨o, e _ _ h⟩)
  · exact .inr h
end L2
local macro_rules | `(tactic| omega) => `(tactic| lia)
namespace Bs.Hd
open PySem PySem.Spec PyProof.Rows L2
set_option maxRecDepth 100000
set_option maxHeartbeats 4000000
noncomputable def top (i:Nat):Stmt:=PySem.Challenge.pw_backslope_k15_parts_put_in.main.body.getD i (.Pass ⟨0,0,0,0⟩)
noncomputable abbrev qcf:Stmt:=top 2
noncomputable abbrev qh2:Stmt:=top 3
noncomputable abbrev qgp:Stmt:=top 4
noncomputable abbrev qdk:Stmt:=top 5
noncomputable abbrev qdZ:Stmt:=top 6
noncomputable abbrev qeA:Stmt:=top 7
noncomputable abbrev qfn:Stmt:=top 8
noncomputable abbrev qfo:Stmt:=top 9
noncomputable abbrev qdl:Stmt:=top 10
noncomputable abbrev qbM:Stmt:=top 11
noncomputable abbrev qct:Stmt:=top 12
noncomputable abbrev qcu:Stmt:=top 13
noncomputable abbrev qcg:Stmt:=top 14
noncomputable abbrev qc2:Stmt:=top 15
noncomputable abbrev qd0:Stmt:=top 16
noncomputable abbrev qc3:Stmt:=top 17
noncomputable abbrev qc4:Stmt:=top 18
noncomputable abbrev qdm:Stmt:=top 19
noncomputable abbrev qcv:Stmt:=top 20
noncomputable abbrev qgq:Stmt:=top 21
noncomputable abbrev qbT:Stmt:=top 22
noncomputable abbrev qd1:Stmt:=top 23
noncomputable abbrev qd2:Stmt:=top 24
noncomputable abbrev qjR:Stmt:=top 26
noncomputable abbrev ql1:Stmt:=top 28
noncomputable abbrev qgr:Stmt:=top 29
noncomputable abbrev qeB:Stmt:=top 30
noncomputable abbrev qc5:Stmt:=top 32
noncomputable abbrev qd3:Stmt:=top 33
noncomputable abbrev qgs:Stmt:=top 34
noncomputable abbrev qh3:Stmt:=top 36
noncomputable abbrev qh4:Stmt:=top 37
noncomputable abbrev qfp:Stmt:=top 38
noncomputable abbrev qdn:Stmt:=top 39
noncomputable abbrev qeC:Stmt:=top 40
noncomputable abbrev qh5:Stmt:=top 41
noncomputable abbrev qd4:Stmt:=top 42
noncomputable abbrev qgt:Stmt:=top 43
noncomputable abbrev qd5:Stmt:=top 44
noncomputable abbrev qeD:Stmt:=top 45
noncomputable abbrev qlf:Stmt:=top 46
noncomputable abbrev N:Value:=.none
noncomputable abbrev S (x:Str) (t:Tok):Value:=.str x t
noncomputable abbrev I (i:Int):Value:=.int i 0
noncomputable abbrev R (a:Addr):Value:=.ref a
noncomputable def en (P:Params) (k:Str) (t:Tok) (v:Value):DictEntry:=⟨PyData.keyHash P k,.str k t,v⟩
noncomputable def cdO (n:Str) (t:Tok) (l c u:Int) (a:Addr) (b g d e f:Value) (x:Int) (y:Tok):Obj:=⟨.type "code", none,.fields #[S n t,S n (t+1),S "/claim/cut.py" (t+2),I l,I c,I 0,I 0,I u,R a,.bool true,I 181,b,g,d,e,f,I x,I l,S "/claim/cut.py" y],#[]⟩
noncomputable def fnO (n:Str) (s:Stmt) (pm:Value) (c:Addr):Obj:=⟨.type "function", none,.func (PySem.W.fnOf n n (qez s) (qdY s) (qan s) .none .none .none pm none (.ref c) .none),#[]⟩
noncomputable abbrev mo0:Value:=S "backslope.wholes" 187
noncomputable abbrev mo1:Value:=S "backslope.numbers" 392
noncomputable abbrev mo2:Value:=S "backslope.polys" 403
noncomputable abbrev mo3:Value:=S "backslope.parts" 425
noncomputable abbrev mo4:Value:=S "law_backslope_k15_parts_put_in" 453
noncomputable def hp (P:Params):W.Frag:=[
  (3,⟨.type "dict", none,.dict #[en P "__name__" 165 (S "law_backslope_k15_parts_put_in" 453),en P "__doc__" 166 N,en P "__package__" 167 N,en P "__loader__" 168 (.builtin "__main__.__loader__#opaque"),en P "__spec__" 169 N,en P "__annotations__" 170 (R 6),en P "__builtins__" 171 (R 4),en P "__file__" 173 (S "/claim/cut.py" 172),en P "__cached__" 174 N,en P "EXPONENTS" 197 (R 15),en P "common_divisor" 206 (R 22),en P "raised" 216 (R 29),en P "content" 222 (R 34),en P "row_trimmed" 230 (R 41),en P "row_parted" 236 (R 46),en P "row_slope" 242 (R 51),en P "row_over" 256 (R 58),en P "row_less" 262 (R 63),en P "strand_rest" 268 (R 68),en P "strand_shortened" 274 (R 73),en P "row_shortened" 281 (R 80),en P "strand_euclid" 290 (R 87),en P "inverse_modulo" 304 (R 94),en P "rests_modulo" 310 (R 99),en P "row_modulo" 318 (R 106),en P "monic_modulo" 324 (R 111),en P "split_modulo" 339 (R 118),en P "rest_modulo" 348 (R 125),en P "euclid_modulo" 358 (R 132),en P "nearest" 367 (R 139),en P "common_by_prime" 373 (R 144),en P "row_common" 385 (R 151),en P "simple_row" 391 (R 156),en P "ratio" 402 (R 163),en P "poly" 412 (R 170),en P "cleared" 418 (R 175),en P "uncleared" 424 (R 180),en P "simple_parts" 438 (R 187),en P "made_monic" 445 (R 194),en P "radical" 452 (R 201),en P "_law_hand" 462 (R 208),en P "_law_draw" 474 (R 215),en P "_law_lowest" 484 (R 222),en P "_law_row_times" 497 (R 229),en P "_law_poly_of" 503 (R 234),en P "_law_root" 513 (R 241),en P "_law_rootless" 523 (R 248),en P "_law_scale" 530 (R 255),en P "_law_monic_of" 536 (R 260),en P "_law_factors" 542 (R 265),en P "law" 548 (R 270)] 51,#[]⟩),
  (15,⟨.type "tuple", none,.seq #[(.int 61 189),(.int 127 190),(.int 521 191),(.int 1279 192),(.int 4423 193),(.int 9941 194),(.int 21701 195),(.int 44497 196)] 0,#[]⟩),
  (21,cdO "common_divisor" 198 3 2 3 16 (R 17) N (R 18) (R 19) (R 20) 204 205),
  (22,fnO "common_divisor" (top 2) mo0 21),
  (28,cdO "raised" 207 9 2 3 23 (R 24) N (R 25) (R 26) (R 27) 214 215),
  (29,fnO "raised" (top 3) mo0 28),
  (33,cdO "content" 217 19 2 3 30 (R 31) N N N (R 32) 220 221),
  (34,fnO "content" (top 4) mo0 33),
  (40,cdO "row_trimmed" 223 26 1 3 35 (R 36) N (R 37) (R 38) (R 39) 228 229),
  (41,fnO "row_trimmed" (top 5) mo0 40),
  (45,cdO "row_parted" 231 31 2 3 42 (R 43) N N N (R 44) 234 235),
  (46,fnO "row_parted" (top 6) mo0 45),
  (50,cdO "row_slope" 237 33 1 3 47 (R 48) N N N (R 49) 240 241),
  (51,fnO "row_slope" (top 7) mo0 50),
  (57,cdO "row_over" 243 35 2 3 52 (R 53) N (R 54) (R 55) (R 56) 254 255),
  (58,fnO "row_over" (top 8) mo0 57),
  (62,cdO "row_less" 257 48 5 3 59 (R 60) N N N (R 61) 260 261),
  (63,fnO "row_less" (top 9) mo0 62),
  (67,cdO "strand_rest" 263 54 2 3 64 (R 65) N N N (R 66) 266 267),
  (68,fnO "strand_rest" (top 10) mo0 67),
  (72,cdO "strand_shortened" 269 64 1 3 69 (R 70) N N N (R 71) 272 273),
  (73,fnO "strand_shortened" (top 11) mo0 72),
  (79,cdO "row_shortened" 275 69 1 3 74 (R 75) N (R 76) (R 77) (R 78) 279 280),
  (80,fnO "row_shortened" (top 12) mo0 79),
  (86,cdO "strand_euclid" 282 71 2 3 81 (R 82) N (R 83) (R 84) (R 85) 288 289),
  (87,fnO "strand_euclid" (top 13) mo0 86),
  (93,cdO "inverse_modulo" 291 79 2 3 88 (R 89) N (R 90) (R 91) (R 92) 302 303),
  (94,fnO "inverse_modulo" (top 14) mo0 93),
  (98,cdO "rests_modulo" 305 93 2 3 95 (R 96) N N N (R 97) 308 309),
  (99,fnO "rests_modulo" (top 15) mo0 98),
  (105,cdO "row_modulo" 311 95 2 3 100 (R 101) N (R 102) (R 103) (R 104) 316 317),
  (106,fnO "row_modulo" (top 16) mo0 105),
  (110,cdO "monic_modulo" 319 97 2 3 107 (R 108) N N N (R 109) 322 323),
  (111,fnO "monic_modulo" (top 17) mo0 110),
  (117,cdO "split_modulo" 325 102 3 3 112 (R 113) N (R 114) (R 115) (R 116) 337 338),
  (118,fnO "split_modulo" (top 18) mo0 117),
  (124,cdO "rest_modulo" 340 113 3 3 119 (R 120) N (R 121) (R 122) (R 123) 346 347),
  (125,fnO "rest_modulo" (top 19) mo0 124),
  (131,cdO "euclid_modulo" 349 115 3 3 126 (R 127) N (R 128) (R 129) (R 130) 356 357),
  (132,fnO "euclid_modulo" (top 20) mo0 131),
  (138,cdO "nearest" 359 123 2 3 133 (R 134) N (R 135) (R 136) (R 137) 365 366),
  (139,fnO "nearest" (top 21) mo0 138),
  (143,cdO "common_by_prime" 368 126 3 3 140 (R 141) N N N (R 142) 371 372),
  (144,fnO "common_by_prime" (top 22) mo0 143),
  (150,cdO "row_common" 374 135 2 3 145 (R 146) N (R 147) (R 148) (R 149) 383 384),
  (151,fnO "row_common" (top 23) mo0 150),
  (155,cdO "simple_row" 386 144 1 3 152 (R 153) N N N (R 154) 389 390),
  (156,fnO "simple_row" (top 24) mo0 155),
  (162,cdO "ratio" 394 149 2 3 157 (R 158) N (R 159) (R 160) (R 161) 400 401),
  (163,fnO "ratio" (top 26) mo1 162),
  (169,cdO "poly" 405 155 1 3 164 (R 165) N (R 166) (R 167) (R 168) 410 411),
  (170,fnO "poly" (top 28) mo2 169),
  (174,cdO "cleared" 413 160 1 3 171 (R 172) N N N (R 173) 416 417),
  (175,fnO "cleared" (top 29) mo2 174),
  (179,cdO "uncleared" 419 165 2 3 176 (R 177) N N N (R 178) 422 423),
  (180,fnO "uncleared" (top 30) mo2 179),
  (186,cdO "simple_parts" 427 168 1 3 181 (R 182) N (R 183) (R 184) (R 185) 436 437),
  (187,fnO "simple_parts" (top 32) mo3 186),
  (193,cdO "made_monic" 439 179 1 3 188 (R 189) N (R 190) (R 191) (R 192) 443 444),
  (194,fnO "made_monic" (top 33) mo3 193),
  (200,cdO "radical" 446 181 1 3 195 (R 196) N (R 197) (R 198) (R 199) 450 451),
  (201,fnO "radical" (top 34) mo3 200),
  (207,cdO "_law_hand" 455 184 1 3 202 (R 203) N (R 204) (R 205) (R 206) 460 461),
  (208,fnO "_law_hand" (top 36) mo4 207),
  (214,cdO "_law_draw" 463 187 2 3 209 (R 210) N (R 211) (R 212) (R 213) 472 473),
  (215,fnO "_law_draw" (top 37) mo4 214),
  (221,cdO "_law_lowest" 475 200 2 3 216 (R 217) N (R 218) (R 219) (R 220) 482 483),
  (222,fnO "_law_lowest" (top 38) mo4 221),
  (228,cdO "_law_row_times" 485 207 2 3 223 (R 224) N (R 225) (R 226) (R 227) 495 496),
  (229,fnO "_law_row_times" (top 39) mo4 228),
  (233,cdO "_law_poly_of" 498 213 2 3 230 (R 231) N N N (R 232) 501 502),
  (234,fnO "_law_poly_of" (top 40) mo4 233),
  (240,cdO "_law_root" 504 215 2 3 235 (R 236) N (R 237) (R 238) (R 239) 511 512),
  (241,fnO "_law_root" (top 41) mo4 240),
  (247,cdO "_law_rootless" 514 222 2 3 242 (R 243) N (R 244) (R 245) (R 246) 521 522),
  (248,fnO "_law_rootless" (top 42) mo4 247),
  (254,cdO "_law_scale" 524 227 1 3 249 (R 250) N (R 251) (R 252) (R 253) 528 529),
  (255,fnO "_law_scale" (top 43) mo4 254),
  (259,cdO "_law_monic_of" 531 229 1 3 256 (R 257) N N N (R 258) 534 535),
  (260,fnO "_law_monic_of" (top 44) mo4 259),
  (264,cdO "_law_factors" 537 231 1 3 261 (R 262) N N N (R 263) 540 541),
  (265,fnO "_law_factors" (top 45) mo4 264),
  (269,cdO "law" 543 245 1 3 266 (R 267) N N N (R 268) 546 547),
  (270,fnO "law" (top 46) mo4 269)]
noncomputable def as:List Addr:=[3,15,21,22,28,29,33,34,40,41,45,46,50,51,57,58,62,63,67,68,72,73,79,80,86,87,93,94,98,99,105,106,110,111,117,118,124,125,131,132,138,139,143,144,150,151,155,156,162,163,169,170,174,175,179,180,186,187,193,194,200,201,207,208,214,215,221,222,228,229,233,234,240,241,247,248,254,255,259,260,264,265,269,270]
noncomputable def vw:Program:=PySem.W.view PySem.Challenge.pw_backslope_k15_parts_put_in [1,2,3,4,5,6,7,8,9,10,11,12,13,14,15,16,17,18,19,20,21,22,23,24,26,28,29,30,32,33,34,36,37,38,39,40,41,42,43,44,45,46]
noncomputable def hk:PySem.W.Hook:=PySem.W.kHook hp as (fun _=>by kernel_rfl)
theorem left:PySem.W.LeftO PySem.Challenge.pw_backslope_k15_parts_put_in vw [] (fun s=>PySem.W.xlAt vw [] s && PySem.W.recOk (PySem.W.RowW.records (PySem.W.OpenRow.toRowW (PySem.W.OpenLaw.row PySem.Challenge.rw_backslope_k15_parts_put_in))) s) hk.obs hk.val 2678:=fun w=>by kernel_rfl
end Bs.Hd
namespace Bs
noncomputable def Bd (n:Nat) (x:Int):Prop:=x.natAbs<2 ^ n
theorem Bd.mono {m n:Nat} {x:Int} (h:Bd m x) (hn:m≤n):Bd n x:=Nat.lt_of_lt_of_le h (Nat.pow_le_pow_right (by decide) hn)
theorem Bd.le {n:Nat} {x y:Int} (h:Bd n x) (hy:y.natAbs≤x.natAbs):Bd n y:=Nat.lt_of_le_of_lt hy h
theorem Bd.neg {n:Nat} {x:Int} (h:Bd n x):Bd n (-x):=by unfold Bd at *;rw [Int.natAbs_neg];exact h
theorem Bd.add {n:Nat} {x y:Int} (h:Bd n x) (h':Bd n y):Bd (n+1) (x+y):=by
  unfold Bd at *
  have:=Int.natAbs_add_le x y
  rw [Nat.pow_succ]
  omega
theorem Bd.sub {n:Nat} {x y:Int} (h:Bd n x) (h':Bd n y):Bd (n+1) (x - y):=by
  rw [Int.sub_eq_add_neg];exact h.add h'.neg
theorem Bd.mul {m n:Nat} {x y:Int} (h:Bd m x) (h':Bd n y):Bd (m+n) (x*y):=by
  unfold Bd at *
  rw [Int.natAbs_mul,Nat.pow_add]
  exact Nat.mul_lt_mul'' h h'
theorem qsi {x:Int} (h1:-18446744073709551616<x) (h2:x<18446744073709551616):Bd 64 x:=by
  unfold Bd
  have:(2:Nat) ^ 64=18446744073709551616:=by decide
  rw [this];omega
theorem Bd.log2 {n:Nat} {x:Int} (h:Bd n x) (hn:0<n):x.natAbs.log2<n:=by
  unfold Bd at h
  rcases Nat.eq_zero_or_pos x.natAbs with h0 | hp
  · rw [h0];simpa using hn
  · exact (Nat.log2_lt (Nat.ne_of_gt hp)).mpr h
structure Low (t d:Int):Prop where
  pos:0<d
  one:Int.gcd t d=1
theorem qkt (a b:Int):Int.gcd b (a.fmod b)=Int.gcd a b:=by
  have e:a.fmod b=a - b*a.fdiv b:=Int.fmod_def a b
  rw [e]
  apply Nat.dvd_antisymm
  · apply Int.dvd_gcd
    · have h1:=Int.gcd_dvd_left b (a - b*a.fdiv b)
      have h2:=Int.gcd_dvd_right b (a - b*a.fdiv b)
      have h3:=Int.dvd_add h2 (Int.dvd_mul_of_dvd_left (c:=a.fdiv b) h1)
      rw [Int.sub_add_cancel] at h3
      exact h3
    · exact Int.gcd_dvd_left b _
  · apply Int.dvd_gcd
    · exact Int.gcd_dvd_right a b
    · exact Int.dvd_sub (Int.gcd_dvd_left a b) (Int.dvd_mul_of_dvd_left (Int.gcd_dvd_right a b))
theorem qh6 (a:Int) {b:Int} (h:0≤b):Int.gcd b (a % b)=Int.gcd a b:=by
  rw [← Int.fmod_eq_emod_of_nonneg a h,qkt]
theorem ql2 (a:Int) {b:Int} (h:b≠0):(a.fmod b).natAbs<b.natAbs:=by
  rcases Int.lt_or_gt_of_ne h with hb | hb
  · rw [Int.fmod_eq_emod]
    have h1:=Int.emod_nonneg a h
    have h2:=Int.emod_lt a h
    split
    · rename_i h'
      rcases h' with h' | h'
      · omega
      · have:a % b=0:=Int.emod_eq_zero_of_dvd h'
        omega
    · rename_i h'
      have:a % b≠0:=fun z=>h' (.inr (Int.dvd_of_emod_eq_zero z))
      omega
  · rw [Int.fmod_eq_emod_of_nonneg a (Int.le_of_lt hb)]
    have h1:=Int.emod_nonneg a h
    have h2:=Int.emod_lt_of_pos a hb
    omega
theorem qem {a b s:Int} (hb:b≠0) (hs:s=if b<0 then -((Int.gcd a b:Nat):Int) else ((Int.gcd a b:Nat):Int)) :
    s≠0∧s.natAbs≤b.natAbs∧Low (a.fdiv s) (b.fdiv s)∧a.fdiv s*b=a*b.fdiv s∧(a.fdiv s).natAbs≤a.natAbs∧(b.fdiv s).natAbs≤b.natAbs:=by
  have g0:0<Int.gcd a b:=Int.gcd_pos_of_ne_zero_right a hb
  have sn:s.natAbs=Int.gcd a b:=by rw [hs];split <;> simp
  have s0:s≠0:=by intro z;rw [z] at sn;simp at sn;omega
  have da:s∣a:=by
    rw [← Int.natAbs_dvd,sn];exact Int.gcd_dvd_left a b
  have db:s∣b:=by
    rw [← Int.natAbs_dvd,sn];exact Int.gcd_dvd_right a b
  obtain ⟨t,rfl⟩:=da
  obtain ⟨d,rfl⟩:=db
  rw [Int.mul_fdiv_cancel_left _ s0,Int.mul_fdiv_cancel_left _ s0]
  have d0:d≠0:=by rintro rfl;simp at hb
  have sp:1≤s.natAbs:=by omega
  have gd:Int.gcd t d=1:=by
    rw [Int.gcd_mul_left] at sn
    have h2:s.natAbs*Int.gcd t d=s.natAbs*1:=by omega
    exact Nat.eq_of_mul_eq_mul_left sp h2
  have dp:0<d:=by
    by_cases h:s*d<0
    · rw [if_pos h] at hs
      have sneg:s<0:=by omega
      rcases Int.lt_or_gt_of_ne d0 with h' | h'
      · have:=Int.mul_pos_of_neg_of_neg sneg h';omega
      · exact h'
    · rw [if_neg h] at hs
      have spos:0<s:=by omega
      rcases Int.lt_or_gt_of_ne d0 with h' | h'
      · have:=Int.mul_neg_of_pos_of_neg spos h';omega
      · exact h'
  have le1:∀ y:Int,y.natAbs≤(s*y).natAbs:=fun y=>by
    rw [Int.natAbs_mul];exact Nat.le_mul_of_pos_left _ sp
  refine ⟨s0,?_,⟨dp,gd⟩,?_,le1 t,le1 d⟩
  · rw [Int.natAbs_mul];exact Nat.le_mul_of_pos_right _ (by omega)
  · grind
theorem qdo {a b:Int} (hb:0<b):Low (a / ((Int.gcd a b:Nat):Int)) (b / ((Int.gcd a b:Nat):Int))∧(a / ((Int.gcd a b:Nat):Int)).natAbs≤a.natAbs∧(b / ((Int.gcd a b:Nat):Int)).natAbs≤b.natAbs∧0<((Int.gcd a b:Nat):Int)∧((Int.gcd a b:Nat):Int)≤b:=by
  have g0:0<Int.gcd a b:=Int.gcd_pos_of_ne_zero_right a (by omega)
  obtain ⟨_,h1,h2,h3,h4,h5⟩:=qem (a:=a) (b:=b) (s:=((Int.gcd a b:Nat):Int)) (by omega) (by rw [if_neg (by omega)])
  rw [Int.fdiv_eq_ediv_of_nonneg _ (by omega),Int.fdiv_eq_ediv_of_nonneg _ (by omega)] at h2
  rw [Int.fdiv_eq_ediv_of_nonneg _ (by omega)] at h4 h5
  exact ⟨h2,h4,h5,by omega,by omega⟩
end Bs
namespace Bs
open PySem L2
noncomputable def qrD (_ j:Int):Prop:=0<j∧Bd 9000 j
noncomputable def qsj (_ j:Int):Prop:=j≠0∧Bd 9000 j
noncomputable def qrE (i j:Int):Prop:=0≤j∧j≤1000000∧i.natAbs<2 ^ 64
noncomputable abbrev qeS:R2:=rI0 fun i j=>.int (i+j)
noncomputable abbrev qen:R2:=rI0 fun i j=>.int (i - j)
noncomputable abbrev qeo:R2:=rI IntMulOk fun i j=>.int (i*j)
noncomputable abbrev qjb:R2:=rI qrD fun i j=>.int (i / j)
noncomputable abbrev qql:R2:=rI qsj fun i j=>.int (i.fdiv j)
noncomputable abbrev qh7:R2:=rI (fun _ j=>0<j) fun i j=>.int (i % j)
noncomputable abbrev qo9:R2:=rI (fun _ j=>j≠0) fun i j=>.int (i.fmod j)
noncomputable abbrev qpW:R2:=rI qrE fun i j=>.int (i ^ j.toNat)
noncomputable abbrev iLt:R2:=rI0 fun i j=>.bl (decide (i<j))
noncomputable abbrev iLe:R2:=rI0 fun i j=>.bl (decide (i≤j))
noncomputable abbrev iGt:R2:=rI0 fun i j=>.bl (decide (j<i))
noncomputable abbrev iGe:R2:=rI0 fun i j=>.bl (decide (j≤i))
noncomputable abbrev qhc:V→Hp→VK→Prop:=rU fun i=>.int (-i)
noncomputable def gT:R2:=fun x y H Q=>∃ p i xs v,x=.ref p∧y=.int i∧H p=some (.tup xs)∧atI xs i=some v∧Q v H
noncomputable def gL:R2:=fun x y H Q=>∃ p i xs v,x=.ref p∧y=.int i∧H p=some (.lst xs)∧atI xs i=some v∧Q v H
noncomputable def gS (K:W.Frag):R2:=fun x y H Q=>∃ p i xs v,x=.ref p∧y=.int i∧SqL K H p xs∧atI xs i=some v∧Q v H
noncomputable def qnM:List V→Hp→VK→Prop:=fun xs H Q=>∃ i,xs=[.int i]∧Q (.int (if i<0 then -i else i)) H
noncomputable def qpX:List V→Hp→VK→Prop:=fun xs H Q=>∃ i j,xs=[.int i,.int j]∧Q (.int (if j > i then j else i)) H
noncomputable def qr4:List V→Hp→VK→Prop:=fun xs H Q=>∃ i j,xs=[.int i,.int j]∧Q (.int (if j<i then j else i)) H
noncomputable def qnN:List V→Hp→VK→Prop:=fun xs H Q=>∃ k,xs=[.bl k]∧Q (.int (if k=true then 1 else 0)) H
noncomputable def qqm:List V→Hp→VK→Prop:=fun xs H Q=>∃ p ys,xs=[.ref p]∧H p=some (.tup ys)∧Q (.int ys.length) H
noncomputable def qbU:List V→Hp→VK→Prop:=fun xs H Q=>∃ p ys,xs=[.ref p]∧H p=some (.lst ys)∧Q (.int ys.length) H
noncomputable def qqn (K:W.Frag):List V→Hp→VK→Prop:=fun xs H Q=>∃ p ys,xs=[.ref p]∧SqL K H p ys∧Q (.int ys.length) H
noncomputable def qqo:Option HO→String→Option Bool
  | some (.tup _),n=>if n = "tuple" then some true else if n = "bool" ∨ n = "int" ∨ n = "list" then some false else none
  | some (.lst _),n=>if n = "list" then some true else if n = "bool" ∨ n = "int" ∨ n = "tuple" then some false else none
  | _,_=>none
noncomputable def qoy (H:Hp):V→String→Option Bool
  | .int _,n=>if n = "int" then some true else if n = "bool" ∨ n = "tuple" ∨ n = "list" then some false else none
  | .bl _,n=>if n = "int" ∨ n = "bool" then some true else if n = "tuple" ∨ n = "list" then some false else none
  | .ref p,n=>qqo (H p) n
  | _,_=>none
noncomputable def qrp:List V→Hp→VK→Prop:=fun xs H Q=>∃ x n b,xs=[x,.ty n]∧qoy H x n=some b∧Q (.bl b) H
theorem ql3 (H:Hp) (i:Int):qoy H (.int i) "int" = some true:=rfl
theorem qfO (H:Hp) (i:Int):qoy H (.int i) "bool" = some false:=rfl
theorem qoz (H:Hp) (b:Bool):qoy H (.bl b) "bool" = some true:=rfl
noncomputable def qr5:V→Bool
  | .int _=>true
  | _=>false
noncomputable def eqT:R2:=fun x y H Q=>∃ a b xs ys,x=.ref a∧y=.ref b∧H a=some (.tup xs)∧H b=some (.tup ys)∧xs.all qr5=true∧ys.all qr5=true∧Q (.bl (decide (xs=ys))) H
noncomputable def ForR (lo:Int) (n:Nat) (g:TG) (tb:TS) (D:Ends) (σ:St) (H:Hp):Prop:=∃ W:Nat→Nat→St→Hp→Prop,(∃ m,W 0 m σ H)∧∀ i m σ H,W i m σ H→
  ((Itr lo n).stop i H∧D.nx σ H)∨((Itr lo n).go i H∧∃ N:St→Hp→Prop,(∀ σ' H',N σ' H'→∃ m',m'<m∧W (i+1) m' σ' H')∧∀ x H',(Itr lo n).yld i H x H'→g x σ H' fun σ2 H2=>tb { D with nx:=N,ct:=N,bk:=D.nx } σ2 H2)
theorem ql4 {ta:TA} {g:TG} {tb:TS} {D:Ends} {σ:St} {H:Hp}:qf8 (qi1 ta) g tb D σ H=ta σ H (fun vs H1=>∃ j:Int,vs=[.int j]∧-(2 ^ 62)≤j∧j<2 ^ 62∧ForR 0 j.toNat g tb D σ H1):=rfl
theorem ql5 {ta:TA} {g:TG} {tb:TS} {D:Ends} {σ:St} {H:Hp}:qf8 (qnH ta) g tb D σ H=ta σ H (fun vs H1=>∃ i j:Int,vs=[.int i,.int j]∧(-(2 ^ 62)≤i∧i<2 ^ 62∧-(2 ^ 62)≤j∧j<2 ^ 62)∧ForR i (j - i).toNat g tb D σ H1):=rfl
theorem ForR.by {lo:Int} {n:Nat} {g:TG} {tb:TS} {D:Ends} {σ:St} {H:Hp} (Pv:Nat→St→Hp→Prop) (h0:Pv 0 σ H)
    (hs:∀ i σ H,i<n→Pv i σ H→g (.int (lo+i)) σ H fun σ2 H2=>tb { D with nx:=Pv (i+1),ct:=Pv (i+1),bk:=D.nx } σ2 H2) (hd:∀ σ H,Pv n σ H→D.nx σ H):ForR lo n g tb D σ H:=qlK Pv h0 hs hd
noncomputable def ForT (K:W.Frag) (a:Addr) (g:TG) (tb:TS) (D:Ends) (σ:St) (H:Hp):Prop:=∃ W:Nat→Nat→St→Hp→Prop,(∃ m,W 0 m σ H)∧∀ i m σ H,W i m σ H→
  ((Itt K a).stop i H∧D.nx σ H)∨((Itt K a).go i H∧∃ N:St→Hp→Prop,(∀ σ' H',N σ' H'→∃ m',m'<m∧W (i+1) m' σ' H')∧∀ x H',(Itt K a).yld i H x H'→g x σ H' fun σ2 H2=>tb { D with nx:=N,ct:=N,bk:=D.nx } σ2 H2)
noncomputable def ForL (K:W.Frag) (a:Addr) (g:TG) (tb:TS) (D:Ends) (σ:St) (H:Hp):Prop:=∃ W:Nat→Nat→St→Hp→Prop,(∃ m,W 0 m σ H)∧∀ i m σ H,W i m σ H→
  ((Itl K a).stop i H∧D.nx σ H)∨((Itl K a).go i H∧∃ N:St→Hp→Prop,(∀ σ' H',N σ' H'→∃ m',m'<m∧W (i+1) m' σ' H')∧∀ x H',(Itl K a).yld i H x H'→g x σ H' fun σ2 H2=>tb { D with nx:=N,ct:=N,bk:=D.nx } σ2 H2)
theorem qoA {K:W.Frag} {tl:TE} {g:TG} {tb:TS} {D:Ends} {σ:St} {H:Hp}:qf8 (qpU K tl) g tb D σ H=tl σ H (fun x H1=>∃ a,x=.ref a∧(∃ xs,SqT K H1 a xs)∧ForT K a g tb D σ H1):=rfl
theorem qoB {K:W.Frag} {tl:TE} {g:TG} {tb:TS} {D:Ends} {σ:St} {H:Hp}:qf8 (qc1 K tl) g tb D σ H=tl σ H (fun x H1=>∃ a,x=.ref a∧(∃ xs,SqL K H1 a xs)∧ForL K a g tb D σ H1):=rfl
theorem ForT.by {K:W.Frag} {a:Addr} {xs:List V} {g:TG} {tb:TS} {D:Ends} {σ:St} {H:Hp} (Pv:Nat→St→Hp→Prop) (h0:Pv 0 σ H) (hl:∀ i σ H,i≤xs.length→Pv i σ H→H a=some (.tup xs))
    (hs:∀ i x σ H,xs[i]?=some x→Pv i σ H→g x σ H fun σ2 H2=>tb { D with nx:=Pv (i+1),ct:=Pv (i+1),bk:=D.nx } σ2 H2) (hd:∀ σ H,Pv xs.length σ H→D.nx σ H):ForT K a g tb D σ H:=
  qlJ Pv h0 (fun i σ H h p=>SqT.of (hl i σ H h p)) hs hd
theorem ForL.by {K:W.Frag} {a:Addr} {xs:List V} {g:TG} {tb:TS} {D:Ends} {σ:St} {H:Hp} (Pv:Nat→St→Hp→Prop) (h0:Pv 0 σ H) (hl:∀ i σ H,i≤xs.length→Pv i σ H→SqL K H a xs)
    (hs:∀ i x σ H,xs[i]?=some x→Pv i σ H→g x σ H fun σ2 H2=>tb { D with nx:=Pv (i+1),ct:=Pv (i+1),bk:=D.nx } σ2 H2) (hd:∀ σ H,Pv xs.length σ H→D.nx σ H):ForL K a g tb D σ H:=
  qnI Pv h0 hl hs hd
theorem while_by {c:TT} {tb:TS} {D:Ends} {σ:St} {H:Hp} (W:Nat→St→Hp→Prop) (m:Nat) (h0:W m σ H)
    (hs:∀ m σ H,W m σ H→c σ H fun b H1=>if b=true then ∃ N:St→Hp→Prop,(∀ σ' H',N σ' H'→∃ m',m'<m∧W m' σ' H')∧tb { D with nx:=N,ct:=N,bk:=D.nx } σ H1 else D.nx σ H1):qcN c tb D σ H:=⟨W,⟨m,h0⟩,hs⟩
noncomputable def Kp (p:Addr) (H H':Hp):Prop:=∀ b o,b≠p→H b=some o→H' b=some o
theorem Kp.trans {p:Addr} {H H1 H2:Hp} (a:Kp p H H1) (b:Kp p H1 H2):Kp p H H2:=fun c o n h=>b c o n (a c o n h)
theorem Kp.same {p:Addr} {H H1 H2:Hp} (a:Kp p H H1) (b:Same H1 H2):Kp p H H2:=fun c o n h=>b c o (a c o n h)
theorem Kp.of_same {p:Addr} {H H1:Hp} (b:Same H H1):Kp p H H1:=fun c o _ h=>b c o h
theorem Kp.upd {p:Addr} {H:Hp} {o:HO}:Kp p H (upd H p o):=fun b u n h=>by rw [qaw n];exact h
theorem qag {H:Hp} {p:Addr} (h:H p=none) (o:HO):Same H (upd H p o):=fun b u q=>by rw [qaw (qau q h)];exact q
theorem Kp.new {p:Addr} {H H1:Hp} (a:Kp p H H1) (h:H p=none):Same H H1:=fun b o q=>a b o (qau q h) q
theorem Kp.seq {K:W.Frag} {p:Addr} {H H':Hp} {a:Addr} {xs:List V} (e:Kp p H H') (n:a≠p) (h:SqL K H a xs):SqL K H' a xs:=by
  rcases h with (h | ⟨o,h⟩) | h
  · exact .inl (.inl (e _ _ n h))
  · exact .inl (.inr ⟨o,e _ _ n h⟩)
  · exact .inr h
theorem sz {n:Nat} (h:n≤1000000):n≤sizeLine:=by rw [sizeLine_eq];omega
end Bs
namespace Bs
open PySem L2
theorem qku {α:Type} (a b:α):atI [a,b] 0=some a:=rfl
theorem qkv {α:Type} (a b:α):atI [a,b] 1=some b:=rfl
theorem qhy {α:Type} (a b c:α):atI [a,b,c] 0=some a:=rfl
theorem qhz {α:Type} (a b c:α):atI [a,b,c] 1=some b:=rfl
theorem qhA {α:Type} (a b c:α):atI [a,b,c] 2=some c:=rfl
theorem ql6 (a b:Int):scal (.int a) (.int b)=true:=rfl
theorem ql7 (a b:Bool):scal (.bl a) (.bl b)=true:=rfl
theorem qhB:ixN 3 0=some 0:=rfl
theorem qhC:ixN 3 2=some 2:=rfl
end Bs
namespace Bs
open PySem PySem.Spec PyProof.Rows L2
theorem qhD:bootBuiltins "abs" = some (.builtin "abs"):=by decide +kernel
theorem qbs:bootBuiltins "len" = some (.builtin "len"):=by decide +kernel
theorem ql8:bootBuiltins "max" = some (.builtin "max"):=by decide +kernel
theorem qqp:bootBuiltins "min" = some (.builtin "min"):=by decide +kernel
theorem qh8:bootBuiltins "isinstance" = some (.builtin "isinstance"):=by decide +kernel
theorem ql9:bootBuiltins "sum" = some (.builtin "sum"):=by decide +kernel
theorem qqq:bootBuiltins "int" = some (.type "int"):=by decide +kernel
theorem qh9:bootBuiltins "tuple" = some (.type "tuple"):=by decide +kernel
theorem qia:bootBuiltins "list" = some (.type "list"):=by decide +kernel
theorem qjc:bootBuiltins "enumerate" = some (.type "enumerate"):=by decide +kernel
theorem qqr:bootBuiltins "zip" = some (.type "zip"):=by decide +kernel
section
variable {X:Cx}
theorem qma {n:Nat} {x:Int} (h:Bd n x):Builtin.Int.intBits x≤n:=by
  unfold Builtin.Int.intBits
  split
  · exact Nat.zero_le _
  · rename_i h0
    have hn:x.natAbs≠0:=fun z=>h0 (by have e:x=0:=by omega
                                      subst e;rfl)
    have:=(Nat.log2_lt hn).mpr h
    omega
theorem qaT:OpR X (binaryOp .Mult) qeo:=opI fun _ _ _ _ _ _ _ hc q=>mul_int q hc
theorem qib:OpR X (inplaceOp .Mult) qeo:=opI fun _ _ _ _ _ _ _ hc q=>imul_int q hc
theorem qic:OpR X (binaryOp .FloorDiv) qjb:=opI fun i j _ _ _ _ _ hc q=>by
  refine floordiv_int (Int.ne_of_gt hc.1) ?_ (.inl (PyProof.noPylong_of_log2 (hc.2.log2 (by decide))))
  rw [Int.fdiv_eq_ediv_of_nonneg i (Int.le_of_lt hc.1)]
  exact q
theorem qjS:OpR X (binaryOp .Pow) qpW:=opI fun _ _ _ _ _ _ _ hc q=>pow_int_small hc.1 hc.2.1 hc.2.2 q
theorem qch:IxR X gT:=by
  intro value slice pins s σ H x y v u Q I rx ry h hs
  obtain ⟨p,i,xs,w,e1,e2,hp,ha,q⟩:=h
  exact qqh value slice pins s σ H x y v u Q I rx ry ⟨p,xs,i,w,e1,e2,SqT.of hp,ha,q⟩ hs
theorem qas:IxR X gL:=by
  intro value slice pins s σ H x y v u Q I rx ry h hs
  obtain ⟨p,i,xs,w,e1,e2,hp,ha,q⟩:=h
  exact qo6 value slice pins s σ H x y v u Q I rx ry ⟨p,xs,i,w,e1,e2,SqL.of hp,ha,q⟩ hs
theorem qde:qdT X (.builtin "abs") qnM:=qnJ
theorem qgu (hc:X.calm=true):qdT X (.builtin "max") qpX:=qlQ hc
theorem qmb:qdT X (.type "int") qnN:=fun pins s σ H xs us Q I r h=>qlR pins s σ H xs us Q I r (.inr h)
theorem qaH:qdT X (.builtin "len") qbU:=fun pins s σ H xs us Q I r h=>by
  obtain ⟨p,ys,e,hp,q⟩:=h
  exact qi7 pins s σ H xs us Q I r ⟨p,ys,e,.inl (SqL.of hp),q⟩
theorem qqs (K:W.Frag):PySem.W.kitOne K (.type "int") (.type "bool")=some false:=by kernel_rfl
theorem qqt (K:W.Frag):PySem.W.kitOne K (.type "int") (.type "tuple")=some false:=by kernel_rfl
theorem qqu (K:W.Frag):PySem.W.kitOne K (.type "int") (.type "list")=some false:=by kernel_rfl
theorem qqv (K:W.Frag):PySem.W.kitOne K (.type "bool") (.type "int")=some true:=by kernel_rfl
theorem qqw (K:W.Frag):PySem.W.kitOne K (.type "bool") (.type "tuple")=some false:=by kernel_rfl
theorem qqx (K:W.Frag):PySem.W.kitOne K (.type "bool") (.type "list")=some false:=by kernel_rfl
theorem qqy (K:W.Frag):PySem.W.kitOne K (.type "tuple") (.type "bool")=some false:=by kernel_rfl
theorem qqz (K:W.Frag):PySem.W.kitOne K (.type "tuple") (.type "int")=some false:=by kernel_rfl
theorem qqA (K:W.Frag):PySem.W.kitOne K (.type "tuple") (.type "list")=some false:=by kernel_rfl
theorem qqB (K:W.Frag):PySem.W.kitOne K (.type "list") (.type "bool")=some false:=by kernel_rfl
theorem qqC (K:W.Frag):PySem.W.kitOne K (.type "list") (.type "int")=some false:=by kernel_rfl
theorem qqD (K:W.Frag):PySem.W.kitOne K (.type "list") (.type "tuple")=some false:=by kernel_rfl
theorem qf9 (K:W.Frag) (n:String):PySem.W.kitOne K (.type n) (.type n)=some true:=by
  unfold PySem.W.kitOne
  rw [if_pos (beq_self_eq_true _)]
theorem qpa {H:Hp} {x:V} {n:String} {b:Bool} (K:W.Frag) (h:qoy H x n=some b):∃ t,TyOf K H x t∧PySem.W.kitOne K t (.type n)=some b:=by
  cases x with
  | int i=>
    refine ⟨_,.int i,?_⟩
    unfold qoy at h
    dsimp only at h
    split at h
    · rename_i e;cases h;subst e;exact qf9 K _
    · split at h
      · rename_i e;cases h
        rcases e with rfl | rfl | rfl
        · exact qqs K
        · exact qqt K
        · exact qqu K
      · cases h
  | bl i=>
    refine ⟨_,.bl i,?_⟩
    unfold qoy at h
    dsimp only at h
    split at h
    · rename_i e;cases h
      rcases e with rfl | rfl
      · exact qqv K
      · exact qf9 K _
    · split at h
      · rename_i e;cases h
        rcases e with rfl | rfl
        · exact qqw K
        · exact qqx K
      · cases h
  | ref p=>
    have h':qqo (H p) n=some b:=h
    cases e:H p with
    | none=>rw [e] at h';cases h'
    | some o=>
      rw [e] at h'
      cases o with
      | tup xs=>
        refine ⟨_,.tup e,?_⟩
        unfold qqo at h'
        dsimp only at h'
        split at h'
        · rename_i e;cases h';subst e;exact qf9 K _
        · split at h'
          · rename_i e;cases h'
            rcases e with rfl | rfl | rfl
            · exact qqy K
            · exact qqz K
            · exact qqA K
          · cases h'
      | lst xs=>
        refine ⟨_,.lst e,?_⟩
        unfold qqo at h'
        dsimp only at h'
        split at h'
        · rename_i e;cases h';subst e;exact qf9 K _
        · split at h'
          · rename_i e;cases h'
            rcases e with rfl | rfl | rfl
            · exact qqB K
            · exact qqC K
            · exact qqD K
          · cases h'
      | _=>cases h'
  | _=>cases h
theorem qnO:qdT X (.builtin "isinstance") qrp:=fun pins s σ H xs us Q I r h=>by
  obtain ⟨x,n,b,rfl,e,q⟩:=h
  obtain ⟨u,w',rfl,rx,rn⟩:=vals2 r
  have rn':w'=Value.type n:=rn
  subst rn'
  obtain ⟨t,ty,k⟩:=qpa X.K e
  exact qlT I rx ty k fun tk=>⟨.bl b,H,I.tok tk,rfl,q⟩
end
structure Cal (P:Program) (w:World) (K:W.Frag) (mg:Str→Option Value) (base:Heap) (n:Nat) (x:Str) (ps:List Str) (sp:Sp):Prop where
  ex:∃ (f:Addr) (fd:FuncData),FnOk P w K mg base CX0 n f fd ps sp∧Binds K fd ps []∧PySem.W.keepIn K (.ref f)=true∧mg x=some (.ref f)
theorem Cal.pe {X:Cx} {n m:Nat} {x:Str} {ps:List Str} {sp:Sp} {e:Expr} {es:List Expr} {t:TA} {p pos:Pos} (C:Cal X.prog X.w X.K X.mg X.base n x ps sp) (hr:Room m X.A) (hn:n≤m) (hg:Gl X x) (ha:PA X (e::es) t)
    (hdb:(x == ("__debug__" : Str))=false:=by decide) (he:starEach (e::es) X.env=(false,eval e X.env)::starEach es X.env:=by rfl) (hpl:(backTo pos (starEach es X.env)).any (·.1)=false:=by rfl) :
    PE X (.Call (.Name x p) (e::es) [] pos) (qaz sp [] E0 t):=by
  obtain ⟨f,fd,F,b,k,m⟩:=C.ex
  exact qo3 F (hr.mono hn) hg m k b .nil qrC ha hdb he hpl
end Bs
namespace Bs
open PySem L2
noncomputable def qc6 (capt:List (Option Nat)) (σ:L2.St):L2.St:=capt.map fun o=>o.bind fun j=>(σ[j]?).join
noncomputable def qci (wi:TI) (capt:List (Option Nat)) (g:TG) (te:TE):TE:=fun σ H Q=>wi σ H fun J H1=>∃ (n:Nat) (W:Nat→List V→Hp→Prop),W 0 [] H1∧∀ i ys H,W i ys H→i≤n∧ys.length≤sizeLine∧
  ((J.stop i H∧∀ p,H p=none→Q (.ref p) (upd H p (.lst ys)))∨(i<n∧J.go i H∧∀ x H',J.yld i H x H'→g x (qc6 capt σ) H' fun σ2 H2=>te σ2 H2 fun y H3=>W (i+1) (ys++[y]) H3))
noncomputable def CompJ (J:It) (capt:List (Option Nat)) (g:TG) (te:TE) (σ:L2.St) (Q:VK) (H1:Hp):Prop:=∃ (n:Nat) (W:Nat→List V→Hp→Prop),W 0 [] H1∧∀ i ys H,W i ys H→i≤n∧ys.length≤sizeLine∧
  ((J.stop i H∧∀ p,H p=none→Q (.ref p) (upd H p (.lst ys)))∨(i<n∧J.go i H∧∀ x H',J.yld i H x H'→g x (qc6 capt σ) H' fun σ2 H2=>te σ2 H2 fun y H3=>W (i+1) (ys++[y]) H3))
section
variable {K:W.Frag} {ta:TA} {tl:TE} {capt:List (Option Nat)} {g:TG} {te:TE} {σ:L2.St} {H:Hp} {Q:VK}
theorem qkw:qci (qi1 ta) capt g te σ H Q=ta σ H (fun vs H1=>∃ j:Int,vs=[.int j]∧-(2 ^ 62)≤j∧j<2 ^ 62∧CompJ (Itr 0 j.toNat) capt g te σ Q H1):=rfl
theorem qkx:qci (qnH ta) capt g te σ H Q=ta σ H (fun vs H1=>∃ i j:Int,vs=[.int i,.int j]∧(-(2 ^ 62)≤i∧i<2 ^ 62∧-(2 ^ 62)≤j∧j<2 ^ 62)∧CompJ (Itr i (j - i).toNat) capt g te σ Q H1):=rfl
theorem qmc:qci (qpU K tl) capt g te σ H Q=tl σ H (fun x H1=>∃ a,x=.ref a∧(∃ xs,SqT K H1 a xs)∧CompJ (Itt K a) capt g te σ Q H1):=rfl
theorem qmd:qci (qc1 K tl) capt g te σ H Q=tl σ H (fun x H1=>∃ a,x=.ref a∧(∃ xs,SqL K H1 a xs)∧CompJ (Itl K a) capt g te σ Q H1):=rfl
theorem CompJ.range {lo:Int} {n:Nat} (W:Nat→List V→Hp→Prop) (h0:W 0 [] H) (hb:∀ i ys H,W i ys H→i≤n∧ys.length≤sizeLine)
    (hs:∀ i ys H,i<n→W i ys H→g (.int (lo+i)) (qc6 capt σ) H fun σ2 H2=>te σ2 H2 fun y H3=>W (i+1) (ys++[y]) H3) (hd:∀ ys H,W n ys H→∀ p,H p=none→Q (.ref p) (upd H p (.lst ys))):CompJ (Itr lo n) capt g te σ Q H:=by
  refine ⟨n,W,h0,fun i ys H w=>⟨(hb i ys H w).1,(hb i ys H w).2,?_⟩⟩
  by_cases h:i<n
  · refine .inr ⟨h,h,fun x H' y=>?_⟩
    obtain ⟨e,y⟩:=y
    subst e y
    exact hs i ys _ h w
  · have e:i=n:=Nat.le_antisymm (hb i ys H w).1 (Nat.not_lt.mp h)
    subst e
    exact .inl ⟨Nat.le_refl _,hd ys H w⟩
theorem CompJ.tup {a:Addr} {xs:List V} (W:Nat→List V→Hp→Prop) (h0:W 0 [] H) (hb:∀ i ys H,W i ys H→i≤xs.length∧ys.length≤sizeLine∧H a=some (.tup xs))
    (hs:∀ i x ys H,xs[i]?=some x→W i ys H→g x (qc6 capt σ) H fun σ2 H2=>te σ2 H2 fun y H3=>W (i+1) (ys++[y]) H3) (hd:∀ ys H,W xs.length ys H→∀ p,H p=none→Q (.ref p) (upd H p (.lst ys))):CompJ (Itt K a) capt g te σ Q H:=by
  refine ⟨xs.length,W,h0,fun i ys H w=>⟨(hb i ys H w).1,(hb i ys H w).2.1,?_⟩⟩
  have q:SqT K H a xs:=SqT.of (hb i ys H w).2.2
  by_cases h:i<xs.length
  · refine .inr ⟨h,⟨xs,xs[i],q,by simp [h]⟩,fun x H' y=>?_⟩
    obtain ⟨e,y⟩:=y
    subst e
    exact hs i x ys _ (y xs q) w
  · have e:i=xs.length:=Nat.le_antisymm (hb i ys H w).1 (Nat.not_lt.mp h)
    subst e
    exact .inl ⟨⟨xs,q,Nat.le_refl _⟩,hd ys H w⟩
theorem CompJ.lst {a:Addr} {xs:List V} (W:Nat→List V→Hp→Prop) (h0:W 0 [] H) (hb:∀ i ys H,W i ys H→i≤xs.length∧ys.length≤sizeLine∧SqL K H a xs)
    (hs:∀ i x ys H,xs[i]?=some x→W i ys H→g x (qc6 capt σ) H fun σ2 H2=>te σ2 H2 fun y H3=>W (i+1) (ys++[y]) H3) (hd:∀ ys H,W xs.length ys H→∀ p,H p=none→Q (.ref p) (upd H p (.lst ys))):CompJ (Itl K a) capt g te σ Q H:=by
  refine ⟨xs.length,W,h0,fun i ys H w=>⟨(hb i ys H w).1,(hb i ys H w).2.1,?_⟩⟩
  have q:SqL K H a xs:=(hb i ys H w).2.2
  by_cases h:i<xs.length
  · refine .inr ⟨h,⟨xs,xs[i],q,by simp [h]⟩,fun x H' y=>?_⟩
    obtain ⟨e,y⟩:=y
    subst e
    exact hs i x ys _ (y xs q) w
  · have e:i=xs.length:=Nat.le_antisymm (hb i ys H w).1 (Nat.not_lt.mp h)
    subst e
    exact .inl ⟨⟨xs,q,Nat.le_refl _⟩,hd ys H w⟩
end
noncomputable def qqE (K:W.Frag) (a:Addr):It:=
  ⟨fun i H=>∃ xs x,SqL K H a xs∧xs[i]?=some x,fun i H v H'=>∃ p x,H p=none∧v=.ref p∧H'=upd H p (.tup [.int i,x])∧∀ xs,SqL K H a xs→xs[i]?=some x,fun i H=>∃ xs,SqL K H a xs∧xs.length≤i⟩
noncomputable def qr6 (K:W.Frag) (a:Addr):It:=
  ⟨fun i H=>∃ xs x,SqT K H a xs∧xs[i]?=some x,fun i H v H'=>∃ p x,H p=none∧v=.ref p∧H'=upd H p (.tup [.int i,x])∧∀ xs,SqT K H a xs→xs[i]?=some x,fun i H=>∃ xs,SqT K H a xs∧xs.length≤i⟩
noncomputable def qhE (K:W.Frag) (ta:TA):TI:=fun σ H R=>ta σ H fun vs H1=>∃ a,vs=[.ref a]∧(∃ xs,SqL K H1 a xs)∧R (qqE K a) H1
noncomputable def qqF (K:W.Frag) (ta:TA):TI:=fun σ H R=>ta σ H fun vs H1=>∃ a,vs=[.ref a]∧(∃ xs,SqT K H1 a xs)∧R (qr6 K a) H1
noncomputable def ForJ (J:It) (g:TG) (tb:TS) (D:Ends) (σ:L2.St) (H:Hp):Prop:=∃ W:Nat→Nat→L2.St→Hp→Prop,(∃ m,W 0 m σ H)∧∀ i m σ H,W i m σ H→
  (J.stop i H∧D.nx σ H)∨(J.go i H∧∃ N:L2.St→Hp→Prop,(∀ σ' H',N σ' H'→∃ m',m'<m∧W (i+1) m' σ' H')∧∀ x H',J.yld i H x H'→g x σ H' fun σ2 H2=>tb { D with nx:=N,ct:=N,bk:=D.nx } σ2 H2)
section
variable {K:W.Frag} {ta:TA} {g:TG} {tb:TS} {D:Ends} {σ:L2.St} {H:Hp} {a:Addr} {xs:List V}
theorem qme:qf8 (qhE K ta) g tb D σ H=ta σ H (fun vs H1=>∃ a,vs=[.ref a]∧(∃ xs,SqL K H1 a xs)∧ForJ (qqE K a) g tb D σ H1):=rfl
theorem qmf:qf8 (qqF K ta) g tb D σ H=ta σ H (fun vs H1=>∃ a,vs=[.ref a]∧(∃ xs,SqT K H1 a xs)∧ForJ (qr6 K a) g tb D σ H1):=rfl
theorem qky {capt:List (Option Nat)} {te:TE} {Q:VK}:qci (qhE K ta) capt g te σ H Q=ta σ H (fun vs H1=>∃ a,vs=[.ref a]∧(∃ xs,SqL K H1 a xs)∧CompJ (qqE K a) capt g te σ Q H1):=rfl
theorem ForJ.enumL (Pv:Nat→L2.St→Hp→Prop) (h0:Pv 0 σ H) (hl:∀ i σ H,i≤xs.length→Pv i σ H→SqL K H a xs)
    (hs:∀ i x p σ H,xs[i]?=some x→Pv i σ H→H p=none→g (.ref p) σ (upd H p (.tup [.int i,x])) fun σ2 H2=>tb { D with nx:=Pv (i+1),ct:=Pv (i+1),bk:=D.nx } σ2 H2) (hd:∀ σ H,Pv xs.length σ H→D.nx σ H):ForJ (qqE K a) g tb D σ H:=by
  refine ⟨fun i m σ H=>m=xs.length - i∧i≤xs.length∧Pv i σ H,⟨xs.length,by simp,Nat.zero_le _,h0⟩,?_⟩
  rintro i m σ H ⟨rfl,hi,pv⟩
  have q:=hl i σ H hi pv
  by_cases lt:i<xs.length
  · refine .inr ⟨⟨xs,xs[i],q,by simp [lt]⟩,Pv (i+1),fun σ' H' p'=>⟨xs.length - (i+1),by omega,rfl,lt,p'⟩,fun x H' y=>?_⟩
    obtain ⟨p,x',hp,rfl,rfl,y⟩:=y
    exact hs i x' p σ _ (y xs q) pv hp
  · have e:i=xs.length:=by omega
    subst e
    exact .inl ⟨⟨xs,q,Nat.le_refl _⟩,hd σ H pv⟩
end
end Bs
namespace Bs
open PySem PySem.Spec PyProof.Rows L2
noncomputable def blk (X:Cx) (N:List Str) (scope:Scope) (cl:List (Str×Addr)) (C:Addr) (s:Shared) (H:Hp) (fp:List Addr):Cx:=
  { X with N:=N,s₀:=s,H₀:=H,env:=compEnvC scope cl C X.env,outer:=X.stack,stack:=X.stack,ex:=fp,fn:=fun _=>false,pn:=[],xe:=fun _ _=>False }
structure BlkOk (X:Cx) (N:List Str) (capt:List (Option Nat)) (scope:Scope) (cl:List (Str×Addr)):Prop where
  kind:scope.kind=.function
  clos:closureFor scope X.env=pure cl
  nocell:∀ y∈scope.names,y.2≠.cell
  names:∀ y∈scope.names,y.2=.local→scope.names.lookup y.1=some .local
  cells:∀ y c,cl.lookup y=some c→X.env.cells.lookup y=some c
  has:∀ y,((relabel scope X.env).names.lookup y=some .cell∨(relabel scope X.env).names.lookup y=some .free)→∃ c,cl.lookup y=some c
  cap:∀ (i:Nat) (x:Str) (j:Nat),N[i]?=some x→capt[i]?=some (some j)→X.N[j]?=some x∧Vis X.env.scope x∧X.env.kindOf x≠some .local∧((relabel scope X.env).names.lookup x=some .cell∨(relabel scope X.env).names.lookup x=some .free)
  len:capt.length=N.length
section
variable {X:Cx} {pins:List (Addr×Obj)} {σ:L2.St} {H:Hp} {s:Shared} {N:List Str} {capt:List (Option Nat)} {scope:Scope} {cl:List (Str×Addr)} {C:Addr} {fp:List Addr}
theorem qmg (B:BlkOk X N capt scope cl) (I:Inv X pins σ H s) (fo:∀ b∈fp,qjO X pins H b) (fl:∀ b∈fp,b<s.heap.objs.size) (hC:s.heap.objs.size≤C):(blk X N scope cl C s H fp).Ok where
  mod:=I.ok.mod
  kind:=B.kind
  glob:=I.ok.glob
  blt:=I.ok.blt
  above:=hC
  inj:=fun x y c h1 h2=>I.ok.inj x y c (B.cells x c h1) (B.cells y c h2)
  has:=fun x h=>B.has x h
  cab:=fun _ _ h=>nomatch h
  hd:=I.ok.hd
  frames:=I.ok.frames
  stk:=.inl rfl
  exf:=fun b hb=>⟨fun e=>absurd (Nat.lt_of_lt_of_le (fl b hb) hC) (by rw [show b=C from e];exact Nat.lt_irrefl _),fun x c e=>(fo b hb).2.2.2.2.1 x c (B.cells x c e)⟩
  bs:=I.bs
  bsz:=Nat.le_trans I.ok.bsz I.sz
  noex:=fun b o e hb=>by
    rcases (fo b hb).2.2.2.1 with z | z
    · exact I.ok.noex b o e z
    · exact absurd (Nat.lt_of_lt_of_le (Heap.lt_size e) (Nat.le_trans I.ok.bsz z)) (Nat.lt_irrefl _)
  exfs:=fun b hb hf=>by
    rcases List.mem_cons.mp (I.stkSub b hf) with z | z
    · exact (fo b hb).2.1 z
    · exact (fo b hb).2.2.1 z
  funs:=I.stack
  frf:=I.stkFree
  seer:=I.ok.seer
  tree:=I.ok.tree
  plr:=I.ok.plr
theorem qmh (B:BlkOk X N capt scope cl) (I:Inv X pins σ H s) (fo:∀ b∈fp,qjO X pins H b) (fl:∀ b∈fp,b<s.heap.objs.size) (hC:s.heap.objs.size≤C) {h1:Heap} {m:Str→Option Value} {tk:Nat}
    (hn:h1.Ns C m) (hk:∀ b o,s.heap.get? b=some o→h1.get? b=some o):Inv (blk X N scope cl C s H fp) [] (qc6 capt σ) H { s with heap:=h1,toks:=tk } where
  ok:=qmg B I fo fl hC
  os:=rfl
  bare:=I.bare
  base:=Un.kept hk
  loc:=by
    refine ⟨m,hn,fun i x v e1 e2 e3=>?_⟩
    have e2':(capt.map fun o=>o.bind fun j=>(σ[j]?).join)[i]?=some (some v):=e2
    rw [List.getElem?_map] at e2'
    cases ec:capt[i]? with
    | none=>rw [ec] at e2';cases e2'
    | some o=>
      rw [ec] at e2'
      cases o with
      | none=>cases e2'
      | some j=>
        have e4:(σ[j]?).join=some v:=Option.some.inj e2'
        obtain ⟨c1,c2,c3,c4⟩:=B.cap i x j e1 ec
        have e5:σ[j]?=some (some v):=by
          cases q:σ[j]? with
          | none=>rw [q] at e4;cases e4
          | some w=>rw [q] at e4;exact congrArg some e4
        obtain ⟨m',_,hl⟩:=I.loc
        obtain ⟨u,r,l⟩:=hl j x v c1 e5 c2
        refine ⟨u,r,.inr ⟨c4,?_⟩⟩
        rcases l with ⟨l,_⟩ | ⟨_,c,lc,ic⟩
        · exact absurd l c3
        · obtain ⟨c',hc'⟩:=B.has x c4
          have:=B.cells x c' hc'
          rw [lc] at this
          cases this
          obtain ⟨o,ho,hd⟩:=ic
          exact ⟨c,hc',o,hk c o ho,hd⟩
  cell:=fun x c e=>by
    obtain ⟨v,o,ho,hd⟩:=I.cell x c (B.cells x c e)
    exact ⟨v,o,hk c o ho,hd⟩
  free:=I.hok.fresh hC
  freeC:=fun x c e=>I.freeC x c (B.cells x c e)
  pin:=fun p hp=>nomatch hp
  hok:=I.hok.kept hk
  len:=by show (capt.map _).length=N.length;rw [List.length_map];exact B.len
theorem qgv {σ6:L2.St} {H7:Hp} {s7:Shared} {pins':List (Addr×Obj)} (B:BlkOk X N capt scope cl) (I:Inv X pins σ H s) (fo:∀ b∈fp,qjO X pins H b) (I7:Inv (blk X N scope cl C s H fp) pins' σ6 H7 s7):Inv (blk X N scope cl C s H fp) pins' (qc6 capt σ) H7 s7:=
  ⟨I7.ok,I7.os,I7.bare,I7.base,by
    obtain ⟨m,hn,_⟩:=I7.loc
    refine ⟨m,hn,fun i x v e1 e2 e3=>?_⟩
    have e2':(capt.map fun o=>o.bind fun j=>(σ[j]?).join)[i]?=some (some v):=e2
    rw [List.getElem?_map] at e2'
    cases ec:capt[i]? with
    | none=>rw [ec] at e2';cases e2'
    | some o=>
      rw [ec] at e2'
      cases o with
      | none=>cases e2'
      | some j=>
        have e4:(σ[j]?).join=some v:=Option.some.inj e2'
        obtain ⟨c1,c2,c3,c4⟩:=B.cap i x j e1 ec
        have e5:σ[j]?=some (some v):=by
          cases q:σ[j]? with
          | none=>rw [q] at e4;cases e4
          | some w=>rw [q] at e4;exact congrArg some e4
        obtain ⟨m',_,hl⟩:=I.loc
        obtain ⟨u,r,l⟩:=hl j x v c1 e5 c2
        refine ⟨u,r,.inr ⟨c4,?_⟩⟩
        rcases l with ⟨l,_⟩ | ⟨_,c,lc,ic⟩
        · exact absurd l c3
        · obtain ⟨c',hc'⟩:=B.has x c4
          have:=B.cells x c' hc'
          rw [lc] at this
          cases this
          obtain ⟨o,ho,hd⟩:=ic
          obtain ⟨sl,hk⟩:=I7.base.any ho (I.freeC x c lc) fun hb=>(fo c hb).2.2.2.2.1 x c lc rfl
          exact ⟨c,hc',_,hk,hd⟩,I7.cell,I7.free,I7.freeC,I7.pin,I7.hok,by show (capt.map _).length=N.length;rw [List.length_map];exact B.len⟩
theorem qep {κ β:Type} [BEq κ] [LawfulBEq κ]:∀ {l:List (κ×β)} {y:κ} {c:β},l.lookup y=some c→(y,c)∈l
  | (k,v)::l,y,c,h=>by
    rw [List.lookup_cons] at h
    cases e:y == k with
    | true=>
      rw [e] at h
      cases h
      rw [eq_of_beq e]
      exact List.mem_cons_self ..
    | false=>
      rw [e] at h
      exact List.mem_cons_of_mem _ (qep h)
theorem BlkOk.of (k:scope.kind=.function) (c:closureFor scope X.env=pure cl) (n1:(scope.names.all fun y=>y.2 != .cell)=true) (n2:(scope.names.all fun y=>y.2 != .local || scope.names.lookup y.1 == some .local)=true)
    (cs:∀ pr∈cl,X.env.cells.lookup pr.1=some pr.2) (hs:((relabel scope X.env).names.all fun pr=>(pr.2 != .cell && pr.2 != .free) || (cl.lookup pr.1).isSome)=true)
    (cp:((List.range N.length).all fun i=>match N[i]?,capt[i]? with
      | some x,some (some j)=>X.N[j]? == some x && (X.env.scope.names.lookup x == some .cell || X.env.scope.names.lookup x == some .free) && ((relabel scope X.env).names.lookup x == some .cell || (relabel scope X.env).names.lookup x == some .free)
      | _,_=>true)=true) (ln:capt.length=N.length):BlkOk X N capt scope cl where
  kind:=k
  clos:=c
  nocell:=fun y hy e=>by
    have z:=List.all_eq_true.mp n1 y hy
    rw [e] at z
    exact absurd z (by decide)
  names:=fun y hy e=>by
    have z:=List.all_eq_true.mp n2 y hy
    rw [e] at z
    simpa using z
  cells:=fun y c h=>cs (y,c) (qep h)
  has:=fun y h=>by
    have m:∃ kd,(y,kd)∈(relabel scope X.env).names∧(kd=.cell∨kd=.free):=by
      rcases h with h | h
      · exact ⟨_,qep h,.inl rfl⟩
      · exact ⟨_,qep h,.inr rfl⟩
    obtain ⟨kd,m,e⟩:=m
    have z:=List.all_eq_true.mp hs _ m
    have z2:(cl.lookup y).isSome=true:=by
      rcases e with rfl | rfl
      · simpa using z
      · simpa using z
    exact Option.isSome_iff_exists.mp z2
  cap:=fun i x j e1 e2=>by
    have li:i<N.length:=(List.getElem?_eq_some_iff.mp e1).1
    have z:=List.all_eq_true.mp cp i (List.mem_range.mpr li)
    rw [e1,e2] at z
    simp only [Bool.and_eq_true,Bool.or_eq_true,beq_iff_eq] at z
    obtain ⟨⟨z1,z2⟩,z3⟩:=z
    refine ⟨z1,.inr z2,fun q=>?_,z3⟩
    have q':X.env.scope.names.lookup x=some .local:=q
    rcases z2 with z2 | z2 <;> (rw [z2] at q';cases q')
  len:=ln
theorem qjT {prog:Program} {w:World} {A:Around} {R:Result→Shared→Prop} {s:Shared} {elt target iter:Expr} {scope:Scope} {pos:Pos} {it acc:Value} {env:Env} (I:Nat→Shared→Prop)
    (turn:∀ n s,I n s→wpAny (model prog w) A (pyNext it) (fun r s₁=>match r with
      | none=>R (.ok .next) s₁
      | some v=>wpAny (model prog w) A (letOwnedTupleGo target it v) (fun _ s₂=>wpAny (model prog w) A (assign target env v) (fun _ s₃=>wpAny (model prog w) A (eval elt env) (fun x s₄=>
          wpAny (model prog w) A (call (.builtin "list.append") [acc,x]) (fun _ s₅=>∃ m,m<n∧I m s₅) (fun _ _=>False) s₄) (fun _ _=>False) s₃) (fun _ _=>False) s₂) (fun _ _=>False) s₁) (fun _ _=>False) s)
    (n:Nat) (h:I n s):codeAny (model prog w) A (.compLoop (.ListComp elt [⟨target,iter,[],0⟩] scope pos) 0 it acc env) R s:=by
  refine codeAny_loop rfl I (fun n s hI=>?_) n h
  show wpAny _ A ((compTurn (.ListComp elt [⟨target,iter,[],0⟩] scope pos) 0 it acc env).onRaise (fun x=>do noteFrame x env;theTreesLotGoes x)) _ _ s
  refine wpAny_noted ?_
  rw [compTurn_list]
  have no:∀ {E':Value→Shared→Prop} (e:Value) (s':Shared),(fun (_:Value) (_:Shared)=>False) e s'→E' e s':=fun _ _ f=>f.elim
  refine wpAny_bind (wpAny_standAt (wpAny_bind (wpAny_mono (turn n s hI) (fun r s₁ h₁=>?_) no)))
  cases r with
  | none=>exact wpAny_pure h₁
  | some v=>
    refine wpAny_bind (wpAny_mono h₁ (fun _ s₂ h₂=>?_) no)
    refine wpAny_bind (wpAny_mono h₂ (fun _ s₃ h₃=>wpAny_bind (wpAny_tests_nil ?_)) no)
    exact wpAny_bind (wpAny_bind (wpAny_mono h₃ (fun x s₄ h₄=>wpAny_bind (wpAny_mono h₄ (fun _ s₅ h₅=>wpAny_pure (wpAny_pure ⟨rfl,h₅⟩)) no)) no))
theorem qjd {elt iter tg:Expr} {pos:Pos} {wi:TI} {g:TG} {te:TE} {pins:List (Addr×Obj)} {s:Shared} {σ:L2.St} {H:Hp} {Q:VK} (RR:Value→Addr→Result→Shared→Prop) (hc:X.calm=true) (B:BlkOk X N capt scope cl) (hi:PI X tg iter wi)
    (hg:∀ C s H fp,PG (blk X N scope cl C s H fp) tg g) (he:∀ C s H fp,PE (blk X N scope cl C s H fp) elt te) (I:Inv X pins σ H s) (h:qci wi capt g te σ H Q)
    (fin:∀ (D C:Addr) (s4:Shared) (Hq:Hp) (m:Str→Option Value),Inv X pins σ Hq s4→Q (.ref D) Hq→s4.heap.Ns C m→Hq C=none→C≠X.env.locals→X.s₀.heap.objs.size≤C→(∀ x c,X.env.cells.lookup x=some c→c≠C)→(∀ p∈X.pn++pins,p.1≠C)→RR (.ref D) C (.ok .next) s4) :
    wpAny (model X.prog X.w) X.A (eval iter X.env) (fun x s₁=>wpAny (model X.prog X.w) X.A (pyIter x) (fun it s₂=>wpAny (model X.prog X.w) X.A (newList []) (fun acc s₃=>
      wpAny (model X.prog X.w) X.A (newFunctionEnv scope X.env.globals cl [] X.env.qual none .none (some X.env)) (fun cenv s₄=>
        codeAny (model X.prog X.w) X.A (.compStart (.ListComp elt [⟨tg,iter,[],0⟩] scope pos) 0 it acc { cenv with scope:=relabel scope X.env }) (RR acc cenv.locals) s₄) X.xe s₃) X.xe s₂) X.xe s₁) X.xe s:=by
  refine thn (hi pins s σ H _ I h) fun v s1 h1=>thn h1 fun itv s2 h2=>?_
  obtain ⟨it,fp,tn,J,H2,e,I2,T,st2,f2,n0,W,w0,turn⟩:=h2
  subst e
  have fl:∀ b∈fp,b<s2.heap.objs.size:=fun b hb=>by obtain ⟨o,e,_⟩:=T.obj _ _ st2 b hb;exact Heap.lt_size e
  refine wpAny_newObj_type (wpAny_newFunctionEnv B.nocell (by intro y hy;simp at hy) (fun h₁ hns₁ hsb₁=>?_) B.kind)
  dsimp only at hns₁ hsb₁ ⊢
  generalize hG:s2.heap.push { cls:=.type "list", dict:=none,data:=.seq ([]:List Value).toArray }=G at hns₁ hsb₁ ⊢
  have hC:G.objs.size=s2.heap.objs.size+1:=by rw [← hG,Heap.size_push]
  have hCle:s2.heap.objs.size≤G.objs.size:=by rw [hC];exact Nat.le_succ _
  have hDC:s2.heap.objs.size≠G.objs.size:=by rw [hC];exact Nat.ne_of_lt (Nat.lt_succ_self _)
  have old:∀ b o,s2.heap.get? b=some o→h₁.get? b=some o:=fun b o e=>hsb₁.extBut b o (by rw [hC];exact Nat.ne_of_lt (Nat.lt_succ_of_lt (Heap.lt_size e))) (Heap.get?_push_of_some _ (hG ▸ Heap.get?_push_of_some _ e))
  have hacc:h₁.get? s2.heap.objs.size=some { cls:=.type "list", data:=.seq ([]:List Value).toArray }:=hsb₁.extBut _ _ hDC (Heap.get?_push_of_some _ (hG ▸ Heap.get?_push_size _ rfl))
  have ok':=qmg B I2 f2 fl hCle
  have nsD:s2.heap.objs.size∉frs X.stack:=fun hb=>by
    rcases List.mem_cons.mp (I2.stkSub _ hb) with z | z
    · exact absurd I2.lt (by rw [← z];exact Nat.lt_irrefl _)
    · exact I2.nofs (Nat.le_refl _) z
  have ncD:∀ x c,cl.lookup x=some c→c≠s2.heap.objs.size:=fun x c e z=>by
    obtain ⟨v,q⟩:=I2.cell x c (B.cells x c e)
    exact absurd q.lt (by rw [z];exact Nat.lt_irrefl _)
  have nfD:∀ b∈fp,s2.heap.objs.size≠b:=fun b hb z=>absurd (fl b hb) (by rw [← z];exact Nat.lt_irrefl _)
  have I₁:Inv (blk X N scope cl G.objs.size s2 H2 fp) [] (qc6 capt σ) H2 { s2 with heap:=h₁,toks:=s2.toks+([]:List (Str×Value)).length }:=qmh B I2 f2 fl hCle hns₁ old
  have loop:codeAny (model X.prog X.w) X.A (.compLoop (.ListComp elt [⟨tg,iter,[],0⟩] scope pos) 0 (.ref it) (.ref s2.heap.objs.size) (compEnvC scope cl G.objs.size X.env))
      (RR (.ref s2.heap.objs.size) G.objs.size) { s2 with heap:=h₁,toks:=s2.toks+([]:List (Str×Value)).length }:=by
    refine qjT (fun n s'=>∃ (i:Nat) (ys:List V) (its:List Value) (k:Nat) (Hc:Hp),Inv (blk X N scope cl G.objs.size s2 H2 fp) [] (qc6 capt σ) Hc s'∧s'.heap.get? s2.heap.objs.size=some { cls:=.type "list", data:=.seq its.toArray k }∧Vals ys its∧
      Hc s2.heap.objs.size=none∧tn i s'.heap∧(∀ b∈fp,Hc b=none)∧W i ys Hc∧n=n0 - i) ?_ n0 ⟨0,[],[],0,H2,I₁,hacc,.nil,I2.hok.fresh (Nat.le_refl _),T.keep _ _ _ st2 (fun b _ o e=>old b o e),fun b hb=>(f2 b hb).1,w0,rfl⟩
    rintro n s3 ⟨i,ys,its,k,Hc,I3,hD,hv,nD,st3,fr3,w3,en⟩
    obtain ⟨_,hl,step⟩:=turn i ys Hc w3
    have hz:its.toArray.size≤sizeLine:=by rw [List.size_toArray,← hv.length];exact hl
    have I3p:Inv (blk X N scope cl G.objs.size s2 H2 fp) [(s2.heap.objs.size,{ cls:=.type "list", data:=.seq its.toArray k })] (qc6 capt σ) Hc s3:=I3.pins_of fun p hp=>by
      rw [List.mem_singleton] at hp
      subst hp
      exact ⟨hD,nD,hDC,nsD,fun v z=>nomatch z⟩
    have fo3:∀ {Hx:Hp} (_:∀ b∈fp,Hx b=none),∀ b∈fp,qjO (blk X N scope cl G.objs.size s2 H2 fp) [(s2.heap.objs.size,{ cls:=.type "list", data:=.seq its.toArray k })] Hx b:=fun hx b hb=>
      ⟨hx b hb,(ok'.exf b hb).1,ok'.exfs b hb,.inl hb,(ok'.exf b hb).2,fun p hp=>by
        have hp':p∈[((s2.heap.objs.size,{ cls:=.type "list", data:=.seq its.toArray k }):Addr×Obj)]:=hp
        rw [List.mem_singleton] at hp'
        subst hp'
        exact nfD b hb⟩
    rcases step with ⟨stop,q⟩ | ⟨ltn,go,nxt⟩
    · refine thn (T.done (blk X N scope cl G.objs.size s2 H2 fp) rfl rfl rfl hc i _ s3 _ Hc _ I3p (fo3 fr3) st3 stop) fun r s4 ⟨hr,I4⟩=>?_
      subst hr
      have hD4:=(I4.pin (s2.heap.objs.size,{ cls:=.type "list", data:=.seq its.toArray k }) (List.mem_append_right _ (List.mem_singleton.mpr rfl))).1
      obtain ⟨m,hn,_⟩:=I4.loc
      have nDt:∀ b u,Hc b=some u→b≠s2.heap.objs.size:=fun b u e z=>by rw [z,nD] at e;cases e
      have oldC:∀ b o,s2.heap.get? b=some o→b≠s2.heap.objs.size:=fun b o e=>Nat.ne_of_lt (Heap.lt_size e)
      have ub:Un (frs X.stack) fp H2 Hc s2.heap s4.heap:=I4.base
      have cC:∀ b,b<s2.heap.objs.size→b≠G.objs.size:=fun b hb z=>absurd (Nat.lt_of_lt_of_le hb hCle) (by rw [z];exact Nat.lt_irrefl _)
      refine fin _ G.objs.size s4 (upd Hc s2.heap.objs.size (.lst ys)) m ?_ (q _ nD) hn (by rw [qaw (fun z=>hDC z.symm)];exact I4.free) (fun z=>cC _ I2.lt z.symm) (Nat.le_trans I2.sz hCle)
        (fun x c e=>by obtain ⟨v,q⟩:=I2.cell x c e;exact cC _ q.lt) fun p hp=>cC _ (Heap.lt_size (I2.pin p hp).1)
      refine I2.call' (ch:=fp) (s':=s4) I4.os ?_ ?_ I4.bare fun b hb=>⟨(f2 b hb).2.2.2.1,(f2 b hb).2.1,(f2 b hb).2.2.2.2.1,(f2 b hb).2.2.2.2.2⟩
      · refine ⟨ub.keep,ub.slot,fun b o e n hx=>?_,ub.there,fun b xs e=>?_,fun b o u e=>?_,fun b ps e=>?_⟩
        · rw [qaw (oldC b o e)];exact ub.free b o e n hx
        · have z:=ub.tups b xs e
          rw [qaw (nDt b _ z)];exact z
        · have z:=ub.frzs b o u e
          rw [qaw (nDt b _ z)];exact z
        · obtain ⟨more,z⟩:=ub.tbls b ps e
          exact ⟨more,by rw [qaw (nDt b _ z)];exact z⟩
      · intro b u e
        by_cases hb:b=s2.heap.objs.size
        · subst hb
          rw [upd_same] at e
          cases e
          exact ⟨hl,its,k,hv,hD4⟩
        · rw [qaw hb] at e
          exact (I4.hok b u e).stay (fun c v _ q=>q) (fun c q=>by rw [qaw (nDt c _ q)];exact q) fun c xs q=>by rw [qaw (nDt c _ q)];exact q
    · refine thn (T.item (blk X N scope cl G.objs.size s2 H2 fp) rfl rfl rfl hc i _ s3 _ Hc _ I3p (fo3 fr3) st3 go) fun r s4 ⟨u,hr,h4⟩=>?_
      subst hr
      refine thn h4 fun _ s5 ⟨x,H5,I5,r5,y5,st5,fr5⟩=>?_
      have I5':=I5.pinned (fo3 fr5) (T.obj _ _ st5)
      refine thn (hg _ _ _ _ _ s5 _ H5 x u _ I5' r5 (nxt x H5 y5)) fun _ s6 ⟨σ6,H6,I6,q6⟩=>?_
      refine thn (he _ _ _ _ _ s6 σ6 H6 _ I6 q6) fun uy s7 ⟨y,H7,I7,r7,w7⟩=>?_
      have pD:=I7.pin (s2.heap.objs.size,{ cls:=.type "list", data:=.seq its.toArray k }) (List.mem_append_right _ (List.mem_append_left _ (List.mem_singleton.mpr rfl)))
      have pF:∀ b∈fp,∀ o,s5.heap.get? b=some o→s7.heap.get? b=some o∧H7 b=none:=fun b hb o e=>by
        have z:=I7.pin (b,o) (List.mem_append_right _ (List.mem_append_right _ (qdd hb e)))
        exact ⟨z.1,z.2.1⟩
      refine append_at (hsz:=hz) pD.1 fun h8 sb8 hD8=>?_
      have I7n:Inv (blk X N scope cl G.objs.size s2 H2 fp) [] σ6 H7 s7:=I7.pins_of fun p hp=>nomatch hp
      have I8:Inv (blk X N scope cl G.objs.size s2 H2 fp) [] σ6 H7 { s7 with heap:=h8,toks:=s7.toks }:=I7n.turned (fun b o hb e=>sb8.extBut b o hb e) pD.2.1 hDC (.inr (Nat.le_refl _)) ncD (fun p hp=>nomatch hp)
      refine ⟨n0 - (i+1),by omega,i+1,ys++[y],its++[uy],k+1,H7,qgv B I2 f2 I8,?_,Paired.snoc hv r7,pD.2.1,T.keep _ _ _ st5 (fun b hb o e=>sb8.extBut b o (nfD b hb).symm (pF b hb o e).1),fun b hb=>?_,w7,rfl⟩
      · show h8.get? _=_
        rw [hD8,List.push_toArray]
      · obtain ⟨o,e,_⟩:=T.obj _ _ st5 b hb
        exact (pF b hb o e).2
  exact codeAny_compStart_list loop (T.self X.A 0 _ _ _ (T.keep _ _ _ st2 (fun b _ o e=>old b o e)) loop)
theorem qcj {elt iter tg:Expr} {pos:Pos} {wi:TI} {g:TG} {te:TE} (hc:X.calm=true) (B:BlkOk X N capt scope cl) (hi:PI X tg iter wi)
    (hg:∀ C s H fp,PG (blk X N scope cl C s H fp) tg g) (he:∀ C s H fp,PE (blk X N scope cl C s H fp) elt te)
    (hs:∀ x,foldedSetIterable iter X.env x=pure x:=by intro _;rfl):PE X (.ListComp elt [⟨tg,iter,[],0⟩] scope pos) (qci wi capt g te):=by
  intro pins s σ H Q I h
  rw [eval_ListComp]
  refine wpAny_comprehension_free (use:=none) rfl hs B.clos B.kind B.names (qjd (fun acc C=>compPost (model X.prog X.w) X.A X.xe none (EP X pins σ Q) acc C) hc B hi hg he I h fun D C s4 Hq m I4 q hn hf h1 h2 h3 h4=>?_)
  exact ⟨m,hn,fun h' sb=>⟨.ref D,Hq,I4.turned (fun b o hb e=>sb.extBut b o hb e) hf h1 (.inr h2) h3 h4,rfl,q⟩⟩
theorem qid {i:Nat} {x:Str} {pos' spos:Pos} {elt iter tg:Expr} {pos:Pos} {wi:TI} {g:TG} {te:TE} (hN:X.N.Nodup) (hi':X.N[i]?=some x) (hx:Loc X.env.scope x) (hc:X.calm=true) (B:BlkOk X N capt scope cl) (hi:PI X tg iter wi)
    (hg:∀ C s H fp,PG (blk X N scope cl C s H fp) tg g) (he:∀ C s H fp,PE (blk X N scope cl C s H fp) elt te)
    (hsw:swapsWith (.ListComp elt [⟨tg,iter,[],0⟩] scope pos) (some (.Name x pos')) spos.line X.env=pure true:=by rfl)
    (hs:∀ x,foldedSetIterable iter X.env x=pure x:=by intro _;rfl) (hf:X.fn x=true∨X.env.scope.names.lookup x=some .local:=by first | exact .inl rfl | exact .inr rfl | assumption) :
    PS X (.Assign [.Name x pos'] (.ListComp elt [⟨tg,iter,[],0⟩] scope pos) spos) (qaV (qci wi capt g te) (qak i)):=by
  intro pins s σ H D I h
  rw [exec_Assign_Name_used _ _ _ _ hsw]
  refine wpAny_bind (wpAny_standAt (wpAny_bind ?_))
  show wpAny _ X.A (do let _ ← comprehension (.ListComp elt [⟨tg,iter,[],0⟩] scope pos) scope X.env _ (newList []) false (eval iter X.env) (some (assign (.Name x pos') X.env))) _ _ s
  refine wpAny_bind (wpAny_mono (wpAny_comprehension_free (use:=some (assign (.Name x pos') X.env)) (Q:=fun _ s'=>SP X pins D .next s') rfl hs B.clos B.kind B.names
    (qjd (fun acc C=>compPost (model X.prog X.w) X.A X.xe (some (assign (.Name x pos') X.env)) (fun _ s'=>SP X pins D .next s') acc C) hc B hi hg he I h fun Da C s4 Hq m I4 q hn hfr h1 h2 h3 h4=>?_)) (fun _ s' hq=>wpAny_pure (wpAny_pure hq)) fun _ _ e=>e)
  show wpAny _ X.A (assign (.Name x pos') X.env (.ref Da)) _ _ _
  refine wpAny_assign_Name (qi0 I4 hN hi' hx (v:=.ref Da) rfl (fun s5 I5 ⟨a,sb5,ha⟩=>⟨m,hn.sameBut sb5 ?_,fun h' sb=>⟨_,_,I5.turned (fun b o hb e=>sb.extBut b o hb e) hfr h1 (.inr h2) h3 h4,q⟩⟩) hf)
  rcases ha with z | z
  · rw [z];exact h1
  · exact fun e=>h3 x a z e.symm
end
end Bs
namespace Bs
open PySem PySem.Spec PyProof.Rows L2
open PySem.AutoSeq1 (wpAny_loadPart')
section
variable {prog:Program} {w:World} {A:Around} {E:Value→Shared→Prop} {s:Shared} {e it t:Addr} {i:Nat} {zs:Array Value}
end
section
variable {X:Cx} {pins:List (Addr×Obj)} {σ:L2.St} {H:Hp} {s:Shared}
theorem qnP {e it:Addr} {g:Heap} {tk:Nat} {xs:List V} {its:List Value} (I:Inv X pins σ H s) (fe:qjO X pins H e) (fi:qjO X pins H it) (k:∀ b o,b≠e→b≠it→s.heap.get? b=some o→g.get? b=some o)
    (hz:xs.length≤sizeLine) (rv:Vals xs its) (ht:g.get? s.heap.objs.size=some { cls:=.type "tuple", data:=.seq its.toArray }):Inv X pins σ (upd H s.heap.objs.size (.tup xs)) { s with heap:=g,toks:=tk }:=by
  have nT:H s.heap.objs.size=none:=I.hok.fresh (Nat.le_refl _)
  have old:∀ b o,s.heap.get? b=some o→b≠s.heap.objs.size:=fun b o q=>Nat.ne_of_lt (Heap.lt_size q)
  have tr:∀ b u,H b=some u→b≠s.heap.objs.size∧b≠e∧b≠it:=fun b u q=>⟨qau q nT,qau q fe.1,qau q fi.1⟩
  have off:∀ b,b∉[e,it]→b≠e∧b≠it:=fun b hb=>⟨fun z=>hb (by simp [z]),fun z=>hb (by simp [z])⟩
  refine I.step (g':=s.gens) (d':=s.drawn) (ch:=[e,it]) (fun b hb=>?_) (fun b o _ _ hc q _=>k b o (off b hc).1 (off b hc).2 q) (fun b o _ _ hc q _=>⟨o.slots,k b o (off b hc).1 (off b hc).2 q⟩) (fun b o _ q n=>?_) (fun b o hc q=>⟨o,k b o (off b hc).1 (off b hc).2 q⟩)
    (fun b ys q=>?_) (fun b o u q=>?_) (fun b ps q=>⟨#[],?_⟩) (fun m hm=>?_) (fun b u q=>?_) I.bare
  · have z:b=e∨b=it:=by simpa using hb
    rcases z with rfl | rfl
    · exact ⟨fe.2.2.2.1,fe.2.1,fe.2.2.2.2.1,fe.2.2.2.2.2⟩
    · exact ⟨fi.2.2.2.1,fi.2.1,fi.2.2.2.2.1,fi.2.2.2.2.2⟩
  · rw [qaw (old b o q)];exact n
  · rw [qaw (tr b _ q).1];exact q
  · rw [qaw (tr b _ q).1];exact q
  · rw [qaw (tr b _ q).1,q];simp
  · obtain ⟨o,es,ep,ho,hr⟩:=hm
    exact ⟨o,es,ep,k _ o fe.2.1.symm fi.2.1.symm ho,hr⟩
  · by_cases hb:b=s.heap.objs.size
    · subst hb
      rw [upd_same] at q
      cases q
      exact ⟨hz,its,rv,⟨_,ht,rfl,_,rfl⟩⟩
    · rw [qaw hb] at q
      refine (I.hok b u q).stay (fun c v hc z=>?_) (fun c z=>by rw [qaw (tr c _ z).1];exact z) fun c ys z=>by rw [qaw (tr c _ z).1];exact z
      rcases hc with y | y
      · subst y;exact k _ v (tr _ u q).2.1 (tr _ u q).2.2 z
      · exact k c v (tr c _ y).2.1 (tr c _ y).2.2 z
end
theorem qlg {P:Program} {w:World} {K:W.Frag} {elts:List Expr} {k:Nat} {pos:Pos} (a e it:Addr) (ne:e≠it):Turn P w K (.Tuple elts k pos) (qqE K a) [e,it] e (fun i h=>(∃ old,IsEnum h e it i old)∧h.IsListIter it a i) where
  mem:=by simp
  obj:=fun i h st b hb=>by
    obtain ⟨⟨old,se⟩,o,ho,c,d⟩:=st
    have z:b=e∨b=it:=by simpa using hb
    rcases z with rfl | rfl
    · exact ⟨_,se,fun v z=>nomatch z⟩
    · exact ⟨o,ho,fun v z=>by rw [d] at z;cases z⟩
  keep:=fun i h h' st kk=>⟨let ⟨old,se⟩:=st.1;⟨old,kk e (by simp) _ se⟩,st.2.at fun o q=>kk it (by simp) o q⟩
  item:=by
    intro X hP hw hK hc i pins s σ H E I hf st hg
    subst hP hw hK
    obtain ⟨xs,x,hq,hx⟩:=hg
    obtain ⟨⟨old,se⟩,si⟩:=st
    obtain ⟨its,rv,p,hz⟩:=I.list hq
    obtain ⟨u,hu,ru⟩:=rv.get hx
    refine wpAny_pyNext_enum_item se si p.isList (x:=u) (by simpa using hu) ne fun g eo gi gt _ gk=>?_
    refine ⟨_,rfl,wpAny_letOwnedTupleGo_enum eo fun g' se' sb=>?_⟩
    have I1:=qnP (g:=g') (tk:=s.toks+1) (xs:=[.int i,x]) (its:=[.int i s.toks,u]) I (hf e (by simp)) (hf it (by simp)) (fun b o h1 h2 q=>sb.extBut b o h1 (gk b o h1 h2 q)) (sz (by simp)) (.cons ⟨_,rfl⟩ (.cons ru .nil)) (sb.extBut _ _ (Nat.ne_of_gt (Heap.lt_size se)) gt)
    refine ⟨.ref s.heap.objs.size,_,I1,rfl,⟨_,x,I.hok.fresh (Nat.le_refl _),rfl,rfl,fun ys hy=>by rw [I.list_inj hy hq];exact hx⟩,⟨⟨_,by simpa using se'⟩,gi.at fun o q=>sb.extBut it o ne.symm q⟩,fun b hb=>?_⟩
    rw [qaw]
    · exact (hf b hb).1
    · have z:b=e∨b=it:=by simpa using hb
      rcases z with rfl | rfl
      · exact Nat.ne_of_lt (Heap.lt_size se)
      · obtain ⟨o,ho,_⟩:=si;exact Nat.ne_of_lt (Heap.lt_size ho)
  done:=by
    intro X hP hw hK hc i pins s σ H E I hf st hg
    subst hP hw hK
    obtain ⟨xs,hq,hx⟩:=hg
    obtain ⟨⟨old,se⟩,si⟩:=st
    obtain ⟨its,rv,p,hz⟩:=I.list hq
    obtain ⟨f0,f1,f2,f3,f4,f5⟩:=hf it (by simp)
    have hl:=rv.length
    exact wpAny_pyNext_enum_end (I.ok.hd hc) se si p.isList (by simp;omega) fun g eb=>⟨rfl,I.turned (t':=s.toks) (fun b o hb q=>eb b o hb q) f0 f1 f3 f4 f5⟩
  self:=fun _ _ _ _ _ st h=>let ⟨_,se⟩:=st.1;wpAny_pyIter_enum se h
section
variable {X:Cx} {elts:List Expr} {k:Nat} {tpos:Pos} {a:Expr} {ta:TA} {p pos:Pos}
theorem qie (hg:Gl X "enumerate") (hm:X.mg "enumerate" = none) (ha:PA X [a] ta) (hs:starEach [a] X.env=[(false,eval a X.env)]:=by rfl):PI X (.Tuple elts k tpos) (.Call (.Name "enumerate" p) [a] [] pos) (qhE X.K ta):=by
  intro pins s σ H R I h
  refine Call_ (qeU I hg hm qjc (PyProof.Rows.callWith_type1 (thn (ha pos pins s σ H _ I h) fun us s1 ⟨vs,H1,I1,r1,q1⟩=>?_) hs rfl))
  obtain ⟨b,rfl,⟨xs,hq⟩,q⟩:=q1
  obtain ⟨u,rfl,ru⟩:=qhb r1
  cases ru
  obtain ⟨its,rv,pl,hz⟩:=I1.list hq
  refine call_enumerate_list pl.isList fun g se si _ gk=>?_
  have I2:Inv X pins σ H1 { s1 with heap:=g }:=I1.kept (t':=s1.toks) gk
  refine wpAny_pyIter_enum se ⟨_,[s1.heap.objs.size+1,s1.heap.objs.size],_,_,H1,rfl,I2,qlg b _ _ (Nat.succ_ne_self _),⟨⟨_,se⟩,si⟩,fun c hc=>?_,q⟩
  have z:c=s1.heap.objs.size+1∨c=s1.heap.objs.size:=by simpa using hc
  rcases z with rfl | rfl
  · exact I1.fpOk (Nat.le_succ _) (I1.hok.fresh (Nat.le_succ _))
  · exact I1.fpOk (Nat.le_refl _) (I1.hok.fresh (Nat.le_refl _))
end
end Bs
namespace Bs
open PySem L2
mutual
inductive RepD (H:Hp):V→PySem.W.Dat→Prop
  | non:RepD H .non .none
  | int (i:Int):RepD H (.int i) (.int i)
  | tup {p:Addr} {xs:List V} {ds:List PySem.W.Dat} (h:H p=some (.tup xs)) (r:RepA H xs ds):RepD H (.ref p) (.tuple ds)
  | lst {p:Addr} {xs:List V} {ds:List PySem.W.Dat} (h:H p=some (.lst xs)) (r:RepA H xs ds):RepD H (.ref p) (.list ds)
inductive RepA (H:Hp):List V→List PySem.W.Dat→Prop
  | nil:RepA H [] []
  | cons {x:V} {xs:List V} {d:PySem.W.Dat} {ds:List PySem.W.Dat} (h:RepD H x d) (r:RepA H xs ds):RepA H (x::xs) (d::ds)
end
noncomputable def eqD:R2:=fun x y H Q=>∃ (d e:PySem.W.Dat) (b:Bool),RepD H x d∧RepD H y e∧PySem.W.kqdOk 8 d=true∧PySem.W.kqdOk 8 e=true∧(b=true↔d=e)∧Q (.bl b) H
noncomputable def neD:R2:=fun x y H Q=>∃ (d e:PySem.W.Dat) (b:Bool),RepD H x d∧RepD H y e∧PySem.W.kqdOk 8 d=true∧PySem.W.kqdOk 8 e=true∧(b=true↔d=e)∧Q (.bl (!b)) H
noncomputable def qje (te:TE):TT:=fun σ H Q=>te σ H fun x H'=>∃ p xs,x=.ref p∧H' p=some (.lst xs)∧Q (!xs.isEmpty) H'
noncomputable def qqG (te:TE):TT:=fun σ H Q=>te σ H fun x H'=>∃ p xs,x=.ref p∧H' p=some (.tup xs)∧Q (!xs.isEmpty) H'
noncomputable def sL:V→Option Int→Option Int→Hp→VK→Prop:=fun x lo hi H Q=>∃ a xs,x=.ref a∧H a=some (.lst xs)∧∀ p,H p=none→Q (.ref p) (upd H p (.lst (qgn xs lo hi)))
noncomputable def qlh:List V→Hp→VK→Prop:=fun xs H Q=>∃ p ys,xs=[.ref p]∧H p=some (.lst ys)∧∀ l,H l=none→Q (.ref l) (upd H l (.tup ys))
noncomputable def qoC:List V→Hp→VK→Prop:=fun xs H Q=>∃ p ys,xs=[.ref p]∧H p=some (.tup ys)∧∀ l,H l=none→Q (.ref l) (upd H l (.lst ys))
noncomputable def qhF:List V→Hp→VK→Prop:=fun xs H Q=>∃ p ys,xs=[.ref p]∧H p=some (.lst ys)∧∀ l,H l=none→Q (.ref l) (upd H l (.lst ys))
end Bs
namespace Bs
open PySem PySem.Spec PyProof.Rows L2
section
variable {X:Cx} {pins:List (Addr×Obj)} {σ:L2.St} {H:Hp} {s:Shared}
mutual
theorem qdf (I:Inv X pins σ H s):∀ {x:V} {d:PySem.W.Dat} {u:Value},RepD H x d→RelV x u→∃ as,Reads s.heap u (PySem.W.kqdP d) as
  | _,_,_,.non,e=>by cases e;rw [PySem.W.kqdP];exact ⟨_,Reads.none⟩
  | _,_,_,.int i,⟨t,e⟩=>by subst e;rw [PySem.W.kqdP];exact ⟨_,Reads.int i t⟩
  | _,_,_,.tup h r,e=>by
    cases e
    obtain ⟨its,rv,p,_⟩:=I.tuple (SqT.of h)
    obtain ⟨as,q⟩:=qif I r rv
    obtain ⟨o,ho,hc,n,hd⟩:=p
    rw [PySem.W.kqdP]
    exact ⟨as,reads_tuple_at ho hc hd (by simpa using q)⟩
  | _,_,_,.lst h r,e=>by
    cases e
    obtain ⟨its,rv,p,_⟩:=I.list (SqL.of h)
    obtain ⟨as,q⟩:=qif I r rv
    obtain ⟨o,n,ho,hc,_,hd⟩:=p
    rw [PySem.W.kqdP]
    exact ⟨_,reads_list_at ho hc hd (by simpa using q)⟩
theorem qif (I:Inv X pins σ H s):∀ {xs:List V} {ds:List PySem.W.Dat} {us:List Value},RepA H xs ds→Vals xs us→∃ as,ReadsAll s.heap us (PySem.W.kqdPs ds) as
  | _,_,_,.nil,.nil=>by rw [PySem.W.kqdPs];exact ⟨_,ReadsAll.nil⟩
  | _,_,_,.cons h r,.cons e es=>by
    obtain ⟨as,q⟩:=qdf I h e
    obtain ⟨bs,q2⟩:=qif I r es
    rw [PySem.W.kqdPs]
    exact ⟨_,ReadsAll.cons q q2⟩
end
theorem qeW {d:PySem.W.Dat} (h:PySem.W.kqdOk 8 d=true):SeqAt.shaped (PySem.W.kqdP d)=true:=by
  have z:=PySem.W.kqd_lay 8 d h
  unfold SeqAt.shaped
  rw [z.1,Bool.true_and]
  exact decide_eq_true (Nat.le_trans z.2 (by decide))
theorem qoD {d e:PySem.W.Dat} {b:Bool} (h1:PySem.W.kqdOk 8 d=true) (h2:PySem.W.kqdOk 8 e=true) (hb:b=true↔d=e):PyData.eqv (PySem.W.kqdP d) (PySem.W.kqdP e)=b:=by
  rw [Bool.eq_iff_iff,hb]
  exact PySem.W.kqd_eqv 8 d e 8 h1 h2
theorem qqH (hu:X.A.units+64<cLine):OpR X (compareOp .Eq) eqD:=by
  intro pins s σ H x y v u Q I rx ry h
  obtain ⟨d,e,b,r1,r2,k1,k2,hb,q⟩:=h
  obtain ⟨as,q1⟩:=qdf I r1 rx
  obtain ⟨bs,q2⟩:=qdf I r2 ry
  exact eq_dataH q1 q2 (qeW k1) (qeW k2) hu (by rw [qoD k1 k2 hb];exact ⟨.bl b,H,I,rfl,q⟩)
theorem qoE (hu:X.A.units+64<cLine):OpR X (compareOp .NotEq) neD:=by
  intro pins s σ H x y v u Q I rx ry h
  obtain ⟨d,e,b,r1,r2,k1,k2,hb,q⟩:=h
  obtain ⟨as,q1⟩:=qdf I r1 rx
  obtain ⟨bs,q2⟩:=qdf I r2 ry
  exact ne_dataH q1 q2 (qeW k1) (qeW k2) hu (by rw [qoD k1 k2 hb];exact ⟨.bl (!b),H,I,rfl,q⟩)
theorem qgw {a:Expr} {ta:TE} (ha:PE X a ta) (he:∀ whole,isTrue a X.env whole=(do let v ← whole;standAt a.pos;holding [v] (truthy v))):PT X a (qje ta):=fun pins s σ H Q I h=>
  isTrue_plain (thn (ha pins s σ H _ I h) fun v s1 ⟨x,H1,I1,r1,q1⟩=>by
    obtain ⟨p,xs,e,hp,q⟩:=q1
    subst e
    exact qqe pins s1 σ H1 _ v Q I1 r1 ⟨_,.inl ⟨xs,SqL.of hp,rfl⟩,q⟩) (he _)
theorem qfq:SlR X sL:=by
  intro pins s σ H x v vl vu lo hi sl Q I rx hs pl pu h
  obtain ⟨a,xs,e,ha,q⟩:=h
  exact qlX pins s σ H x v vl vu lo hi sl Q I rx hs pl pu ⟨a,xs,e,SqL.of ha,q⟩
theorem qgx:qdT X (.type "tuple") qlh:=fun pins s σ H xs us Q I r h=>by
  obtain ⟨p,ys,e,hp,q⟩:=h
  exact qh0 pins s σ H xs us Q I r ⟨p,ys,e,.inl ⟨SqL.of hp,q⟩⟩
theorem qfr:qdT X (.type "list") qhF:=fun pins s σ H xs us Q I r h=>by
  obtain ⟨p,ys,e,hp,q⟩:=h
  exact qi8 pins s σ H xs us Q I r ⟨p,ys,e,.inl (SqL.of hp),q⟩
theorem qig:PGet X gL:=by
  intro pins s σ H o i ov iv Q I ro ri h
  obtain ⟨p,k,xs,v,rfl,rfl,hp,ha,q⟩:=h
  cases ro
  obtain ⟨t,rfl⟩:=ri
  obtain ⟨its,r,pl,hz⟩:=I.list (SqL.of hp)
  obtain ⟨j,h1,h2,h3,h4,h5⟩:=qjQ ha
  obtain ⟨w,ew,rw'⟩:=r.get h2
  have hl:=r.length
  have hn:=qhw
  have fin:EP X pins σ Q w s:=⟨v,H,I,rw',q⟩
  by_cases h0:0≤k
  · have hj:k.toNat=j:=by
      rw [seqIndex_of h0 h5] at h1
      exact Option.some.inj h1
    exact wpAny_getItem_list pl.isList h0 (by omega) (by rw [hj];simpa using ew) fin
  · have hj:(k+(its.toArray.size:Int)).toNat=j:=by
      rw [seqIndex_neg (by omega) h4] at h1
      rw [List.size_toArray,← hl]
      exact Option.some.inj h1
    exact wpAny_getItem_list_neg pl.isList (by omega) (by rw [List.size_toArray] <;> omega) (by omega) (by rw [hj];simpa using ew) fin
theorem qfs {K:W.Frag} {p:Addr} {xs:List V} (h:H p=some (.lst xs)):tyV K "list" (.ref p) H:=.inl ⟨rfl,xs,SqL.of h⟩
end
end Bs
namespace Bs
open PySem L2
noncomputable def qhd (n:Nat) (t:TGs):TG:=fun v σ H Q=>∃ a xs,v=.ref a∧H a=some (.tup xs)∧xs.length=n∧t xs σ H Q
end Bs
namespace Bs
open PySem PySem.Spec PyProof.Rows L2
theorem qeE {X:Cx} {es:List Expr} {k:Nat} {pos:Pos} {t:TGs} {n:Nat} (hc:X.calm=true) (h:PGs X es t)
    (hn:(assignEach es X.env).length=n:=by rfl) (hst:(assignEach es X.env).findIdx? (·.1)=none:=by rfl):PG X (.Tuple es k pos) (qhd n t):=fun pins s σ H v u Q I r q=>by
  obtain ⟨a,xs,e,ha,hl,q⟩:=q
  exact qqc hc h hn hst pins s σ H v u Q I r ⟨a,xs,e,SqT.of ha,hl,q⟩
theorem qmi {X:Cx}:OpR X (inplaceOp .FloorDiv) qjb:=opI fun i j _ _ _ _ _ hc q=>by
  refine ifloordiv_int (Int.ne_of_gt hc.1) ?_ (.inl (PyProof.noPylong_of_log2 (hc.2.log2 (by decide))))
  rw [Int.fdiv_eq_ediv_of_nonneg i (Int.le_of_lt hc.1)]
  exact q
end Bs
namespace Bs
open PySem L2
noncomputable def sT:V→Option Int→Option Int→Hp→VK→Prop:=fun x lo hi H Q=>∃ a xs,x=.ref a∧H a=some (.tup xs)∧∀ p H',(H'=H∧p=a∧qgn xs lo hi=xs)∨(H p=none∧H'=upd H p (.tup (qgn xs lo hi)))→Q (.ref p) H'
end Bs
namespace HT
open PySem PySem.Spec PyProof.Rows
end HT
namespace Bs
open PySem PySem.Spec PyProof.Rows L2
end Bs
namespace Bs
open PySem L2
noncomputable def Itd (lo:Int) (n:Nat):It:=⟨fun i _=>i<n,fun i H x H'=>H'=H∧x=.int (lo - i),fun i _=>n≤i⟩
noncomputable def Itv (K:W.Frag) (a:Addr) (n:Nat):It:=⟨fun i H=>i<n∧∃ xs,SqL K H a xs∧xs.length=n,fun i H x H'=>H'=H∧∀ xs,SqL K H a xs→xs[n - 1 - i]?=some x,fun i _=>n=i⟩
noncomputable def qnQ (ta:TA):TI:=fun σ H R=>ta σ H fun vs H1=>∃ i j:Int,vs=[.int i,.int j,.int (-1)]∧(-(2 ^ 62)≤i∧i<2 ^ 62∧-(2 ^ 62)≤j∧j<2 ^ 62)∧R (Itd i (i - j).toNat) H1
noncomputable def qsk (K:W.Frag) (ta:TA):TI:=fun σ H R=>ta σ H fun vs H1=>∃ a xs,vs=[.ref a]∧SqL K H1 a xs∧R (Itv K a xs.length) H1
section
variable {K:W.Frag} {ta:TA} {g:TG} {tb:TS} {D:Ends} {σ:L2.St} {H:Hp} {a:Addr} {xs:List V}
theorem qmj:qf8 (qnQ ta) g tb D σ H=ta σ H (fun vs H1=>∃ i j:Int,vs=[.int i,.int j,.int (-1)]∧(-(2 ^ 62)≤i∧i<2 ^ 62∧-(2 ^ 62)≤j∧j<2 ^ 62)∧ForJ (Itd i (i - j).toNat) g tb D σ H1):=rfl
theorem qmk:qf8 (qsk K ta) g tb D σ H=ta σ H (fun vs H1=>∃ a xs,vs=[.ref a]∧SqL K H1 a xs∧ForJ (Itv K a xs.length) g tb D σ H1):=rfl
theorem ForJ.down {lo:Int} {n:Nat} (Pv:Nat→L2.St→Hp→Prop) (h0:Pv 0 σ H)
    (hs:∀ i σ H,i<n→Pv i σ H→g (.int (lo - i)) σ H fun σ2 H2=>tb { D with nx:=Pv (i+1),ct:=Pv (i+1),bk:=D.nx } σ2 H2) (hd:∀ σ H,Pv n σ H→D.nx σ H):ForJ (Itd lo n) g tb D σ H:=by
  refine ⟨fun i m σ H=>m=n - i∧i≤n∧Pv i σ H,⟨n,by simp,Nat.zero_le _,h0⟩,?_⟩
  rintro i m σ H ⟨rfl,hi,pv⟩
  by_cases lt:i<n
  · refine .inr ⟨lt,Pv (i+1),fun σ' H' p'=>⟨n - (i+1),by omega,rfl,lt,p'⟩,fun x H' y=>?_⟩
    obtain ⟨e,y⟩:=y
    subst e y
    exact hs i σ _ lt pv
  · have e:i=n:=by omega
    subst e
    exact .inl ⟨Nat.le_refl _,hd σ H pv⟩
end
end Bs
namespace Bs
open PySem PySem.Spec PyProof.Rows L2
theorem qml {P:Program} {w:World} {K:W.Frag} {tg:Expr} (it:Addr) (lo:Int) (n:Nat):Turn P w K tg (Itd lo n) [it] it (fun i h=>IsRangeIter h it (lo+(i:Nat)*(-1)) ((n:Int) - (i:Nat)) (-1)) where
  mem:=by simp
  obj:=fun i h st b hb=>by
    have e:b=it:=by simpa using hb
    subst e
    exact ⟨_,st,fun v z=>by
      have z':Data.fields _=Data.cell v:=z
      cases z'⟩
  keep:=fun i h h' st k=>k it (by simp) _ st
  item:=by
    intro X hP hw hK hc i pins s σ H E I hf st hg
    subst hP hw hK
    obtain ⟨f0,f1,f2,f3,f4,f5⟩:=hf it (by simp)
    have W:=Walks.range (prog:=X.prog) (w:=X.w) (I.ok.hd hc) it lo (-1) n
    refine W.item i s _ _ hg st fun v h' tk hv st' kk=>?_
    obtain ⟨t,rfl⟩:=hv
    have I1:Inv X pins σ H { s with heap:=h',toks:=tk }:=I.turned (fun b o hb e=>kk b o (by simpa using hb) e) f0 f1 f3 f4 f5
    refine ⟨_,rfl,qnG (s:={ s with heap:=h',toks:=tk }) (n := "range_iterator") st' rfl rfl (by decide) ⟨.int (lo - i),H,I1,⟨t,?_⟩,⟨rfl,rfl⟩,st',fun b hb=>(hf b hb).1⟩⟩
    rw [show lo+(i:Int)*(-1)=lo - i by omega]
  done:=by
    intro X hP hw hK hc i pins s σ H E I hf st hg
    subst hP hw hK
    obtain ⟨f0,f1,f2,f3,f4,f5⟩:=hf it (by simp)
    exact wpAny_pyNext_range_end (I.ok.hd hc) st (by have:n≤i:=hg;omega) fun h' eb=>⟨rfl,I.turned (t':=s.toks) (fun b o hb e=>eb b o hb e) f0 f1 f3 f4 f5⟩
  self:=fun _ _ _ _ _ st h=>wpAny_pyIter_rangeiter st h
theorem qjf (a b:Int):Builtin.Range.rangeSize a b (-1)=if b<a then a - b else 0:=by
  unfold Builtin.Range.rangeSize
  simp only [show ¬ ((-1:Int) > 0) by decide,if_false,Int.neg_neg,Int.ediv_one]
  split <;> omega
theorem qli {a b:Int} (ha:-(2 ^ 62)≤a) (ha':a<2 ^ 62) (hb:-(2 ^ 62)≤b) (hb':b<2 ^ 62):Builtin.Range.small a b (-1)=true:=by
  unfold Builtin.Range.small
  rw [qjf]
  simp only [Builtin.Range.rangeFitsLong,Bool.and_eq_true,Bool.or_eq_true,decide_eq_true_eq,beq_iff_eq,show ¬ ((-1:Int) > 0) by decide,if_false]
  split <;> omega
theorem qjg {X:Cx} {tg:Expr} {a b c:Expr} {ta:TA} {p pos:Pos} (hg:Gl X "range") (hm:X.mg "range" = none) (ha:PA X [a,b,c] ta) (hs:starEach [a,b,c] X.env=[(false,eval a X.env),(false,eval b X.env),(false,eval c X.env)]:=by rfl) (hs2:starEach [b,c] X.env=[(false,eval b X.env),(false,eval c X.env)]:=by rfl) :
    PI X tg (.Call (.Name "range" p) [a,b,c] [] pos) (qnQ ta):=by
  intro pins s σ H R I h
  refine Call_ (qeU I hg hm boot_range (PyProof.Rows.callWith_type1 (thn (ha pos pins s σ H _ I h) fun us s1 ⟨vs,H1,I1,r1,q1⟩=>?_) (by rw [hs,hs2]) (by rw [hs2];rfl)))
  obtain ⟨i,j,e,⟨q1,q2,q3,q4⟩,q⟩:=q1
  subst e
  cases r1 with
  | cons r rr=>
    cases rr with
    | cons r' rr=>
      cases rr with
      | cons r'' rr=>
        cases rr
        obtain ⟨t,rfl⟩:=r
        obtain ⟨t',rfl⟩:=r'
        obtain ⟨t'',rfl⟩:=r''
        refine call_range_3 (by decide) ?_ (.inl (PyProof.noPylong_small (by decide)))
        refine wpAny_pyIter_range (IsRange.new ..) (qli q1 q2 q3 q4) ?_
        have I2:Inv X pins σ H1 { s1 with heap:=s1.heap.push { cls:=.type "range", data:=.fields #[.int i t,.int j t',.int (-1) t''] },toks:=s1.toks }:=I1.kept fun b o e=>Heap.get?_push_of_some _ e
        refine ⟨(s1.heap.push { cls:=.type "range", data:=.fields #[.int i t,.int j t',.int (-1) t''] }).objs.size,[(s1.heap.push { cls:=.type "range", data:=.fields #[.int i t,.int j t',.int (-1) t''] }).objs.size],_,_,H1,rfl,
          I2.kept (t':=s1.toks) fun b o e=>Heap.get?_push_of_some _ e,qml _ i (i - j).toNat,?_,fun b hb=>?_,q⟩
        · have e1:i+((0:Nat):Int)*(-1)=i:=by simp
          have e2:(((i - j).toNat:Nat):Int) - ((0:Nat):Int)=Builtin.Range.rangeSize i j (-1):=by rw [qjf];split <;> omega
          show IsRangeIter _ _ (i+((0:Nat):Int)*(-1)) ((((i - j).toNat:Nat):Int) - ((0:Nat):Int)) (-1)
          rw [e1,e2]
          exact Heap.get?_push_size _ rfl
        · have e:b=(s1.heap.push { cls:=.type "range", data:=.fields #[.int i t,.int j t',.int (-1) t''] }).objs.size:=by simpa using hb
          subst e
          exact I2.fpOk (Nat.le_refl _) (I2.hok.fresh (Nat.le_refl _))
end Bs
namespace Bs
open PySem L2
noncomputable def qrq:R2:=fun x y H Q=>y=.non∧Q (.bl (decide (x=.non))) H
noncomputable def qpb:R2:=fun x y H Q=>y=.non∧Q (.bl (!decide (x=.non))) H
noncomputable def qrF (_ j:Int):Prop:=0<j
noncomputable def qpc (_ j:Int):Prop:=j≠0
noncomputable abbrev qjU:R2:=rI qrF fun i j=>.int (i / j)
noncomputable abbrev qhe:R2:=rI qpc fun i j=>.int (i.fdiv j)
noncomputable def Itz (K:W.Frag) (a b:Addr):It:=
  ⟨fun i H=>∃ xs ys x y,SqL K H a xs∧SqL K H b ys∧xs[i]?=some x∧ys[i]?=some y,fun i H v H'=>∃ p x y,H p=none∧v=.ref p∧H'=upd H p (.tup [x,y])∧(∀ xs,SqL K H a xs→xs[i]?=some x)∧∀ ys,SqL K H b ys→ys[i]?=some y,fun i H=>∃ xs ys,SqL K H a xs∧SqL K H b ys∧xs.length≤i⟩
noncomputable def qrG (K:W.Frag) (ta:TA):TI:=fun σ H R=>ta σ H fun vs H1=>∃ a b,vs=[.ref a,.ref b]∧(∃ xs,SqL K H1 a xs)∧(∃ ys,SqL K H1 b ys)∧R (Itz K a b) H1
noncomputable def qkz (wi:TI) (capt:List (Option Nat)) (g:TG) (tc:TT) (te:TE):TE:=fun σ H Q=>wi σ H fun J H1=>∃ (n:Nat) (W:Nat→List V→Hp→Prop),W 0 [] H1∧∀ i ys H,W i ys H→i≤n∧ys.length≤sizeLine∧
  ((J.stop i H∧∀ p,H p=none→Q (.ref p) (upd H p (.lst ys)))∨(i<n∧J.go i H∧∀ x H',J.yld i H x H'→g x (qc6 capt σ) H' fun σ2 H2=>tc σ2 H2 fun b H3=>if b=true then te σ2 H3 fun y H4=>W (i+1) (ys++[y]) H4 else W (i+1) ys H3))
noncomputable def CompF (J:It) (capt:List (Option Nat)) (g:TG) (tc:TT) (te:TE) (σ:L2.St) (Q:VK) (H1:Hp):Prop:=∃ (n:Nat) (W:Nat→List V→Hp→Prop),W 0 [] H1∧∀ i ys H,W i ys H→i≤n∧ys.length≤sizeLine∧
  ((J.stop i H∧∀ p,H p=none→Q (.ref p) (upd H p (.lst ys)))∨(i<n∧J.go i H∧∀ x H',J.yld i H x H'→g x (qc6 capt σ) H' fun σ2 H2=>tc σ2 H2 fun b H3=>if b=true then te σ2 H3 fun y H4=>W (i+1) (ys++[y]) H4 else W (i+1) ys H3))
section
variable {K:W.Frag} {ta:TA} {tl:TE} {capt:List (Option Nat)} {g:TG} {tc:TT} {te:TE} {tb:TS} {D:Ends} {σ:L2.St} {H:Hp} {Q:VK} {a b:Addr} {xs ys:List V}
theorem qkA:qkz (qc1 K tl) capt g tc te σ H Q=tl σ H (fun x H1=>∃ a,x=.ref a∧(∃ xs,SqL K H1 a xs)∧CompF (Itl K a) capt g tc te σ Q H1):=rfl
theorem qmm:qci (qrG K ta) capt g te σ H Q=ta σ H (fun vs H1=>∃ a b,vs=[.ref a,.ref b]∧(∃ xs,SqL K H1 a xs)∧(∃ ys,SqL K H1 b ys)∧CompJ (Itz K a b) capt g te σ Q H1):=rfl
theorem CompF.lst (W:Nat→List V→Hp→Prop) (h0:W 0 [] H) (hb:∀ i ys H,W i ys H→i≤xs.length∧ys.length≤sizeLine∧SqL K H a xs)
    (hs:∀ i x ys H,xs[i]?=some x→W i ys H→g x (qc6 capt σ) H fun σ2 H2=>tc σ2 H2 fun b H3=>if b=true then te σ2 H3 fun y H4=>W (i+1) (ys++[y]) H4 else W (i+1) ys H3) (hd:∀ ys H,W xs.length ys H→∀ p,H p=none→Q (.ref p) (upd H p (.lst ys))):CompF (Itl K a) capt g tc te σ Q H:=by
  refine ⟨xs.length,W,h0,fun i ys H w=>⟨(hb i ys H w).1,(hb i ys H w).2.1,?_⟩⟩
  have q:SqL K H a xs:=(hb i ys H w).2.2
  by_cases h:i<xs.length
  · refine .inr ⟨h,⟨xs,xs[i],q,by simp [h]⟩,fun x H' y=>?_⟩
    obtain ⟨e,y⟩:=y
    subst e
    exact hs i x ys _ (y xs q) w
  · have e:i=xs.length:=Nat.le_antisymm (hb i ys H w).1 (Nat.not_lt.mp h)
    subst e
    exact .inl ⟨⟨xs,q,Nat.le_refl _⟩,hd ys H w⟩
theorem CompJ.zip (hl:xs.length=ys.length) (W:Nat→List V→Hp→Prop) (h0:W 0 [] H) (hb:∀ i zs H,W i zs H→i≤xs.length∧zs.length≤sizeLine∧SqL K H a xs∧SqL K H b ys)
    (hs:∀ i x y zs H p,xs[i]?=some x→ys[i]?=some y→W i zs H→H p=none→g (.ref p) (qc6 capt σ) (upd H p (.tup [x,y])) fun σ2 H2=>te σ2 H2 fun z H3=>W (i+1) (zs++[z]) H3) (hd:∀ zs H,W xs.length zs H→∀ p,H p=none→Q (.ref p) (upd H p (.lst zs))):CompJ (Itz K a b) capt g te σ Q H:=by
  refine ⟨xs.length,W,h0,fun i zs H w=>⟨(hb i zs H w).1,(hb i zs H w).2.1,?_⟩⟩
  obtain ⟨_,_,q,q2⟩:=hb i zs H w
  by_cases h:i<xs.length
  · refine .inr ⟨h,⟨xs,ys,xs[i],ys[i],q,q2,by simp [h],by simp [hl ▸ h]⟩,fun v H' y=>?_⟩
    obtain ⟨p,x,y,hp,e1,e2,h1,h2⟩:=y
    subst e1 e2
    exact hs i x y zs _ p (h1 xs q) (h2 ys q2) w hp
  · have e:i=xs.length:=Nat.le_antisymm (hb i zs H w).1 (Nat.not_lt.mp h)
    subst e
    exact .inl ⟨⟨xs,ys,q,q2,Nat.le_refl _⟩,hd zs H w⟩
end
noncomputable def qpd:V→Hp→VK→Prop:=fun x H Q=>∃ (p:Addr) (ns:List Int),x=.ref p∧H p=some (.lst (ns.map V.int))∧∀ m:Int,(ns=[]∧m=0∨m∈ns)→Q (.int m) H
noncomputable def qnR (te:TE):TE:=fun σ H Q=>te σ H fun x H1=>qpd x H1 Q
noncomputable def qnS:List V→Hp→VK→Prop:=fun xs H Q=>∃ (p:Addr) (ns:List Int),xs=[.ref p]∧H p=some (.lst (ns.map V.int))∧Q (.bl (ns.any fun z=>!decide (z=0))) H
end Bs
namespace Bs
open PySem PySem.Spec PyProof.Rows L2
section
variable {X:Cx} {pins:List (Addr×Obj)} {σ:L2.St} {H:Hp} {s:Shared}
theorem qcP:OpR X (binaryOp .FloorDiv) qhe:=by
  intro pins s σ H x y v u Q I rx ry ⟨i,j,ex,ey,hc,q⟩
  subst ex ey
  obtain ⟨t,rfl⟩:=rx
  obtain ⟨t2,rfl⟩:=ry
  exact floordiv_int hc ⟨.int (i.fdiv j),H,I.tok _,⟨_,rfl⟩,q⟩ (Or.inr (I.ok.plr s I.bk))
theorem qga:OpR X (binaryOp .FloorDiv) qjU:=by
  intro pins s σ H x y v u Q I rx ry ⟨i,j,ex,ey,hc,q⟩
  have hc':0<j:=hc
  replace q:Q (.int (i / j)) H:=q
  rw [← Int.fdiv_eq_ediv_of_nonneg i (Int.le_of_lt hc')] at q
  exact qcP pins s σ H x y v u Q I rx ry ⟨i,j,ex,ey,Int.ne_of_gt hc',q⟩
theorem qmn {fp:List Addr} {g:Heap} {tk:Nat} (I:Inv X pins σ H s) (ff:∀ b∈fp,qjO X pins H b) (k:∀ b o,b∉fp→s.heap.get? b=some o→g.get? b=some o):Inv X pins σ H { s with heap:=g,toks:=tk }:=by
  have tr:∀ b u,H b=some u→b∉fp:=fun b u q hb=>by rw [(ff b hb).1] at q;cases q
  refine I.step (g':=s.gens) (d':=s.drawn) (ch:=fp) (fun b hb=>⟨(ff b hb).2.2.2.1,(ff b hb).2.1,(ff b hb).2.2.2.2.1,(ff b hb).2.2.2.2.2⟩) (fun b o _ _ hc q _=>k b o hc q) (fun b o _ _ hc q _=>⟨o.slots,k b o hc q⟩) (fun _ _ _ _ n=>n)
    (fun b o hc q=>⟨o,k b o hc q⟩) (fun _ _ q=>q) (fun _ _ _ q=>q) (fun b ps q=>⟨#[],by rw [q];simp⟩) (fun m hm=>?_) (fun b u q=>?_) I.bare
  · obtain ⟨o,es,ep,ho,hr⟩:=hm
    exact ⟨o,es,ep,k _ o (fun hb=>(ff _ hb).2.1 rfl) ho,hr⟩
  · refine (I.hok b u q).stay (fun c v hc z=>?_) (fun _ z=>z) fun _ _ z=>z
    rcases hc with y | y
    · subst y;exact k _ v (tr _ u q) z
    · exact k c v (tr c _ y) z
theorem qmo {fp:List Addr} {g:Heap} {tk:Nat} {xs:List V} {its:List Value} (I:Inv X pins σ H s) (ff:∀ b∈fp,qjO X pins H b) (k:∀ b o,b∉fp→s.heap.get? b=some o→g.get? b=some o)
    (hz:xs.length≤sizeLine) (rv:Vals xs its) (ht:g.get? s.heap.objs.size=some { cls:=.type "tuple", data:=.seq its.toArray }):Inv X pins σ (upd H s.heap.objs.size (.tup xs)) { s with heap:=g,toks:=tk }:=by
  have nT:H s.heap.objs.size=none:=I.hok.fresh (Nat.le_refl _)
  have tn:∀ b u,H b=some u→b≠s.heap.objs.size:=fun b u q=>qau q nT
  have tr:∀ b u,H b=some u→b∉fp:=fun b u q hb=>by rw [(ff b hb).1] at q;cases q
  refine I.step (g':=s.gens) (d':=s.drawn) (ch:=fp) (fun b hb=>⟨(ff b hb).2.2.2.1,(ff b hb).2.1,(ff b hb).2.2.2.2.1,(ff b hb).2.2.2.2.2⟩) (fun b o _ _ hc q _=>k b o hc q) (fun b o _ _ hc q _=>⟨o.slots,k b o hc q⟩) (fun b o _ q n=>?_)
    (fun b o hc q=>⟨o,k b o hc q⟩) (fun b ys q=>?_) (fun b o u q=>?_) (fun b ps q=>⟨#[],?_⟩) (fun m hm=>?_) (fun b u q=>?_) I.bare
  · rw [qaw (Nat.ne_of_lt (Heap.lt_size q))];exact n
  · rw [qaw (tn b _ q)];exact q
  · rw [qaw (tn b _ q)];exact q
  · rw [qaw (tn b _ q),q];simp
  · obtain ⟨o,es,ep,ho,hr⟩:=hm
    exact ⟨o,es,ep,k _ o (fun hb=>(ff _ hb).2.1 rfl) ho,hr⟩
  · by_cases hb:b=s.heap.objs.size
    · subst hb
      rw [upd_same] at q
      cases q
      exact ⟨hz,its,rv,⟨_,ht,rfl,_,rfl⟩⟩
    · rw [qaw hb] at q
      refine (I.hok b u q).stay (fun c v hc z=>?_) (fun c z=>by rw [qaw (tn c _ z)];exact z) fun c ys z=>by rw [qaw (tn c _ z)];exact z
      rcases hc with y | y
      · subst y;exact k _ v (tr _ u q) z
      · exact k c v (tr c _ y) z
end
noncomputable def qrH (a b z ti to i1 i2:Addr) (i:Nat) (h:Heap):Prop:=IsZip h z ti to .none∧IsPair h ti (.ref i1) (.ref i2)∧(∃ u v,IsPair h to u v)∧h.IsListIter i1 a i∧h.IsListIter i2 b i
theorem qnT {P:Program} {w:World} {K:W.Frag} {elts:List Expr} {k:Nat} {pos:Pos} {a b z ti to i1 i2:Addr} (D:ZipApart z ti to i1 i2 a b):Turn P w K (.Tuple elts k pos) (Itz K a b) [z,ti,to,i1,i2] z (qrH a b z ti to i1 i2) where
  mem:=by simp
  obj:=fun i h st c hc=>by
    obtain ⟨s1,s2,⟨u,v,s3⟩,⟨o4,s4,_,d4⟩,⟨o5,s5,_,d5⟩⟩:=st
    have hc':c=z∨c=ti∨c=to∨c=i1∨c=i2:=by simpa using hc
    rcases hc' with rfl | rfl | rfl | rfl | rfl
    · exact ⟨_,s1,fun v q=>nomatch q⟩
    · exact ⟨_,s2,fun v q=>nomatch q⟩
    · exact ⟨_,s3,fun v q=>nomatch q⟩
    · exact ⟨_,s4,fun v q=>by rw [d4] at q;cases q⟩
    · exact ⟨_,s5,fun v q=>by rw [d5] at q;cases q⟩
  keep:=fun i h h' st kk=>⟨kk z (by simp) _ st.1,kk ti (by simp) _ st.2.1,let ⟨u,v,q⟩:=st.2.2.1;⟨u,v,kk to (by simp) _ q⟩,st.2.2.2.1.at fun o q=>kk i1 (by simp) o q,st.2.2.2.2.at fun o q=>kk i2 (by simp) o q⟩
  item:=by
    intro X hP hw hK hc i pins s σ H E I hf st hg
    subst hP hw hK
    obtain ⟨xs,ys,x,y,hq,hq2,hx,hy⟩:=hg
    obtain ⟨s1,s2,⟨u0,v0,s3⟩,s4,s5⟩:=st
    obtain ⟨its,rv,p1,_⟩:=I.list hq
    obtain ⟨jts,rw',p2,_⟩:=I.list hq2
    obtain ⟨u,hu,ru⟩:=rv.get hx
    obtain ⟨v,hv,rw2⟩:=rw'.get hy
    refine wpAny_pyNext_zip_item D s1 s2 s3 s4 s5 p1.isList p2.isList (x:=u) (y:=v) (by simpa using hu) (by simpa using hv) fun g g1 g2 g3 g4 g5 _ gk=>?_
    refine ⟨_,rfl,wpAny_letOwnedTupleGo_zip g1 fun g' z1 sb=>?_⟩
    have lz:z<s.heap.objs.size:=Heap.lt_size s1
    have kept:∀ c o,c∉[z,ti,to,i1,i2]→s.heap.get? c=some o→g'.get? c=some o:=fun c o hc q=>by
      have hc':¬ (c=z∨c=ti∨c=to∨c=i1∨c=i2):=by simpa using hc
      exact sb.extBut c o (fun e=>hc' (.inl e)) (gk c o (fun e=>hc' (.inl e)) (fun e=>hc' (.inr (.inr (.inl e)))) (fun e=>hc' (.inr (.inr (.inr (.inl e))))) (fun e=>hc' (.inr (.inr (.inr (.inr e))))) q)
    have I1:=qmo (g:=g') (tk:=s.toks) (xs:=[x,y]) (its:=[u,v]) I hf kept (sz (by simp)) (.cons ru (.cons rw2 .nil)) (sb.extBut _ _ (Nat.ne_of_gt lz) g5)
    refine ⟨.ref s.heap.objs.size,_,I1,rfl,⟨_,x,y,I.hok.fresh (Nat.le_refl _),rfl,rfl,fun zs hz=>by rw [I.list_inj hz hq];exact hx,fun zs hz=>by rw [I.list_inj hz hq2];exact hy⟩,⟨z1,?_,⟨u,v,sb.extBut _ _ D.TOz g2⟩,g3.at fun o q=>sb.extBut i1 o D.i1z q,g4.at fun o q=>sb.extBut i2 o D.i2z q⟩,fun c hc=>?_⟩
    · exact sb.extBut _ _ D.TIz (gk _ _ D.TIz D.TITO D.TIi1 D.TIi2 s2)
    · rw [qaw]
      · exact (hf c hc).1
      · have hc':c=z∨c=ti∨c=to∨c=i1∨c=i2:=by simpa using hc
        obtain ⟨o4,s4,_⟩:=s4
        obtain ⟨o5,s5,_⟩:=s5
        rcases hc' with rfl | rfl | rfl | rfl | rfl
        · exact Nat.ne_of_lt lz
        · exact Nat.ne_of_lt (Heap.lt_size s2)
        · exact Nat.ne_of_lt (Heap.lt_size s3)
        · exact Nat.ne_of_lt (Heap.lt_size s4)
        · exact Nat.ne_of_lt (Heap.lt_size s5)
  done:=by
    intro X hP hw hK hc i pins s σ H E I hf st hg
    subst hP hw hK
    obtain ⟨xs,ys,hq,hq2,hx⟩:=hg
    obtain ⟨s1,s2,⟨u0,v0,s3⟩,s4,s5⟩:=st
    obtain ⟨its,rv,p1,_⟩:=I.list hq
    obtain ⟨jts,_,p2,_⟩:=I.list hq2
    have hl:=rv.length
    refine wpAny_pyNext_zip_end (I.ok.hd hc) D s1 s2 s3 s4 s5 p1.isList p2.isList (.inl (by simp;omega)) fun g gk=>⟨rfl,qmn (tk:=s.toks) I hf fun c o hc q=>?_⟩
    have hc':¬ (c=z∨c=ti∨c=to∨c=i1∨c=i2):=by simpa using hc
    exact gk c o (fun e=>hc' (.inl e)) (fun e=>hc' (.inr (.inr (.inl e)))) (fun e=>hc' (.inr (.inr (.inr (.inl e))))) (fun e=>hc' (.inr (.inr (.inr (.inr e))))) q
  self:=fun _ _ _ _ _ st h=>wpAny_pyIter_zip st.1 h
section
variable {X:Cx} {elts:List Expr} {k:Nat} {tpos:Pos} {a b:Expr} {ta:TA} {p pos:Pos}
theorem vals2 {x y:V} {us:List Value} (r:Vals [x,y] us):∃ u v,us=[u,v]∧RelV x u∧RelV y v:=r.two
theorem qqI (hg:Gl X "zip") (hm:X.mg "zip" = none) (ha:PA X [a,b] ta) (hs:starEach [a,b] X.env=(false,eval a X.env)::starEach [b] X.env:=by rfl) (hpl:(backTo pos (starEach [b] X.env)).any (·.1)=false:=by rfl):PI X (.Tuple elts k tpos) (.Call (.Name "zip" p) [a,b] [] pos) (qrG X.K ta):=by
  intro pins s σ H R I h
  refine Call_ (qeU I hg hm qqr (PyProof.Rows.callWith_type1 (thn (ha pos pins s σ H _ I h) fun us s1 ⟨vs,H1,I1,r1,q1⟩=>?_) hs hpl))
  obtain ⟨l1,l2,rfl,⟨xs,hq⟩,⟨ys,hq2⟩,q⟩:=q1
  obtain ⟨u,v,rfl,ru,rv⟩:=vals2 r1
  cases ru
  cases rv
  obtain ⟨its,_,p1,_⟩:=I1.list hq
  obtain ⟨jts,_,p2,_⟩:=I1.list hq2
  refine call_zip_2 p1.isList p2.isList fun g z1 z2 z3 z4 z5 _ gk=>?_
  have I2:Inv X pins σ H1 { s1 with heap:=g }:=I1.kept (t':=s1.toks) gk
  have n1:@LT.lt Nat _ l1 s1.heap.objs.size:=p1.lt
  have n2:@LT.lt Nat _ l2 s1.heap.objs.size:=p2.lt
  have D:ZipApart (s1.heap.objs.size+4) (s1.heap.objs.size+2) (s1.heap.objs.size+3) s1.heap.objs.size (s1.heap.objs.size+1) l1 l2:=by
    constructor <;> (show (_:Nat)≠_;omega)
  refine wpAny_pyIter_zip z1 ⟨_,[s1.heap.objs.size+4,s1.heap.objs.size+2,s1.heap.objs.size+3,s1.heap.objs.size,s1.heap.objs.size+1],_,_,H1,rfl,I2,qnT D,⟨z1,z2,⟨_,_,z3⟩,z4,z5⟩,fun c hc=>?_,q⟩
  have hc':s1.heap.objs.size≤c:=by
    have z:c=s1.heap.objs.size+4∨c=s1.heap.objs.size+2∨c=s1.heap.objs.size+3∨c=s1.heap.objs.size∨c=s1.heap.objs.size+1:=by simpa using hc
    rcases z with z | z | z | z | z <;> rw [z] <;> first | exact Nat.le_add_right _ _ | exact Nat.le_refl _
  exact I1.fpOk hc' (I1.hok.fresh hc')
end
theorem qqJ:bootBuiltins "any" = some (.builtin "any"):=by decide +kernel
theorem qeX:∀ {ns:List Int} {us:List Value} {i:Nat} {u:Value},Vals (ns.map V.int) us→us[i]?=some u→∃ n t,ns[i]?=some n∧u=Value.int n t
  | [],_,_,_,.nil,e=>by simp at e
  | n::ns,_,0,_,.cons r _,e=>by
    simp at e;subst e
    obtain ⟨t,rfl⟩:=r
    exact ⟨n,t,rfl,rfl⟩
  | _::ns,_,i+1,u,.cons _ r,e=>by
    obtain ⟨n,t,h1,h2⟩:=qeX (i:=i) (u:=u) r (by simpa using e)
    exact ⟨n,t,by simpa using h1,h2⟩
section
variable {X:Cx}
theorem qmp (hc:X.calm=true):qdT X (.builtin "any") qnS:=fun pins s σ H xs us Q I r ⟨p,ns,e,hp,q⟩=>by
  subst e
  obtain ⟨u,rfl,ru⟩:=qhb r
  cases ru
  obtain ⟨its,rv,pl,hz⟩:=I.list (SqL.of hp)
  have hl:ns.length=its.length:=by have:=rv.length;simpa using this
  refine call_any_walk (wpAny_pyIter_list pl.isList ⟨s.heap.objs.size,[s.heap.objs.size,p],[s.heap.objs.size],its.toArray.size,_,_,fun i=>!decide (ns.getD i 0=0),rfl,Walks.list (A:=X.A.in1) (show X.A.in1.handled=none from I.ok.hd hc) s.heap.objs.size p (Nat.ne_of_lt pl.lt) _,⟨⟨_,Heap.get?_push_size _ rfl,rfl,rfl⟩,pl.isList.push _⟩,?_,fun g tk gk=>?_⟩)
  · intro i v s' Q' E' hP hQ
    obtain ⟨n,t,h1,rfl⟩:=qeX rv (show its[i]?=some v by simpa using hP)
    have e:ns.getD i 0=n:=by rw [List.getD_eq_getElem?_getD,h1];rfl
    replace hQ:Q' (!decide (ns.getD i 0=0)) s':=hQ
    rw [e] at hQ
    refine PySem.P.truthy_int ?_
    have e2:(n != 0)=!decide (n=0):=by rw [Bool.eq_iff_iff];simp
    rw [e2]
    exact hQ
  · have kk:∀ b o,s.heap.get? b=some o→g.get? b=some o:=fun b o e=>gk b o (fun z=>absurd (Heap.lt_size e) (by rw [List.mem_singleton.mp z];exact Nat.lt_irrefl _)) (Heap.get?_push_of_some _ e)
    refine ⟨_,H,I.kept kk,?_,q⟩
    show Value.bool _=Value.bool _
    congr 1
    rw [Bool.eq_iff_iff]
    simp only [List.any_eq_true,List.mem_range,List.size_toArray]
    constructor
    · rintro ⟨i,hi,h⟩
      have hi2:i<ns.length:=by omega
      rw [List.getD_eq_getElem?_getD,List.getElem?_eq_getElem hi2] at h
      exact ⟨ns[i],List.getElem_mem hi2,h⟩
    · rintro ⟨x,hx,h⟩
      obtain ⟨i,hi,rfl⟩:=List.getElem_of_mem hx
      refine ⟨i,by omega,?_⟩
      rw [List.getD_eq_getElem?_getD,List.getElem?_eq_getElem hi]
      exact h
end
section
variable {prog:Program} {w:World} {A:Around} {R:Result→Shared→Prop} {I:Addr} {fp wr:List Addr} {n:Nat} {P:Nat→Value→Prop} {St:Nat→Heap→Prop} {d:Value}
theorem qgy (W:Walks prog w A.in1 I fp wr n P St) (bt:Nat→Nat→Bool) (hcmp:CmpOf prog w A.in1 .Lt P bt) (S:Addr) (hSf:S∉fp):∀ (k j q:Nat) (s:Shared) (vb:Value) (c:Nat),n - j=k→j≤n→St j s.heap→q<n→P q vb→
    s.heap.get? S=some { cls:=.type "list", dict:=none,data:=.seq #[vb,vb] c,slots:=#[] }→
    (∀ q v h' tk,q<n→P q v→(∀ b o,b∉wr→b≠S→s.heap.get? b=some o→h'.get? b=some o)→R (.ok (.ret v)) { s with heap:=h',toks:=tk })→
    codeAny (model prog w) A (.builtin "min.loop" ⟨[.ref I,.none,.ref S],[("default", d)]⟩) R s
  | 0,j,q,s,vb,c,hk,hj,hst,hq,hPb,hS,hR=>by
    have jn:j=n:=by omega
    refine codeAny_builtin F.entry_min_loop ?_
    rw [Around.under_plainId F.plain_min_loop _]
    refine wpAny_bind (m:=seqItems? (.ref S)) (wpAny_seqItems hS rfl ?_)
    refine wpAny_bind (m:=tryCatch (pyNext (.ref I)) _) (wpAny_tryCatch (W.done s _ _ (jn ▸ hst) fun h' tk kp=>?_))
    have hS2:=kp S _ (fun z=>hSf (W.sub _ z)) hS
    refine wpAny_bind (m:=updateSeq S (fun _=>#[])) (wpAny_updateSeq hS2 rfl (wpAny_bind (wpAny_letGo (wpAny_pure ?_))))
    exact hR q vb _ tk hq hPb fun b o h1 h2 e=>(Heap.get?_update_other _ _ h2.symm).trans (kp b o h1 e)
  | k+1,j,q,s,vb,c,hk,hj,hst,hq,hPb,hS,hR=>by
    have jn:j<n:=by omega
    refine codeAny_builtin F.entry_min_loop ?_
    rw [Around.under_plainId F.plain_min_loop _]
    refine wpAny_bind (m:=seqItems? (.ref S)) (wpAny_seqItems hS rfl ?_)
    refine wpAny_bind (m:=tryCatch (pyNext (.ref I)) _) (wpAny_tryCatch (W.item j s _ _ jn hst fun v h' tk hP hst' kp=>?_))
    have hS2:=kp S _ (fun z=>hSf (W.sub _ z)) hS
    refine wpAny_bind (m:=tryCatch (holding [v,v] (richCompare .Lt v vb >>= _)) _) (wpAny_tryCatch (wpAny_holding (wpAny_bind (hcmp j q v vb _ _ _ hP hPb ?_))))
    refine wpAny_bind (wpAny_holding (wpAny_truthy_bool (wpAny_bind (wpAny_letGo (wpAny_pure ?_)))))
    have nm:(toString "min" ++ toString ".loop" : String) = "min.loop" := by decide
    cases bt j q with
    | true=>
      simp only [if_true]
      refine wpAny_bind (wpAny_updateSeq hS2 rfl (wpAny_bind (wpAny_letGo ?_)))
      rw [nm]
      refine wpAny_pure ⟨plainId_quiet F.plain_min_loop _,qgy W bt hcmp S hSf k (j+1) j _ v _ (by omega) (by omega) (W.frame _ _ _ hst' fun b hb o e=>(Heap.get?_update_other _ _ (fun z:S=b=>hSf (by rw [z];exact hb))).trans e) jn hP (Heap.get?_update_self _ hS2 rfl) fun q' v' h2 tk2 hq' hP' kp2=>?_⟩
      exact hR q' v' h2 tk2 hq' hP' fun b o h1 h3 e=>kp2 b o h1 h3 ((Heap.get?_update_other _ _ h3.symm).trans (kp b o h1 e))
    | false=>
      simp only [Bool.false_eq_true,if_false]
      refine wpAny_bind (wpAny_letGo ?_)
      rw [nm]
      exact wpAny_pure ⟨plainId_quiet F.plain_min_loop _,qgy W bt hcmp S hSf k (j+1) q _ vb c (by omega) (by omega) hst' hq hPb hS2 fun q' v' h2 tk2 hq' hP' kp2=>hR q' v' h2 tk2 hq' hP' fun b o h1 h3 e=>kp2 b o h1 h3 (kp b o h1 e)⟩
theorem qlj (W:Walks prog w A.in1 I fp wr n P St) (bt:Nat→Nat→Bool) (hcmp:CmpOf prog w A.in1 .Lt P bt) (S:Addr) (hSf:S∉fp) {s:Shared} {c:Nat} (hst:St 0 s.heap)
    (hS:s.heap.get? S=some { cls:=.type "list", dict:=none,data:=.seq #[] c,slots:=#[] })
    (hR:∀ v h' tk,(n=0∧v=d∨∃ q,q<n∧P q v)→(∀ b o,b∉wr→b≠S→s.heap.get? b=some o→h'.get? b=some o)→R (.ok (.ret v)) { s with heap:=h',toks:=tk }) :
    codeAny (model prog w) A (.builtin "min.loop" ⟨[.ref I,.none,.ref S],[("default", d)]⟩) R s:=by
  refine codeAny_builtin F.entry_min_loop ?_
  rw [Around.under_plainId F.plain_min_loop _]
  refine wpAny_bind (m:=seqItems? (.ref S)) (wpAny_seqItems hS rfl ?_)
  rcases Nat.eq_zero_or_pos n with z | z
  · refine wpAny_bind (m:=tryCatch (pyNext (.ref I)) _) (wpAny_tryCatch (W.done s _ _ (z ▸ hst) fun h' tk kp=>?_))
    refine wpAny_bind (wpAny_rule (wpAny_pure ?_))
    exact hR d h' tk (.inl ⟨z,rfl⟩) fun b o h1 _ e=>kp b o h1 e
  · refine wpAny_bind (m:=tryCatch (pyNext (.ref I)) _) (wpAny_tryCatch (W.item 0 s _ _ z hst fun v h' tk hP hst' kp=>?_))
    have hS2:=kp S _ (fun z=>hSf (W.sub _ z)) hS
    have nm:(toString "min" ++ toString ".loop" : String) = "min.loop" := by decide
    refine wpAny_bind (m:=updateSeq S (fun _=>#[v,v])) (wpAny_updateSeq hS2 rfl ?_)
    rw [nm]
    refine wpAny_pure ⟨plainId_quiet F.plain_min_loop _,qgy W bt hcmp S hSf _ 1 0 _ v _ rfl z (W.frame _ _ _ hst' fun b hb o e=>(Heap.get?_update_other _ _ (fun z:S=b=>hSf (by rw [z];exact hb))).trans e) z hP (Heap.get?_update_self _ hS2 rfl) fun q' v' h2 tk2 hq' hP' kp2=>?_⟩
    exact hR v' h2 tk2 (.inr ⟨q',hq',hP'⟩) fun b o h1 h3 e=>kp2 b o h1 h3 ((Heap.get?_update_other _ _ h3.symm).trans (kp b o h1 e))
end
theorem qmq (a v:Value):argsOk "min" ⟨[a],[("default", v)]⟩:=by unfold argsOk;kernel_rfl
section
variable {X:Cx} {e:Expr} {te:TE} {p pos kp1 kp2:Pos} {kk:Nat}
theorem qpe (hc:X.calm=true) (hm:X.mg "min" = none) (hv:bootBuiltins "min" = some (.builtin "min")) (ha:PE X e te) (hg:Gl X "min" := by rfl)
    (hs:starEach [e] X.env=(false,eval e X.env)::starEach [] X.env:=by rfl) (hb:backTo pos (starEach [e] X.env)=(false,eval e X.env)::backTo pos (starEach [] X.env):=by rfl):PE X (.Call (.Name "min" p) [e] [⟨some "default", .Constant (.int 0) kk kp1,kp2⟩] pos) (qnR te):=by
  intro pins s σ H Q I h
  refine wpAny_Call_Name_kw (qeU I hg hm hv ?_ (by decide) (by decide))
  refine PyProof.Rows.callWith_kw ?_ hb (by rw [hb];rfl)
  rw [hb]
  refine Calls.spliced_cons (thn (ha pins s σ H _ I h) fun u s1 ⟨x,H1,I1,r1,q1⟩=>Calls.spliced_nil ?_)
  have kw:PK X [⟨some "default", .Constant (.int 0) kk kp1,kp2⟩] (qac (tC (.int 0)) qaA):=qo4 qad qqg
  refine thn (kw pos pins s1 σ H1 (fun vs H2=>vs=[.int 0]∧H2=H1) I1 ⟨rfl,rfl⟩) fun ws s2 ⟨zs,H2,I2,rz,ez,eh⟩=>?_
  subst ez eh
  obtain ⟨z,rfl,t,rfl⟩:=qhb rz
  obtain ⟨l,ns,rfl,hl,q⟩:=q1
  cases r1
  obtain ⟨its,rv,pl,hz⟩:=I2.list (SqL.of hl)
  have hle:ns.length=its.length:=by have:=rv.length;simpa using this
  have nm:(toString "min" ++ toString ".loop" : String) = "min.loop" := by decide
  refine kmb_tree F.kind_min F.plain_min F.entry_min (qmq _ _) ?_
  refine wpAny_bind (m:=Builtin.Builtins.bindParams "min" ["key", "default"] 0 ⟨[],[("default", Value.int 0 t)]⟩) (wpAny_of_eq (a:=[none,some (Value.int 0 t)]) rfl ?_)
  refine wpAny_bind (wpAny_pure (wpAny_bind (wpAny_pyIter_list pl.isList ?_)))
  refine wpAny_bind (wpAny_newObj_type ?_)
  rw [nm]
  have lp:l<s2.heap.objs.size:=pl.lt
  have nS:(s2.heap.push { cls:=.type "list_iterator", data:=.fields #[.ref l,.int 0 0] }).objs.size=s2.heap.objs.size+1:=Heap.size_push ..
  have W:=Walks.list (prog:=X.prog) (w:=X.w) (A:=X.A.in1) (show X.A.in1.handled=none from I2.ok.hd hc) s2.heap.objs.size l (Nat.ne_of_lt lp) its.toArray
  refine wpAny_pure ⟨plainId_quiet F.plain_min_loop _,qlj W _ (CmpOf.ints_lt (fun i=>ns.getD i 0) fun i v hP=>?_) _ ?_ ⟨⟨_,Heap.get?_push_of_some _ (Heap.get?_push_size _ rfl),rfl,rfl⟩,(pl.isList.push _).push _⟩ (Heap.get?_push_size _ rfl) fun v g tk hv2 gk=>?_⟩
  · obtain ⟨n,t2,h1,rfl⟩:=qeX rv (show its[i]?=some v by simpa using hP)
    exact ⟨t2,by rw [List.getD_eq_getElem?_getD,h1];rfl⟩
  · rw [nS]
    have:¬ (s2.heap.objs.size+1=s2.heap.objs.size∨s2.heap.objs.size+1=l):=fun z=>by
      rcases z with z | z
      · exact absurd z (Nat.succ_ne_self _)
      · rw [← z] at lp;exact absurd lp (Nat.not_lt.mpr (Nat.le_succ _))
    simpa using this
  · have kk2:∀ b o,s2.heap.get? b=some o→g.get? b=some o:=fun b o e=>by
      have lb:b<s2.heap.objs.size:=Heap.lt_size e
      refine gk b o (fun z=>?_) (fun z=>?_) (Heap.get?_push_of_some _ (Heap.get?_push_of_some _ e))
      · rw [List.mem_singleton.mp z] at lb;exact absurd lb (Nat.lt_irrefl _)
      · rw [z,nS] at lb;exact absurd lb (Nat.not_lt.mpr (Nat.le_succ _))
    have I3:=I2.kept (t':=tk) kk2
    rcases hv2 with ⟨z,rfl⟩ | ⟨i,hi,hP⟩
    · exact ⟨.int 0,_,I3,⟨t,rfl⟩,q 0 (.inl ⟨List.length_eq_zero_iff.mp (by rw [List.size_toArray] at z;omega),rfl⟩)⟩
    · obtain ⟨n,t2,h1,rfl⟩:=qeX rv (show its[i]?=some v by simpa using hP)
      exact ⟨.int n,_,I3,⟨t2,rfl⟩,q n (.inr (List.mem_of_getElem? h1))⟩
end
end Bs
namespace Bs
open PySem PySem.Spec PyProof.Rows L2
section
variable {X:Cx} {pins:List (Addr×Obj)} {σ:L2.St} {H:Hp} {s:Shared} {N:List Str} {capt:List (Option Nat)} {scope:Scope} {cl:List (Str×Addr)} {C:Addr} {fp:List Addr}
theorem qjh {prog:Program} {w:World} {A:Around} {R:Result→Shared→Prop} {s:Shared} {elt target iter c:Expr} {scope:Scope} {pos:Pos} {it acc:Value} {env:Env} (I:Nat→Shared→Prop)
    (turn:∀ n s,I n s→wpAny (model prog w) A (pyNext it) (fun r s₁=>match r with
      | none=>R (.ok .next) s₁
      | some v=>wpAny (model prog w) A (letOwnedTupleGo target it v) (fun _ s₂=>wpAny (model prog w) A (assign target env v) (fun _ s₃=>wpAny (model prog w) A (isTrue c env (eval c env)) (fun okb s₆=>if okb=true then wpAny (model prog w) A (eval elt env) (fun x s₄=>
          wpAny (model prog w) A (call (.builtin "list.append") [acc,x]) (fun _ s₅=>∃ m,m<n∧I m s₅) (fun _ _=>False) s₄) (fun _ _=>False) s₆ else ∃ m,m<n∧I m s₆) (fun _ _=>False) s₃) (fun _ _=>False) s₂) (fun _ _=>False) s₁) (fun _ _=>False) s)
    (n:Nat) (h:I n s):codeAny (model prog w) A (.compLoop (.ListComp elt [⟨target,iter,[c],0⟩] scope pos) 0 it acc env) R s:=by
  refine codeAny_loop rfl I (fun n s hI=>?_) n h
  show wpAny _ A ((compTurn (.ListComp elt [⟨target,iter,[c],0⟩] scope pos) 0 it acc env).onRaise (fun x=>do noteFrame x env;theTreesLotGoes x)) _ _ s
  refine wpAny_noted ?_
  rw [compTurn_list]
  have no:∀ {E':Value→Shared→Prop} (e:Value) (s':Shared),(fun (_:Value) (_:Shared)=>False) e s'→E' e s':=fun _ _ f=>f.elim
  refine wpAny_bind (wpAny_standAt (wpAny_bind (wpAny_mono (turn n s hI) (fun r s₁ h₁=>?_) no)))
  cases r with
  | none=>exact wpAny_pure h₁
  | some v=>
    refine wpAny_bind (wpAny_mono h₁ (fun _ s₂ h₂=>?_) no)
    refine wpAny_bind (wpAny_mono h₂ (fun _ s₆ h₆=>wpAny_bind (wpAny_tests_one (wpAny_mono h₆ (fun okb s₃ h₃=>?_) no))) no)
    cases okb with
    | false=>exact wpAny_pure ⟨rfl,h₃⟩
    | true=>exact wpAny_bind (wpAny_bind (wpAny_mono h₃ (fun x s₄ h₄=>wpAny_bind (wpAny_mono h₄ (fun _ s₅ h₅=>wpAny_pure (wpAny_pure ⟨rfl,h₅⟩)) no)) no))
theorem qlk {elt iter tg c:Expr} {tc:TT} {pos:Pos} {wi:TI} {g:TG} {te:TE} {pins:List (Addr×Obj)} {s:Shared} {σ:L2.St} {H:Hp} {Q:VK} (RR:Value→Addr→Result→Shared→Prop) (hc:X.calm=true) (B:BlkOk X N capt scope cl) (hi:PI X tg iter wi)
    (hg:∀ C s H fp,PG (blk X N scope cl C s H fp) tg g) (ht:∀ C s H fp,PT (blk X N scope cl C s H fp) c tc) (he:∀ C s H fp,PE (blk X N scope cl C s H fp) elt te) (I:Inv X pins σ H s) (h:qkz wi capt g tc te σ H Q)
    (fin:∀ (D C:Addr) (s4:Shared) (Hq:Hp) (m:Str→Option Value),Inv X pins σ Hq s4→Q (.ref D) Hq→s4.heap.Ns C m→Hq C=none→C≠X.env.locals→X.s₀.heap.objs.size≤C→(∀ x c,X.env.cells.lookup x=some c→c≠C)→(∀ p∈X.pn++pins,p.1≠C)→RR (.ref D) C (.ok .next) s4) :
    wpAny (model X.prog X.w) X.A (eval iter X.env) (fun x s₁=>wpAny (model X.prog X.w) X.A (pyIter x) (fun it s₂=>wpAny (model X.prog X.w) X.A (newList []) (fun acc s₃=>
      wpAny (model X.prog X.w) X.A (newFunctionEnv scope X.env.globals cl [] X.env.qual none .none (some X.env)) (fun cenv s₄=>
        codeAny (model X.prog X.w) X.A (.compStart (.ListComp elt [⟨tg,iter,[c],0⟩] scope pos) 0 it acc { cenv with scope:=relabel scope X.env }) (RR acc cenv.locals) s₄) X.xe s₃) X.xe s₂) X.xe s₁) X.xe s:=by
  refine thn (hi pins s σ H _ I h) fun v s1 h1=>thn h1 fun itv s2 h2=>?_
  obtain ⟨it,fp,tn,J,H2,e,I2,T,st2,f2,n0,W,w0,turn⟩:=h2
  subst e
  have fl:∀ b∈fp,b<s2.heap.objs.size:=fun b hb=>by obtain ⟨o,e,_⟩:=T.obj _ _ st2 b hb;exact Heap.lt_size e
  refine wpAny_newObj_type (wpAny_newFunctionEnv B.nocell (by intro y hy;simp at hy) (fun h₁ hns₁ hsb₁=>?_) B.kind)
  dsimp only at hns₁ hsb₁ ⊢
  generalize hG:s2.heap.push { cls:=.type "list", dict:=none,data:=.seq ([]:List Value).toArray }=G at hns₁ hsb₁ ⊢
  have hC:G.objs.size=s2.heap.objs.size+1:=by rw [← hG,Heap.size_push]
  have hCle:s2.heap.objs.size≤G.objs.size:=by rw [hC];exact Nat.le_succ _
  have hDC:s2.heap.objs.size≠G.objs.size:=by rw [hC];exact Nat.ne_of_lt (Nat.lt_succ_self _)
  have old:∀ b o,s2.heap.get? b=some o→h₁.get? b=some o:=fun b o e=>hsb₁.extBut b o (by rw [hC];exact Nat.ne_of_lt (Nat.lt_succ_of_lt (Heap.lt_size e))) (Heap.get?_push_of_some _ (hG ▸ Heap.get?_push_of_some _ e))
  have hacc:h₁.get? s2.heap.objs.size=some { cls:=.type "list", data:=.seq ([]:List Value).toArray }:=hsb₁.extBut _ _ hDC (Heap.get?_push_of_some _ (hG ▸ Heap.get?_push_size _ rfl))
  have ok':=qmg B I2 f2 fl hCle
  have nsD:s2.heap.objs.size∉frs X.stack:=fun hb=>by
    rcases List.mem_cons.mp (I2.stkSub _ hb) with z | z
    · exact absurd I2.lt (by rw [← z];exact Nat.lt_irrefl _)
    · exact I2.nofs (Nat.le_refl _) z
  have ncD:∀ x c,cl.lookup x=some c→c≠s2.heap.objs.size:=fun x c e z=>by
    obtain ⟨v,q⟩:=I2.cell x c (B.cells x c e)
    exact absurd q.lt (by rw [z];exact Nat.lt_irrefl _)
  have nfD:∀ b∈fp,s2.heap.objs.size≠b:=fun b hb z=>absurd (fl b hb) (by rw [← z];exact Nat.lt_irrefl _)
  have I₁:Inv (blk X N scope cl G.objs.size s2 H2 fp) [] (qc6 capt σ) H2 { s2 with heap:=h₁,toks:=s2.toks+([]:List (Str×Value)).length }:=qmh B I2 f2 fl hCle hns₁ old
  have loop:codeAny (model X.prog X.w) X.A (.compLoop (.ListComp elt [⟨tg,iter,[c],0⟩] scope pos) 0 (.ref it) (.ref s2.heap.objs.size) (compEnvC scope cl G.objs.size X.env))
      (RR (.ref s2.heap.objs.size) G.objs.size) { s2 with heap:=h₁,toks:=s2.toks+([]:List (Str×Value)).length }:=by
    refine qjh (fun n s'=>∃ (i:Nat) (ys:List V) (its:List Value) (k:Nat) (Hc:Hp),Inv (blk X N scope cl G.objs.size s2 H2 fp) [] (qc6 capt σ) Hc s'∧s'.heap.get? s2.heap.objs.size=some { cls:=.type "list", data:=.seq its.toArray k }∧Vals ys its∧
      Hc s2.heap.objs.size=none∧tn i s'.heap∧(∀ b∈fp,Hc b=none)∧W i ys Hc∧n=n0 - i) ?_ n0 ⟨0,[],[],0,H2,I₁,hacc,.nil,I2.hok.fresh (Nat.le_refl _),T.keep _ _ _ st2 (fun b _ o e=>old b o e),fun b hb=>(f2 b hb).1,w0,rfl⟩
    rintro n s3 ⟨i,ys,its,k,Hc,I3,hD,hv,nD,st3,fr3,w3,en⟩
    obtain ⟨_,hl,step⟩:=turn i ys Hc w3
    have hz:its.toArray.size≤sizeLine:=by rw [List.size_toArray,← hv.length];exact hl
    have I3p:Inv (blk X N scope cl G.objs.size s2 H2 fp) [(s2.heap.objs.size,{ cls:=.type "list", data:=.seq its.toArray k })] (qc6 capt σ) Hc s3:=I3.pins_of fun p hp=>by
      rw [List.mem_singleton] at hp
      subst hp
      exact ⟨hD,nD,hDC,nsD,fun v z=>nomatch z⟩
    have fo3:∀ {Hx:Hp} (_:∀ b∈fp,Hx b=none),∀ b∈fp,qjO (blk X N scope cl G.objs.size s2 H2 fp) [(s2.heap.objs.size,{ cls:=.type "list", data:=.seq its.toArray k })] Hx b:=fun hx b hb=>
      ⟨hx b hb,(ok'.exf b hb).1,ok'.exfs b hb,.inl hb,(ok'.exf b hb).2,fun p hp=>by
        have hp':p∈[((s2.heap.objs.size,{ cls:=.type "list", data:=.seq its.toArray k }):Addr×Obj)]:=hp
        rw [List.mem_singleton] at hp'
        subst hp'
        exact nfD b hb⟩
    rcases step with ⟨stop,q⟩ | ⟨ltn,go,nxt⟩
    · refine thn (T.done (blk X N scope cl G.objs.size s2 H2 fp) rfl rfl rfl hc i _ s3 _ Hc _ I3p (fo3 fr3) st3 stop) fun r s4 ⟨hr,I4⟩=>?_
      subst hr
      have hD4:=(I4.pin (s2.heap.objs.size,{ cls:=.type "list", data:=.seq its.toArray k }) (List.mem_append_right _ (List.mem_singleton.mpr rfl))).1
      obtain ⟨m,hn,_⟩:=I4.loc
      have nDt:∀ b u,Hc b=some u→b≠s2.heap.objs.size:=fun b u e z=>by rw [z,nD] at e;cases e
      have oldC:∀ b o,s2.heap.get? b=some o→b≠s2.heap.objs.size:=fun b o e=>Nat.ne_of_lt (Heap.lt_size e)
      have ub:Un (frs X.stack) fp H2 Hc s2.heap s4.heap:=I4.base
      have cC:∀ b,b<s2.heap.objs.size→b≠G.objs.size:=fun b hb z=>absurd (Nat.lt_of_lt_of_le hb hCle) (by rw [z];exact Nat.lt_irrefl _)
      refine fin _ G.objs.size s4 (upd Hc s2.heap.objs.size (.lst ys)) m ?_ (q _ nD) hn (by rw [qaw (fun z=>hDC z.symm)];exact I4.free) (fun z=>cC _ I2.lt z.symm) (Nat.le_trans I2.sz hCle)
        (fun x c e=>by obtain ⟨v,q⟩:=I2.cell x c e;exact cC _ q.lt) fun p hp=>cC _ (Heap.lt_size (I2.pin p hp).1)
      refine I2.call' (ch:=fp) (s':=s4) I4.os ?_ ?_ I4.bare fun b hb=>⟨(f2 b hb).2.2.2.1,(f2 b hb).2.1,(f2 b hb).2.2.2.2.1,(f2 b hb).2.2.2.2.2⟩
      · refine ⟨ub.keep,ub.slot,fun b o e n hx=>?_,ub.there,fun b xs e=>?_,fun b o u e=>?_,fun b ps e=>?_⟩
        · rw [qaw (oldC b o e)];exact ub.free b o e n hx
        · have z:=ub.tups b xs e
          rw [qaw (nDt b _ z)];exact z
        · have z:=ub.frzs b o u e
          rw [qaw (nDt b _ z)];exact z
        · obtain ⟨more,z⟩:=ub.tbls b ps e
          exact ⟨more,by rw [qaw (nDt b _ z)];exact z⟩
      · intro b u e
        by_cases hb:b=s2.heap.objs.size
        · subst hb
          rw [upd_same] at e
          cases e
          exact ⟨hl,its,k,hv,hD4⟩
        · rw [qaw hb] at e
          exact (I4.hok b u e).stay (fun c v _ q=>q) (fun c q=>by rw [qaw (nDt c _ q)];exact q) fun c xs q=>by rw [qaw (nDt c _ q)];exact q
    · refine thn (T.item (blk X N scope cl G.objs.size s2 H2 fp) rfl rfl rfl hc i _ s3 _ Hc _ I3p (fo3 fr3) st3 go) fun r s4 ⟨u,hr,h4⟩=>?_
      subst hr
      refine thn h4 fun _ s5 ⟨x,H5,I5,r5,y5,st5,fr5⟩=>?_
      have I5':=I5.pinned (fo3 fr5) (T.obj _ _ st5)
      refine thn (hg _ _ _ _ _ s5 _ H5 x u _ I5' r5 (nxt x H5 y5)) fun _ s6 ⟨σ6,H6,I6,q6⟩=>?_
      refine thn (ht _ _ _ _ _ s6 σ6 H6 _ I6 q6) fun okb s9 ⟨H9,I9,q9⟩=>?_
      have pF9:∀ b∈fp,∀ o,s5.heap.get? b=some o→s9.heap.get? b=some o∧H9 b=none:=fun b hb o e=>by
        have z:=I9.pin (b,o) (List.mem_append_right _ (List.mem_append_right _ (qdd hb e)))
        exact ⟨z.1,z.2.1⟩
      cases okb with
      | false=>
        have w9:W (i+1) ys H9:=q9
        have pD9:=I9.pin (s2.heap.objs.size,{ cls:=.type "list", data:=.seq its.toArray k }) (List.mem_append_right _ (List.mem_append_left _ (List.mem_singleton.mpr rfl)))
        have I9n:Inv (blk X N scope cl G.objs.size s2 H2 fp) [] σ6 H9 s9:=I9.pins_of fun p hp=>nomatch hp
        exact ⟨n0 - (i+1),by omega,i+1,ys,its,k,H9,qgv B I2 f2 I9n,pD9.1,hv,pD9.2.1,T.keep _ _ _ st5 (fun b hb o e=>(pF9 b hb o e).1),(fun b hb=>by
          obtain ⟨o,e,_⟩:=T.obj _ _ st5 b hb
          exact (pF9 b hb o e).2),w9,rfl⟩
      | true=>
      replace q9:te σ6 H9 fun y H4=>W (i+1) (ys++[y]) H4:=q9
      refine thn (he _ _ _ _ _ s9 σ6 H9 _ I9 q9) fun uy s7 ⟨y,H7,I7,r7,w7⟩=>?_
      have pD:=I7.pin (s2.heap.objs.size,{ cls:=.type "list", data:=.seq its.toArray k }) (List.mem_append_right _ (List.mem_append_left _ (List.mem_singleton.mpr rfl)))
      have pF:∀ b∈fp,∀ o,s5.heap.get? b=some o→s7.heap.get? b=some o∧H7 b=none:=fun b hb o e=>by
        have z:=I7.pin (b,o) (List.mem_append_right _ (List.mem_append_right _ (qdd hb e)))
        exact ⟨z.1,z.2.1⟩
      refine append_at (hsz:=hz) pD.1 fun h8 sb8 hD8=>?_
      have I7n:Inv (blk X N scope cl G.objs.size s2 H2 fp) [] σ6 H7 s7:=I7.pins_of fun p hp=>nomatch hp
      have I8:Inv (blk X N scope cl G.objs.size s2 H2 fp) [] σ6 H7 { s7 with heap:=h8,toks:=s7.toks }:=I7n.turned (fun b o hb e=>sb8.extBut b o hb e) pD.2.1 hDC (.inr (Nat.le_refl _)) ncD (fun p hp=>nomatch hp)
      refine ⟨n0 - (i+1),by omega,i+1,ys++[y],its++[uy],k+1,H7,qgv B I2 f2 I8,?_,Paired.snoc hv r7,pD.2.1,T.keep _ _ _ st5 (fun b hb o e=>sb8.extBut b o (nfD b hb).symm (pF b hb o e).1),fun b hb=>?_,w7,rfl⟩
      · show h8.get? _=_
        rw [hD8,List.push_toArray]
      · obtain ⟨o,e,_⟩:=T.obj _ _ st5 b hb
        exact (pF b hb o e).2
  exact codeAny_compStart_list loop (T.self X.A 0 _ _ _ (T.keep _ _ _ st2 (fun b _ o e=>old b o e)) loop)
theorem qnU {elt iter tg c:Expr} {tc:TT} {pos:Pos} {wi:TI} {g:TG} {te:TE} (hc:X.calm=true) (B:BlkOk X N capt scope cl) (hi:PI X tg iter wi)
    (hg:∀ C s H fp,PG (blk X N scope cl C s H fp) tg g) (ht:∀ C s H fp,PT (blk X N scope cl C s H fp) c tc) (he:∀ C s H fp,PE (blk X N scope cl C s H fp) elt te)
    (hs:∀ x,foldedSetIterable iter X.env x=pure x:=by intro _;rfl):PE X (.ListComp elt [⟨tg,iter,[c],0⟩] scope pos) (qkz wi capt g tc te):=by
  intro pins s σ H Q I h
  rw [eval_ListComp]
  refine wpAny_comprehension_free (use:=none) rfl hs B.clos B.kind B.names (qlk (fun acc C=>compPost (model X.prog X.w) X.A X.xe none (EP X pins σ Q) acc C) hc B hi hg ht he I h fun D C s4 Hq m I4 q hn hf h1 h2 h3 h4=>?_)
  exact ⟨m,hn,fun h' sb=>⟨.ref D,Hq,I4.turned (fun b o hb e=>sb.extBut b o hb e) hf h1 (.inr h2) h3 h4,rfl,q⟩⟩
end
end Bs
namespace Bs
open PySem L2
noncomputable def sS (K:W.Frag):V→Option Int→Option Int→Hp→VK→Prop:=fun x lo hi H Q=>∃ a xs,x=.ref a∧SqL K H a xs∧∀ p,H p=none→Q (.ref p) (upd H p (.lst (qgn xs lo hi)))
noncomputable def qll:List V→Hp→VK→Prop:=fun xs H Q=>∃ (p:Addr) (ns:List Int),xs=[.ref p]∧H p=some (.lst (ns.map V.int))∧Q (.int ns.sum) H
end Bs
namespace Bs
open PySem PySem.Spec PyProof.Rows L2
section
variable {X:Cx}
theorem qji:SlR X (sS X.K):=qlX
theorem qgz (ns:List Int):∀ k,k≤ns.length→preSum (fun i=>ns.getD i 0) k=(ns.take k).sum
  | 0,_=>rfl
  | k+1,h=>by
    have e:ns.take (k+1)=ns.take k++[ns.getD k 0]:=by
      rw [List.take_add_one,List.getD_eq_getElem?_getD,List.getElem?_eq_getElem (by omega)];rfl
    show preSum _ k+_=_
    rw [e,qgz ns k (by omega),List.sum_append]
    simp
theorem qgA (hc:X.calm=true):qdT X (.builtin "sum") qll:=fun pins s σ H xs us Q I r ⟨p,ns,e,hp,q⟩=>by
  subst e
  obtain ⟨u,rfl,ru⟩:=qhb r
  cases ru
  obtain ⟨its,rv,pl,hz⟩:=I.list (SqL.of hp)
  have hl:ns.length=its.length:=by have:=rv.length;simpa using this
  refine call_sum_walkG (wpAny_pyIter_list pl.isList ⟨s.heap.objs.size,[s.heap.objs.size,p],[s.heap.objs.size],its.toArray.size,_,_,fun i=>ns.getD i 0,rfl,Walks.list (A:=X.A.in1) (show X.A.in1.handled=none from I.ok.hd hc) s.heap.objs.size p (Nat.ne_of_lt pl.lt) _,⟨⟨_,Heap.get?_push_size _ rfl,rfl,rfl⟩,pl.isList.push _⟩,?_,?_,fun g tk t gk=>?_⟩)
  · intro b hb
    have z:b=s.heap.objs.size∨b=p:=by simpa using hb
    rcases z with z | z
    · rw [z];exact Heap.lt_size (Heap.get?_push_size _ rfl)
    · obtain ⟨o,_,ho,_⟩:=pl
      rw [z];exact Heap.lt_size (Heap.get?_push_of_some _ ho)
  · intro i v hP
    obtain ⟨n,t,h1,rfl⟩:=qeX rv (show its[i]?=some v by simpa using hP)
    have e:ns.getD i 0=n:=by rw [List.getD_eq_getElem?_getD,h1];rfl
    exact ⟨t,by show Value.int n t=Value.int (ns.getD i 0) t;rw [e]⟩
  · have kk:∀ b o,s.heap.get? b=some o→g.get? b=some o:=fun b o e=>gk b o (fun z=>absurd (Heap.lt_size e) (by rw [List.mem_singleton.mp z];exact Nat.lt_irrefl _)) (Heap.get?_push_of_some _ e)
    refine ⟨.int ns.sum,H,I.kept kk,⟨t,?_⟩,q⟩
    have e:=qgz ns ns.length (Nat.le_refl _)
    rw [List.take_length] at e
    rw [List.size_toArray,← hl,e]
end
end Bs
namespace Bs
open PySem L2
noncomputable def qqK (n:Nat) (t:TGs):TG:=fun v σ H Q=>∃ a xs,v=.ref a∧H a=some (.lst xs)∧xs.length=n∧t xs σ H Q
end Bs
namespace Bs
open PySem PySem.Spec PyProof.Rows L2
theorem qqL {m n:Nat} {a b:Int} (ha:Bd m a) (hb:Bd n b) (h:m+n≤134217728):IntMulOk a b:=IntMulOk.of_le (qma ha) (qma hb) h
end Bs
namespace Bs
open PySem L2
end Bs
namespace Bs
open PySem PySem.Spec PyProof.Rows L2
end Bs
namespace Bs
open PySem L2
noncomputable def inD (neg:Bool):R2:=fun x y H Q=>∃ (p:Addr) (ys:List V) (d:PySem.W.Dat) (ds:List PySem.W.Dat) (b:Bool),y=.ref p∧H p=some (.lst ys)∧RepD H x d∧RepA H ys ds∧PySem.W.kqdOk 8 d=true∧(∀ e∈ds,PySem.W.kqdOk 8 e=true)∧(b=true↔d∈ds)∧Q (.bl (if neg=true then !b else b)) H
end Bs
namespace Bs
open PySem PySem.Spec PyProof.Rows L2
theorem qqM {d:PySem.W.Dat} {ds:List PySem.W.Dat} {b:Bool} (h1:PySem.W.kqdOk 8 d=true) (h2:∀ e∈ds,PySem.W.kqdOk 8 e=true) (hb:b=true↔d∈ds):((PySem.W.kqdPs ds).any fun y=>PyData.eqv y (PySem.W.kqdP d))=b:=by
  rw [Bool.eq_iff_iff,hb]
  exact PySem.W.kqd_any ds d h2 h1
theorem qmr {X:Cx} (hu:X.A.units+64<cLine):OpR X (compareOp .NotIn) (inD true):=by
  intro pins s σ H x y v u Q I rx ry h
  obtain ⟨p,ys,d,ds,b,e,hp,r1,r2,k1,k2,hb,q⟩:=h
  subst e
  obtain ⟨as,q1⟩:=qdf I r1 rx
  cases ry
  obtain ⟨its,rv,pl,_⟩:=I.list (SqL.of hp)
  obtain ⟨bs,q2⟩:=qif I r2 rv
  obtain ⟨o,n,ho,hc,_,hd⟩:=pl
  have l:=PySem.W.kqd_layL k2
  have ld:=PySem.W.kqd_lay 8 d k1
  have l2:=ld.2
  refine SeqAt.notIn_list_reads (reads_list_at ho hc hd (by simpa using q2)) q1 l.1 ld.1 ?_ (by rw [qqM k1 k2 hb];exact ⟨.bl (!b),H,I,rfl,q⟩)
  have:=Nat.min_le_right (PyData.depthAll (PySem.W.kqdPs ds)) (PySem.W.kqdP d).depth
  omega
end Bs
namespace Bs
theorem Bd.one:Bd 1 1:=by unfold Bd;decide
theorem Bd.pow {b:Nat} {x:Int} (h:Bd b x) (k:Nat):Bd (b*k+1) (x ^ k):=by
  induction k with
  | zero=>rw [Int.pow_zero,Nat.mul_zero];exact Bd.one
  | succ k ih=>
    have e:b*(k+1)+1=(b*k+1)+b:=by rw [Nat.mul_add,Nat.mul_one];omega
    rw [Int.pow_succ,e]
    exact ih.mul h
theorem pow_ne {t:Int} (h:t≠0) (m:Nat):t ^ m≠0:=by
  induction m with
  | zero=>rw [Int.pow_zero];decide
  | succ m ih=>rw [Int.pow_succ];exact Int.mul_ne_zero ih h
end Bs
namespace Bs
noncomputable abbrev Nu:=Int×Int
noncomputable def red (n m:Int):Nu:=(n / ((Int.gcd n m:Nat):Int),m / ((Int.gcd n m:Nat):Int))
noncomputable def nadd (q r:Nu):Nu:=red (q.1*r.2+r.1*q.2) (q.2*r.2)
noncomputable def nmul (q r:Nu):Nu:=red (q.1*r.1) (q.2*r.2)
noncomputable def Wo (q:Nu) (n m:Int):Prop:=q.1*m=n*q.2
theorem qeF {n m:Int} (hm:0<m):Low (red n m).1 (red n m).2:=(qdo (a:=n) hm).1
theorem qms {n m:Int} (hm:0<m):Wo (red n m) n m:=by
  have h:=(qem (a:=n) (b:=m) (s:=((Int.gcd n m:Nat):Int)) (by omega) (by rw [if_neg (by omega)])).2.2.2.1
  rw [Int.fdiv_eq_ediv_of_nonneg _ (by omega),Int.fdiv_eq_ediv_of_nonneg _ (by omega)] at h
  exact h
theorem qft {a b d:Int} (h:Low a b) (hd:b∣a*d):b∣d:=by
  have c:Nat.Coprime b.natAbs a.natAbs:=by
    have:Nat.Coprime a.natAbs b.natAbs:=h.one
    exact this.symm
  have z:=Int.natAbs_dvd_natAbs.mpr hd
  rw [Int.natAbs_mul] at z
  exact Int.natAbs_dvd_natAbs.mp (c.dvd_of_dvd_mul_left z)
theorem qhG {a b c d:Int} (h1:Low a b) (h2:Low c d) (h:a*d=c*b):a=c∧b=d:=by
  have d1:b∣d:=qft h1 ⟨c,by rw [h,Int.mul_comm]⟩
  have d2:d∣b:=qft h2 ⟨a,by rw [← h,Int.mul_comm]⟩
  have e:b=d:=Int.dvd_antisymm (Int.le_of_lt h1.pos) (Int.le_of_lt h2.pos) d1 d2
  subst e
  exact ⟨Int.eq_of_mul_eq_mul_right (Int.ne_of_gt h1.pos) h,rfl⟩
theorem qmt {q r:Nu} {n m:Int} (h1:Low q.1 q.2) (h2:Low r.1 r.2) (hm:m≠0) (w1:Wo q n m) (w2:Wo r n m):q=r:=by
  unfold Wo at w1 w2
  have e:q.1*r.2=r.1*q.2:=by
    have z:m*(q.1*r.2)=m*(r.1*q.2):=by grind
    exact Int.eq_of_mul_eq_mul_left hm z
  obtain ⟨a,b⟩:=qhG h1 h2 e
  exact Prod.ext a b
theorem qrI {q:Nu} {n m:Int} (h1:Low q.1 q.2) (hm:0<m) (w:Wo q n m):q.1.natAbs≤n.natAbs∧q.2.natAbs≤m.natAbs:=by
  have e:q=red n m:=qmt h1 (qeF hm) (Int.ne_of_gt hm) w (qms hm)
  subst e
  exact ⟨(qdo (a:=n) hm).2.1,(qdo (a:=n) hm).2.2.1⟩
theorem qnV {q r:Nu} (h1:0<q.2) (h2:0<r.2):Low (nadd q r).1 (nadd q r).2:=qeF (Int.mul_pos h1 h2)
theorem qih {q r:Nu} (h1:0<q.2) (h2:0<r.2):Low (nmul q r).1 (nmul q r).2:=qeF (Int.mul_pos h1 h2)
noncomputable def qii (l:List Nu):Nat→Nat
  | 0=>0
  | m+1=>if (l.getD m (1,1)).1=0 then qii l m else m+1
noncomputable def trim (l:List Nu):List Nu:=l.take (qii l l.length)
noncomputable def Nz (l:List Nu):Prop:=∀ q,l.getLast?=some q→q.1≠0
theorem qpf {l:List Nu} (h:Nz l):trim l=l:=by
  unfold trim
  have e:qii l l.length=l.length:=by
    cases hl:l.length with
    | zero=>rfl
    | succ m=>
      unfold qii
      have hm:m<l.length:=by omega
      have z:(l.getD m (1,1)).1≠0:=by
        have q:=h l[m] (by rw [List.getLast?_eq_getElem?,hl];simp [hm])
        rw [List.getD_eq_getElem?_getD,List.getElem?_eq_getElem hm]
        exact q
      rw [if_neg z]
  rw [e,List.take_length]
noncomputable def qaZ (l:List Nu):Prop:=∀ q∈l,Low q.1 q.2
noncomputable def qrJ (n:Nat) (l:List Nu):Prop:=∀ q∈l,Bd n q.1∧Bd n q.2
noncomputable def qbR (l:List Nu) (i:Nat):Nu:=l.getD i (0,1)
theorem qrK:Low 0 1:=⟨by decide,by decide⟩
theorem qbt {l:List Nu} (h:qaZ l) (i:Nat):Low (qbR l i).1 (qbR l i).2:=by
  unfold qbR
  rw [List.getD_eq_getElem?_getD]
  cases e:l[i]? with
  | none=>exact qrK
  | some q=>exact h q (List.mem_of_getElem? e)
end Bs
namespace Bs
noncomputable def qfP (l:List Nu):Int:=l.foldl (fun B q=>B*(q.2 / ((Int.gcd B q.2:Nat):Int))) 1
noncomputable def qeG (l:List Nu):List Int:=l.map fun q=>q.1*(qfP l / q.2)
theorem qij {B d:Int} (hB:0<B) (hd:0<d):0<B*(d / ((Int.gcd B d:Nat):Int))∧B∣B*(d / ((Int.gcd B d:Nat):Int))∧d∣B*(d / ((Int.gcd B d:Nat):Int))∧(d / ((Int.gcd B d:Nat):Int)).natAbs≤d.natAbs∧0<((Int.gcd B d:Nat):Int)∧((Int.gcd B d:Nat):Int)≤d:=by
  have g0:0<Int.gcd B d:=Int.gcd_pos_of_ne_zero_right B (by omega)
  obtain ⟨k,hk⟩:((Int.gcd B d:Nat):Int)∣d:=Int.gcd_dvd_right B d
  obtain ⟨m,hm⟩:((Int.gcd B d:Nat):Int)∣B:=Int.gcd_dvd_left B d
  have gp:(0:Int)<((Int.gcd B d:Nat):Int):=by omega
  have e:d / ((Int.gcd B d:Nat):Int)=k:=by
    have z:d / ((Int.gcd B d:Nat):Int)=(((Int.gcd B d:Nat):Int)*k) / ((Int.gcd B d:Nat):Int):=by rw [← hk]
    rw [z,Int.mul_ediv_cancel_left _ (Int.ne_of_gt gp)]
  have kp:0<k:=by
    rcases Int.lt_or_le 0 k with h | h
    · exact h
    · exfalso
      have:=Int.mul_nonneg (Int.le_of_lt gp) (show 0≤-k by omega)
      rw [Int.mul_neg] at this
      omega
  have le:((Int.gcd B d:Nat):Int)≤d:=Int.le_of_dvd hd (Int.gcd_dvd_right B d)
  refine ⟨by rw [e];exact Int.mul_pos hB kp,Int.dvd_mul_right ..,?_,?_,gp,le⟩
  · rw [e]
    refine ⟨m,?_⟩
    have z:d*m=((Int.gcd B d:Nat):Int)*k*m:=by rw [← hk]
    have z2:B*k=((Int.gcd B d:Nat):Int)*m*k:=by rw [← hm]
    rw [z,z2];grind
  · rw [e]
    have z:d.natAbs=(Int.gcd B d)*k.natAbs:=by
      have:d.natAbs=(((Int.gcd B d:Nat):Int)*k).natAbs:=by rw [← hk]
      rw [this,Int.natAbs_mul];simp
    rw [z]
    exact Nat.le_mul_of_pos_left _ g0
theorem qjj {b:Nat}:∀ (l:List Nu) (B:Int) (c:Nat),(∀ q∈l,0<q.2∧Bd b q.2)→0<B→Bd c B→
    0<l.foldl (fun B q=>B*(q.2 / ((Int.gcd B q.2:Nat):Int))) B∧B∣l.foldl (fun B q=>B*(q.2 / ((Int.gcd B q.2:Nat):Int))) B∧(∀ q∈l,q.2∣l.foldl (fun B q=>B*(q.2 / ((Int.gcd B q.2:Nat):Int))) B)∧Bd (c+b*l.length) (l.foldl (fun B q=>B*(q.2 / ((Int.gcd B q.2:Nat):Int))) B)
  | [],B,c,_,hB,bB=>⟨hB,Int.dvd_refl B,(fun _ h=>nomatch h),by simpa using bB⟩
  | q::l,B,c,h,hB,bB=>by
    obtain ⟨q0,qb⟩:=h q (List.mem_cons_self ..)
    obtain ⟨s1,s2,s3,s4,_,_⟩:=qij hB q0
    obtain ⟨r1,r2,r3,r4⟩:=qjj l (B*(q.2 / ((Int.gcd B q.2:Nat):Int))) (c+b) (fun r hr=>h r (List.mem_cons_of_mem _ hr)) s1 (bB.mul (qb.le s4))
    rw [List.foldl_cons]
    refine ⟨r1,Int.dvd_trans s2 r2,fun r hr=>?_,r4.mono (by rw [List.length_cons,Nat.mul_add,Nat.mul_one];omega)⟩
    rcases List.mem_cons.mp hr with rfl | hr
    · exact Int.dvd_trans s3 r2
    · exact r3 r hr
theorem qpg {b:Nat} {l:List Nu} (h1:qaZ l) (h2:qrJ b l):0<qfP l∧(∀ q∈l,q.2∣qfP l)∧Bd (1+b*l.length) (qfP l):=by
  obtain ⟨r1,_,r3,r4⟩:=qjj (b:=b) l 1 1 (fun q hq=>⟨(h1 q hq).pos,(h2 q hq).2⟩) (by decide) Bd.one
  exact ⟨r1,r3,r4⟩
theorem qhf {B d:Int} (hB:0<B) (hd:0<d):(B / d).natAbs≤B.natAbs:=by
  have h1:0≤B / d:=Int.ediv_nonneg (Int.le_of_lt hB) (Int.le_of_lt hd)
  have h2:B / d≤B:=Int.ediv_le_self d (Int.le_of_lt hB)
  omega
theorem qqN {q:Nu} {B:Int} (hd:q.2∣B):Wo q (q.1*(B / q.2)) B:=by
  unfold Wo
  rw [Int.mul_assoc,Int.ediv_mul_cancel hd]
noncomputable def ps (ns ms:List Int):Nat→Nat→Int
  | 0,_=>0
  | i+1,k=>ps ns ms i k+(if i≤k∧k - i<ms.length then ns.getD i 0*ms.getD (k - i) 0 else 0)
noncomputable def in2 (ns ms:List Int) (i j k:Nat):Int:=ps ns ms i k+(if i≤k∧k - i<j then ns.getD i 0*ms.getD (k - i) 0 else 0)
theorem qnW (ns ms:List Int) (i k:Nat):in2 ns ms i 0 k=ps ns ms i k:=by
  unfold in2;rw [if_neg (by omega)];omega
theorem qkB (ns ms:List Int) (i j k:Nat):in2 ns ms i (j+1) k=if k=i+j then in2 ns ms i j k+ns.getD i 0*ms.getD j 0 else in2 ns ms i j k:=by
  unfold in2
  by_cases h:k=i+j
  · subst h
    rw [if_pos rfl,if_pos ⟨by omega,by omega⟩,if_neg (by omega),show i+j - i=j by omega];omega
  · rw [if_neg h]
    congr 1
    by_cases h2:i≤k∧k - i<j
    · rw [if_pos h2,if_pos ⟨h2.1,by omega⟩]
    · rw [if_neg h2,if_neg (by omega)]
theorem qgB {c:Nat} {ns:List Int} (h:∀ z∈ns,Bd c z) (i:Nat):Bd c (ns.getD i 0):=by
  rw [List.getD_eq_getElem?_getD]
  cases e:ns[i]? with
  | none=>exact Nat.pow_pos (by decide)
  | some z=>exact h z (List.mem_of_getElem? e)
theorem qdp (c:Nat):Bd c 0:=Nat.pow_pos (by decide)
theorem qjV {ns ms:List Int}:∀ i k,i+ms.length≤k+1→ps ns ms i k=0
  | 0,_,_=>rfl
  | i+1,k,h=>by
    unfold ps
    rw [qjV i k (by omega),if_neg (by omega)];rfl
end Bs
namespace Bs
noncomputable def val (q:Nu):Rat:=(q.1:Rat) / (q.2:Rat)
theorem zdiv (x:Rat):0 / x=0:=by rw [Rat.div_def,Rat.zero_mul]
theorem qaC {z:Int} (h:z≠0):(z:Rat)≠0:=by exact_mod_cast h
theorem qeY {q:Nu} {n m:Int} (hq:q.2≠0) (hm:m≠0) (w:Wo q n m):val q=(n:Rat) / (m:Rat):=by
  have h1:=qaC hq
  have h2:=qaC hm
  have w':(q.1:Rat)*m=n*q.2:=by unfold Wo at w;exact_mod_cast w
  unfold val
  grind
theorem qfu {q r:Nu} (h1:Low q.1 q.2) (h2:Low r.1 r.2) (h:val q=val r):q=r:=by
  have a:=qaC (Int.ne_of_gt h1.pos)
  have b:=qaC (Int.ne_of_gt h2.pos)
  unfold val at h
  have z:(q.1:Rat)*r.2=r.1*q.2:=by grind
  have z':q.1*r.2=r.1*q.2:=by exact_mod_cast z
  obtain ⟨x,y⟩:=qhG h1 h2 z'
  exact Prod.ext x y
theorem qik {n m:Int} (hm:0<m):val (red n m)=(n:Rat) / (m:Rat):=qeY (Int.ne_of_gt (qeF hm).pos) (Int.ne_of_gt hm) (qms hm)
theorem qnX {q r:Nu} (h1:0<q.2) (h2:0<r.2):val (nadd q r)=val q+val r:=by
  unfold nadd
  rw [qik (Int.mul_pos h1 h2)]
  have a:=qaC (Int.ne_of_gt h1)
  have b:=qaC (Int.ne_of_gt h2)
  unfold val
  push_cast
  grind
theorem qkC {q r:Nu} (h1:0<q.2) (h2:0<r.2):val (nmul q r)=val q*val r:=by
  unfold nmul
  rw [qik (Int.mul_pos h1 h2)]
  have a:=qaC (Int.ne_of_gt h1)
  have b:=qaC (Int.ne_of_gt h2)
  unfold val
  push_cast
  grind
noncomputable def qbV (n m:Int):Nu:=if m<0 then red (-n) (-m) else red n m
theorem qcQ {n m:Int} (hm:m≠0):Low (qbV n m).1 (qbV n m).2:=by
  unfold qbV
  split
  · exact qeF (by omega)
  · exact qeF (by omega)
theorem qdq {n m:Int} (hm:m≠0):val (qbV n m)=(n:Rat) / (m:Rat):=by
  unfold qbV
  split
  · rw [qik (by omega)]
    have:=qaC hm
    push_cast
    grind
  · exact qik (by omega)
theorem qnY {n m N:Int} (hm:m≠0) (h:m∣N):(qbV n m).2∣N:=by
  have aux:∀ {n m:Int},0<m→(red n m).2∣m:=fun {n m} h0=>by
    unfold red
    exact Int.ediv_dvd_of_dvd (Int.gcd_dvd_right n m)
  unfold qbV
  split
  · exact Int.dvd_trans (aux (by omega)) (Int.dvd_trans (Int.neg_dvd.mpr (Int.dvd_refl m)) h)
  · exact Int.dvd_trans (aux (by omega)) h
theorem qmu {c d:Nat} {n m:Int} (hm:m≠0) (h1:Bd c n) (h2:Bd d m):Bd c (qbV n m).1∧Bd d (qbV n m).2:=by
  have aux:∀ {n m:Int},0<m→Bd c n→Bd d m→Bd c (red n m).1∧Bd d (red n m).2:=fun {n m} h0 h1 h2=>by
    have w:=qrI (qeF h0) h0 (qms (n:=n) h0)
    exact ⟨h1.le w.1,h2.le w.2⟩
  unfold qbV
  split
  · exact aux (by omega) h1.neg h2.neg
  · exact aux (by omega) h1 h2
noncomputable def pwo (l:List Nu) (k:Nat):Rat:=val (qbR l k)
theorem qkD {l:List Nu} {k:Nat} (h:l.length≤k):qbR l k=(0,1):=by
  unfold qbR
  rw [List.getD_eq_getElem?_getD,List.getElem?_eq_none h]
  rfl
theorem qet {l:List Nu} {k:Nat} (h:l.length≤k):pwo l k=0:=by
  unfold pwo
  rw [qkD h]
  exact zdiv _
theorem qoF {a b:List Nu} (nb:Nz b) (h:∀ k,qbR a k=qbR b k):b.length≤a.length:=by
  rcases Nat.lt_or_ge a.length b.length with hlt | hge
  · exfalso
    have hb:b.length - 1<b.length:=by omega
    have q:=nb b[b.length - 1] (by rw [List.getLast?_eq_getElem?];exact List.getElem?_eq_getElem hb)
    have e:=h (b.length - 1)
    rw [qkD (by omega)] at e
    unfold qbR at e
    rw [List.getD_eq_getElem?_getD,List.getElem?_eq_getElem hb] at e
    have e':((0,1):Nu)=b[b.length - 1]:=e
    rw [← e'] at q
    exact q rfl
  · exact hge
theorem qnZ {a b:List Nu} (ha:qaZ a) (hb:qaZ b) (na:Nz a) (nb:Nz b) (h:∀ k,pwo a k=pwo b k):a=b:=by
  have g:∀ k,qbR a k=qbR b k:=fun k=>qfu (qbt ha k) (qbt hb k) (h k)
  have e:a.length=b.length:=Nat.le_antisymm (qoF na fun k=>(g k).symm) (qoF nb g)
  refine List.ext_getElem e fun i h1 h2=>?_
  have z:=g i
  unfold qbR at z
  rw [List.getD_eq_getElem?_getD,List.getD_eq_getElem?_getD,List.getElem?_eq_getElem h1,List.getElem?_eq_getElem h2] at z
  exact z
noncomputable def cv (f g:Nat→Rat):Nat→Nat→Rat
  | 0,_=>0
  | n+1,k=>cv f g n k+(if n≤k then f n*g (k - n) else 0)
theorem qoG {f f' g:Nat→Rat} {s:Nat} {x:Rat} (h0:f s=0) (h1:f' s=x) (h2:∀ i,i≠s→f' i=f i):∀ n k,cv f' g n k=cv f g n k+(if s<n∧s≤k then x*g (k - s) else 0)
  | 0,k=>by unfold cv;rw [if_neg (by omega)];exact (Rat.add_zero 0).symm
  | n+1,k=>by
    unfold cv
    rw [qoG h0 h1 h2 n k]
    by_cases e:n=s
    · subst e
      rw [h0,h1]
      by_cases hk:n≤k
      · rw [if_pos hk,if_pos hk,if_neg (by omega),if_pos ⟨by omega,hk⟩]
        grind
      · rw [if_neg hk,if_neg hk,if_neg (by omega),if_neg (by omega)]
    · rw [h2 n e]
      have e1:(s<n+1∧s≤k)↔(s<n∧s≤k):=by omega
      simp only [e1]
      grind
noncomputable def ovN (l:List Nu) (M:Int):List Int:=l.map fun q=>q.1*(M / q.2)
noncomputable def Ov (l:List Nu) (M:Int):Prop:=0<M∧∀ q∈l,q.2∣M
theorem qmv {l:List Nu} {M:Int} (i:Nat):(ovN l M).getD i 0=(qbR l i).1*(M / (qbR l i).2):=by
  unfold ovN qbR
  rw [List.getD_eq_getElem?_getD,List.getD_eq_getElem?_getD,List.getElem?_map]
  cases l[i]? with
  | none=>simp
  | some q=>rfl
theorem Ov.get {l:List Nu} {M:Int} (h:Ov l M) (i:Nat):(qbR l i).2∣M:=by
  unfold qbR
  rw [List.getD_eq_getElem?_getD]
  cases e:l[i]? with
  | none=>exact Int.one_dvd M
  | some q=>exact h.2 q (List.mem_of_getElem? e)
theorem qqO {l:List Nu} {M:Int} (h:Ov l M) (i:Nat):Wo (qbR l i) ((ovN l M).getD i 0) M:=by
  rw [qmv]
  exact qqN (h.get i)
theorem qlm {l:List Nu} {M:Int} (hl:qaZ l) (h:Ov l M) (i:Nat):pwo l i=((ovN l M).getD i 0:Rat) / (M:Rat):=qeY (Int.ne_of_gt (qbt hl i).pos) (Int.ne_of_gt h.1) (qqO h i)
theorem lcm_dvd {B d M:Int} (hB:0<B) (hd:0<d) (h1:B∣M) (h2:d∣M):B*(d / ((Int.gcd B d:Nat):Int))∣M:=by
  have z:((Nat.lcm B.natAbs d.natAbs:Nat):Int)∣M:=Int.natAbs_dvd_natAbs.mp (by rw [Int.natAbs_natCast];exact Nat.lcm_dvd (Int.natAbs_dvd_natAbs.mpr h1) (Int.natAbs_dvd_natAbs.mpr h2))
  have e:((Nat.lcm B.natAbs d.natAbs:Nat):Int)=B*(d / ((Int.gcd B d:Nat):Int)):=by
    unfold Nat.lcm
    rw [Nat.mul_div_assoc _ (Nat.gcd_dvd_right _ _)]
    push_cast
    rw [show ((B.natAbs:Nat):Int)=B by omega,show ((d.natAbs:Nat):Int)=d by omega]
    rfl
  rw [← e]
  exact z
theorem qil {M:Int}:∀ (l:List Nu) (B:Int),(∀ q∈l,0<q.2∧q.2∣M)→0<B→B∣M→0<l.foldl (fun B q=>B*(q.2 / ((Int.gcd B q.2:Nat):Int))) B∧l.foldl (fun B q=>B*(q.2 / ((Int.gcd B q.2:Nat):Int))) B∣M
  | [],B,_,hB,h=>⟨hB,h⟩
  | q::l,B,hq,hB,h=>by
    obtain ⟨q0,qd⟩:=hq q (List.mem_cons_self ..)
    obtain ⟨s1,_⟩:=qij hB q0
    exact qil l _ (fun r hr=>hq r (List.mem_cons_of_mem _ hr)) s1 (lcm_dvd hB q0 h qd)
theorem qgC {n:Nat} {a b:Int} (hb:b≠0) (h:a∣b) (bd:Bd n b):Bd n a:=bd.le (Nat.le_of_dvd (by omega) (Int.natAbs_dvd_natAbs.mpr h))
theorem qeH {l:List Nu} (hl:qaZ l):Ov l (qfP l):=by
  obtain ⟨a,b,_⟩:=qpg (b:=(l.foldl (fun n q=>n+q.1.natAbs+q.2.natAbs) 1)) hl (fun q hq=>by
    have big:∀ (l:List Nu) (n:Nat),n≤l.foldl (fun n q=>n+q.1.natAbs+q.2.natAbs) n∧∀ q∈l,q.1.natAbs+q.2.natAbs≤l.foldl (fun n q=>n+q.1.natAbs+q.2.natAbs) n:=by
      intro l
      induction l with
      | nil=>intro n;exact ⟨Nat.le_refl _,fun _ h=>nomatch h⟩
      | cons r l ih=>
        intro n
        obtain ⟨i1,i2⟩:=ih (n+r.1.natAbs+r.2.natAbs)
        rw [List.foldl_cons]
        refine ⟨by omega,fun q hq=>?_⟩
        rcases List.mem_cons.mp hq with rfl | hq
        · omega
        · exact i2 q hq
    have z:=(big l 1).2 q hq
    exact ⟨Nat.lt_of_le_of_lt (by omega) (Nat.lt_two_pow_self),Nat.lt_of_le_of_lt (by omega) (Nat.lt_two_pow_self)⟩)
  exact ⟨a,b⟩
theorem qkE {l:List Nu} {M:Int} (hl:qaZ l) (h:Ov l M):qfP l∣M:=(qil l 1 (fun q hq=>⟨(hl q hq).pos,h.2 q hq⟩) (by decide) (Int.one_dvd M)).2
theorem qjW (l:List Nu):qeG l=ovN l (qfP l):=rfl
end Bs
namespace Bs
section
variable {α:Type} [Lean.Grind.CommRing α]
noncomputable def cvL:List α→(Nat→α)→Nat→α
  | [],_,_=>0
  | x::a,b,k=>x*b k+(match k with | 0=>0 | k+1=>cvL a b k)
theorem qaB (b:Nat→α) (k:Nat):cvL [] b k=0:=rfl
theorem qam (x:α) (a:List α) (b:Nat→α):cvL (x::a) b 0=x*b 0+0:=rfl
theorem qaj (x:α) (a:List α) (b:Nat→α) (k:Nat):cvL (x::a) b (k+1)=x*b (k+1)+cvL a b k:=rfl
theorem qai {b c:Nat→α} (h:∀ k,b k=c k):∀ (a:List α) (k:Nat),cvL a b k=cvL a c k
  | [],_=>rfl
  | x::a,0=>by rw [qam,qam,h 0]
  | x::a,k+1=>by rw [qaj,qaj,h (k+1),qai h a k]
theorem qd6 (b c:Nat→α):∀ (a:List α) (k:Nat),cvL a (fun k=>b k+c k) k=cvL a b k+cvL a c k
  | [],_=>by rw [qaB,qaB,qaB];grind
  | x::a,0=>by rw [qam,qam,qam];grind
  | x::a,k+1=>by rw [qaj,qaj,qaj,qd6 b c a k];grind
theorem qa8 (s:α) (b:Nat→α):∀ (a:List α) (k:Nat),cvL a (fun k=>s*b k) k=s*cvL a b k
  | [],_=>by rw [qaB,qaB];grind
  | x::a,0=>by rw [qam,qam];grind
  | x::a,k+1=>by rw [qaj,qaj,qa8 s b a k];grind
noncomputable def up1 (b:Nat→α):Nat→α
  | 0=>0
  | k+1=>b k
theorem qmw (b:Nat→α):∀ (a:List α) (k:Nat),cvL a (up1 b) k=up1 (cvL a b) k
  | [],0=>rfl
  | [],k+1=>rfl
  | x::a,0=>by rw [qam];show x*0+0=0;grind
  | x::a,1=>by
    rw [qaj]
    have h:=qmw b a 0
    rw [h]
    show x*b 0+0=cvL (x::a) b 0
    rw [qam]
  | x::a,k+2=>by
    rw [qaj,qmw b a (k+1)]
    show x*b (k+1)+cvL a b k=cvL (x::a) b (k+1)
    rw [qaj]
theorem qcR (x:α) (a:List α) (b:Nat→α) (k:Nat):cvL (x::a) b k=x*b k+up1 (cvL a b) k:=by
  cases k with
  | zero=>exact qam x a b
  | succ k=>exact qaj x a b k
theorem qdr (c:Nat→α):∀ (a b:List α) (k:Nat),cvL a (cvL b c) k=cvL b (cvL a c) k
  | [],b,k=>by
    rw [qaB]
    have e:cvL b (cvL [] c) k=cvL b (fun k=>0*c k) k:=qai (fun k=>by rw [qaB];grind) b k
    rw [e,qa8]
    grind
  | x::a,b,k=>by
    rw [qcR]
    have e:cvL b (cvL (x::a) c) k=cvL b (fun k=>x*c k+up1 (cvL a c) k) k:=qai (fun k=>qcR x a c k) b k
    rw [e,qd6,qa8,qmw]
    have e2:up1 (cvL a (cvL b c)) k=up1 (cvL b (cvL a c)) k:=by
      cases k with
      | zero=>rfl
      | succ k=>exact qdr c a b k
    rw [e2]
noncomputable def qbG:Nat→α
  | 0=>1
  | _+1=>0
theorem qbW:∀ (a:List α) (k:Nat),cvL a qbG k=a.getD k 0
  | [],k=>by rw [qaB];simp
  | x::a,0=>by rw [qam];show x*1+0=x;grind
  | x::a,k+1=>by
    rw [qaj,qbW a k]
    show x*0+a.getD k 0=(x::a).getD (k+1) 0
    rw [List.getD_cons_succ]
    grind
end
end Bs
namespace Bs
theorem qjX {n k:Nat}:k∣2 ^ n↔∃ a,a≤n∧k=2 ^ a:=by
  constructor
  · induction n generalizing k with
    | zero=>intro h;exact ⟨0,Nat.le_refl 0,by simpa using h⟩
    | succ n ih=>
      intro h
      by_cases h2:2∣k
      · obtain ⟨j,rfl⟩:=h2
        rw [Nat.pow_succ,Nat.mul_comm (2 ^ n) 2] at h
        obtain ⟨a,ha,e⟩:=ih (Nat.dvd_of_mul_dvd_mul_left (by decide) h)
        exact ⟨a+1,by omega,by rw [e,Nat.pow_succ,Nat.mul_comm]⟩
      · have c:Nat.Coprime k 2:=by
          have:Nat.gcd k 2∣2:=Nat.gcd_dvd_right k 2
          have h3:=Nat.le_of_dvd (by decide) this
          have h4:Nat.gcd k 2≠2:=fun z=>h2 (by rw [← z];exact Nat.gcd_dvd_left k 2)
          have h5:Nat.gcd k 2≠0:=fun z=>by have:=Nat.eq_zero_of_gcd_eq_zero_right z;omega
          show Nat.gcd k 2=1
          omega
        rw [Nat.pow_succ] at h
        obtain ⟨a,ha,e⟩:=ih (c.dvd_of_dvd_mul_right h)
        exact ⟨a,by omega,e⟩
  · rintro ⟨a,ha,rfl⟩
    exact Nat.pow_dvd_pow 2 ha
structure Pr (p:Nat):Prop where
  two:2≤p
  div:∀ d,d∣p→d=1∨d=p
theorem Pr.cop {p:Nat} (h:Pr p) {a:Nat} (ha:¬ p∣a):Nat.gcd a p=1:=by
  rcases h.div _ (Nat.gcd_dvd_right a p) with e | e
  · exact e
  · exact absurd (e ▸ Nat.gcd_dvd_left a p) ha
theorem Pr.mul {p:Nat} (h:Pr p) {a b:Nat} (hd:p∣a*b):p∣a∨p∣b:=by
  by_cases ha:p∣a
  · exact .inl ha
  · refine .inr (Nat.Coprime.dvd_of_dvd_mul_left (k:=p) (m:=a) ?_ hd)
    have:=h.cop ha
    rw [Nat.gcd_comm] at this
    exact this
theorem Pr.mulI {p:Nat} (h:Pr p) {a b:Int} (hd:(p:Int)∣a*b):(p:Int)∣a∨(p:Int)∣b:=by
  have z:=Int.natAbs_dvd_natAbs.mpr hd
  rw [Int.natAbs_mul,Int.natAbs_natCast] at z
  rcases h.mul z with e | e
  · exact .inl (Int.natAbs_dvd_natAbs.mp (by rw [Int.natAbs_natCast];exact e))
  · exact .inr (Int.natAbs_dvd_natAbs.mp (by rw [Int.natAbs_natCast];exact e))
theorem qjk {m:Nat} (hm:2≤m):∃ q,Pr q∧q∣m∧(q=m∨q*q≤m):=by
  have key:∀ n d,2≤d→(∀ e,2≤e→e<d→¬ e∣m)→m=d+n→∃ q,2≤q∧q∣m∧∀ e,2≤e→e<q→¬ e∣m:=by
    intro n
    induction n with
    | zero=>intro d hd h e;exact ⟨d,hd,by rw [e];exact Nat.dvd_refl _,h⟩
    | succ n ih=>
      intro d hd h e
      by_cases hdm:d∣m
      · exact ⟨d,hd,hdm,h⟩
      · refine ih (d+1) (by omega) (fun x hx hx2=>?_) (by omega)
        by_cases hxd:x=d
        · rw [hxd];exact hdm
        · exact h x hx (by omega)
  obtain ⟨q,q2,qm,ql⟩:=key (m - 2) 2 (Nat.le_refl 2) (fun e h1 h2=>absurd h2 (by omega)) (by omega)
  refine ⟨q,⟨q2,fun d hd=>?_⟩,qm,?_⟩
  · by_cases h2:2≤d
    · right
      rcases Nat.lt_or_ge d q with h | h
      · exact absurd (Nat.dvd_trans hd qm) (ql d h2 h)
      · exact Nat.le_antisymm (Nat.le_of_dvd (by omega) hd) h
    · left
      have:d≠0:=fun z=>by rw [z] at hd;have:=Nat.eq_zero_of_zero_dvd hd;omega
      omega
  · obtain ⟨k,hk⟩:=qm
    by_cases k1:k≤1
    · left
      have:k=1:=by
        rcases Nat.eq_zero_or_pos k with z | z
        · rw [z] at hk;omega
        · omega
      rw [hk,this,Nat.mul_one]
    · right
      rcases Nat.lt_or_ge k q with h | h
      · exact absurd ⟨q,by rw [hk,Nat.mul_comm]⟩ (ql k (by omega) h)
      · rw [hk];exact Nat.mul_le_mul_left q h
theorem pigeon:∀ (n m:Nat) (f:Nat→Nat),(∀ i,i<m→f i<n)→(∀ i j,i<m→j<m→f i=f j→i=j)→m≤n
  | 0,m,f,h,_=>by
    rcases Nat.eq_zero_or_pos m with z | z
    · omega
    · exact absurd (h 0 z) (by omega)
  | n+1,0,_,_,_=>by omega
  | n+1,m+1,f,h,inj=>by
    have:=pigeon n m (fun i=>if f i=n then f m else f i) (fun i hi=>by
      show (if f i=n then f m else f i)<n
      by_cases e:f i=n
      · rw [if_pos e]
        have h1:=h m (Nat.lt_succ_self m)
        have:f m≠n:=fun z=>absurd (inj i m (by omega) (by omega) (by rw [e,z])) (by omega)
        omega
      · rw [if_neg e]
        have h1:=h i (by omega)
        omega) (fun i j hi hj e=>by
      have e:(if f i=n then f m else f i)=(if f j=n then f m else f j):=e
      by_cases ei:f i=n
      · rw [if_pos ei] at e
        by_cases ej:f j=n
        · exact inj i j (by omega) (by omega) (by rw [ei,ej])
        · rw [if_neg ej] at e
          exact absurd (inj m j (by omega) (by omega) e) (by omega)
      · rw [if_neg ei] at e
        by_cases ej:f j=n
        · rw [if_pos ej] at e
          exact absurd (inj i m (by omega) (by omega) e) (by omega)
        · rw [if_neg ej] at e
          exact inj i j (by omega) (by omega) e)
    omega
noncomputable abbrev Rt:=Int×Int
noncomputable def rmul (q:Int) (x y:Rt):Rt:=((x.1*y.1+3*(x.2*y.2)) % q,(x.1*y.2+x.2*y.1) % q)
noncomputable def rpow (q:Int):Nat→Rt
  | 0=>(1 % q,0 % q)
  | n+1=>rmul q (2,1) (rpow q n)
theorem qbH {q a b c:Int} (h:a - b=q*c):a % q=b % q:=by
  have:a=b+q*c:=by omega
  rw [this,Int.add_mul_emod_self_left]
theorem em {a q:Int}:∃ c,a % q=a - q*c:=⟨a / q,by have:=Int.emod_add_mul_ediv a q;omega⟩
theorem qco (q:Int) (x y z:Rt):rmul q (rmul q x y) z=rmul q x (rmul q y z):=by
  obtain ⟨a,b⟩:=x
  obtain ⟨c,d⟩:=y
  obtain ⟨e,f⟩:=z
  obtain ⟨c1,h1⟩:=em (a:=a*c+3*(b*d)) (q:=q)
  obtain ⟨c2,h2⟩:=em (a:=a*d+b*c) (q:=q)
  obtain ⟨c3,h3⟩:=em (a:=c*e+3*(d*f)) (q:=q)
  obtain ⟨c4,h4⟩:=em (a:=c*f+d*e) (q:=q)
  refine Prod.ext ?_ ?_
  · show ((a*c+3*(b*d)) % q*e+3*((a*d+b*c) % q*f)) % q=(a*((c*e+3*(d*f)) % q)+3*(b*((c*f+d*e) % q))) % q
    rw [h1,h2,h3,h4]
    exact qbH (c:=a*c3+3*b*c4 - c1*e - 3*c2*f) (by grind)
  · show ((a*c+3*(b*d)) % q*f+((a*d+b*c) % q*e)) % q=(a*((c*f+d*e) % q)+(b*((c*e+3*(d*f)) % q))) % q
    rw [h1,h2,h3,h4]
    exact qbH (c:=a*c4+b*c3 - c1*f - c2*e) (by grind)
theorem qmx (q:Int) (x y:Rt):rmul q x y=rmul q y x:=by
  refine Prod.ext ?_ ?_
  · show (x.1*y.1+3*(x.2*y.2)) % q=(y.1*x.1+3*(y.2*x.2)) % q
    congr 1;grind
  · show (x.1*y.2+x.2*y.1) % q=(y.1*x.2+y.2*x.1) % q
    congr 1;grind
noncomputable def rn (q:Int) (x:Rt):Prop:=x.1 % q=x.1∧x.2 % q=x.2
theorem qph (q:Int) (x y:Rt):rn q (rmul q x y):=⟨Int.emod_emod ..,Int.emod_emod ..⟩
theorem qeI (q:Int):∀ n,rn q (rpow q n)
  | 0=>⟨Int.emod_emod ..,Int.emod_emod ..⟩
  | _+1=>qph q _ _
theorem rone (q:Int) {x:Rt} (h:rn q x):rmul q (rpow q 0) x=x:=by
  obtain ⟨c1,h1⟩:=em (a:=1) (q:=q)
  obtain ⟨c2,h2⟩:=em (a:=0) (q:=q)
  refine Prod.ext ?_ ?_
  · show (1 % q*x.1+3*(0 % q*x.2)) % q=x.1
    rw [h1,h2,← h.1]
    rw [qbH (b:=x.1 % q) (c:=- c1*(x.1 % q) - 3*c2*x.2) (by grind),Int.emod_emod]
  · show (1 % q*x.2+0 % q*x.1) % q=x.2
    rw [h1,h2,← h.2]
    rw [qbH (b:=x.2 % q) (c:=- c1*(x.2 % q) - c2*x.1) (by grind),Int.emod_emod]
theorem qds (q:Int):∀ m n,rpow q (m+n)=rmul q (rpow q m) (rpow q n)
  | 0,n=>by rw [Nat.zero_add,rone q (qeI q n)]
  | m+1,n=>by
    rw [Nat.succ_add]
    show rmul q (2,1) (rpow q (m+n))=rmul q (rmul q (2,1) (rpow q m)) (rpow q n)
    rw [qds q m n,qco]
noncomputable def rinv (q:Int):Nat→Rt
  | 0=>(1 % q,0 % q)
  | n+1=>rmul q (2,-1) (rinv q n)
theorem r21 (q:Int):rmul q (2,-1) (2,1)=rpow q 0:=by
  refine Prod.ext ?_ ?_
  · show (2*2+3*(-1*1)) % q=1 % q;rfl
  · show (2*1 + -1*2) % q=0 % q;rfl
theorem qkF (q:Int):∀ n,rmul q (rinv q n) (rpow q n)=rpow q 0
  | 0=>rone q (qeI q 0)
  | n+1=>by
    show rmul q (rmul q (2,-1) (rinv q n)) (rmul q (2,1) (rpow q n))=_
    rw [qco,← qco q (rinv q n),qmx q (rinv q n) (2,1),qco q (2,1),qkF q n,← qco,r21,rone q (qeI q 0)]
theorem qim (q:Int) {m:Nat} (h:rpow q m=rpow q 0):∀ k,rpow q (m*k)=rpow q 0
  | 0=>rfl
  | k+1=>by rw [Nat.mul_succ,qds,qim q h k,h,rone q (qeI q 0)]
theorem rord (q:Int) {n:Nat} (h1:rpow q (2 ^ (n+1))=rpow q 0) (h2:rpow q (2 ^ n)≠rpow q 0):∀ d,0<d→d<2 ^ (n+1)→rpow q d≠rpow q 0:=by
  intro d
  induction d using Nat.strongRecOn with
  | _ d ih=>
  intro d0 hd e
  have hr:=Nat.mod_lt (2 ^ (n+1)) d0
  have er:rpow q (2 ^ (n+1) % d)=rpow q 0:=by
    have e1:=Nat.div_add_mod (2 ^ (n+1)) d
    rw [← e1,qds,qim q e,rone q (qeI q _)] at h1
    exact h1
  rcases Nat.eq_zero_or_pos (2 ^ (n+1) % d) with z | z
  · obtain ⟨k,hk⟩:=Nat.dvd_of_mod_eq_zero z
    obtain ⟨a,ha,hka⟩:=(qjX (n:=n+1) (k:=d)).mp ⟨k,hk⟩
    have hlt:a≤n:=by
      rcases Nat.lt_or_ge n a with h | h
      · exfalso
        have:a=n+1:=by omega
        rw [this] at hka
        omega
      · exact h
    apply h2
    have e2:2 ^ n=d*2 ^ (n - a):=by rw [hka,← Nat.pow_add];congr 1;omega
    rw [e2]
    exact qim q e _
  · exact ih _ hr z (by omega) er
theorem rnorm (q:Int):∀ n,∃ c,(rpow q n).1*(rpow q n).1 - 3*((rpow q n).2*(rpow q n).2) - 1=q*c
  | 0=>by
    obtain ⟨c1,h1⟩:=em (a:=1) (q:=q)
    obtain ⟨c2,h2⟩:=em (a:=0) (q:=q)
    refine ⟨-2*c1+q*c1*c1 - 3*q*c2*c2,?_⟩
    show (1 % q)*(1 % q) - 3*((0 % q)*(0 % q)) - 1=_
    rw [h1,h2];grind
  | n+1=>by
    obtain ⟨c,hc⟩:=rnorm q n
    obtain ⟨c1,h1⟩:=em (a:=2*(rpow q n).1+3*(1*(rpow q n).2)) (q:=q)
    obtain ⟨c2,h2⟩:=em (a:=2*(rpow q n).2+1*(rpow q n).1) (q:=q)
    have e1:(rpow q (n+1)).1=2*(rpow q n).1+3*(1*(rpow q n).2) - q*c1:=h1
    have e2:(rpow q (n+1)).2=2*(rpow q n).2+1*(rpow q n).1 - q*c2:=h2
    rw [e1,e2]
    generalize (rpow q n).1=a at *
    generalize (rpow q n).2=b at *
    exact ⟨c - 2*c1*(2*a+3*b)+q*c1*c1+6*c2*(2*b+a) - 3*q*c2*c2,by grind⟩
theorem qpi (q:Int) (n:Nat):∃ c,2*(rpow q (n+n)).1=(2*(rpow q n).1)*(2*(rpow q n).1) - 2+q*c:=by
  obtain ⟨c,hc⟩:=rnorm q n
  rw [qds]
  obtain ⟨c1,h1⟩:=em (a:=(rpow q n).1*(rpow q n).1+3*((rpow q n).2*(rpow q n).2)) (q:=q)
  refine ⟨-2*c1 - 2*c,?_⟩
  show 2*(((rpow q n).1*(rpow q n).1+3*((rpow q n).2*(rpow q n).2)) % q)=_
  rw [h1];grind
noncomputable def ll (M:Nat):Nat→Nat→Nat
  | 0,s=>s
  | k+1,s=>ll M k ((s*s+(M - 2)) % M)
theorem qmy {q:Int} {M:Nat} (hM:2≤M) (hq:q∣(M:Int)):∀ (k t s:Nat),q∣2*(rpow q (2 ^ t)).1 - (s:Int)→q∣2*(rpow q (2 ^ (t+k))).1 - (ll M k s:Int)
  | 0,t,s,h=>h
  | k+1,t,s,h=>by
    have:=qmy hM hq k (t+1) ((s*s+(M - 2)) % M) (by
      obtain ⟨c,hc⟩:=qpi q (2 ^ t)
      obtain ⟨d,hd⟩:=h
      obtain ⟨m,hm⟩:=hq
      have e:(2:Nat) ^ (t+1)=2 ^ t+2 ^ t:=by rw [Nat.pow_succ];omega
      rw [e,hc]
      have z:(((s*s+(M - 2)) % M:Nat):Int)=(s:Int)*s+(M - 2) - M*(((s*s+(M - 2)) / M:Nat):Int):=by
        have:=Nat.mod_add_div (s*s+(M - 2)) M
        have z2:(((s*s+(M - 2)) % M:Nat):Int)+(M:Int)*(((s*s+(M - 2)) / M:Nat):Int)=(s:Int)*s+(M - 2):=by
          have:=congrArg (fun x:Nat=>(x:Int)) this
          simp only [Int.natCast_add,Int.natCast_mul] at this
          rw [this,Int.natCast_sub hM]
          rfl
        omega
      rw [z]
      generalize (((s*s+(M - 2)) / M:Nat):Int)=w
      generalize (rpow q (2 ^ t)).1=a at hd
      have hd':2*a=s+q*d:=by omega
      rw [hd',hm]
      exact ⟨2*s*d+q*d*d+c - m+m*w,by grind⟩)
    rw [show t+(k+1)=t+1+k by omega]
    exact this
theorem qn0 {n:Nat} (h:ll (2 ^ (n+2) - 1) n 4 % (2 ^ (n+2) - 1)=0):Pr (2 ^ (n+2) - 1):=by
  have big:4≤2 ^ (n+2):=by rw [Nat.pow_add];have:=Nat.one_le_two_pow (n:=n);omega
  generalize hM:2 ^ (n+2) - 1=M at h ⊢
  obtain ⟨q,pq,qM,hq⟩:=qjk (m:=M) (by omega)
  rcases hq with e | hq
  · rw [← e];exact pq
  exfalso
  have qI:(q:Int)∣(M:Int):=Int.natCast_dvd_natCast.mpr qM
  have q2:=pq.two
  have odd:q≠2:=fun z=>by
    rw [z] at qM
    have:2 ^ (n+2)=2*2 ^ (n+1):=by rw [Nat.pow_succ 2 (n+1)];omega
    omega
  have s0:(q:Int)∣2*(rpow q (2 ^ (0+n))).1 - (ll M n 4:Int):=qmy (by omega) qI n 0 4 (by
    show (q:Int)∣2*(rmul q (2,1) (rpow q 0)).1 - 4
    obtain ⟨c1,h1⟩:=em (a:=1) (q:=(q:Int))
    obtain ⟨c2,h2⟩:=em (a:=0) (q:=(q:Int))
    show (q:Int)∣2*((2*(1 % (q:Int))+3*(1*(0 % (q:Int)))) % (q:Int)) - 4
    obtain ⟨c3,h3⟩:=em (a:=2*(1 % (q:Int))+3*(1*(0 % (q:Int)))) (q:=(q:Int))
    rw [h3,h1,h2]
    exact ⟨-4*c1 - 6*c2 - 2*c3,by grind⟩)
  have s1:(q:Int)∣(ll M n 4:Int):=Int.natCast_dvd_natCast.mpr (Nat.dvd_trans qM (Nat.dvd_of_mod_eq_zero h))
  have s2:(q:Int)∣2*(rpow q (2 ^ n)).1:=by
    have:=Int.dvd_add s0 s1
    rw [Nat.zero_add] at this
    rw [Int.sub_add_cancel] at this
    exact this
  have s3:(q:Int)∣(rpow q (2 ^ n)).1:=by
    rcases pq.mulI s2 with z | z
    · exfalso
      have z2:=Int.natCast_dvd_natCast.mp (show (q:Int)∣((2:Nat):Int) from z)
      have:=Nat.le_of_dvd (by decide) z2
      omega
    · exact z
  have qne:(q:Int)≠0:=by omega
  have m1:rpow q (2 ^ (n+1))=((-1) % (q:Int),0 % (q:Int)):=by
    have e:(2:Nat) ^ (n+1)=2 ^ n+2 ^ n:=by rw [Nat.pow_succ];omega
    rw [e,qds]
    obtain ⟨c,hc⟩:=rnorm q (2 ^ n)
    obtain ⟨d,hd⟩:=s3
    refine Prod.ext ?_ ?_
    · show ((rpow q (2 ^ n)).1*(rpow q (2 ^ n)).1+3*((rpow q (2 ^ n)).2*(rpow q (2 ^ n)).2)) % (q:Int)=(-1) % (q:Int)
      refine qbH (c:=2*q*d*d - c) ?_
      generalize (rpow q (2 ^ n)).2=b at *
      rw [hd] at hc ⊢
      grind
    · show ((rpow q (2 ^ n)).1*(rpow q (2 ^ n)).2+(rpow q (2 ^ n)).2*(rpow q (2 ^ n)).1) % (q:Int)=0 % (q:Int)
      refine qbH (c:=2*d*(rpow q (2 ^ n)).2) ?_
      rw [hd];grind
  have h2:rpow q (2 ^ (n+1))≠rpow q 0:=fun z=>by
    rw [m1] at z
    have z1:(-1) % (q:Int)=1 % (q:Int):=congrArg Prod.fst z
    have z2:(q:Int)∣-1 - 1:=Int.dvd_of_emod_eq_zero ((Int.emod_eq_emod_iff_emod_sub_eq_zero).mp z1)
    have z3:=Int.natAbs_dvd_natAbs.mpr z2
    have:=Nat.le_of_dvd (by decide) z3
    rw [Int.natAbs_natCast] at this
    have:(-1 - 1:Int).natAbs=2:=by decide
    omega
  have h1:rpow q (2 ^ (n+1+1))=rpow q 0:=by
    have e:(2:Nat) ^ (n+1+1)=2 ^ (n+1)+2 ^ (n+1):=by rw [Nat.pow_succ 2 (n+1)];omega
    rw [e,qds,m1]
    obtain ⟨c1,e1⟩:=em (a:=-1) (q:=(q:Int))
    obtain ⟨c2,e2⟩:=em (a:=0) (q:=(q:Int))
    refine Prod.ext ?_ ?_
    · show ((-1) % (q:Int)*((-1) % (q:Int))+3*(0 % (q:Int)*(0 % (q:Int)))) % (q:Int)=1 % (q:Int)
      refine qbH (c:=2*c1+q*c1*c1+3*q*c2*c2) ?_
      rw [e1,e2];grind
    · show ((-1) % (q:Int)*(0 % (q:Int))+0 % (q:Int)*((-1) % (q:Int))) % (q:Int)=0 % (q:Int)
      refine qbH (c:=2*c2+2*q*c1*c2) ?_
      rw [e1,e2];grind
  have ord:=rord (q:Int) h1 h2
  have ne:∀ i d,0<d→i+d<2 ^ (n+2)→rpow q i≠rpow q (i+d):=fun i d d0 hd z=>by
    have e:rpow q d=rpow q 0:=by
      have a:=qkF (q:Int) i
      have b:rmul q (rinv q i) (rpow q (i+d))=rpow q d:=by
        rw [qds,← qco,a,rone _ (qeI _ _)]
      rw [← b,← z,a]
    exact ord d d0 (by have:(2:Nat) ^ (n+1+1)=2 ^ (n+2):=rfl;omega) e
  have lt:∀ i,0≤(rpow q i).1∧(rpow q i).1<q∧0≤(rpow q i).2∧(rpow q i).2<q:=fun i=>by
    obtain ⟨a,b⟩:=qeI (q:Int) i
    have p0:(0:Int)<q:=by omega
    have u1:=Int.emod_nonneg (rpow q i).1 qne
    have u2:=Int.emod_lt_of_pos (rpow q i).1 p0
    have u3:=Int.emod_nonneg (rpow q i).2 qne
    have u4:=Int.emod_lt_of_pos (rpow q i).2 p0
    rw [a] at u1 u2
    rw [b] at u3 u4
    exact ⟨u1,u2,u3,u4⟩
  have pg:=pigeon (q*q) (2 ^ (n+2)) (fun i=>(rpow q i).1.toNat*q+(rpow q i).2.toNat) (fun i _=>by
    obtain ⟨a,b,c,d⟩:=lt i
    have a':(rpow q i).1.toNat+1≤q:=by omega
    have d':(rpow q i).2.toNat<q:=by omega
    have:=Nat.mul_le_mul_right q a'
    rw [Nat.add_mul,Nat.one_mul] at this
    show (rpow q i).1.toNat*q+(rpow q i).2.toNat<q*q
    omega) (fun i j hi hj e=>by
    have e:(rpow q i).1.toNat*q+(rpow q i).2.toNat=(rpow q j).1.toNat*q+(rpow q j).2.toNat:=e
    obtain ⟨a,b,c,d⟩:=lt i
    obtain ⟨a',b',c',d'⟩:=lt j
    have m1:=congrArg (· % q) e
    have m2:=congrArg (· / q) e
    simp only [Nat.mul_comm _ q,Nat.mul_add_mod,Nat.mul_add_div (show 0<q by omega)] at m1 m2
    rw [Nat.mod_eq_of_lt (by omega),Nat.mod_eq_of_lt (by omega)] at m1
    rw [Nat.div_eq_of_lt (by omega),Nat.div_eq_of_lt (by omega)] at m2
    have ee:rpow q i=rpow q j:=Prod.ext (by omega) (by omega)
    rcases Nat.lt_trichotomy i j with h | h | h
    · exact absurd ee (by have:=ne i (j - i) (by omega) (by omega);rw [show i+(j - i)=j by omega] at this;exact this)
    · exact h
    · exact absurd ee.symm (by have:=ne j (i - j) (by omega) (by omega);rw [show j+(i - j)=i by omega] at this;exact this))
  omega
end Bs
namespace Bs
noncomputable def llk (M k s:Nat):Nat:=Nat.rec (motive:=fun _=>Nat→Nat) (fun s=>s) (fun _ ih s=>ih ((s*s+(M - 2)) % M)) k s
noncomputable def llf (x:Nat) (f:Nat→Nat):Nat:=Nat.rec (motive:=fun _=>Nat) (f 0) (fun n _=>f (n+1)) x
noncomputable def llo (M k j s:Nat):Nat:=Nat.rec (motive:=fun _=>Nat→Nat) (fun s=>s) (fun _ ih s=>llf (llk M k s) ih) j s
theorem qmz (M:Nat):∀ k s,llk M k s=ll M k s
  | 0,_=>rfl
  | k+1,s=>qmz M k _
theorem qoH (x:Nat) (f:Nat→Nat):llf x f=f x:=by cases x <;> rfl
theorem qmA (M:Nat):∀ a b s,ll M (a+b) s=ll M b (ll M a s)
  | 0,b,s=>by rw [Nat.zero_add];rfl
  | a+1,b,s=>by rw [Nat.succ_add];exact qmA M a b _
theorem qoI (M k:Nat):∀ j s,llo M k j s=ll M (k*j) s
  | 0,_=>rfl
  | j+1,s=>by
    show llf (llk M k s) (llo M k j)=_
    rw [qoH,qmz,qoI M k j,← qmA]
    congr 1
    rw [Nat.mul_succ,Nat.add_comm]
noncomputable def mers (e:Nat):Nat:=2 ^ e - 1
theorem qcS {n r k j:Nat} (e:n=k*j+r) (h:Nat.beq (llf (llo (mers (n+2)) k j 4) (fun s=>llk (mers (n+2)) r s % mers (n+2))) 0=true):Pr (mers (n+2)):=by
  refine qn0 ?_
  replace h:=Nat.eq_of_beq_eq_true h
  rw [qoH,qoI,qmz,← qmA,← e] at h
  exact h
theorem qsl:Pr (mers 61):=qcS (n:=59) (r:=9) (k:=10) (j:=5) rfl (by decide +kernel)
theorem qrL:Pr (mers 127):=qcS (n:=125) (r:=5) (k:=20) (j:=6) rfl (by decide +kernel)
theorem qrM:Pr (mers 521):=qcS (n:=519) (r:=19) (k:=50) (j:=10) rfl (by decide +kernel)
theorem qqP:Pr (mers 1279):=qcS (n:=1277) (r:=77) (k:=100) (j:=12) rfl (by decide +kernel)
theorem qqQ:Pr (mers 4423):=qcS (n:=4421) (r:=21) (k:=100) (j:=44) rfl (by decide +kernel)
theorem qqR:Pr (mers 9941):=qcS (n:=9939) (r:=39) (k:=100) (j:=99) rfl (by decide +kernel)
theorem qpj:Pr (mers 21701):=qcS (n:=21699) (r:=99) (k:=150) (j:=144) rfl (by decide +kernel)
theorem qpk:Pr (mers 44497):=qcS (n:=44495) (r:=95) (k:=200) (j:=222) rfl (by decide +kernel)
end Bs
namespace Bs
noncomputable def co (ns:List Int) (k:Nat):Int:=ns.getD k 0
section
variable {α:Type} [Lean.Grind.CommRing α]
noncomputable def qa4:List α→List α→List α
  | [],b=>b
  | a,[]=>a
  | x::a,y::b=>(x+y)::qa4 a b
theorem qgD (a:List α):qa4 a []=a:=by cases a <;> rfl
theorem qav (g:Nat→α):∀ (a b:List α) (k:Nat),cvL (qa4 a b) g k=cvL a g k+cvL b g k
  | [],b,k=>by show cvL b g k=0+cvL b g k;grind
  | x::a,[],k=>by rw [qgD,qaB];grind
  | x::a,y::b,0=>by show cvL ((x+y)::qa4 a b) g 0=_;rw [qam,qam,qam];grind
  | x::a,y::b,k+1=>by show cvL ((x+y)::qa4 a b) g (k+1)=_;rw [qaj,qaj,qaj,qav g a b k];grind
theorem qar (c:α) (g:Nat→α):∀ (a:List α) (k:Nat),cvL (a.map (c*·)) g k=c*cvL a g k
  | [],k=>by show (0:α)=c*0;grind
  | x::a,0=>by rw [List.map_cons,qam,qam];grind
  | x::a,k+1=>by rw [List.map_cons,qaj,qaj,qar c g a k];grind
noncomputable def upS (s:Nat) (f:Nat→α) (k:Nat):α:=if s≤k then f (k - s) else 0
theorem qcw (g:Nat→α):∀ (s:Nat) (a:List α) (k:Nat),cvL (List.replicate s 0++a) g k=upS s (cvL a g) k
  | 0,a,k=>by unfold upS;rw [if_pos (Nat.zero_le k)];rfl
  | s+1,a,0=>by unfold upS;rw [if_neg (by omega)];show cvL (0::(List.replicate s 0++a)) g 0=0;rw [qam];grind
  | s+1,a,k+1=>by
    show cvL (0::(List.replicate s 0++a)) g (k+1)=_
    rw [qaj,qcw g s a k]
    unfold upS
    by_cases h:s≤k
    · rw [if_pos h,if_pos (by omega),show k+1 - (s+1)=k - s by omega];grind
    · rw [if_neg h,if_neg (by omega)];grind
noncomputable def qaS:List α→List α→List α
  | [],_=>[]
  | x::a,b=>qa4 (b.map (x*·)) (0::qaS a b)
theorem qap (g:Nat→α):∀ (a b:List α) (k:Nat),cvL (qaS a b) g k=cvL a (cvL b g) k
  | [],b,k=>rfl
  | x::a,b,k=>by
    show cvL (qa4 (b.map (x*·)) (0::qaS a b)) g k=_
    rw [qav,qar,qcR,qcR]
    have e:up1 (cvL (qaS a b) g) k=up1 (cvL a (cvL b g)) k:=by
      cases k with
      | zero=>rfl
      | succ k=>exact qap g a b k
    rw [e]
    grind
theorem qbo (g:Nat→α) (s:α):∀ (a:List α) (k:Nat),cvL (a++[s]) g k=cvL a g k+s*upS a.length g k
  | [],0=>by show cvL [s] g 0=0+s*g 0;rw [qam];grind
  | [],k+1=>by show cvL [s] g (k+1)=0+s*g (k+1);rw [qaj,qaB];grind
  | x::a,0=>by show cvL (x::(a++[s])) g 0=_;rw [qam,qam];unfold upS;rw [if_neg (by simp)];grind
  | x::a,k+1=>by
    show cvL (x::(a++[s])) g (k+1)=_
    rw [qaj,qaj,qbo g s a k]
    have e:upS (x::a).length g (k+1)=upS a.length g k:=by
      unfold upS
      rw [List.length_cons]
      by_cases h:a.length≤k
      · rw [if_pos h,if_pos (by omega),show k+1 - (a.length+1)=k - a.length by omega]
      · rw [if_neg h,if_neg (by omega)]
    rw [e];grind
theorem qbN (a:List α) {g:Nat→α} (h:∀ k,g k=0) (k:Nat):cvL a g k=0:=by
  rw [qai (c:=fun k=>0*g k) (fun j=>by rw [h j];grind) a k,qa8]
  grind
end
theorem qb6 (a:List Int) (k:Nat):co a k=cvL a qbG k:=(qbW a k).symm
theorem qba (a b:List Int) (k:Nat):cvL a (co b) k=cvL b (co a) k:=by
  rw [qai (qb6 b) a k,qdr,qai (fun j=>(qb6 a j).symm) b k]
theorem qat {a:List Int} {k:Nat} (h:a.length≤k):co a k=0:=by
  unfold co;rw [List.getD_eq_getElem?_getD,List.getElem?_eq_none h];rfl
theorem qb4 {g:Nat→Int} {n:Nat} (h:∀ i,n≤i→g i=0):∀ (a:List Int) (k:Nat),a.length+n≤k+1→cvL a g k=0
  | [],_,_=>rfl
  | x::a,0,hk=>by
    rw [List.length_cons] at hk
    rw [qam,h 0 (by omega)];omega
  | x::a,k+1,hk=>by
    rw [List.length_cons] at hk
    rw [qaj,h (k+1) (by omega),qb4 h a k (by omega)];omega
theorem qin {p:Int} {g:Nat→Int} {n:Nat} (h:∀ i,n<i→p∣g i):∀ (a:List Int) (k:Nat),a.length+n≤k→p∣cvL a g k
  | [],_,_=>Int.dvd_zero p
  | x::a,0,hk=>absurd hk (by rw [List.length_cons];omega)
  | x::a,k+1,hk=>by
    rw [List.length_cons] at hk
    rw [qaj]
    exact Int.dvd_add (Int.dvd_mul_of_dvd_right (h (k+1) (by omega))) (qin h a k (by omega))
theorem qeZ {p:Nat} (hp:Pr p) {g:Nat→Int} {n:Nat} (h0:¬ (p:Int)∣g n) (h:∀ i,n<i→(p:Int)∣g i) (S:List Int) :
    (∀ k,n≤k→(p:Int)∣cvL S g k)→∀ s∈S,(p:Int)∣s:=by
  induction hl:S.length generalizing S with
  | zero=>intro _ s hs;rw [List.length_eq_zero_iff.mp hl] at hs;exact nomatch hs
  | succ m ih=>
    intro hk
    have ne:S≠[]:=fun z=>by rw [z] at hl;simp at hl
    obtain ⟨T,t,rfl⟩:∃ T t,S=T++[t]:=⟨S.dropLast,S.getLast ne,(List.dropLast_concat_getLast ne).symm⟩
    have hT:T.length=m:=by simpa using hl
    have ht:(p:Int)∣t:=by
      have a:=hk (T.length+n) (by omega)
      rw [qbo] at a
      have b:=qin h T (T.length+n) (Nat.le_refl _)
      have c:(p:Int)∣t*upS T.length g (T.length+n):=by
        have:=Int.dvd_sub a b
        rwa [show ∀ x y:Int,x+y - x=y by intro x y;omega] at this
      unfold upS at c
      rw [if_pos (by omega),show T.length+n - T.length=n by omega] at c
      rcases hp.mulI c with z | z
      · exact z
      · exact absurd z h0
    have hT2:=ih T hT (fun k hk2=>by
      have a:=hk k hk2
      rw [qbo] at a
      have:=Int.dvd_sub a (Int.dvd_mul_of_dvd_left (c:=upS T.length g k) ht)
      rwa [show ∀ x y:Int,x+y - y=x by intro x y;omega] at this)
    intro s hs
    rcases List.mem_append.mp hs with h | h
    · exact hT2 s h
    · rw [List.mem_singleton.mp h];exact ht
noncomputable def Lz (g:List Int):Prop:=0<g.length∧co g (g.length - 1)≠0
noncomputable def QI (r o f:Nat→Int):Prop:=∃ d:Int,d≠0∧∃ U V:List Int,∀ k,d*f k=cvL U r k+cvL V o k
noncomputable def MQ (g f:Nat→Int):Prop:=∃ c:Int,c≠0∧∃ A:List Int,∀ k,c*f k=cvL A g k
theorem QI.congr {r o f h:Nat→Int} (q:QI r o f) (e:∀ k,h k=f k):QI r o h:=by
  obtain ⟨d,d0,U,V,hU⟩:=q
  exact ⟨d,d0,U,V,fun k=>by rw [e k];exact hU k⟩
theorem QI.left (r o:Nat→Int):QI r o r:=⟨1,by decide,[1],[],fun k=>by
  rw [qaB]
  cases k with
  | zero=>rw [qam];omega
  | succ k=>rw [qaj,qaB];omega⟩
theorem QI.right (r o:Nat→Int):QI r o o:=⟨1,by decide,[],[1],fun k=>by
  rw [qaB]
  cases k with
  | zero=>rw [qam];omega
  | succ k=>rw [qaj,qaB];omega⟩
theorem QI.less {r o f h:Nat→Int} (q:QI r o f) (q':QI r o h) (a w:Int) (s:Nat):QI r o (fun k=>a*f k - w*upS s h k):=by
  obtain ⟨d,d0,U,V,hU⟩:=q
  obtain ⟨d',d0',U',V',hU'⟩:=q'
  refine ⟨d*d',Int.mul_ne_zero d0 d0',qa4 (U.map (d'*a*·)) (List.replicate s 0++U'.map (-(d*w)*·)),qa4 (V.map (d'*a*·)) (List.replicate s 0++V'.map (-(d*w)*·)),fun k=>?_⟩
  show d*d'*(a*f k - w*upS s h k)=_
  rw [qav,qav,qar,qar,qcw,qcw]
  unfold upS
  have e1:=hU k
  by_cases hs:s≤k
  · rw [if_pos hs,if_pos hs,if_pos hs,qar,qar]
    have e2:=hU' (k - s)
    grind
  · rw [if_neg hs,if_neg hs,if_neg hs]
    grind
theorem QI.scal {r o f:Nat→Int} {c:Int} (c0:c≠0) (q:QI r o (fun k=>c*f k)):QI r o f:=by
  obtain ⟨d,d0,U,V,hU⟩:=q
  exact ⟨d*c,Int.mul_ne_zero d0 c0,U,V,fun k=>by rw [← hU k];grind⟩
theorem QI.trans {r o a b f:Nat→Int} (qa:QI r o a) (qb:QI r o b) (q:QI a b f):QI r o f:=by
  obtain ⟨d,d0,U,V,hU⟩:=q
  obtain ⟨d1,d10,U1,V1,h1⟩:=qa
  obtain ⟨d2,d20,U2,V2,h2⟩:=qb
  refine ⟨d1*d2*d,Int.mul_ne_zero (Int.mul_ne_zero d10 d20) d0,qa4 ((qaS U U1).map (d2*·)) ((qaS V U2).map (d1*·)),qa4 ((qaS U V1).map (d2*·)) ((qaS V V2).map (d1*·)),fun k=>?_⟩
  rw [qav,qav,qar,qar,qar,qar,qap,qap,qap,qap]
  have e1:d1*cvL U a k=cvL U (cvL U1 r) k+cvL U (cvL V1 o) k:=by
    rw [← qa8,← qd6];exact qai h1 U k
  have e2:d2*cvL V b k=cvL V (cvL U2 r) k+cvL V (cvL V2 o) k:=by
    rw [← qa8,← qd6];exact qai h2 V k
  have e3:=hU k
  grind
theorem MQ.refl (g:Nat→Int):MQ g g:=⟨1,by decide,[1],fun k=>by
  cases k with
  | zero=>rw [qam];omega
  | succ k=>rw [qaj,qaB];omega⟩
theorem MQ.zero (g:Nat→Int) {f:Nat→Int} (h:∀ k,f k=0):MQ g f:=⟨1,by decide,[],fun k=>by rw [qaB,h k];rfl⟩
theorem MQ.congr {g f h:Nat→Int} (m:MQ g f) (e:∀ k,h k=f k):MQ g h:=by
  obtain ⟨c,c0,A,hA⟩:=m
  exact ⟨c,c0,A,fun k=>by rw [e k];exact hA k⟩
theorem MQ.less {g f h:Nat→Int} (m:MQ g f) (m':MQ g h) (a w:Int) (s:Nat):MQ g (fun k=>a*f k - w*upS s h k):=by
  obtain ⟨d,d0,U,hU⟩:=m
  obtain ⟨d',d0',U',hU'⟩:=m'
  refine ⟨d*d',Int.mul_ne_zero d0 d0',qa4 (U.map (d'*a*·)) (List.replicate s 0++U'.map (-(d*w)*·)),fun k=>?_⟩
  show d*d'*(a*f k - w*upS s h k)=_
  rw [qav,qar,qcw]
  unfold upS
  have e1:=hU k
  by_cases hs:s≤k
  · rw [if_pos hs,if_pos hs,qar]
    have e2:=hU' (k - s)
    grind
  · rw [if_neg hs,if_neg hs]
    grind
theorem MQ.scal {g f:Nat→Int} {c:Int} (c0:c≠0) (m:MQ g (fun k=>c*f k)):MQ g f:=by
  obtain ⟨d,d0,A,hA⟩:=m
  exact ⟨d*c,Int.mul_ne_zero d0 c0,A,fun k=>by rw [← hA k];grind⟩
theorem MQ.trans {g f h:Nat→Int} (m:MQ g f) (m':MQ f h):MQ g h:=by
  obtain ⟨c,c0,A,hA⟩:=m
  obtain ⟨d,d0,B,hB⟩:=m'
  refine ⟨c*d,Int.mul_ne_zero c0 d0,qaS B A,fun k=>?_⟩
  rw [qap]
  have e:c*cvL B f k=cvL B (cvL A g) k:=by rw [← qa8];exact qai hA B k
  rw [← e,← hB k];grind
theorem MQ.of_QI {r o f g:Nat→Int} (m1:MQ g r) (m2:MQ g o) (q:QI r o f):MQ g f:=by
  obtain ⟨d,d0,U,V,hU⟩:=q
  obtain ⟨c,c0,A,hA⟩:=m1
  obtain ⟨e,e0,B,hB⟩:=m2
  refine ⟨c*e*d,Int.mul_ne_zero (Int.mul_ne_zero c0 e0) d0,qa4 ((qaS U A).map (e*·)) ((qaS V B).map (c*·)),fun k=>?_⟩
  rw [qav,qar,qar,qap,qap]
  have e1:c*cvL U r k=cvL U (cvL A g) k:=by rw [← qa8];exact qai hA U k
  have e2:e*cvL V o k=cvL V (cvL B g) k:=by rw [← qa8];exact qai hB V k
  have e3:=hU k
  grind
theorem QI.of_MQ {r o f h:Nat→Int} (q:QI r o f) (m:MQ f h):QI r o h:=by
  obtain ⟨c,c0,A,hA⟩:=m
  obtain ⟨d,d0,U,V,hU⟩:=q
  refine ⟨d*c,Int.mul_ne_zero d0 c0,qaS A U,qaS A V,fun k=>?_⟩
  rw [qap,qap]
  have e:d*cvL A f k=cvL A (cvL U r) k+cvL A (cvL V o) k:=by rw [← qa8,← qd6];exact qai hU A k
  rw [← e,← hA k];grind
end Bs
namespace Bs
theorem qeJ {f:List Int} (h:co f (f.length - 1)=0) (k:Nat):co f.dropLast k=co f k:=by
  unfold co at *
  rw [List.getD_eq_getElem?_getD,List.getD_eq_getElem?_getD]
  rw [List.getElem?_dropLast]
  by_cases hk:k<f.length - 1
  · rw [if_pos hk]
  · rw [if_neg hk]
    by_cases e:k=f.length - 1
    · subst e
      rw [List.getD_eq_getElem?_getD] at h
      rw [h];rfl
    · rw [List.getElem?_eq_none (by omega)]
theorem qgE (f:List Int):(∀ k,co f k=0)∨∃ g,Lz g∧g.length≤f.length∧∀ k,co g k=co f k:=by
  induction hn:f.length generalizing f with
  | zero=>exact .inl fun k=>qat (by omega)
  | succ n ih=>
    by_cases h:co f (f.length - 1)=0
    · rcases ih f.dropLast (by rw [List.length_dropLast];omega) with z | ⟨g,g1,g2,g3⟩
      · exact .inl fun k=>by rw [← qeJ h];exact z k
      · exact .inr ⟨g,g1,by omega,fun k=>by rw [g3,qeJ h]⟩
    · exact .inr ⟨f,⟨by omega,h⟩,by omega,fun _=>rfl⟩
theorem qgb (n:Nat) (F:Nat→Int) (k:Nat):co ((List.range n).map F) k=if k<n then F k else 0:=by
  unfold co
  rw [List.getD_eq_getElem?_getD,List.getElem?_map]
  by_cases h:k<n
  · rw [if_pos h,List.getElem?_range h];rfl
  · rw [if_neg h,List.getElem?_eq_none (by rw [List.length_range];omega)];rfl
structure Gen (r o:Nat→Int) (g:List Int):Prop where
  lz:Lz g
  qi:QI r o (co g)
  len:∀ h,Lz h→QI r o (co h)→g.length≤h.length
  last:∀ h,Lz h→QI r o (co h)→h.length=g.length→(co g (g.length - 1)).natAbs≤(co h (h.length - 1)).natAbs
theorem qqS {r o:Nat→Int} {f:List Int} (lf:Lz f) (q:QI r o (co f)):∃ g,Gen r o g:=by
  have L:∀ n,(∃ f,f.length=n∧Lz f∧QI r o (co f))→∃ m,(∃ f,f.length=m∧Lz f∧QI r o (co f))∧∀ h,Lz h→QI r o (co h)→m≤h.length:=by
    intro n
    induction n using Nat.strongRecOn with
    | _ n ih=>
      intro hf
      by_cases hx:∃ m,m<n∧∃ f,f.length=m∧Lz f∧QI r o (co f)
      · obtain ⟨m,hm,hx⟩:=hx
        exact ih m hm hx
      · refine ⟨n,hf,fun h lh qh=>?_⟩
        rcases Nat.lt_or_ge h.length n with z | z
        · exact absurd ⟨h.length,z,h,rfl,lh,qh⟩ hx
        · exact z
  obtain ⟨m,⟨f1,e1,l1,q1⟩,hm⟩:=L f.length ⟨f,rfl,lf,q⟩
  have M:∀ n,(∃ f,f.length=m∧Lz f∧QI r o (co f)∧(co f (f.length - 1)).natAbs=n)→∃ g,Gen r o g:=by
    intro n
    induction n using Nat.strongRecOn with
    | _ n ih=>
      rintro ⟨f,fm,lf,qf,fn⟩
      by_cases hx:∃ j,j<n∧∃ f,f.length=m∧Lz f∧QI r o (co f)∧(co f (f.length - 1)).natAbs=j
      · obtain ⟨j,hj,hx⟩:=hx
        exact ih j hj hx
      · refine ⟨f,lf,qf,fun h lh qh=>by rw [fm];exact hm h lh qh,fun h lh qh hl=>?_⟩
        rcases Nat.lt_or_ge (co h (h.length - 1)).natAbs (co f (f.length - 1)).natAbs with z | z
        · exact absurd ⟨_,by omega,h,by omega,lh,qh,rfl⟩ hx
        · exact z
  exact M _ ⟨f1,e1,l1,q1,rfl⟩
theorem Gen.mq {r o:Nat→Int} {g:List Int} (G:Gen r o g):∀ (n:Nat) (f:List Int),f.length≤n→QI r o (co f)→MQ (co g) (co f)
  | 0,f,h,_=>MQ.zero _ fun k=>qat (by omega)
  | n+1,f,h,q=>by
    rcases qgE f with z | ⟨f1,l1,h1,e1⟩
    · exact MQ.zero _ z
    have q1:QI r o (co f1):=q.congr e1
    have gl:=G.len f1 l1 q1
    refine MQ.congr (f:=co f1) ?_ fun k=>(e1 k).symm
    generalize hs:f1.length - g.length=s
    have g0:=G.lz.1
    let F:List Int:=(List.range (f1.length - 1)).map fun k=>co g (g.length - 1)*co f1 k - co f1 (f1.length - 1)*upS s (co g) k
    have eF:∀ k,co F k=co g (g.length - 1)*co f1 k - co f1 (f1.length - 1)*upS s (co g) k:=fun k=>by
      rw [qgb]
      by_cases hk:k<f1.length - 1
      · rw [if_pos hk]
      · rw [if_neg hk]
        unfold upS
        by_cases hk2:k=f1.length - 1
        · rw [if_pos (by omega),hk2,show f1.length - 1 - s=g.length - 1 by omega];grind
        · rw [qat (a:=f1) (by omega)]
          by_cases hk3:s≤k
          · rw [if_pos hk3,qat (a:=g) (k:=k - s) (by omega)];omega
          · rw [if_neg hk3];omega
    have qF:QI r o (co F):=QI.congr (q1.less G.qi (co g (g.length - 1)) (co f1 (f1.length - 1)) s) eF
    have lF:F.length≤n:=by
      have:F.length=f1.length - 1:=by show ((List.range (f1.length - 1)).map _).length=_;rw [List.length_map,List.length_range]
      omega
    have m:=Gen.mq G n F lF qF
    have m2:=MQ.less (MQ.congr m fun k=>(eF k).symm) (MQ.refl (co g)) 1 (-(co f1 (f1.length - 1))) s
    refine MQ.scal (c:=co g (g.length - 1)) G.lz.2 (MQ.congr m2 fun k=>?_)
    show _=1*_ - _*upS s (co g) k
    generalize upS s (co g) k=y
    grind
theorem Gen.prim {r o:Nat→Int} {g:List Int} (G:Gen r o g) {p:Nat} (hp:2≤p):∃ n,¬ (p:Int)∣co g n∧∀ i,n<i→(p:Int)∣co g i:=by
  have key:∀ n,(∀ i,n≤i→(p:Int)∣co g i)→(∀ i,(p:Int)∣co g i)∨∃ n,¬ (p:Int)∣co g n∧∀ i,n<i→(p:Int)∣co g i:=by
    intro n
    induction n with
    | zero=>intro h;exact .inl fun i=>h i (Nat.zero_le i)
    | succ n ih=>
      intro h
      by_cases hd:(p:Int)∣co g n
      · exact ih fun i hi=>by
          by_cases e:i=n
          · rw [e];exact hd
          · exact h i (by omega)
      · exact .inr ⟨n,hd,fun i hi=>h i (by omega)⟩
  rcases key g.length (fun i hi=>by rw [qat hi];exact Int.dvd_zero _) with h | h
  · exfalso
    let h1:List Int:=g.map (· / (p:Int))
    have e1:∀ k,(p:Int)*co h1 k=co g k:=fun k=>by
      have:co h1 k=co g k / (p:Int):=by
        show (g.map (· / (p:Int))).getD k 0=g.getD k 0 / (p:Int)
        rw [List.getD_eq_getElem?_getD,List.getD_eq_getElem?_getD,List.getElem?_map]
        cases g[k]? with
        | none=>exact (Int.zero_ediv _).symm
        | some z=>rfl
      rw [this,Int.mul_ediv_cancel' (h k)]
    have p0:(p:Int)≠0:=by omega
    have len1:h1.length=g.length:=List.length_map ..
    have ne:co h1 (h1.length - 1)≠0:=fun z=>G.lz.2 (by rw [← e1,← len1,z];omega)
    have l1:Lz h1:=⟨by rw [len1];exact G.lz.1,ne⟩
    have q1:QI r o (co h1):=QI.scal (c:=(p:Int)) p0 (QI.congr G.qi e1)
    have lt:=G.last h1 l1 q1 len1
    have e2:=e1 (g.length - 1)
    rw [← len1] at e2
    rw [len1] at e2 lt
    rw [← e2,Int.natAbs_mul,Int.natAbs_natCast] at lt
    rw [len1] at ne
    have pos:0<(co h1 (g.length - 1)).natAbs:=by omega
    have:=Nat.mul_le_mul_right (co h1 (g.length - 1)).natAbs hp
    omega
  · exact h
theorem Gen.loc {r o:Nat→Int} {g:List Int} (G:Gen r o g) {p:Nat} (hp:Pr p) {f:Nat→Int} (m:MQ (co g) f) :
    ∃ (c:Int) (A:List Int),¬ (p:Int)∣c∧∀ k,c*f k=cvL A (co g) k:=by
  obtain ⟨n,n0,n1⟩:=G.prim hp.two
  obtain ⟨c,c0,A,hA⟩:=m
  have key:∀ (m:Nat) (c:Int) (A:List Int),c.natAbs≤m→c≠0→(∀ k,c*f k=cvL A (co g) k)→∃ (c:Int) (A:List Int),¬ (p:Int)∣c∧∀ k,c*f k=cvL A (co g) k:=by
    intro m
    induction m with
    | zero=>intro c A h h0;omega
    | succ m ih=>
      intro c A h h0 hA
      by_cases hd:(p:Int)∣c
      · have dA:∀ a∈A,(p:Int)∣a:=qeZ hp n0 n1 A fun k _=>by rw [← hA k];exact Int.dvd_mul_of_dvd_left hd
        obtain ⟨c',rfl⟩:=hd
        have p2:=hp.two
        have c0':c'≠0:=fun z=>h0 (by rw [z];omega)
        have eA:A=(A.map (· / (p:Int))).map ((p:Int)*·):=by
          rw [List.map_map]
          conv=>lhs;rw [← List.map_id A]
          refine List.map_congr_left fun a ha=>?_
          show a=(p:Int)*(a / (p:Int))
          rw [Int.mul_ediv_cancel' (dA a ha)]
        refine ih c' (A.map (· / (p:Int))) ?_ c0' fun k=>?_
        · rw [Int.natAbs_mul,Int.natAbs_natCast] at h
          have pos:0<c'.natAbs:=by omega
          have:=Nat.mul_le_mul_right c'.natAbs p2
          omega
        · have e:=hA k
          rw [eA,qar,Int.mul_assoc] at e
          exact Int.eq_of_mul_eq_mul_left (by omega) e
      · exact ⟨c,A,hd,hA⟩
  exact key _ c A (Nat.le_refl _) c0 hA
theorem qsm (a b:Nat):∃ x y:Int,x*a+y*b=(Nat.gcd a b:Int):=by
  induction a,b using Nat.gcd.induction with
  | H0 n=>exact ⟨0,1,by simp⟩
  | H1 m n hm ih=>
    obtain ⟨x,y,h⟩:=ih
    refine ⟨y - x*((n / m:Nat):Int),x,?_⟩
    rw [Nat.gcd_rec,← h]
    have e:(n:Int)=(m:Int)*((n / m:Nat):Int)+((n % m:Nat):Int):=by
      have:=Nat.div_add_mod n m
      exact_mod_cast this.symm
    generalize ((n / m:Nat):Int)=q at *
    generalize ((n % m:Nat):Int)=w at *
    rw [e];grind
theorem qsn (a b:Int):∃ x y:Int,x*a+y*b=(Int.gcd a b:Int):=by
  obtain ⟨x,y,h⟩:=qsm a.natAbs b.natAbs
  have s:∀ z:Int,∃ e:Int,(z.natAbs:Int)=e*z:=fun z=>by
    rcases Int.natAbs_eq z with h | h
    · exact ⟨1,by omega⟩
    · exact ⟨-1,by omega⟩
  obtain ⟨e,he⟩:=s a
  obtain ⟨f,hf⟩:=s b
  refine ⟨x*e,y*f,?_⟩
  show _=((Nat.gcd a.natAbs b.natAbs:Nat):Int)
  rw [← h,he,hf];grind
noncomputable def Dm (p:Int) (g f:Nat→Int):Prop:=∃ S:List Int,∀ k,p∣f k - cvL S g k
theorem Gen.dm {r o:Nat→Int} {g:List Int} (G:Gen r o g) {p:Nat} (hp:Pr p) {f:Nat→Int} (m:MQ (co g) f):Dm (p:Int) (co g) f:=by
  obtain ⟨c,A,hc,hA⟩:=G.loc hp m
  have cop:Int.gcd c (p:Int)=1:=by
    have:=hp.cop (a:=c.natAbs) fun z=>hc (Int.natAbs_dvd_natAbs.mp (by rw [Int.natAbs_natCast];exact z))
    exact this
  obtain ⟨x,y,hxy⟩:∃ x y:Int,x*c+y*(p:Int)=1:=by
    obtain ⟨x,y,h⟩:=qsn c (p:Int)
    exact ⟨x,y,by rw [h,cop];rfl⟩
  refine ⟨A.map (x*·),fun k=>⟨f k*y,?_⟩⟩
  rw [qar,← hA k]
  grind
theorem Dm.less {p:Int} {g f h:Nat→Int} (m:Dm p g f) (m':Dm p g h) (a w:Int) (s:Nat):Dm p g (fun k=>a*f k - w*upS s h k):=by
  obtain ⟨S,hS⟩:=m
  obtain ⟨S',hS'⟩:=m'
  refine ⟨qa4 (S.map (a*·)) (List.replicate s 0++S'.map (-w*·)),fun k=>?_⟩
  show p∣a*f k - w*upS s h k - _
  rw [qav,qar,qcw]
  unfold upS
  obtain ⟨x,hx⟩:=hS k
  by_cases hs:s≤k
  · rw [if_pos hs,if_pos hs,qar]
    obtain ⟨y,hy⟩:=hS' (k - s)
    exact ⟨a*x - w*y,by grind⟩
  · rw [if_neg hs,if_neg hs]
    exact ⟨a*x,by grind⟩
theorem Dm.congr {p:Int} {g f h:Nat→Int} (m:Dm p g f) (e:∀ k,p∣h k - f k):Dm p g h:=by
  obtain ⟨S,hS⟩:=m
  exact ⟨S,fun k=>by have:=Int.dvd_add (e k) (hS k);rwa [show ∀ x y z:Int,x - y+(y - z)=x - z by intro x y z;omega] at this⟩
theorem Dm.zero (p:Int) (g:Nat→Int) {f:Nat→Int} (h:∀ k,p∣f k):Dm p g f:=⟨[],fun k=>by rw [qaB];simpa using h k⟩
theorem Gen.lead {r o:Nat→Int} {g R:List Int} (G:Gen r o g) {p:Nat} (hp:Pr p) (lR:Lz R) (m:MQ (co g) (co R)) (h:¬ (p:Int)∣co R (R.length - 1)):¬ (p:Int)∣co g (g.length - 1):=by
  intro hd
  obtain ⟨n,n0,n1⟩:=G.prim hp.two
  obtain ⟨c,A,hc,hA⟩:=G.loc hp m
  have nl:n+1<g.length:=by
    rcases Nat.lt_or_ge n g.length with z | z
    · rcases Nat.lt_or_ge (n+1) g.length with y | y
      · exact y
      · exact absurd hd (by rw [show g.length - 1=n by omega];exact n0)
    · exact absurd (by rw [qat z];exact Int.dvd_zero _) n0
  rcases qgE A with z | ⟨B,lB,_,eB⟩
  · have:c*co R (R.length - 1)=0:=by
      rw [hA,qba,qbN g z]
    rcases Int.mul_eq_zero.mp this with e | e
    · exact hc (by rw [e];exact Int.dvd_zero _)
    · exact lR.2 e
  · have hB:∀ k,c*co R k=cvL B (co g) k:=fun k=>by rw [hA,qba,qai (fun j=>(eB j).symm) g k,← qba]
    have bl:B.length+g.length≤R.length+1:=by
      rcases Nat.lt_or_ge (R.length+1) (B.length+g.length) with z | z
      · exfalso
        have b0:=lB.1
        have g0:=G.lz.1
        have e:=hB (B.length - 1+(g.length - 1))
        rw [qat (by omega)] at e
        have ne:B≠[]:=fun z=>by rw [z] at b0;simp at b0
        obtain ⟨T,t,hT⟩:∃ T t,B=T++[t]:=⟨B.dropLast,B.getLast ne,(List.dropLast_concat_getLast ne).symm⟩
        have tl:T.length=B.length - 1:=by rw [hT];simp
        have tc:co B (B.length - 1)=t:=by rw [← tl,hT];unfold co;simp [List.getD_eq_getElem?_getD]
        rw [hT,qbo,← hT,qb4 (n:=g.length) (fun i hi=>qat hi) T _ (by omega)] at e
        unfold upS at e
        rw [if_pos (by omega),show B.length - 1+(g.length - 1) - T.length=g.length - 1 by omega] at e
        have e2:t*co g (g.length - 1)=0:=by omega
        rcases Int.mul_eq_zero.mp e2 with x | x
        · exact lB.2 (tc.trans x)
        · exact G.lz.2 x
      · exact z
    have hh:=qin n1 B (R.length - 1) (by omega)
    rw [← hB] at hh
    rcases hp.mulI hh with x | x
    · exact hc x
    · exact h x
theorem Dm.len {p:Nat} (hp:Pr p) {g f:List Int} (lg:0<g.length) (hl:¬ (p:Int)∣co g (g.length - 1)) (d:Dm (p:Int) (co g) (co f)) (h0:∃ k,¬ (p:Int)∣co f k):g.length≤f.length:=by
  rcases Nat.lt_or_ge f.length g.length with z | z
  · exfalso
    obtain ⟨S,hS⟩:=d
    have sS:=qeZ hp hl (fun i hi=>by rw [qat (by omega)];exact Int.dvd_zero _) S fun k hk=>by
      have:=hS k
      rw [qat (by omega)] at this
      have e:=Int.dvd_neg.mpr this
      rwa [show ∀ x:Int,-(0 - x)=x by intro x;omega] at e
    obtain ⟨k,hk⟩:=h0
    apply hk
    have c:∀ (S:List Int),(∀ s∈S,(p:Int)∣s)→∀ k,(p:Int)∣cvL S (co g) k:=by
      intro S
      induction S with
      | nil=>intro _ k;exact Int.dvd_zero _
      | cons x S ih=>
        intro h k
        rw [qcR]
        refine Int.dvd_add (Int.dvd_mul_of_dvd_left (h x (List.mem_cons_self ..))) ?_
        cases k with
        | zero=>exact Int.dvd_zero _
        | succ k=>exact ih (fun s hs=>h s (List.mem_cons_of_mem _ hs)) k
    have:=Int.dvd_add (hS k) (c S sS k)
    rwa [Int.sub_add_cancel] at this
  · exact z
structure RC (r o:Nat→Int) (g:List Int):Prop where
  lz:Lz g
  left:MQ (co g) r
  right:MQ (co g) o
  qi:QI r o (co g)
theorem Gen.rc {R O g:List Int} (G:Gen (co R) (co O) g):RC (co R) (co O) g:=
  ⟨G.lz,G.mq _ R (Nat.le_refl _) (QI.left _ _),G.mq _ O (Nat.le_refl _) (QI.right _ _),G.qi⟩
theorem qmB {r o:Nat→Int} {g h:List Int} (G:RC r o g) (lh:Lz h) (m1:MQ (co h) r) (m2:MQ (co h) o) (hl:g.length≤h.length):RC r o h:=by
  refine ⟨lh,m1,m2,G.qi.of_MQ ?_⟩
  obtain ⟨d,d0,T,hT⟩:=MQ.of_QI m1 m2 G.qi
  rcases qgE T with z | ⟨B,lB,_,eB⟩
  · exfalso
    have:d*co g (g.length - 1)=0:=by rw [hT,qba,qbN h z]
    rcases Int.mul_eq_zero.mp this with e | e
    · exact d0 e
    · exact G.lz.2 e
  · have hB:∀ k,d*co g k=cvL B (co h) k:=fun k=>by rw [hT,qba,qai (fun j=>(eB j).symm) h k,← qba]
    have b0:=lB.1
    have g0:=lh.1
    have ne:B≠[]:=fun z=>by rw [z] at b0;simp at b0
    obtain ⟨X,t,hX⟩:∃ X t,B=X++[t]:=⟨B.dropLast,B.getLast ne,(List.dropLast_concat_getLast ne).symm⟩
    have tl:X.length=B.length - 1:=by rw [hX];simp
    have tc:co B (B.length - 1)=t:=by rw [← tl,hX];unfold co;simp [List.getD_eq_getElem?_getD]
    have one:B.length=1:=by
      rcases Nat.lt_or_ge 1 B.length with y | y
      · exfalso
        have e:=hB (B.length - 1+(h.length - 1))
        rw [qat (by omega),hX,qbo,← hX,qb4 (n:=h.length) (fun i hi=>qat hi) X _ (by omega)] at e
        unfold upS at e
        rw [if_pos (by omega),show B.length - 1+(h.length - 1) - X.length=h.length - 1 by omega] at e
        have e2:t*co h (h.length - 1)=0:=by omega
        rcases Int.mul_eq_zero.mp e2 with x | x
        · exact lB.2 (tc.trans x)
        · exact lh.2 x
      · omega
    have X0:X=[]:=List.length_eq_zero_iff.mp (by omega)
    have t0:t≠0:=fun z=>lB.2 (tc.trans z)
    refine ⟨t,t0,[d],fun k=>?_⟩
    have e:=hB k
    rw [hX,X0] at e
    cases k with
    | zero=>rw [qam];rw [show ([]++[t]:List Int)=[t] from rfl,qam] at e;omega
    | succ k=>rw [qaj,qaB];rw [show ([]++[t]:List Int)=[t] from rfl,qaj,qaB] at e;omega
end Bs
namespace Bs
noncomputable def Prim (g:List Int):Prop:=∀ c:Int,(∀ k,c∣co g k)→c.natAbs=1
theorem Prim.top {g:List Int} (P:Prim g) {p:Nat} (hp:2≤p):∃ n,¬ (p:Int)∣co g n∧∀ i,n<i→(p:Int)∣co g i:=by
  have key:∀ n,(∀ i,n≤i→(p:Int)∣co g i)→(∀ i,(p:Int)∣co g i)∨∃ n,¬ (p:Int)∣co g n∧∀ i,n<i→(p:Int)∣co g i:=by
    intro n
    induction n with
    | zero=>intro h;exact .inl fun i=>h i (Nat.zero_le i)
    | succ n ih=>
      intro h
      by_cases hd:(p:Int)∣co g n
      · exact ih fun i hi=>by
          by_cases e:i=n
          · rw [e];exact hd
          · exact h i (by omega)
      · exact .inr ⟨n,hd,fun i hi=>h i (by omega)⟩
  rcases key g.length (fun i hi=>by rw [qat hi];exact Int.dvd_zero _) with h | h
  · have:=P (p:Int) h
    omega
  · exact h
theorem gauss {g:List Int} (P:Prim g) {f:Nat→Int} (m:MQ (co g) f):∃ A:List Int,∀ k,f k=cvL A (co g) k:=by
  obtain ⟨c,c0,A,hA⟩:=m
  have key:∀ (m:Nat) (c:Int) (A:List Int),c.natAbs≤m→c≠0→(∀ k,c*f k=cvL A (co g) k)→∃ A:List Int,∀ k,f k=cvL A (co g) k:=by
    intro m
    induction m with
    | zero=>intro c A h h0;omega
    | succ m ih=>
      intro c A h h0 hA
      by_cases h1:c.natAbs=1
      · rcases Int.natAbs_eq c with e | e
        · exact ⟨A,fun k=>by rw [← hA k,e,h1];omega⟩
        · exact ⟨A.map (-1*·),fun k=>by rw [qar,← hA k,e,h1];omega⟩
      · obtain ⟨p,hp,pd,_⟩:=qjk (m:=c.natAbs) (by omega)
        have hd:(p:Int)∣c:=Int.natAbs_dvd_natAbs.mp (by rw [Int.natAbs_natCast];exact pd)
        obtain ⟨n,n0,n1⟩:=P.top hp.two
        have dA:∀ a∈A,(p:Int)∣a:=qeZ hp n0 n1 A fun k _=>by rw [← hA k];exact Int.dvd_mul_of_dvd_left hd
        obtain ⟨c',rfl⟩:=hd
        have p2:=hp.two
        have c0':c'≠0:=fun z=>h0 (by rw [z];omega)
        have eA:A=(A.map (· / (p:Int))).map ((p:Int)*·):=by
          rw [List.map_map]
          conv=>lhs;rw [← List.map_id A]
          refine List.map_congr_left fun a ha=>?_
          show a=(p:Int)*(a / (p:Int))
          rw [Int.mul_ediv_cancel' (dA a ha)]
        refine ih c' (A.map (· / (p:Int))) ?_ c0' fun k=>?_
        · rw [Int.natAbs_mul,Int.natAbs_natCast] at h
          have pos:0<c'.natAbs:=by omega
          have:=Nat.mul_le_mul_right c'.natAbs p2
          omega
        · have e:=hA k
          rw [eA,qar,Int.mul_assoc] at e
          exact Int.eq_of_mul_eq_mul_left (by omega) e
  exact key _ c A (Nat.le_refl _) c0 hA
noncomputable def evI:List Int→Int→Int
  | [],_=>0
  | a::l,x=>a+x*evI l x
theorem qgc:∀ (l:List Int) (x:Int),(∀ k,co l k=0)→evI l x=0
  | [],_,_=>rfl
  | a::l,x,h=>by
    have h0:a=0:=h 0
    show a+x*evI l x=0
    rw [h0,qgc l x fun k=>h (k+1)];omega
theorem qgF:∀ (a b:List Int) (x:Int),(∀ k,co a k=co b k)→evI a x=evI b x
  | [],b,x,h=>(qgc b x fun k=>(h k).symm).symm
  | a::l,[],x,h=>qgc (a::l) x h
  | a::l,b::m,x,h=>by
    have h0:a=b:=h 0
    show a+x*evI l x=b+x*evI m x
    rw [h0,qgF l m x fun k=>h (k+1)]
theorem qmC:∀ (a b:List Int) (x:Int),evI (qa4 a b) x=evI a x+evI b x
  | [],b,x=>by show evI b x=0+evI b x;omega
  | a::l,[],x=>by rw [qgD];show _=_+0;omega
  | a::l,b::m,x=>by
    show (a+b)+x*evI (qa4 l m) x=a+x*evI l x+(b+x*evI m x)
    rw [qmC l m x];grind
theorem qkG (c:Int):∀ (a:List Int) (x:Int),evI (a.map (c*·)) x=c*evI a x
  | [],x=>by show (0:Int)=c*0;omega
  | a::l,x=>by
    show c*a+x*evI (l.map (c*·)) x=c*(a+x*evI l x)
    rw [qkG c l x];grind
theorem qmD:∀ (a b:List Int) (x:Int),evI (qaS a b) x=evI a x*evI b x
  | [],b,x=>by show (0:Int)=0*_;omega
  | a::l,b,x=>by
    show evI (qa4 (b.map (a*·)) (0::qaS l b)) x=(a+x*evI l x)*evI b x
    rw [qmC,qkG]
    show a*evI b x+(0+x*evI (qaS l b) x)=_
    rw [qmD l b x];grind
theorem qmE (a b:List Int) (k:Nat):co (qaS a b) k=cvL a (co b) k:=by
  rw [qb6,qap]
  exact qai (fun j=>(qb6 b j).symm) a k
theorem qn1 {r a g:List Int} (h:∀ k,co r k=cvL a (co g) k) (x:Int):evI r x=evI a x*evI g x:=by
  rw [← qmD]
  exact qgF r (qaS a g) x fun k=>by rw [qmE];exact h k
theorem qoJ {b c:Nat} {x:Int} (hx:Bd c x):∀ (l:List Int),(∀ z∈l,Bd b z)→Bd (b+l.length*(c+1)) (evI l x)
  | [],_=>qdp _
  | a::l,hb=>by
    show Bd _ (a+x*evI l x)
    have h1:=hb a (List.mem_cons_self ..)
    have h2:=hx.mul (qoJ hx l fun z hz=>hb z (List.mem_cons_of_mem _ hz))
    have e:(l.length+1)*(c+1)=l.length*(c+1)+(c+1):=by rw [Nat.add_mul,Nat.one_mul]
    refine ((h1.mono (n:=c+(b+l.length*(c+1))) (by omega)).add h2).mono ?_
    rw [List.length_cons,e];omega
noncomputable def syn:List Int→Int→List Int
  | [],_=>[]
  | _::l,t=>evI l t::syn l t
theorem qio:∀ (l:List Int) (t:Int),(syn l t).length=l.length
  | [],_=>rfl
  | _::l,t=>congrArg (·+1) (qio l t)
theorem qmF:∀ (l:List Int) (t x:Int),evI l x - evI l t=(x - t)*evI (syn l t) x
  | [],t,x=>by show (0:Int) - 0=_*0;omega
  | a::l,t,x=>by
    show a+x*evI l x - (a+t*evI l t)=(x - t)*(evI l t+x*evI (syn l t) x)
    have:=qmF l t x
    grind
theorem qkH:∀ (l:List Int) (t:Int) (k:Nat),co l k=(if k=0 then evI l t else co (syn l t) (k - 1)) - t*co (syn l t) k
  | [],t,k=>by
    rw [show co (syn [] t) k=0 from qat (Nat.zero_le _),show co (syn [] t) (k - 1)=0 from qat (Nat.zero_le _),qat (Nat.zero_le _)]
    show 0=(if k=0 then 0 else 0) - _
    split <;> omega
  | a::l,t,0=>by
    show a=a+t*evI l t - t*evI l t
    omega
  | a::l,t,k+1=>by
    have:=qkH l t k
    show co l k=(if k+1=0 then _ else co (evI l t::syn l t) (k+1 - 1)) - t*co (syn l t) k
    rw [if_neg (by omega),this]
    cases k with
    | zero=>rfl
    | succ k=>rw [if_neg (by omega)];rfl
theorem qn2 (l:List Int) (t:Int):co (syn l t) (l.length - 1)=0:=by
  induction l with
  | nil=>exact qat (Nat.zero_le _)
  | cons a l ih=>
    show co (evI l t::syn l t) l.length=0
    cases h:l.length with
    | zero=>rw [List.length_eq_zero_iff.mp h];rfl
    | succ m=>rw [h] at ih;exact ih
theorem interp {c:Nat}:∀ (d:Nat) (l:List Int) (y:Nat) (x:Nat→Int),(∀ k,d<k→co l k=0)→(∀ i,i≤d→Bd c (x i))→(∀ i j,i≤d→j≤d→i≠j→x i≠x j)→(∀ i,i≤d→Bd y (evI l (x i)))→∀ k,Bd (y+d*(c+3)) (co l k)
  | 0,l,y,x,h1,_,_,h4,k=>by
    cases k with
    | zero=>
      have e:evI l (x 0)=co l 0:=by
        cases l with
        | nil=>rfl
        | cons a l=>
          show a+x 0*evI l (x 0)=a
          rw [qgc l (x 0) fun k=>h1 (k+1) (by omega)];omega
      have:=h4 0 (Nat.le_refl 0)
      rw [e] at this
      exact this.mono (by omega)
    | succ k=>rw [h1 (k+1) (by omega)];exact qdp _
  | d+1,l,y,x,h1,h2,h3,h4,k=>by
    have hs:∀ j,d<j→co (syn l (x (d+1))) j=0:=by
      have step:∀ n,∀ j,d<j→l.length≤j+n→co (syn l (x (d+1))) j=0:=by
        intro n
        induction n with
        | zero=>intro j _ h;exact qat (by rw [qio];omega)
        | succ n ih=>
          intro j hj h
          have e:=qkH l (x (d+1)) (j+1)
          rw [h1 (j+1) (by omega),if_neg (by omega),ih (j+1) (by omega) (by omega)] at e
          rw [show j+1 - 1=j by omega] at e
          omega
      intro j hj
      exact step l.length j hj (by omega)
    have ih:=interp d (syn l (x (d+1))) (y+1) x hs (fun i hi=>h2 i (by omega)) (fun i j hi hj=>h3 i j (by omega) (by omega)) (fun i hi=>by
      have e:=qmF l (x (d+1)) (x i)
      have ne:x i - x (d+1)≠0:=fun z=>h3 i (d+1) (by omega) (by omega) (by omega) (by omega)
      have b:=(h4 i (by omega)).sub (h4 (d+1) (by omega))
      rw [e] at b
      refine b.le ?_
      rw [Int.natAbs_mul]
      exact Nat.le_mul_of_pos_left _ (by omega))
    have e:=qkH l (x (d+1)) k
    rw [e]
    have hx:=h2 (d+1) (Nat.le_refl _)
    have b2:=hx.mul (ih k)
    have em:(d+1)*(c+3)=d*(c+3)+(c+3):=by rw [Nat.add_mul,Nat.one_mul]
    have b1:Bd (c+(y+1+d*(c+3))) (if k=0 then evI l (x (d+1)) else co (syn l (x (d+1))) (k - 1)):=by
      split
      · exact (h4 (d+1) (Nat.le_refl _)).mono (by omega)
      · exact (ih (k - 1)).mono (by omega)
    exact (b1.sub b2).mono (by omega)
end Bs
namespace Bs
open PySem L2
noncomputable def isN (H:Hp) (v:V) (q:Nu):Prop:=∃ p,v=.ref p∧H p=some (.tup [.int q.1,.int q.2])
noncomputable def Nums (H:Hp):List V→List Nu→Prop
  | [],[]=>True
  | x::xs,q::l=>isN H x q∧Nums H xs l
  | _,_=>False
noncomputable def Tp (H H':Hp):Prop:=∀ b xs,H b=some (.tup xs)→H' b=some (.tup xs)
theorem tpS {H H':Hp} (s:Same H H'):Tp H H':=fun b xs h=>s b _ h
theorem Tp.trans {H H1 H2:Hp} (a:Tp H H1) (b:Tp H1 H2):Tp H H2:=fun c xs h=>b c xs (a c xs h)
theorem Kp.tp {p:Addr} {H H':Hp} {xs:List V} (k:Kp p H H') (h:H p=some (.lst xs)):Tp H H':=fun b ys q=>k b _ (qrw q h (by intro z;cases z)) q
theorem isN.tp {H H':Hp} {v:V} {q:Nu} (h:isN H v q) (t:Tp H H'):isN H' v q:=let ⟨p,e,z⟩:=h;⟨p,e,t _ _ z⟩
theorem Nums.tp {H H':Hp} (t:Tp H H'):∀ {xs:List V} {l:List Nu},Nums H xs l→Nums H' xs l
  | [],[],_=>trivial
  | _::_,_::_,h=>⟨h.1.tp t,Nums.tp t h.2⟩
  | [],_::_,h=>h.elim
  | _::_,[],h=>h.elim
theorem Nums.length {H:Hp}:∀ {xs:List V} {l:List Nu},Nums H xs l→xs.length=l.length
  | [],[],_=>rfl
  | _::_,_::_,h=>congrArg (·+1) (Nums.length h.2)
  | [],_::_,h=>h.elim
  | _::_,[],h=>h.elim
theorem Nums.get {H:Hp}:∀ {xs:List V} {l:List Nu} {i:Nat} {v:V},Nums H xs l→xs[i]?=some v→∃ q,l[i]?=some q∧isN H v q
  | [],[],_,_,_,e=>by simp at e
  | _::_,q::_,0,_,h,e=>by simp at e;subst e;exact ⟨q,rfl,h.1⟩
  | _::_,_::_,i+1,_,h,e=>by
    obtain ⟨q,h1,h2⟩:=Nums.get (i:=i) h.2 (by simpa using e)
    exact ⟨q,by simpa using h1,h2⟩
  | [],_::_,_,_,h,_=>h.elim
  | _::_,[],_,_,h,_=>h.elim
theorem Nums.at {H:Hp} {xs:List V} {l:List Nu} {i:Nat} (h:Nums H xs l) (hi:i<l.length) (d:Nu):∃ v,xs[i]?=some v∧isN H v (l.getD i d):=by
  have hx:i<xs.length:=by rw [h.length];exact hi
  obtain ⟨q,h1,h2⟩:=h.get (List.getElem?_eq_getElem hx)
  refine ⟨_,List.getElem?_eq_getElem hx,?_⟩
  rw [List.getD_eq_getElem?_getD,h1]
  exact h2
theorem Nums.append {H:Hp}:∀ {xs ys:List V} {l m:List Nu},Nums H xs l→Nums H ys m→Nums H (xs++ys) (l++m)
  | [],_,[],_,_,h=>h
  | _::_,_,_::_,_,h,h2=>⟨h.1,Nums.append h.2 h2⟩
  | [],_,_::_,_,h,_=>h.elim
  | _::_,_,[],_,h,_=>h.elim
theorem Nums.one {H:Hp} {v:V} {q:Nu} (h:isN H v q):Nums H [v] [q]:=⟨h,trivial⟩
theorem Nums.take {H:Hp}:∀ {xs:List V} {l:List Nu} (n:Nat),Nums H xs l→Nums H (xs.take n) (l.take n)
  | [],[],n,_=>by simp [Nums]
  | _::_,_::_,0,_=>trivial
  | _::_,_::_,n+1,h=>⟨h.1,Nums.take n h.2⟩
  | [],_::_,_,h=>h.elim
  | _::_,[],_,h=>h.elim
theorem Nums.set {H:Hp} {v:V} {q:Nu} (hv:isN H v q):∀ {xs:List V} {l:List Nu} (i:Nat),Nums H xs l→Nums H (xs.set i v) (l.set i q)
  | [],[],_,_=>trivial
  | _::_,_::_,0,h=>⟨hv,h.2⟩
  | _::_,_::_,i+1,h=>⟨h.1,Nums.set hv i h.2⟩
  | [],_::_,_,h=>h.elim
  | _::_,[],_,h=>h.elim
theorem Nums.rep {H:Hp} {v:V} {q:Nu} (hv:isN H v q):∀ n:Nat,Nums H (List.replicate n v) (List.replicate n q)
  | 0=>trivial
  | n+1=>⟨hv,Nums.rep hv n⟩
theorem qdt {α:Type} (v:α):∀ n:Nat,(List.replicate n [v]).flatten=List.replicate n v
  | 0=>rfl
  | n+1=>by rw [List.replicate_succ,List.flatten_cons,qdt v n];rfl
theorem qdB {α:Type} {xs:List α} {i:Int} {j:Nat} {v:α} (e:i=(j:Int)) (h:xs[j]?=some v):atI xs i=some v:=by subst e;exact qlW h
theorem qjY {H:Hp} {p:Addr} {q:Nu}:isN (upd H p (.tup [.int q.1,.int q.2])) (.ref p) q:=⟨p,rfl,upd_same⟩
theorem qgG {xs:List V} {m:Nat} (h:m≤xs.length):qgn xs none (some (m:Int))=xs.take m:=by
  unfold qgn HT.sIx
  simp only [List.drop_zero,Nat.sub_zero,Int.toNat_natCast]
  rw [if_neg (by omega),Nat.min_eq_left h]
noncomputable def qpY (H:Hp) (Q:VK) (l:List Nu):Prop:=∀ (r:Addr) (zs:List V) (H':Hp),Same H H'→H' r=some (.tup zs)→Nums H' zs l→Q (.ref r) H'
noncomputable def qoK (q:Nu):PySem.W.Dat:=.tuple [.int q.1,.int q.2]
noncomputable def qln (l:List Nu):PySem.W.Dat:=.tuple (l.map qoK)
theorem qso {H:Hp} {v:V} {q:Nu} (h:isN H v q):RepD H v (qoK q):=by
  obtain ⟨p,rfl,hp⟩:=h
  exact .tup hp (.cons (.int _) (.cons (.int _) .nil))
theorem qqT {H:Hp}:∀ {xs:List V} {l:List Nu},Nums H xs l→RepA H xs (l.map qoK)
  | [],[],_=>.nil
  | _::_,_::_,h=>.cons (qso h.1) (qqT h.2)
  | [],_::_,h=>h.elim
  | _::_,[],h=>h.elim
theorem qpZ {H:Hp} {p:Addr} {xs:List V} {l:List Nu} (hp:H p=some (.tup xs)) (h:Nums H xs l):RepD H (.ref p) (qln l):=.tup hp (qqT h)
theorem okN (q:Nu) (n:Nat):PySem.W.kqdOk (n+1) (qoK q)=true:=by simp [qoK,PySem.W.kqdOk]
theorem okP (l:List Nu) (n:Nat):PySem.W.kqdOk (n+2) (qln l)=true:=by
  simp only [qln,PySem.W.kqdOk,List.all_map,List.all_eq_true,Function.comp]
  intro q _
  exact okN q n
end Bs
set_option maxHeartbeats 4000000
namespace Bs
open PySem L2
theorem qkI {g:Nat→Rat} {n:Nat} (h:∀ i,n<i→g i=0):∀ (a:List Rat) (k:Nat),a.length+n≤k→cvL a g k=0
  | [],_,_=>rfl
  | x::a,0,hk=>absurd hk (by rw [List.length_cons];omega)
  | x::a,k+1,hk=>by
    rw [List.length_cons] at hk
    rw [qaj,h (k+1) (by omega),qkI h a k (by omega)];grind
theorem qjZ {g:Nat→Rat} {n:Nat} (h0:g n≠0) (h:∀ i,n<i→g i=0) (S:List Rat):(∀ k,n≤k→cvL S g k=0)→∀ s∈S,s=0:=by
  induction hl:S.length generalizing S with
  | zero=>intro _ s hs;rw [List.length_eq_zero_iff.mp hl] at hs;exact nomatch hs
  | succ m ih=>
    intro hk
    have ne:S≠[]:=fun z=>by rw [z] at hl;simp at hl
    obtain ⟨T,t,rfl⟩:∃ T t,S=T++[t]:=⟨S.dropLast,S.getLast ne,(List.dropLast_concat_getLast ne).symm⟩
    have ht:t=0:=by
      have a:=hk (T.length+n) (by omega)
      rw [qbo,qkI h T _ (Nat.le_refl _)] at a
      unfold upS at a
      rw [if_pos (by omega),show T.length+n - T.length=n by omega] at a
      have a':t*g n=0:=by grind
      rcases Rat.mul_eq_zero.mp a' with z | z
      · exact z
      · exact absurd z h0
    have hT2:=ih T (by simpa using hl) (fun k hk2=>by
      have a:=hk k hk2
      rw [qbo,ht] at a
      grind)
    intro s hs
    rcases List.mem_append.mp hs with h | h
    · exact hT2 s h
    · rw [List.mem_singleton.mp h];exact ht
theorem qgd {g:Nat→Rat}:∀ (S:List Rat),(∀ s∈S,s=0)→∀ k,cvL S g k=0
  | [],_,_=>rfl
  | x::S,h,0=>by rw [qam,h x (List.mem_cons_self ..)];grind
  | x::S,h,k+1=>by rw [qaj,h x (List.mem_cons_self ..),qgd S (fun s hs=>h s (List.mem_cons_of_mem _ hs)) k];grind
theorem qpl {G:Nat→Rat} {n:Nat} (h0:G n≠0) (hG:∀ i,n<i→G i=0) {A B:List Rat} (h:∀ k,cvL A G k=cvL B G k) (g:Nat→Rat) (k:Nat):cvL A g k=cvL B g k:=by
  have z:=qgd (g:=g) (qa4 A (B.map ((-1:Rat)*·))) (qjZ h0 hG _ fun k _=>by rw [qav,qar,h k];grind) k
  rw [qav,qar] at z
  grind
end Bs
namespace Bs
open PySem L2
structure Sr where
  c:Nat→Rat
theorem Sr.ext' {f g:Sr} (h:∀ k,f.c k=g.c k):f=g:=by
  cases f;cases g;congr;exact funext h
noncomputable def tr (n:Nat) (f:Nat→Rat):List Rat:=(List.range n).map f
theorem qfQ (n:Nat) (f:Nat→Rat) (k:Nat):(tr n f).getD k 0=if k<n then f k else 0:=by
  unfold tr
  rw [List.getD_eq_getElem?_getD,List.getElem?_map]
  by_cases h:k<n
  · rw [List.getElem?_range h,if_pos h];rfl
  · rw [if_neg h,List.getElem?_eq_none (by rw [List.length_range];omega)];rfl
theorem qd7:∀ (a b:List Rat) (g h:Nat→Rat) (k:Nat),(∀ i,i≤k→a.getD i 0=b.getD i 0)→(∀ i,i≤k→g i=h i)→cvL a g k=cvL b h k:=by
  intro a
  induction a with
  | nil=>
    intro b
    induction b with
    | nil=>intro g h k _ _;rfl
    | cons y b ih=>
      intro g h k ab gh
      have y0:=ab 0 (Nat.zero_le _)
      simp at y0
      cases k with
      | zero=>rw [qaB,qam,← y0];grind
      | succ k=>
        rw [qaB,qaj,← y0]
        have:=ih g h k (fun i hi=>by have:=ab (i+1) (by omega);simpa using this) (fun i hi=>gh i (by omega))
        rw [qaB] at this
        grind
  | cons x a ih=>
    intro b g h k ab gh
    cases b with
    | nil=>
      have x0:=ab 0 (Nat.zero_le _)
      simp at x0
      cases k with
      | zero=>rw [qaB,qam,x0];grind
      | succ k=>
        rw [qaB,qaj,x0]
        have:=ih [] g h k (fun i hi=>by have:=ab (i+1) (by omega);simpa using this) (fun i hi=>gh i (by omega))
        rw [qaB] at this
        grind
    | cons y b=>
      have x0:=ab 0 (Nat.zero_le _)
      simp at x0
      cases k with
      | zero=>rw [qam,qam,x0,gh 0 (Nat.le_refl _)]
      | succ k=>
        rw [qaj,qaj,x0,gh _ (Nat.le_refl _),ih b g h k (fun i hi=>by have:=ab (i+1) (by omega);simpa using this) (fun i hi=>gh i (by omega))]
namespace Sr
noncomputable def zero:Sr:=⟨fun _=>0⟩
noncomputable def one:Sr:=⟨qbG⟩
noncomputable def add (f g:Sr):Sr:=⟨fun k=>f.c k+g.c k⟩
noncomputable def neg (f:Sr):Sr:=⟨fun k=>- f.c k⟩
noncomputable def mul (f g:Sr):Sr:=⟨fun k=>cvL (tr (k+1) f.c) g.c k⟩
noncomputable def num (x:Rat):Sr:=⟨fun k=>x*qbG k⟩
theorem qkJ (f g:Sr) {n k:Nat} (h:k<n):(mul f g).c k=cvL (tr n f.c) g.c k:=by
  refine qd7 _ _ _ _ _ (fun i hi=>?_) (fun _ _=>rfl)
  rw [qfQ,qfQ,if_pos (by omega),if_pos (by omega)]
theorem qj0 (f g:Sr) {n m k:Nat} (h:k<n) (h':k<m):(mul f g).c k=cvL (tr n f.c) (cvL (tr m g.c) qbG) k:=by
  rw [qkJ f g h]
  refine qd7 _ _ _ _ _ (fun _ _=>rfl) (fun i hi=>?_)
  rw [qbW,qfQ,if_pos (by omega)]
theorem mul_comm (f g:Sr):mul f g=mul g f:=ext' fun k=>by
  rw [qj0 f g (Nat.lt_succ_self k) (Nat.lt_succ_self k),qj0 g f (Nat.lt_succ_self k) (Nat.lt_succ_self k),qdr]
theorem mul_assoc (f g h:Sr):mul (mul f g) h=mul f (mul g h):=ext' fun k=>by
  rw [qkJ (mul f g) h (Nat.lt_succ_self k),qkJ f (mul g h) (Nat.lt_succ_self k)]
  have e1:cvL (tr (k+1) (mul f g).c) h.c k=cvL (qaS (tr (k+1) f.c) (tr (k+1) g.c)) h.c k:=by
    refine qd7 _ _ _ _ _ (fun i hi=>?_) (fun _ _=>rfl)
    rw [qfQ,if_pos (by omega),← qbW,qap,qj0 f g (n:=k+1) (m:=k+1) (by omega) (by omega)]
  rw [e1,qap]
  exact qd7 _ _ _ _ _ (fun _ _=>rfl) (fun i hi=>(qkJ g h (by omega)).symm)
theorem mul_add (f g h:Sr):mul f (add g h)=add (mul f g) (mul f h):=ext' fun k=>by
  show cvL (tr (k+1) f.c) (fun k=>g.c k+h.c k) k=_
  rw [qd6];rfl
theorem mul_one (f:Sr):mul f one=f:=ext' fun k=>by
  show cvL (tr (k+1) f.c) qbG k=_
  rw [qbW,qfQ,if_pos (Nat.lt_succ_self k)]
theorem mul_zero (f:Sr):mul f zero=zero:=ext' fun k=>by
  show cvL (tr (k+1) f.c) (fun _=>0) k=0
  have:=qa8 (0:Rat) (fun _=>0) (tr (k+1) f.c) k
  rw [show (fun k:Nat=>(0:Rat)*(fun _=>(0:Rat)) k)=fun _=>0 from funext fun _=>by grind] at this
  rw [this];grind
noncomputable def npow (f:Sr):Nat→Sr
  | 0=>one
  | n+1=>mul (npow f n) f
noncomputable instance:Add Sr:=⟨add⟩
noncomputable instance:Mul Sr:=⟨mul⟩
noncomputable instance:Neg Sr:=⟨neg⟩
noncomputable instance:Sub Sr:=⟨fun f g=>add f (neg g)⟩
noncomputable instance:NatCast Sr:=⟨fun n=>num (n:Rat)⟩
noncomputable instance:IntCast Sr:=⟨fun n=>num (n:Rat)⟩
noncomputable instance (n:Nat):OfNat Sr n:=⟨num (n:Rat)⟩
noncomputable instance:Pow Sr Nat:=⟨npow⟩
noncomputable instance:SMul Nat Sr:=⟨fun n f=>mul (num (n:Rat)) f⟩
noncomputable instance:SMul Int Sr:=⟨fun n f=>mul (num (n:Rat)) f⟩
theorem num0:num 0=zero:=ext' fun k=>by show 0*qbG k=(0:Rat);grind
theorem num1:num 1=one:=ext' fun k=>by show 1*qbG k=(qbG k:Rat);grind
theorem qmG (x y:Rat):num (x+y)=add (num x) (num y):=ext' fun k=>by show (x+y)*qbG k=x*qbG k+y*qbG k;grind
theorem qj1 (x:Rat):num (-x)=neg (num x):=ext' fun k=>by show (-x)*qbG k = -(x*qbG k);grind
theorem add_comm (f g:Sr):add f g=add g f:=ext' fun k=>by show f.c k+g.c k=g.c k+f.c k;grind
theorem add_assoc (f g h:Sr):add (add f g) h=add f (add g h):=ext' fun k=>by show f.c k+g.c k+h.c k=f.c k+(g.c k+h.c k);grind
theorem add_zero (f:Sr):add f zero=f:=ext' fun k=>by show f.c k+0=f.c k;grind
theorem qj2 (f:Sr):add (neg f) f=zero:=ext' fun k=>by show -f.c k+f.c k=0;grind
theorem add_mul (f g h:Sr):mul (add f g) h=add (mul f h) (mul g h):=by rw [mul_comm,mul_add,mul_comm h f,mul_comm h g]
theorem neg_mul (f g:Sr):mul (neg f) g=neg (mul f g):=by
  have h:add (mul (neg f) g) (mul f g)=zero:=by rw [← add_mul,qj2,mul_comm,mul_zero]
  have h2:add (neg (mul f g)) (mul f g)=zero:=qj2 _
  refine ext' fun k=>?_
  have a:=congrFun (congrArg Sr.c h) k
  have b:=congrFun (congrArg Sr.c h2) k
  have a:(mul (neg f) g).c k+(mul f g).c k=0:=a
  have b:(neg (mul f g)).c k+(mul f g).c k=0:=b
  grind
noncomputable instance:Lean.Grind.CommRing Sr where
  add_zero f:=(congrArg (add f) num0).trans (add_zero f)
  add_comm:=add_comm
  add_assoc:=add_assoc
  mul_assoc:=mul_assoc
  mul_comm:=mul_comm
  mul_one f:=(congrArg (mul f) num1).trans (mul_one f)
  one_mul f:=(congrArg (fun z=>mul z f) num1).trans ((mul_comm _ _).trans (mul_one f))
  left_distrib:=mul_add
  right_distrib:=add_mul
  zero_mul f:=by show mul (num 0) f=num 0;rw [num0,mul_comm,mul_zero]
  mul_zero f:=by show mul f (num 0)=num 0;rw [num0,mul_zero]
  pow_zero f:=num1.symm
  pow_succ f n:=rfl
  ofNat_succ n:=by
    show num ((n+1:Nat):Rat)=add (num (n:Rat)) (num 1)
    rw [← qmG];push_cast;rfl
  ofNat_eq_natCast n:=rfl
  nsmul_eq_natCast_mul n f:=rfl
  sub_eq_add_neg f g:=rfl
  neg_add_cancel f:=(qj2 f).trans num0.symm
  intCast_neg n:=by show num ((-n:Int):Rat)=neg (num (n:Rat));rw [← qj1];push_cast;rfl
  intCast_ofNat n:=rfl
  neg_zsmul n f:=by show mul (num ((-n:Int):Rat)) f=neg (mul (num (n:Rat)) f);rw [show ((-n:Int):Rat) = -(n:Rat) by push_cast;rfl,qj1,neg_mul]
  zsmul_natCast_eq_nsmul n f:=rfl
end Sr
end Bs
namespace Bs
open PySem L2
namespace Sr
noncomputable def L (a:List Rat):Sr:=⟨cvL a qbG⟩
theorem L_mul (a:List Rat) (g:Sr):L a*g=⟨cvL a g.c⟩:=ext' fun k=>by
  refine qd7 _ _ _ _ _ (fun i hi=>?_) (fun _ _=>rfl)
  rw [qfQ,if_pos (by omega)]
  exact qbW a i
noncomputable def Bn (f:Sr) (n:Nat):Prop:=∀ k,n≤k→f.c k=0
theorem Bn.row {f:Sr} {n:Nat} (h:Bn f n):L (tr n f.c)=f:=ext' fun k=>by
  show cvL (tr n f.c) qbG k=f.c k
  rw [qbW,qfQ]
  by_cases hk:k<n
  · rw [if_pos hk]
  · rw [if_neg hk,h k (by omega)]
noncomputable def Pol (f:Sr):Prop:=∃ a,f=L a
theorem Pol.L (a:List Rat):Pol (L a):=⟨a,rfl⟩
theorem Bn.pol {f:Sr} {n:Nat} (h:Bn f n):Pol f:=⟨_,h.row.symm⟩
theorem qr7 (a:List Rat):Bn (Sr.L a) a.length:=fun k hk=>by
  show cvL a qbG k=0
  rw [qbW,List.getD_eq_getElem?_getD,List.getElem?_eq_none hk];rfl
theorem Pol.bn {f:Sr} (h:Pol f):∃ n,Bn f n:=let ⟨a,e⟩:=h;⟨a.length,e ▸ qr7 a⟩
theorem Pol.add {f g:Sr} (h:Pol f) (h':Pol g):Pol (f+g):=by
  obtain ⟨a,rfl⟩:=h;obtain ⟨b,rfl⟩:=h'
  exact ⟨qa4 a b,ext' fun k=>(qav qbG a b k).symm⟩
theorem Pol.mul {f g:Sr} (h:Pol f) (h':Pol g):Pol (f*g):=by
  obtain ⟨a,rfl⟩:=h;obtain ⟨b,rfl⟩:=h'
  exact ⟨qaS a b,by rw [L_mul];exact ext' fun k=>(qap qbG a b k).symm⟩
theorem Pol.num (x:Rat):Pol (num x):=⟨[x],ext' fun k=>by
  show x*qbG k=cvL [x] qbG k
  cases k with
  | zero=>rw [qam];grind
  | succ k=>rw [qaj,qaB];grind⟩
theorem Pol.nat (n:Nat):Pol (OfNat.ofNat n:Sr):=Pol.num (n:Rat)
theorem Pol.neg {f:Sr} (h:Pol f):Pol (-f):=by
  have e:-f=Sr.num (-1)*f:=by
    have:Sr.num (-1)=(-1:Sr):=qj1 1
    rw [this];grind
  rw [e];exact (Pol.num _).mul h
theorem Pol.sub {f g:Sr} (h:Pol f) (h':Pol g):Pol (f - g):=by
  have e:f - g=f + -g:=by grind
  rw [e];exact h.add h'.neg
theorem Pol.pow {f:Sr} (h:Pol f):∀ n:Nat,Pol (f ^ n)
  | 0=>(num1 ▸ Pol.num 1:Pol one)
  | n+1=>(h.pow n).mul h
theorem top_ex {f:Sr}:∀ n,Bn f n→f=0∨∃ m,m<n∧f.c m≠0∧Bn f (m+1)
  | 0,h=>.inl (ext' fun k=>by rw [h k (Nat.zero_le _)];show 0=((0:Nat):Rat)*qbG k;push_cast;grind)
  | n+1,h=>by
    by_cases z:f.c n=0
    · rcases top_ex n (fun k hk=>by rcases Nat.eq_or_lt_of_le hk with e | e;exact e ▸ z;exact h k e) with q | ⟨m,m1,m2,m3⟩
      · exact .inl q
      · exact .inr ⟨m,by omega,m2,m3⟩
    · exact .inr ⟨n,by omega,z,h⟩
theorem zero_c (k:Nat):(0:Sr).c k=0:=by show ((0:Nat):Rat)*qbG k=0;push_cast;grind
theorem cancel {f g h:Sr} (pf:Pol f) (pg:Pol g) (ph:Pol h) (h0:h≠0) (e:f*h=g*h):f=g:=by
  obtain ⟨a,rfl⟩:=pf;obtain ⟨b,rfl⟩:=pg
  obtain ⟨n,hn⟩:=ph.bn
  rcases top_ex n hn with z | ⟨m,_,m1,m2⟩
  · exact absurd z h0
  rw [L_mul,L_mul] at e
  exact ext' fun k=>qpl m1 (fun i hi=>m2 i hi) (fun k=>congrFun (congrArg Sr.c e) k) qbG k
theorem ne_mul {f g:Sr} (pf:Pol f) (pg:Pol g) (f0:f≠0) (g0:g≠0):f*g≠0:=fun e=>f0 (cancel pf (Pol.nat 0) pg g0 (by rw [e];grind))
noncomputable def X (n:Nat):Sr:=L (List.replicate n 0++[1])
theorem qn3 (n:Nat) (g:Sr) (k:Nat):(X n*g).c k=if n≤k then g.c (k - n) else 0:=by
  unfold X
  rw [L_mul]
  show cvL (List.replicate n 0++[1]) g.c k=_
  rw [qcw]
  unfold upS
  by_cases h:n≤k
  · rw [if_pos h,if_pos h]
    cases k - n with
    | zero=>rw [qam];grind
    | succ k=>rw [qaj,qaB];grind
  · rw [if_neg h,if_neg h]
theorem num_mul (x:Rat) (g:Sr) (k:Nat):(num x*g).c k=x*g.c k:=by
  have:num x=L [x]:=ext' fun k=>by
    show x*qbG k=cvL [x] qbG k
    cases k with
    | zero=>rw [qam];grind
    | succ k=>rw [qaj,qaB];grind
  rw [this,L_mul]
  show cvL [x] g.c k=_
  cases k with
  | zero=>rw [qam];grind
  | succ k=>rw [qaj,qaB];grind
theorem qrN (f g:Sr) (k:Nat):(f - g).c k=f.c k - g.c k:=by show f.c k + - g.c k=_;grind
theorem divide {g:Sr} {m:Nat} (g0:g.c m≠0) (hg:Bn g (m+1)):∀ (n:Nat) (f:Sr),Bn f n→∃ q r,Pol q∧Bn r m∧f=q*g+r
  | 0,f,h=>⟨0,f,Pol.nat 0,fun k _=>h k (Nat.zero_le _),by grind⟩
  | n+1,f,h=>by
    by_cases c:n+1≤m
    · exact ⟨0,f,Pol.nat 0,fun k hk=>h k (by omega),by grind⟩
    · obtain ⟨q,r,pq,br,e⟩:=divide g0 hg n (f - num (f.c n*(g.c m)⁻¹)*(X (n - m)*g)) fun k hk=>by
        rw [qrN,num_mul,qn3,if_pos (by omega)]
        rcases Nat.eq_or_lt_of_le hk with z | z
        · rw [← z,show n - (n - m)=m by omega]
          have:(g.c m)⁻¹*g.c m=1:=Rat.inv_mul_cancel _ g0
          grind
        · rw [h k z,hg (k - (n - m)) (by omega)];grind
      exact ⟨q+num (f.c n*(g.c m)⁻¹)*X (n - m),r,pq.add ((Pol.num _).mul (Pol.L _)),br,by grind⟩
theorem gcd_ex:∀ (n:Nat) (S T:Sr),Pol S→Bn T n→(S≠0∨T≠0)→∃ g r e U W,Pol g∧Pol r∧Pol e∧Pol U∧Pol W∧g≠0∧S=g*r∧T=g*e∧U*r+W*e=1:=by
  intro n
  induction n using Nat.strongRecOn with
  | _ n ih=>
    intro S T pS bT h
    by_cases z:T=0
    · exact ⟨S,1,0,1,0,pS,Pol.nat 1,Pol.nat 0,Pol.nat 1,Pol.nat 0,by rcases h with h | h;exact h;exact absurd z h,by grind,by rw [z];grind,by grind⟩
    · rcases top_ex n bT with q | ⟨m,mn,m0,mb⟩
      · exact absurd q z
      obtain ⟨a,rfl⟩:=pS
      obtain ⟨q,r,pq,br,e⟩:=divide m0 mb _ _ (qr7 a)
      obtain ⟨g,r1,e1,U,W,pg,pr,pe,pU,pW,g0,h1,h2,h3⟩:=ih m mn T r bT.pol br (.inl z)
      exact ⟨g,q*r1+e1,r1,W,U - W*q,pg,(pq.mul pr).add pe,pr,pW,pU.sub (pW.mul pq),g0,by rw [e,h1,h2];grind,h1,by grind⟩
noncomputable def D (f:Sr):Sr:=⟨fun k=>((k:Rat)+1)*f.c (k+1)⟩
theorem qqU (f g:Sr):D (f+g)=D f+D g:=ext' fun k=>by show ((k:Rat)+1)*(f.c (k+1)+g.c (k+1))=((k:Rat)+1)*f.c (k+1)+((k:Rat)+1)*g.c (k+1);grind
theorem D_num (x:Rat) (g:Sr):D (num x*g)=num x*D g:=ext' fun k=>by
  rw [num_mul]
  show ((k:Rat)+1)*(num x*g).c (k+1)=x*(((k:Rat)+1)*g.c (k+1))
  rw [num_mul];grind
theorem D_X (g:Sr):D (X 1*g)=g+X 1*D g:=ext' fun k=>by
  show ((k:Rat)+1)*(X 1*g).c (k+1)=g.c k+(X 1*D g).c k
  rw [qn3,qn3,if_pos (by omega)]
  cases k with
  | zero=>rw [if_neg (by omega)];push_cast;show ((0:Nat)+1)*g.c 0=_;push_cast;grind
  | succ k=>rw [if_pos (by omega)];show (((k+1:Nat):Rat)+1)*g.c (k+1)=g.c (k+1)+((k:Rat)+1)*g.c (k+1);push_cast;grind
theorem qoL (x:Rat) (a:List Rat):L (x::a)=num x+X 1*L a:=ext' fun k=>by
  show cvL (x::a) qbG k=x*qbG k+(X 1*L a).c k
  rw [qn3,qcR]
  cases k with
  | zero=>rw [if_neg (by omega)];rfl
  | succ k=>rw [if_pos (by omega)];rfl
theorem qrO:D (L [])=0:=ext' fun k=>by show ((k:Rat)+1)*cvL [] qbG (k+1)=_;rw [qaB,zero_c];grind
theorem L_nil:L []=0:=ext' fun k=>by rw [zero_c];rfl
theorem D_const (x:Rat):D (num x)=0:=ext' fun k=>by show ((k:Rat)+1)*(x*qbG (k+1))=_;rw [zero_c];show ((k:Rat)+1)*(x*0)=0;grind
theorem qoM (g:Sr):∀ a:List Rat,D (L a*g)=D (L a)*g+L a*D g
  | []=>by
    have z:(0:Sr)=num 0:=rfl
    rw [qrO,L_nil,z,D_num,← z]
    grind
  | x::a=>by
    have ih:=qoM g a
    have e:L (x::a)*g=num x*g+X 1*(L a*g):=by rw [qoL];grind
    rw [e,qqU,D_num,D_X,ih,qoL,qqU,D_X,D_const]
    grind
theorem D_mul {f:Sr} (pf:Pol f) (g:Sr):D (f*g)=D f*g+f*D g:=by
  obtain ⟨a,rfl⟩:=pf
  exact qoM g a
theorem D_bn {f:Sr} {n:Nat} (h:Bn f (n+1)):Bn (D f) n:=fun k hk=>by show ((k:Rat)+1)*f.c (k+1)=0;rw [h (k+1) (by omega)];grind
theorem D_ne {f:Sr} {n:Nat} (h:f.c (n+1)≠0):D f≠0:=fun e=>by
  have:=congrFun (congrArg Sr.c e) n
  rw [zero_c] at this
  have this:((n:Rat)+1)*f.c (n+1)=0:=this
  rcases Rat.mul_eq_zero.mp this with z | z
  · have:((n:Rat)+1)=((n+1:Nat):Rat):=by push_cast;rfl
    rw [this] at z
    have:n+1=0:=by exact_mod_cast z
    omega
  · exact h z
theorem Pol.D {f:Sr} (h:Pol f):Pol (D f):=by
  obtain ⟨n,hn⟩:=h.bn
  exact Bn.pol (n:=n) (D_bn (n:=n) fun k hk=>hn k (by omega))
theorem rad_pow:∀ (n:Nat) (S R c:Sr),Bn S n→S≠0→Pol R→Pol c→D S*R=c*S→∃ (m:Nat) (a:Sr),Pol a∧R ^ m=a*S:=by
  intro n
  induction n using Nat.strongRecOn with
  | _ n ih=>
    intro S R c bS S0 pR pc e
    rcases top_ex n bS with z | ⟨m,mn,m0,mb⟩
    · exact absurd z S0
    cases m with
    | zero=>
      refine ⟨0,num (S.c 0)⁻¹,Pol.num _,ext' fun k=>?_⟩
      rw [num_mul]
      have e1:(R ^ 0).c k=qbG k:=rfl
      rw [e1]
      cases k with
      | zero=>show 1=_;have:(S.c 0)⁻¹*S.c 0=1:=Rat.inv_mul_cancel _ m0;grind
      | succ k=>show 0=_;rw [mb (k+1) (by omega)];grind
    | succ m=>
      obtain ⟨g,r,e1,U,W,pg,pr,pe,pU,pW,g0,h1,h2,h3⟩:=gcd_ex _ S (D S) mb.pol (D_bn mb) (.inl S0)
      have sR:e1*R=c*r:=cancel (pe.mul pR) (pc.mul pr) pg g0 (by rw [h2,h1] at e;grind)
      have hR:R=(U*R+W*c)*r:=by
        have:R=(U*r+W*e1)*R:=by rw [h3];grind
        grind
      have pt:Pol (U*R+W*c):=(pU.mul pR).add (pW.mul pc)
      have dS:D g*r=g*(e1 - D r):=by
        have:=D_mul pg r
        rw [← h1,h2] at this
        grind
      have gR:D g*R=(e1 - D r)*(U*R+W*c)*g:=by
        have:D g*R=D g*r*(U*R+W*c):=by generalize U*R+W*c=t at hR;rw [hR];grind
        rw [this,dS]
        grind
      obtain ⟨N,hN⟩:=pg.bn
      obtain ⟨t,_,t0,tb⟩:=(top_ex N hN).resolve_left g0
      have tm:t≤m:=by
        rcases Nat.lt_or_ge m t with q | q
        · exfalso
          obtain ⟨E,rfl⟩:=pe
          have h2':D S=L E*g:=by rw [h2];grind
          rw [L_mul] at h2'
          refine D_ne m0 (ext' fun k=>?_)
          rw [h2',zero_c]
          exact qgd E (qjZ t0 (fun i hi=>tb i hi) E fun k hk=>by
            exact (congrFun (congrArg Sr.c h2') k).symm.trans (D_bn mb k (by omega))) k
        · exact q
      obtain ⟨M,a,pa,ea⟩:=ih (t+1) (by omega) g R _ tb g0 pR ((pe.sub pr.D).mul pt) gR
      refine ⟨M+1,a*(U*R+W*c),pa.mul pt,?_⟩
      have:R ^ (M+1)=R ^ M*R:=rfl
      rw [this,ea,h1]
      have:a*(U*R+W*c)*(g*r)=a*g*((U*R+W*c)*r):=by grind
      rw [this,← hR]
noncomputable def Cs (f g:Sr):Prop:=∃ U W,Pol U∧Pol W∧U*f+W*g=1
theorem Cs.comm {f g:Sr} (h:Cs f g):Cs g f:=let ⟨U,W,a,b,e⟩:=h;⟨W,U,b,a,by grind⟩
theorem Cs.mul {f g h:Sr} (pf:Pol f) (pg:Pol g) (h1:Cs f g) (h2:Cs f h):Cs f (g*h):=by
  obtain ⟨U,W,pU,pW,e⟩:=h1
  obtain ⟨U',W',pU',pW',e'⟩:=h2
  refine ⟨U+W*U'*g,W*W',pU.add ((pW.mul pU').mul pg),pW.mul pW',?_⟩
  have:(U+W*U'*g)*f+W*W'*(g*h)=U*f+W*g*(U'*f+W'*h):=by grind
  rw [this,e',← e];grind
theorem Cs.dvd {f w g a:Sr} (h:Cs f w) (pa:Pol a) (e:w=a*g):Cs f g:=by
  obtain ⟨U,W,pU,pW,q⟩:=h
  exact ⟨U,W*a,pU,pW.mul pa,by rw [e] at q;grind⟩
theorem Cs.one {f:Sr}:Cs f 1:=⟨0,1,Pol.nat 0,Pol.nat 1,by grind⟩
theorem Cs.pow {f g:Sr} (pf:Pol f) (pg:Pol g) (h:Cs f g):∀ n:Nat,Cs f (g ^ n)
  | 0=>⟨0,1,Pol.nat 0,Pol.nat 1,by grind⟩
  | n+1=>Cs.mul pf (pg.pow n) (Cs.pow pf pg h n) h
theorem Cs.add {f g z c:Sr} (h:Cs f g) (pc:Pol c) (e:z=f+c*g):Cs z g:=by
  obtain ⟨U,W,pU,pW,q⟩:=h
  exact ⟨U,W - U*c,pU,pW.sub (pU.mul pc),by rw [e];grind⟩
theorem Cs.neg {f g:Sr} (h:Cs f g):Cs (-f) g:=by
  obtain ⟨U,W,pU,pW,q⟩:=h
  exact ⟨-U,W,pU.neg,pW,by grind⟩
end Sr
end Bs
namespace Bs
open PySem L2
namespace Sr
theorem pow_s (f:Sr) (n:Nat):f ^ (n+1)=f ^ n*f:=rfl
theorem pow_z (f:Sr):f ^ 0=1:=num1.symm
theorem one_ne:(1:Sr)≠0:=fun h=>by
  have:=congrFun (congrArg Sr.c h) 0
  rw [zero_c] at this
  have this:((1:Nat):Rat)*qbG 0=0:=this
  have e:(qbG 0:Rat)=1:=rfl
  rw [e] at this
  push_cast at this
  grind
theorem pow_ne {f:Sr} (pf:Pol f) (f0:f≠0):∀ n:Nat,f ^ n≠0
  | 0=>by rw [pow_z];exact one_ne
  | n+1=>by rw [pow_s];exact ne_mul (pf.pow n) pf (pow_ne pf f0 n) f0
theorem qqV {d:Sr} (pd:Pol d):∀ n:Nat,d*D (d ^ n)=num (n:Rat)*d ^ n*D d
  | 0=>by
    rw [pow_z,show D 1=0 from D_const _]
    show d*0=num ((0:Nat):Rat)*1*D d
    rw [show num ((0:Nat):Rat)=0 from rfl]
    grind
  | n+1=>by
    rw [pow_s,D_mul (pd.pow n),show num ((n+1:Nat):Rat)=num (n:Rat)+1 by rw [show ((n+1:Nat):Rat)=(n:Rat)+((1:Nat):Rat) by push_cast;rfl,qmG];rfl]
    have h:=qqV pd n
    grind
theorem qjl {b:Nat→Rat} {d:Nat} (h:∀ k,d<k→b k=0):∀ (a:List Rat) (k:Nat),d+a.length≤k→cvL a b k=0
  | [],_,_=>rfl
  | x::a,0,hk=>by simp at hk
  | x::a,k+1,hk=>by
    rw [qaj,qjl h a k (by simp at hk;omega),h (k+1) (by simp at hk;omega)]
    grind
theorem top_mul {f g:Sr} {m n:Nat} (hf:Bn f (m+1)) (hg:Bn g (n+1)):(f*g).c (m+n)=f.c m*g.c n∧Bn (f*g) (m+n+1):=by
  have hi:∀ (a:List Rat) (k:Nat),n+a.length≤k→cvL a g.c k=0:=qjl fun k hk=>hg k hk
  rw [← hf.row,L_mul]
  refine ⟨?_,fun k hk=>hi _ k (by unfold tr;rw [List.length_map,List.length_range];omega)⟩
  show cvL (tr (m+1) f.c) g.c (m+n)=_
  have e:tr (m+1) f.c=tr m f.c++[f.c m]:=by unfold tr;rw [List.range_succ,List.map_append];rfl
  have tl:(tr m f.c).length=m:=by unfold tr;rw [List.length_map,List.length_range]
  rw [e,qbo,hi (tr m f.c) _ (by rw [tl];omega),tl]
  unfold upS
  rw [if_pos (by omega),show m+n - m=n by omega]
  have z:(L (tr m f.c++[f.c m])).c m=f.c m:=by
    rw [← e]
    exact congrFun (congrArg Sr.c hf.row) m
  rw [z]
  grind
theorem qpm {d g:Sr} (pd:Pol d) (pg:Pol g) (g0:g≠0) (h:∀ k:Nat,∃ q,Pol q∧g=d ^ k*q):∃ x:Rat,x≠0∧d=num x:=by
  obtain ⟨n,hn⟩:=pd.bn
  obtain ⟨N,hN⟩:=pg.bn
  rcases top_ex n hn with z | ⟨m,_,m0,mb⟩
  · obtain ⟨q,_,e⟩:=h 1
    exact absurd (by rw [e,pow_s,pow_z,z];grind) g0
  rcases Nat.eq_zero_or_pos m with z | mp
  · subst z
    refine ⟨d.c 0,m0,ext' fun k=>?_⟩
    show d.c k=d.c 0*qbG k
    cases k with
    | zero=>show _=d.c 0*1;grind
    | succ k=>rw [mb (k+1) (by omega)];show (0:Rat)=d.c 0*0;grind
  exfalso
  have key:∀ (k:Nat) (q:Sr),Pol q→q≠0→∃ j,k*m≤j∧(d ^ k*q).c j≠0∧Bn (d ^ k*q) (j+1):=fun k=>by
    induction k with
    | zero=>
      intro q pq q0
      obtain ⟨r,hr⟩:=pq.bn
      rcases top_ex r hr with z | ⟨j,_,j0,jb⟩
      · exact absurd z q0
      · refine ⟨j,by omega,?_⟩
        rw [pow_z,show (1:Sr)*q=q by grind]
        exact ⟨j0,jb⟩
    | succ k ih=>
      intro q pq q0
      obtain ⟨j,j1,j2,j3⟩:=ih q pq q0
      obtain ⟨t1,t2⟩:=top_mul mb j3
      rw [show d ^ (k+1)*q=d*(d ^ k*q) by rw [pow_s];grind]
      refine ⟨m+j,by rw [Nat.succ_mul];omega,?_,t2⟩
      rw [t1]
      intro z
      rcases Rat.mul_eq_zero.mp z with z | z
      · exact m0 z
      · exact j2 z
  obtain ⟨q,pq,e⟩:=h (N+1)
  have q0:q≠0:=fun z=>g0 (by rw [e,z];grind)
  obtain ⟨j,j1,j2,_⟩:=key (N+1) q pq q0
  rw [← e] at j2
  refine j2 (hN j ?_)
  have:(N+1)*1≤(N+1)*m:=Nat.mul_le_mul_left _ mp
  omega
theorem Cs.of_unit {f g d U W:Sr} {x:Rat} (x0:x≠0) (e:d=num x) (pU:Pol U) (pW:Pol W) (h:U*f+W*g=d):Cs f g:=by
  refine ⟨num (x⁻¹)*U,num (x⁻¹)*W,(Pol.num _).mul pU,(Pol.num _).mul pW,?_⟩
  have i:num (x⁻¹)*num x=1:=ext' fun k=>by
    rw [num_mul]
    show x⁻¹*(x*qbG k)=_
    have:x⁻¹*x=1:=Rat.inv_mul_cancel _ x0
    show _=((1:Nat):Rat)*qbG k
    push_cast
    grind
  rw [e] at h
  grind
theorem simple_cop {f g l m:Sr} (pg:Pol g) (pl:Pol l) (pm:Pol m) (f0:f≠0) (h1:f=g*l) (h2:D f=g*m) (c:Cs l m):Cs l (D l):=by
  have g0:g≠0:=fun z=>f0 (by rw [h1,z];grind)
  have l0:l≠0:=fun z=>f0 (by rw [h1,z];grind)
  obtain ⟨n,hn⟩:=pl.D.bn
  obtain ⟨d,r,e,U,W,pd,pr,pe,pU,pW,d0,e1,e2,e3⟩:=gcd_ex n l (D l) pl hn (.inl l0)
  obtain ⟨U1,W1,pU1,pW1,e4⟩:=c
  have hs:D g*l=g*(m - D l):=by
    have:=D_mul pg l
    rw [← h1,h2] at this
    grind
  have dr:D d*r=d*(e - D r):=by
    have:=D_mul pd r
    rw [← e1,e2] at this
    grind
  have dv:∀ k:Nat,∃ q,Pol q∧g=d ^ k*q:=fun k=>by
    induction k with
    | zero=>exact ⟨g,pg,by rw [pow_z];grind⟩
    | succ k ih=>
      obtain ⟨h,ph,eh⟩:=ih
      have a1:d*D g=d ^ k*(num (k:Rat)*D d*h+d*D h):=by
        rw [eh,D_mul (pd.pow k)]
        have:=qqV pd k
        grind
      have a2:d ^ k*((num (k:Rat)*D d*h+d*D h)*r)=d ^ k*(h*(m - D l)):=by
        have:d*D g*r=g*(m - D l):=by
          rw [← hs,show D g*l=D g*(d*r) from congrArg _ e1]
          grind
        rw [a1] at this
        rw [eh] at this
        grind
      have a3:(num (k:Rat)*D d*h+d*D h)*r=h*(m - D l):=
        cancel ((((Pol.num _).mul pd.D).mul ph |>.add (pd.mul ph.D)).mul pr) (ph.mul (pm.sub pl.D)) (pd.pow k) (pow_ne pd d0 k) (by grind)
      have a4:h*m=d*(num (k:Rat)*h*(e - D r)+D h*r+h*e):=by
        rw [e2] at a3
        have:num (k:Rat)*D d*h*r=num (k:Rat)*h*(d*(e - D r)):=by rw [← dr];grind
        grind
      refine ⟨h*U1*r+W1*(num (k:Rat)*h*(e - D r)+D h*r+h*e),((ph.mul pU1).mul pr).add (pW1.mul ((((Pol.num _).mul ph).mul (pe.sub pr.D) |>.add (ph.D.mul pr)).add (ph.mul pe))),?_⟩
      have a5:h=d*(h*U1*r+W1*(num (k:Rat)*h*(e - D r)+D h*r+h*e)):=by
        rw [e1] at e4
        have:h=h*(U1*(d*r)+W1*m):=by rw [e4];grind
        grind
      rw [pow_s,eh]
      grind
  obtain ⟨x,x0,ex⟩:=qpm pd pg g0 dv
  exact Cs.of_unit x0 ex pU pW (by rw [e2,show U*l=U*(d*r) from congrArg _ e1];grind)
theorem Cs.parts {l p q r:Sr} (pl:Pol l) (pp:Pol p) (pq:Pol q) (pr:Pol r) (c:Cs l (D l)) (e:l=p*q*r):Cs p q:=by
  obtain ⟨U,W,pU,pW,h⟩:=c
  have d1:D l=D p*(q*r)+p*(D q*r+q*D r):=by
    rw [e,show p*q*r=p*(q*r) by grind,D_mul pp,D_mul pq]
  refine ⟨U*(q*r)+W*(D q*r+q*D r),W*(D p*r),(pU.mul (pq.mul pr)).add (pW.mul ((pq.D.mul pr).add (pq.mul pr.D))),pW.mul (pp.D.mul pr),?_⟩
  rw [d1,e] at h
  grind
theorem Cs.part {l p q:Sr} (pp:Pol p) (pq:Pol q) (c:Cs l (D l)) (e:l=p*q):Cs p (D p):=by
  obtain ⟨U,W,pU,pW,h⟩:=c
  have d1:D l=D p*q+p*D q:=by rw [e,D_mul pp]
  refine ⟨U*q+W*D q,W*q,(pU.mul pq).add (pW.mul pq.D),pW.mul pq,?_⟩
  rw [d1,e] at h
  grind
end Sr
end Bs
namespace Bs
open PySem
noncomputable def qbX (K:W.Frag):Addr:=match PySem.W.nsIn K PySem.mainGlobals "EXPONENTS" with | some (some (.ref a))=>a | _=>0
end Bs
namespace Bs
noncomputable def evF (f:Nat→Rat) (n:Nat) (x:Rat):Nat→Rat
  | 0=>0
  | d+1=>f (n - 1 - d)+x*evF f n x d
noncomputable def sy (c:Int) (R:Nat→Int) (n:Nat):Nat→Int
  | 0=>R (n - 1)
  | d+1=>R (n - 1 - (d+1))+c*sy c R n d
end Bs
namespace Bs
open PySem L2
noncomputable abbrev Nm (H:Hp) (p:Addr) (t d:Int):Prop:=H p=some (.tup [.int t,.int d])
noncomputable def qaq (_:W.Frag):Sp:=fun vs H Q _=>∃ a b:Int,vs=[.int a,.int b]∧Q (.int ((Int.gcd a b:Nat):Int)) H
noncomputable def qjm (K:W.Frag):Sp:=fun vs H Q _=>∃ (a:Addr) (ns:List Int),vs=[.ref a]∧SqL K H a (ns.map V.int)∧ns.length≤63∧∀ H',Q (.bl true) H'
noncomputable def qcx (_:W.Frag):Sp:=fun vs H Q _=>∃ (x n:Int) (b:Nat),vs=[.int x,.int n]∧0≤n∧Bd b x∧b*n.toNat+1≤200000∧Q (.int (x ^ n.toNat)) H
noncomputable def qbS (n:Nat) (f:Nat→Int):List V:=((List.range n).map f).map V.int
noncomputable def qcn (ns:List Int):Nat→Nat
  | 0=>0
  | m+1=>if ns.getD m 1=0 then qcn ns m else m+1
noncomputable def qd8 (ns:List Int):List Int:=ns.take (qcn ns ns.length)
noncomputable def Pl (H:Hp) (r:Addr) (L:List Nu):Prop:=∃ zs,H r=some (.tup zs)∧Nums H zs L
noncomputable def qaK (_:W.Frag):Sp:=fun vs H Q _=>∃ (p:Addr) (ns:List Int),vs=[.ref p]∧H p=some (.lst (ns.map V.int))∧∀ r,H r=none→Q (.ref r) (upd H r (.lst ((qd8 ns).map V.int)))
end Bs
namespace Bs
open PySem L2
noncomputable def Tz (ns:List Int):Prop:=ns=[]∨co ns (ns.length - 1)≠0
noncomputable def SDs (H:Hp):List V→List (List Int)→Prop
  | [],[]=>True
  | x::xs,r::rs=>(∃ p,x=.ref p∧H p=some (.lst (r.map V.int)))∧SDs H xs rs
  | _,_=>False
noncomputable def SD (H:Hp) (p:Addr) (rs:List (List Int)):Prop:=∃ xs,H p=some (.lst xs)∧SDs H xs rs
noncomputable def ZipR (R:List Int→List Int→List Int→Prop):List (List Int)→List (List Int)→List (List Int)→Prop
  | [],[],[]=>True
  | a::as,b::bs,c::cs=>R a b c∧ZipR R as bs cs
  | _,_,_=>False
noncomputable def qbY (_:W.Frag):Sp:=fun vs H Q _=>∃ (p:Addr) (ns:List Int) (st:Int),vs=[.ref p,.int st]∧H p=some (.lst (ns.map V.int))∧ns.length≤1000∧∀ (g:Int) (H':Hp),Same H H'→0≤g→g∣st→(∀ z∈ns,g∣z)→(∀ d:Int,d∣st→(∀ z∈ns,d∣z)→d∣g)→Q (.int g) H'
noncomputable def qbk (_:W.Frag):Sp:=fun vs H Q _=>∃ (p:Addr) (ns:List Int) (g:Int),vs=[.ref p,.int g]∧H p=some (.lst (ns.map V.int))∧(0<g∨ns=[])∧ns.length≤1000∧∀ r,H r=none→Q (.ref r) (upd H r (.lst ((ns.map (· / g)).map V.int)))
noncomputable def qbD (_:W.Frag):Sp:=fun vs H Q _=>∃ (p q:Addr) (ns ms:List Int) (f w:Int) (s:Nat),vs=[.ref p,.int f,.ref q,.int w,.int (s:Int)]∧H p=some (.lst (ns.map V.int))∧H q=some (.lst (ms.map V.int))∧ns.length≤1000∧s+ms.length≤1000∧Bd 60000000 f∧Bd 60000000 w∧(∀ z∈ns,Bd 60000000 z)∧(∀ z∈ms,Bd 60000000 z)∧
  ∀ (r:Addr) (rs:List Int) (H':Hp),Same H H'→H' r=some (.lst (rs.map V.int))→Tz rs→(∀ k,co rs k=f*co ns k - w*upS s (co ms) k)→Q (.ref r) H'
noncomputable def qaN (_:W.Frag):Sp:=fun vs H Q _=>∃ (p q:Addr) (ns ms:List Int) (b d:Nat),vs=[.ref p,.ref q]∧H p=some (.lst (ns.map V.int))∧H q=some (.lst (ms.map V.int))∧Lz ms∧(∀ z∈ns,Bd b z)∧(∀ z∈ms,Bd d z)∧b+ns.length*(d+1)≤60000000∧d≤60000000∧ns.length≤1000∧ms.length≤1000∧((¬ ∃ A:List Int,∀ k,co ns k=cvL A (co ms) k)→∀ H',Same H H'→Q .non H')∧
  ∀ (r:Addr) (qs:List Int) (H':Hp),Same H H'→H' r=some (.lst (qs.map V.int))→qs.length=ns.length+1 - ms.length→(∀ k,co ns k=cvL qs (co ms) k)→Q (.ref r) H'
noncomputable def Sh (rows rows':List (List Int)):Prop:=∃ g:Int,0<g∧rows=rows'.map (·.map (g*·))
noncomputable def qrP (rows:List (List Int)):Prop:=(∀ r∈rows,r=[])∨∀ d:Int,(∀ r∈rows,∀ z∈r,d∣z)→d.natAbs=1
noncomputable def qaE (_:W.Frag):Sp:=fun vs H Q _=>∃ (p:Addr) (rows:List (List Int)),vs=[.ref p]∧SD H p rows∧rows.length≤1000∧(∀ r∈rows,r.length≤1000∧Tz r)∧
  ∀ (t:Addr) (rows':List (List Int)) (H':Hp),Same H H'→SD H' t rows'→Sh rows rows'→qrP rows'→Q (.ref t) H'
noncomputable def qay (_:W.Frag):Sp:=fun vs H Q _=>∃ (p:Addr) (ns:List Int),vs=[.ref p]∧H p=some (.lst (ns.map V.int))∧ns.length≤1000∧Tz ns∧
  ∀ (t:Addr) (ms:List Int) (g:Int) (H':Hp),Same H H'→H' t=some (.lst (ms.map V.int))→0<g→ns=ms.map (g*·)→(ns=[]∨Prim ms)→Q (.ref t) H'
noncomputable def qbc (_:W.Frag):Sp:=fun vs H Q _=>∃ (p q:Addr) (o:List Int),vs=[.ref p,.ref q]∧SD H p [[]]∧SD H q [o]∧0<o.length∧∀ (t:Addr) (H':Hp),Same H H'→SD H' t [[]]→Q (.ref t) H'
noncomputable def qaR (_:W.Frag):Sp:=fun vs H Q _=>∃ (p q:Addr) (s o:List Int),vs=[.ref p,.ref q]∧SD H p [s]∧SD H q [o]∧(s=[]∨o=[])∧∀ (t:Addr) (H':Hp),Same H H'→SD H' t [if o=[] then s else o]→Q (.ref t) H'
noncomputable def qaU (_:W.Frag):Sp:=fun vs H Q _=>∃ a p:Int,vs=[.int a,.int p]∧2≤p∧Bd 45000 p∧∀ r:Int,0≤r→r<p→(Int.gcd a p=1→p∣r*a - 1)→Q (.int r) H
noncomputable def qa5 (_:W.Frag):Sp:=fun vs H Q _=>∃ (p:Addr) (ns:List Int) (m:Int),vs=[.ref p,.int m]∧H p=some (.lst (ns.map V.int))∧0<m∧ns.length≤1000∧∀ r,H r=none→Q (.ref r) (upd H r (.lst ((ns.map (· % m)).map V.int)))
noncomputable def Md (m:Int) (rs:List Int) (f:Nat→Int):Prop:=(∀ z∈rs,0≤z∧z<m)∧∀ k,m∣co rs k - f k
noncomputable def qaW (_:W.Frag):Sp:=fun vs H Q _=>∃ (p:Addr) (ns:List Int) (m:Int),vs=[.ref p,.int m]∧H p=some (.lst (ns.map V.int))∧0<m∧ns.length≤1000∧∀ (r:Addr) (rs:List Int) (H':Hp),Same H H'→H' r=some (.lst (rs.map V.int))→Tz rs→rs.length≤ns.length→Md m rs (co ns)→Q (.ref r) H'
noncomputable def qaO (_:W.Frag):Sp:=fun vs H Q _=>∃ (q:Addr) (ns:List Int) (p:Nat),vs=[.ref q,.int (p:Int)]∧H q=some (.lst (ns.map V.int))∧Pr p∧Bd 45000 (p:Int)∧ns.length≤1000∧Tz ns∧(∀ z∈ns,0≤z∧z<(p:Int))∧
  ∀ (r:Addr) (rs:List Int) (f:Int) (H':Hp),Same H H'→H' r=some (.lst (rs.map V.int))→rs.length=ns.length→(ns≠[]→co rs (rs.length - 1)=1)→Md (p:Int) rs (fun k=>f*co ns k)→Q (.ref r) H'
noncomputable def qa6 (_:W.Frag):Sp:=fun vs H Q _=>∃ (p q:Addr) (ns ms:List Int) (m:Int) (b:Nat),vs=[.ref p,.ref q,.int m]∧H p=some (.lst (ns.map V.int))∧H q=some (.lst (ms.map V.int))∧0<ms.length∧co ms (ms.length - 1)=1∧0<m∧Bd b m∧(∀ z∈ms,Bd b z)∧b≤60000000∧ns.length≤1000∧ms.length≤1000∧
  ∀ (t r s:Addr) (qs rs:List Int) (H':Hp),Same H H'→H' t=some (.tup [.ref r,.ref s])→H' r=some (.lst (qs.map V.int))→H' s=some (.lst (rs.map V.int))→Tz qs→Tz rs→rs.length<ms.length→Md m rs (fun k=>co ns k - cvL qs (co ms) k)→(∀ z∈qs,0≤z∧z<m)→Q (.ref t) H'
noncomputable def qbd (_:W.Frag):Sp:=fun vs H Q _=>∃ (p q:Addr) (ns ms:List Int) (m:Int) (b:Nat),vs=[.ref p,.ref q,.int m]∧H p=some (.lst (ns.map V.int))∧H q=some (.lst (ms.map V.int))∧0<ms.length∧co ms (ms.length - 1)=1∧0<m∧Bd b m∧(∀ z∈ms,Bd b z)∧b≤60000000∧ns.length≤1000∧ms.length≤1000∧
  ∀ (s:Addr) (qs rs:List Int) (H':Hp),Same H H'→H' s=some (.lst (rs.map V.int))→Tz rs→rs.length<ms.length→Md m rs (fun k=>co ns k - cvL qs (co ms) k)→Q (.ref s) H'
noncomputable def qa1 (_:W.Frag):Sp:=fun vs H Q _=>∃ (a b:Addr) (ns ms:List Int) (p:Nat),vs=[.ref a,.ref b,.int (p:Int)]∧H a=some (.lst (ns.map V.int))∧H b=some (.lst (ms.map V.int))∧Pr p∧Bd 45000 (p:Int)∧ns.length≤1000∧ms.length≤1000∧((∃ k,¬ (p:Int)∣co ns k)∨∃ k,¬ (p:Int)∣co ms k)∧
  ∀ (s:Addr) (rs:List Int) (H':Hp),Same H H'→H' s=some (.lst (rs.map V.int))→0<rs.length→rs.length≤1000→co rs (rs.length - 1)=1→(∀ z∈rs,0≤z∧z<(p:Int))→(∀ g:Nat→Int,Dm (p:Int) g (co ns)→Dm (p:Int) g (co ms)→Dm (p:Int) g (co rs))→Dm (p:Int) (co rs) (co ns)→Dm (p:Int) (co rs) (co ms)→Q (.ref s) H'
noncomputable def qbZ (_:W.Frag):Sp:=fun vs H Q _=>∃ w p:Int,vs=[.int w,.int p]∧0<p∧∀ r:Int,p∣r - w→2*r.natAbs≤p.natAbs→Q (.int r) H
noncomputable def qr8 (d n c p:Nat):Prop:=2 ^ ((d+n*(2*c+4)+c+2)*(2*(n - 1)))<p
noncomputable def qaP (_:W.Frag):Sp:=fun vs H Q _=>∃ (a b:Addr) (ns ms:List Int) (p d n c:Nat),vs=[.ref a,.ref b,.int (p:Int)]∧H a=some (.lst (ns.map V.int))∧H b=some (.lst (ms.map V.int))∧Pr p∧Bd 45000 (p:Int)∧Lz ns∧Lz ms∧(∀ z∈ns,Bd d z)∧(∀ z∈ms,Bd d z)∧d+ns.length*45001≤1000000∧d+ms.length*45001≤1000000∧ns.length≤n∧ms.length≤n∧n<2 ^ c∧2≤n∧(¬ qr8 d n c p→∀ H',Same H H'→Q .non H')∧
  ∀ (s:Addr) (rs:List Int) (H':Hp),Same H H'→H' s=some (.lst (rs.map V.int))→RC (co ns) (co ms) rs→Prim rs→Q (.ref s) H'
noncomputable def qaX (_:W.Frag):Sp:=fun vs H Q _=>∃ (a b:Addr) (ns ms:List Int) (d n c:Nat),vs=[.ref a,.ref b]∧H a=some (.lst (ns.map V.int))∧H b=some (.lst (ms.map V.int))∧Tz ns∧Tz ms∧(∀ z∈ns,Bd d z)∧(∀ z∈ms,Bd d z)∧ns.length≤n∧ms.length≤n∧n≤20∧2≤n∧n<2 ^ c∧(d+n*(2*c+4)+c+2)*(2*(n - 1))≤44490∧((ns=[]∨ms=[])→2*3 ^ (ns.length+ms.length)*(d+1)≤60000000)∧
  ∀ (s:Addr) (rs:List Int) (H':Hp),Same H H'→H' s=some (.lst (rs.map V.int))→((ns≠[]∨ms≠[])→RC (co ns) (co ms) rs∧Prim rs)→(ns=[]→ms=[]→rs=[])→Q (.ref s) H'
end Bs
namespace Bs
open PySem L2
structure Gq (b c:Nat) (l:List Nu):Prop where
  low:qaZ l
  nz:Nz l
  ov:∃ M,Ov l M∧Bd c M∧∀ z∈ovN l M,Bd b z
noncomputable def mnc (g:List Int):List Nu:=g.map fun n=>qbV n (co g (g.length - 1))
noncomputable def MR (g f:Nat→Rat):Prop:=∃ A:List Rat,∀ k,f k=cvL A g k
noncomputable def qcT (_:W.Frag):Sp:=fun vs H Q _=>∃ a b:Int,vs=[.int a,.int b]∧b≠0∧∀ (p:Addr),H p=none→Q (.ref p) (upd H p (.tup [.int (qbV a b).1,.int (qbV a b).2]))
noncomputable def qeK (_:W.Frag):Sp:=fun vs H Q _=>∃ (p:Addr) (xs:List V) (l:List Nu),vs=[.ref p]∧H p=some (.lst xs)∧Nums H xs l∧l.length≤1000∧qpY H Q (trim l)
noncomputable def qbA (_:W.Frag):Sp:=fun vs H Q _=>∃ (p:Addr) (xs:List V) (l:List Nu) (M:Int),vs=[.ref p]∧H p=some (.tup xs)∧Nums H xs l∧qaZ l∧Ov l M∧Bd 400000 M∧(∀ q∈l,Bd 60000000 q.1)∧l.length≤1000∧
  ∀ (r a:Addr) (H':Hp),Same H H'→H' r=some (.tup [.ref a,.int (qfP l)])→H' a=some (.lst ((qeG l).map V.int))→Q (.ref r) H'
noncomputable def qbx (_:W.Frag):Sp:=fun vs H Q _=>∃ (p:Addr) (ns:List Int) (B:Int),vs=[.ref p,.int B]∧H p=some (.lst (ns.map V.int))∧B≠0∧ns.length≤1000∧qpY H Q (trim (ns.map fun n=>qbV n B))
noncomputable def qoN (f:Nu→Nu→Nu) (_:W.Frag):Sp:=fun vs H Q _=>∃ (p q:Addr) (a b c d:Int),vs=[.ref p,.ref q]∧Nm H p a b∧Nm H q c d∧0<b∧0<d∧Bd 60000000 a∧Bd 60000000 b∧Bd 60000000 c∧Bd 60000000 d∧
  ∀ (r:Addr),H r=none→Q (.ref r) (upd H r (.tup [.int (f (a,b) (c,d)).1,.int (f (a,b) (c,d)).2]))
noncomputable def Cop (T B:Nat→Rat):Prop:=∃ U W:List Rat,∀ k,(qbG k:Rat)=cvL U T k+cvL W B k
end Bs
namespace Bs
open PySem L2
structure Fr (l m T B:List Nu):Prop where
  eq:∀ k,cv (pwo T) (pwo m) T.length k=cv (pwo l) (pwo B) l.length k
  st:T.length≤l.length
  sb:B.length≤m.length
structure Fq (b c:Nat) (T B:List Nu):Prop where
  gt:Gq b c T
  gb:Gq b c B
  ne:B≠[]
  one:qbR B (B.length - 1)=(1,1)
  cop:Cop (pwo T) (pwo B)
structure S1 (b c n e:Nat):Prop where
  n20:n≤20
  n2:2≤n
  ne:n<2 ^ e
  lu:(b+n*(2*e+4)+e+2)*(2*(n - 1))≤44490
  cc:c≤60000
  em:2*3 ^ n*(b+1)≤60000000
  dv:(n+2)*(b+n*(2*e+4)+1)≤200000
noncomputable def D1 (b n e:Nat):Nat:=b+n*(2*e+4)
noncomputable def Bt (b n e:Nat):Nat:=3*b+2*D1 b n e+n+1
structure S2 (b n e:Nat):Prop where
  a:S1 b b n e
  n20:2*n - 1≤20
  lu:(Bt b n e+(2*n - 1)*(2*(e+1)+4)+(e+1)+2)*(2*(2*n - 1 - 1))≤44490
  cc:4*b+D1 b n e≤60000
  em:2*3 ^ n*(Bt b n e+1)≤60000000
  dv:(2*n+2)*(D1 b n e+n*(2*e+4)+1)+Bt b n e≤200000
noncomputable def rw' (l:List Nu):List Rat:=(List.range l.length).map (pwo l)
end Bs
namespace Bs
open PySem L2
noncomputable def dv (f:Nat→Rat) (k:Nat):Rat:=((k:Rat)+1)*f (k+1)
noncomputable def evN (l:List Nu) (x:Rat):Rat:=evF (pwo l) l.length x l.length
noncomputable def bS (b n e:Nat):Nat:=(b+5)+2*D1 (b+5) n e+n+2*b+1
noncomputable def bM (b n:Nat):Nat:=b+80*n+41*n*n+3
structure Mvd (s:Rat) (b n:Nat) (l L:List Nu):Prop where
  gq:Gq (bM b n) (bM b n) L
  len:L.length=l.length
  top:pwo L (l.length - 1)=pwo l (l.length - 1)
  ev:∀ x,evN L x=evN l (x+s)
structure S4 (b n e:Nat):Prop where
  a:S1 (b+5) (b+5) n e
  n20:2*n - 1≤20
  lu:(bS b n e+(2*n - 1)*(2*(e+1)+4)+(e+1)+2)*(2*(2*n - 1 - 1))≤44490
  m:S1 (bM b n+5) (bM b n+5) n e
  s8:bS b n e+4*b≤8000
  m8:bM b n≤8000
end Bs
namespace Bs
open PySem L2
noncomputable def Hand (H:Hp) (p a:Addr) (n:Int):Prop:=∃ (ns:List Int) (x y z:Int),H p=some (.lst [.ref a,.int x,.int y,.int z])∧H a=some (.lst (ns.map V.int))∧ns.length≤1000∧a≠p∧0≤x∧x≤n∧0≤y
noncomputable def qcy (K:W.Frag):Sp:=fun vs H Q _=>∃ (s:Addr) (ns:List Int),vs=[.ref s]∧SqL K H s (ns.map V.int)∧ns.length≤63∧∀ (p a:Addr) (H':Hp),H p=none→Kp p H H'→Hand H' p a 0→Q (.ref p) H'
noncomputable def qaI (_:W.Frag):Sp:=fun vs H Q _=>∃ (p a:Addr) (m n:Int),vs=[.ref p,.int m]∧Hand H p a n∧n≤100000∧0<m∧m≤1000∧
  ∀ (d:Int) (H':Hp),0≤d→d<m→Hand H' p a (n+2)→Kp p H H'→Q (.int d) H'
noncomputable abbrev qa7:=qcT
noncomputable def qaY (_:W.Frag):Sp:=fun vs H Q _=>∃ (p q:Addr) (a b:List Int) (n m:Nat),vs=[.ref p,.ref q]∧H p=some (.lst (a.map V.int))∧H q=some (.lst (b.map V.int))∧Lz a∧Lz b∧a.length≤20∧b.length≤20∧(∀ z∈a,Bd n z)∧(∀ z∈b,Bd m z)∧n≤1000∧m≤1000∧
  ∀ (r:Addr) (c:List Int) (H':Hp),Same H H'→H' r=some (.lst (c.map V.int))→c.length=a.length+b.length - 1→Lz c→(∀ k,co c k=ps a b a.length k)→Q (.ref r) H'
noncomputable def qby (_:W.Frag):Sp:=fun vs H Q _=>∃ (p q:Addr) (ns:List Int) (t d:Int),vs=[.ref p,.ref q]∧H p=some (.lst (ns.map V.int))∧Nm H q t d∧d≠0∧Bd 1000 t∧(∀ z∈ns,Bd 1000 z)∧ns.length≤1000∧qpY H Q (ns.map fun n=>qbV (n*t) d)
noncomputable def qb0 (_:W.Frag):Sp:=fun vs H Q _=>∃ (p a:Addr) (n:Int),vs=[.ref p]∧Hand H p a n∧n≤90000∧
  ∀ (r:Addr) (t d:Int) (H':Hp),Nm H' r t d→Low t d→t≠0→Bd 4 t→Bd 4 d→Hand H' p a (n+6)→Kp p H H'→Q (.ref r) H'
noncomputable def qaQ (_:W.Frag):Sp:=fun vs H Q _=>∃ (p:Addr) (ns:List Int),vs=[.ref p]∧H p=some (.lst (ns.map V.int))∧Lz ns∧ns.length≤1000∧qpY H Q (mnc ns)
end Bs
namespace Bs
open PySem L2
noncomputable def sr (l:List Nu):Sr:=⟨pwo l⟩
noncomputable def si (ns:List Int):Sr:=⟨fun k=>(co ns k:Rat)⟩
noncomputable def dI (ns:List Int):List Int:=(List.range (ns.length - 1)).map fun k=>((k+1:Nat):Int)*co ns (k+1)
noncomputable def RadOf (F L:Sr):Prop:=∃ S M:Sr,Sr.Pol S∧Sr.Pol L∧Sr.Pol M∧F=S*L∧Sr.D F=S*M∧Sr.Cs L M
noncomputable def qhg:Nat→List (List Nu)→Sr
  | _,[]=>1
  | i,p::ps=>sr p ^ i*qhg (i+1) ps
noncomputable def qbB:List (List Nu)→Sr
  | []=>1
  | p::ps=>sr p*qbB ps
structure Mo (p:List Nu):Prop where
  gq:Gq 148 148 p
  ne:p≠[]
  one:qbR p (p.length - 1)=(1,1)
  le:p.length≤9
structure Pts (l:List Nu) (ps:List (List Nu)):Prop where
  full:∃ c:Rat,c≠0∧sr l=Sr.num c*qhg 1 ps
  rad:∃ (c:Rat) (L:Sr),c≠0∧RadOf (sr l) L∧L=Sr.num c*qbB ps
  each:∀ p∈ps,Mo p
  last:∀ p,ps.getLast?=some p→2≤p.length
  none:ps=[]→l.length≤1
  many:ps.length≤12
noncomputable def PLs (H:Hp):List V→List (List Nu)→Prop
  | [],[]=>True
  | v::vs,p::ps=>(∃ a,v=.ref a∧Pl H a p)∧PLs H vs ps
  | _,_=>False
noncomputable def qbb (_:W.Frag):Sp:=fun vs H Q _=>∃ (p:Addr) (ns:List Int) (b:Nat),vs=[.ref p]∧H p=some (.lst (ns.map V.int))∧ns.length≤100∧(∀ z∈ns,Bd b z)∧b≤100000∧∀ (r:Addr) (H':Hp),Same H H'→H' r=some (.lst ((dI ns).map V.int))→Q (.ref r) H'
noncomputable def qa2 (_:W.Frag):Sp:=fun vs H Q _=>∃ (p:Addr) (ns:List Int),vs=[.ref p]∧H p=some (.lst (ns.map V.int))∧Lz ns∧ns.length≤1000∧qpY H Q (mnc ns)
noncomputable def qbl (_:W.Frag):Sp:=fun vs H Q _=>∃ (p:Addr) (ns:List Int),vs=[.ref p]∧H p=some (.lst (ns.map V.int))∧Lz ns∧(∀ z∈ns,Bd 40 z)∧ns.length≤9∧
  ∀ (r:Addr) (rs:List Int) (H':Hp),Same H H'→H' r=some (.lst (rs.map V.int))→Lz rs→rs.length≤9→(∀ z∈rs,Bd 148 z)→(∃ (c:Rat) (L:Sr),c≠0∧RadOf (si ns) L∧si rs=Sr.num c*L)→Q (.ref r) H'
noncomputable def qa0 (_:W.Frag):Sp:=fun vs H Q _=>∃ (p:Addr) (xs:List V) (l:List Nu),vs=[.ref p]∧H p=some (.tup xs)∧Nums H xs l∧Gq 40 40 l∧l≠[]∧l.length≤9∧
  ∀ (r:Addr) (us:List V) (ps:List (List Nu)) (H':Hp),Same H H'→H r=none→H' r=some (.lst us)→PLs H' us ps→Pts l ps→Q (.ref r) H'
noncomputable def qb1 (_:W.Frag):Sp:=fun vs H Q _=>∃ (p:Addr) (xs:List V) (l:List Nu),vs=[.ref p]∧H p=some (.tup xs)∧Nums H xs l∧Gq 40 40 l∧l≠[]∧l.length≤9∧
  ∀ (r:Addr) (R:List Nu) (H':Hp),Same H H'→Pl H' r R→Mo R→(∃ (c:Rat) (L:Sr),c≠0∧RadOf (sr l) L∧sr R=Sr.num c*L)→Q (.ref r) H'
end Bs
namespace Bs
open PySem L2
noncomputable def Nmb (f:Sr):Prop:=∃ x:Rat,f=Sr.num x
structure Irr (f:Sr):Prop where
  pol:Sr.Pol f
  ne:f≠0
  no:¬ Nmb f
  irr:∀ A B:Sr,Sr.Pol A→Sr.Pol B→f=A*B→Nmb A∨Nmb B
end Bs
namespace Bs
open PySem L2
noncomputable def l1:List Int→Nat
  | []=>0
  | z::zs=>z.natAbs+l1 zs
structure Ro (r:List Int):Prop where
  lz:Lz r
  l2:2≤r.length
  l4:r.length≤4
  sm:l1 r<2 ^ (4*(r.length - 1))
  ir:Irr (si r)
noncomputable def FLs (H:Hp):List V→List (List Int×Nat)→Prop
  | [],[]=>True
  | v::vs,x::fs=>(∃ t r,v=.ref t∧H t=some (.tup [.ref r,.int (x.2:Int)])∧H r=some (.lst (x.1.map V.int)))∧FLs H vs fs
  | _,_=>False
noncomputable def RLs (H:Hp):List V→List (List Int)→Prop
  | [],[]=>True
  | v::vs,x::fs=>(∃ r,v=.ref r∧H r=some (.lst (x.map V.int)))∧RLs H vs fs
  | _,_=>False
noncomputable def degs:List (List Int×Nat)→Nat
  | []=>0
  | x::fs=>(x.1.length - 1)*x.2+degs fs
structure Fcs (fs:List (List Int×Nat)):Prop where
  each:∀ x∈fs,Ro x.1∧1≤x.2∧x.2≤8
  two:List.Pairwise (fun x y=>mnc x.1≠mnc y.1) fs
  deg:degs fs≤8
  many:fs.length≤4
noncomputable def qcz (_:W.Frag):Sp:=fun vs H Q _=>∃ (p a:Addr) (n:Int),vs=[.ref p,.bl false]∧Hand H p a n∧n≤80000∧
  ∀ (r:Addr) (t d:Int) (H':Hp),Nm H' r t d→Low t d→t.natAbs≤9→d≤6→Hand H' p a (n+4)→Kp p H H'→Q (.ref r) H'
noncomputable def qbm (_:W.Frag):Sp:=fun vs H Q _=>∃ (p a:Addr) (m n:Int),vs=[.ref p,.int m]∧Hand H p a n∧n≤80000∧2≤m∧m≤3∧
  ∀ (r:Addr) (row:List Int) (H':Hp),H' r=some (.lst (row.map V.int))→Ro row→Hand H' p a (n+20)→Kp p H H'→Q (.ref r) H'
noncomputable def qbz (_:W.Frag):Sp:=fun vs H Q _=>∃ (p a:Addr) (n:Int),vs=[.ref p]∧Hand H p a n∧n≤1000∧
  ∀ (w:Addr) (us:List V) (fs:List (List Int×Nat)) (H':Hp),H' w=some (.lst us)→FLs H' us fs→Fcs fs→w≠p→Hand H' p a (n+1000)→Kp p H H'→Q (.ref w) H'
end Bs
namespace Bs
open PySem L2
set_option linter.unusedVariables false
noncomputable def qck (K:W.Frag):TS:=
  (qaJ (qcN (qbi (tOp rNe (qaf 1) (tC (.int 0)))) (qaJ (qaV (tOp qo9 (qaf 0) (qaf 1)) (qak 2))
    (qaJ (qaV (qaf 1) (qak 0))
    (qaV (qaf 2) (qak 1)))))
    (qb3 (tCB qnM (qac (qaf 0) qaA))))
noncomputable def qip (K:W.Frag):TS:=
  (qaJ (qaV (tC (.int 1)) (qak 2))
    (qaJ (qaV (qaf 0) (qak 3))
    (qaJ (qcN (qbi (tOp iGt (qaf 1) (tC (.int 0)))) (qaJ (qgk (qbi (tOp rEq (tOp qh7 (qaf 1) (tC (.int 2))) (tC (.int 1)))) (qnF 2 (qaf 3) qeo) qcp)
    (qaJ (qnF 1 (tC (.int 2)) qjb)
    (qgk (qbi (tOp iGt (qaf 1) (tC (.int 0)))) (qnF 3 (qaf 3) qeo) qcp))))
    (qb3 (qaf 2)))))
noncomputable def qgH (K:W.Frag):TS:=
  (qaJ (qaV (qaz (qaq K) [] E0 (qac (qnR (qkz (qc1 K (qaf 0)) [none] (qak 0) (qbi (tOp rNe (qaf 0) (tC (.int 0)))) (tCB qnM (qac (qaf 0) qaA)))) (qac (qaf 1) qaA))) (qak 2))
    (qaJ (qf8 (qc1 K (qaf 0)) (qak 3) (qaJ (qgk (qbi (tOp rEq (qaf 2) (tC (.int 1)))) (qb3 (tC (.int 1))) qcp)
    (qaV (qaz (qaq K) [] E0 (qac (qaf 3) (qac (qaf 2) qaA))) (qak 2))))
    (qb3 (qaf 2))))
noncomputable def qdu (K:W.Frag):TS:=
  (qaJ (qaV (tCB qbU (qac (qaf 0) qaA)) (qak 1))
    (qaJ (qcN (qnC (qbi (tOp iGt (qaf 1) (tC (.int 0)))) (qbi (tOp rEq (tOp gL (qaf 0) (tOp qen (qaf 1) (tC (.int 1)))) (tC (.int 0))))) (qnF 1 (tC (.int 1)) qen))
    (qb3 (tSl sL (qaf 0) qcs (qgm (qaf 1))))))
noncomputable def qd9 (K:W.Frag):TS:=
  (qb3 (qci (qc1 K (qaf 0)) [none,some 1] (qak 0) (tOp qjU (qaf 0) (qaf 1))))
noncomputable def qeL (K:W.Frag):TS:=
  (qb3 (qci (qnH (qac (tC (.int 1)) (qac (tCB qbU (qac (qaf 0) qaA)) qaA))) [none,some 0] (qak 0) (tOp qeo (qaf 0) (tOp gL (qaf 1) (qaf 0)))))
noncomputable def qea (K:W.Frag):TS:=
  (qgk (qbi (tOp rNe (qaf 6) (tC (.int 0)))) (qf8 (qi1 (qac (qaf 3) qaA)) (qak 7) (qk8 (qaf 2) (tOp qeS (qaf 5) (qaf 7)) (tOp qeo (qaf 6) (tOp gL (qaf 1) (qaf 7))) gL qen qeV)) qcp)
noncomputable def qeb (K:W.Frag):TS:=
  (qaJ (qaV (qaf 6) (qlE (qaf 4) (qaf 5) qeV))
    (qea K))
noncomputable def qec (K:W.Frag):TS:=
  (qaJ (qgk (qbi (tOp rNe (tOp qeo (qaf 6) (tOp gL (qaf 1) (tUn qhc (tC (.int 1))))) (tOp gL (qaf 2) (tOp qeS (qaf 5) (qaf 3))))) (qb3 (tC .non)) qcp)
    (qeb K))
noncomputable def qed (K:W.Frag):TS:=
  (qaJ (qaV (tOp qhe (tOp gL (qaf 2) (tOp qeS (qaf 5) (qaf 3))) (tOp gL (qaf 1) (tUn qhc (tC (.int 1))))) (qak 6))
    (qec K))
noncomputable def qfR (K:W.Frag):TS:=
  (qb3 (tIf (tB (tCB qnS (qac (tSl sL (qaf 2) qcs (qgm (qaf 3))) qaA))) (tC .non) (qaf 4)))
noncomputable def qfS (K:W.Frag):TS:=
  (qaJ (qf8 (qnQ (qac (tOp qen (tOp qen (tCB qbU (qac (qaf 0) qaA)) (qaf 3)) (tC (.int 1))) (qac (tUn qhc (tC (.int 1))) (qac (tUn qhc (tC (.int 1))) qaA)))) (qak 5) (qed K))
    (qfR K))
noncomputable def qfT (K:W.Frag):TS:=
  (qaJ (qaV (tOp qo7 (qfZ (qac (tC (.int 0)) qaA)) (tCB qpX (qac (tOp qen (tCB qbU (qac (qaf 0) qaA)) (qaf 3)) (qac (tC (.int 0)) qaA)))) (qak 4))
    (qfS K))
noncomputable def qfU (K:W.Frag):TS:=
  (qaJ (qaV (tOp qen (tCB qbU (qac (qaf 1) qaA)) (tC (.int 1))) (qak 3))
    (qfT K))
noncomputable def qfv (K:W.Frag):TS:=
  (qaJ (qaV (tCB qhF (qac (qaf 0) qaA)) (qak 2))
    (qfU K))
noncomputable def qfw (K:W.Frag):TS:=
  (qaJ (qaV (qci (qc1 K (qaf 0)) [none,some 1] (qak 0) (tOp qeo (qaf 1) (qaf 0))) (qak 5))
    (qaJ (qhY (tBM K "list" qh1 (qaf 5) (qac (tOp qo7 (qfZ (qac (tC (.int 0)) qaA)) (tOp qen (tOp qeS (tCB qbU (qac (qaf 2) qaA)) (qaf 4)) (tCB qbU (qac (qaf 0) qaA)))) qaA)))
    (qaJ (qf8 (qhE K (qac (qaf 2) qaA)) (qhd 2 (qdR (qak 6) (qdR (qak 7) qnD))) (qk8 (qaf 5) (tOp qeS (qaf 6) (qaf 4)) (tOp qeo (qaf 3) (qaf 7)) gL qen qeV))
    (qb3 (qaz (qaK K) [] E0 (qac (qaf 5) qaA))))))
noncomputable def qe0 (K:W.Frag):TS:=
  (qaV (qci (qrG K (qac (qaf 0) (qac (qaf 1) qaA))) [none,none,some 6,some 7,some 2] (qhd 2 (qdR (qak 0) (qdR (qak 1) qnD))) (qaz (qbD K) [] E0 (qac (qaf 0) (qac (qaf 2) (qac (qaf 1) (qac (qaf 3) (qac (qaf 4) qaA))))))) (qak 0))
noncomputable def qe1 (K:W.Frag):TS:=
  (qaJ (qaV (tOp qhe (qaf 3) (qaf 5)) (qak 7))
    (qe0 K))
noncomputable def qe2 (K:W.Frag):TS:=
  (qaJ (qaV (tOp qhe (qaf 4) (qaf 5)) (qak 6))
    (qe1 K))
noncomputable def qe3 (K:W.Frag):TS:=
  (qaJ (qaV (qaz (qaq K) [] E0 (qac (qaf 3) (qac (qaf 4) qaA))) (qak 5))
    (qe2 K))
noncomputable def qe4 (K:W.Frag):TS:=
  (qaJ (qaV (tOp gL (tOp gL (qaf 1) (tC (.int 0))) (tUn qhc (tC (.int 1)))) (qak 4))
    (qe3 K))
noncomputable def qe5 (K:W.Frag):TS:=
  (qaJ (qaV (tOp gL (tOp gL (qaf 0) (tC (.int 0))) (tUn qhc (tC (.int 1)))) (qak 3))
    (qe4 K))
noncomputable def qe6 (K:W.Frag):TS:=
  (qaJ (qaV (tOp qen (tCB qbU (qac (tOp gL (qaf 0) (tC (.int 0))) qaA)) (tCB qbU (qac (tOp gL (qaf 1) (tC (.int 0))) qaA))) (qak 2))
    (qe5 K))
noncomputable def qee (K:W.Frag):TS:=
  (qb3 (qaz (qaE K) [] E0 (qac (qaf 0) qaA)))
noncomputable def qdv (K:W.Frag):TS:=
  (qaJ (qcN (qbi (tOp iGe (tCB qbU (qac (tOp gL (qaf 0) (tC (.int 0))) qaA)) (tCB qbU (qac (tOp gL (qaf 1) (tC (.int 0))) qaA)))) (qe6 K))
    (qee K))
noncomputable def qbO (K:W.Frag):TS:=
  (qaJ (qaV (tC (.int 0)) (qak 1))
    (qaJ (qf8 (qc1 K (qaf 0)) (qak 2) (qaV (qaz (qbY K) [] E0 (qac (qaf 2) (qac (qaf 1) qaA))) (qak 1)))
    (qb3 (qci (qc1 K (qaf 0)) [none,some 1] (qak 0) (qaz (qbk K) [] E0 (qac (qaf 0) (qac (qaf 1) qaA)))))))
noncomputable def qcA (K:W.Frag):TS:=
  (qb3 (tOp gL (qaz (qaE K) [] E0 (qac (qfZ (qac (qaf 0) qaA)) qaA)) (tC (.int 0))))
noncomputable def qcB (K:W.Frag):TS:=
  (qaJ (qcN (qje (tOp gL (qaf 1) (tC (.int 0)))) (qaJ (qgk (qbi (tOp rEq (tCB qbU (qac (tOp gL (qaf 1) (tC (.int 0))) qaA)) (tC (.int 1)))) (qb3 (qaf 1)) qcp)
    (qaJ (qaV (qaz (qbc K) [] E0 (qac (qaf 0) (qac (qaf 1) qaA))) (qak 2))
    (qaJ (qaV (qaf 1) (qak 0))
    (qaV (qaf 2) (qak 1))))))
    (qb3 (qaf 0)))
noncomputable def qb7 (K:W.Frag):TS:=
  (qaV (qaf 7) (qak 5))
noncomputable def qb8 (K:W.Frag):TS:=
  (qaJ (qaV (qaf 5) (qak 4))
    (qb7 K))
noncomputable def qb9 (K:W.Frag):TS:=
  (qaJ (qaV (tOp qen (qaf 4) (tOp qeo (qaf 6) (qaf 5))) (qak 7))
    (qb8 K))
noncomputable def qca (K:W.Frag):TS:=
  (qaJ (qaV (qaf 7) (qak 3))
    (qb9 K))
noncomputable def qcb (K:W.Frag):TS:=
  (qaJ (qaV (qaf 3) (qak 2))
    (qca K))
noncomputable def qcc (K:W.Frag):TS:=
  (qaJ (qaV (tOp qen (qaf 2) (tOp qeo (qaf 6) (qaf 3))) (qak 7))
    (qcb K))
noncomputable def qcd (K:W.Frag):TS:=
  (qaJ (qaV (tOp qjU (qaf 2) (qaf 3)) (qak 6))
    (qcc K))
noncomputable def qcU (K:W.Frag):TS:=
  (qb3 (tOp qh7 (qaf 4) (qaf 1)))
noncomputable def qcV (K:W.Frag):TS:=
  (qaJ (qcN (qbi (tOp rNe (qaf 3) (tC (.int 0)))) (qcd K))
    (qcU K))
noncomputable def qcW (K:W.Frag):TS:=
  (qaJ (qaV (tC (.int 1)) (qak 5))
    (qcV K))
noncomputable def qcX (K:W.Frag):TS:=
  (qaJ (qaV (tC (.int 0)) (qak 4))
    (qcW K))
noncomputable def qcY (K:W.Frag):TS:=
  (qaJ (qaV (tOp qh7 (qaf 0) (qaf 1)) (qak 3))
    (qcX K))
noncomputable def qcl (K:W.Frag):TS:=
  (qaJ (qaV (qaf 1) (qak 2))
    (qcY K))
noncomputable def qc7 (K:W.Frag):TS:=
  (qb3 (qci (qc1 K (qaf 0)) [none,some 1] (qak 0) (tOp qh7 (qaf 0) (qaf 1))))
noncomputable def qef (K:W.Frag):TS:=
  (qb3 (qaz (qaK K) [] E0 (qac (qaz (qa5 K) [] E0 (qac (qaf 0) (qac (qaf 1) qaA))) qaA)))
noncomputable def qc8 (K:W.Frag):TS:=
  (qaJ (qgk (qp9 (qje (qaf 0))) (qb3 (qfZ qaA)) qcp)
    (qaJ (qaV (qaz (qaU K) [] E0 (qac (tOp gL (qaf 0) (tUn qhc (tC (.int 1)))) (qac (qaf 1) qaA))) (qak 2))
    (qb3 (qci (qc1 K (qaf 0)) [none,some 1,some 2] (qak 0) (tOp qh7 (tOp qeo (qaf 0) (qaf 2)) (qaf 1))))))
noncomputable def qcC (K:W.Frag):TS:=
  (qgk (qbi (tOp rNe (qaf 7) (tC (.int 0)))) (qf8 (qi1 (qac (qaf 4) qaA)) (qak 8) (qk8 (qaf 3) (tOp qeS (qaf 6) (qaf 8)) (tOp qeo (qaf 7) (tOp gL (qaf 1) (qaf 8))) gL qen qeV)) qcp)
noncomputable def qcD (K:W.Frag):TS:=
  (qaJ (qaV (qaf 7) (qlE (qaf 5) (qaf 6) qeV))
    (qcC K))
noncomputable def qcE (K:W.Frag):TS:=
  (qaJ (qaV (tOp qh7 (tOp gL (qaf 3) (tOp qeS (qaf 6) (qaf 4))) (qaf 2)) (qak 7))
    (qcD K))
noncomputable def qdC (K:W.Frag):TS:=
  (qb3 (qnK (qac (qaz (qaK K) [] E0 (qac (qaf 5) qaA)) (qac (qaz (qaW K) [] E0 (qac (tSl sL (qaf 3) qcs (qgm (qaf 4))) (qac (qaf 2) qaA))) qaA))))
noncomputable def qdD (K:W.Frag):TS:=
  (qaJ (qf8 (qnQ (qac (tOp qen (tOp qen (tCB qbU (qac (qaf 0) qaA)) (qaf 4)) (tC (.int 1))) (qac (tUn qhc (tC (.int 1))) (qac (tUn qhc (tC (.int 1))) qaA)))) (qak 6) (qcE K))
    (qdC K))
noncomputable def qdE (K:W.Frag):TS:=
  (qaJ (qaV (tOp qo7 (qfZ (qac (tC (.int 0)) qaA)) (tCB qpX (qac (tOp qen (tCB qbU (qac (qaf 0) qaA)) (qaf 4)) (qac (tC (.int 0)) qaA)))) (qak 5))
    (qdD K))
noncomputable def qdF (K:W.Frag):TS:=
  (qaJ (qaV (tOp qen (tCB qbU (qac (qaf 1) qaA)) (tC (.int 1))) (qak 4))
    (qdE K))
noncomputable def qc9 (K:W.Frag):TS:=
  (qaJ (qaV (tCB qhF (qac (qaf 0) qaA)) (qak 3))
    (qdF K))
noncomputable def qdw (K:W.Frag):TS:=
  (qb3 (tOp gT (qaz (qa6 K) [] E0 (qac (qaf 0) (qac (qaf 1) (qac (qaf 2) qaA)))) (tC (.int 1))))
noncomputable def qcF (K:W.Frag):TS:=
  (qaJ (qaV (qaz (qaO K) [] E0 (qac (qaz (qaW K) [] E0 (qac (qaf 0) (qac (qaf 2) qaA))) (qac (qaf 2) qaA))) (qak 0))
    (qaJ (qaV (qaz (qaO K) [] E0 (qac (qaz (qaW K) [] E0 (qac (qaf 1) (qac (qaf 2) qaA))) (qac (qaf 2) qaA))) (qak 1))
    (qaJ (qcN (qje (qaf 1)) (qaJ (qaV (qaz (qbd K) [] E0 (qac (qaf 0) (qac (qaf 1) (qac (qaf 2) qaA)))) (qak 3))
    (qaJ (qaV (qaf 1) (qak 0))
    (qaV (qaz (qaO K) [] E0 (qac (qaf 3) (qac (qaf 2) qaA))) (qak 1)))))
    (qb3 (qaf 0)))))
noncomputable def qgI (K:W.Frag):TS:=
  (qaJ (qaV (tOp qh7 (qaf 0) (qaf 1)) (qak 2))
    (qb3 (tIf (qbi (tOp iGt (tOp qeo (tC (.int 2)) (qaf 2)) (qaf 1))) (tOp qen (qaf 2) (qaf 1)) (qaf 2))))
noncomputable def qb2 (K:W.Frag):TS:=
  (qaJ (qaV (qaz (qaq K) [] E0 (qac (tOp gL (qaf 0) (tUn qhc (tC (.int 1)))) (qac (tOp gL (qaf 1) (tUn qhc (tC (.int 1)))) qaA))) (qak 3))
    (qaJ (qgk (qbi (tOp rEq (tOp qh7 (qaf 3) (qaf 2)) (tC (.int 0)))) (qb3 (tC .non)) qcp)
    (qaJ (qaV (qaz (qa1 K) [] E0 (qac (qaf 0) (qac (qaf 1) (qac (qaf 2) qaA)))) (qak 4))
    (qaJ (qaV (qaz (qay K) [] E0 (qac (qci (qc1 K (qaf 4)) [none,some 2,some 3] (qak 0) (qaz (qbZ K) [] E0 (qac (tOp qeo (qaf 2) (qaf 0)) (qac (qaf 1) qaA)))) qaA)) (qak 5))
    (qaJ (qgk (tOr (qbi (tOp qrq (qaz (qaN K) [] E0 (qac (qaf 0) (qac (qaf 5) qaA))) (tC .non))) (qbi (tOp qrq (qaz (qaN K) [] E0 (qac (qaf 1) (qac (qaf 5) qaA))) (tC .non)))) (qb3 (tC .non)) qcp)
    (qb3 (qaf 5)))))))
noncomputable def qeg (K:W.Frag):TS:=
  (qaJ (qaV (qaz (qay K) [] E0 (qac (qaf 0) qaA)) (qak 2))
    (qaJ (qaV (qaz (qay K) [] E0 (qac (qaf 1) qaA)) (qak 3))
    (qaJ (qgk (qnC (qje (qaf 0)) (qje (qaf 1))) (qf8 (qpU K (tC (.ref (qbX K)))) (qak 4) (qaJ (qaV (qaz (qaP K) [] E0 (qac (qaf 2) (qac (qaf 3) (qac (tOp qen (qaz (qcx K) [] E0 (qac (tC (.int 2)) (qac (qaf 4) qaA))) (tC (.int 1))) qaA)))) (qak 5))
    (qgk (qbi (tOp qpb (qaf 5) (tC .non))) (qb3 (qaf 5)) qcp))) qcp)
    (qb3 (tOp gL (qaz (qaR K) [] E0 (qac (qfZ (qac (qaf 2) qaA)) (qac (qfZ (qac (qaf 3) qaA)) qaA))) (tC (.int 0)))))))
noncomputable def qeu (K:W.Frag):TS:=
  (qb3 (tIf (qbi (tOp iGt (tOp gL (qaf 2) (tUn qhc (tC (.int 1)))) (tC (.int 0)))) (qaf 2) (qci (qc1 K (qaf 2)) [none] (qak 0) (tUn qhc (qaf 0)))))
noncomputable def qev (K:W.Frag):TS:=
  (qaJ (qaV (qaz (qaN K) [] E0 (qac (qaf 1) (qac (qaz (qaX K) [] E0 (qac (qaf 1) (qac (qaz (qbb K) [] E0 (qac (qaf 1) qaA)) qaA))) qaA))) (qak 2))
    (qeu K))
noncomputable def qeh (K:W.Frag):TS:=
  (qaJ (qaV (qaz (qay K) [] E0 (qac (qaf 0) qaA)) (qak 1))
    (qev K))
noncomputable def qj3 (K:W.Frag):TS:=
  (qaJ (qaV (qaz (qaq K) [] E0 (qac (qaf 0) (qac (qaf 1) qaA))) (qak 2))
    (qaJ (qgk (qbi (tOp iLt (qaf 1) (tC (.int 0)))) (qaV (tUn qhc (qaf 2)) (qak 2)) qcp)
    (qb3 (qnK (qac (tOp qhe (qaf 0) (qaf 2)) (qac (tOp qhe (qaf 1) (qaf 2)) qaA))))))
noncomputable def qmH (K:W.Frag):TS:=
  (qaJ (qaV (tCB qbU (qac (qaf 0) qaA)) (qak 1))
    (qaJ (qcN (qnC (qbi (tOp iGt (qaf 1) (tC (.int 0)))) (qbi (tOp rEq (tOp gT (tOp gL (qaf 0) (tOp qen (qaf 1) (tC (.int 1)))) (tC (.int 0))) (tC (.int 0))))) (qnF 1 (tC (.int 1)) qen))
    (qb3 (tCB qlh (qac (tSl sL (qaf 0) qcs (qgm (qaf 1))) qaA)))))
noncomputable def qgJ (K:W.Frag):TS:=
  (qaJ (qaV (tC (.int 1)) (qak 1))
    (qaJ (qf8 (qpU K (qaf 0)) (qak 2) (qnF 1 (tOp qjU (tOp gT (qaf 2) (tC (.int 1))) (qaz (qaq K) [] E0 (qac (qaf 1) (qac (tOp gT (qaf 2) (tC (.int 1))) qaA)))) qeo))
    (qb3 (qnK (qac (qci (qpU K (qaf 0)) [none,some 1] (qak 0) (tOp qeo (tOp gT (qaf 0) (tC (.int 0))) (tOp qjU (qaf 1) (tOp gT (qaf 0) (tC (.int 1)))))) (qac (qaf 1) qaA))))))
noncomputable def qeM (K:W.Frag):TS:=
  (qb3 (qaz (qeK K) [] E0 (qac (qci (qc1 K (qaf 0)) [none,some 1] (qak 0) (qaz (qcT K) [] E0 (qac (qaf 0) (qac (qaf 1) qaA)))) qaA)))
noncomputable def qcG (K:W.Frag):TS:=
  (qaV (qaz (qaN K) [] E0 (qac (qaf 2) (qac (qaf 5) qaA))) (qak 2))
noncomputable def qcH (K:W.Frag):TS:=
  (qaJ (qaV (qaf 5) (qak 3))
    (qcG K))
noncomputable def qcI (K:W.Frag):TS:=
  (qaJ (qhY (tBM K "list" qdW (qaf 4) (qac (qaz (qa2 K) [] E0 (qac (qaz (qaN K) [] E0 (qac (qaf 3) (qac (qaf 5) qaA))) qaA)) qaA)))
    (qcH K))
noncomputable def qcJ (K:W.Frag):TS:=
  (qaJ (qaV (qaz (qaX K) [] E0 (qac (qaf 3) (qac (qaf 2) qaA))) (qak 5))
    (qcI K))
noncomputable def qdG (K:W.Frag):TS:=
  (qb3 (qaf 4))
noncomputable def qdH (K:W.Frag):TS:=
  (qaJ (qcN (qbi (tOp iGt (tCB qbU (qac (qaf 3) qaA)) (tC (.int 1)))) (qcJ K))
    (qdG K))
noncomputable def qdI (K:W.Frag):TS:=
  (qaJ (qaV (qfZ qaA) (qak 4))
    (qdH K))
noncomputable def qdJ (K:W.Frag):TS:=
  (qaJ (qaV (qaz (qaN K) [] E0 (qac (qaf 1) (qac (qaf 2) qaA))) (qak 3))
    (qdI K))
noncomputable def qdK (K:W.Frag):TS:=
  (qaJ (qaV (qaz (qaX K) [] E0 (qac (qaf 1) (qac (qaz (qbb K) [] E0 (qac (qaf 1) qaA)) qaA))) (qak 2))
    (qdJ K))
noncomputable def qda (K:W.Frag):TS:=
  (qaJ (qaV (qaz (qay K) [] E0 (qac (tOp gT (qaz (qbA K) [] E0 (qac (qaf 0) qaA)) (tC (.int 0))) qaA)) (qak 1))
    (qdK K))
noncomputable def qei (K:W.Frag):TS:=
  (qb3 (qaz (qbx K) [] E0 (qac (qaf 0) (qac (tOp gL (qaf 0) (tUn qhc (tC (.int 1)))) qaA))))
noncomputable def qgK (K:W.Frag):TS:=
  (qb3 (qaz (qa2 K) [] E0 (qac (qaz (qbl K) [] E0 (qac (tOp gT (qaz (qbA K) [] E0 (qac (qaf 0) qaA)) (tC (.int 0))) qaA)) qaA)))
noncomputable def qiq (K:W.Frag):TS:=
  (qaJ (qaV (tCB qll (qac (tSl (sS K) (qaf 0) qcs (qgm (tC (.int 1)))) qaA)) (qak 1))
    (qb3 (qfZ (qac (tCB qhF (qac (tSl (sS K) (qaf 0) qcs (qgm (tC (.int 63)))) qaA)) (qac (tC (.int 0)) (qac (tOp qjb (tCB qnM (qac (qaf 1) qaA)) (tC (.int 2))) (qac (tOp qh7 (qaf 1) (tC (.int 2))) qaA)))))))
noncomputable def qe7 (K:W.Frag):TS:=
  (qaV (tCB qnM (qac (tOp gL (tOp gL (qaf 0) (tC (.int 0))) (tOp gL (qaf 0) (tC (.int 1)))) qaA)) (qlE (qaf 0) (tC (.int 2)) qeV))
noncomputable def qe8 (K:W.Frag):TS:=
  (qaJ (qaV (tOp qeS (tOp gL (qaf 0) (tC (.int 1))) (tC (.int 1))) (qlE (qaf 0) (tC (.int 1)) qeV))
    (qe7 K))
noncomputable def qe9 (K:W.Frag):TS:=
  (qb3 (qaf 2))
noncomputable def qfa (K:W.Frag):TS:=
  (qaJ (qaV (tOp qjb (tOp gL (qaf 0) (tC (.int 2))) (qaf 1)) (qlE (qaf 0) (tC (.int 2)) qeV))
    (qe9 K))
noncomputable def qfb (K:W.Frag):TS:=
  (qaJ (qaV (tOp qh7 (tOp gL (qaf 0) (tC (.int 2))) (qaf 1)) (qak 2))
    (qfa K))
noncomputable def qhH (K:W.Frag):TS:=
  (qb3 (tOp qh7 (tOp qjb (qaf 5) (tC (.int 7))) (qaf 1)))
noncomputable def qhI (K:W.Frag):TS:=
  (qaJ (qaV (tOp qh7 (tOp qeS (tOp qeo (qaf 4) (tOp qeS (tOp qh7 (qaf 4) (tC (.int 39373))) (tOp gL (qaf 0) (tC (.int 1))))) (tOp qeo (tC (.int 31)) (tOp gL (qaf 0) (tC (.int 1))))) (tC (.int 1999999973))) (qak 5))
    (qhH K))
noncomputable def qhJ (K:W.Frag):TS:=
  (qaJ (qaV (tOp qh7 (tOp qeo (tOp qeS (tOp qeS (tOp qh7 (qaf 3) (tC (.int 2147483629))) (tOp qeo (tC (.int 7919)) (tOp gL (qaf 0) (tC (.int 1))))) (tC (.int 11))) (tOp qeS (tC (.int 48271)) (tOp qeo (tC (.int 2)) (tOp gL (qaf 0) (tC (.int 1)))))) (tC (.int 2147483647))) (qak 4))
    (qhI K))
noncomputable def qhK (K:W.Frag):TS:=
  (qaJ (qaV (tCB qll (qac (tSl sL (tSl sL (tOp gL (qaf 0) (tC (.int 0))) (qgm (tOp qh7 (tOp gL (qaf 0) (tC (.int 1))) (tCB qpX (qac (tC (.int 1)) (qac (tCB qbU (qac (tOp gL (qaf 0) (tC (.int 0))) qaA)) qaA))))) qcs) qcs (qgm (tC (.int 1)))) qaA)) (qak 3))
    (qhJ K))
noncomputable def qfx (K:W.Frag):TS:=
  (qaJ (qaV (tOp qeS (tOp gL (qaf 0) (tC (.int 1))) (tC (.int 1))) (qlE (qaf 0) (tC (.int 1)) qeV))
    (qhK K))
noncomputable def qfy (K:W.Frag):TS:=
  (qaJ (qgk (qnC (qbi (tOp rEq (tOp gL (qaf 0) (tC (.int 3))) (tC (.int 1)))) (qbi (tOp iGt (tOp gL (qaf 0) (tC (.int 2))) (tC (.int 0))))) (qfb K) qcp)
    (qfx K))
noncomputable def qir (K:W.Frag):TS:=
  (qaJ (qgk (qnC (qbi (tOp rEq (tOp gL (qaf 0) (tC (.int 3))) (tC (.int 1)))) (qnC (qbi (tOp rEq (tOp gL (qaf 0) (tC (.int 2))) (tC (.int 0)))) (qbi (tOp iLt (tOp qeS (tOp gL (qaf 0) (tC (.int 1))) (tC (.int 1))) (tCB qbU (qac (tOp gL (qaf 0) (tC (.int 0))) qaA)))))) (qe8 K) qcp)
    (qfy K))
noncomputable def qfz (K:W.Frag):TS:=
  (qaJ (qqd 2 3 (qac (tCB qnM (qac (qaf 0) qaA)) (qac (tCB qnM (qac (qaf 1) qaA)) qaA)))
    (qaJ (qcN (qbi (tOp iGt (qaf 3) (tC (.int 0)))) (qqd 2 3 (qac (qaf 3) (qac (tOp qh7 (qaf 2) (qaf 3)) qaA))))
    (qaJ (qgk (qbi (tOp iLt (qaf 1) (tC (.int 0)))) (qaV (tUn qhc (qaf 2)) (qak 2)) qcp)
    (qb3 (qnK (qac (tOp qhe (qaf 0) (qaf 2)) (qac (tOp qhe (qaf 1) (qaf 2)) qaA)))))))
noncomputable def qdx (K:W.Frag):TS:=
  (qaJ (qaV (tOp qo7 (qfZ (qac (tC (.int 0)) qaA)) (tOp qen (tOp qeS (tCB qbU (qac (qaf 0) qaA)) (tCB qbU (qac (qaf 1) qaA))) (tC (.int 1)))) (qak 2))
    (qaJ (qf8 (qhE K (qac (qaf 0) qaA)) (qhd 2 (qdR (qak 3) (qdR (qak 4) qnD))) (qf8 (qhE K (qac (qaf 1) qaA)) (qhd 2 (qdR (qak 5) (qdR (qak 6) qnD))) (qaV (tOp qeS (tOp gL (qaf 2) (tOp qeS (qaf 3) (qaf 5))) (tOp qeo (qaf 4) (qaf 6))) (qlE (qaf 2) (tOp qeS (qaf 3) (qaf 5)) qeV))))
    (qb3 (qaf 2))))
noncomputable def qeN (K:W.Frag):TS:=
  (qb3 (tCB qlh (qac (qci (qc1 K (qaf 0)) [none,some 1] (qak 0) (qaz (qa7 K) [] E0 (qac (tOp qeo (qaf 0) (tOp gT (qaf 1) (tC (.int 0)))) (qac (tOp gT (qaf 1) (tC (.int 1))) qaA)))) qaA)))
noncomputable def qis (K:W.Frag):TS:=
  (qaV (tOp qeS (tC (.int 1)) (qaz (qaI K) [] E0 (qac (qaf 0) (qac (tOp qpW (tC (.int 10)) (tC (.int 4))) qaA)))) (qak 3))
noncomputable def qit (K:W.Frag):TS:=
  (qaJ (qaV (tOp qeS (tOp qen (qaz (qaI K) [] E0 (qac (qaf 0) (qac (tOp qen (tOp qeo (tC (.int 2)) (tOp qpW (tC (.int 10)) (tC (.int 5)))) (tC (.int 1))) qaA))) (tOp qpW (tC (.int 10)) (tC (.int 5)))) (tC (.int 1))) (qak 2))
    (qis K))
noncomputable def qhL (K:W.Frag):TS:=
  (qb3 (qaz (qa7 K) [] E0 (qac (qaf 2) (qac (qaf 3) qaA))))
noncomputable def qhM (K:W.Frag):TS:=
  (qaJ (qgk (tB (qaf 1)) (qit K) qcp)
    (qhL K))
noncomputable def qhN (K:W.Frag):TS:=
  (qaJ (qaV (tOp qeS (tC (.int 1)) (qaz (qaI K) [] E0 (qac (qaf 0) (qac (tC (.int 6)) qaA)))) (qak 3))
    (qhM K))
noncomputable def qiu (K:W.Frag):TS:=
  (qaJ (qaV (tOp qen (qaz (qaI K) [] E0 (qac (qaf 0) (qac (tC (.int 19)) qaA))) (tC (.int 9))) (qak 2))
    (qhN K))
noncomputable def qew (K:W.Frag):TS:=
  (qb3 (tOp qro (qaf 2) (qfZ (qac (tOp qeS (tC (.int 1)) (tOp qeo (tC (.int 2)) (qaz (qaI K) [] E0 (qac (qaf 0) (qac (tC (.int 2)) qaA))))) qaA))))
noncomputable def qex (K:W.Frag):TS:=
  (qaJ (qf8 (qi1 (qac (tOp qen (qaf 1) (tC (.int 1))) qaA)) (qak 3) (qhY (tBM K "list" qdW (qaf 2) (qac (tOp qeo (tC (.int 2)) (tOp qen (qaz (qaI K) [] E0 (qac (qaf 0) (qac (tC (.int 7)) qaA))) (tC (.int 3)))) qaA))))
    (qew K))
noncomputable def qej (K:W.Frag):TS:=
  (qaJ (qaV (qfZ (qac (tOp qeo (tC (.int 2)) (tOp qen (tOp qeo (tC (.int 2)) (qaz (qaI K) [] E0 (qac (qaf 0) (qac (tC (.int 7)) qaA)))) (tC (.int 7)))) qaA)) (qak 2))
    (qex K))
noncomputable def qgL (K:W.Frag):TS:=
  (qb3 (qaz (qa7 K) [] E0 (qac (tOp qeo (tOp gL (qfZ (qac (tC (.int 1)) (qac (tUn qhc (tC (.int 1))) qaA))) (qaz (qaI K) [] E0 (qac (qaf 0) (qac (tC (.int 2)) qaA)))) (tOp qeS (tC (.int 1)) (qaz (qaI K) [] E0 (qac (qaf 0) (qac (tC (.int 9)) qaA))))) (qac (tOp qeS (tC (.int 1)) (qaz (qaI K) [] E0 (qac (qaf 0) (qac (tC (.int 9)) qaA)))) qaA))))
noncomputable def qek (K:W.Frag):TS:=
  (qb3 (tCB qlh (qac (qci (qc1 K (qaf 0)) [none,some 0] (qak 0) (qaz (qa7 K) [] E0 (qac (qaf 0) (qac (tOp gL (qaf 1) (tUn qhc (tC (.int 1)))) qaA)))) qaA)))
noncomputable def qdL (K:W.Frag):TS:=
  (qgk (qnC (qbi (tOp (inD true) (qaz (qaQ K) [] E0 (qac (qaf 5) qaA)) (qaf 7))) (qbi (tOp iLt (tOp qeS (qaf 8) (tOp qeo (tOp qen (tCB qbU (qac (qaf 5) qaA)) (tC (.int 1))) (qaf 6))) (tC (.int 9))))) (qhY (tBM K "list" qdW (qaf 1) (qac (qnK (qac (qaf 5) (qac (qaf 6) qaA))) qaA))) qcp)
noncomputable def qdM (K:W.Frag):TS:=
  (qaJ (qaV (tCB qll (qac (qci (qc1 K (qaf 1)) [none,none] (qhd 2 (qdR (qak 0) (qdR (qak 1) qnD))) (tOp qeo (tOp qen (tCB qbU (qac (qaf 0) qaA)) (tC (.int 1))) (qaf 1))) qaA)) (qak 8))
    (qdL K))
noncomputable def qdN (K:W.Frag):TS:=
  (qaJ (qaV (qci (qc1 K (qaf 1)) [none,none] (qhd 2 (qdR (qak 0) (qdR (qak 1) qnD))) (qaz (qaQ K) [] E0 (qac (qaf 0) qaA))) (qak 7))
    (qdM K))
noncomputable def qcm (K:W.Frag):TS:=
  (qaJ (qaV (tOp qeS (tC (.int 1)) (qaz (qaI K) [] E0 (qac (qaf 0) (qac (qaf 2) qaA)))) (qak 6))
    (qdN K))
noncomputable def qdO (K:W.Frag):TS:=
  (qaJ (qgk (qbi (tOp rEq (qaz (qaI K) [] E0 (qac (qaf 0) (qac (tC (.int 4)) qaA))) (tC (.int 0)))) (qaV (qaz (qbm K) [] E0 (qac (qaf 0) (qac (tOp qeS (tC (.int 2)) (qaz (qaI K) [] E0 (qac (qaf 0) (qac (tC (.int 2)) qaA)))) qaA))) (qak 5)) qcp)
    (qcm K))
noncomputable def qdP (K:W.Frag):TS:=
  (qaJ (qaV (qfZ (qac (tUn qhc (tOp gT (qaf 4) (tC (.int 0)))) (qac (tOp gT (qaf 4) (tC (.int 1))) qaA))) (qak 5))
    (qdO K))
noncomputable def qdQ (K:W.Frag):TS:=
  (qaJ (qaV (qaz (qcz K) [] E0 (qac (qaf 0) (qac (tC (.bl false)) qaA))) (qak 4))
    (qdP K))
noncomputable def qdy (K:W.Frag):TS:=
  (qb3 (qaf 1))
noncomputable def qfc (K:W.Frag):TS:=
  (qaJ (qf8 (qi1 (qac (qaz (qaI K) [] E0 (qac (qaf 0) (qac (tC (.int 5)) qaA))) qaA)) (qak 3) (qdQ K))
    (qdy K))
noncomputable def qfd (K:W.Frag):TS:=
  (qaJ (qaV (tOp gL (qfZ (qac (tC (.int 8)) (qac (tC (.int 4)) qaA))) (tCB qnN (qac (tOp iGt (qaz (qaI K) [] E0 (qac (qaf 0) (qac (tC (.int 8)) qaA))) (tC (.int 0))) qaA))) (qak 2))
    (qfc K))
noncomputable def qeO (K:W.Frag):TS:=
  (qaJ (qaV (qfZ qaA) (qak 1))
    (qfd K))
noncomputable def qhO (K:W.Frag):TS:=
  (qf8 (qi1 (qac (qaf 7) qaA)) (qak 8) (qaV (qaz (qaY K) [] E0 (qac (qaf 3) (qac (qaf 6) qaA))) (qak 3)))
noncomputable def qhP (K:W.Frag):TS:=
  (qaJ (qaV (qaz (qaY K) [] E0 (qac (tOp gL (qaf 5) (tOp qen (qaf 7) (tC (.int 1)))) (qac (qaf 6) qaA))) (qlE (qaf 5) (tOp qen (qaf 7) (tC (.int 1))) qeV))
    (qhO K))
noncomputable def qhQ (K:W.Frag):TS:=
  (qaJ (qcN (qbi (tOp iLt (tCB qbU (qac (qaf 5) qaA)) (qaf 7))) (qhY (tBM K "list" qdW (qaf 5) (qac (qfZ (qac (tC (.int 1)) qaA)) qaA))))
    (qhP K))
noncomputable def qhR (K:W.Frag):TS:=
  (qaJ (qaV (qaz (qaY K) [] E0 (qac (qaf 4) (qac (qaf 6) qaA))) (qak 4))
    (qhQ K))
noncomputable def qkK (K:W.Frag):TS:=
  (qb3 (tOp eqD (qaz (qa0 K) [] E0 (qac (qaf 9) qaA)) (qaf 10)))
noncomputable def qkL (K:W.Frag):TS:=
  (qaJ (qhY (tBM K "list" qdW (qaf 11) (qac (qnK qaA) qaA)))
    (qkK K))
noncomputable def qmI (K:W.Frag):TS:=
  (qaJ (qgk (tOr (qp9 (tB (tCB qrp (qac (qaf 11) (qac (tC (.ty "list")) qaA))))) (tOr (qbi (tOp neD (qaf 11) (qaf 10))) (qbi (tOp neD (qaz (qb1 K) [] E0 (qac (qaf 9) qaA)) (qaz (qaQ K) [] E0 (qac (qaf 4) qaA)))))) (qb3 (tC (.bl false))) qcp)
    (qkL K))
noncomputable def qmJ (K:W.Frag):TS:=
  (qaJ (qaV (qaz (qa0 K) [] E0 (qac (qaf 9) qaA)) (qak 11))
    (qmI K))
noncomputable def qmK (K:W.Frag):TS:=
  (qaJ (qaV (qci (qc1 K (qaf 5)) [none] (qak 0) (qaz (qaQ K) [] E0 (qac (qaf 0) qaA))) (qak 10))
    (qmJ K))
noncomputable def qmL (K:W.Frag):TS:=
  (qaJ (qaV (qaz (qby K) [] E0 (qac (qaf 3) (qac (qaz (qb0 K) [] E0 (qac (qaf 1) qaA)) qaA))) (qak 9))
    (qmK K))
noncomputable def qmM (K:W.Frag):TS:=
  (qaJ (qf8 (qc1 K (qaf 2)) (qhd 2 (qdR (qak 6) (qdR (qak 7) qnD))) (qhR K))
    (qmL K))
noncomputable def qmN (K:W.Frag):TS:=
  (qaJ (qaV (qfZ qaA) (qak 5))
    (qmM K))
noncomputable def qmO (K:W.Frag):TS:=
  (qaJ (qaV (qfZ (qac (tC (.int 1)) qaA)) (qak 4))
    (qmN K))
noncomputable def qmP (K:W.Frag):TS:=
  (qaJ (qaV (qfZ (qac (tC (.int 1)) qaA)) (qak 3))
    (qmO K))
noncomputable def qmQ (K:W.Frag):TS:=
  (qaJ (qaV (qaz (qbz K) [] E0 (qac (qaf 1) qaA)) (qak 2))
    (qmP K))
noncomputable def qpn (K:W.Frag):TS:=
  (qaJ (qaV (qaz (qcy K) [] E0 (qac (qaf 0) qaA)) (qak 1))
    (qmQ K))
end Bs
namespace Bs
open PySem L2
variable {K:W.Frag} {vs:List V} {H:Hp} {Q:VK} {E:XK}
local macro_rules | `(tactic| rwa [$[$t:term],*]) => do
  let l : Array Lean.Term := (("qaJ qaV qaz qac qaf qaA qak qlE L2.start qgk tIf qbi L2.tB tOp rI0 rI L2.tC tUn rU qcp qb3 qnK qfZ qqd qnF qhY tCB qox qnC tOr qp9 qqa qr1 qqb rEq rNe qeV qeS qen qeo qjb qql qh7 qo9 qpW iLt iLe iGt iGe qhc gT gL gS qnM qpX qr4 qnN qqm qbU qqn qrp ql3 qfO qoz eqT ql4 ql5 qoA qoB List.map_cons List.map_nil List.length_cons List.length_nil List.replicate List.cons_append List.nil_append List.append_nil List.getElem?_cons_zero List.getElem?_cons_succ Option.some.injEq exists_eq_left' exists_eq_left V.int.injEq V.bl.injEq V.ref.injEq V.ty.injEq HO.tup.injEq HO.lst.injEq List.cons.injEq and_true true_and and_assoc exists_and_left List.set_cons_zero List.set_cons_succ decide_eq_true_eq decide_eq_false_iff_not Bool.not_eq_true' Bool.true_eq_false Bool.false_eq_true Bool.not_true Bool.not_false if_true if_false ite_true ite_false ql6 ql7 qku qkv qhy qhz qhA qhB qhC Nat.zero_add Nat.reduceAdd Nat.reduceSub upd_same Int.cast_ofNat_Int decide_true decide_false eq_self not_true_eq_false not_false_eq_true Int.natCast_add Int.natCast_zero reduceCtorEq Nm qhd qdR qnD qk8 tSl qcs qgm sL sT qlh qoC qhF qje qqG qo7 qro qdW qh1 qr3 tBM qr2 qkw qkx qmc qmd qky qmm qkA qme qmf qmj qmk qnR qpd qnS qrq qpb qjU qhe qrF qpc qc6 Option.bind_some Option.bind_none Option.bind Option.join id_eq sS qll qqK qaq qcx qbY qaK qbk qaN qbD qbc qaE qay qaR qaU qa5 qaW qaO qa6 qbd qa1 qbZ qaP qaX qcT qeK qbA qbx qoN qbb qbl qa2 qa0 qb1 qcy qaI qaY qby qb0 qaQ qcz qbm qbz".splitOn " ").map fun s => (⟨(Lean.mkIdent s.toName).raw⟩ : Lean.Term)).toArray
  `(tactic| simp only [$[$(l ++ t):term],*])
theorem qrQ {x:Int} (h1:-1099511627776<x) (h2:x<1099511627776):Bd 40 x:=by
  show x.natAbs<1099511627776
  omega
theorem qn4 {a b:Int} (ha:Bd 60000000 a) (hb:Bd 60000000 b):IntMulOk a b:=qqL ha hb (by decide)
theorem qrr {a b:Int} (h1:-18446744073709551616<b) (h2:b<18446744073709551616):IntMulOk a b:=IntMulOk.of_right (intBits_le_64 (by omega) (by omega))
theorem qp0 {a b:Int} (h1:-18446744073709551616<a) (h2:a<18446744073709551616):IntMulOk a b:=IntMulOk.of_left (intBits_le_64 (by omega) (by omega))
theorem qfA (h:qaq K vs H Q E):qck K { nx:=fun _ H'=>Q .non H',rt:=Q } (L2.start ["one", "other", "rest"] vs) H:=by
  obtain ⟨a,b,rfl,q⟩:=h
  unfold qck
  rwa []
  refine while_by (fun m σ H'=>∃ (x y:Int) (r:Option V),σ=[some (.int x),some (.int y),r]∧H'=H∧Int.gcd x y=Int.gcd a b∧m=y.natAbs) b.natAbs ⟨a,b,none,rfl,rfl,rfl,rfl⟩ ?_
  rintro m σ H' ⟨x,y,r,rfl,rfl,hg,rfl⟩
  rwa []
  refine qcM (fun c=>?_) (fun c=>?_)
  · refine ⟨fun σ' H''=>∃ m',m'<y.natAbs∧_,fun _ _ h=>h,?_⟩
    refine ⟨c,_,ql2 x c,y,x.fmod y,_,rfl,rfl,?_,rfl⟩
    rw [qkt];exact hg
  · have y0:y=0:=Decidable.not_not.mp c
    subst y0
    have e:(if x<0 then -x else x)=((Int.gcd a b:Nat):Int):=by
      rw [← hg,Int.gcd_zero_right];split <;> omega
    rw [e];exact q
theorem qn5 {ns:List Int} {k:Int} (h0:0≤k) (h:k<(ns.length:Int)):∃ v:Int,atI (ns.map V.int) k=some (.int v):=by
  have hk:k.toNat<ns.length:=by omega
  have ek:k=((k.toNat:Nat):Int):=by omega
  have q:atI (ns.map V.int) ((k.toNat:Nat):Int)=some (.int ns[k.toNat]):=qlW (by rw [List.getElem?_map,List.getElem?_eq_getElem hk] <;> rfl)
  rw [← ek] at q
  exact ⟨_,q⟩
theorem qmR (h:qcx K vs H Q E):qip K { nx:=fun _ H'=>Q .non H',rt:=Q } (L2.start ["whole", "n", "result", "square"] vs) H:=by
  obtain ⟨x,n,b,rfl,n0,bx,hb,q⟩:=h
  unfold qip
  rwa []
  have BP:∀ k:Nat,k≤n.toNat→Bd 60000000 (x ^ k):=fun k hk=>(bx.pow k).mono (by
    have:=Nat.mul_le_mul_left b hk
    omega)
  refine while_by (fun m σ H'=>∃ r s:Nat,σ=[some (.int x),some (.int (m:Int)),some (.int (x ^ r)),some (.int (x ^ s))]∧H'=H∧r+s*m=n.toNat) n.toNat ⟨0,1,?_,rfl,by omega⟩ ?_
  · have e:((n.toNat:Nat):Int)=n:=by omega
    rw [e,Int.pow_zero,show x ^ 1=x by rw [Int.pow_succ,Int.pow_zero,Int.one_mul]]
  rintro m σ H' ⟨r,s,rfl,rfl,hm⟩
  rwa []
  refine qcM (fun c=>?_) (fun c=>?_)
  · have m1:1≤m:=by omega
    have sl:s≤s*m:=Nat.le_mul_of_pos_right s m1
    have d2:qrD (m:Int) 2:=⟨by decide,(qsi (by decide) (by decide)).mono (by decide)⟩
    have hm2:s*m=(s+s)*(m / 2)+s*(m % 2):=by
      have e:m=2*(m / 2)+m % 2:=(Nat.div_add_mod m 2).symm
      generalize m / 2=u at e ⊢
      generalize m % 2=v at e ⊢
      subst e
      rw [Nat.mul_add]
      congr 1
      rw [← Nat.mul_assoc,Nat.mul_comm s 2]
      congr 1
      omega
    have ed:((m:Int) / 2)=((m / 2:Nat):Int):=by omega
    rw [ed]
    refine ⟨fun σ' H''=>∃ m',m'<m∧_,fun _ _ h=>h,?_⟩
    have fin:∀ r':Nat,r'+(s+s)*(m / 2)=n.toNat→qrD (m:Int) 2∧if 0<((m / 2:Nat):Int) then IntMulOk (x ^ s) (x ^ s)∧∃ m',m'<m∧∃ r s_1,[some (V.int x),some (V.int ((m / 2:Nat):Int)),some (V.int (x ^ r')),some (V.int (x ^ s*x ^ s))]=[some (V.int x),some (V.int (m':Int)),some (V.int (x ^ r)),some (V.int (x ^ s_1))]∧H'=H'∧r+s_1*m'=n.toNat
        else ∃ m',m'<m∧∃ r s_1,[some (V.int x),some (V.int ((m / 2:Nat):Int)),some (V.int (x ^ r')),some (V.int (x ^ s))]=[some (V.int x),some (V.int (m':Int)),some (V.int (x ^ r)),some (V.int (x ^ s_1))]∧H'=H'∧r+s_1*m'=n.toNat:=fun r' hr'=>by
      refine ⟨d2,qcM (fun c2=>?_) (fun c2=>?_)⟩
      · exact ⟨qn4 (BP s (by omega)) (BP s (by omega)),m / 2,by omega,r',s+s,by rw [Int.pow_add],rfl,hr'⟩
      · have z:m / 2=0:=by omega
        rw [z] at hr' ⊢
        exact ⟨0,by omega,r',s,rfl,rfl,by omega⟩
    refine ⟨by decide,qcM (fun c2=>⟨qn4 (BP r (by omega)) (BP s (by omega)),?_⟩) (fun c2=>?_)⟩
    · rw [← Int.pow_add]
      have e1:m % 2=1:=by omega
      rw [e1] at hm2
      exact fin (r+s) (by omega)
    · have e1:m % 2=0:=by omega
      rw [e1] at hm2
      exact fin r (by omega)
  · have z:m=0:=by omega
    subst z
    have e:r=n.toNat:=by omega
    subst e
    exact q
theorem qkM {H:Hp} {Q:VK} {xs:List V} {l:List Nu} {m:Nat} (hN:Nums H xs l) (hm:m≤l.length) (e:qii l l.length=m) (q:qpY H Q (trim l)) :
    ∀ (p:Addr),H p=none→∀ (r:Addr),upd H p (HO.lst (qgn xs none (some (m:Int)))) r=none→Q (V.ref r) (upd (upd H p (HO.lst (qgn xs none (some (m:Int))))) r (HO.tup (qgn xs none (some (m:Int))))):=fun p hp r hr=>by
  have s:=(qag hp (HO.lst (qgn xs none (some (m:Int))))).trans (qag hr (HO.tup (qgn xs none (some (m:Int)))))
  refine q r _ _ s upd_same ?_
  rw [qgG (by rw [hN.length];exact hm)]
  rw [qgG (by rw [hN.length];exact hm)] at s
  unfold trim
  rw [e]
  exact (hN.take m).tp (tpS s)
theorem qlo (l:List Nu) (m:Nat):qii l (m+1)=if (l.getD m (1,1)).1=0 then qii l m else m+1:=rfl
theorem qpo (h:qeK K vs H Q E):qmH K { nx:=fun _ H'=>Q .non H',rt:=Q } (L2.start ["row", "many"] vs) H:=by
  obtain ⟨p,xs,l,rfl,hp,hN,hl,q⟩:=h
  unfold qmH
  rwa [hp]
  have lx:=hN.length
  refine while_by (fun m σ H'=>σ=[some (.ref p),some (.int (m:Int))]∧H'=H∧qii l m=qii l l.length∧m≤l.length) xs.length ⟨rfl,rfl,by rw [lx],by omega⟩ ?_
  rintro m σ H' ⟨rfl,rfl,ht,hm⟩
  rwa [hp]
  refine qcM (fun c=>?_) (fun c=>?_)
  · obtain ⟨k,rfl⟩:∃ k,m=k+1:=⟨m - 1,by omega⟩
    obtain ⟨v,hv,p1,rfl,hp1⟩:=hN.at (i:=k) (by omega) (1,1)
    rw [qlo] at ht
    refine ⟨_,qdB (by omega) hv,p1,rfl,_,hp1,_,rfl,rfl,qcM (fun c2=>?_) (fun c2=>?_)⟩
    · have z:(l.getD k (1,1)).1=0:=by injection c2
      rw [if_pos z] at ht
      exact ⟨fun σ' H''=>∃ m',m'<k+1∧_,fun _ _ h=>h,k,by omega,by rw [show ((k+1:Nat):Int) - 1=(k:Int) by omega],rfl,ht,by omega⟩
    · have z:(l.getD k (1,1)).1≠0:=fun z=>c2 (by rw [z])
      rw [if_neg z] at ht
      exact qkM hN hm ht.symm q
  · have z:m=0:=by omega
    subst z
    exact qkM hN hm ht.symm q
theorem qn6 {l:List Nu} {i:Nat} {q:Nu} (h:l[i]?=some q):(l.take (i+1)).foldl (fun B q=>B*(q.2 / ((Int.gcd B q.2:Nat):Int))) 1=(l.take i).foldl (fun B q=>B*(q.2 / ((Int.gcd B q.2:Nat):Int))) 1*(q.2 / ((Int.gcd ((l.take i).foldl (fun B q=>B*(q.2 / ((Int.gcd B q.2:Nat):Int))) 1) q.2:Nat):Int)):=by
  rw [List.take_add_one,h,List.foldl_append]
  rfl
theorem qbP {α β:Type} {l:List α} {i:Nat} {q:α} (f:α→β) (h:l[i]?=some q):(l.take (i+1)).map f=(l.take i).map f++[f q]:=by
  rw [List.take_add_one,h,List.map_append]
  rfl
theorem qbu (n:Nat) (f:Nat→Int):(qbS n f).length=n:=by unfold qbS;rw [List.length_map,List.length_map,List.length_range]
theorem qbn {n k:Nat} (f:Nat→Int) (h:k<n):(qbS n f)[k]?=some (.int (f k)):=by
  unfold qbS
  rw [List.getElem?_map,List.getElem?_map,List.getElem?_range h]
  rfl
theorem qeq {n k:Nat} {f g:Nat→Int} {z:Int} (h:k<n) (h1:g k=z) (h2:∀ i,i<n→i≠k→g i=f i):(qbS n f).set k (.int z)=qbS n g:=by
  apply List.ext_getElem?
  intro i
  by_cases hi:i<n
  · by_cases e:i=k
    · subst e
      rw [List.getElem?_set_self (by rw [qbu];exact hi),qbn g hi,h1]
    · rw [List.getElem?_set_ne (fun z=>e z.symm),qbn f hi,qbn g hi,h2 i hi e]
  · rw [List.getElem?_eq_none (by rw [List.length_set,qbu];omega),List.getElem?_eq_none (by rw [qbu];omega)]
theorem qdg {n:Nat} {f g:Nat→Int} (h:∀ i,i<n→g i=f i):qbS n f=qbS n g:=by
  apply List.ext_getElem?
  intro i
  by_cases hi:i<n
  · rw [qbn f hi,qbn g hi,h i hi]
  · rw [List.getElem?_eq_none (by rw [qbu];omega),List.getElem?_eq_none (by rw [qbu];omega)]
theorem qiv (n:Nat):(List.replicate n [V.int 0]).flatten=qbS n fun _=>0:=by
  rw [qdt]
  apply List.ext_getElem?
  intro i
  by_cases hi:i<n
  · rw [qbn _ hi,List.getElem?_replicate,if_pos hi]
  · rw [List.getElem?_replicate,if_neg hi,List.getElem?_eq_none (by rw [qbu];omega)]
theorem qgM {n k:Nat} {i:Int} (e:i=(k:Int)) (h:k<n):ixN n i=some k:=by
  subst e
  unfold ixN
  rw [if_pos (by omega),if_pos (by omega)]
  simp
theorem Pl.same {H H':Hp} {r:Addr} {L:List Nu} (h:Pl H r L) (s:Same H H'):Pl H' r L:=let ⟨zs,a,b⟩:=h;⟨zs,s _ _ a,b.tp (tpS s)⟩
theorem Pl.tp {H H':Hp} {r:Addr} {L:List Nu} (h:Pl H r L) (s:Tp H H'):Pl H' r L:=let ⟨zs,a,b⟩:=h;⟨zs,s _ _ a,b.tp s⟩
theorem Pl.rep {H:Hp} {r:Addr} {L:List Nu} (h:Pl H r L):RepD H (.ref r) (qln L):=let ⟨_,a,b⟩:=h;qpZ a b
theorem qr9 {m n:Nat} {x y:Int} (hx:Bd m x) (hy:Bd n y) (hm:m≤60000000:=by decide) (hn:n≤60000000:=by decide):IntMulOk x y:=qn4 (hx.mono hm) (hy.mono hn)
theorem qcK (ns:List Int) (m:Nat):qcn ns (m+1)=if ns.getD m 1=0 then qcn ns m else m+1:=rfl
theorem qhh (h:qaK K vs H Q E):qdu K { nx:=fun _ H'=>Q .non H',rt:=Q } (L2.start ["row", "many"] vs) H:=by
  obtain ⟨p,ns,rfl,hp,q⟩:=h
  unfold qdu
  rwa [hp]
  have fin:∀ m:Nat,m≤ns.length→qcn ns m=qcn ns ns.length→qcn ns m=m→∀ r,H r=none→Q (V.ref r) (upd H r (HO.lst (qgn (ns.map V.int) none (some (m:Int))))):=fun m h1 h2 h3 r hr=>by
    rw [qgG (by rw [List.length_map];exact h1),← List.map_take,← h3,h2]
    exact q r hr
  refine while_by (fun m σ H'=>σ=[some (.ref p),some (.int (m:Int))]∧H'=H∧qcn ns m=qcn ns ns.length∧m≤ns.length) ns.length ⟨by rw [List.length_map],rfl,rfl,Nat.le_refl _⟩ ?_
  rintro m σ H' ⟨rfl,rfl,ht,hm⟩
  rwa [hp]
  refine qcM (fun c=>?_) (fun c=>?_)
  · obtain ⟨k,rfl⟩:∃ k,m=k+1:=⟨m - 1,by omega⟩
    have hv:(ns.map V.int)[k]?=some (V.int (ns.getD k 1)):=by
      rw [List.getElem?_map,List.getElem?_eq_getElem (by omega),List.getD_eq_getElem?_getD,List.getElem?_eq_getElem (by omega)];rfl
    refine ⟨_,qdB (by omega) hv,rfl,qcM (fun c2=>?_) (fun c2=>?_)⟩
    · have z:ns.getD k 1=0:=by injection c2
      rw [qcK,if_pos z] at ht
      exact ⟨fun σ' H''=>∃ m',m'<k+1∧_,fun _ _ h=>h,k,by omega,by rw [show ((k+1:Nat):Int) - 1=(k:Int) by omega],rfl,ht,by omega⟩
    · have z:ns.getD k 1≠0:=fun z=>c2 (by rw [z])
      exact fin (k+1) hm ht (by rw [qcK,if_neg z])
  · have z:m=0:=by omega
    subst z
    exact fin 0 hm ht rfl
theorem qgN (ns:List Int):∀ m,qcn ns m≤m
  | 0=>Nat.le_refl 0
  | m+1=>by
    rw [qcK]
    split
    · exact Nat.le_succ_of_le (qgN ns m)
    · exact Nat.le_refl _
theorem qgO {ns:List Int}:(qd8 ns).length=qcn ns ns.length:=by
  unfold qd8
  rw [List.length_take,Nat.min_eq_left (qgN ns ns.length)]
theorem qjn {ns:List Int} (k:Nat):(qd8 ns).getD k 0=ns.getD k 0:=by
  have key:∀ (m:Nat),m≤ns.length→(∀ j,m≤j→j<ns.length→ns.getD j 0=0)→∀ j,qcn ns m≤j→j<ns.length→ns.getD j 0=0:=by
    intro m
    induction m with
    | zero=>intro _ h j hj1 hj2;exact h j (by omega) hj2
    | succ m ih=>
      intro hm h j h1 h2
      rw [qcK] at h1
      split at h1
      · rename_i z
        refine ih (by omega) (fun j hj1 hj2=>?_) j h1 h2
        by_cases e:j=m
        · subst e
          rw [List.getD_eq_getElem?_getD,List.getElem?_eq_getElem hj2] at z ⊢
          exact z
        · exact h j (by omega) hj2
      · exact h j h1 h2
  by_cases h1:k<qcn ns ns.length
  · unfold qd8
    rw [List.getD_eq_getElem?_getD,List.getD_eq_getElem?_getD,List.getElem?_take_of_lt h1]
  · have e:(qd8 ns).getD k 0=0:=by
      rw [List.getD_eq_getElem?_getD,List.getElem?_eq_none (by rw [qgO];omega)]
      rfl
    rw [e]
    by_cases h2:k<ns.length
    · exact (key ns.length (Nat.le_refl _) (fun j a b=>absurd b (by omega)) k (by omega) h2).symm
    · rw [List.getD_eq_getElem?_getD,List.getElem?_eq_none (by omega)]
      rfl
theorem qqW {n:Nat} {z g:Int} (h:g∣z) (b:Bd n z):Bd n (z / g):=by
  by_cases hz:z=0
  · rw [hz,Int.zero_ediv];exact qdp n
  · exact qgC hz (Int.ediv_dvd_of_dvd h) b
theorem qkN {z g:Int} (hg:g≠0) (h:g∣z):((z / g:Int):Rat)=(z:Rat) / (g:Rat):=by
  obtain ⟨y,rfl⟩:=h
  rw [Int.mul_ediv_cancel_left _ hg]
  have:=qaC hg
  push_cast
  grind
theorem qkO {ns:List Int} {g:Int} (h:∀ z∈ns,g∣z) (k:Nat):g∣ns.getD k 0:=by
  rw [List.getD_eq_getElem?_getD]
  cases e:ns[k]? with
  | none=>exact Int.dvd_zero g
  | some z=>exact h z (List.mem_of_getElem? e)
theorem qmS {m:List Nu} (hm:qaZ m) (nm:Nz m) (h1:1≤m.length):(qeG m).getD (m.length - 1) 0≠0:=by
  rw [qjW,qmv]
  have hb:m.length - 1<m.length:=by omega
  have q:=nm m[m.length - 1] (by rw [List.getLast?_eq_getElem?];exact List.getElem?_eq_getElem hb)
  have e:qbR m (m.length - 1)=m[m.length - 1]:=by unfold qbR;rw [List.getD_eq_getElem?_getD,List.getElem?_eq_getElem hb];rfl
  rw [e]
  refine Int.mul_ne_zero q ?_
  have o:=qeH hm
  have d:=o.2 m[m.length - 1] (List.getElem_mem hb)
  obtain ⟨y,hy⟩:=d
  have p0:=(hm m[m.length - 1] (List.getElem_mem hb)).pos
  rw [hy,Int.mul_ediv_cancel_left _ (Int.ne_of_gt p0)]
  intro z
  rw [z,Int.mul_zero] at hy
  have:=o.1
  omega
theorem atI_last {xs:List V} {v:V} (h:1≤xs.length) (e:xs[xs.length - 1]?=some v):atI xs (-1)=some v:=by
  unfold atI ixN
  rw [if_neg (by decide),if_pos (by omega),show (-1+(xs.length:Int)).toNat=xs.length - 1 by omega]
  exact e
theorem qn7 {n m:Int} (h:0<m):qbV n m=red n m:=by unfold qbV;rw [if_neg (by omega)]
theorem qn8 (h:qcT K vs H Q E):qj3 K { nx:=fun _ H'=>Q .non H',rt:=Q } (L2.start ["top", "bottom", "shared"] vs) H:=by
  obtain ⟨a,b,rfl,hb,q⟩:=h
  unfold qj3
  rwa []
  have go:∀ s:Int,(s=if b<0 then -((Int.gcd a b:Nat):Int) else ((Int.gcd a b:Nat):Int))→qpc a s∧qpc b s∧2≤sizeLine∧∀ (p:Addr),H p=none→Q (V.ref p) (upd H p (HO.tup [V.int (a.fdiv s),V.int (b.fdiv s)])):=fun s hs=>by
    obtain ⟨h1,h2,h3,h4,h5,h6⟩:=qem hb hs
    have e:qbV a b=(a.fdiv s,b.fdiv s):=by
      refine qfu (qcQ hb) h3 ?_
      rw [qdq hb,qeY (q:=(a.fdiv s,b.fdiv s)) (Int.ne_of_gt h3.pos) hb h4]
    rw [e] at q
    exact ⟨h1,h1,sz (by decide),q⟩
  refine qcM (fun c=>?_) (fun c=>?_)
  · exact go _ (by rw [if_pos c])
  · exact go _ (by rw [if_neg c])
theorem qlp (h:qbA K vs H Q E):qgJ K { nx:=fun _ H'=>Q .non H',rt:=Q } (L2.start ["P", "bottom", "number"] vs) H:=by
  obtain ⟨p,xs,l,M,rfl,hp,hN,hL,hO,bM,hB,hl,q⟩:=h
  unfold qgJ
  rwa [hp]
  have lx:=hN.length
  have B0:=(qeH hL).1
  have BB:=qgC (Int.ne_of_gt hO.1) (qkE hL hO) bM
  have qb:∀ q∈l,Bd 400000 q.2:=fun q hq=>qgC (Int.ne_of_gt hO.1) (hO.2 q hq) bM
  refine ⟨⟨_,SqT.of hp⟩,ForT.by (xs:=xs) (fun i σ H'=>∃ x,σ=[some (.ref p),some (.int ((l.take i).foldl (fun B q=>B*(q.2 / ((Int.gcd B q.2:Nat):Int))) 1)),x]∧H'=H) ⟨none,rfl,rfl⟩ ?_ ?_ ?_⟩
  · rintro i σ H' _ ⟨x,rfl,rfl⟩
    exact hp
  · rintro i x σ H' hi ⟨y,rfl,rfl⟩
    obtain ⟨z,hz,p1,rfl,hp1⟩:=hN.get hi
    have zl:=hL z (List.mem_of_getElem? hz)
    have zb:=qb z (List.mem_of_getElem? hz)
    obtain ⟨f1,f3⟩:=qil (M:=M) (l.take i) 1 (fun q hq=>⟨(hL q (List.mem_of_mem_take hq)).pos,hO.2 q (List.mem_of_mem_take hq)⟩) (by decide) (Int.one_dvd M)
    have f4:=qgC (Int.ne_of_gt hO.1) f3 bM
    obtain ⟨s1,_,_,s4,s5,s6⟩:=qij f1 zl.pos
    rwa [hp1]
    refine ⟨s5,qr9 f4 (zb.le s4),?_,_,rfl⟩
    rw [qn6 hz]
  · rintro σ H' ⟨x,rfl,rfl⟩
    rw [lx,List.take_length]
    rwa [hp]
    refine ⟨⟨_,SqT.of hp⟩,CompJ.tup (xs:=xs) (fun i ys H''=>i≤xs.length∧ys=((qeG l).take i).map V.int∧H''=H') ⟨Nat.zero_le _,rfl,rfl⟩ ?_ ?_ ?_⟩
    · rintro i ys H'' ⟨h1,rfl,rfl⟩
      refine ⟨h1,sz ?_,hp⟩
      rw [List.length_map,List.length_take];omega
    · rintro i x ys H'' hi ⟨h1,rfl,rfl⟩
      obtain ⟨z,hz,p1,rfl,hp1⟩:=hN.get hi
      have zl:=hL z (List.mem_of_getElem? hz)
      have zb:=qb z (List.mem_of_getElem? hz)
      have zn:=hB z (List.mem_of_getElem? hz)
      have hi2:i<xs.length:=(List.getElem?_eq_some_iff.mp hi).1
      rwa [hp1]
      have eB:l.foldl (fun B q=>B*(q.2 / ((Int.gcd B q.2:Nat):Int))) 1=qfP l:=rfl
      rw [eB]
      have cz:(qeG l)[i]?=some (z.1*(qfP l / z.2)):=by unfold qeG;rw [List.getElem?_map,hz];rfl
      refine ⟨zl.pos,qr9 zn (BB.le (qhf B0 zl.pos)),by omega,?_⟩
      rw [qbP V.int cz]
    · rintro ys H'' ⟨_,rfl,rfl⟩ a ha
      refine ⟨sz (by decide),fun r hr=>?_⟩
      have e:(qeG l).take xs.length=qeG l:=by
        rw [lx,show l.length=(qeG l).length by unfold qeG;rw [List.length_map],List.take_length]
      rw [e] at hr ⊢
      have s:=(qag ha (HO.lst ((qeG l).map V.int))).trans (qag hr (HO.tup [V.ref a,V.int (qfP l)]))
      exact q r a _ s upd_same (qag hr _ _ _ upd_same)
theorem qjo (h:qbx K vs H Q E):qeM K { nx:=fun _ H'=>Q .non H',rt:=Q } (L2.start ["row", "bottom"] vs) H:=by
  obtain ⟨p,ns,B,rfl,hp,hB,hl,q⟩:=h
  unfold qeM
  rwa [hp]
  refine ⟨⟨_,SqL.of hp⟩,CompJ.lst (xs:=ns.map V.int) (fun i ys H'=>i≤ns.length∧Same H H'∧Nums H' ys ((ns.take i).map fun n=>qbV n B)) ⟨Nat.zero_le _,Same.refl H,trivial⟩ ?_ ?_ ?_⟩
  · rintro i ys H' ⟨h1,s1,hN⟩
    refine ⟨by rw [List.length_map];exact h1,sz ?_,SqL.of (s1 _ _ hp)⟩
    rw [hN.length,List.length_map,List.length_take];omega
  · rintro i x ys H' hi ⟨h1,s1,hN⟩
    rw [List.getElem?_map] at hi
    cases e:ns[i]? with
    | none=>rw [e] at hi;cases hi
    | some n=>
      rw [e] at hi
      obtain rfl:V.int n=x:=Option.some.inj hi
      have hi2:i<ns.length:=(List.getElem?_eq_some_iff.mp e).1
      rwa []
      refine ⟨hB,fun r hr=>⟨by omega,s1.trans (qag hr _),?_⟩⟩
      rw [qbP _ e]
      exact (hN.tp (tpS (qag hr _))).append (Nums.one qjY)
  · rintro ys H' ⟨_,s1,hN⟩ a ha
    rw [List.length_map,List.take_length] at hN
    have s2:=qag ha (HO.lst ys)
    rwa []
    refine ⟨_,hN.tp (tpS s2),by rw [List.length_map];exact hl,fun r zs H'' s3 hr hz=>q r zs H'' ((s1.trans s2).trans s3) hr hz⟩
theorem qqX {b:Nat} {l:List Nu} {M:Int} (hl:qaZ l) (h:Ov l M) (hb:∀ z∈ovN l M,Bd b z):∀ q∈l,Bd b q.1:=fun q hq=>by
  refine (hb (q.1*(M / q.2)) (List.mem_map.mpr ⟨q,hq,rfl⟩)).le ?_
  rw [Int.natAbs_mul]
  obtain ⟨y,hy⟩:=h.2 q hq
  have p0:=(hl q hq).pos
  have m0:=h.1
  have:M / q.2=y:=by rw [hy,Int.mul_ediv_cancel_left _ (Int.ne_of_gt p0)]
  rw [this]
  refine Nat.le_mul_of_pos_right _ ?_
  rcases Nat.eq_zero_or_pos y.natAbs with z | z
  · have y0:y=0:=by omega
    rw [y0] at hy;omega
  · exact z
theorem qjp {g f:List Int} (lg:Lz g) (lf:Lz f) (mq:MQ (co g) (co f)):g.length≤f.length:=by
  obtain ⟨c,c0,A,hA⟩:=mq
  rcases Nat.lt_or_ge f.length g.length with y | y
  · exfalso
    rcases qgE A with z | ⟨B,lB,_,eB⟩
    · have:c*co f (f.length - 1)=0:=by rw [hA,qba,qbN g z]
      rcases Int.mul_eq_zero.mp this with e | e
      · exact c0 e
      · exact lf.2 e
    · have hB:∀ k,c*co f k=cvL B (co g) k:=fun k=>by rw [hA,qba,qai (fun j=>(eB j).symm) g k,← qba]
      have b0:=lB.1
      have g0:=lg.1
      have ne:B≠[]:=List.length_pos_iff.mp b0
      obtain ⟨X,t,hX⟩:∃ X t,B=X++[t]:=⟨B.dropLast,B.getLast ne,(List.dropLast_concat_getLast ne).symm⟩
      have tl:X.length=B.length - 1:=by rw [hX];simp
      have tc:co B (B.length - 1)=t:=by rw [← tl,hX];unfold co;simp [List.getD_eq_getElem?_getD]
      have e:=hB (B.length - 1+(g.length - 1))
      rw [qat (by omega),hX,qbo,← hX,qb4 (n:=g.length) (fun i hi=>qat hi) X _ (by omega)] at e
      unfold upS at e
      rw [if_pos (by omega),show B.length - 1+(g.length - 1) - X.length=g.length - 1 by omega] at e
      have e2:t*co g (g.length - 1)=0:=by omega
      rcases Int.mul_eq_zero.mp e2 with x | x
      · exact lB.2 (tc.trans x)
      · exact lg.2 x
  · exact y
theorem php:∀ (m n:Nat) (f:Nat→Nat),(∀ i,i<n→f i<m)→m<n→∃ i j,i<j∧j<n∧f i=f j
  | 0,n,f,h,hn=>absurd (h 0 hn) (Nat.not_lt_zero _)
  | m+1,n,f,h,hn=>by
    obtain ⟨n,rfl⟩:∃ k,n=k+1:=⟨n - 1,by omega⟩
    by_cases c:∃ i,i<n∧f i=f n
    · obtain ⟨i,hi,e⟩:=c
      exact ⟨i,n,hi,by omega,e⟩
    · have c:∀ i,i<n→f i≠f n:=fun i hi e=>c ⟨i,hi,e⟩
      have hv:=h n (by omega)
      obtain ⟨i,j,hij,hj,e⟩:=php m n (fun i=>if f n<f i then f i - 1 else f i) (fun i hi=>by
        have h1:=h i (by omega)
        have h2:=c i hi
        show (if f n<f i then f i - 1 else f i)<m
        split <;> omega) (by omega)
      refine ⟨i,j,hij,by omega,?_⟩
      have c1:=c i (by omega)
      have c2:=c j hj
      have e:(if f n<f i then f i - 1 else f i)=(if f n<f j then f j - 1 else f j):=e
      split at e <;> split at e <;> omega
noncomputable def enc (M:Nat):Nat→(Nat→Nat)→Nat
  | 0,_=>0
  | N+1,e=>e 0+M*enc M N (fun k=>e (k+1))
theorem qoO {M:Nat}:∀ (N:Nat) (e:Nat→Nat),(∀ k,k<N→e k<M)→enc M N e<M ^ N
  | 0,_,_=>Nat.one_pos
  | N+1,e,h=>by
    have h1:=qoO N (fun k=>e (k+1)) (fun k hk=>h (k+1) (by omega))
    have h0:=h 0 (by omega)
    show e 0+M*enc M N (fun k=>e (k+1))<M ^ (N+1)
    have h2:M*(enc M N (fun k=>e (k+1))+1)≤M*M ^ N:=Nat.mul_le_mul_left M h1
    rw [Nat.pow_succ,Nat.mul_comm (M ^ N)]
    rw [Nat.mul_add,Nat.mul_one] at h2
    omega
theorem qkP {M a b x y:Nat} (ha:a<M) (hb:b<M) (h:a+M*x=b+M*y):a=b∧x=y:=by
  have h1:(a+M*x) % M=a:=by rw [Nat.add_mul_mod_self_left,Nat.mod_eq_of_lt ha]
  have h2:(b+M*y) % M=b:=by rw [Nat.add_mul_mod_self_left,Nat.mod_eq_of_lt hb]
  have e:a=b:=by rw [← h1,h,h2]
  subst e
  exact ⟨rfl,Nat.eq_of_mul_eq_mul_left (by omega) (Nat.add_left_cancel h)⟩
theorem qmT {M:Nat}:∀ (N:Nat) (e e':Nat→Nat),(∀ k,k<N→e k<M)→(∀ k,k<N→e' k<M)→enc M N e=enc M N e'→∀ k,k<N→e k=e' k
  | 0,_,_,_,_,_,k,hk=>absurd hk (Nat.not_lt_zero _)
  | N+1,e,e',h,h',q,k,hk=>by
    obtain ⟨q1,q2⟩:=qkP (h 0 (by omega)) (h' 0 (by omega)) q
    cases k with
    | zero=>exact q1
    | succ k=>exact qmT N _ _ (fun k hk=>h (k+1) (by omega)) (fun k hk=>h' (k+1) (by omega)) q2 k (by omega)
noncomputable def digs (p:Nat):Nat→Nat→List Int
  | 0,_=>[]
  | N+1,t=>((t % p:Nat):Int)::digs p N (t / p)
theorem qiw (p:Nat):∀ (N t:Nat),(digs p N t).length=N
  | 0,_=>rfl
  | N+1,t=>by show (digs p N (t / p)).length+1=N+1;rw [qiw p N]
theorem qj4 {p:Nat} (p0:0<p):∀ (N t:Nat),∀ z∈digs p N t,0≤z∧z<(p:Int)
  | 0,_,z,h=>by cases h
  | N+1,t,z,h=>by
    rcases List.mem_cons.mp h with rfl | h
    · have:=Nat.mod_lt t p0;omega
    · exact qj4 p0 N _ z h
theorem qkQ {p:Nat} (p0:0<p):∀ (N t s:Nat),t<p ^ N→s<p ^ N→digs p N t=digs p N s→t=s
  | 0,t,s,h1,h2,_=>by rw [Nat.pow_zero] at h1 h2;omega
  | N+1,t,s,h1,h2,h=>by
    injection h with a b
    rw [Nat.pow_succ,Nat.mul_comm] at h1 h2
    have:=qkQ p0 N (t / p) (s / p) (Nat.div_lt_of_lt_mul h1) (Nat.div_lt_of_lt_mul h2) b
    have e1:=Nat.div_add_mod t p
    have e2:=Nat.div_add_mod s p
    have a:t % p=s % p:=by exact_mod_cast a
    rw [← e1,← e2,this,a]
theorem qmU {g:Nat→Int} {h q:Nat} (hg:∀ k,(g k).natAbs≤h):∀ (a:List Int),(∀ z∈a,z.natAbs≤q)→∀ k,(cvL a g k).natAbs≤a.length*(q*h)
  | [],_,k=>by show (0:Int).natAbs≤_;simp
  | x::a,ha,0=>by
    rw [qam]
    have h1:(x*g 0).natAbs≤q*h:=by rw [Int.natAbs_mul];exact Nat.mul_le_mul (ha x (List.mem_cons_self ..)) (hg 0)
    have:(x::a).length*(q*h)=a.length*(q*h)+q*h:=by rw [List.length_cons,Nat.add_mul,Nat.one_mul]
    omega
  | x::a,ha,k+1=>by
    rw [qaj]
    have h1:(x*g (k+1)).natAbs≤q*h:=by rw [Int.natAbs_mul];exact Nat.mul_le_mul (ha x (List.mem_cons_self ..)) (hg (k+1))
    have h2:=qmU hg a (fun z hz=>ha z (List.mem_cons_of_mem _ hz)) k
    have:(x::a).length*(q*h)=a.length*(q*h)+q*h:=by rw [List.length_cons,Nat.add_mul,Nat.one_mul]
    omega
theorem qpp {A B u v:List Int} (lA:Lz A) (lB:Lz B) (q:QI (co A) (co B) qbG) (hu:u.length<B.length) (hv:v.length<A.length) (h:∀ k,cvL u (co A) k+cvL v (co B) k=0):(∀ k,co u k=0)∧∀ k,co v k=0:=by
  obtain ⟨d,d0,U,V,hd⟩:=q
  have half:∀ {A B u v U V:List Int},Lz B→(∀ k,d*qbG k=cvL U (co A) k+cvL V (co B) k)→u.length<B.length→(∀ k,cvL u (co A) k+cvL v (co B) k=0)→∀ k,co u k=0:=fun {A B u v U V} lB hd hu h=>by
    rcases qgE u with z | ⟨f,lf,fl,ef⟩
    · exact z
    · exfalso
      have mq:MQ (co B) (co f):=by
        refine ⟨d,d0,qa4 (qaS V u) ((qaS U v).map ((-1)*·)),fun k=>?_⟩
        rw [qav,qar,qap,qap,ef k,qb6 u k,← qa8,qai hd,qd6,qdr (co A) u U,qdr (co B) u V]
        have e:cvL U (cvL u (co A)) k = - cvL U (cvL v (co B)) k:=by
          have:cvL U (cvL u (co A)) k+cvL U (cvL v (co B)) k=0:=by rw [← qd6];exact qbN U h k
          omega
        rw [e];omega
      have:=qjp lB lf mq
      omega
  exact ⟨half lB hd hu h,half (A:=B) (B:=A) (u:=v) (v:=u) (U:=V) (V:=U) lA (fun k=>by rw [hd k];omega) hv (fun k=>by have:=h k;omega)⟩
theorem qn9 {a b:Int} (h:a=b):a∣b:=by rw [h];exact Int.dvd_refl b
theorem cvD {p:Int} {f g:Nat→Int} {S:List Int} (h:∀ k,p∣f k - cvL S g k):∀ (a:List Int) (k:Nat),p∣cvL a f k - cvL a (cvL S g) k
  | [],k=>by show p∣(0:Int) - 0;simp
  | x::a,0=>by
    rw [qam,qam]
    have:=Int.dvd_trans (h 0) (Int.dvd_mul_left x _)
    rw [Int.mul_sub] at this
    refine Int.dvd_trans this (qn9 ?_)
    omega
  | x::a,k+1=>by
    rw [qaj,qaj]
    have h1:=Int.dvd_trans (h (k+1)) (Int.dvd_mul_left x _)
    have h2:=cvD h a k
    rw [Int.mul_sub] at h1
    have:=Int.dvd_add h1 h2
    refine Int.dvd_trans this (qn9 ?_)
    omega
theorem qjq:∀ (a b:List Int),(qa4 a b).length=max a.length b.length
  | [],b=>by show b.length=max 0 b.length;omega
  | a,[]=>by rw [qgD];show a.length=max a.length 0;omega
  | x::a,y::b=>by
    show (qa4 a b).length+1=max (a.length+1) (b.length+1)
    rw [qjq a b];omega
theorem qoP {a b:List Int} (hl:a.length=b.length) (h:∀ k,co a k=co b k):a=b:=by
  refine List.ext_getElem hl fun i h1 h2=>?_
  have:=h i
  unfold co at this
  rwa [List.getD_eq_getElem?_getD,List.getD_eq_getElem?_getD,List.getElem?_eq_getElem h1,List.getElem?_eq_getElem h2] at this
theorem lucky {A B G:List Int} {p b:Nat} (hp:Pr p) (lA:Lz A) (lB:Lz B) (q:QI (co A) (co B) qbG) (hA:∀ k,Bd b (co A k)) (hB:∀ k,Bd b (co B k)) (n1:2≤A.length) (m1:2≤B.length) (g2:2≤G.length) (g1:¬ (p:Int)∣co G (G.length - 1)) (dA:Dm (p:Int) (co G) (co A)) (dB:Dm (p:Int) (co G) (co B))
    (big:(2*((A.length+B.length)*2 ^ b)) ^ (A.length+B.length - 2)<p):False:=by
  have p2:=hp.two
  have p0:0<p:=by omega
  generalize hn:A.length - 1=n at *
  generalize hm:B.length - 1=m at *
  generalize hE:(A.length+B.length)*2 ^ b=E at *
  have N1:A.length+B.length - 2=n+m:=by omega
  rw [N1] at big
  have hAn:∀ k,(co A k).natAbs≤2 ^ b:=fun k=>Nat.le_of_lt (hA k)
  have hBn:∀ k,(co B k).natAbs≤2 ^ b:=fun k=>Nat.le_of_lt (hB k)
  have E0:0<E:=by rw [← hE];exact Nat.mul_pos (by omega) (Nat.pow_pos (by decide))
  let u:Nat→List Int:=fun t=>(digs p (m+n) t).take m
  let v:Nat→List Int:=fun t=>(digs p (m+n) t).drop m
  let f:Nat→Nat→Int:=fun t k=>cvL (u t) (co A) k+cvL (v t) (co B) k
  have ul:∀ t,(u t).length=m:=fun t=>by show ((digs p (m+n) t).take m).length=m;rw [List.length_take,qiw];omega
  have vl:∀ t,(v t).length=n:=fun t=>by show ((digs p (m+n) t).drop m).length=n;rw [List.length_drop,qiw];omega
  have uz:∀ t,∀ z∈u t,0≤z∧z<(p:Int):=fun t z hz=>qj4 p0 _ t z (List.mem_of_mem_take hz)
  have vz:∀ t,∀ z∈v t,0≤z∧z<(p:Int):=fun t z hz=>qj4 p0 _ t z (List.mem_of_mem_drop hz)
  have fb:∀ t k,(f t k).natAbs<E*p:=fun t k=>by
    have h1:=qmU (q:=p - 1) hAn (u t) (fun z hz=>by have:=uz t z hz;omega) k
    have h2:=qmU (q:=p - 1) hBn (v t) (fun z hz=>by have:=vz t z hz;omega) k
    rw [ul] at h1
    rw [vl] at h2
    have h3:(f t k).natAbs≤(m+n)*((p - 1)*2 ^ b):=by
      rw [Nat.add_mul]
      show (cvL (u t) (co A) k+cvL (v t) (co B) k).natAbs≤_
      omega
    refine Nat.lt_of_le_of_lt h3 ?_
    rw [← hE]
    have e:(m+n)*((p - 1)*2 ^ b)=((m+n)*2 ^ b)*(p - 1):=by rw [Nat.mul_comm (p - 1),Nat.mul_assoc]
    rw [e]
    exact Nat.lt_of_lt_of_le (Nat.mul_lt_mul_of_pos_left (by omega) (Nat.mul_pos (by omega) (Nat.pow_pos (by decide)))) (Nat.mul_le_mul_right p (Nat.mul_le_mul_right _ (by omega)))
  let e0:Nat→Nat:=fun t=>(f t 0 / (p:Int)+(E:Int)).toNat
  let ek:Nat→Nat→Nat:=fun t k=>(f t (k+1)+((E*p:Nat):Int)).toNat
  have e0r:∀ t,0≤f t 0 / (p:Int)+(E:Int)∧f t 0 / (p:Int)+(E:Int)<2*(E:Int):=fun t=>by
    have h:=fb t 0
    have h1:-((E:Int)*(p:Int))≤f t 0:=by have:((E*p:Nat):Int)=(E:Int)*(p:Int):=by push_cast;rfl
                                         omega
    have h2:f t 0<(E:Int)*(p:Int):=by have:((E*p:Nat):Int)=(E:Int)*(p:Int):=by push_cast;rfl
                                      omega
    have q1:-(E:Int)≤f t 0 / (p:Int):=by
      refine (Int.le_ediv_iff_mul_le (by omega)).mpr ?_
      rw [Int.neg_mul];exact h1
    have q2:f t 0 / (p:Int)<(E:Int):=Int.ediv_lt_of_lt_mul (by omega) h2
    omega
  have ekr:∀ t k,0≤f t (k+1)+((E*p:Nat):Int)∧f t (k+1)+((E*p:Nat):Int)<2*((E*p:Nat):Int):=fun t k=>by
    have h:=fb t (k+1)
    omega
  have e0l:∀ t,e0 t<2*E:=fun t=>by have:=e0r t;show (f t 0 / (p:Int)+(E:Int)).toNat<2*E;omega
  have ekl:∀ t k,ek t k<2*(E*p):=fun t k=>by have:=ekr t k;show (f t (k+1)+((E*p:Nat):Int)).toNat<2*(E*p);omega
  have cl:∀ t,e0 t+2*E*enc (2*(E*p)) (m+n - 1) (ek t)<2*E*(2*(E*p)) ^ (m+n - 1):=fun t=>by
    have h1:=qoO (M:=2*(E*p)) (m+n - 1) (ek t) (fun k _=>ekl t k)
    have h2:2*E*(enc (2*(E*p)) (m+n - 1) (ek t)+1)≤2*E*(2*(E*p)) ^ (m+n - 1):=Nat.mul_le_mul_left _ h1
    have h3:=e0l t
    rw [Nat.mul_add,Nat.mul_one] at h2
    omega
  have room:2*E*(2*(E*p)) ^ (m+n - 1)<p ^ (m+n):=by
    obtain ⟨N,hN⟩:∃ N,m+n=N+1:=⟨m+n - 1,by omega⟩
    rw [hN,Nat.add_sub_cancel]
    rw [Nat.add_comm n m,hN] at big
    have e:2*E*(2*(E*p)) ^ N=(2*E) ^ (N+1)*p ^ N:=by
      rw [← Nat.mul_assoc 2 E p,Nat.mul_pow (2*E) p N,Nat.pow_succ,Nat.mul_comm ((2*E) ^ N) (2*E),Nat.mul_assoc (2*E)]
    rw [e,Nat.pow_succ p,Nat.mul_comm (p ^ N) p]
    exact Nat.mul_lt_mul_of_pos_right big (Nat.pow_pos p0)
  obtain ⟨s,t,st,ht,e⟩:=php _ _ _ (fun i _=>cl i) room
  obtain ⟨q0,q1⟩:=qkP (e0l s) (e0l t) e
  have qk:=qmT (m+n - 1) _ _ (fun k _=>ekl s k) (fun k _=>ekl t k) q1
  have w0:∀ k,(co (u s) k - co (u t) k)=co (qa4 (u s) ((u t).map ((-1)*·))) k:=fun k=>by rw [qb6,qb6,qb6,qav,qar];omega
  have df:∀ k,f s k - f t k=cvL (qa4 (u s) ((u t).map ((-1)*·))) (co A) k+cvL (qa4 (v s) ((v t).map ((-1)*·))) (co B) k:=fun k=>by
    rw [qav,qav,qar,qar]
    show cvL (u s) (co A) k+cvL (v s) (co B) k - (cvL (u t) (co A) k+cvL (v t) (co B) k)=_
    omega
  have hi:∀ k,0<k→f s k - f t k=0:=fun k hk=>by
    rcases Nat.lt_or_ge k (m+n) with c | c
    · have:=qk (k - 1) (by omega)
      have r1:=ekr s (k - 1)
      have r2:=ekr t (k - 1)
      have this:(f s (k - 1+1)+((E*p:Nat):Int)).toNat=(f t (k - 1+1)+((E*p:Nat):Int)).toNat:=this
      rw [show k - 1+1=k by omega] at *
      omega
    · have z:∀ t,f t k=0:=fun t=>by
        show cvL (u t) (co A) k+cvL (v t) (co B) k=0
        rw [qb4 (n:=A.length) (fun i hi=>qat hi) (u t) k (by rw [ul];omega),qb4 (n:=B.length) (fun i hi=>qat hi) (v t) k (by rw [vl];omega)];rfl
      rw [z,z];rfl
  have d0:(f s 0 - f t 0).natAbs<p:=by
    have r1:=e0r s
    have r2:=e0r t
    have q0:(f s 0 / (p:Int)+(E:Int)).toNat=(f t 0 / (p:Int)+(E:Int)).toNat:=q0
    have q0:f s 0 / (p:Int)=f t 0 / (p:Int):=by omega
    have m1:=Int.emod_add_mul_ediv (f s 0) p
    have m2:=Int.emod_add_mul_ediv (f t 0) p
    have b1:=Int.emod_nonneg (f s 0) (show (p:Int)≠0 by omega)
    have b2:=Int.emod_lt_of_pos (f s 0) (show (0:Int)<p by omega)
    have b3:=Int.emod_nonneg (f t 0) (show (p:Int)≠0 by omega)
    have b4:=Int.emod_lt_of_pos (f t 0) (show (0:Int)<p by omega)
    rw [q0] at m1
    omega
  have dm:Dm (p:Int) (co G) (co [f s 0 - f t 0]):=by
    obtain ⟨SA,hSA⟩:=dA
    obtain ⟨SB,hSB⟩:=dB
    refine ⟨qa4 (qaS (qa4 (u s) ((u t).map ((-1)*·))) SA) (qaS (qa4 (v s) ((v t).map ((-1)*·))) SB),fun k=>?_⟩
    have e:co [f s 0 - f t 0] k=f s k - f t k:=by
      cases k with
      | zero=>rfl
      | succ k=>rw [hi (k+1) (by omega)];exact qat (by simp)
    rw [e,df,qav (co G),qap,qap]
    have h1:=cvD (p:=(p:Int)) hSA (qa4 (u s) ((u t).map ((-1)*·))) k
    have h2:=cvD (p:=(p:Int)) hSB (qa4 (v s) ((v t).map ((-1)*·))) k
    have:=Int.dvd_add h1 h2
    refine Int.dvd_trans this (qn9 ?_)
    omega
  have z0:f s 0 - f t 0=0:=by
    by_cases c:(p:Int)∣f s 0 - f t 0
    · obtain ⟨y,hy⟩:=c
      rcases Int.lt_trichotomy y 0 with z | z | z
      · have:(p:Int)*y≤(p:Int)*(-1):=Int.mul_le_mul_of_nonneg_left (by omega) (by omega)
        omega
      · rw [hy,z];omega
      · have:(p:Int)*1≤(p:Int)*y:=Int.mul_le_mul_of_nonneg_left (by omega) (by omega)
        omega
    · exfalso
      have:=Dm.len hp (by omega) g1 dm ⟨0,c⟩
      simp at this
      omega
  have all:∀ k,cvL (qa4 (u s) ((u t).map ((-1)*·))) (co A) k+cvL (qa4 (v s) ((v t).map ((-1)*·))) (co B) k=0:=fun k=>by
    rw [← df]
    cases k with
    | zero=>exact z0
    | succ k=>exact hi (k+1) (by omega)
  have ll:∀ {a c:List Int} {x:Nat},a.length=x→c.length=x→(qa4 a (c.map ((-1)*·))).length=x:=fun {a c x} h1 h2=>by
    rw [qjq,List.length_map,h1,h2];omega
  obtain ⟨c1,c2⟩:=qpp lA lB q (by rw [ll (ul s) (ul t)];omega) (by rw [ll (vl s) (vl t)];omega) all
  have eu:u s=u t:=qoP (by rw [ul,ul]) fun k=>by have:=c1 k;rw [← w0] at this;omega
  have ev:v s=v t:=qoP (by rw [vl,vl]) fun k=>by
    have:=c2 k
    rw [qb6,qav,qar,← qb6,← qb6] at this;omega
  have:digs p (m+n) s=digs p (m+n) t:=by
    rw [← List.take_append_drop m (digs p (m+n) s),← List.take_append_drop m (digs p (m+n) t)]
    exact congr (congrArg _ eu) ev
  have:=qkQ p0 _ _ _ (by omega) (by omega) this
  omega
theorem qhS:∀ (ts l:List Int),ts.Nodup→(∀ t∈ts,evI l t=0)→l.length≤ts.length→∀ k,co l k=0
  | [],l,_,_,h,k=>qat (by have:l.length=0:=by simpa using h
                          omega)
  | t::ts,l,nd,hr,hl,k=>by
    have nd':=List.nodup_cons.mp nd
    have e0:=hr t (List.mem_cons_self ..)
    have sd:co (syn l t) ((syn l t).length - 1)=0:=by rw [qio];exact qn2 l t
    have cd:=qeJ sd
    have z:∀ k,co (syn l t) k=0:=fun k=>by
      rw [← cd k]
      refine qhS ts (syn l t).dropLast nd'.2 (fun x hx=>?_) (by rw [List.length_dropLast,qio];simp at hl;omega) k
      rw [qgF _ _ x cd]
      have h1:=qmF l t x
      rw [hr x (List.mem_cons_of_mem _ hx),e0] at h1
      have ne:x - t≠0:=fun q=>nd'.1 (by have:x=t:=by omega
                                        rw [← this];exact hx)
      have h1:(x - t)*evI (syn l t) x=0:=by omega
      rcases Int.mul_eq_zero.mp h1 with q | q
      · exact absurd q ne
      · exact q
    rw [qkH l t k,z k]
    split
    · rw [e0];omega
    · rw [z (k - 1)];omega
theorem qmV (n:Nat):((List.range (2*n+1)).map fun i:Nat=>(i:Int) - (n:Int)).Nodup:=by
  unfold List.Nodup
  rw [List.pairwise_map]
  exact (List.nodup_range (n:=2*n+1)).imp fun h q=>h (by omega)
theorem qkR (f:Int→Bool):∀ P:List Int,(P.filter f).length+(P.filter fun x=>!f x).length=P.length
  | []=>rfl
  | x::P=>by
    have:=qkR f P
    rw [List.filter_cons,List.filter_cons,List.length_cons]
    cases f x
    · simp;omega
    · simp;omega
theorem qoa {r:List Int} {n:Nat} (r0:∃ k,co r k≠0) (rl:r.length≤n):∃ x:Nat→Int,(∀ i,i≤n→evI r (x i)≠0∧(x i).natAbs≤n)∧∀ i j,i≤n→j≤n→i≠j→x i≠x j:=by
  let P:List Int:=(List.range (2*n+1)).map fun i:Nat=>(i:Int) - (n:Int)
  have pl:P.length=2*n+1:=by show ((List.range (2*n+1)).map fun i:Nat=>(i:Int) - (n:Int)).length=_;rw [List.length_map,List.length_range]
  have pn:P.Nodup:=qmV n
  have pr:∀ x∈P,x.natAbs≤n:=fun x hx=>by
    obtain ⟨i,hi,rfl⟩:=List.mem_map.mp hx
    have:=List.mem_range.mp hi
    omega
  have parts:(P.filter fun x=>decide (evI r x=0)).length+(P.filter fun x=>!decide (evI r x=0)).length=P.length:=by
    exact qkR _ P
  have few:(P.filter fun x=>decide (evI r x=0)).length<r.length:=by
    rcases Nat.lt_or_ge (P.filter fun x=>decide (evI r x=0)).length r.length with c | c
    · exact c
    · exfalso
      obtain ⟨k,hk⟩:=r0
      exact hk (qhS _ r (pn.filter _) (fun t ht=>by simpa using (List.mem_filter.mp ht).2) c k)
  let Gd:=P.filter fun x=>!decide (evI r x=0)
  have gl:n+1≤Gd.length:=by
    show n+1≤(P.filter fun x=>!decide (evI r x=0)).length
    omega
  have gn:Gd.Nodup:=pn.filter _
  refine ⟨fun i=>Gd.getD i 0,fun i hi=>?_,fun i j hi hj hij e=>?_⟩
  · have hlt:i<Gd.length:=by omega
    have e:Gd.getD i 0=Gd[i]:=by rw [List.getD_eq_getElem?_getD,List.getElem?_eq_getElem hlt];rfl
    show evI r (Gd.getD i 0)≠0∧(Gd.getD i 0).natAbs≤n
    rw [e]
    have m:=List.mem_filter.mp (List.getElem_mem hlt)
    exact ⟨by simpa using m.2,pr _ m.1⟩
  · have h1:i<Gd.length:=by omega
    have h2:j<Gd.length:=by omega
    have e:Gd.getD i 0=Gd.getD j 0:=e
    rw [List.getD_eq_getElem?_getD,List.getD_eq_getElem?_getD,List.getElem?_eq_getElem h1,List.getElem?_eq_getElem h2] at e
    have e:Gd[i]=Gd[j]:=e
    have pw:=List.pairwise_iff_getElem.mp gn
    rcases Nat.lt_or_gt_of_ne hij with q | q
    · exact pw i j h1 h2 q e
    · exact pw j i h2 h1 q e.symm
theorem qfB {b n c:Nat} {r g A:List Int} (hr:∀ z∈r,Bd b z) (r0:∃ k,co r k≠0) (rl:r.length≤n) (gl:g.length≤n) (hn:n<2 ^ c) (hA:∀ k,co r k=cvL A (co g) k):∀ k,Bd (b+n*(2*c+4)) (co g k):=by
  by_cases g0:g.length=0
  · intro k;rw [qat (by omega)];exact qdp _
  obtain ⟨x,hx,xi⟩:=qoa r0 rl
  have bx:∀ i,i≤n→Bd c (x i):=fun i hi=>by
    show (x i).natAbs<2 ^ c
    have:=(hx i hi).2
    omega
  intro k
  have:=interp (c:=c) (g.length - 1) g (b+n*(c+1)) x (fun k hk=>qat (by omega)) (fun i hi=>bx i (by omega)) (fun i j hi hj hij=>xi i j (by omega) (by omega) hij) (fun i hi=>by
    have ne:=(hx i (by omega)).1
    have e:=qn1 hA (x i)
    have bd:=qoJ (bx i (by omega)) r hr
    have le:(evI g (x i)).natAbs≤(evI r (x i)).natAbs:=by
      rw [e,Int.natAbs_mul]
      refine Nat.le_mul_of_pos_left _ ?_
      rcases Nat.eq_zero_or_pos (evI A (x i)).natAbs with z | z
      · exact absurd (by rw [e,Int.natAbs_eq_zero.mp z];omega) ne
      · exact z
    refine (bd.le le).mono ?_
    have:=Nat.mul_le_mul_right (c+1) rl
    omega) k
  refine this.mono ?_
  have h1:(g.length - 1)*(c+3)≤n*(c+3):=Nat.mul_le_mul_right (c+3) (by omega)
  have h2:n*(2*c+4)=n*(c+1)+n*(c+3):=by rw [← Nat.mul_add];congr 1;omega
  omega
theorem qfe {a g:List Int} (la:Lz a) (lg:Lz g):cvL a (co g) (a.length - 1+(g.length - 1))=co a (a.length - 1)*co g (g.length - 1):=by
  obtain ⟨i,s,rfl⟩:∃ i s,a=i++[s]:=⟨a.dropLast,a.getLast (List.length_pos_iff.mp la.1),(List.dropLast_concat_getLast _).symm⟩
  have e:(i++[s]).length - 1=i.length:=by rw [List.length_append];simp
  have hs:co (i++[s]) i.length=s:=by
    unfold co
    rw [List.getD_eq_getElem?_getD,List.getElem?_append_right (Nat.le_refl _),Nat.sub_self];rfl
  rw [e,hs,qbo,qb4 (n:=g.length) (fun i hi=>qat hi) i _ (by have:=lg.1;omega)]
  unfold upS
  rw [if_pos (by omega),show i.length+(g.length - 1) - i.length=g.length - 1 by omega]
  omega
theorem qmW {X ms:List Int} (lm:Lz ms) {T:Nat} (h:∀ k,T+(ms.length - 1)≤k→cvL X (co ms) k=0):(∀ j,T≤j→co X j=0)∧∀ s,T=s+1→cvL X (co ms) (s+(ms.length - 1))=co X s*co ms (ms.length - 1):=by
  rcases qgE X with z | ⟨Y,lY,_,eY⟩
  · refine ⟨fun j _=>z j,fun s _=>?_⟩
    rw [qba,qbN ms z,z s];omega
  · have hY:∀ k,cvL X (co ms) k=cvL Y (co ms) k:=fun k=>by rw [qba,qai (fun j=>(eY j).symm) ms k,← qba]
    have tp:=qfe lY lm
    have ly:Y.length≤T:=by
      rcases Nat.lt_or_ge T Y.length with c | c
      · exfalso
        have:=h (Y.length - 1+(ms.length - 1)) (by omega)
        rw [hY,tp] at this
        exact Int.mul_ne_zero lY.2 lm.2 this
      · exact c
    refine ⟨fun j hj=>by rw [← eY];exact qat (by omega),fun s hs=>?_⟩
    rw [hY,← eY]
    have y0:=lY.1
    rcases Nat.lt_or_ge Y.length T with c | c
    · rw [qat (by omega),qb4 (n:=ms.length) (fun i hi=>qat hi) Y _ (by have:=lm.1;omega)];omega
    · rw [show s=Y.length - 1 by omega];exact tp
theorem qmX {m n:Nat} {x y:Int} (hx:Bd m x) (hy:Bd n y) (hm:m≤60000000:=by omega) (hn:n≤60000000:=by omega):IntMulOk x y:=qn4 (hx.mono hm) (hy.mono hn)
theorem qpq {ns:List Int} {m:Int} (ms:List Int) (hms:ms=(ns.filter (fun z=>!decide (z=0))).map fun z=>if z<0 then -z else z) (h:ms=[]∧m=0∨m∈ms) (d:Int):(∀ z∈ns,d∣z)→d∣m:=by
  intro hd
  rcases h with ⟨_,e⟩ | h
  · rw [e];exact Int.dvd_zero d
  · rw [hms] at h
    obtain ⟨z,hz,rfl⟩:=List.mem_map.mp h
    have:=hd z (List.mem_filter.mp hz).1
    show d∣if z<0 then -z else z
    split
    · exact Int.dvd_neg.mpr this
    · exact this
theorem qlq (h:qbY K vs H Q E):qgH K { nx:=fun _ H'=>Q .non H',rt:=Q } (L2.start ["row", "start", "found", "whole"] vs) H:=by
  obtain ⟨p,ns,st,rfl,hp,hl,k⟩:=h
  unfold qgH
  rwa []
  refine ⟨⟨_,SqL.of hp⟩,CompF.lst (xs:=ns.map V.int) (fun i ys H'=>i≤ns.length∧H'=H∧ys=(((ns.take i).filter (fun z=>!decide (z=0))).map fun z=>if z<0 then -z else z).map V.int) ⟨Nat.zero_le _,rfl,rfl⟩ ?_ ?_ ?_⟩
  · rintro i ys H' ⟨h1,rfl,rfl⟩
    refine ⟨by rw [List.length_map];exact h1,sz ?_,SqL.of hp⟩
    rw [List.length_map,List.length_map]
    exact Nat.le_trans (List.length_filter_le _ _) (by rw [List.length_take];omega)
  · rintro i x ys H' hi ⟨h1,rfl,rfl⟩
    rw [List.getElem?_map] at hi
    cases e:ns[i]? with
    | none=>rw [e] at hi;cases hi
    | some n=>
      rw [e] at hi
      obtain rfl:V.int n=x:=Option.some.inj hi
      have hi2:i<ns.length:=(List.getElem?_eq_some_iff.mp e).1
      have et:ns.take (i+1)=ns.take i++[n]:=by rw [List.take_add_one,e];rfl
      rwa []
      refine qcM (fun c=>?_) (fun c=>?_)
      · refine ⟨by omega,?_⟩
        have c0:¬ n=0:=by simpa using c
        simp [et,List.filter_append,c0]
      · refine ⟨by omega,?_⟩
        have c0:n=0:=by simpa using c
        simp [et,List.filter_append,c0]
  · rintro ys H' ⟨_,rfl,rfl⟩ a ha
    rw [List.length_map,List.take_length]
    have sa:=qag ha (HO.lst (((ns.filter (fun z=>!decide (z=0))).map fun z=>if z<0 then -z else z).map V.int))
    have hpa:=sa _ _ hp
    refine ⟨_,rfl,_,upd_same,fun m hm=>?_⟩
    have hg:=qpq _ rfl hm
    generalize hHa:upd H' a (HO.lst (((ns.filter (fun z=>!decide (z=0))).map fun z=>if z<0 then -z else z).map V.int))=Ha at sa hpa ⊢
    refine ⟨⟨_,SqL.of hpa⟩,ForL.by (xs:=ns.map V.int) (fun i σ H2=>∃ (g:Int) (x:Option V),σ=[some (.ref p),some (.int st),some (.int g),x]∧H2=Ha∧0≤g∧g∣st∧(∀ z∈ns.take i,g∣z)∧(∀ d:Int,d∣st→(∀ z∈ns,d∣z)→d∣g)) ⟨_,none,rfl,rfl,by omega,Int.gcd_dvd_right m st,fun z hz=>(by simp at hz),fun d h1 h2=>Int.dvd_coe_gcd (hg d h2) h1⟩ ?_ ?_ ?_⟩
    · rintro i σ H2 _ ⟨g,x,rfl,rfl,_⟩
      exact SqL.of hpa
    · rintro i x σ H2 hi ⟨g,y,rfl,rfl,g0,g1,g2,g3⟩
      rw [List.getElem?_map] at hi
      cases e:ns[i]? with
      | none=>rw [e] at hi;cases hi
      | some n=>
        rw [e] at hi
        obtain rfl:V.int n=x:=Option.some.inj hi
        rwa []
        refine qcM (fun c=>?_) (fun c=>?_)
        · have c1:g=1:=by simpa using c
          subst c1
          exact k 1 _ sa (by decide) (Int.one_dvd _) (fun z _=>Int.one_dvd z) g3
        · refine ⟨by omega,Int.dvd_trans (Int.gcd_dvd_right n g) g1,fun z hz=>?_,fun d h1 h2=>Int.dvd_coe_gcd (h2 n (List.mem_of_getElem? e)) (g3 d h1 h2)⟩
          rw [List.take_add_one,e] at hz
          rcases List.mem_append.mp hz with z1 | z1
          · exact Int.dvd_trans (Int.gcd_dvd_right n g) (g2 z z1)
          · have z2:z=n:=by simpa using z1
            rw [z2];exact Int.gcd_dvd_left n g
    · rintro σ H2 ⟨g,x,rfl,rfl,g0,g1,g2,g3⟩
      rw [List.length_map,List.take_length] at g2
      rwa []
      exact k g _ sa g0 g1 g2 g3
theorem qix (h:qbk K vs H Q E):qd9 K { nx:=fun _ H'=>Q .non H',rt:=Q } (L2.start ["row", "divisor"] vs) H:=by
  obtain ⟨p,ns,g,rfl,hp,g0,hl,q⟩:=h
  unfold qd9
  rwa []
  refine ⟨⟨_,SqL.of hp⟩,CompJ.lst (xs:=ns.map V.int) (fun i ys H'=>i≤ns.length∧H'=H∧ys=((ns.map (· / g)).take i).map V.int) ⟨Nat.zero_le _,rfl,rfl⟩ ?_ ?_ ?_⟩
  · rintro i ys H' ⟨h1,rfl,rfl⟩
    refine ⟨by rw [List.length_map];exact h1,sz ?_,SqL.of hp⟩
    rw [List.length_map,List.length_take];omega
  · rintro i x ys H' hi ⟨h1,rfl,rfl⟩
    rw [List.getElem?_map] at hi
    cases e:ns[i]? with
    | none=>rw [e] at hi;cases hi
    | some n=>
      rw [e] at hi
      obtain rfl:V.int n=x:=Option.some.inj hi
      have hi2:i<ns.length:=(List.getElem?_eq_some_iff.mp e).1
      have gp:0<g:=by
        rcases g0 with h | h
        · exact h
        · rw [h] at hi2;exact absurd hi2 (by simp)
      rwa []
      refine ⟨gp,by omega,?_⟩
      rw [qbP V.int (q:=n / g) (by rw [List.getElem?_map,e];rfl)]
  · rintro ys H' ⟨_,rfl,rfl⟩ a ha
    have e:(ns.map (· / g)).take (ns.map V.int).length=ns.map (· / g):=by rw [List.length_map,show ns.length=(ns.map (· / g)).length by rw [List.length_map],List.take_length]
    rw [e]
    exact q a ha
theorem qoQ {ns:List Int} {k:Nat}:co ns k=ns.getD k 0:=rfl
theorem qiy (ns:List Int):Tz (qd8 ns):=by
  have key:∀ m,m≤ns.length→qcn ns m=0∨co ns (qcn ns m - 1)≠0:=by
    intro m
    induction m with
    | zero=>intro _;exact .inl rfl
    | succ m ih=>
      intro hm
      rw [qcK]
      split
      · exact ih (by omega)
      · rename_i z
        right
        rw [show m+1 - 1=m by omega,qoQ]
        rw [List.getD_eq_getElem?_getD,List.getElem?_eq_getElem (by omega)] at z ⊢
        exact z
  have hl:(qd8 ns).length=qcn ns ns.length:=qgO
  rcases key ns.length (Nat.le_refl _) with h | h
  · left
    exact List.length_eq_zero_iff.mp (hl.trans h)
  · right
    rw [hl]
    show (qd8 ns).getD _ 0≠0
    rw [qjn]
    exact h
theorem qiz (ns:List Int) (k:Nat):co (qd8 ns) k=co ns k:=qjn k
theorem qff (n:Nat) (F:Nat→Int):qbS n F=((List.range n).map F).map V.int:=rfl
theorem qrR (ns:List Int) (f:Int) (n:Nat) (h:ns.length≤n):List.map V.int (ns.map (f*·))++List.replicate (n - ns.length) (V.int 0)=qbS n fun k=>f*co ns k:=by
  rw [qff]
  apply List.ext_getElem?
  intro i
  by_cases h1:i<ns.length
  · rw [List.getElem?_append_left (by rw [List.length_map,List.length_map];exact h1),List.getElem?_map,List.getElem?_map,List.getElem?_map,List.getElem?_map,List.getElem?_range (by omega),List.getElem?_eq_getElem h1]
    show _=some (V.int (f*ns.getD i 0))
    rw [List.getD_eq_getElem?_getD,List.getElem?_eq_getElem h1]
    rfl
  · rw [List.getElem?_append_right (by rw [List.length_map,List.length_map];omega),List.length_map,List.length_map,List.getElem?_map,List.getElem?_map]
    by_cases h2:i<n
    · rw [List.getElem?_replicate,if_pos (by omega),List.getElem?_range h2]
      show _=some (V.int (f*co ns i))
      rw [qat (by omega),Int.mul_zero]
    · rw [List.getElem?_replicate,if_neg (by omega),List.getElem?_eq_none (by rw [List.length_range];omega)]
      rfl
theorem qj5 (h:qbD K vs H Q E):qfw K { nx:=fun _ H'=>Q .non H',rt:=Q } (L2.start ["row", "factor", "other", "weight", "shift", "result", "place", "whole"] vs) H:=by
  obtain ⟨p,q,ns,ms,f,w,s,rfl,hp,hq,hl,hls,bf,bw,bn,bm,k⟩:=h
  unfold qfw
  rwa []
  refine ⟨⟨_,SqL.of hp⟩,CompJ.lst (xs:=ns.map V.int) (fun i ys H'=>i≤ns.length∧H'=H∧ys=((ns.map (f*·)).take i).map V.int) ⟨Nat.zero_le _,rfl,rfl⟩ ?_ ?_ ?_⟩
  · rintro i ys H' ⟨h1,rfl,rfl⟩
    refine ⟨by rw [List.length_map];exact h1,sz ?_,SqL.of hp⟩
    rw [List.length_map,List.length_take];omega
  · rintro i x ys H' hi ⟨h1,rfl,rfl⟩
    rw [List.getElem?_map] at hi
    cases e:ns[i]? with
    | none=>rw [e] at hi;cases hi
    | some n=>
      rw [e] at hi
      obtain rfl:V.int n=x:=Option.some.inj hi
      have hi2:i<ns.length:=(List.getElem?_eq_some_iff.mp e).1
      rwa []
      refine ⟨qmX bf (bn n (List.mem_of_getElem? e)),by omega,?_⟩
      rw [qbP V.int (q:=f*n) (by rw [List.getElem?_map,e];rfl)]
  · rintro ys H' ⟨_,rfl,rfl⟩ a ha
    have e:(ns.map (f*·)).take (ns.map V.int).length=ns.map (f*·):=by rw [List.length_map,show ns.length=(ns.map (f*·)).length by rw [List.length_map],List.take_length]
    rw [e]
    generalize hL:max ns.length (s+ms.length)=L
    have sa:=qag ha (HO.lst (List.map V.int (ns.map (f*·))))
    have hpa:=sa _ _ hp
    have hqa:=sa _ _ hq
    rwa [hpa,hqa]
    refine ⟨qfs upd_same,sz (by decide),fun b hb=>?_⟩
    have sb:=qag hb (HO.lst [V.int 0])
    refine ⟨_,sb _ _ hqa,_,sb _ _ hpa,?_⟩
    have e0:(((ms.map V.int).length:Int)+(s:Int) - ((ns.map V.int).length:Int))=(ms.length:Int)+(s:Int) - (ns.length:Int):=by rw [List.length_map,List.length_map]
    rw [e0]
    have ek:((ms.length:Int)+(s:Int) - (ns.length:Int)).toNat=L - ns.length:=by omega
    refine ⟨by omega,by omega,sz (by rw [ek];simp;omega),fun c hc=>?_⟩
    rw [ek,qdt]
    have sc:=qag hc (HO.lst (List.replicate (L - ns.length) (V.int 0)))
    have haa:upd H' a (HO.lst (List.map V.int (ns.map (f*·)))) a=some (HO.lst (List.map V.int (ns.map (f*·)))):=upd_same
    have hac:=sc _ _ (sb _ _ haa)
    refine ⟨_,hac,sz (by simp;omega),?_⟩
    rw [qrR ns f L (by omega)]
    generalize hX:upd (upd (upd H' a (HO.lst (List.map V.int (ns.map (f*·))))) b (HO.lst [V.int 0])) c (HO.lst (List.replicate (L - ns.length) (V.int 0)))=Hx at hac ⊢
    have sx:Same H' Hx:=fun x o h=>by rw [← hX];exact sc x o (sb x o (sa x o h))
    have sd:Same H' (upd Hx a (HO.lst (qbS L fun k=>f*co ns k))):=fun x o h=>Kp.upd x o (qau h ha) (sx x o h)
    have had:(upd Hx a (HO.lst (qbS L fun k=>f*co ns k))) a=_:=upd_same
    generalize upd Hx a (HO.lst (qbS L fun k=>f*co ns k))=Hd at sd had ⊢
    refine ⟨⟨_,SqL.of (sd _ _ hq)⟩,ForJ.enumL (xs:=ms.map V.int) (fun j σ H2=>∃ x y:Option V,σ=[some (.ref p),some (.int f),some (.ref q),some (.int w),some (.int (s:Int)),some (.ref a),x,y]∧Same H' H2∧H2 a=some (.lst (qbS L fun k=>f*co ns k - (if s≤k∧k - s<j then w*co ms (k - s) else 0)))) ⟨none,none,rfl,sd,?_⟩ ?_ ?_ ?_⟩
    · rw [had]
      exact congrArg (fun l=>some (HO.lst l)) (qdg fun k _=>by rw [if_neg (by omega)];omega)
    · rintro j σ H2 _ ⟨_,_,_,s2,_⟩
      exact SqL.of (s2 _ _ hq)
    · rintro j y pq σ H2 hj ⟨y3,y4,rfl,s2,hw2⟩ hpq
      rw [List.getElem?_map] at hj
      cases em:ms[j]? with
      | none=>rw [em] at hj;cases hj
      | some u=>
        rw [em] at hj
        obtain rfl:V.int u=y:=Option.some.inj hj
        have jl:j<ms.length:=(List.getElem?_eq_some_iff.mp em).1
        have ud:co ms j=u:=by rw [qoQ,List.getD_eq_getElem?_getD,em];rfl
        have sq:=qag hpq (HO.tup [V.int (j:Int),V.int u])
        have hw3:=sq _ _ hw2
        rwa [hw3]
        have kl:s+j<L:=by omega
        refine ⟨_,qdB (by omega) (qbn _ kl),qmX bw (bm u (List.mem_of_getElem? em)),_,rfl,s+j,?_,fun b o h=>Kp.upd b o (qau h ha) (sq b o (s2 b o h)),?_⟩
        · rw [qbu];exact qgM (by omega) kl
        · refine qeq kl ?_ fun k _ hk=>?_
          · rw [if_pos (by omega),if_neg (by omega),show s+j - s=j by omega,ud];omega
          · by_cases h:s≤k∧k - s<j
            · rw [if_pos h,if_pos (by omega)]
            · rw [if_neg h,if_neg (by omega)]
    · rintro σ H2 ⟨y3,y4,rfl,s2,hw2⟩
      rw [List.length_map,qff] at hw2
      rwa [hw2]
      refine ⟨_,rfl,fun r hr=>k r _ _ (s2.trans (qag hr _)) upd_same (qiy _) fun i=>?_⟩
      rw [qiz,qgb]
      unfold upS
      by_cases hi:i<L
      · rw [if_pos hi]
        by_cases h:s≤i
        · rw [if_pos h]
          by_cases h2:i - s<ms.length
          · rw [if_pos ⟨h,h2⟩]
          · rw [if_neg (by omega),qat (a:=ms) (by omega)];omega
        · rw [if_neg h,if_neg (by omega)];omega
      · rw [if_neg hi,qat (a:=ns) (by omega)]
        by_cases h:s≤i
        · rw [if_pos h,qat (a:=ms) (by omega)];omega
        · rw [if_neg h];omega
theorem qpr (a b:Int):(a.fdiv b).natAbs≤a.natAbs:=by
  rw [Int.fdiv_eq_ediv]
  split
  · rw [Int.sub_zero];exact Int.natAbs_ediv_le_natAbs a b
  · rename_i h
    have hb:b<0:=by omega
    have hd:¬ b∣a:=fun z=>h (.inr z)
    have e:=Int.mul_ediv_add_emod a b
    have r0:=Int.emod_nonneg a (show b≠0 by omega)
    have r1:=Int.emod_lt_of_neg a hb
    have rn:a % b≠0:=fun z=>hd (Int.dvd_of_emod_eq_zero z)
    generalize a / b=q at *
    generalize a % b=r at *
    rcases Int.lt_or_le q 1 with hq | hq
    · have h1:(-b)*(-q) ≥ 2*(-q):=Int.mul_le_mul_of_nonneg_right (by omega) (by omega)
      rw [Int.neg_mul_neg] at h1
      omega
    · have h1:(-b)*(q - 1) ≥ 1*(q - 1):=Int.mul_le_mul_of_nonneg_right (by omega) (by omega)
      rw [Int.neg_mul,Int.mul_sub] at h1
      omega
theorem qkS {n m:Nat} {F:Nat→Int}:qgn (qbS n F) none (some (m:Int))=((List.range (min m n)).map F).map V.int:=by
  unfold qgn HT.sIx
  simp only [List.drop_zero,Nat.sub_zero,Int.toNat_natCast]
  rw [if_neg (by omega),qbu]
  unfold qbS
  rw [← List.map_take,← List.map_take,List.take_range]
  congr 3
  omega
theorem qob {n:Nat} {F:Nat→Int} (h:((List.range n).map F).any (fun z=>!decide (z=0))=false):∀ k,k<n→F k=0:=by
  intro k hk
  have:=List.any_eq_false.mp h (F k) (List.mem_map.mpr ⟨k,List.mem_range.mpr hk,rfl⟩)
  simpa using this
theorem qmY {n s:Nat} {F:Nat→Int} {w:Int} (hs:s<n) (h0:F s=0) (g:Nat→Int) (k:Nat) :
    cvL ((List.range n).map fun j=>if j=s then w else F j) g k=cvL ((List.range n).map F) g k+w*upS s g k:=by
  have e:∀ m,m≤n→cvL ((List.range m).map fun j=>if j=s then w else F j) g k=cvL ((List.range m).map F) g k+(if s<m then w*upS s g k else 0):=by
    intro m
    induction m with
    | zero=>intro _;rw [if_neg (by omega)];rfl
    | succ m ih=>
      intro hm
      rw [List.range_succ,List.map_append,List.map_append,List.map_singleton,List.map_singleton,qbo,qbo,ih (by omega),List.length_map,List.length_map,List.length_range]
      by_cases e:m=s
      · subst e
        rw [if_pos rfl,if_neg (by omega),if_pos (by omega),h0]
        omega
      · rw [if_neg e]
        by_cases h:s<m
        · rw [if_pos h,if_pos (by omega)];omega
        · rw [if_neg h,if_neg (by omega)];omega
  rw [e n (Nat.le_refl n),if_pos hs]
theorem qa9 {b:Nat} {ns:List Int} (h:∀ z∈ns,Bd b z) (k:Nat):Bd b (co ns k):=qgB h k
theorem qge {n:Nat} {g:Nat→Int} (k:Nat):cvL ((List.range n).map fun _=>(0:Int)) g k=0:=by
  have e:((List.range n).map fun _=>(0:Int))=(List.replicate n (1:Int)).map (0*·):=by
    apply List.ext_getElem?
    intro i
    rw [List.getElem?_map,List.getElem?_map]
    by_cases h:i<n
    · rw [List.getElem?_range h,List.getElem?_replicate,if_pos h];rfl
    · rw [List.getElem?_eq_none (by rw [List.length_range];omega),List.getElem?_replicate,if_neg h];rfl
  rw [e,qar];omega
theorem qrs (ns:List Int):List.map V.int ns=qbS ns.length (co ns):=by
  rw [qff]
  congr 1
  apply List.ext_getElem?
  intro i
  rw [List.getElem?_map]
  by_cases h:i<ns.length
  · rw [List.getElem?_range h,List.getElem?_eq_getElem h]
    show _=some (ns.getD i 0)
    rw [List.getD_eq_getElem?_getD,List.getElem?_eq_getElem h];rfl
  · rw [List.getElem?_eq_none (by omega),List.getElem?_eq_none (by rw [List.length_range];omega)];rfl
theorem qcL {ms:List Int} (h:0<ms.length):atI (ms.map V.int) (-1)=some (V.int (co ms (ms.length - 1))):=by
  refine atI_last (by rw [List.length_map];omega) ?_
  rw [List.length_map,List.getElem?_map,List.getElem?_eq_getElem (by omega)]
  show _=some (V.int (ms.getD (ms.length - 1) 0))
  rw [List.getD_eq_getElem?_getD,List.getElem?_eq_getElem (by omega)];rfl
theorem qj6 (h:qaN K vs H Q E):qfv K { nx:=fun _ H'=>Q .non H',rt:=Q } (L2.start ["row", "divisor", "rest", "last", "quotient", "shift", "weight", "place"] vs) H:=by
  obtain ⟨p,q,ns,ms,b,d,rfl,hp,hq,lm,bn,bm,bb,bd1,hn,hm,kN,kR⟩:=h
  have m0:=lm.1
  have lne:=lm.2
  obtain ⟨L,hL⟩:∃ L,ms.length=L+1:=⟨ms.length - 1,by omega⟩
  have hL1:ms.length - 1=L:=by omega
  rw [hL1] at lne
  generalize hlead:co ms L=lead at lne
  have aL:=qcL m0
  rw [hL1,hlead] at aL
  generalize hc:ns.length - L=c
  unfold qfv
  rwa [hp]
  refine fun a ha=>?_
  have sa:=qag ha (HO.lst (ns.map V.int))
  unfold qfU
  have hpa:=sa _ _ hp
  have hqa:=sa _ _ hq
  rwa [hqa]
  unfold qfT
  rwa []
  refine ⟨sz (by decide),fun x hx=>?_⟩
  have sx:=qag hx (HO.lst [V.int 0])
  have hpx:=sx _ _ hpa
  rwa [hpx]
  have hmax:(if (0:Int) > ((List.map V.int ns).length:Int) - (((List.map V.int ms).length:Int) - 1) then (0:Int) else ((List.map V.int ns).length:Int) - (((List.map V.int ms).length:Int) - 1))=(c:Int):=by
    rw [List.length_map,List.length_map];split <;> omega
  rw [hmax]
  refine ⟨by omega,by omega,sz (by simp;omega),fun y hy=>?_⟩
  rw [Int.toNat_natCast,qdt]
  have sy:=qag hy (HO.lst (List.replicate c (V.int 0)))
  have sA:Same (upd H a (HO.lst (ns.map V.int))) (upd (upd (upd H a (HO.lst (ns.map V.int))) x (HO.lst [V.int 0])) y (HO.lst (List.replicate c (V.int 0)))):=fun z o h=>sy z o (sx z o h)
  have hay:=sA _ _ (show upd H a (HO.lst (ns.map V.int)) a=_ from upd_same)
  have hyy:(upd (upd (upd H a (HO.lst (ns.map V.int))) x (HO.lst [V.int 0])) y (HO.lst (List.replicate c (V.int 0)))) y=_:=upd_same
  have sH:Same H (upd (upd (upd H a (HO.lst (ns.map V.int))) x (HO.lst [V.int 0])) y (HO.lst (List.replicate c (V.int 0)))):=fun z o h=>sA z o (sa z o h)
  have nay:a≠y:=qau (sx _ _ (show upd H a (HO.lst (ns.map V.int)) a=_ from upd_same)) hy
  have nyH:H y=none:=by
    cases e:H y with
    | none=>rfl
    | some o=>have:=sx _ _ (sa _ _ e);rw [hy] at this;cases this
  generalize (upd (upd (upd H a (HO.lst (ns.map V.int))) x (HO.lst [V.int 0])) y (HO.lst (List.replicate c (V.int 0))))=H1 at hay hyy sH ⊢
  rw [qrs ns] at hay
  have e0:List.replicate c (V.int 0)=qbS c fun _=>0:=by rw [← qdt,qiv]
  rw [e0] at hyy
  unfold qfS
  have hp1:=sH _ _ hp
  rwa [hp1]
  refine ⟨by rw [List.length_map,List.length_map];omega,?_⟩
  have elo:((List.map V.int ns).length:Int) - (((List.map V.int ms).length:Int) - 1) - 1=(ns.length:Int) - (L:Int) - 1:=by rw [List.length_map,List.length_map];omega
  have ela:((List.map V.int ms).length:Int) - 1=(L:Int):=by rw [List.length_map];omega
  rw [elo,ela]
  have ecn:((ns.length:Int) - (L:Int) - 1 - -1).toNat=c:=by omega
  rw [ecn]
  refine ⟨by omega,by decide,by decide,?_⟩
  let Iv:Nat→L2.St→Hp→Prop:=fun i σ H2=>i≤c∧∃ (F G:Nat→Int) (u v w:Option V),σ=[some (.ref p),some (.ref q),some (.ref a),some (.int (L:Int)),some (.ref y),u,v,w]∧Same H H2∧H2 a=some (.lst (qbS ns.length F))∧H2 y=some (.lst (qbS c G))∧
    (∀ j,j<c - i→G j=0)∧(∀ k,k<ns.length - i→F k=co ns k - cvL ((List.range c).map G) (co ms) k)∧(∀ k,ns.length - i≤k→co ns k=cvL ((List.range c).map G) (co ms) k)∧(∀ k,k<ns.length→Bd (b+i*(d+1)) (F k))
  refine ForJ.down Iv ⟨Nat.zero_le _,co ns,fun _=>0,none,none,none,rfl,sH,hay,hyy,fun _ _=>rfl,fun k _=>by rw [qge];omega,fun k hk=>by rw [qge,qat (by omega)],fun k _=>(qa9 bn k).mono (by omega)⟩ ?_ ?_
  · rintro i σ H2 hi ⟨_,F,G,u,v,w,rfl,s2,ha2,hy2,hG,hF,hF2,bF⟩
    have hq2:=s2 _ _ hq
    have ic:i<c:=hi
    have esh:((ns.length:Int) - (L:Int) - 1 - (i:Int))=((c - 1 - i:Nat):Int):=by omega
    rw [esh]
    generalize hs:c - 1 - i=s
    have hst:s+L=ns.length - 1 - i:=by omega
    have aT:atI (qbS ns.length F) ((s:Int)+(L:Int))=some (V.int (F (s+L))):=qdB (j:=s+L) (by omega) (qbn F (by omega))
    unfold qed
    rwa [ha2,hq2,aL,aT]
    refine ⟨lne,?_⟩
    generalize hw:(F (s+L)).fdiv lead=wt
    have bFt:=bF (s+L) (by omega)
    have bwt:Bd (b+i*(d+1)) wt:=bFt.le (by rw [← hw];exact qpr _ _)
    have bi:b+i*(d+1)≤60000000:=by
      have:=Nat.mul_le_mul_right (d+1) (show i≤ns.length by omega)
      omega
    have bi1:b+(i+1)*(d+1)≤60000000:=by
      have:=Nat.mul_le_mul_right (d+1) (show i+1≤ns.length by omega)
      omega
    have bld:Bd d lead:=by rw [← hlead];exact qa9 bm L
    unfold qec
    rwa [ha2,hq2,aL,aT]
    refine ⟨qmX bwt bld,?_⟩
    refine qcM (fun ce=>?_) (fun ce=>?_)
    · refine kN (fun ⟨A,hA⟩=>?_) _ s2
      have ce':wt*lead≠F (s+L):=by simpa using ce
      have hX:∀ k,cvL (qa4 A (((List.range c).map G).map ((-1)*·))) (co ms) k=co ns k - cvL ((List.range c).map G) (co ms) k:=fun k=>by rw [qav,qar,← hA];omega
      have q:=(qmW lm (X:=qa4 A (((List.range c).map G).map ((-1)*·))) (T:=s+1) (fun k hk=>by rw [hX,hF2 k (by omega)];omega)).2 s rfl
      rw [hX,hL1,hlead,← hF (s+L) (by omega)] at q
      exact ce' (by rw [← hw,q,Int.mul_fdiv_cancel _ lne])
    have ex:wt*lead=F (s+L):=by simpa using ce
    unfold qeb
    rwa [hy2]
    refine ⟨s,by rw [qbu];exact qgM rfl (by omega),?_⟩
    have hG':(qbS c G).set s (V.int wt)=qbS c (fun j=>if j=s then wt else G j):=qeq (by omega) (if_pos rfl) fun j _ hj=>if_neg hj
    rw [hG']
    have s3:Same H (upd H2 y (HO.lst (qbS c fun j=>if j=s then wt else G j))):=fun z o h=>Kp.upd z o (qau h nyH) (s2 z o h)
    have ha3:(upd H2 y (HO.lst (qbS c fun j=>if j=s then wt else G j))) a=_:=(qaw nay).trans ha2
    have hy3:(upd H2 y (HO.lst (qbS c fun j=>if j=s then wt else G j))) y=_:=upd_same
    generalize (upd H2 y (HO.lst (qbS c fun j=>if j=s then wt else G j)))=H3 at s3 ha3 hy3 ⊢
    have cvE:∀ k,cvL ((List.range c).map fun j=>if j=s then wt else G j) (co ms) k=cvL ((List.range c).map G) (co ms) k+wt*upS s (co ms) k:=fun k=>qmY (by omega) (hG s (by omega)) _ k
    have fin:∀ (F':Nat→Int) (u v w:Option V) (H4:Hp),Same H H4→H4 a=some (.lst (qbS ns.length F'))→H4 y=some (.lst (qbS c fun j=>if j=s then wt else G j))→(∀ k,k<ns.length→F' k=F k - (if s≤k∧k - s<L then wt*co ms (k - s) else 0))→
        Iv (i+1) [some (.ref p),some (.ref q),some (.ref a),some (.int (L:Int)),some (.ref y),u,v,w] H4:=fun F' u v w H4 s4 ha4 hy4 eF=>by
      refine ⟨by omega,F',_,u,v,w,rfl,s4,ha4,hy4,fun j hj=>?_,fun k hk=>?_,fun k hk=>?_,fun k hk=>?_⟩
      · show (if j=s then wt else G j)=0
        rw [if_neg (by omega)];exact hG j (by omega)
      · rw [eF k (by omega),cvE,hF k (by omega)]
        unfold upS
        by_cases h:s≤k
        · rw [if_pos h,if_pos ⟨h,by omega⟩];omega
        · rw [if_neg h,if_neg (by omega)];omega
      · rw [cvE]
        by_cases ek:k=s+L
        · have hf:=hF k (by omega)
          rw [ek] at hf ⊢
          unfold upS
          rw [if_pos (by omega),show s+L - s=L by omega,hlead,ex];omega
        · have h2:=hF2 k (by omega)
          rw [h2]
          unfold upS
          by_cases h:s≤k
          · rw [if_pos h,qat (a:=ms) (by omega)];omega
          · rw [if_neg h];omega
      · rw [eF k hk]
        have e2:b+(i+1)*(d+1)=b+i*(d+1)+d+1:=by rw [Nat.add_mul];omega
        rw [e2]
        refine Bd.sub ((bF k hk).mono (by omega)) ?_
        split
        · exact bwt.mul (qa9 bm _)
        · exact qdp _
    unfold qea
    rwa []
    refine qcM (fun cw=>?_) (fun cw=>?_)
    · refine ⟨by omega,by omega,?_⟩
      rw [Int.toNat_natCast]
      refine ForR.by (fun j σ H4=>∃ (u:Option V),σ=[some (.ref p),some (.ref q),some (.ref a),some (.int (L:Int)),some (.ref y),some (.int (s:Int)),some (.int wt),u]∧Same H H4∧H4 a=some (.lst (qbS ns.length fun k=>F k - (if s≤k∧k - s<j then wt*co ms (k - s) else 0)))∧H4 y=some (.lst (qbS c fun j=>if j=s then wt else G j))) ⟨w,rfl,s3,?_,hy3⟩ ?_ ?_
      · rw [ha3]
        exact congrArg (fun l=>some (HO.lst l)) (qdg fun k _=>by rw [if_neg (by omega)];omega)
      · rintro j σ H4 hj ⟨u',rfl,s4,ha4,hy4⟩
        have hq4:=s4 _ _ hq
        have aj:atI (ms.map V.int) (0+(j:Int))=some (V.int (co ms j)):=qdB (j:=j) (by omega) (by rw [qrs];exact qbn _ (by omega))
        rwa [ha4,hq4,aj]
        refine ⟨_,qdB (j:=s+j) (by omega) (qbn _ (by omega)),qmX bwt (qa9 bm j),_,rfl,s+j,by rw [qbu];exact qgM (by omega) (by omega),?_,?_,?_⟩
        · intro z o h
          exact Kp.upd z o (qau h ha) (s4 z o h)
        · refine qeq (by omega) ?_ fun k _ hk=>?_
          · rw [if_pos (by omega),if_neg (by omega),show s+j - s=j by omega];omega
          · by_cases h:s≤k∧k - s<j
            · rw [if_pos h,if_pos (by omega)]
            · rw [if_neg h,if_neg (by omega)]
        · rw [qaw (Ne.symm nay)];exact hy4
      · rintro σ H4 ⟨u',rfl,s4,ha4,hy4⟩
        exact fin _ _ _ _ _ s4 ha4 hy4 fun k _=>rfl
    · have w0:wt=0:=by simpa using cw
      exact fin F _ _ _ _ s3 ha3 hy3 fun k _=>by rw [w0];split <;> omega
  · rintro σ H2 ⟨_,F,G,u,v,w,rfl,s2,ha2,hy2,hG,hF,hF2,bF⟩
    unfold qfR
    rwa [ha2]
    refine fun z hz=>?_
    rw [qkS]
    have sz2:=qag hz (HO.lst (((List.range (min L ns.length)).map F).map V.int))
    refine ⟨_,rfl,qcM (fun ce=>?_) (fun ce=>?_)⟩
    · refine kN (fun ⟨A,hA⟩=>?_) _ (s2.trans sz2)
      have hX:∀ k,cvL (qa4 A (((List.range c).map G).map ((-1)*·))) (co ms) k=co ns k - cvL ((List.range c).map G) (co ms) k:=fun k=>by rw [qav,qar,← hA];omega
      have q:=(qmW lm (X:=qa4 A (((List.range c).map G).map ((-1)*·))) (T:=0) (fun k hk=>by rw [hX,hF2 k (by omega)];omega)).1
      have ce':((List.range (min L ns.length)).map F).any (fun z=>!decide (z=0))=true:=by simpa using ce
      obtain ⟨z,hz',hz0⟩:=List.any_eq_true.mp ce'
      obtain ⟨k,hk,rfl⟩:=List.mem_map.mp hz'
      have hk:=List.mem_range.mp hk
      have e:=hX k
      rw [qba,qbN ms (fun j=>q j (Nat.zero_le j)),← hF k (by omega)] at e
      rw [← e] at hz0
      simp at hz0
    · have ce':((List.range (min L ns.length)).map F).any (fun z=>!decide (z=0))=false:=by simpa using ce
      have hy3:=sz2 _ _ hy2
      rw [qff] at hy3
      refine kR y _ _ (s2.trans sz2) hy3 (by rw [List.length_map,List.length_range];omega) fun k=>?_
      by_cases hk:ns.length - c≤k
      · exact hF2 k hk
      · have:=hF k (by omega)
        rw [qob ce' k (by omega)] at this
        omega
theorem qkT {K:W.Frag} {a:Addr} {capt:List (Option Nat)} {te:TE} {σ:L2.St} {Q:VK} {H:Hp} {ns:List Int} (F:Int→Int) (hp:H a=some (.lst (ns.map V.int))) (hl:ns.length≤1000)
    (hs:∀ n,n∈ns→∀ P:VK,P (.int (F n)) H→te ((qc6 capt σ).set 0 (some (.int n))) H P) (hd:∀ p,H p=none→Q (.ref p) (upd H p (.lst ((ns.map F).map V.int)))):CompJ (Itl K a) capt (qak 0) te σ Q H:=by
  refine CompJ.lst (xs:=ns.map V.int) (fun i ys H'=>i≤ns.length∧H'=H∧ys=((ns.map F).take i).map V.int) ⟨Nat.zero_le _,rfl,rfl⟩ ?_ ?_ ?_
  · rintro i ys H' ⟨h1,rfl,rfl⟩
    refine ⟨by rw [List.length_map];exact h1,sz ?_,SqL.of hp⟩
    rw [List.length_map,List.length_take];omega
  · rintro i x ys H' hi ⟨h1,rfl,rfl⟩
    rw [List.getElem?_map] at hi
    cases e:ns[i]? with
    | none=>rw [e] at hi;cases hi
    | some n=>
      rw [e] at hi
      obtain rfl:V.int n=x:=Option.some.inj hi
      have hi2:i<ns.length:=(List.getElem?_eq_some_iff.mp e).1
      show te ((qc6 capt σ).set 0 (some (.int n))) H' _
      refine hs n (List.mem_of_getElem? e) _ ⟨by omega,rfl,?_⟩
      rw [qbP V.int (q:=F n) (by rw [List.getElem?_map,e];rfl)]
  · rintro ys H' ⟨_,rfl,rfl⟩ p hpn
    have e:(ns.map F).take (ns.map V.int).length=ns.map F:=by rw [List.length_map,show ns.length=(ns.map F).length by rw [List.length_map],List.take_length]
    rw [e]
    exact hd p hpn
theorem qgP (h:qa5 K vs H Q E):qc7 K { nx:=fun _ H'=>Q .non H',rt:=Q } (L2.start ["row", "prime"] vs) H:=by
  obtain ⟨p,ns,m,rfl,hp,m0,hl,q⟩:=h
  unfold qc7
  rwa []
  refine ⟨⟨_,SqL.of hp⟩,qkT (· % m) hp hl (fun n _ P hP=>?_) q⟩
  rwa []
  exact ⟨m0,hP⟩
theorem qjr {F:Int→Int} (h0:F 0=0) (ns:List Int) (k:Nat):co (ns.map F) k=F (co ns k):=by
  unfold co
  rw [List.getD_eq_getElem?_getD,List.getD_eq_getElem?_getD,List.getElem?_map]
  cases ns[k]? with
  | none=>exact h0.symm
  | some z=>rfl
theorem qjs {ns:List Int} {z:Int} (h:z∈qd8 ns):z∈ns:=List.mem_of_mem_take h
theorem qoc (ns:List Int):(qd8 ns).length≤ns.length:=by rw [qgO];exact qgN _ _
theorem qbI (a m:Int):m∣a % m - a:=⟨-(a / m),by have:=Int.emod_add_mul_ediv a m;rw [Int.mul_neg];omega⟩
theorem qiA (h:qaW K vs H Q E):qef K { nx:=fun _ H'=>Q .non H',rt:=Q } (L2.start ["row", "prime"] vs) H:=by
  obtain ⟨p,ns,m,rfl,hp,m0,hl,q⟩:=h
  unfold qef
  rwa [hp]
  refine ⟨_,rfl,m0,hl,fun r hr=>?_⟩
  refine ⟨_,rfl,fun t ht=>?_⟩
  refine q t _ _ ((qag hr _).trans (qag ht _)) upd_same (qiy _) (Nat.le_trans (qoc _) (by rw [List.length_map];exact Nat.le_refl _)) ⟨fun z hz=>?_,fun k=>?_⟩
  · obtain ⟨y,_,rfl⟩:=List.mem_map.mp (qjs hz)
    exact ⟨Int.emod_nonneg _ (by omega),Int.emod_lt_of_pos _ m0⟩
  · rw [qiz,qjr (Int.zero_emod m)]
    exact qbI _ _
theorem qfC (h:qaU K vs H Q E):qcl K { nx:=fun _ H'=>Q .non H',rt:=Q } (L2.start ["whole", "prime", "one", "other", "one_weight", "other_weight", "quotient", "rest"] vs) H:=by
  obtain ⟨a,p,rfl,p2,bp,q⟩:=h
  unfold qcl qcY qcX qcW qcV
  rwa []
  refine ⟨by omega,?_⟩
  have a0:=Int.emod_nonneg a (show p≠0 by omega)
  have a1:=Int.emod_lt_of_pos a (show 0<p by omega)
  refine while_by (fun n σ H'=>∃ (x y s t:Int) (u v:Option V),σ=[some (.int a),some (.int p),some (.int x),some (.int y),some (.int s),some (.int t),u,v]∧H'=H∧n=y.toNat∧0≤y∧y<x∧x≤p∧
    Int.gcd x y=Int.gcd a p∧p∣x - s*a∧p∣y - t*a∧(t.natAbs:Int)*x+(s.natAbs:Int)*y≤p∧(s.natAbs:Int)≤p) (a % p).toNat ⟨p,a % p,0,1,none,none,rfl,rfl,rfl,a0,a1,Int.le_refl _,?_,⟨1,by omega⟩,?_,by simp,by simp;omega⟩ ?_
  · rw [qh6 a (by omega)]
  · rw [show a % p - 1*a=a % p - a by omega]
    exact qbI a p
  · rintro n σ H' ⟨x,y,s,t,u,v,rfl,rfl,rfl,y0,yx,xp,hg,hs,ht,hb,hsp⟩
    have tx:(t.natAbs:Int)*1≤(t.natAbs:Int)*x:=Int.mul_le_mul_of_nonneg_left (by omega) (by omega)
    have sy:0≤(s.natAbs:Int)*y:=Int.mul_nonneg (by omega) y0
    have tp:(t.natAbs:Int)≤p:=by omega
    rwa []
    refine qcM (fun c=>?_) (fun c=>?_)
    · have yp:0<y:=by
        have:y≠0:=by simpa using c
        omega
      unfold qcd qcc qcb qca qb9 qb8 qb7
      have q0:=Int.ediv_nonneg (show 0≤x by omega) y0
      have q1:x / y≤x:=Int.ediv_le_self y (by omega)
      have r0:=Int.emod_nonneg x (show y≠0 by omega)
      have r1:=Int.emod_lt_of_pos x yp
      have er:x - x / y*y=x % y:=by have:=Int.emod_add_mul_ediv x y;rw [Int.mul_comm] at this;omega
      have B:∀ {z:Int},z.natAbs≤p.natAbs→Bd 60000000 z:=fun h=>(bp.le h).mono (by decide)
      refine ⟨fun σ' H''=>∃ m',m'<y.toNat∧_,fun _ _ h=>h,?_⟩
      rwa []
      refine ⟨yp,qmX (B (by omega)) (B (by omega)),qmX (B (by omega)) (B (by omega)),?_⟩
      refine ⟨(x - x / y*y).toNat,by omega,rfl,by omega,by omega,by omega,?_,ht,?_,?_,tp⟩
      · rw [er,qh6 x y0];exact hg
      · obtain ⟨α,hα⟩:=hs
        obtain ⟨β,hβ⟩:=ht
        exact ⟨α - x / y*β,by
          generalize x / y=qq at *
          have e1:x=s*a+p*α:=by omega
          have e2:y=t*a+p*β:=by omega
          rw [e1,e2];grind⟩
      · have n1:((s - x / y*t).natAbs:Int)≤(s.natAbs:Int)+x / y*(t.natAbs:Int):=by
          have h1:=Int.natAbs_sub_le s (x / y*t)
          rw [Int.natAbs_mul] at h1
          have h2:((x / y).natAbs:Int)=x / y:=by omega
          have h3:(((x / y).natAbs*t.natAbs:Nat):Int)=x / y*(t.natAbs:Int):=by rw [Int.natCast_mul,h2]
          omega
        have n2:=Int.mul_le_mul_of_nonneg_right n1 y0
        rw [er]
        have n3:(t.natAbs:Int)*(x % y)=(t.natAbs:Int)*x - (t.natAbs:Int)*(x / y*y):=by rw [← er,Int.mul_sub]
        rw [n3]
        generalize (t.natAbs:Int)=tt at *
        generalize (s.natAbs:Int)=ss at *
        generalize x / y=qq at *
        have n4:(ss+qq*tt)*y=ss*y+tt*(qq*y):=by grind
        omega
    · have yz:y=0:=by simpa using c
      unfold qcU
      rwa []
      refine ⟨by omega,q _ (Int.emod_nonneg _ (by omega)) (Int.emod_lt_of_pos _ (by omega)) fun hc=>?_⟩
      have x1:x=1:=by
        rw [yz] at hg
        rw [Int.gcd_zero_right,hc] at hg
        omega
      obtain ⟨α,hα⟩:=hs
      obtain ⟨γ,hγ⟩:=qbI s p
      refine ⟨γ*a - α,?_⟩
      have e1:s % p=s+p*γ:=by omega
      rw [e1]
      have e2:s*a=1 - p*α:=by omega
      grind
theorem qgQ (h:qaO K vs H Q E):qc8 K { nx:=fun _ H'=>Q .non H',rt:=Q } (L2.start ["row", "prime", "factor"] vs) H:=by
  obtain ⟨q,ns,p,rfl,hq,pp,bp,hl,tz,hz,k⟩:=h
  have p2:(2:Int)≤(p:Int):=by have:=pp.two;omega
  unfold qc8
  rwa [hq]
  by_cases hn:ns=[]
  · subst hn
    refine qcM (fun _=>?_) (fun c=>absurd rfl c)
    refine ⟨sz (by decide),fun r hr=>k r [] 0 _ (qag hr _) upd_same rfl (fun z=>absurd rfl z) ⟨fun z hz=>(by cases hz),fun i=>?_⟩⟩
    show (p:Int)∣co [] i - 0*co [] i
    rw [qat (Nat.zero_le _)];exact ⟨0,by omega⟩
  have l0:0<ns.length:=List.length_pos_iff.mpr hn
  refine qcM (fun c=>absurd c (by simpa using hn)) (fun _=>?_)
  have aL:=qcL l0
  rwa [aL]
  refine ⟨p2,bp,fun f f0 f1 hf=>?_⟩
  have lne:co ns (ns.length - 1)≠0:=by
    rcases tz with h | h
    · exact absurd h hn
    · exact h
  have lz:0≤co ns (ns.length - 1)∧co ns (ns.length - 1)<(p:Int):=hz _ (by
    unfold co
    rw [List.getD_eq_getElem?_getD,List.getElem?_eq_getElem (by omega)]
    exact List.getElem_mem _)
  have gc:Int.gcd (co ns (ns.length - 1)) (p:Int)=1:=pp.cop fun z=>by
    have:=Nat.le_of_dvd (by omega) z
    omega
  have hf:=hf gc
  have B:∀ {z:Int},0≤z→z<(p:Int)→Bd 60000000 z:=fun h1 h2=>(bp.le (by omega)).mono (by decide)
  refine ⟨⟨_,SqL.of hq⟩,qkT (fun n=>n*f % (p:Int)) hq hl (fun n hn P hP=>?_) fun r hr=>?_⟩
  · rwa []
    exact ⟨qmX (B (hz n hn).1 (hz n hn).2) (B f0 f1),by omega,hP⟩
  · have cm:∀ i,co (ns.map fun n=>n*f % (p:Int)) i=co ns i*f % (p:Int):=fun i=>qjr (F:=fun n=>n*f % (p:Int)) (by simp) ns i
    refine k r _ f _ (qag hr _) upd_same (List.length_map ..) (fun _=>?_) ⟨fun z hz=>?_,fun i=>?_⟩
    · rw [List.length_map,cm]
      obtain ⟨c,hc⟩:=hf
      have e:co ns (ns.length - 1)*f=1+(p:Int)*c:=by rw [Int.mul_comm];omega
      rw [e,Int.add_mul_emod_self_left]
      exact Int.emod_eq_of_lt (by decide) (by omega)
    · obtain ⟨y,_,rfl⟩:=List.mem_map.mp hz
      exact ⟨Int.emod_nonneg _ (by omega),Int.emod_lt_of_pos _ (by omega)⟩
    · rw [cm]
      show (p:Int)∣co ns i*f % (p:Int) - f*co ns i
      rw [Int.mul_comm f]
      exact qbI _ _
theorem qlr (h:qbZ K vs H Q E):qgI K { nx:=fun _ H'=>Q .non H',rt:=Q } (L2.start ["whole", "prime", "rest"] vs) H:=by
  obtain ⟨w,p,rfl,p0,k⟩:=h
  unfold qgI
  rwa []
  have r0:=Int.emod_nonneg w (show p≠0 by omega)
  have r1:=Int.emod_lt_of_pos w p0
  have rd:=qbI w p
  refine ⟨p0,IntMulOk.of_left (intBits_le_64 (by omega) (by omega)),qcM (fun c=>?_) (fun c=>?_)⟩
  · refine k _ ?_ (by omega)
    obtain ⟨γ,hγ⟩:=rd
    exact ⟨γ - 1,by rw [Int.mul_sub];omega⟩
  · exact k _ rd (by omega)
theorem qhi (h:qbd K vs H Q E):qdw K { nx:=fun _ H'=>Q .non H',rt:=Q } (L2.start ["row", "divisor", "modulus"] vs) H:=by
  obtain ⟨p,q,ns,ms,m,b,rfl,hp,hq,m0,ml,mp,bm,bms,bb,hn,hm,k⟩:=h
  unfold qdw
  rwa [hp,hq]
  refine ⟨ns,rfl,ms,rfl,m0,ml,mp,b,bm,bms,bb,hn,hm,fun t r s qs rs H' sH ht hr hs tq tr lr md _=>?_⟩
  refine ⟨_,ht,?_⟩
  rwa []
  exact k s qs rs H' sH hs tr lr md
theorem qf0 (h:qa1 K vs H Q E):qcF K { nx:=fun _ H'=>Q .non H',rt:=Q } (L2.start ["row", "other", "prime", "rest"] vs) H:=by
  obtain ⟨a,b,ns,ms,p,rfl,ha,hb,pp,bp,hn,hm,h0,k⟩:=h
  have p2:(2:Int)≤(p:Int):=by have:=pp.two;omega
  unfold qcF
  rwa [ha]
  refine ⟨ns,rfl,by omega,hn,fun c r1 H1 s1 hc tz1 l1 md1=>?_⟩
  refine ⟨r1,p,rfl,hc,pp,bp,by omega,tz1,md1.1,fun d r2 f H2 s2 hd l2 o2 md2=>?_⟩
  have hb2:=s2 _ _ (s1 _ _ hb)
  rwa [hb2]
  refine ⟨ms,rfl,by omega,hm,fun c' r3 H3 s3 hc' tz3 l3 md3=>?_⟩
  refine ⟨r3,p,rfl,hc',pp,bp,by omega,tz3,md3.1,fun d' r4 f' H4 s4 hd' l4 o4 md4=>?_⟩
  have s04:Same H H4:=((s1.trans s2).trans s3).trans s4
  have hd4:=(s3.trans s4) _ _ hd
  have step:∀ {g h:Nat→Int} {rs:List Int} {f:Int},Dm (p:Int) g h→Md (p:Int) rs (fun k=>f*h k)→Dm (p:Int) g (co rs):=fun {g h rs f} d md=>by
    refine Dm.congr (Dm.less d d f 0 0) fun k=>?_
    have:=md.2 k
    show (p:Int)∣co rs k - (f*h k - 0*_)
    rw [Int.zero_mul,Int.sub_zero]
    exact this
  have nz:∀ {xs rs rs2:List Int} {f:Int},(∃ k,¬ (p:Int)∣co xs k)→Md (p:Int) rs (co xs)→rs2.length=rs.length→0<rs2.length:=fun {xs rs rs2 f} ⟨k,hk⟩ md e=>by
    rcases Nat.eq_zero_or_pos rs2.length with z | z
    · exfalso
      have:=md.2 k
      rw [qat (by omega)] at this
      have t2:=Int.dvd_neg.mpr this
      rw [show ∀ x:Int,-(0 - x)=x by intro x;omega] at t2
      exact hk t2
    · exact z
  have M1:∀ {xs rs:List Int},Md (p:Int) rs (co xs)→∀ {g:Nat→Int},Dm (p:Int) g (co xs)→Dm (p:Int) g (co rs):=fun md g d=>Dm.congr d md.2
  have back1:∀ {g:Nat→Int} {r r2:List Int} {f:Int},Md (p:Int) r2 (fun k=>f*co r k)→r2.length=r.length→(r≠[]→co r2 (r2.length - 1)=1)→Dm (p:Int) g (co r2)→Dm (p:Int) g (co r):=fun {g r r2 f} md l o d=>by
    by_cases r0:r=[]
    · exact Dm.zero _ _ fun k=>by rw [r0,qat (Nat.zero_le _)];exact Int.dvd_zero _
    · refine Dm.congr (Dm.less d d (co r (r.length - 1)) 0 0) fun k=>?_
      show (p:Int)∣co r k - (co r (r.length - 1)*co r2 k - 0*_)
      rw [Int.zero_mul,Int.sub_zero]
      have h1:=md.2 k
      have h2:=md.2 (r2.length - 1)
      rw [o r0,l] at h2
      have q1:(p:Int)∣co r (r.length - 1)*(co r2 k - f*co r k):=Int.dvd_mul_of_dvd_right h1
      have q2:(p:Int)∣co r k*(1 - f*co r (r.length - 1)):=Int.dvd_mul_of_dvd_right h2
      refine Int.dvd_trans (Int.dvd_sub q2 q1) (qn9 ?_)
      grind
  have back:∀ {g:Nat→Int} {xs r r2:List Int} {f:Int},Md (p:Int) r (co xs)→Md (p:Int) r2 (fun k=>f*co r k)→r2.length=r.length→(r≠[]→co r2 (r2.length - 1)=1)→Dm (p:Int) g (co r2)→Dm (p:Int) g (co xs):=fun {g xs r r2 f} md1 md l o d=>Dm.congr (back1 md l o d) fun k=>by
    have:=Int.dvd_neg.mpr (md1.2 k)
    refine Int.dvd_trans this (qn9 ?_)
    omega
  refine while_by (fun m σ H'=>∃ (x y:Addr) (xs ys:List Int) (u:Option V),σ=[some (.ref x),some (.ref y),some (.int (p:Int)),u]∧Same H H'∧H' x=some (.lst (xs.map V.int))∧H' y=some (.lst (ys.map V.int))∧m=ys.length∧xs.length≤1000∧ys.length≤1000∧(0<xs.length∨0<ys.length)∧(xs≠[]→co xs (xs.length - 1)=1)∧(ys≠[]→co ys (ys.length - 1)=1)∧(∀ z∈xs,0≤z∧z<(p:Int))∧(∀ z∈ys,0≤z∧z<(p:Int))∧
    (∀ g:Nat→Int,Dm (p:Int) g (co ns)→Dm (p:Int) g (co ms)→Dm (p:Int) g (co xs)∧Dm (p:Int) g (co ys))∧(∀ g:Nat→Int,Dm (p:Int) g (co xs)→Dm (p:Int) g (co ys)→Dm (p:Int) g (co ns)∧Dm (p:Int) g (co ms))) r4.length ⟨d,d',r2,r4,none,rfl,s04,hd4,hd',rfl,by omega,by omega,?_,?_,?_,md2.1,md4.1,fun g d1 d2=>⟨step (M1 md1 d1) md2,step (M1 md3 d2) md4⟩,fun g d1 d2=>⟨back md1 md2 l2 o2 d1,back md3 md4 l4 o4 d2⟩⟩ ?_
  · rcases h0 with h | h
    · exact .inl (nz (f:=f) h md1 l2)
    · exact .inr (nz (f:=f) h md3 l4)
  · intro z
    exact o2 fun e=>z (List.length_eq_zero_iff.mp (by rw [l2,e];rfl))
  · intro z
    exact o4 fun e=>z (List.length_eq_zero_iff.mp (by rw [l4,e];rfl))
  · rintro m σ H' ⟨x,y,xs,ys,u,rfl,sH,hx,hy,rfl,xl,yl,ne,ox,oy,bx,bY,hD,hE⟩
    rwa [hy]
    by_cases hys:ys=[]
    · subst hys
      refine qcM (fun c=>absurd c (by simp)) (fun _=>?_)
      have x0:0<xs.length:=by simpa using ne
      have rfx:Dm (p:Int) (co xs) (co xs):=⟨[1],fun k=>by
        have e:cvL [1] (co xs) k=co xs k:=by
          cases k with
          | zero=>rw [qam];omega
          | succ k=>rw [qaj,qaB];omega
        rw [e,Int.sub_self];exact Int.dvd_zero _⟩
      have zz:Dm (p:Int) (co xs) (co []):=Dm.zero _ _ fun k=>by rw [qat (Nat.zero_le _)];exact Int.dvd_zero _
      exact k x xs H' sH hx x0 xl (ox (List.length_pos_iff.mp x0)) bx (fun g d1 d2=>(hD g d1 d2).1) (hE _ rfx zz).1 (hE _ rfx zz).2
    · have y0:0<ys.length:=List.length_pos_iff.mpr hys
      refine qcM (fun _=>?_) (fun c=>absurd hys (by simpa using c))
      refine ⟨fun σ' H''=>∃ m',m'<ys.length∧_,fun _ _ h=>h,?_⟩
      rwa [hx,hy]
      have B:∀ z:Int,0≤z→z<(p:Int)→Bd 45000 z:=fun z h1 h2=>bp.le (by omega)
      refine ⟨xs,rfl,ys,rfl,y0,oy hys,by omega,45000,bp,fun z hz=>B z (bY z hz).1 (bY z hz).2,by decide,xl,yl,fun s qs rs H2 sH2 hs trs lrs md=>?_⟩
      have whole:∀ g:Nat→Int,Dm (p:Int) g (co ys)→Dm (p:Int) g (co rs)→Dm (p:Int) g (co xs):=fun g d1 d2=>by
        obtain ⟨S1,h1⟩:=d1
        obtain ⟨S2,h2⟩:=d2
        refine ⟨qa4 S2 (qaS qs S1),fun k=>?_⟩
        rw [qav,qap]
        have e1:=cvD h1 qs k
        have m2:(p:Int)∣co rs k - (co xs k - cvL qs (co ys) k):=md.2 k
        have:=Int.dvd_add (Int.dvd_sub (h2 k) m2) e1
        refine Int.dvd_trans this (qn9 ?_)
        omega
      refine ⟨rs,p,rfl,hs,pp,bp,by omega,trs,md.1,fun t ts f H3 sH3 ht lt ot mdt=>?_⟩
      refine ⟨ts.length,by omega,(sH.trans sH2).trans sH3,ys,(sH2.trans sH3) _ _ hy,ts,ht,rfl,yl,by omega,.inl y0,oy,fun z=>ot fun e=>z (List.length_eq_zero_iff.mp (by rw [lt,e];rfl)),bY,mdt.1,fun g d1 d2=>⟨(hD g d1 d2).2,?_⟩,fun g d1 d2=>hE g (whole g d1 (back1 mdt lt ot d2)) d1⟩
      obtain ⟨dx,dy⟩:=hD g d1 d2
      have dr:Dm (p:Int) g (co rs):=by
        obtain ⟨S1,h1⟩:=dx
        obtain ⟨S2,h2⟩:=dy
        refine Dm.congr (f:=fun k=>co xs k - cvL qs (co ys) k) ⟨qa4 S1 ((qaS qs S2).map (-1*·)),fun k=>?_⟩ md.2
        rw [qav,qar,qap]
        have e:(p:Int)∣cvL qs (co ys) k - cvL qs (cvL S2 g) k:=by
          have lin:∀ (A:List Int) (k:Nat),(p:Int)∣cvL A (co ys) k - cvL A (cvL S2 g) k:=by
            intro A
            induction A with
            | nil=>intro k;rw [qaB,qaB];exact ⟨0,by omega⟩
            | cons a A ih=>
              intro k
              rw [qcR,qcR]
              have i2:(p:Int)∣up1 (cvL A (co ys)) k - up1 (cvL A (cvL S2 g)) k:=by
                cases k with
                | zero=>exact ⟨0,by show (0:Int) - 0=_;omega⟩
                | succ k=>exact ih k
              have i1:(p:Int)∣a*(co ys k - cvL S2 g k):=Int.dvd_mul_of_dvd_right (h2 k)
              have:=Int.dvd_add i1 i2
              rw [show a*(co ys k - cvL S2 g k)+(up1 (cvL A (co ys)) k - up1 (cvL A (cvL S2 g)) k)=a*co ys k+up1 (cvL A (co ys)) k - (a*cvL S2 g k+up1 (cvL A (cvL S2 g)) k) by rw [Int.mul_sub];omega] at this
              exact this
          exact lin qs k
        have:=Int.dvd_sub (h1 k) e
        rw [show co xs k - cvL S1 g k - (cvL qs (co ys) k - cvL qs (cvL S2 g) k)=co xs k - cvL qs (co ys) k - (cvL S1 g k + -1*cvL qs (cvL S2 g) k) by omega] at this
        exact this
      exact step dr mdt
theorem qgR (h:qa6 K vs H Q E):qc9 K { nx:=fun _ H'=>Q .non H',rt:=Q } (L2.start ["row", "divisor", "modulus", "rest", "last", "quotient", "shift", "weight", "place"] vs) H:=by
  obtain ⟨p,q,ns,ms,m,b,rfl,hp,hq,m0,ml,mp,bm,bms,bb,hn,hm,kR⟩:=h
  obtain ⟨L,hL⟩:∃ L,ms.length=L+1:=⟨ms.length - 1,by omega⟩
  have hL1:ms.length - 1=L:=by omega
  rw [hL1] at ml
  generalize hc:ns.length - L=c
  unfold qc9
  rwa [hp]
  refine fun a ha=>?_
  have sa:=qag ha (HO.lst (ns.map V.int))
  unfold qdF
  have hpa:=sa _ _ hp
  have hqa:=sa _ _ hq
  rwa [hqa]
  unfold qdE
  rwa []
  refine ⟨sz (by decide),fun x hx=>?_⟩
  have sx:=qag hx (HO.lst [V.int 0])
  have hpx:=sx _ _ hpa
  rwa [hpx]
  have hmax:(if (0:Int) > ((List.map V.int ns).length:Int) - (((List.map V.int ms).length:Int) - 1) then (0:Int) else ((List.map V.int ns).length:Int) - (((List.map V.int ms).length:Int) - 1))=(c:Int):=by
    rw [List.length_map,List.length_map];split <;> omega
  rw [hmax]
  refine ⟨by omega,by omega,sz (by simp;omega),fun y hy=>?_⟩
  rw [Int.toNat_natCast,qdt]
  have sy:=qag hy (HO.lst (List.replicate c (V.int 0)))
  have sA:Same (upd H a (HO.lst (ns.map V.int))) (upd (upd (upd H a (HO.lst (ns.map V.int))) x (HO.lst [V.int 0])) y (HO.lst (List.replicate c (V.int 0)))):=fun z o h=>sy z o (sx z o h)
  have hay:=sA _ _ (show upd H a (HO.lst (ns.map V.int)) a=_ from upd_same)
  have hyy:(upd (upd (upd H a (HO.lst (ns.map V.int))) x (HO.lst [V.int 0])) y (HO.lst (List.replicate c (V.int 0)))) y=_:=upd_same
  have sH:Same H (upd (upd (upd H a (HO.lst (ns.map V.int))) x (HO.lst [V.int 0])) y (HO.lst (List.replicate c (V.int 0)))):=fun z o h=>sA z o (sa z o h)
  have nay:a≠y:=qau (sx _ _ (show upd H a (HO.lst (ns.map V.int)) a=_ from upd_same)) hy
  have nyH:H y=none:=by
    cases e:H y with
    | none=>rfl
    | some o=>have:=sx _ _ (sa _ _ e);rw [hy] at this;cases this
  generalize (upd (upd (upd H a (HO.lst (ns.map V.int))) x (HO.lst [V.int 0])) y (HO.lst (List.replicate c (V.int 0))))=H1 at hay hyy sH ⊢
  rw [qrs ns] at hay
  have e0:List.replicate c (V.int 0)=qbS c fun _=>0:=by rw [← qdt,qiv]
  rw [e0] at hyy
  unfold qdD
  have hp1:=sH _ _ hp
  rwa [hp1]
  refine ⟨by rw [List.length_map,List.length_map];omega,?_⟩
  have elo:((List.map V.int ns).length:Int) - (((List.map V.int ms).length:Int) - 1) - 1=(ns.length:Int) - (L:Int) - 1:=by rw [List.length_map,List.length_map];omega
  have ela:((List.map V.int ms).length:Int) - 1=(L:Int):=by rw [List.length_map];omega
  rw [elo,ela]
  have ecn:((ns.length:Int) - (L:Int) - 1 - -1).toNat=c:=by omega
  rw [ecn]
  refine ⟨by omega,by decide,by decide,?_⟩
  let Iv:Nat→L2.St→Hp→Prop:=fun i σ H2=>i≤c∧∃ (F G:Nat→Int) (u v w:Option V),σ=[some (.ref p),some (.ref q),some (.int m),some (.ref a),some (.int (L:Int)),some (.ref y),u,v,w]∧Same H H2∧H2 a=some (.lst (qbS ns.length F))∧H2 y=some (.lst (qbS c G))∧
    (∀ j,j<c - i→G j=0)∧(∀ k,k<ns.length - i→m∣F k - (co ns k - cvL ((List.range c).map G) (co ms) k))∧(∀ k,ns.length - i≤k→m∣co ns k - cvL ((List.range c).map G) (co ms) k)∧(∀ j,j<c→0≤G j∧G j<m)
  refine ForJ.down Iv ⟨Nat.zero_le _,co ns,fun _=>0,none,none,none,rfl,sH,hay,hyy,fun _ _=>rfl,fun k _=>by rw [qge];exact ⟨0,by omega⟩,fun k hk=>by rw [qge,qat (by omega)];exact ⟨0,by omega⟩,fun k _=>⟨Int.le_refl 0,mp⟩⟩ ?_ ?_
  · rintro i σ H2 hi ⟨_,F,G,u,v,w,rfl,s2,ha2,hy2,hG,hF,hF2,bG⟩
    have hq2:=s2 _ _ hq
    have ic:i<c:=hi
    have esh:((ns.length:Int) - (L:Int) - 1 - (i:Int))=((c - 1 - i:Nat):Int):=by omega
    rw [esh]
    generalize hs:c - 1 - i=s
    have hst:s+L=ns.length - 1 - i:=by omega
    have aT:atI (qbS ns.length F) ((s:Int)+(L:Int))=some (V.int (F (s+L))):=qdB (j:=s+L) (by omega) (qbn F (by omega))
    unfold qcE
    rwa [ha2,hq2,aT]
    refine ⟨mp,?_⟩
    have w0:=Int.emod_nonneg (F (s+L)) (show m≠0 by omega)
    have w1:=Int.emod_lt_of_pos (F (s+L)) mp
    have wd:=qbI (F (s+L)) m
    generalize hw:F (s+L) % m=wt at w0 w1 wd
    have bwt:Bd b wt:=bm.le (by omega)
    unfold qcD
    rwa [hy2]
    refine ⟨s,by rw [qbu];exact qgM rfl (by omega),?_⟩
    have hG':(qbS c G).set s (V.int wt)=qbS c (fun j=>if j=s then wt else G j):=qeq (by omega) (if_pos rfl) fun j _ hj=>if_neg hj
    rw [hG']
    have s3:Same H (upd H2 y (HO.lst (qbS c fun j=>if j=s then wt else G j))):=fun z o h=>Kp.upd z o (qau h nyH) (s2 z o h)
    have ha3:(upd H2 y (HO.lst (qbS c fun j=>if j=s then wt else G j))) a=_:=(qaw nay).trans ha2
    have hy3:(upd H2 y (HO.lst (qbS c fun j=>if j=s then wt else G j))) y=_:=upd_same
    generalize (upd H2 y (HO.lst (qbS c fun j=>if j=s then wt else G j)))=H3 at s3 ha3 hy3 ⊢
    have cvE:∀ k,cvL ((List.range c).map fun j=>if j=s then wt else G j) (co ms) k=cvL ((List.range c).map G) (co ms) k+wt*upS s (co ms) k:=fun k=>qmY (by omega) (hG s (by omega)) _ k
    have fin:∀ (F':Nat→Int) (u v w:Option V) (H4:Hp),Same H H4→H4 a=some (.lst (qbS ns.length F'))→H4 y=some (.lst (qbS c fun j=>if j=s then wt else G j))→(∀ k,k<ns.length→F' k=F k - (if s≤k∧k - s<L then wt*co ms (k - s) else 0))→
        Iv (i+1) [some (.ref p),some (.ref q),some (.int m),some (.ref a),some (.int (L:Int)),some (.ref y),u,v,w] H4:=fun F' u v w H4 s4 ha4 hy4 eF=>by
      refine ⟨by omega,F',_,u,v,w,rfl,s4,ha4,hy4,fun j hj=>?_,fun k hk=>?_,fun k hk=>?_,fun j hj=>?_⟩
      · show (if j=s then wt else G j)=0
        rw [if_neg (by omega)];exact hG j (by omega)
      · have hf:=hF k (by omega)
        rw [eF k (by omega),cvE]
        unfold upS
        by_cases h:s≤k
        · rw [if_pos h,if_pos ⟨h,by omega⟩]
          rw [show ∀ x y z w:Int,x - y - (z - (w+y))=x - (z - w) by intro x y z w;omega]
          exact hf
        · rw [if_neg h,if_neg (by omega)]
          rw [show ∀ x z w:Int,x - 0 - (z - (w+wt*0))=x - (z - w) by intro x z w;omega]
          exact hf
      · rw [cvE]
        by_cases ek:k=s+L
        · have hf:=hF k (by omega)
          rw [ek] at hf ⊢
          unfold upS
          rw [if_pos (by omega),show s+L - s=L by omega,ml]
          obtain ⟨α,hα⟩:=hf
          obtain ⟨β,hβ⟩:=wd
          exact ⟨-α - β,by rw [Int.mul_sub,Int.mul_neg];omega⟩
        · have h2:=hF2 k (by omega)
          unfold upS
          by_cases h:s≤k
          · rw [if_pos h,qat (a:=ms) (by omega),Int.mul_zero,Int.add_zero];exact h2
          · rw [if_neg h,Int.mul_zero,Int.add_zero];exact h2
      · show 0≤(if j=s then wt else G j)∧(if j=s then wt else G j)<m
        split
        · exact ⟨w0,w1⟩
        · exact bG j hj
    unfold qcC
    rwa []
    refine qcM (fun cw=>?_) (fun cw=>?_)
    · refine ⟨by omega,by omega,?_⟩
      rw [Int.toNat_natCast]
      refine ForR.by (fun j σ H4=>∃ (u:Option V),σ=[some (.ref p),some (.ref q),some (.int m),some (.ref a),some (.int (L:Int)),some (.ref y),some (.int (s:Int)),some (.int wt),u]∧Same H H4∧H4 a=some (.lst (qbS ns.length fun k=>F k - (if s≤k∧k - s<j then wt*co ms (k - s) else 0)))∧H4 y=some (.lst (qbS c fun j=>if j=s then wt else G j))) ⟨w,rfl,s3,?_,hy3⟩ ?_ ?_
      · rw [ha3]
        exact congrArg (fun l=>some (HO.lst l)) (qdg fun k _=>by rw [if_neg (by omega)];omega)
      · rintro j σ H4 hj ⟨u',rfl,s4,ha4,hy4⟩
        have hq4:=s4 _ _ hq
        have aj:atI (ms.map V.int) (0+(j:Int))=some (V.int (co ms j)):=qdB (j:=j) (by omega) (by rw [qrs];exact qbn _ (by omega))
        rwa [ha4,hq4,aj]
        refine ⟨_,qdB (j:=s+j) (by omega) (qbn _ (by omega)),qmX bwt (qa9 bms j),_,rfl,s+j,by rw [qbu];exact qgM (by omega) (by omega),?_,?_,?_⟩
        · intro z o h
          exact Kp.upd z o (qau h ha) (s4 z o h)
        · refine qeq (by omega) ?_ fun k _ hk=>?_
          · rw [if_pos (by omega),if_neg (by omega),show s+j - s=j by omega];omega
          · by_cases h:s≤k∧k - s<j
            · rw [if_pos h,if_pos (by omega)]
            · rw [if_neg h,if_neg (by omega)]
        · rw [qaw (Ne.symm nay)];exact hy4
      · rintro σ H4 ⟨u',rfl,s4,ha4,hy4⟩
        exact fin _ _ _ _ _ s4 ha4 hy4 fun k _=>rfl
    · have w0':wt=0:=by simpa using cw
      exact fin F _ _ _ _ s3 ha3 hy3 fun k _=>by rw [w0'];split <;> omega
  · rintro σ H2 ⟨_,F,G,u,v,w,rfl,s2,ha2,hy2,hG,hF,hF2,bG⟩
    unfold qdC
    rw [qff] at hy2
    rwa [ha2,hy2]
    refine ⟨_,rfl,fun t ht=>?_⟩
    have st:=qag ht (HO.lst (List.map V.int (qd8 (List.map G (List.range c)))))
    have ha3:=st _ _ ha2
    have htt:upd H2 t (HO.lst (List.map V.int (qd8 (List.map G (List.range c))))) t=_:=upd_same
    generalize upd H2 t (HO.lst (List.map V.int (qd8 (List.map G (List.range c)))))=H3 at st ha3 htt ⊢
    refine ⟨_,ha3,fun z hz=>?_⟩
    rw [qkS]
    have sz2:=qag hz (HO.lst (((List.range (min L ns.length)).map F).map V.int))
    refine ⟨_,rfl,mp,by rw [List.length_map,List.length_range];omega,fun r rs H4 s4 hr4 tr lr md=>?_⟩
    rw [List.length_map,List.length_range] at lr
    refine ⟨sz (by decide),fun e he=>?_⟩
    have se:=qag he (HO.tup [V.ref t,V.ref r])
    have cq:∀ k,cvL (qd8 ((List.range c).map G)) (co ms) k=cvL ((List.range c).map G) (co ms) k:=fun k=>by
      rw [qba,qai (fun j=>qiz _ j) ms k,← qba]
    refine kR e t r _ rs _ ((s2.trans st).trans ((sz2.trans s4).trans se)) upd_same (se _ _ (s4 _ _ (sz2 _ _ htt))) (se _ _ hr4) (qiy _) tr (by omega) ⟨md.1,fun k=>?_⟩ fun z hz=>?_
    · have:=md.2 k
      rw [qgb] at this
      show m∣co rs k - (co ns k - cvL (qd8 ((List.range c).map G)) (co ms) k)
      rw [cq]
      by_cases hk:k<min L ns.length
      · rw [if_pos hk] at this
        have h2:=Int.dvd_add this (hF k (by omega))
        rw [show ∀ x y z:Int,x - y+(y - z)=x - z by intro x y z;omega] at h2
        exact h2
      · rw [if_neg hk] at this
        have h2:=Int.dvd_sub this (hF2 k (by omega))
        rw [show ∀ x y:Int,x - 0 - y=x - y by intro x y;omega] at h2
        exact h2
    · obtain ⟨j,hj,rfl⟩:=List.mem_map.mp (qjs hz)
      exact bG j (List.mem_range.mp hj)
theorem SDs.tp {H H':Hp} (s:Same H H'):∀ {xs:List V} {rs:List (List Int)},SDs H xs rs→SDs H' xs rs
  | [],[],_=>trivial
  | _::_,_::_,h=>⟨let ⟨p,e,q⟩:=h.1;⟨p,e,s _ _ q⟩,SDs.tp s h.2⟩
  | [],_::_,h=>h.elim
  | _::_,[],h=>h.elim
theorem SD.tp {H H':Hp} (s:Same H H') {p:Addr} {rs:List (List Int)} (h:SD H p rs):SD H' p rs:=let ⟨xs,e,q⟩:=h;⟨xs,s _ _ e,q.tp s⟩
theorem SDs.length {H:Hp}:∀ {xs:List V} {rs:List (List Int)},SDs H xs rs→xs.length=rs.length
  | [],[],_=>rfl
  | _::_,_::_,h=>congrArg (·+1) (SDs.length h.2)
  | [],_::_,h=>h.elim
  | _::_,[],h=>h.elim
theorem SDs.get {H:Hp}:∀ {xs:List V} {rs:List (List Int)} {i:Nat} {v:V},SDs H xs rs→xs[i]?=some v→∃ p r,v=.ref p∧rs[i]?=some r∧H p=some (.lst (r.map V.int))
  | [],[],_,_,_,e=>by simp at e
  | _::_,r::_,0,_,h,e=>by
    simp at e;subst e
    obtain ⟨p,e,q⟩:=h.1
    exact ⟨p,r,e,rfl,q⟩
  | _::_,_::_,i+1,_,h,e=>by
    obtain ⟨p,r,h1,h2,h3⟩:=SDs.get (i:=i) h.2 (by simpa using e)
    exact ⟨p,r,h1,by simpa using h2,h3⟩
  | [],_::_,_,_,h,_=>h.elim
  | _::_,[],_,_,h,_=>h.elim
theorem SDs.snoc {H:Hp} {p:Addr} {r:List Int} (hp:H p=some (.lst (r.map V.int))):∀ {xs:List V} {rs:List (List Int)},SDs H xs rs→SDs H (xs++[.ref p]) (rs++[r])
  | [],[],_=>⟨⟨p,rfl,hp⟩,trivial⟩
  | _::_,_::_,h=>⟨h.1,SDs.snoc hp h.2⟩
  | [],_::_,h=>h.elim
  | _::_,[],h=>h.elim
theorem SD.head {H:Hp} {p:Addr} {r:List Int} {rs:List (List Int)} (h:SD H p (r::rs)):∃ a xs,H p=some (.lst (.ref a::xs))∧H a=some (.lst (r.map V.int))∧SDs H (.ref a::xs) (r::rs):=by
  obtain ⟨xs,e,q⟩:=h
  match xs,q with
  | [],q=>exact q.elim
  | x::xs,q=>
    obtain ⟨a,e1,e2⟩:=q.1
    subst e1
    exact ⟨a,xs,e,e2,q⟩
theorem qer {α:Type} (x:α) (xs:List α):atI (x::xs) 0=some x:=by
  unfold atI ixN
  rw [if_pos (by decide),if_pos (by rw [List.length_cons];omega)]
  rfl
theorem qeP (h:qaE K vs H Q E):qbO K { nx:=fun _ H'=>Q .non H',rt:=Q } (L2.start ["strand", "shared", "row"] vs) H:=by
  obtain ⟨p,rows,rfl,⟨xs,hp,hS⟩,hl,hr,k⟩:=h
  have lx:=hS.length
  unfold qbO
  rwa []
  refine ⟨⟨_,SqL.of hp⟩,ForL.by (xs:=xs) (fun i σ H'=>∃ (g:Int) (u:Option V),σ=[some (.ref p),some (.int g),u]∧Same H H'∧0≤g∧(∀ r∈rows.take i,∀ z∈r,g∣z)∧(∀ d:Int,(∀ r∈rows.take i,∀ z∈r,d∣z)→d∣g)) ⟨0,none,rfl,Same.refl H,Int.le_refl 0,fun r hr=>(by simp at hr),fun d _=>Int.dvd_zero d⟩ ?_ ?_ ?_⟩
  · rintro i σ H' _ ⟨g,u,rfl,s,_⟩
    exact SqL.of (s _ _ hp)
  · rintro i x σ H' hi ⟨g,u,rfl,s,g0,g1,g2⟩
    obtain ⟨a,r,rfl,hri,ha⟩:=hS.get hi
    have ha':=s _ _ ha
    have hrm:=hr r (List.mem_of_getElem? hri)
    rwa [ha']
    refine ⟨r,rfl,hrm.1,fun g' H2 s2 g0' d1 d2 d3=>?_⟩
    have et:rows.take (i+1)=rows.take i++[r]:=by rw [List.take_add_one,hri];rfl
    refine ⟨s.trans s2,g0',fun r' hr' z hz=>?_,fun d hd=>d3 d ?_ fun z hz=>?_⟩
    · rw [et] at hr'
      rcases List.mem_append.mp hr' with h | h
      · exact Int.dvd_trans d1 (g1 r' h z hz)
      · rw [List.mem_singleton.mp h] at hz;exact d2 z hz
    · exact g2 d fun r' hr' z hz=>hd r' (by rw [et];exact List.mem_append_left _ hr') z hz
    · exact hd r (by rw [et];exact List.mem_append_right _ (List.mem_singleton.mpr rfl)) z hz
  · rintro σ H' ⟨g,u,rfl,s,g0,g1,g2⟩
    rw [lx,List.take_length] at g1 g2
    have hp':=s _ _ hp
    have gz:∀ r∈rows,0<g∨r=[]:=fun r hrr=>by
      rcases Int.lt_or_le 0 g with h | h
      · exact .inl h
      · right
        have ge:g=0:=by omega
        rcases (hr r hrr).2 with h | h
        · exact h
        · exfalso
          by_cases hl0:r.length=0
          · rw [qat (by omega)] at h;exact h rfl
          · have:=g1 r hrr (co r (r.length - 1)) (by
              unfold co
              rw [List.getD_eq_getElem?_getD,List.getElem?_eq_getElem (by omega)]
              exact List.getElem_mem _)
            rw [ge] at this
            exact h (Int.zero_dvd.mp this)
    rwa []
    refine ⟨⟨_,SqL.of hp'⟩,CompJ.lst (xs:=xs) (fun i ys H2=>i≤rows.length∧Same H H2∧SDs H2 ys ((rows.take i).map fun r=>r.map (· / g))) ⟨Nat.zero_le _,s,trivial⟩ ?_ ?_ ?_⟩
    · rintro i ys H2 ⟨h1,s2,hy⟩
      refine ⟨by omega,sz ?_,SqL.of (s2 _ _ hp)⟩
      rw [hy.length,List.length_map,List.length_take];omega
    · rintro i x ys H2 hi ⟨h1,s2,hy⟩
      obtain ⟨a,r,rfl,hri,ha⟩:=hS.get hi
      have ha':=s2 _ _ ha
      have hrm:=hr r (List.mem_of_getElem? hri)
      have hi2:i<rows.length:=(List.getElem?_eq_some_iff.mp hri).1
      rwa [ha']
      refine ⟨r,rfl,gz r (List.mem_of_getElem? hri),hrm.1,fun t ht=>?_⟩
      refine ⟨by omega,s2.trans (qag ht _),?_⟩
      have et:(rows.take (i+1)).map (fun r=>r.map (· / g))=(rows.take i).map (fun r=>r.map (· / g))++[r.map (· / g)]:=by rw [List.take_add_one,hri];simp
      rw [et]
      exact SDs.snoc upd_same (hy.tp (qag ht _))
    · rintro ys H2 ⟨_,s2,hy⟩ t ht
      rw [lx,List.take_length] at hy
      have st:=qag ht (HO.lst ys)
      by_cases gp:0<g
      · refine k t _ _ (s2.trans st) ⟨ys,upd_same,hy.tp st⟩ ⟨g,gp,?_⟩ (.inr fun d hd=>?_)
        · rw [List.map_map]
          conv=>lhs;rw [← List.map_id rows]
          refine List.map_congr_left fun r hrr=>?_
          show r=(r.map (· / g)).map (g*·)
          rw [List.map_map]
          conv=>lhs;rw [← List.map_id r]
          refine List.map_congr_left fun z hz=>?_
          show z=g*(z / g)
          rw [Int.mul_ediv_cancel' (g1 r hrr z hz)]
        · have hdg:d*g∣g:=g2 (d*g) fun r hrr z hz=>by
            have h1:=hd (r.map (· / g)) (List.mem_map.mpr ⟨r,hrr,rfl⟩) (z / g) (List.mem_map.mpr ⟨z,hz,rfl⟩)
            obtain ⟨c,hc⟩:=h1
            refine ⟨c,?_⟩
            have:=Int.mul_ediv_cancel' (g1 r hrr z hz)
            rw [← this,hc];grind
          obtain ⟨c,hc⟩:=hdg
          have e:g*(d*c)=g*1:=by rw [Int.mul_one];conv=>rhs;rw [hc]
                                 grind
          have e1:=Int.eq_of_mul_eq_mul_left (by omega) e
          have:d.natAbs*c.natAbs=1:=by rw [← Int.natAbs_mul,e1];rfl
          exact Nat.eq_one_of_mul_eq_one_right this
      · have ge:∀ r∈rows,r=[]:=fun r hrr=>by
          rcases gz r hrr with h | h
          · exact absurd h gp
          · exact h
        have em:rows.map (fun r=>r.map (· / g))=rows:=by
          conv=>rhs;rw [← List.map_id rows]
          refine List.map_congr_left fun r hrr=>?_
          rw [ge r hrr];rfl
        rw [em] at hy
        refine k t rows _ (s2.trans st) ⟨ys,upd_same,hy.tp st⟩ ⟨1,by decide,?_⟩ (.inl ge)
        conv=>lhs;rw [← List.map_id rows]
        refine List.map_congr_left fun r hrr=>?_
        rw [ge r hrr];rfl
theorem qps {r:List Int} (h:∀ d:Int,(∀ z∈r,d∣z)→d.natAbs=1):Prim r:=fun c hc=>h c fun z hz=>by
  obtain ⟨i,hi,rfl⟩:=List.getElem_of_mem hz
  have:=hc i
  unfold co at this
  rw [List.getD_eq_getElem?_getD,List.getElem?_eq_getElem hi] at this
  exact this
theorem qf1 (h:qay K vs H Q E):qcA K { nx:=fun _ H'=>Q .non H',rt:=Q } (L2.start ["row"] vs) H:=by
  obtain ⟨p,ns,rfl,hp,hl,tz,k⟩:=h
  unfold qcA
  rwa []
  refine ⟨sz (by decide),fun a ha=>?_⟩
  have sa:=qag ha (HO.lst [V.ref p])
  refine ⟨[ns],⟨[V.ref p],upd_same,⟨⟨p,rfl,sa _ _ hp⟩,trivial⟩⟩,by simp,?_,fun t rows' H' s' hSD hSh hP=>?_⟩
  · intro r hr
    rw [List.mem_singleton.mp hr]
    exact ⟨hl,tz⟩
  obtain ⟨g,g0,eg⟩:=hSh
  match rows',eg,hSD,hP with
  | [ms],eg,hSD,hP=>
    obtain ⟨b,xs,h1,h2,_⟩:=hSD.head
    have eg':ns=ms.map (g*·):=by simpa using eg
    refine ⟨_,h1,_,qer _ _,k b ms g H' (sa.trans s') h2 g0 eg' ?_⟩
    rcases hP with h | h
    · left;rw [eg',h ms (List.mem_singleton.mpr rfl)];rfl
    · right
      exact qps fun d hd=>h d fun r hr z hz=>by rw [List.mem_singleton.mp hr] at hz;exact hd z hz
  | [],eg,_,_=>simp at eg
  | _::_::_,eg,_,_=>simp at eg
theorem qrS {a b:List Int} (ha:Tz a) (n:Nat) (h:∀ k,n≤k→co a k=0):a.length≤n:=by
  rcases Nat.lt_or_ge n a.length with z | z
  · rcases ha with e | e
    · rw [e] at z;simp at z
    · exact absurd (h _ (by omega)) e
  · exact z
theorem qkU {n:Nat} {a:List Int} (h:∀ k,Bd n (co a k)):∀ z∈a,Bd n z:=fun z hz=>by
  obtain ⟨i,hi,rfl⟩:=List.getElem_of_mem hz
  have:=h i
  unfold co at this
  rw [List.getD_eq_getElem?_getD,List.getElem?_eq_getElem hi] at this
  exact this
theorem qiB (g:Int) (a:List Int) (k:Nat):co (a.map (g*·)) k=g*co a k:=qjr (F:=(g*·)) (by omega) a k
theorem qj7 {g:Int} (g0:g≠0) {a:List Int} (h:Tz (a.map (g*·))):Tz a:=by
  rcases h with h | h
  · left;exact List.map_eq_nil_iff.mp h
  · right
    rw [qiB,List.length_map] at h
    exact fun z=>h (by rw [z];omega)
theorem qj8 {n:Nat} {g:Int} (g0:0<g) {a:List Int} (h:∀ z∈a.map (g*·),Bd n z):∀ z∈a,Bd n z:=fun z hz=>(h (g*z) (List.mem_map.mpr ⟨z,hz,rfl⟩)).le (by
  rw [Int.natAbs_mul]
  exact Nat.le_mul_of_pos_left _ (by omega))
theorem ZipR.mono {R R':List Int→List Int→List Int→Prop} (h:∀ a b c,R a b c→R' a b c):∀ {A B C:List (List Int)},ZipR R A B C→ZipR R' A B C
  | [],[],[],_=>trivial
  | _::_,_::_,_::_,z=>⟨h _ _ _ z.1,ZipR.mono h z.2⟩
  | [],[],_::_,z=>z.elim
  | [],_::_,_,z=>z.elim
  | _::_,[],_,z=>z.elim
  | _::_,_::_,[],z=>z.elim
theorem ZipR.len {R:List Int→List Int→List Int→Prop}:∀ {A B C:List (List Int)},ZipR R A B C→C.length=A.length∧B.length=A.length
  | [],[],[],_=>⟨rfl,rfl⟩
  | _::_,_::_,_::_,z=>⟨congrArg (·+1) (ZipR.len z.2).1,congrArg (·+1) (ZipR.len z.2).2⟩
  | [],[],_::_,z=>z.elim
  | [],_::_,_,z=>z.elim
  | _::_,[],_,z=>z.elim
  | _::_,_::_,[],z=>z.elim
theorem ZipR.snoc {R:List Int→List Int→List Int→Prop} {a b c:List Int} (h:R a b c):∀ {A B C:List (List Int)},ZipR R A B C→ZipR R (A++[a]) (B++[b]) (C++[c])
  | [],[],[],_=>⟨h,trivial⟩
  | _::_,_::_,_::_,z=>⟨z.1,ZipR.snoc h z.2⟩
  | [],[],_::_,z=>z.elim
  | [],_::_,_,z=>z.elim
  | _::_,[],_,z=>z.elim
  | _::_,_::_,[],z=>z.elim
theorem ZipR.comp {B0:List (List Int)} {R R' R'':List Int→List Int→List Int→Prop} (h:∀ a b c d,b∈B0→R a b c→R' c b d→R'' a b d):∀ {A B C D:List (List Int)},(∀ b∈B,b∈B0)→ZipR R A B C→ZipR R' C B D→ZipR R'' A B D
  | [],[],[],[],_,_,_=>trivial
  | _::_,_::_,_::_,_::_,m,z,z'=>⟨h _ _ _ _ (m _ (List.mem_cons_self ..)) z.1 z'.1,ZipR.comp h (fun b hb=>m b (List.mem_cons_of_mem _ hb)) z.2 z'.2⟩
  | [],[],[],_::_,_,_,z=>z.elim
  | [],[],_::_,_,_,z,_=>z.elim
  | [],_::_,_,_,_,z,_=>z.elim
  | _::_,[],_,_,_,z,_=>z.elim
  | _::_,_::_,[],_,_,z,_=>z.elim
  | _::_,_::_,_::_,[],_,_,z=>z.elim
theorem ZipR.mem {A0 B0:List (List Int)} {R:List Int→List Int→List Int→Prop} {P:List Int→Prop} (h:∀ a b c,a∈A0→b∈B0→R a b c→P c):∀ {A B C:List (List Int)},(∀ a∈A,a∈A0)→(∀ b∈B,b∈B0)→ZipR R A B C→∀ c∈C,P c
  | [],[],[],_,_,_,c,hc=>nomatch hc
  | a::_,b::_,d::_,ma,mb,z,c,hc=>by
    rcases List.mem_cons.mp hc with e | e
    · rw [e];exact h _ _ _ (ma _ (List.mem_cons_self ..)) (mb _ (List.mem_cons_self ..)) z.1
    · exact ZipR.mem h (fun a ha=>ma a (List.mem_cons_of_mem _ ha)) (fun b hb=>mb b (List.mem_cons_of_mem _ hb)) z.2 c e
  | [],[],_::_,_,_,z,_,_=>z.elim
  | [],_::_,_,_,_,z,_,_=>z.elim
  | _::_,[],_,_,_,z,_,_=>z.elim
  | _::_,_::_,[],_,_,z,_,_=>z.elim
theorem ZipR.start {R:List Int→List Int→List Int→Prop} (h:∀ a b,R a b a):∀ {A B:List (List Int)},A.length=B.length→ZipR R A B A
  | [],[],_=>trivial
  | _::_,_::_,e=>⟨h _ _,ZipR.start h (by simpa using e)⟩
  | [],_::_,e=>by simp at e
  | _::_,[],e=>by simp at e
theorem ZipR.right {R:List Int→List Int→List Int→Prop} (h:∀ a b,R a b b):∀ {A B:List (List Int)},A.length=B.length→ZipR R A B B
  | [],[],_=>trivial
  | _::_,_::_,e=>⟨h _ _,ZipR.right h (by simpa using e)⟩
  | [],_::_,e=>by simp at e
  | _::_,[],e=>by simp at e
theorem ZipR.map {R R':List Int→List Int→List Int→Prop} {F:List Int→List Int} (h:∀ a b c,R a b (F c)→R' a b c):∀ {A B C:List (List Int)},ZipR R A B (C.map F)→ZipR R' A B C
  | [],[],[],_=>trivial
  | _::_,_::_,_::_,z=>⟨h _ _ _ z.1,ZipR.map h z.2⟩
  | [],[],_::_,z=>z.elim
  | [],_::_,_,z=>z.elim
  | _::_,[],_,z=>z.elim
  | _::_,_::_,[],z=>z.elim
theorem qrT {a b:Int} (hb:b≠0) (h:a∣b):a.natAbs≤b.natAbs:=Nat.le_of_dvd (by omega) (Int.natAbs_dvd_natAbs.mpr h)
theorem qhj (h:qbc K vs H Q E):qdv K { nx:=fun _ H'=>Q .non H',rt:=Q } (L2.start ["strand", "other", "shift", "top", "lead", "shared", "factor", "weight"] vs) H:=by
  obtain ⟨p,q,o,rfl,hS,hO,o0,k⟩:=h
  obtain ⟨ac,xc,hp,hac,_⟩:=hS.head
  obtain ⟨ao,xo,hq,hao,_⟩:=hO.head
  have A1:atI (V.ref ac::xc) 0=some (V.ref ac):=qer _ _
  have A2:atI (V.ref ao::xo) 0=some (V.ref ao):=qer _ _
  unfold qdv
  rwa []
  refine while_by (fun n σ H'=>σ=[some (.ref p),some (.ref q),none,none,none,none,none,none]∧H'=H∧n=0) 0 ⟨rfl,rfl,rfl⟩ ?_
  rintro n σ H' ⟨rfl,rfl,rfl⟩
  rwa [hp,hq,hac,hao,A1,A2]
  refine qcM (fun c=>by rw [List.length_map] at c;exfalso;omega) (fun _=>?_)
  unfold qee
  rwa []
  refine ⟨[[]],hS,by decide,(fun r hr=>by rw [List.mem_singleton.mp hr];exact ⟨by decide,.inl rfl⟩),fun t rows H1 s1 hSD sh _=>k t H1 s1 ?_⟩
  obtain ⟨g,_,e⟩:=sh
  have l1:rows.length=1:=by have:=congrArg List.length e;simpa using this.symm
  obtain ⟨r,rfl⟩:∃ r,rows=[r]:=List.length_eq_one_iff.mp l1
  have e:[]=r.map (g*·):=List.head_eq_of_cons_eq e
  rw [List.map_eq_nil_iff.mp e.symm] at hSD
  exact hSD
theorem qj9 {a:List Int} (h:Tz a) (ne:a≠[]):Lz a:=by
  refine ⟨List.length_pos_iff.mpr ne,?_⟩
  rcases h with e | e
  · exact absurd e ne
  · exact e
theorem qf2 (h:qaR K vs H Q E):qcB K { nx:=fun _ H'=>Q .non H',rt:=Q } (L2.start ["strand", "other", "rest"] vs) H:=by
  obtain ⟨p,q,s,o,rfl,hS,hO,em,k⟩:=h
  unfold qcB
  rwa []
  refine while_by (fun n σ H'=>(σ=[some (.ref p),some (.ref q),none]∧H'=H∧n=1)∨∃ (t:Addr) (u:Option V),σ=[some (.ref q),some (.ref t),u]∧Same H H'∧SD H' t [[]]∧o≠[]∧n=0) 1 (.inl ⟨rfl,rfl,rfl⟩) ?_
  rintro n σ H' (⟨rfl,rfl,rfl⟩ | ⟨t,u,rfl,sH,hT,o0,rfl⟩)
  · obtain ⟨ao,xo,hq,hao,_⟩:=hO.head
    have A2:atI (V.ref ao::xo) 0=some (V.ref ao):=qer _ _
    rwa [hq,hao,A2]
    by_cases oe:o=[]
    · refine qcM (fun c=>absurd oe (by simpa using c)) (fun _=>?_)
      rw [if_pos oe] at k
      exact k p _ (Same.refl _) hS
    · refine qcM (fun _=>?_) (fun c=>absurd (by simpa using c) oe)
      have se:s=[]:=by
        rcases em with z | z
        · exact z
        · exact absurd z oe
      rw [if_neg oe] at k
      refine ⟨fun σ' H''=>∃ m',m'<1∧_,fun _ _ h=>h,?_⟩
      rwa [hq,hao,A2]
      refine qcM (fun _=>k q _ (Same.refl _) hO) (fun _=>?_)
      refine ⟨by rw [← se];exact hS,o,hO,List.length_pos_iff.mpr oe,fun t H1 s1 hT=>?_⟩
      exact ⟨0,by decide,.inr ⟨s1,hT,oe,rfl⟩⟩
  · obtain ⟨at',xt,ht,hat,_⟩:=hT.head
    have A2:atI (V.ref at'::xt) 0=some (V.ref at'):=qer _ _
    rwa [ht,hat,A2]
    refine qcM (fun c=>absurd c (by simp)) (fun _=>?_)
    rw [if_neg o0] at k
    exact k q _ sH (hO.tp sH)
theorem qmZ {b n c:Nat} {r a g:List Int} (hr:∀ z∈r,Bd b z) (rl:r.length≤n) (hn:n<2 ^ c) (lg:Lz g) (h:∀ k,co r k=cvL a (co g) k):∀ k,Bd (b+n*(2*c+4)) (co a k):=by
  rcases qgE a with z | ⟨a',la,_,ea⟩
  · intro k;rw [z k];exact qdp _
  have h':∀ k,co r k=cvL g (co a') k:=fun k=>by rw [h k,qba,qai (fun k=>(ea k).symm) g k]
  have t:co r (a'.length - 1+(g.length - 1))≠0:=by rw [h',qba,qfe la lg];exact Int.mul_ne_zero la.2 lg.2
  have al:a'.length≤r.length:=by
    rcases Nat.lt_or_ge (a'.length - 1+(g.length - 1)) r.length with c | c
    · have:=la.1;omega
    · exact absurd (qat c) t
  intro k
  rw [← ea k]
  exact qfB hr ⟨_,t⟩ rl (Nat.le_trans al rl) hn h' k
theorem qpt {G S:List Int} (lG:Lz G) (h:∀ k,cvL S (co G) k=0) (k:Nat):co S k=0:=(qmW lG (T:=0) fun k _=>h k).1 k (Nat.zero_le k)
theorem Gen.Prim {r o:Nat→Int} {g:List Int} (G:Gen r o g):Prim g:=fun c hc=>by
  rcases Nat.lt_or_ge c.natAbs 2 with h | h
  · rcases Nat.eq_zero_or_pos c.natAbs with z | z
    · exfalso
      have c0:c=0:=by omega
      have:=hc (g.length - 1)
      rw [c0] at this
      exact G.lz.2 (Int.zero_dvd.mp this)
    · omega
  · exfalso
    obtain ⟨n,hn,_⟩:=G.prim h
    exact hn (Int.natAbs_dvd.mpr (hc n))
theorem qpu {R O A B G:List Int} (lG:Lz G) (hA:∀ k,co R k=cvL A (co G) k) (hB:∀ k,co O k=cvL B (co G) k) (q:QI (co R) (co O) (co G)):QI (co A) (co B) qbG:=by
  obtain ⟨d,d0,U,V,h⟩:=q
  refine ⟨d,d0,U,V,fun k=>?_⟩
  have z:=qpt (S:=qa4 (qa4 (qaS U A) (qaS V B)) [-d]) lG (fun k=>by
    rw [qav,qav,qap,qap,← qai hA,← qai hB]
    have:=h k
    have e:cvL [-d] (co G) k = -d*co G k:=by
      cases k with
      | zero=>rw [qam];omega
      | succ k=>rw [qaj,qaB];omega
    rw [e,Int.neg_mul,this];omega) k
  rw [qb6,qav,qav,qap,qap,← qai (qb6 A),← qai (qb6 B)] at z
  have e:cvL [-d] qbG k = -d*qbG k:=by
    cases k with
    | zero=>rw [qam];omega
    | succ k=>rw [qaj,qaB];omega
  rw [e,Int.neg_mul] at z
  omega
theorem qod (p:Nat) (p0:0<p) (S:List Int):(∀ k,(p:Int)∣co S k)∨∃ T,Lz T∧(∀ k,(p:Int)∣co S k - co T k)∧¬ (p:Int)∣co T (T.length - 1):=by
  have cm:∀ k,co (S.map (· % (p:Int))) k=co S k % (p:Int):=fun k=>qjr (F:=(· % (p:Int))) (Int.zero_emod _) S k
  rcases qgE (S.map (· % (p:Int))) with z | ⟨T,lT,_,eT⟩
  · exact .inl fun k=>Int.dvd_of_emod_eq_zero (by rw [← cm k];exact z k)
  · refine .inr ⟨T,lT,fun k=>?_,fun h=>?_⟩
    · rw [eT,cm]
      exact ⟨co S k / p,by have:=Int.emod_add_mul_ediv (co S k) p;omega⟩
    · have h1:=eT (T.length - 1)
      rw [cm] at h1
      have b1:=Int.emod_nonneg (co S (T.length - 1)) (show (p:Int)≠0 by omega)
      have b2:=Int.emod_lt_of_pos (co S (T.length - 1)) (show (0:Int)<p by omega)
      have:=lT.2
      have l:=Int.le_of_dvd (by omega) h
      omega
theorem cvT {p:Int} {S T:List Int} {g:Nat→Int} {n:Nat} (hg:∀ i,n≤i→g i=0) (h:∀ k,p∣co S k - co T k) (k:Nat):p∣cvL S g k - cvL T g k:=by
  have e:∀ k,g k=co ((List.range n).map g) k:=fun k=>by
    rw [qgb];split
    · rfl
    · exact hg k (by omega)
  rw [qai e,qai e,qba,qba T]
  have:=cvD (S:=[1]) (f:=co S) (g:=co T) (fun k=>by
    have e1:cvL [1] (co T) k=co T k:=by
      cases k with
      | zero=>rw [qam];omega
      | succ k=>rw [qaj,qaB];omega
    rw [e1];exact h k) ((List.range n).map g) k
  rwa [qai (b:=cvL [1] (co T)) (c:=co T) (fun k=>by
    cases k with
    | zero=>rw [qam];omega
    | succ k=>rw [qaj,qaB];omega)] at this
theorem qm0 {p:Nat} (hp:Pr p) {R A G rs T:List Int} (hA:∀ k,co R k=cvL A (co G) k) (lG:Lz G) (pG:¬ (p:Int)∣co G (G.length - 1)) (hT:∀ k,(p:Int)∣co rs k - cvL T (co G) k) (d:Dm (p:Int) (co rs) (co R)):Dm (p:Int) (co T) (co A):=by
  obtain ⟨X,hX⟩:=d
  refine ⟨X,fun k=>?_⟩
  have z:=qeZ hp pG (fun i hi=>by rw [qat (by omega)];exact Int.dvd_zero _) (qa4 A ((qaS X T).map ((-1)*·))) (fun k _=>by
    rw [qav,qar,qap,← hA]
    have h1:=hX k
    have h2:=cvD hT X k
    have:=Int.dvd_add h1 h2
    refine Int.dvd_trans this (qn9 ?_)
    omega)
  have e:co A k - cvL X (co T) k=co (qa4 A ((qaS X T).map ((-1)*·))) k:=by
    rw [qb6 (qa4 A _),qav,qar,qap,← qb6,← qai (qb6 T)];omega
  rw [e]
  exact qkO z k
theorem qpv {x e c n p N:Nat} (hx:x<2 ^ (c+1)) (hN:N≤2*(n - 1)) (big:2 ^ ((e+c+2)*(2*(n - 1)))<p):(2*(x*2 ^ e)) ^ N<p:=by
  have h1:2*(x*2 ^ e)≤2 ^ (e+c+2):=by
    have:x*2 ^ e≤2 ^ (c+1)*2 ^ e:=Nat.mul_le_mul_right _ (Nat.le_of_lt hx)
    have e2:2 ^ (e+c+2)=2*(2 ^ (c+1)*2 ^ e):=by rw [← Nat.pow_add,show e+c+2=(c+1+e)+1 by omega,Nat.pow_succ];omega
    omega
  refine Nat.lt_of_le_of_lt ?_ big
  rw [Nat.pow_mul]
  exact Nat.le_trans (Nat.pow_le_pow_left h1 N) (Nat.pow_le_pow_right (Nat.pow_pos (by decide)) hN)
theorem qka {ns ms rs gs G:List Int} {p d n c e:Nat} {lead:Int} (hp:Pr p) (ln:Lz ns) (lm:Lz ms) (bn:∀ z∈ns,Bd d z) (bm:∀ z∈ms,Bd d z) (nn:ns.length≤n) (mn:ms.length≤n) (hc:n<2 ^ c) (n2:2≤n) (he:e=d+n*(2*c+4)) (big:2 ^ ((e+c+2)*(2*(n - 1)))<p)
    (hld:((Int.gcd (co ns (ns.length - 1)) (co ms (ms.length - 1)):Nat):Int)=lead) (hG:Gen (co ns) (co ms) G) (r0:0<rs.length) (one:co rs (rs.length - 1)=1) (glen:G.length≤rs.length) (pG:¬ (p:Int)∣co G (G.length - 1)) (dG:Dm (p:Int) (co G) (co rs)) (dn:Dm (p:Int) (co rs) (co ns)) (dm:Dm (p:Int) (co rs) (co ms))
    (gl:gs.length=rs.length) (hg:∀ k,k<rs.length→(p:Int)∣co gs k - lead*co rs k) (hb:∀ z∈gs,2*z.natAbs≤p):MQ (co gs) (co ns)∧MQ (co gs) (co ms):=by
  have p2:=hp.two
  have P:=hG.Prim
  have lG:=hG.lz
  obtain ⟨A,hA⟩:=gauss P hG.rc.left
  obtain ⟨B,hB⟩:=gauss P hG.rc.right
  have bA:=qmZ bn nn hc lG hA
  have bB:=qmZ bm mn hc lG hB
  have bG:∀ k,Bd e (co G k):=by
    rw [he]
    exact qfB bn ⟨_,ln.2⟩ nn (Nat.le_trans (qjp lG ln hG.rc.left) nn) hc hA
  rw [← he] at bA bB
  have n0:1≤n:=by have:=ln.1;omega
  have cop:=qpu lG hA hB hG.qi
  obtain ⟨S,hS⟩:=dG
  have p0:0<p:=by omega
  have one':¬ (p:Int)∣(1:Int):=fun z=>by have:=Int.le_of_dvd (by decide) z;omega
  rcases qod p p0 S with z | ⟨T,lT,hT,pT⟩
  · exfalso
    have h1:=hS (rs.length - 1)
    have h2:=cvT (p:=(p:Int)) (S:=S) (T:=[]) (g:=co G) (n:=G.length) (fun i hi=>qat hi) (fun k=>by rw [qat (a:=[]) (Nat.zero_le _),Int.sub_zero];exact z k) (rs.length - 1)
    rw [one] at h1
    rw [qaB,Int.sub_zero] at h2
    have:=Int.dvd_add h1 h2
    rw [Int.sub_add_cancel] at this
    exact one' this
  have hTr:∀ k,(p:Int)∣co rs k - cvL T (co G) k:=fun k=>by
    have:=Int.dvd_add (hS k) (cvT (fun i hi=>qat hi) hT k (g:=co G) (n:=G.length))
    refine Int.dvd_trans this (qn9 ?_)
    omega
  have t0:=lT.1
  have g0:=lG.1
  have tl:T.length+G.length=rs.length+1:=by
    have tp:=qfe lT lG
    have np:¬ (p:Int)∣co T (T.length - 1)*co G (G.length - 1):=fun z=>by
      rcases hp.mulI z with q | q
      · exact pT q
      · exact pG q
    have h1:=hTr (T.length - 1+(G.length - 1))
    rw [tp] at h1
    have c1:T.length - 1+(G.length - 1)<rs.length:=by
      rcases Nat.lt_or_ge (T.length - 1+(G.length - 1)) rs.length with c | c
      · exact c
      · exfalso
        rw [qat c,Int.zero_sub] at h1
        exact np (Int.dvd_neg.mp h1)
    have h2:=hTr (rs.length - 1)
    rw [one] at h2
    rcases Nat.lt_or_ge (T.length - 1+(G.length - 1)) (rs.length - 1) with c | c
    · exfalso
      rw [qb4 (n:=G.length) (fun i hi=>qat hi) T _ (by omega),Int.sub_zero] at h2
      exact one' h2
    · omega
  have dTA:=qm0 hp hA lG pG hTr dn
  have dTB:=qm0 hp hB lG pG hTr dm
  have trimmed:∀ {R A:List Int},Lz R→R.length≤n→(∀ k,co R k=cvL A (co G) k)→(∀ k,Bd e (co A k))→∃ A',Lz A'∧A'.length≤n∧co A'=co A:=fun {R A} lR Rn h _=>by
    rcases qgE A with z | ⟨A',la,_,ea⟩
    · exact absurd (by rw [h,qba,qbN G z]) lR.2
    · refine ⟨A',la,?_,funext ea⟩
      have t:co R (A'.length - 1+(G.length - 1))≠0:=by
        rw [h,qba,qai (fun k=>(ea k).symm) G,← qba,qfe la lG];exact Int.mul_ne_zero la.2 lG.2
      rcases Nat.lt_or_ge (A'.length - 1+(G.length - 1)) R.length with c | c
      · have:=la.1;omega
      · exact absurd (qat c) t
  obtain ⟨A',lA,An,eA⟩:=trimmed ln nn hA bA
  obtain ⟨B',lB,Bn,eB⟩:=trimmed lm mn hB bB
  have big1:2 ^ e<p:=Nat.lt_of_le_of_lt (Nat.pow_le_pow_right (by decide) (by
    have:(e+c+2)*1≤(e+c+2)*(2*(n - 1)):=Nat.mul_le_mul_left _ (by omega)
    omega)) big
  have T1:T.length=1:=by
    rcases Nat.lt_or_ge T.length 2 with cT | cT
    · omega
    · exfalso
      have short:∀ {A:List Int},Lz A→(∀ k,Bd e (co A k))→Dm (p:Int) (co T) (co A)→2≤A.length:=fun {A} lA bA dA=>by
        have:=Dm.len hp t0 pT dA ⟨A.length - 1,fun z=>by
          have h1:=bA (A.length - 1)
          have h2:=Int.natAbs_dvd_natAbs.mpr z
          have h3:=Nat.le_of_dvd (by have:=lA.2;omega) h2
          rw [Int.natAbs_natCast] at h3
          have:(co A (A.length - 1)).natAbs<2 ^ e:=h1
          omega⟩
        omega
      have a2:=short lA (fun k=>by rw [eA];exact bA k) (by rw [eA];exact dTA)
      have b2:=short lB (fun k=>by rw [eB];exact bB k) (by rw [eB];exact dTB)
      refine lucky hp lA lB (by rw [eA,eB];exact cop) (fun k=>by rw [eA];exact bA k) (fun k=>by rw [eB];exact bB k) a2 b2 cT pT (by rw [eA];exact dTA) (by rw [eB];exact dTB) (qpv (x:=A'.length+B'.length) (c:=c) (n:=n) ?_ (by omega) big)
      rw [Nat.pow_succ];omega
  obtain ⟨s,rfl⟩:∃ s,T=[s]:=by
    match T,T1 with
    | [s],_=>exact ⟨s,rfl⟩
  have hrs:∀ k,(p:Int)∣co rs k - s*co G k:=fun k=>by
    have:=hTr k
    have e1:cvL [s] (co G) k=s*co G k:=by
      cases k with
      | zero=>rw [qam];omega
      | succ k=>rw [qaj,qaB];omega
    rwa [e1] at this
  have lr:G.length=rs.length:=by simp at tl;omega
  have lcd:∀ {R A:List Int},(∀ k,co R k=cvL A (co G) k)→Lz R→co G (G.length - 1)∣co R (R.length - 1):=fun {R A} h lR=>by
    rcases qgE A with z | ⟨A',la,_,ea⟩
    · exact absurd (by rw [h,qba,qbN G z]) lR.2
    · have hh:∀ k,co R k=cvL A' (co G) k:=fun k=>by rw [h,qba,qai (fun k=>(ea k).symm) G,← qba]
      have tp:=qfe la lG
      have a0:=la.1
      have rl:R.length - 1=A'.length - 1+(G.length - 1):=by
        rcases Nat.lt_trichotomy (R.length - 1) (A'.length - 1+(G.length - 1)) with c | c | c
        · exfalso
          have:=hh (A'.length - 1+(G.length - 1))
          rw [qat (by have:=lR.1;omega),tp] at this
          exact Int.mul_ne_zero la.2 lG.2 this.symm
        · exact c
        · exfalso
          have:=hh (R.length - 1)
          rw [qb4 (n:=G.length) (fun i hi=>qat hi) A' _ (by omega)] at this
          exact lR.2 this
      rw [rl,hh,tp]
      exact Int.dvd_mul_left _ _
  obtain ⟨t,ht⟩:co G (G.length - 1)∣lead:=by rw [← hld];exact Int.dvd_coe_gcd (lcd hA ln) (lcd hB lm)
  have lead0:lead≠0:=fun z=>by
    rw [← hld] at z
    have:Int.gcd (co ns (ns.length - 1)) (co ms (ms.length - 1))=0:=by omega
    exact ln.2 (Int.gcd_eq_zero_iff.mp this).1
  have t0':t≠0:=fun z=>lead0 (by rw [ht,z,Int.mul_zero])
  have bt:t.natAbs<2 ^ d:=by
    have h1:lead∣co ns (ns.length - 1):=by rw [← hld];exact Int.gcd_dvd_left ..
    have h2:=Int.dvd_trans (show t∣lead from ⟨co G (G.length - 1),by rw [ht,Int.mul_comm]⟩) h1
    have h3:=Nat.le_of_dvd (by have:=ln.2;omega) (Int.natAbs_dvd_natAbs.mpr h2)
    have h4:(co ns (ns.length - 1)).natAbs<2 ^ d:=qa9 bn _
    omega
  have egs:∀ k,co gs k=t*co G k:=fun k=>by
    rcases Nat.lt_or_ge k rs.length with ck | ck
    · have h1:=hg k ck
      have h2:=hrs k
      have h3:=hrs (rs.length - 1)
      rw [one,← lr] at h3
      have dv:(p:Int)∣co gs k - t*co G k:=by
        have q1:(p:Int)∣lead*(co rs k - s*co G k):=Int.dvd_mul_of_dvd_right h2
        have q2:(p:Int)∣(t*co G k)*(1 - s*co G (G.length - 1)):=Int.dvd_mul_of_dvd_right h3
        have:=Int.dvd_sub (Int.dvd_add h1 q1) q2
        refine Int.dvd_trans this (qn9 ?_)
        rw [ht]
        grind
      have b1:2*(co gs k).natAbs≤p:=by
        have:co gs k∈gs:=by
          unfold co
          rw [List.getD_eq_getElem?_getD,List.getElem?_eq_getElem (by omega)]
          exact List.getElem_mem _
        exact hb _ this
      have b2:2*(t*co G k).natAbs<p:=by
        rw [Int.natAbs_mul]
        have h5:t.natAbs*(co G k).natAbs≤2 ^ d*2 ^ e:=Nat.mul_le_mul (Nat.le_of_lt bt) (Nat.le_of_lt (bG k))
        have h6:2*(2 ^ d*2 ^ e)≤2 ^ ((e+c+2)*(2*(n - 1))):=by
          rw [← Nat.pow_add,show 2*2 ^ (d+e)=2 ^ (d+e+1) by rw [Nat.pow_succ];omega]
          refine Nat.pow_le_pow_right (by decide) ?_
          have:(e+c+2)*2≤(e+c+2)*(2*(n - 1)):=Nat.mul_le_mul_left _ (by omega)
          omega
        omega
      obtain ⟨y,hy⟩:=dv
      have ab:(co gs k - t*co G k).natAbs<p:=by omega
      rcases Int.lt_trichotomy y 0 with z | z | z
      · have:(p:Int)*y≤(p:Int)*(-1):=Int.mul_le_mul_of_nonneg_left (by omega) (by omega)
        omega
      · rw [z] at hy;omega
      · have:(p:Int)*1≤(p:Int)*y:=Int.mul_le_mul_of_nonneg_left (by omega) (by omega)
        omega
    · rw [qat (by omega),qat (a:=G) (by omega)];omega
  have fin:∀ {R A:List Int},(∀ k,co R k=cvL A (co G) k)→MQ (co gs) (co R):=fun {R A} h=>⟨t,t0',A,fun k=>by rw [qai egs,qa8,h k]⟩
  exact ⟨fin hA,fin hB⟩
theorem qkV {g f:List Int} {A:List Int} (h:∀ k,co f k=cvL A (co g) k):MQ (co g) (co f):=⟨1,by decide,A,fun k=>by rw [← h k];omega⟩
theorem qfg (h:qaP K vs H Q E):qb2 K { nx:=fun _ H'=>Q .non H',rt:=Q } (L2.start ["row", "other", "prime", "lead", "found", "guess"] vs) H:=by
  obtain ⟨a,b,ns,ms,p,d,nn,cc,rfl,ha,hb,pp,bp,ln,lm,bn,bm,dn,dm,nn1,nn2,nc,nn0,kN,kR⟩:=h
  have p2:(2:Int)≤(p:Int):=by have:=pp.two;omega
  unfold qb2
  have an:=qcL ln.1
  have am:=qcL lm.1
  rwa [ha,hb,an,am]
  generalize hld:((Int.gcd (co ns (ns.length - 1)) (co ms (ms.length - 1)):Nat):Int)=lead
  have ld1:lead∣co ns (ns.length - 1):=by rw [← hld];exact Int.gcd_dvd_left ..
  have bl:Bd d lead:=(qa9 bn (ns.length - 1)).le (qrT ln.2 ld1)
  refine ⟨by omega,qcM (fun c=>?_) (fun c=>?_)⟩
  · refine kN (fun bg=>?_) _ (Same.refl H)
    have bl':lead.natAbs<2 ^ d:=bl
    have z:=Int.dvd_of_emod_eq_zero (show lead % (p:Int)=0 by simpa using c)
    have l0:lead≠0:=fun z=>by
      rw [← hld] at z
      have:Int.gcd (co ns (ns.length - 1)) (co ms (ms.length - 1))=0:=by omega
      exact ln.2 (Int.gcd_eq_zero_iff.mp this).1
    have h3:=Nat.le_of_dvd (by omega) (Int.natAbs_dvd_natAbs.mpr z)
    rw [Int.natAbs_natCast] at h3
    have:2 ^ d≤2 ^ ((d+nn*(2*cc+4)+cc+2)*(2*(nn - 1))):=by
      refine Nat.pow_le_pow_right (by decide) ?_
      have:(d+nn*(2*cc+4)+cc+2)*1≤(d+nn*(2*cc+4)+cc+2)*(2*(nn - 1)):=Nat.mul_le_mul_left _ (by omega)
      omega
    have bg:2 ^ ((d+nn*(2*cc+4)+cc+2)*(2*(nn - 1)))<p:=bg
    omega
  have pl:¬ (p:Int)∣lead:=fun z=>c (by rw [Int.emod_eq_zero_of_dvd z])
  have hnl:¬ (p:Int)∣co ns (ns.length - 1)∨¬ (p:Int)∣co ms (ms.length - 1):=by
    by_cases h1:(p:Int)∣co ns (ns.length - 1)
    · right
      intro h2
      exact pl (by rw [← hld];exact Int.dvd_coe_gcd h1 h2)
    · exact .inl h1
  refine ⟨ns,ms,p,rfl,rfl,rfl,pp,bp,by omega,by omega,?_,fun s rs H1 s1 hs r0 rl one br hD dvn dvm=>?_⟩
  · rcases hnl with h | h
    · exact .inl ⟨_,h⟩
    · exact .inr ⟨_,h⟩
  refine ⟨⟨_,SqL.of hs⟩,CompJ.lst (xs:=rs.map V.int) (fun i ys H'=>i≤rs.length∧H'=H1∧∃ gs:List Int,ys=gs.map V.int∧gs.length=i∧(∀ k,k<i→(p:Int)∣co gs k - lead*co rs k)∧∀ z∈gs,Bd 45000 z∧2*z.natAbs≤p) ⟨Nat.zero_le _,rfl,[],rfl,rfl,fun k hk=>absurd hk (by omega),fun z hz=>nomatch hz⟩ ?_ ?_ ?_⟩
  · rintro i ys H' ⟨h1,rfl,gs,rfl,gl,_⟩
    exact ⟨by rw [List.length_map];exact h1,sz (by rw [List.length_map];omega),SqL.of hs⟩
  · rintro i x ys H' hi ⟨h1,rfl,gs,rfl,gl,hg,bg⟩
    rw [List.getElem?_map] at hi
    cases e:rs[i]? with
    | none=>rw [e] at hi;cases hi
    | some n=>
      rw [e] at hi
      obtain rfl:V.int n=x:=Option.some.inj hi
      have hi2:i<rs.length:=(List.getElem?_eq_some_iff.mp e).1
      have bnn:=br n (List.mem_of_getElem? e)
      have cn:co rs i=n:=by unfold co;rw [List.getD_eq_getElem?_getD,e];rfl
      rwa []
      refine ⟨qmX bl (bp.le (x:=(p:Int)) (y:=n) (by omega)),by omega,fun r hr1 hr2=>⟨by omega,gs++[r],by simp,by simp;omega,fun k hk=>?_,fun z hz=>?_⟩⟩
      · by_cases ek:k=i
        · subst ek
          have:co (gs++[r]) k=r:=by unfold co;rw [List.getD_eq_getElem?_getD,← gl];simp
          rw [this,cn];exact hr1
        · have:co (gs++[r]) k=co gs k:=by unfold co;rw [List.getD_eq_getElem?_getD,List.getD_eq_getElem?_getD,List.getElem?_append_left (by omega)]
          rw [this];exact hg k (by omega)
      · rcases List.mem_append.mp hz with z1 | z1
        · exact bg z z1
        · rw [List.mem_singleton.mp z1];exact ⟨bp.le (by omega),by rw [Int.natAbs_natCast] at hr2;exact hr2⟩
  · rintro ys H' ⟨_,rfl,gs,rfl,gl,hg,bg⟩ t ht
    rw [List.length_map] at gl hg
    have st:=qag ht (HO.lst (gs.map V.int))
    have htt:upd H' t (HO.lst (gs.map V.int)) t=_:=upd_same
    generalize upd H' t (HO.lst (gs.map V.int))=H2 at st htt ⊢
    have gl0:0<gs.length:=by omega
    have glast:co gs (gs.length - 1)≠0:=fun z=>by
      have:=hg (gs.length - 1) (by omega)
      rw [z,show gs.length - 1=rs.length - 1 by omega,one] at this
      exact pl (by have t2:=Int.dvd_neg.mpr this;rw [show -(0 - lead*1)=lead by omega] at t2;exact t2)
    rwa [htt]
    refine ⟨gs,rfl,by omega,.inr glast,fun u gu g H3 s3 hu g0 eg hp=>?_⟩
    have Pg:Prim gu:=by
      rcases hp with h | h
      · rw [h] at gl0;simp at gl0
      · exact h
    have lgu:gu.length=gs.length:=by rw [eg,List.length_map]
    have lzg:Lz gu:=qj9 (qj7 (Int.ne_of_gt g0) (by rw [← eg];exact .inr glast)) (fun z=>by rw [z] at lgu;simp at lgu;omega)
    have bgu:∀ z∈gu,Bd 45000 z:=qj8 g0 (by rw [← eg];exact fun z hz=>(bg z hz).1)
    have s13:Same H H3:=(s1.trans st).trans s3
    have ha3:=s13 _ _ ha
    have hb3:=s13 _ _ hb
    obtain ⟨G,hG⟩:=qqS ln (QI.left (co ns) (co ms))
    have mn:=hG.mq _ ns (Nat.le_refl _) (QI.left _ _)
    have mm:=hG.mq _ ms (Nat.le_refl _) (QI.right _ _)
    have lead':¬ (p:Int)∣co G (G.length - 1):=by
      rcases hnl with h | h
      · exact hG.lead pp ln mn h
      · exact hG.lead pp lm mm h
    have dG:=hD (co G) (hG.dm pp mn) (hG.dm pp mm)
    have glen:G.length≤rs.length:=Dm.len pp hG.lz.1 lead' dG ⟨rs.length - 1,by
      rw [one]
      intro z
      have:=Int.le_of_dvd (by decide) z
      omega⟩
    have tells:qr8 d nn cc p→(∃ A:List Int,∀ k,co ns k=cvL A (co gu) k)∧∃ A:List Int,∀ k,co ms k=cvL A (co gu) k:=fun bp'=>by
      obtain ⟨q1,q2⟩:=qka pp ln lm bn bm nn1 nn2 nc nn0 rfl bp' hld hG r0 one glen lead' dG dvn dvm gl hg (fun z hz=>(bg z hz).2)
      have sc:∀ k,co gs k=g*co gu k:=fun k=>by rw [eg,qiB]
      have mg:MQ (co gu) (co gs):=⟨1,by decide,[g],fun k=>by
        have e:cvL [g] (co gu) k=g*co gu k:=by
          cases k with
          | zero=>rw [qam];omega
          | succ k=>rw [qaj,qaB];omega
        rw [e,sc];omega⟩
      exact ⟨gauss Pg (mg.trans q1),gauss Pg (mg.trans q2)⟩
    rwa [ha3,hu]
    refine ⟨ns,rfl,gu,rfl,lzg,d,bn,45000,bgu,by omega,by decide,by omega,by omega,fun no=>kN (fun bg=>no (tells bg).1) |> fun f H4 s4=>f H4 (s13.trans s4),fun r qs H4 s4 hr _ hq=>?_⟩
    have hb4:=s4 _ _ hb3
    have hu4:=s4 _ _ hu
    rwa [hb4,hu4]
    refine ⟨ms,rfl,gu,rfl,lzg,d,bm,45000,bgu,by omega,by decide,by omega,by omega,fun no=>kN (fun bg=>no (tells bg).2) |> fun f H5 s5=>f H5 ((s13.trans s4).trans s5),fun r2 qs2 H5 s5 hr2 _ hq2=>?_⟩
    exact kR u gu H5 ((s13.trans s4).trans s5) (s5 _ _ hu4) (qmB hG.rc lzg (qkV hq) (qkV hq2) (by omega)) Pg
noncomputable def exps:List Nat:=[61,127,521,1279,4423,9941,21701,44497]
noncomputable def qsp (K:W.Frag):Prop:=∀ H:Hp,SqT K H (qbX K) (exps.map fun e:Nat=>V.int (e:Int))
theorem qpw:∀ e∈exps,Pr (mers e)∧e≤44497:=by
  intro e he
  have h:e=61∨e=127∨e=521∨e=1279∨e=4423∨e=9941∨e=21701∨e=44497:=by simpa [exps] using he
  rcases h with h | h | h | h | h | h | h | h <;> rw [h]
  · exact ⟨qsl,by decide⟩
  · exact ⟨qrL,by decide⟩
  · exact ⟨qrM,by decide⟩
  · exact ⟨qqP,by decide⟩
  · exact ⟨qqQ,by decide⟩
  · exact ⟨qqR,by decide⟩
  · exact ⟨qpj,by decide⟩
  · exact ⟨qpk,by decide⟩
theorem qoe (e:Nat):(2:Int) ^ (e:Int).toNat - 1=((mers e:Nat):Int):=by
  unfold mers
  have:=Nat.one_le_two_pow (n:=e)
  rw [Int.natCast_sub this,Int.toNat_natCast,Int.natCast_pow]
  rfl
theorem qpx {e:Nat} (h:e≤44497):Bd 45000 ((mers e:Nat):Int):=by
  unfold Bd mers
  rw [Int.natAbs_natCast]
  have h1:=Nat.one_le_two_pow (n:=e)
  have h2:=Nat.pow_le_pow_right (n:=2) (by decide) (show e≤45000 by omega)
  omega
theorem qkb {ns ms one two rs:List Int} {g h:Int} (g0:g≠0) (h0:h≠0) (e1:ns=one.map (g*·)) (e2:ms=two.map (h*·)) (R:RC (co one) (co two) rs):RC (co ns) (co ms) rs:=by
  have c1:∀ k,co ns k=g*co one k:=fun k=>by rw [e1,qiB]
  have c2:∀ k,co ms k=h*co two k:=fun k=>by rw [e2,qiB]
  refine ⟨R.lz,?_,?_,?_⟩
  · obtain ⟨c,c0,A,hA⟩:=R.left
    exact ⟨c,c0,A.map (g*·),fun k=>by rw [qar,← hA k,c1 k];grind⟩
  · obtain ⟨c,c0,A,hA⟩:=R.right
    exact ⟨c,c0,A.map (h*·),fun k=>by rw [qar,← hA k,c2 k];grind⟩
  · obtain ⟨d,d0,U,W,hU⟩:=R.qi
    refine ⟨g*h*d,Int.mul_ne_zero (Int.mul_ne_zero g0 h0) d0,U.map (h*·),W.map (g*·),fun k=>?_⟩
    rw [qar,qar,qai c1 U k,qai c2 W k,qa8,qa8]
    have:=hU k
    grind
theorem qiC {K:W.Frag} (hK:qsp K) {vs:List V} {H:Hp} {Q:VK} {E:XK} (h:qaX K vs H Q E):qeg K { nx:=fun _ H'=>Q .non H',rt:=Q } (L2.start ["row", "other", "one", "two", "exponent", "found"] vs) H:=by
  obtain ⟨a,b,ns,ms,d,nn,cc,rfl,ha,hb,tn,tm,bn,bm,nN,mN,N18,n2',nc,sm,hbd0,k⟩:=h
  have d9:d≤44490:=by
    have:(d+nn*(2*cc+4)+cc+2)*1≤(d+nn*(2*cc+4)+cc+2)*(2*(nn - 1)):=Nat.mul_le_mul_left _ (by omega)
    omega
  unfold qeg
  rwa [ha]
  refine ⟨ns,rfl,by omega,tn,fun a1 one g1 H1 s1 h1 g10 e1 p1=>?_⟩
  have hb1:=s1 _ _ hb
  rwa [hb1]
  refine ⟨ms,rfl,by omega,tm,fun a2 two g2 H2 s2 h2 g20 e2 p2=>?_⟩
  have s02:=s1.trans s2
  have ha2:=s02 _ _ ha
  have hb2:=s02 _ _ hb
  have h12:=s2 _ _ h1
  have l1:ns.length=one.length:=by rw [e1,List.length_map]
  have l2:ms.length=two.length:=by rw [e2,List.length_map]
  have t1:Tz one:=qj7 (Int.ne_of_gt g10) (by rw [← e1];exact tn)
  have t2:Tz two:=qj7 (Int.ne_of_gt g20) (by rw [← e2];exact tm)
  have b1:∀ z∈one,Bd d z:=qj8 g10 (by rw [← e1];exact bn)
  have b2:∀ z∈two,Bd d z:=qj8 g20 (by rw [← e2];exact bm)
  have n1:one=[]↔ns=[]:=by rw [← List.length_eq_zero_iff,← List.length_eq_zero_iff,l1]
  have n2:two=[]↔ms=[]:=by rw [← List.length_eq_zero_iff,← List.length_eq_zero_iff,l2]
  have last:(ns=[]∨ms=[])→∀ (H3:Hp) (u v:Option V),Same H2 H3→(qb3 (tOp gL (qaz (qaR K) [] E0 (qac (qfZ (qac (qaf 2) qaA)) (qac (qfZ (qac (qaf 3) qaA)) qaA))) (tC (.int 0)))) { nx:=fun _ H'=>Q .non H',rt:=Q } [some (.ref a),some (.ref b),some (.ref a1),some (.ref a2),u,v] H3:=fun em H3 u v s3=>by
    have h13:=s3 _ _ h12
    have h23:=s3 _ _ h2
    rwa []
    refine ⟨sz (by decide),fun x hx=>?_⟩
    have sx:=qag hx (HO.lst [V.ref a1])
    refine ⟨sz (by decide),fun y hy=>?_⟩
    have sy:=qag hy (HO.lst [V.ref a2])
    have hxy:=sy _ _ (show upd H3 x (HO.lst [V.ref a1]) x=_ from upd_same)
    refine ⟨one,⟨[V.ref a1],hxy,⟨⟨a1,rfl,sy _ _ (sx _ _ h13)⟩,trivial⟩⟩,two,⟨[V.ref a2],upd_same,⟨⟨a2,rfl,sy _ _ (sx _ _ h23)⟩,trivial⟩⟩,em.imp (fun z=>n1.mpr z) (fun z=>n2.mpr z),fun t H4 s4 hSD=>?_⟩
    obtain ⟨ar,xr,ht,har,_⟩:=hSD.head
    refine ⟨_,ht,_,qer _ _,?_⟩
    refine k ar _ H4 (s02.trans (s3.trans ((sx.trans sy).trans s4))) har (fun hne=>?_) fun h1 h2=>by rw [if_pos (n2.mpr h2)];exact n1.mpr h1
    have z0:∀ {x:List Int},x=[]→∀ k,co x k=0:=fun e k=>by rw [e];exact qat (Nat.zero_le _)
    by_cases te:two=[]
    · rw [if_pos te]
      have oe:ns≠[]:=by
        rcases hne with h | h
        · exact h
        · exact absurd (n2.mp te) h
      have l1':Lz one:=qj9 t1 fun z=>oe (n1.mp z)
      exact ⟨qkb (Int.ne_of_gt g10) (Int.ne_of_gt g20) e1 e2 ⟨l1',MQ.refl _,MQ.zero _ (z0 te),QI.left _ _⟩,p1.resolve_left oe⟩
    · rw [if_neg te]
      have oe:one=[]:=n1.mpr (em.resolve_right fun z=>te (n2.mpr z))
      exact ⟨qkb (Int.ne_of_gt g10) (Int.ne_of_gt g20) e1 e2 ⟨qj9 t2 te,MQ.zero _ (z0 oe),MQ.refl _,QI.right _ _⟩,p2.resolve_left fun z=>te (n2.mpr z)⟩
  have l0:=fun em=>last em H2 none none (Same.refl H2)
  simp only [qaJ,qaV,qaz,qac,qaf,qaA,qak,qlE,L2.start,qgk,tIf,qbi,tB,tOp,rI0,rI,tC,tUn,rU,qcp,qb3,qnK,qfZ,qqd,qnF,qhY,tCB,qox,qnC,tOr,qp9,qqa,qr1,qqb,rEq,rNe,qeV,qeS,qen,qeo,qjb,qql,qh7,qo9,qpW,iLt,iLe,iGt,iGe,qhc,gT,gL,gS,qnM,qpX,qr4,qnN,qqm,qbU,qqn,qrp,ql3,qfO,qoz,eqT,ql4,ql5,qoA,qoB,List.map_cons,List.map_nil,List.length_cons,List.length_nil,List.replicate,List.cons_append,List.nil_append,List.append_nil,List.getElem?_cons_zero,List.getElem?_cons_succ,Option.some.injEq,exists_eq_left',exists_eq_left,V.int.injEq,V.bl.injEq,V.ref.injEq,V.ty.injEq,HO.tup.injEq,HO.lst.injEq,List.cons.injEq,and_true,true_and,and_assoc,exists_and_left,List.set_cons_zero,List.set_cons_succ,decide_eq_true_eq,decide_eq_false_iff_not,Bool.not_eq_true',Bool.true_eq_false,Bool.false_eq_true,Bool.not_true,Bool.not_false,if_true,if_false,ite_true,ite_false,ql6,ql7,qku,qkv,qhy,qhz,qhA,qhB,qhC,Nat.zero_add,Nat.reduceAdd,Nat.reduceSub,upd_same,Int.cast_ofNat_Int,decide_true,decide_false,eq_self,not_true_eq_false,not_false_eq_true,Int.natCast_add,Int.natCast_zero,reduceCtorEq,Nm,qhd,qdR,qnD,qk8,tSl,qcs,qgm,sL,sT,qlh,qoC,qhF,qje,qqG,qo7,qro,qdW,qh1,qr3,tBM,qr2,qkw,qkx,qmc,qmd,qky,qmm,qkA,qme,qmf,qmj,qmk,qnR,qpd,qnS,qrq,qpb,qjU,qhe,qrF,qpc,qc6,Option.bind_some,Option.bind_none,Option.bind,Option.join,id_eq,sS,qll,qqK,qaq,qcx,qbY,qaK,qbk,qaN,qbD,qbc,qaE,qay,qaR,qaU,qa5,qaW,qaO,qa6,qbd,qa1,qbZ,qaP,qaX,qcT,qeK,qbA,qbx,qoN,qbb,qbl,qa2,qa0,qb1,qcy,qaI,qaY,qby,qb0,qaQ,qcz,qbm,qbz] at l0
  have lne:ns≠[]→ms≠[]→Lz one∧Lz two:=fun h1 h2=>⟨qj9 t1 fun z=>h1 (n1.mp z),qj9 t2 fun z=>h2 (n2.mp z)⟩
  refine ⟨_,ha2,qcM (fun c1=>⟨_,hb2,qcM (fun c2=>⟨⟨_,hK H2⟩,?_⟩) (fun c2=>l0 (.inr (by simpa using c2)))⟩) (fun c1=>l0 (.inl (by simpa using c1)))⟩
  obtain ⟨z1,z2⟩:=lne (by simpa using c1) (by simpa using c2)
  refine qlJ (xs:=exps.map fun e:Nat=>V.int (e:Int)) (fun i σ H'=>i<8∧∃ u v,σ=[some (.ref a),some (.ref b),some (.ref a1),some (.ref a2),u,v]∧Same H2 H') ⟨by decide,none,none,rfl,Same.refl H2⟩ (fun i σ H' _ _=>hK H') ?_ ?_
  · rintro i x σ H' hi ⟨i8,u,v,rfl,s3⟩
    rw [List.getElem?_map] at hi
    cases e:exps[i]? with
    | none=>rw [e] at hi;cases hi
    | some ex=>
      rw [e] at hi
      obtain rfl:V.int (ex:Int)=x:=Option.some.inj hi
      obtain ⟨pe,pl⟩:=qpw ex (List.mem_of_getElem? e)
      have h13:=s3 _ _ h12
      have h23:=s3 _ _ h2
      rwa [h13,h23]
      refine ⟨by omega,2,by unfold Bd;decide,by omega,one,two,mers ex,qoe ex,rfl,rfl,pe,qpx pl,z1,z2,d,b1,b2,by omega,by omega,nn,by omega,by omega,cc,nc,n2',fun nb H4 s4=>⟨?_,s3.trans s4⟩,fun t rs H4 s4 ht rc pr=>?_⟩
      · rcases Nat.lt_or_ge (i+1) 8 with c8 | c8
        · exact c8
        · exfalso
          have i7:i=7:=by omega
          rw [i7] at e
          obtain rfl:44497=ex:=Option.some.inj e
          refine nb ?_
          show 2 ^ ((d+nn*(2*cc+4)+cc+2)*(2*(nn - 1)))<mers 44497
          have h1:2 ^ ((d+nn*(2*cc+4)+cc+2)*(2*(nn - 1)))≤2 ^ 44490:=Nat.pow_le_pow_right (by decide) sm
          have h2:2 ^ 44490<mers 44497:=by
            unfold mers
            have e7:2 ^ 44497=2 ^ 44490*2 ^ 7:=by rw [← Nat.pow_add]
            rw [e7]
            have:1≤2 ^ 44490:=Nat.one_le_two_pow
            omega
          omega
      exact k t rs H4 (s02.trans (s3.trans s4)) ht (fun _=>⟨qkb (Int.ne_of_gt g10) (Int.ne_of_gt g20) e1 e2 rc,pr⟩) fun h1 _=>absurd h1 (by simpa using c1)
  · rintro σ H' ⟨i8,_⟩
    exact absurd i8 (by simp [exps])
theorem qdz (l:List Nu):(qeG l).length=l.length:=by unfold qeG;rw [List.length_map]
theorem qm1 {l:List Nu} (hl:qaZ l) (nl:Nz l):Tz (qeG l):=by
  by_cases h:l=[]
  · left;rw [h];rfl
  · right
    rw [qdz]
    exact qmS hl nl (List.length_pos_iff.mpr h)
theorem qrU {l:List Nu} {M N:Int} (hl:qaZ l) (hM:Ov l M) (hN:Ov l N) (h:M∣N) {b:Nat} (hb:∀ z∈ovN l N,Bd b z):∀ z∈ovN l M,Bd b z:=fun z hz=>by
  obtain ⟨q,hq,rfl⟩:=List.mem_map.mp hz
  refine (hb (q.1*(N / q.2)) (List.mem_map.mpr ⟨q,hq,rfl⟩)).le ?_
  rw [Int.natAbs_mul,Int.natAbs_mul]
  refine Nat.mul_le_mul_left _ ?_
  have p0:=(hl q hq).pos
  obtain ⟨x,hx⟩:=hM.2 q hq
  obtain ⟨y,hy⟩:=h
  have e1:M / q.2=x:=by rw [hx,Int.mul_ediv_cancel_left _ (Int.ne_of_gt p0)]
  have e2:N / q.2=x*y:=by rw [hy,hx,Int.mul_assoc,Int.mul_ediv_cancel_left _ (Int.ne_of_gt p0)]
  rw [e1,e2,Int.natAbs_mul]
  refine Nat.le_mul_of_pos_right _ ?_
  rcases Nat.eq_zero_or_pos y.natAbs with z | z
  · have y0:y=0:=by omega
    have:=hN.1
    rw [hy,y0] at this;omega
  · exact z
theorem Gq.clr {b c:Nat} {l:List Nu} (G:Gq b c l):(∀ z∈qeG l,Bd b z)∧Bd c (qfP l)∧(∀ q∈l,Bd b q.1):=by
  obtain ⟨M,hO,bM,hz⟩:=G.ov
  have hd:=qkE G.low hO
  exact ⟨qrU G.low (qeH G.low) hO hd hz,qgC (Int.ne_of_gt hO.1) hd bM,qqX G.low hO hz⟩
theorem qdb (g:List Int):(mnc g).length=g.length:=by unfold mnc;rw [List.length_map]
theorem qgS {g:List Int} (lg:Lz g):qaZ (mnc g):=fun q hq=>by
  obtain ⟨z,_,rfl⟩:=List.mem_map.mp hq
  exact qcQ lg.2
theorem qfD {g:List Int} (lg:Lz g) (k:Nat):pwo (mnc g) k=(co g k:Rat) / (co g (g.length - 1):Rat):=by
  unfold pwo qbR mnc
  rw [List.getD_eq_getElem?_getD,List.getElem?_map]
  unfold co
  rw [List.getD_eq_getElem?_getD (l:=g) (i:=k)]
  cases e:g[k]? with
  | none=>
    show val (0,1)=((0:Int):Rat) / _
    unfold val
    show ((0:Int):Rat) / _=_
    rw [show ((0:Int):Rat)=0 from rfl,zdiv,zdiv]
  | some z=>exact qdq lg.2
theorem qkW {g:List Int} (lg:Lz g):qbR (mnc g) (g.length - 1)=(1,1):=qfu (qbt (qgS lg) _) ⟨by decide,by decide⟩ (by
  have h:=qfD lg (g.length - 1)
  unfold pwo at h
  rw [h]
  have:=qaC lg.2
  have e1:val (1,1)=1:=by unfold val;show ((1:Int):Rat) / ((1:Int):Rat)=1;grind
  rw [e1];grind)
theorem qm2 {g:List Int} (lg:Lz g):Nz (mnc g):=fun q hq=>by
  have h:=qkW lg
  rw [List.getLast?_eq_getElem?,qdb] at hq
  unfold qbR at h
  rw [List.getD_eq_getElem?_getD,hq] at h
  have e1:q=(1,1):=h
  rw [e1];decide
theorem MR.short {g f:Nat→Rat} {n:Nat} (h0:g n≠0) (h:∀ i,n<i→g i=0) (m:MR g f) (hf:∀ k,n≤k→f k=0) (k:Nat):f k=0:=by
  obtain ⟨A,hA⟩:=m
  rw [hA k]
  exact qgd A (qjZ h0 h A fun k hk=>by rw [← hA k];exact hf k hk) k
theorem MR.less {g f h:Nat→Rat} (m:MR g f) (γ:Rat) (s:Nat) (e:∀ k,h k=f k - γ*upS s g k):MR g h:=by
  obtain ⟨A,hA⟩:=m
  refine ⟨qa4 A ((List.replicate s 0++[γ]).map ((-1:Rat)*·)),fun k=>?_⟩
  rw [qav,qar,qcw,e k,hA k]
  have e2:upS s (cvL [γ] g) k=γ*upS s g k:=by
    unfold upS
    by_cases hk:s≤k
    · rw [if_pos hk,if_pos hk]
      cases hkk:k - s with
      | zero=>rw [qam];grind
      | succ j=>rw [qaj,qaB];grind
    · rw [if_neg hk,if_neg hk];grind
  rw [e2];grind
theorem qgT {q:Nu} {n M:Int} (hq:q.2≠0) (hM:M≠0) (h:val q=(n:Rat) / (M:Rat)):Wo q n M:=by
  unfold Wo
  unfold val at h
  have a:=qaC hq
  have b:=qaC hM
  have e:(q.1:Rat)*(M:Rat)=(n:Rat)*(q.2:Rat):=by grind
  exact_mod_cast e
theorem qkc {q:Nu} {n M:Int} (hl:Low q.1 q.2) (h:Wo q n M):q.2∣M∧q.1*(M / q.2)=n:=by
  unfold Wo at h
  have d:q.2∣M:=qft hl ⟨n,by rw [h,Int.mul_comm]⟩
  refine ⟨d,?_⟩
  have p0:=hl.pos
  have e:q.2*(q.1*(M / q.2))=q.2*n:=by
    have:=Int.mul_ediv_cancel' d
    calc q.2*(q.1*(M / q.2))=q.1*(q.2*(M / q.2)):=by grind
      _=q.1*M:=by rw [this]
      _=q.2*n:=by rw [h,Int.mul_comm]
  exact Int.eq_of_mul_eq_mul_left (Int.ne_of_gt p0) e
structure RS (m:List Nu) (z:Nat→Rat) (b c d i:Nat) (L:List Nu):Prop where
  low:qaZ L
  ov:∃ D,Ov L D∧Bd (c+i*d) D∧∀ z∈ovN L D,Bd (b+i*(d+1)) z
  mr:MR (pwo m) (fun k=>pwo L k - z k)
noncomputable def rsL (L m:List Nu) (cc:Nu) (s j:Nat):List Nu:=(List.range L.length).map fun k=>if s≤k∧k - s<j then nadd (qbR L k) (nmul (-cc.1,cc.2) (qbR m (k - s))) else qbR L k
theorem qm3 (L m:List Nu) (cc:Nu) (s j:Nat):(rsL L m cc s j).length=L.length:=by unfold rsL;rw [List.length_map,List.length_range]
theorem qpy {L m:List Nu} {cc:Nu} {s j k:Nat} (h:k<L.length):(rsL L m cc s j)[k]?=some (if s≤k∧k - s<j then nadd (qbR L k) (nmul (-cc.1,cc.2) (qbR m (k - s))) else qbR L k):=by
  unfold rsL;rw [List.getElem?_map,List.getElem?_range h];rfl
theorem qpz (q:Nu):val (-q.1,q.2) = - val q:=by
  unfold val
  show ((-q.1:Int):Rat) / _=_
  push_cast
  grind
theorem qpA {m:List Nu} (nm:Nz m) (m0:m≠[]):(qbR m (m.length - 1)).1≠0:=by
  have hb:m.length - 1<m.length:=by have:=List.length_pos_iff.mpr m0;omega
  have q:=nm m[m.length - 1] (by rw [List.getLast?_eq_getElem?];exact List.getElem?_eq_getElem hb)
  have e:qbR m (m.length - 1)=m[m.length - 1]:=by unfold qbR;rw [List.getD_eq_getElem?_getD,List.getElem?_eq_getElem hb];rfl
  rw [e];exact q
theorem qiD {m:List Nu} (hm:qaZ m) (nm:Nz m) (m0:m≠[]):pwo m (m.length - 1)≠0:=by
  have a:=qaC (qpA nm m0)
  have b:=qaC (Int.ne_of_gt (qbt hm (m.length - 1)).pos)
  unfold pwo val
  grind
theorem qpB {L m:List Nu} {cc:Nu} {s j:Nat} (hL:qaZ L) (hm:qaZ m) (hc:0<cc.2):qaZ (rsL L m cc s j):=fun q hq=>by
  obtain ⟨k,_,rfl⟩:=List.mem_map.mp hq
  show Low (if s≤k∧k - s<j then nadd (qbR L k) (nmul (-cc.1,cc.2) (qbR m (k - s))) else qbR L k).1 _
  split
  · exact qnV (qbt hL k).pos (qih (q:=(-cc.1,cc.2)) hc (qbt hm _).pos).pos
  · exact qbt hL k
theorem qpC {L m:List Nu} {cc:Nu} {s:Nat} (hL:qaZ L) (hm:qaZ m) (hc:0<cc.2) (hs:L.length=s+m.length) (k:Nat):pwo (rsL L m cc s m.length) k=pwo L k - val cc*upS s (pwo m) k:=by
  by_cases h:k<L.length
  · have e:qbR (rsL L m cc s m.length) k=if s≤k∧k - s<m.length then nadd (qbR L k) (nmul (-cc.1,cc.2) (qbR m (k - s))) else qbR L k:=by
      unfold qbR
      rw [List.getD_eq_getElem?_getD,qpy h];rfl
    unfold pwo
    rw [e]
    unfold upS
    by_cases hk:s≤k
    · rw [if_pos ⟨hk,by omega⟩,if_pos hk,qnX (qbt hL k).pos (qih (q:=(-cc.1,cc.2)) hc (qbt hm _).pos).pos,qkC (q:=(-cc.1,cc.2)) hc (qbt hm _).pos,qpz]
      show _=_ - _*val (qbR m (k - s))
      grind
    · rw [if_neg (by omega),if_neg hk];grind
  · rw [qet (by rw [qm3];omega),qet (by omega)]
    unfold upS
    rw [if_pos (by omega),qet (by omega)];grind
theorem RS.step {m:List Nu} {z:Nat→Rat} {b c d i:Nat} {L:List Nu} (S:RS m z b c d i L) (hm:qaZ m) (nm:Nz m) (m0:m≠[]) {M:Int} (OM:Ov m M) (bm:∀ z∈ovN m M,Bd d z) (hs:m.length≤L.length) {by':Nu} (lb:Low by'.1 by'.2) (vb:val by'*pwo m (m.length - 1)=1) :
    RS m z b c d (i+1) (rsL L m (nmul (qbR L (L.length - 1)) by') (L.length - m.length) m.length).dropLast:=by
  have l0:=List.length_pos_iff.mpr m0
  have lL:=qbt S.low (L.length - 1)
  generalize hcc:nmul (qbR L (L.length - 1)) by'=cc
  have ccl:Low cc.1 cc.2:=by rw [← hcc];exact qih lL.pos lb.pos
  have vc:val cc=pwo L (L.length - 1)*val by':=by rw [← hcc];exact qkC lL.pos lb.pos
  generalize hsf:L.length - m.length=s
  have hls:L.length=s+m.length:=by omega
  have lowL':=qpB (s:=s) (j:=m.length) S.low hm ccl.pos
  have pw:=fun k=>qpC (cc:=cc) S.low hm ccl.pos hls k
  have lenL':=qm3 L m cc s m.length
  have pwl:=qiD hm nm m0
  have top0:pwo (rsL L m cc s m.length) (L.length - 1)=0:=by
    rw [pw,vc]
    unfold upS
    rw [if_pos (by omega),show L.length - 1 - s=m.length - 1 by omega]
    grind
  have dl:∀ k,pwo (rsL L m cc s m.length).dropLast k=pwo L k - val cc*upS s (pwo m) k:=fun k=>by
    rw [← pw]
    by_cases h:k<L.length - 1
    · unfold pwo qbR
      rw [List.getD_eq_getElem?_getD,List.getD_eq_getElem?_getD,List.getElem?_dropLast,if_pos (by rw [lenL'];exact h)]
    · rw [qet (by rw [List.length_dropLast,lenL'];omega)]
      by_cases e:k=L.length - 1
      · rw [e,top0]
      · rw [qet (by rw [lenL'];omega)]
  have lowD:qaZ (rsL L m cc s m.length).dropLast:=fun q hq=>lowL' q (List.dropLast_subset _ hq)
  refine ⟨lowD,?_,S.mr.less (val cc) s fun k=>by rw [dl k];grind⟩
  obtain ⟨D,OD,bD,bz⟩:=S.ov
  generalize hμ:(ovN m M).getD (m.length - 1) 0=μ
  have pμ:pwo m (m.length - 1)=(μ:Rat) / (M:Rat):=by rw [qlm hm OM,hμ]
  have M0:=qaC (Int.ne_of_gt OM.1)
  have D0:=qaC (Int.ne_of_gt OD.1)
  have μ0:μ≠0:=fun z=>pwl (by rw [pμ,z];exact zdiv _)
  have bμ:Bd d μ:=by rw [← hμ];exact qgB bm _
  have aμ:0<(μ.natAbs:Int):=by omega
  have key:∀ k,∃ n:Int,pwo (rsL L m cc s m.length).dropLast k=(n:Rat) / ((D*(μ.natAbs:Int):Int):Rat)∧Bd (b+(i+1)*(d+1)) n:=fun k=>by
    have e2:b+(i+1)*(d+1)=(d+(b+i*(d+1)))+1:=by rw [Nat.add_mul];omega
    have b1:Bd (b+i*(d+1)) ((ovN L D).getD k 0):=qgB bz k
    have b2:Bd (b+i*(d+1)) ((ovN L D).getD (L.length - 1) 0):=qgB bz _
    have hv:val cc=((ovN L D).getD (L.length - 1) 0:Rat) / (D:Rat)*((M:Rat) / (μ:Rat)):=by
      rw [vc,qlm S.low OD]
      have:val by'=(M:Rat) / (μ:Rat):=by
        rw [pμ] at vb
        have:=qaC μ0
        grind
      rw [this]
    have up:∃ w:Int,upS s (pwo m) k=(w:Rat) / (M:Rat)∧Bd d w:=by
      unfold upS
      by_cases hk:s≤k
      · rw [if_pos hk,qlm hm OM];exact ⟨_,rfl,qgB bm _⟩
      · rw [if_neg hk];exact ⟨0,(zdiv _).symm,qdp _⟩
    obtain ⟨w,hw,bw⟩:=up
    rw [dl,hv,hw,qlm S.low OD,e2]
    have μR:=qaC μ0
    rcases Int.natAbs_eq μ with e | e
    · refine ⟨(μ.natAbs:Int)*(ovN L D).getD k 0 - w*(ovN L D).getD (L.length - 1) 0,?_,?_⟩
      · rw [← e]
        push_cast
        generalize ((ovN L D).getD k 0:Rat)=x at *
        generalize ((ovN L D).getD (L.length - 1) 0:Rat)=y at *
        grind
      · rw [← e];exact (bμ.mul b1).sub (bw.mul b2)
    · refine ⟨(μ.natAbs:Int)*(ovN L D).getD k 0+w*(ovN L D).getD (L.length - 1) 0,?_,?_⟩
      · have e':(μ.natAbs:Int) = -μ:=by omega
        rw [e']
        push_cast
        generalize ((ovN L D).getD k 0:Rat)=x at *
        generalize ((ovN L D).getD (L.length - 1) 0:Rat)=y at *
        grind
      · have e':(μ.natAbs:Int) = -μ:=by omega
        rw [e'];exact (bμ.neg.mul b1).add (bw.mul b2)
  have DP:0<D*(μ.natAbs:Int):=Int.mul_pos OD.1 aμ
  have elem:∀ q∈(rsL L m cc s m.length).dropLast,q.2∣D*(μ.natAbs:Int)∧Bd (b+(i+1)*(d+1)) (q.1*((D*(μ.natAbs:Int)) / q.2)):=fun q hq=>by
    obtain ⟨k,hk,e⟩:=List.getElem_of_mem hq
    obtain ⟨n,hn,bn⟩:=key k
    have lq:=lowD q hq
    have ek:qbR (rsL L m cc s m.length).dropLast k=q:=by unfold qbR;rw [List.getD_eq_getElem?_getD,List.getElem?_eq_getElem hk,← e];rfl
    unfold pwo at hn
    rw [ek] at hn
    obtain ⟨h1,h2⟩:=qkc lq (qgT (Int.ne_of_gt lq.pos) (Int.ne_of_gt DP) hn)
    exact ⟨h1,by rw [h2];exact bn⟩
  refine ⟨D*(μ.natAbs:Int),⟨DP,fun q hq=>(elem q hq).1⟩,?_,fun z hz=>?_⟩
  · refine (bD.mul (bμ.le (y:=(μ.natAbs:Int)) (by omega))).mono ?_
    rw [Nat.add_mul];omega
  · obtain ⟨q,hq,rfl⟩:=List.mem_map.mp hz
    exact (elem q hq).2
theorem qqY (f:Nat→Int):∀ (A:List Int) (k:Nat),cvL (A.map fun z:Int=>(z:Rat)) (fun k=>(f k:Rat)) k=((cvL A f k:Int):Rat)
  | [],_=>rfl
  | x::A,0=>by rw [List.map_cons,qam,qam];push_cast;grind
  | x::A,k+1=>by rw [List.map_cons,qaj,qaj,qqY f A k];push_cast;grind
theorem qm4 {f:Nat→Int} {G:Nat→Rat} {β:Rat} (β0:β≠0) (hG:∀ k,G k=β*(f k:Rat)) (A:List Int) (k:Nat):((cvL A f k:Int):Rat)=β⁻¹*cvL (A.map fun z:Int=>(z:Rat)) G k:=by
  rw [qai hG,qa8,qqY]
  grind
theorem MR.of {f g:Nat→Int} {F G:Nat→Rat} {α β:Rat} (β0:β≠0) (hF:∀ k,F k=α*(f k:Rat)) (hG:∀ k,G k=β*(g k:Rat)) (m:MQ g f):MR G F:=by
  obtain ⟨c,c0,A,hA⟩:=m
  have c1:=qaC c0
  refine ⟨(A.map fun z:Int=>(z:Rat)).map (α*(c:Rat)⁻¹*β⁻¹*·),fun k=>?_⟩
  have e:(c:Rat)*(f k:Rat)=((cvL A g k:Int):Rat):=by exact_mod_cast hA k
  rw [qar,hF k]
  rw [qm4 β0 hG] at e
  grind
theorem MR.qi {r o g:Nat→Int} {n L M G:Nat→Rat} {α β γ:Rat} (α0:α≠0) (β0:β≠0) (hL:∀ k,L k=α*(r k:Rat)) (hM:∀ k,M k=β*(o k:Rat)) (hG:∀ k,G k=γ*(g k:Rat)) (q:QI r o g) (m1:MR n L) (m2:MR n M):MR n G:=by
  obtain ⟨d,d0,U,W,hU⟩:=q
  obtain ⟨A,hA⟩:=m1
  obtain ⟨B,hB⟩:=m2
  have d1:=qaC d0
  refine ⟨qa4 ((qaS (U.map fun z:Int=>(z:Rat)) A).map (γ*(d:Rat)⁻¹*α⁻¹*·)) ((qaS (W.map fun z:Int=>(z:Rat)) B).map (γ*(d:Rat)⁻¹*β⁻¹*·)),fun k=>?_⟩
  rw [qav,qar,qar,qap,qap,← qai hA,← qai hB]
  have e:(d:Rat)*(g k:Rat)=((cvL U r k:Int):Rat)+((cvL W o k:Int):Rat):=by exact_mod_cast hU k
  rw [qm4 α0 hL,qm4 β0 hM] at e
  rw [hG k]
  grind
theorem qpD {l:List Nu} (hl:qaZ l) (k:Nat):pwo l k=((qfP l:Rat))⁻¹*(co (qeG l) k:Rat):=by
  rw [qlm hl (qeH hl),← qjW]
  show (co (qeG l) k:Rat) / _=_
  grind
theorem qqZ {g:List Int} (lg:Lz g) (k:Nat):pwo (mnc g) k=((co g (g.length - 1):Rat))⁻¹*(co g k:Rat):=by
  rw [qfD lg];grind
theorem qm5 {g:List Int} (lg:Lz g):((co g (g.length - 1):Rat))⁻¹≠0:=by
  have:=qaC lg.2
  grind
theorem RC.symm {r o:Nat→Int} {g:List Int} (G:RC r o g):RC o r g:=by
  obtain ⟨d,d0,U,W,h⟩:=G.qi
  exact ⟨G.lz,G.right,G.left,⟨d,d0,W,U,fun k=>by rw [h k];omega⟩⟩
theorem qq0 {lead:Int} (h0:lead≠0) {B:Nat} {ns:List Int} (hb:∀ z∈ns,Bd B z):Ov (ns.map fun n=>qbV n lead) (lead.natAbs:Int)∧∀ z∈ovN (ns.map fun n=>qbV n lead) (lead.natAbs:Int),Bd B z:=by
  have A0:(0:Int)<(lead.natAbs:Int):=by omega
  have key:∀ n∈ns,(qbV n lead).2∣(lead.natAbs:Int)∧Bd B ((qbV n lead).1*((lead.natAbs:Int) / (qbV n lead).2)):=fun n hn=>by
    have lq:=qcQ (n:=n) h0
    have l1:=qaC h0
    have:∃ s:Int,val (qbV n lead)=(s:Rat) / (((lead.natAbs:Int):Int):Rat)∧Bd B s:=by
      rw [qdq h0]
      rcases Int.natAbs_eq lead with e | e
      · exact ⟨n,by rw [← e],hb n hn⟩
      · refine ⟨-n,?_,(hb n hn).neg⟩
        have e':(lead.natAbs:Int) = -lead:=by omega
        rw [e'];push_cast;grind
    obtain ⟨s,hs,bs⟩:=this
    obtain ⟨d1,d2⟩:=qkc lq (qgT (Int.ne_of_gt lq.pos) (Int.ne_of_gt A0) hs)
    exact ⟨d1,by rw [d2];exact bs⟩
  refine ⟨⟨A0,fun q hq=>?_⟩,fun z hz=>?_⟩
  · obtain ⟨n,hn,rfl⟩:=List.mem_map.mp hq
    exact (key n hn).1
  · obtain ⟨q,hq,rfl⟩:=List.mem_map.mp hz
    obtain ⟨n,hn,rfl⟩:=List.mem_map.mp hq
    exact (key n hn).2
structure PS (l m:List Nu) (b c d e nq:Nat) (r:List Int) (B:Int) (qs:List Nu):Prop where
  len:r.length≤l.length
  tz:Tz r
  B0:B≠0
  N:∃ N,0<N∧B∣N∧Bd (c+(nq - (r.length+1 - m.length))*d) N∧∀ q∈qs,q.2∣N
  low:qaZ qs
  qb:∀ q∈qs,Bd (b+nq*(d+1)+e) q.1
  rb:∀ z∈r,Bd (b+(nq - (r.length+1 - m.length))*(d+1)) z
  ql:qs.length=nq
  zer:∀ j,j+m.length≤r.length→qbR qs j=(0,1)
  idn:∀ k,pwo l k=cv (pwo qs) (pwo m) nq k+(co r k:Rat) / (B:Rat)
theorem qm6 {ns:List Int} {g:Int} (k:Nat):co (ns.map (· / g)) k=co ns k / g:=qjr (F:=(· / g)) (Int.zero_ediv g) ns k
theorem qoR {ns:List Int} {g:Int} (h:∀ z∈ns,g∣z) (k:Nat):g∣co ns k:=qkO h k
theorem PS.step {l m:List Nu} {b c d e nq:Nat} {r:List Int} {B:Int} {qs:List Nu} (S:PS l m b c d e nq r B qs) (hm:qaZ m) (nm:Nz m) (m1:1≤m.length) (bC:∀ z∈qeG m,Bd d z) (bE:Bd e (qfP m)) (hq:nq=l.length+1 - m.length) (hr:m.length≤r.length)
    {lead top sh f w g:Int} (hlead:lead=co (qeG m) (m.length - 1)) (htop:top=co r (r.length - 1)) (hs0:0<sh) (hf:f*sh=lead) (hw:w*sh=top) {r1:List Int} (t1:Tz r1) (hr1:∀ k,co r1 k=f*co r k - w*upS (r.length - m.length) (co (qeG m)) k) (g0:0<g) (gB:g∣B*f) (gr:∀ z∈r1,g∣z) :
    PS l m b c d e nq (r1.map (· / g)) (B*f / g) (qs.set (r.length - m.length) (qbV (top*qfP m) (B*lead)))∧r1.length<r.length:=by
  have lne:lead≠0:=by rw [hlead];exact qmS hm nm m1
  have cl:(qeG m).length=m.length:=qdz m
  have fne:f≠0:=fun z=>lne (by rw [← hf,z,Int.zero_mul])
  have lt1:r1.length<r.length:=by
    have:r1.length≤r.length - 1:=qrS (b:=[]) t1 _ fun k hk=>by
      rw [hr1 k]
      unfold upS
      rw [if_pos (by omega)]
      by_cases ek:k=r.length - 1
      · rw [ek,← htop,show r.length - 1 - (r.length - m.length)=m.length - 1 by omega,← hlead,← hw,← hf];grind
      · rw [qat (a:=r) (by omega),qat (a:=qeG m) (k:=k - (r.length - m.length)) (by omega)];omega
    omega
  have len2:(r1.map (· / g)).length=r1.length:=List.length_map ..
  obtain ⟨N,N0,NB,Nb,Nq⟩:=S.N
  have hlen:=S.len
  have bl:Bd d lead:=by rw [hlead];exact qa9 bC _
  have bt:Bd (b+(nq - (r.length+1 - m.length))*(d+1)) top:=by rw [htop];exact qa9 S.rb _
  have bf:Bd d f:=qgC lne ⟨sh,by rw [hf]⟩ bl
  have bw:Bd (b+(nq - (r.length+1 - m.length))*(d+1)) w:=by
    by_cases z:top=0
    · have w0:w=0:=by
        rcases Int.mul_eq_zero.mp (hw.trans z) with h | h
        · exact h
        · omega
      rw [w0];exact qdp _
    · exact qgC z ⟨sh,by rw [hw]⟩ bt
  have sle:r.length - m.length<nq:=by omega
  have bne:B*lead≠0:=Int.mul_ne_zero S.B0 lne
  have nlow:=qcQ (n:=top*qfP m) bne
  have mem_set:∀ {q:Nu},q∈qs.set (r.length - m.length) (qbV (top*qfP m) (B*lead))→q∈qs∨q=qbV (top*qfP m) (B*lead):=fun {q} h=>List.mem_or_eq_of_mem_set h
  have sget:∀ j,qbR (qs.set (r.length - m.length) (qbV (top*qfP m) (B*lead))) j=if j=r.length - m.length then qbV (top*qfP m) (B*lead) else qbR qs j:=fun j=>by
    unfold qbR
    rw [List.getD_eq_getElem?_getD,List.getD_eq_getElem?_getD]
    by_cases e:j=r.length - m.length
    · rw [if_pos e,e,List.getElem?_set_self (by rw [S.ql];exact sle)];rfl
    · rw [if_neg e,List.getElem?_set_ne (fun z=>e z.symm)]
  have grow:∀ x:Nat,(nq - (r.length+1 - m.length))*x+x≤(nq - (r1.length+1 - m.length))*x:=fun x=>by
    have:=Nat.mul_le_mul_right x (show nq - (r.length+1 - m.length)+1≤nq - (r1.length+1 - m.length) by omega)
    rw [Nat.add_mul,Nat.one_mul] at this
    exact this
  refine ⟨⟨by omega,?_,?_,⟨N*(lead.natAbs:Int),?_,?_,?_,?_⟩,?_,?_,?_,?_,?_,?_⟩,lt1⟩
  · rcases t1 with h | h
    · left;rw [h];rfl
    · right
      rw [len2,qm6]
      intro z
      have:=Int.ediv_mul_cancel (qoR gr (r1.length - 1))
      rw [z,Int.zero_mul] at this
      exact h this.symm
  · intro z
    have d:=Int.ediv_mul_cancel gB
    rw [z,Int.zero_mul] at d
    exact Int.mul_ne_zero S.B0 fne d.symm
  · exact Int.mul_pos N0 (by omega)
  · refine Int.dvd_trans (Int.ediv_dvd_of_dvd gB) (Int.mul_dvd_mul NB ?_)
    exact Int.dvd_natAbs.mpr ⟨sh,by rw [hf]⟩
  · have bl':Bd d (lead.natAbs:Int):=bl.le (by rw [Int.natAbs_natCast];exact Nat.le_refl _)
    refine (Nb.mul bl').mono ?_
    rw [len2]
    have:=grow d
    omega
  · intro q hq
    rcases mem_set hq with h | h
    · exact Int.dvd_trans (Nq q h) (Int.dvd_mul_right ..)
    · rw [h]
      exact qnY bne (Int.mul_dvd_mul NB (Int.dvd_natAbs.mpr (Int.dvd_refl _)))
  · intro q hq
    rcases mem_set hq with h | h
    · exact S.low q h
    · rw [h];exact nlow
  · intro q hq
    rcases mem_set hq with h | h
    · exact S.qb q h
    · rw [h]
      refine (qmu bne (bt.mul bE) (Nat.lt_two_pow_self:Bd _ (B*lead))).1.mono ?_
      have:=Nat.mul_le_mul_right (d+1) (show nq - (r.length+1 - m.length)≤nq by omega)
      omega
  · intro z hz
    obtain ⟨y,hy,rfl⟩:=List.mem_map.mp hz
    refine qqW (gr y hy) ?_
    refine qkU (n:=b+(nq - ((r1.map (· / g)).length+1 - m.length))*(d+1)) (fun k=>?_) y hy
    rw [hr1 k,len2]
    have gw:=grow (d+1)
    refine Bd.mono (m:=(b+(nq - (r.length+1 - m.length))*(d+1)+d)+1) (Bd.sub ((bf.mul (qa9 S.rb k)).mono (by omega)) ?_) (by omega)
    unfold upS
    split
    · exact bw.mul (qa9 bC _)
    · rw [Int.mul_zero];exact qdp _
  · rw [List.length_set];exact S.ql
  · intro j hj
    rw [len2] at hj
    rw [sget,if_neg (by omega)]
    exact S.zer j (by omega)
  · intro k
    have hB:=qaC S.B0
    have hL:=qaC lne
    have hg:=qaC (Int.ne_of_gt g0)
    have hF:=qaC fne
    have hE:=qaC (Int.ne_of_gt (qeH hm).1)
    have c1:=qoG (f:=pwo qs) (f':=pwo (qs.set (r.length - m.length) (qbV (top*qfP m) (B*lead)))) (g:=pwo m) (s:=r.length - m.length) (x:=val (qbV (top*qfP m) (B*lead)))
      (by unfold pwo;rw [S.zer _ (by omega)];exact zdiv _) (by unfold pwo;rw [sget,if_pos rfl]) (fun i hi=>by unfold pwo;rw [sget,if_neg hi]) nq k
    have gd:g∣f*co r k - w*upS (r.length - m.length) (co (qeG m)) k:=by rw [← hr1 k];exact qoR gr k
    rw [c1,S.idn k,qm6,hr1 k,qkN (Int.ne_of_gt g0) gd,qkN (Int.ne_of_gt g0) gB,qdq bne]
    have hf':(f:Rat)*sh=lead:=by exact_mod_cast hf
    have hw':(w:Rat)*sh=top:=by exact_mod_cast hw
    have hS:=qaC (Int.ne_of_gt hs0)
    unfold upS
    by_cases hk:r.length - m.length≤k
    · rw [if_pos hk,if_pos ⟨sle,hk⟩,qlm hm (qeH hm),← qjW]
      show _+(co r k:Rat) / _=_+_*((co (qeG m) (k - (r.length - m.length)):Rat) / _)+_
      push_cast
      generalize (co (qeG m) (k - (r.length - m.length)):Rat)=dk
      generalize cv (pwo qs) (pwo m) nq k=c
      generalize (co r k:Rat)=x
      grind
    · rw [if_neg hk,if_neg (by omega)]
      push_cast
      generalize cv (pwo qs) (pwo m) nq k=c
      generalize (co r k:Rat)=x
      grind
theorem qof {a b:Nu} (h:qoK a=qoK b):a=b:=by
  unfold qoK at h
  injection h with h
  injection h with h1 h2
  injection h2 with h2 _
  injection h1 with h1
  injection h2 with h2
  exact Prod.ext h1 h2
theorem qkX {l m:List Nu} (h:qln l=qln m):l=m:=by
  unfold qln at h
  injection h with h
  induction l generalizing m with
  | nil=>
    cases m with
    | nil=>rfl
    | cons b m=>simp at h
  | cons a l ih=>
    cases m with
    | nil=>simp at h
    | cons b m=>
      rw [List.map_cons,List.map_cons] at h
      injection h with h1 h2
      rw [qof h1,ih h2]
theorem neP {H:Hp} {p q:Addr} {xs ys:List V} {l m:List Nu} {Q:VK} (hp:H p=some (.tup xs)) (hN:Nums H xs l) (hq:H q=some (.tup ys)) (hM:Nums H ys m) (b:Bool) (hb:b=true↔l=m) (h:Q (.bl (!b)) H):neD (.ref p) (.ref q) H Q:=
  ⟨_,_,b,qpZ hp hN,qpZ hq hM,okP _ 6,okP _ 6,⟨fun z=>by rw [hb.mp z],fun z=>hb.mpr (qkX z)⟩,h⟩
theorem MR.trans {n M L:Nat→Rat} (h1:MR n M) (h2:MR M L):MR n L:=by
  obtain ⟨A,hA⟩:=h1
  obtain ⟨B,hB⟩:=h2
  exact ⟨qaS B A,fun k=>by rw [qap,← qai hA,hB k]⟩
theorem MR.add {n F G L:Nat→Rat} (h1:MR n F) (h2:MR n G) (h:∀ k,L k=F k+G k):MR n L:=by
  obtain ⟨A,hA⟩:=h1
  obtain ⟨B,hB⟩:=h2
  exact ⟨qa4 A B,fun k=>by rw [qav,← hA k,← hB k,h k]⟩
theorem MR.smul {n F L:Nat→Rat} (h1:MR n F) (c:Rat) (h:∀ k,L k=c*F k):MR n L:=by
  obtain ⟨A,hA⟩:=h1
  exact ⟨A.map (c*·),fun k=>by rw [qar,← hA k,h k]⟩
theorem MR.sub {n F G L:Nat→Rat} (h1:MR n F) (h2:MR n G) (h:∀ k,L k=F k - G k):MR n L:=
  h1.add (h2.smul (-1) (L:=fun k=>-1*G k) fun _=>rfl) fun k=>by rw [h k];grind
theorem qq1 {F:Nat→Rat} {n:Nat} (h:∀ i,n≤i→F i=0) (k:Nat):F k=cvL ((List.range n).map F) qbG k:=by
  rw [qbW,List.getD_eq_getElem?_getD,List.getElem?_map]
  by_cases hk:k<n
  · rw [List.getElem?_range hk];rfl
  · rw [List.getElem?_eq_none (by rw [List.length_range];omega),h k (by omega)];rfl
theorem MR.len {g h:List Int} (lg:Lz g) (lh:Lz h) (m:MR (pwo (mnc g)) (pwo (mnc h))):g.length≤h.length:=by
  rcases Nat.lt_or_ge h.length g.length with y | y
  · exfalso
    have g0:=lg.1
    have one:∀ {x:List Int},Lz x→pwo (mnc x) (x.length - 1)=1:=fun {x} lx=>by unfold pwo;rw [qkW lx];unfold val;show ((1:Int):Rat) / ((1:Int):Rat)=1;grind
    have z:=MR.short (n:=g.length - 1) (by rw [one lg];decide) (fun i hi=>qet (by rw [qdb];omega)) m (fun k hk=>qet (by rw [qdb];omega)) (h.length - 1)
    rw [one lh] at z
    exact absurd z (by decide)
  · exact y
theorem Gq.mono {b c b' c':Nat} {l:List Nu} (G:Gq b c l) (h1:b≤b') (h2:c≤c'):Gq b' c' l:=by
  obtain ⟨x,y,M,O,bM,bz⟩:=G
  exact ⟨x,y,M,O,bM.mono h2,fun z hz=>(bz z hz).mono h1⟩
theorem qq2 {T:List Nu} {b c:Nat} (hT:qaZ T) (nT:Nz T) {M:Int} (M0:0<M) (bM:Bd c M) {N:Nat→Int} (h:∀ k,pwo T k=(N k:Rat) / (M:Rat)) (hN:∀ k,Bd b (N k)):Gq b c T:=by
  have key:∀ q∈T,∃ k,q.2∣M∧q.1*(M / q.2)=N k:=fun q hq=>by
    obtain ⟨i,hi,rfl⟩:=List.getElem_of_mem hq
    have e:qbR T i=T[i]:=by unfold qbR;rw [List.getD_eq_getElem?_getD,List.getElem?_eq_getElem hi];rfl
    have hl:=hT _ hq
    have v:=h i
    unfold pwo at v
    rw [e] at v
    exact ⟨i,qkc hl (qgT (Int.ne_of_gt hl.pos) (Int.ne_of_gt M0) v)⟩
  refine ⟨hT,nT,M,⟨M0,fun q hq=>?_⟩,bM,fun z hz=>?_⟩
  · obtain ⟨k,a,_⟩:=key q hq;exact a
  · obtain ⟨q,hq,rfl⟩:=List.mem_map.mp hz
    obtain ⟨k,_,a⟩:=key q hq
    rw [a];exact hN k
theorem qq3 (l:List Nu) (k:Nat):cvL (rw' l) qbG k=pwo l k:=(qq1 (fun i hi=>qet hi) k).symm
theorem Cop.scal {T B T' B':Nat→Rat} {s:Rat} (s0:s≠0) (h:Cop T B) (hT:∀ k,T' k=s*T k) (hB:∀ k,B' k=s*B k):Cop T' B':=by
  obtain ⟨U,W,e⟩:=h
  refine ⟨U.map (s⁻¹*·),W.map (s⁻¹*·),fun k=>?_⟩
  rw [qar,qar,qai hT,qai hB,qa8,qa8,e k]
  have:s⁻¹*s=1:=Rat.inv_mul_cancel s s0
  grind
theorem Cop.mr {T B n:Nat→Rat} (h:Cop T B) (h1:MR n T) (h2:MR n B):MR n qbG:=by
  obtain ⟨U,W,e⟩:=h
  obtain ⟨A,hA⟩:=h1
  obtain ⟨C,hC⟩:=h2
  exact ⟨qa4 (qaS U A) (qaS W C),fun k=>by rw [qav,qap,qap,← qai hA,← qai hC,e k]⟩
theorem qsq (l:List Nu):sr l=Sr.L (rw' l):=Sr.ext' fun k=>(qq3 l k).symm
theorem qjt (l:List Nu):Sr.Pol (sr l):=⟨_,qsq l⟩
theorem qog {l:List Nu} (h1:qaZ l) (h2:Nz l) (h3:l≠[]):sr l≠0:=fun z=>qiD h1 h2 h3 (by
  have:=congrFun (congrArg Sr.c z) (l.length - 1)
  rw [Sr.zero_c] at this
  exact this)
theorem qq4 {l m:List Nu} (h1:qaZ l) (h2:qaZ m) (n1:Nz l) (n2:Nz m) (h:sr l=sr m):l=m:=qnZ h1 h2 n1 n2 fun k=>congrFun (congrArg Sr.c h) k
theorem qoh (k:Nat):(1:Sr).c k=qbG k:=by show ((1:Nat):Rat)*qbG k=_;push_cast;grind
theorem qsr (ns:List Int) (f:Int):List.map V.int (ns.map (f*·))=qbS ns.length fun k=>f*ns.getD k 0:=by
  unfold qbS
  congr 1
  apply List.ext_getElem?
  intro i
  rw [List.getElem?_map,List.getElem?_map]
  by_cases h:i<ns.length
  · rw [List.getElem?_range h,List.getElem?_eq_getElem h]
    show _=some (f*ns.getD i 0)
    rw [List.getD_eq_getElem?_getD,List.getElem?_eq_getElem h]
    rfl
  · rw [List.getElem?_eq_none (by omega),List.getElem?_eq_none (by rw [List.length_range];omega)]
    rfl
theorem qm7 (m:Nat) (f:Nat→Int):qbS (m+1) f=qbS m f++[V.int (f m)]:=by
  unfold qbS
  rw [List.range_succ,List.map_append,List.map_append]
  rfl
theorem qm8 (ns:List Int):ns.map V.int=qbS ns.length fun k=>ns.getD k 0:=by
  have h:=qsr ns 1
  have e:ns.map (1*·)=ns:=by
    have e2:(fun x:Int=>1*x)=id:=funext fun x=>Int.one_mul x
    rw [e2,List.map_id]
  rw [e] at h
  rw [h]
  exact qdg fun i _=>by rw [Int.one_mul]
theorem qgf (ns:List Int) (lo hi:Option Int):∃ ms:List Int,qgn (ns.map V.int) lo hi=ms.map V.int∧ms.length≤ns.length:=by
  unfold qgn
  rw [← List.map_drop,← List.map_take]
  exact ⟨_,rfl,by rw [List.length_take,List.length_drop];omega⟩
theorem qm9 (h:qcy K vs H Q E):qiq K { nx:=fun _ H'=>Q .non H',rt:=Q } (L2.start ["_law_script", "_law_first"] vs) H:=by
  obtain ⟨s,ns,rfl,hs,n63,k⟩:=h
  unfold qiq
  rwa []
  obtain ⟨c1,e1,_⟩:=qgf ns none (some 1)
  obtain ⟨c2,e2,l2⟩:=qgf ns none (some 63)
  refine ⟨_,hs,fun p hp=>⟨c1,e1,_,Same.seq (qag hp _) hs,fun p1 h1 l hl=>⟨⟨by decide,(qrQ (by decide) (by decide)).mono (by decide)⟩,by decide,sz (by decide),fun r hr=>?_⟩⟩⟩
  have t1:=qag hp (HO.lst (qgn (ns.map V.int) none (some 1)))
  have t2:=qag h1 (HO.lst (qgn (ns.map V.int) none (some 63)))
  have t3:=qag hl (HO.lst (qgn (ns.map V.int) none (some 63)))
  have t4:=(t1.trans t2).trans t3
  have r0:H r=none:=by
    cases e:H r with
    | none=>rfl
    | some o=>have z:=t4 _ _ e;rw [hr] at z;cases z
  refine k r l _ r0 (Kp.of_same (t4.trans (qag hr _))) ⟨c2,0,_,_,upd_same,?_,by omega,?_,by decide,by decide,?_⟩
  · rw [← e2];exact (qag hr _) _ _ upd_same
  · exact qau upd_same hr
  · refine Int.ediv_nonneg ?_ (by decide)
    split <;> omega
theorem qna (h:qaI K vs H Q E):qir K { nx:=fun _ H'=>Q .non H',rt:=Q } (L2.start ["_law_hand_here", "_law_many", "_law_found", "_law_cell", "_law_once", "_law_twice"] vs) H:=by
  obtain ⟨p,a,m,n,rfl,⟨ns,x,y,z,hp,ha,ln,ap,x0,xn,y0⟩,n9,m0,m9,k⟩:=h
  have A0:∀ x y:Int,atI [V.ref a,V.int x,V.int y,V.int z] 0=some (V.ref a):=fun _ _=>rfl
  have A1:∀ x y:Int,atI [V.ref a,V.int x,V.int y,V.int z] 1=some (V.int x):=fun _ _=>rfl
  have A2:∀ x y:Int,atI [V.ref a,V.int x,V.int y,V.int z] 2=some (V.int y):=fun _ _=>rfl
  have A3:∀ x y:Int,atI [V.ref a,V.int x,V.int y,V.int z] 3=some (V.int z):=fun _ _=>rfl
  have I1:ixN 4 1=some 1:=rfl
  have I2:ixN 4 2=some 2:=rfl
  have kpa:∀ {H1:Hp} {o:HO},H1 a=some (.lst (ns.map V.int))→(upd H1 p o) a=some (.lst (ns.map V.int)):=fun h=>by rw [qaw ap];exact h
  have go:∀ (x y:Int) (H1:Hp),H1 p=some (.lst [V.ref a,V.int x,V.int y,V.int z])→H1 a=some (.lst (ns.map V.int))→0≤x→x≤n+1→0≤y→Kp p H H1→qfy K { nx:=fun x H'=>Q V.non H',rt:=Q } [some (V.ref p),some (V.int m),none,none,none,none] H1:=fun x y H1 hp ha x0 xn y0 k1=>by
    have go2:qfx K { nx:=fun x H'=>Q V.non H',rt:=Q } [some (V.ref p),some (V.int m),none,none,none,none] H1:=by
      unfold qfx
      rwa [hp,A1,I1]
      have k2:Kp p H (upd H1 p (HO.lst [V.ref a,V.int (x+1),V.int y,V.int z])):=k1.trans Kp.upd
      have hp2:upd H1 p (HO.lst [V.ref a,V.int (x+1),V.int y,V.int z]) p=_:=upd_same
      have ha2:upd H1 p (HO.lst [V.ref a,V.int (x+1),V.int y,V.int z]) a=_:=kpa ha
      generalize upd H1 p (HO.lst [V.ref a,V.int (x+1),V.int y,V.int z])=H2 at k2 hp2 ha2 ⊢
      unfold qhK
      rwa [hp2,ha2,A0,A1]
      obtain ⟨c1,e1,_⟩:=qgf ns (some ((x+1) % if ((ns.map V.int).length:Int) > 1 then ((ns.map V.int).length:Int) else 1)) none
      obtain ⟨c2,e2,_⟩:=qgf c1 none (some 1)
      rw [e1,e2]
      refine ⟨by split <;> omega,fun q1 h1 q2 h2=>⟨c2,rfl,?_⟩⟩
      have s3:=(qag h1 (HO.lst (c1.map V.int))).trans (qag h2 (HO.lst (c2.map V.int)))
      have hp3:=s3 _ _ hp2
      have ha3:=s3 _ _ ha2
      have k3:=k2.same s3
      generalize upd (upd H2 q1 (HO.lst (c1.map V.int))) q2 (HO.lst (c2.map V.int))=H3 at hp3 ha3 k3 ⊢
      generalize c2.sum=cell
      unfold qhJ
      rwa [hp3,A1]
      have L:∀ {x y:Int},0≤x→x<4611686018427387904→IntMulOk x y:=fun h1 h2=>qp0 (by omega) (by omega)
      have R:∀ {x y:Int},0≤y→y<4611686018427387904→IntMulOk x y:=fun h1 h2=>qrr (by omega) (by omega)
      refine ⟨by decide,L (by decide) (by decide),L (by decide) (by decide),R (by omega) (by omega),by decide,?_⟩
      generalize (cell % 2147483629+7919*(x+1)+11)*(48271+2*(x+1)) % 2147483647=once
      unfold qhI
      rwa [hp3,A1]
      have z:=Int.emod_nonneg once (show (39373:Int)≠0 by decide)
      have z2:=Int.emod_lt_of_pos once (show (0:Int)<39373 by decide)
      refine ⟨by decide,R (by omega) (by omega),L (by decide) (by decide),by decide,?_⟩
      unfold qhH
      rwa []
      exact ⟨⟨by decide,(qrQ (by decide) (by decide)).mono (by decide)⟩,m0,k _ _ (Int.emod_nonneg _ (by omega)) (Int.emod_lt_of_pos _ m0) ⟨ns,x+1,y,_,hp3,ha3,ln,ap,by omega,by omega,y0⟩ k3⟩
    unfold qfy
    rwa [hp,A2,A3]
    refine qcM (fun _=>?_) (fun _=>go2)
    refine qcM (fun _=>?_) (fun _=>go2)
    unfold qfb
    rwa [hp,A2]
    refine ⟨m0,?_⟩
    unfold qfa qe9
    rwa [hp,A2,I2]
    exact ⟨⟨m0,(qrQ (by omega) (by omega)).mono (by decide)⟩,k _ _ (Int.emod_nonneg _ (by omega)) (Int.emod_lt_of_pos _ m0) ⟨ns,x,y / m,z,upd_same,kpa ha,ln,ap,x0,by omega,Int.ediv_nonneg y0 (by omega)⟩ (k1.trans Kp.upd)⟩
  unfold qir
  rwa [hp,ha,A0,A1,A2,A3]
  have go0:=go x y H hp ha x0 (by omega) y0 (Kp.of_same (Same.refl H))
  refine qcM (fun _=>?_) (fun _=>go0)
  refine qcM (fun _=>?_) (fun _=>go0)
  refine qcM (fun xl=>?_) (fun _=>go0)
  unfold qe8
  rwa [hp,A1,I1]
  have hp2:upd H p (HO.lst [V.ref a,V.int (x+1),V.int y,V.int z]) p=_:=upd_same
  have ha2:upd H p (HO.lst [V.ref a,V.int (x+1),V.int y,V.int z]) a=_:=kpa ha
  have k2:Kp p H (upd H p (HO.lst [V.ref a,V.int (x+1),V.int y,V.int z])):=Kp.upd
  generalize upd H p (HO.lst [V.ref a,V.int (x+1),V.int y,V.int z])=H2 at k2 hp2 ha2 ⊢
  unfold qe7
  rwa [hp2,ha2,A0,A1,I2]
  rw [List.length_map] at xl
  obtain ⟨v,hv⟩:=qn5 (ns:=ns) (k:=x+1) (by omega) (by omega)
  exact ⟨_,hv,v,rfl,go (x+1) _ _ upd_same (kpa ha2) (by omega) (by omega) (by split <;> omega) (k2.trans Kp.upd)⟩
theorem qkd (h:qa7 K vs H Q E):qfz K { nx:=fun _ H'=>Q .non H',rt:=Q } (L2.start ["_law_top", "_law_bottom", "_law_one", "_law_other"] vs) H:=by
  obtain ⟨a,b,rfl,hb,q⟩:=h
  unfold qfz
  rwa []
  have go:∀ s:Int,(s=if b<0 then -((Int.gcd a b:Nat):Int) else ((Int.gcd a b:Nat):Int))→qpc a s∧qpc b s∧2≤sizeLine∧∀ (p:Addr),H p=none→Q (V.ref p) (upd H p (HO.tup [V.int (a.fdiv s),V.int (b.fdiv s)])):=fun s hs=>by
    obtain ⟨h1,h2,h3,h4,h5,h6⟩:=qem hb hs
    have e:qbV a b=(a.fdiv s,b.fdiv s):=by
      refine qfu (qcQ hb) h3 ?_
      rw [qdq hb,qeY (q:=(a.fdiv s,b.fdiv s)) (Int.ne_of_gt h3.pos) hb h4]
    rw [e] at q
    exact ⟨h1,h1,sz (by decide),q⟩
  refine while_by (fun m σ H'=>∃ x y:Int,σ=[some (.int a),some (.int b),some (.int x),some (.int y)]∧H'=H∧0≤x∧0≤y∧Int.gcd x y=Int.gcd a b∧m=y.natAbs) b.natAbs ⟨_,_,rfl,rfl,by split <;> omega,by split <;> omega,?_,by split <;> omega⟩ ?_
  · split <;> split <;> simp [Int.neg_gcd,Int.gcd_neg]
  rintro m σ H' ⟨x,y,rfl,rfl,x0,y0,hg,rfl⟩
  rwa []
  refine qcM (fun c=>?_) (fun c=>?_)
  · refine ⟨fun σ' H''=>∃ m',m'<y.natAbs∧_,fun _ _ h=>h,?_⟩
    have z1:=Int.emod_nonneg x (show y≠0 by omega)
    have z2:=Int.emod_lt_of_pos x c
    refine ⟨c,(x % y).natAbs,by omega,y,x % y,rfl,rfl,y0,z1,?_,rfl⟩
    rw [qh6 x y0];exact hg
  · have e:y=0:=by omega
    subst e
    have ex:x=((Int.gcd a b:Nat):Int):=by rw [← hg,Int.gcd_zero_right];omega
    refine qcM (fun c2=>?_) (fun c2=>?_)
    · exact go _ (by rw [if_pos c2,ex])
    · exact go _ (by rw [if_neg c2,ex])
theorem qju (h:qby K vs H Q E):qeN K { nx:=fun _ H'=>Q .non H',rt:=Q } (L2.start ["_law_row", "_law_scale_here"] vs) H:=by
  obtain ⟨p,q,ns,t,d,rfl,hp,hq,d0,bt,bn,l9,k⟩:=h
  unfold qeN
  rwa [hp,hq]
  refine ⟨⟨_,SqL.of hp⟩,CompJ.lst (xs:=ns.map V.int) (fun i ys H'=>i≤ns.length∧Same H H'∧Nums H' ys ((ns.map fun n=>qbV (n*t) d).take i)) ⟨Nat.zero_le _,Same.refl H,trivial⟩ ?_ ?_ ?_⟩
  · rintro i ys H' ⟨h1,s1,hZ⟩
    refine ⟨by rw [List.length_map];exact h1,sz ?_,SqL.of (s1 _ _ hp)⟩
    rw [hZ.length,List.length_take];omega
  · rintro i x ys H' hi ⟨h1,s1,hZ⟩
    rw [List.getElem?_map] at hi
    cases e:ns[i]? with
    | none=>rw [e] at hi;cases hi
    | some z=>
      rw [e] at hi
      obtain rfl:=Option.some.inj hi
      have hq1:=s1 _ _ hq
      have hi2:i<ns.length:=(List.getElem?_eq_some_iff.mp e).1
      rwa [hq1]
      refine ⟨qmX (bn z (List.mem_of_getElem? e)) bt,d0,fun r hr=>⟨by omega,s1.trans (qag hr _),?_⟩⟩
      have e2:(ns.map fun n=>qbV (n*t) d)[i]?=some (qbV (z*t) d):=by rw [List.getElem?_map,e];rfl
      rw [List.take_add_one,e2]
      exact (hZ.tp (tpS (qag hr _))).append (Nums.one qjY)
  · rintro ys H' ⟨_,s1,hZ⟩ a ha
    have e:(ns.map fun n=>qbV (n*t) d).take (ns.map V.int).length=ns.map fun n=>qbV (n*t) d:=by rw [List.length_map,show ns.length=(ns.map fun n=>qbV (n*t) d).length by rw [List.length_map],List.take_length]
    rw [e] at hZ
    rwa []
    intro r hr
    have s2:=(qag ha (HO.lst ys)).trans (qag hr (HO.tup ys))
    exact k r ys _ (s1.trans s2) upd_same (hZ.tp (tpS s2))
theorem qiE (h:qaQ K vs H Q E):qek K { nx:=fun _ H'=>Q .non H',rt:=Q } (L2.start ["_law_row"] vs) H:=by
  obtain ⟨p,ns,rfl,hp,lz,l9,k⟩:=h
  unfold qek
  rwa [hp]
  have al:=qcL lz.1
  refine ⟨⟨_,SqL.of hp⟩,CompJ.lst (xs:=ns.map V.int) (fun i ys H'=>i≤ns.length∧Same H H'∧Nums H' ys ((mnc ns).take i)) ⟨Nat.zero_le _,Same.refl H,trivial⟩ ?_ ?_ ?_⟩
  · rintro i ys H' ⟨h1,s1,hZ⟩
    refine ⟨by rw [List.length_map];exact h1,sz ?_,SqL.of (s1 _ _ hp)⟩
    rw [hZ.length,List.length_take];omega
  · rintro i x ys H' hi ⟨h1,s1,hZ⟩
    rw [List.getElem?_map] at hi
    cases e:ns[i]? with
    | none=>rw [e] at hi;cases hi
    | some z=>
      rw [e] at hi
      obtain rfl:=Option.some.inj hi
      have hp1:=s1 _ _ hp
      have hi2:i<ns.length:=(List.getElem?_eq_some_iff.mp e).1
      rwa [hp1,al]
      refine ⟨lz.2,fun r hr=>⟨by omega,s1.trans (qag hr _),?_⟩⟩
      have e2:(mnc ns)[i]?=some (qbV z (co ns (ns.length - 1))):=by unfold mnc;rw [List.getElem?_map,e];rfl
      rw [List.take_add_one,e2]
      exact (hZ.tp (tpS (qag hr _))).append (Nums.one qjY)
  · rintro ys H' ⟨_,s1,hZ⟩ a ha
    have e:(mnc ns).take (ns.map V.int).length=mnc ns:=by rw [List.length_map,show ns.length=(mnc ns).length by rw [qdb],List.take_length]
    rw [e] at hZ
    rwa []
    intro r hr
    have s2:=(qag ha (HO.lst ys)).trans (qag hr (HO.tup ys))
    exact k r ys _ (s1.trans s2) upd_same (hZ.tp (tpS s2))
theorem qq5 {a b:List Int} (la:0<a.length) (lb:0<b.length):ps a b a.length (a.length+b.length - 1 - 1)=co a (a.length - 1)*co b (b.length - 1):=by
  obtain ⟨i,hi⟩:∃ i,a.length=i+1:=⟨a.length - 1,by omega⟩
  rw [hi]
  show ps a b i _+_=_
  rw [qjV i _ (by omega),if_pos ⟨by omega,by omega⟩,show i+1+b.length - 1 - 1 - i=b.length - 1 by omega]
  show 0+co a i*co b (b.length - 1)=_
  rw [Nat.add_sub_cancel];omega
theorem qhk (h:qaY K vs H Q E):qdx K { nx:=fun _ H'=>Q .non H',rt:=Q } (L2.start ["_law_one", "_law_other", "_law_made", "_law_k", "_law_a", "_law_j", "_law_b"] vs) H:=by
  obtain ⟨p,q,ns,ms,n,m,rfl,hp,hq,la,lb,a20,b20,ba,bb,n9,m9,k⟩:=h
  have la1:=la.1
  have lb1:=lb.1
  unfold qdx
  rwa [hp,hq]
  refine ⟨sz (by decide),fun a ha=>?_⟩
  have sa:=qag ha (HO.lst [V.int 0])
  have hpa:=sa _ _ hp
  have hqa:=sa _ _ hq
  rwa [hpa,hqa]
  rw [List.length_map,List.length_map]
  have eL:((ns.length:Int)+(ms.length:Int) - 1).toNat=ns.length+ms.length - 1:=by omega
  rw [eL,qiv]
  refine ⟨by omega,by omega,sz (by omega),fun w hw=>?_⟩
  generalize hLL:ns.length+ms.length - 1=L at hw ⊢
  have sw:=qag hw (HO.lst (qbS L fun _=>0))
  have w0:H w=none:=by
    cases e:H w with
    | none=>rfl
    | some o=>have z:=sa _ _ e;rw [hw] at z;cases z
  refine ⟨⟨_,SqL.of (sw _ _ hpa)⟩,ForJ.enumL (xs:=ns.map V.int) (fun i σ H'=>∃ x1 x2 x3 x4:Option V,σ=[some (.ref p),some (.ref q),some (.ref w),x1,x2,x3,x4]∧Same H H'∧H' w=some (.lst (qbS L fun k=>ps ns ms i k)))
    ⟨none,none,none,none,rfl,sa.trans sw,upd_same⟩ ?_ ?_ ?_⟩
  · rintro i σ H' _ ⟨_,_,_,_,_,s1,_⟩
    exact SqL.of (s1 _ _ hp)
  · rintro i x pp σ H1 hi ⟨x1,x2,x3,x4,rfl,s1,hw1⟩ hpp
    rw [List.getElem?_map] at hi
    cases en:ns[i]? with
    | none=>rw [en] at hi;cases hi
    | some z=>
      rw [en] at hi
      obtain rfl:V.int z=x:=Option.some.inj hi
      have il:i<ns.length:=(List.getElem?_eq_some_iff.mp en).1
      have zd:ns.getD i 0=z:=by rw [List.getD_eq_getElem?_getD,en];rfl
      have sp:=qag hpp (HO.tup [V.int (i:Int),V.int z])
      rwa []
      refine ⟨⟨_,SqL.of (sp _ _ (s1 _ _ hq))⟩,ForJ.enumL (xs:=ms.map V.int) (fun j σ H'=>∃ x3 x4:Option V,σ=[some (.ref p),some (.ref q),some (.ref w),some (.int (i:Int)),some (.int z),x3,x4]∧Same H H'∧H' w=some (.lst (qbS L fun k=>in2 ns ms i j k)))
          ⟨x3,x4,rfl,s1.trans sp,by rw [sp _ _ hw1];exact congrArg (fun l=>some (HO.lst l)) (qdg fun k _=>(qnW ns ms i k))⟩ ?_ ?_ ?_⟩
      · rintro j σ H' _ ⟨_,_,_,s2,_⟩
        exact SqL.of (s2 _ _ hq)
      · rintro j y pq σ H2 hj ⟨y3,y4,rfl,s2,hw2⟩ hpq
        rw [List.getElem?_map] at hj
        cases em:ms[j]? with
        | none=>rw [em] at hj;cases hj
        | some u=>
          rw [em] at hj
          obtain rfl:V.int u=y:=Option.some.inj hj
          have jl:j<ms.length:=(List.getElem?_eq_some_iff.mp em).1
          have ud:ms.getD j 0=u:=by rw [List.getD_eq_getElem?_getD,em];rfl
          have sq:=qag hpq (HO.tup [V.int (j:Int),V.int u])
          have hw3:=sq _ _ hw2
          rwa [hw3]
          have kl:i+j<L:=by omega
          refine ⟨_,qdB (by omega) (qbn _ kl),qmX (ba z (List.mem_of_getElem? en)) (bb u (List.mem_of_getElem? em)),_,rfl,i+j,?_,fun b o h=>Kp.upd b o (qau h w0) (sq b o (s2 b o h)),?_⟩
          · rw [qbu];exact qgM (by omega) kl
          · refine qeq kl ?_ fun k _ hk=>?_
            · rw [qkB,if_pos rfl,zd,ud]
            · rw [qkB,if_neg hk]
      · rintro σ H2 ⟨y3,y4,rfl,s2,hw2⟩
        rw [List.length_map] at hw2
        exact ⟨_,_,_,_,rfl,s2,hw2⟩
  · rintro σ H1 ⟨x1,x2,x3,x4,rfl,s1,hw1⟩
    rwa []
    rw [List.length_map] at hw1
    have ck:∀ k,co ((List.range L).map fun k=>ps ns ms ns.length k) k=ps ns ms ns.length k:=fun k=>by
      unfold co
      rw [List.getD_eq_getElem?_getD,List.getElem?_map]
      by_cases hk:k<L
      · rw [List.getElem?_range hk];rfl
      · rw [List.getElem?_eq_none (by rw [List.length_range];omega),qjV _ _ (by omega)];rfl
    have cl:((List.range L).map fun k=>ps ns ms ns.length k).length=L:=by rw [List.length_map,List.length_range]
    refine k w _ H1 s1 hw1 (by rw [cl];omega) ⟨by rw [cl];omega,?_⟩ ck
    rw [ck,cl,← hLL,qq5 la1 lb1]
    exact Int.mul_ne_zero la.2 lb.2
theorem Hand.same {H H':Hp} {p a:Addr} {n:Int} (h:Hand H p a n) (s:Same H H'):Hand H' p a n:=by
  obtain ⟨ns,x,y,z,h1,h2,r⟩:=h
  exact ⟨ns,x,y,z,s _ _ h1,s _ _ h2,r⟩
theorem Hand.mono {H:Hp} {p a:Addr} {n n':Int} (h:Hand H p a n) (e:n≤n'):Hand H p a n':=by
  obtain ⟨ns,x,y,z,h1,h2,h3,h4,h5,h6,h7⟩:=h
  exact ⟨ns,x,y,z,h1,h2,h3,h4,h5,by omega,h7⟩
theorem Hand.ne {H:Hp} {p a q:Addr} {n:Int} (h:Hand H p a n) (e:H q=none):q≠p:=by
  obtain ⟨ns,x,y,z,h1,_⟩:=h
  exact fun w=>by rw [w,h1] at e;cases e
theorem Hand.ne2 {H:Hp} {p a q:Addr} {n:Int} (h:Hand H p a n) (e:H q=none):q≠a:=by
  obtain ⟨ns,x,y,z,_,h1,_⟩:=h
  exact fun w=>by rw [w,h1] at e;cases e
theorem Hand.upd {H:Hp} {p a q:Addr} {n:Int} {o:HO} (h:Hand H p a n) (e:q≠p) (e2:q≠a):Hand (upd H q o) p a n:=by
  obtain ⟨ns,x,y,z,h1,h2,r⟩:=h
  exact ⟨ns,x,y,z,by rw [qaw e.symm];exact h1,by rw [qaw e2.symm];exact h2,r⟩
theorem qrV {d:Int} (h0:0≤d) (h2:d<2):∃ s:Int,atI [V.int 1,V.int (-1)] d=some (V.int s)∧s≠0∧-1≤s∧s≤1:=by
  rcases (show d=0∨d=1 by omega) with e | e <;> subst e
  · exact ⟨1,rfl,by decide,by decide,by decide⟩
  · exact ⟨-1,rfl,by decide,by decide,by decide⟩
theorem bdN {n:Nat} {x:Int} (h:x.natAbs<2 ^ n):Bd n x:=h
theorem qnb {n m:Int} (hm:m≠0) (hn:n≠0):(qbV n m).1≠0:=fun z=>by
  have v:=qdq (n:=n) hm
  unfold val at v
  rw [z,show ((0:Int):Rat)=0 from rfl,zdiv] at v
  have a:=qaC hm
  have b:=qaC hn
  grind
theorem qpE {s d:Int} (s0:s≠0) (h1:-1≤s) (h2:s≤1):(s*d).natAbs=d.natAbs:=by
  rw [Int.natAbs_mul]
  have:s.natAbs=1:=by omega
  rw [this,Nat.one_mul]
theorem qls (h:qb0 K vs H Q E):qgL K { nx:=fun _ H'=>Q .non H',rt:=Q } (L2.start ["_law_hand_here"] vs) H:=by
  obtain ⟨p,ad,n,rfl,hH,n9,k⟩:=h
  unfold qgL
  rwa []
  refine ⟨sz (by decide),fun q hq=>⟨ad,n,hH.same (qag hq _),by omega,by decide,by decide,fun d H1 d0 d2 h1 k1=>?_⟩⟩
  obtain ⟨s,hs,s0,s1,s2⟩:=qrV d0 d2
  have k01:Kp p H H1:=(Kp.of_same (qag hq _)).trans k1
  refine ⟨_,k1 _ _ (hH.ne hq) upd_same,_,hs,ad,n+2,h1,by omega,by decide,by decide,fun e H2 e0 e9 h2 k2=>⟨s,rfl,qrr (by omega) (by omega),ad,n+2+2,h2,by omega,by decide,by decide,fun f H3 f0 f9 h3 k3=>⟨by omega,fun r hr=>?_⟩⟩⟩
  have sr:=qag hr (HO.tup [V.int (qbV (s*(1+e)) (1+f)).1,V.int (qbV (s*(1+e)) (1+f)).2])
  have f1:1+f≠0:=by omega
  have sm:=qpE (d:=1+e) s0 s1 s2
  obtain ⟨b1,b2⟩:=qmu (c:=4) (d:=4) (n:=s*(1+e)) f1 (bdN (by rw [sm];show _<16;omega)) (bdN (by show _<16;omega))
  exact k r _ _ _ upd_same (qcQ f1) (qnb f1 (Int.mul_ne_zero s0 (by omega))) b1 b2 ((h3.same sr).mono (by omega)) (((k01.trans k2).trans k3).same sr)
theorem qjv (p:Nat→Int):∀ (w:List Int) (k:Nat),((cvL w p k:Int):Rat)=cvL (w.map fun z:Int=>(z:Rat)) (fun k=>(p k:Rat)) k
  | [],_=>rfl
  | x::w,0=>by rw [qam];show _=(x:Rat)*(p 0:Rat)+0;push_cast;rfl
  | x::w,k+1=>by rw [qaj];show _=(x:Rat)*(p (k+1):Rat)+cvL (w.map fun z:Int=>(z:Rat)) (fun k=>(p k:Rat)) k;rw [← qjv p w k];push_cast;rfl
theorem qp1 (ns:List Int):si ns=Sr.L (ns.map fun z:Int=>(z:Rat)):=Sr.ext' fun k=>by
  show ((co ns k:Int):Rat)=cvL _ qbG k
  rw [qbW]
  unfold co
  rw [List.getD_eq_getElem?_getD,List.getD_eq_getElem?_getD,List.getElem?_map]
  cases ns[k]? <;> rfl
theorem qbp (ns:List Int):Sr.Pol (si ns):=⟨_,qp1 ns⟩
theorem qfh {ns qs ms:List Int} (h:∀ k,co ns k=cvL qs (co ms) k):si ns=si qs*si ms:=by
  rw [qp1 qs,Sr.L_mul]
  refine Sr.ext' fun k=>?_
  show ((co ns k:Int):Rat)=cvL _ (fun k=>((co ms k:Int):Rat)) k
  rw [h k,qjv]
theorem qfE {ns:List Int} (h:Lz ns):si ns≠0:=fun z=>h.2 (by
  have:=congrFun (congrArg Sr.c z) (ns.length - 1)
  rw [Sr.zero_c] at this
  have this:((co ns (ns.length - 1):Int):Rat)=0:=this
  exact_mod_cast this)
theorem qke (ns:List Int):Sr.Bn (si ns) ns.length:=fun k hk=>by
  show ((co ns k:Int):Rat)=0
  rw [qat hk];rfl
theorem qq6 (ns:List Int) (k:Nat):co (dI ns) k=((k+1:Nat):Int)*co ns (k+1):=by
  by_cases h:k<ns.length - 1
  · unfold dI
    show ((List.range (ns.length - 1)).map _).getD k 0=_
    rw [List.getD_eq_getElem?_getD,List.getElem?_map,List.getElem?_range h]
    rfl
  · rw [qat (by unfold dI;rw [List.length_map,List.length_range];omega),qat (k:=k+1) (by omega),Int.mul_zero]
theorem qgU (ns:List Int):(dI ns).length=ns.length - 1:=by unfold dI;rw [List.length_map,List.length_range]
theorem qss (ns:List Int):si (dI ns)=Sr.D (si ns):=Sr.ext' fun k=>by
  show ((co (dI ns) k:Int):Rat)=((k:Rat)+1)*((co ns (k+1):Int):Rat)
  rw [qq6];push_cast;rfl
theorem qeQ {g:Int} (ms:List Int):si (ms.map (g*·))=Sr.num (g:Rat)*si ms:=Sr.ext' fun k=>by
  rw [Sr.num_mul]
  show ((co (ms.map (g*·)) k:Int):Rat)=(g:Rat)*((co ms k:Int):Rat)
  have e:co (ms.map (g*·)) k=g*co ms k:=by
    unfold co
    rw [List.getD_eq_getElem?_getD,List.getD_eq_getElem?_getD,List.getElem?_map]
    cases ms[k]? with
    | none=>simp
    | some z=>rfl
  rw [e];push_cast;rfl
namespace Sr
theorem num_num (x y:Rat):num x*num y=num (x*y):=ext' fun k=>by
  rw [num_mul]
  show x*(y*qbG k)=x*y*qbG k
  grind
theorem num_one:num 1=1:=congrArg num (show (1:Rat)=((1:Nat):Rat) by push_cast;rfl)
theorem num_inv {x:Rat} (h:x≠0):num x⁻¹*num x=1:=by
  rw [num_num,Rat.inv_mul_cancel _ h]
  exact num_one
theorem mul_pow {f g:Sr}:∀ n:Nat,(f*g) ^ n=f ^ n*g ^ n
  | 0=>by rw [pow_z,pow_z,pow_z];grind
  | n+1=>by rw [pow_s,pow_s,pow_s,mul_pow n];grind
theorem num_pow (x:Rat):∀ n:Nat,num x ^ n=num (x ^ n)
  | 0=>by rw [pow_z,Rat.pow_zero];exact num_one.symm
  | n+1=>by rw [pow_s,num_pow x n,num_num,Rat.pow_succ]
end Sr
theorem qjw {x:Rat} (h:x≠0):x⁻¹≠0:=fun z=>by
  have:=Rat.inv_mul_cancel _ h
  rw [z] at this
  grind
theorem RadOf.smul {F L:Sr} {x:Rat} (h:RadOf F L):RadOf (Sr.num x*F) L:=by
  obtain ⟨S,M,pS,pL,pM,e1,e2,c⟩:=h
  refine ⟨Sr.num x*S,M,(Sr.Pol.num x).mul pS,pL,pM,by rw [e1];grind,by rw [Sr.D_num,e2];grind,c⟩
theorem qrW {g f:List Int} (m:MQ (co g) (co f)):∃ B,Sr.Pol B∧si f=B*si g:=by
  obtain ⟨c,c0,A,h⟩:=m
  have c1:=qaC c0
  refine ⟨Sr.num ((c:Rat)⁻¹)*si A,(Sr.Pol.num _).mul (qbp A),?_⟩
  have e:Sr.num (c:Rat)*si f=si A*si g:=by
    rw [← qeQ]
    refine qfh fun k=>?_
    rw [← h k]
    unfold co
    rw [List.getD_eq_getElem?_getD,List.getD_eq_getElem?_getD,List.getElem?_map]
    cases f[k]? with
    | none=>simp
    | some z=>rfl
  have i:=Sr.num_inv c1
  have:si f=Sr.num ((c:Rat)⁻¹)*Sr.num (c:Rat)*si f:=by rw [i];grind
  rw [this,show Sr.num ((c:Rat)⁻¹)*Sr.num (c:Rat)*si f=Sr.num ((c:Rat)⁻¹)*(Sr.num (c:Rat)*si f) by grind,e]
  grind
theorem qq7 {r o g:List Int} (R:RC (co r) (co o) g) {A B:Sr} (pA:Sr.Pol A) (pB:Sr.Pol B) (h1:si r=A*si g) (h2:si o=B*si g):Sr.Cs A B:=by
  obtain ⟨d,d0,U,W,h⟩:=R.qi
  have e:Sr.num (d:Rat)*si g=si U*si r+si W*si o:=by
    rw [qp1 U,qp1 W,Sr.L_mul,Sr.L_mul]
    refine Sr.ext' fun k=>?_
    rw [Sr.num_mul]
    show (d:Rat)*((co g k:Int):Rat)=cvL _ (fun k=>((co r k:Int):Rat)) k+cvL _ (fun k=>((co o k:Int):Rat)) k
    rw [← qjv,← qjv]
    exact_mod_cast h k
  have e2:Sr.num (d:Rat)=si U*A+si W*B:=Sr.cancel (Sr.Pol.num _) (((qbp U).mul pA).add ((qbp W).mul pB)) (qbp g) (qfE R.lz) (by rw [e,h1,h2];grind)
  exact Sr.Cs.of_unit (qaC d0) rfl (qbp U) (qbp W) e2.symm
theorem qoi {ms rs qs:List Int} (R:RC (co ms) (co (dI ms)) rs) (h:∀ k,co ms k=cvL qs (co rs) k):RadOf (si ms) (si qs):=by
  obtain ⟨B,pB,eB⟩:=qrW R.right
  have e:=qfh h
  refine ⟨si rs,B,qbp rs,qbp qs,pB,by rw [e];grind,by rw [← qss,eB];grind,qq7 R (qbp qs) pB e eB⟩
theorem qiF {ns qs ms:List Int} (ln:Lz ns) (lm:Lz ms) (hl:qs.length=ns.length+1 - ms.length) (h:∀ k,co ns k=cvL qs (co ms) k):Lz qs∧qs.length+ms.length=ns.length+1:=by
  have e:=qfh h
  have n0:=ln.1
  have m0:=lm.1
  have q0:0<qs.length:=by
    rcases Nat.eq_zero_or_pos qs.length with z | z
    · rw [List.length_eq_zero_iff.mp z] at e
      exact absurd (by rw [e,qp1 []];show Sr.L []*_=0;rw [Sr.L_nil];grind) (qfE ln)
    · exact z
  refine ⟨⟨q0,fun z=>?_⟩,by omega⟩
  have b1:Sr.Bn (si qs) (qs.length - 1+1):=by rw [Nat.sub_add_cancel q0];exact qke qs
  have b2:Sr.Bn (si ms) (ms.length - 1+1):=by rw [Nat.sub_add_cancel m0];exact qke ms
  have t:=(Sr.top_mul b1 b2).1
  rw [← e,show qs.length - 1+(ms.length - 1)=ns.length - 1 by omega] at t
  have t:((co ns (ns.length - 1):Int):Rat)=((co qs (qs.length - 1):Int):Rat)*((co ms (ms.length - 1):Int):Rat):=t
  rw [z] at t
  have t2:((co ns (ns.length - 1):Int):Rat)=0:=by rw [t];push_cast;grind
  exact ln.2 (by exact_mod_cast t2)
noncomputable def DvI (ms g:List Int):Prop:=∃ A:List Int,∀ k,co ms k=cvL A (co g) k
theorem DvI.fac {ms g q a:List Int} (h:DvI ms g) (e:∀ k,co g k=cvL q (co a) k):DvI ms a∧DvI ms q:=by
  obtain ⟨A,hA⟩:=h
  refine ⟨⟨qaS A q,fun k=>?_⟩,⟨qaS A a,fun k=>?_⟩⟩
  · rw [hA k,qap,qai e]
  · have e2:∀ k,co g k=cvL a (co q) k:=fun k=>by
      have h1:∀ (b:List Int) (k:Nat),co b k=cvL b qbG k:=fun b k=>by rw [qbW];rfl
      rw [e k,qai (h1 a),qai (h1 q),qdr]
    rw [hA k,qap,qai e2]
theorem DvI.self (ms:List Int):DvI ms ms:=⟨[1],fun k=>by
  cases k with
  | zero=>rw [qam];grind
  | succ k=>rw [qaj,qaB];grind⟩
theorem DvI.len {ms g:List Int} (h:DvI ms g) (l1:Lz ms) (l2:Lz g):g.length≤ms.length:=qjp l2 l1 (by
  obtain ⟨A,hA⟩:=h
  exact ⟨1,by decide,A,fun k=>by rw [Int.one_mul];exact hA k⟩)
theorem DvI.bd {ms g:List Int} (h:DvI ms g) (l1:Lz ms) (bm:∀ z∈ms,Bd 40 z) (m9:ms.length≤9) (l2:Lz g):∀ z∈g,Bd 148 z:=by
  have gl:=h.len l1 l2
  obtain ⟨A,hA⟩:=h
  exact qkU (qfB (n:=9) (c:=4) bm ⟨_,l1.2⟩ m9 (by omega) (by decide) hA)
theorem qhT {ns:List Int} (h:Lz ns):sr (mnc ns)=Sr.num ((co ns (ns.length - 1):Rat))⁻¹*si ns:=Sr.ext' fun k=>by
  rw [Sr.num_mul];exact qqZ h k
theorem qoS {l:List Nu} (h:qaZ l):sr l=Sr.num ((qfP l:Rat))⁻¹*si (qeG l):=Sr.ext' fun k=>by
  rw [Sr.num_mul];exact qpD h k
theorem qkf {a:List Int} (h:Lz a):Tz a:=.inr h.2
theorem qq8 {ns:List Int} (h:Lz ns):Tz (dI ns):=by
  by_cases c:2≤ns.length
  · refine qkf ⟨by rw [qgU];omega,?_⟩
    rw [qgU,qq6,show ns.length - 1 - 1+1=ns.length - 1 by omega]
    exact Int.mul_ne_zero (by omega) h.2
  · have e:dI ns=[]:=List.length_eq_zero_iff.mp (by rw [qgU];omega)
    exact .inl e
theorem qq9 {ns:List Int} (h:∀ z∈ns,Bd 40 z) (n9:ns.length≤9):∀ z∈dI ns,Bd 148 z:=fun z hz=>by
  unfold dI at hz
  obtain ⟨k,hk,rfl⟩:=List.mem_map.mp hz
  have hk':=List.mem_range.mp hk
  have b4:Bd 4 ((k+1:Nat):Int):=by
    show ((k+1:Nat):Int).natAbs<2 ^ 4
    omega
  exact (b4.mul (qa9 h (k+1))).mono (by decide)
theorem qjx (h:qbb K vs H Q E):qeL K { nx:=fun _ H'=>Q .non H',rt:=Q } (L2.start ["row"] vs) H:=by
  obtain ⟨p,ns,b,rfl,hp,l1,bn,b9,k⟩:=h
  unfold qeL
  rwa [hp]
  rw [List.length_map]
  refine ⟨by decide,by decide,by omega,by omega,CompJ.range (fun i zs H'=>i≤ns.length - 1∧Same H H'∧zs=qbS i fun k=>((k+1:Nat):Int)*co ns (k+1)) ⟨Nat.zero_le _,Same.refl H,rfl⟩ ?_ ?_ ?_⟩
  · rintro i zs H' ⟨h1,s1,rfl⟩
    exact ⟨by omega,sz (by rw [qbu];omega)⟩
  · rintro i zs H' hi ⟨h1,s1,rfl⟩
    have hp1:=s1 _ _ hp
    have g1:atI (ns.map V.int) (1+(i:Int))=some (V.int (co ns (i+1))):=by
      refine qdB (j:=i+1) (by omega) ?_
      rw [qm8]
      exact qbn _ (by omega)
    rwa [hp1,g1]
    refine ⟨qp0 (by omega) (by omega),by omega,s1,?_⟩
    rw [qm7 i,show (1+(i:Int))=((i+1:Nat):Int) by omega]
    rfl
  · rintro zs H' ⟨_,s1,rfl⟩ a ha
    refine k a _ (s1.trans (qag ha _)) ?_
    rw [upd_same,show ((ns.length:Int) - 1).toNat=ns.length - 1 by omega]
    rfl
theorem qiG (h:qa2 K vs H Q E):qei K { nx:=fun _ H'=>Q .non H',rt:=Q } (L2.start ["row"] vs) H:=by
  obtain ⟨p,ns,rfl,hp,lz,l9,k⟩:=h
  unfold qei
  have al:=qcL lz.1
  rwa [hp,al]
  refine ⟨ns,rfl,lz.2,l9,fun r zs H1 s1 hr hz=>k r zs H1 s1 hr ?_⟩
  have e:trim (mnc ns)=mnc ns:=qpf (qm2 lz)
  rw [← e]
  exact hz
theorem qgV {ns ms:List Int} {g:Int} (g0:0<g) (e:ns=ms.map (g*·)) (ln:Lz ns) (bn:∀ z∈ns,Bd 40 z):Lz ms∧(∀ z∈ms,Bd 40 z)∧ms.length=ns.length:=by
  have l:ms.length=ns.length:=by rw [e,List.length_map]
  refine ⟨⟨by have:=ln.1;omega,fun z=>ln.2 ?_⟩,fun z hz=>?_,l⟩
  · have:=congrFun (congrArg Sr.c (qeQ (g:=g) ms)) (ns.length - 1)
    rw [← e,Sr.num_mul] at this
    have this:((co ns (ns.length - 1):Int):Rat)=(g:Rat)*((co ms (ns.length - 1):Int):Rat):=this
    rw [← l,z] at this
    have t2:((co ns (ms.length - 1):Int):Rat)=0:=by rw [this];push_cast;grind
    rw [← l]
    exact_mod_cast t2
  · have b:=bn (g*z) (by rw [e];exact List.mem_map.mpr ⟨z,hz,rfl⟩)
    refine Bd.le b ?_
    rw [Int.natAbs_mul]
    exact Nat.le_mul_of_pos_left _ (by omega)
theorem em9 {ns ms:List Int} (h1:ns.length≤9) (h2:ms.length≤9) (h:ns=[]∨ms=[]):2*3 ^ (ns.length+ms.length)*(148+1)≤60000000:=by
  have:ns.length+ms.length≤9:=by rcases h with rfl | rfl <;> simp <;> omega
  have p:=Nat.pow_le_pow_right (show 0<3 by decide) this
  have:3 ^ 9=19683:=by decide
  omega
theorem qnc {ms rs qs:List Int} (lm:Lz ms) (bm:∀ z∈ms,Bd 40 z) (m9:ms.length≤9) (R:RC (co ms) (co (dI ms)) rs) (hl:qs.length=ms.length+1 - rs.length) (h:∀ k,co ms k=cvL qs (co rs) k):Lz qs∧qs.length+rs.length=ms.length+1∧qs.length≤9∧(∀ z∈qs,Bd 148 z)∧(∀ z∈rs,Bd 148 z)∧DvI ms qs∧DvI ms rs∧RadOf (si ms) (si qs):=by
  obtain ⟨lq,le⟩:=qiF lm R.lz hl h
  have d:=(DvI.self ms).fac h
  have r0:=R.lz.1
  exact ⟨lq,le,by omega,d.2.bd lm bm m9 lq,d.1.bd lm bm m9 R.lz,d.2,d.1,qoi R h⟩
theorem qpF (qs:List Int):si (qs.map fun z=>-z)=Sr.num (-1)*si qs:=by
  have e:(qs.map fun z=>-z)=qs.map ((-1:Int)*·):=List.map_congr_left fun z _=>by omega
  rw [e,qeQ]
  congr 1
theorem qiH (h:qbl K vs H Q E):qeh K { nx:=fun _ H'=>Q .non H',rt:=Q } (L2.start ["row", "short", "simple"] vs) H:=by
  obtain ⟨p,ns,rfl,hp,ln,bn,n9,k⟩:=h
  unfold qeh
  rwa [hp]
  refine ⟨ns,rfl,by omega,qkf ln,fun t ms g H1 s1 ht g0 eg pr=>?_⟩
  obtain ⟨lm,bm,ml⟩:=qgV g0 eg ln bn
  have m9:ms.length≤9:=by omega
  have ne:ns≠[]:=List.length_pos_iff.mp ln.1
  have mne:ms≠[]:=List.length_pos_iff.mp lm.1
  have pm:Prim ms:=pr.resolve_left ne
  unfold qev
  rwa [ht]
  refine ⟨ms,rfl,by omega,40,bm,by decide,fun a H2 s2 ha=>?_⟩
  have ht2:=s2 _ _ ht
  rwa [ht2,ha]
  refine ⟨ms,rfl,dI ms,rfl,qkf lm,qq8 lm,148,fun z hz=>(bm z hz).mono (by decide),qq9 bm m9,9,m9,by rw [qgU];omega,by decide,by decide,4,by decide,by decide,em9 m9 (by rw [qgU];omega),fun b rs H3 s3 hb rc _=>?_⟩
  obtain ⟨R,Pr⟩:=rc (.inl mne)
  have ht3:=s3 _ _ ht2
  have dv:∃ A:List Int,∀ k,co ms k=cvL A (co rs) k:=gauss Pr R.left
  have lrs:rs.length≤9:=by have:=qjp R.lz lm R.left;omega
  have brs:∀ z∈rs,Bd 148 z:=DvI.bd dv lm bm m9 R.lz
  rwa [ht3,hb]
  refine ⟨ms,rfl,rs,rfl,R.lz,40,bm,148,brs,by omega,by decide,by omega,by omega,fun no=>absurd dv no,fun r qs H4 s4 hr hl hq=>?_⟩
  obtain ⟨lq,le,q9,bq,_,_,_,rad⟩:=qnc lm bm m9 R hl hq
  have S4:=((s1.trans s2).trans s3).trans s4
  have al:=qcL lq.1
  have out:RadOf (si ns) (si qs):=by rw [eg,qeQ];exact rad.smul
  unfold qeu
  rwa [hr,al]
  refine qcM (fun c=>?_) (fun c=>?_)
  · exact k r qs H4 S4 hr lq q9 bq ⟨1,si qs,by decide,out,by rw [Sr.num_one];grind⟩
  · refine ⟨⟨_,SqL.of hr⟩,CompJ.lst (xs:=qs.map V.int) (fun i ys H'=>i≤qs.length∧Same H4 H'∧ys=((qs.map fun z=>-z).take i).map V.int) ⟨Nat.zero_le _,Same.refl H4,rfl⟩ ?_ ?_ ?_⟩
    · rintro i ys H' ⟨h1,s5,rfl⟩
      exact ⟨by rw [List.length_map];exact h1,sz (by rw [List.length_map,List.length_take];omega),SqL.of (s5 _ _ hr)⟩
    · rintro i x ys H' hi ⟨h1,s5,rfl⟩
      rw [List.getElem?_map] at hi
      cases e:qs[i]? with
      | none=>rw [e] at hi;cases hi
      | some z=>
        rw [e] at hi
        obtain rfl:=Option.some.inj hi
        have hi2:i<qs.length:=(List.getElem?_eq_some_iff.mp e).1
        rwa []
        refine ⟨by omega,s5,?_⟩
        rw [List.take_add_one,List.getElem?_map,e,List.map_append]
        rfl
    · rintro ys H' ⟨_,s5,rfl⟩ a5 ha5
      have e:(qs.map fun z=>-z).take (qs.map V.int).length=qs.map fun z=>-z:=by
        rw [List.length_map]
        exact List.take_of_length_le (by rw [List.length_map];exact Nat.le_refl _)
      rw [e]
      have cn:∀ k,co (qs.map fun z=>-z) k = - co qs k:=fun k=>by
        unfold co
        rw [List.getD_eq_getElem?_getD,List.getD_eq_getElem?_getD,List.getElem?_map]
        cases qs[k]? <;> simp
      refine k a5 (qs.map fun z=>-z) _ ((S4.trans s5).trans (qag ha5 _)) upd_same ⟨by rw [List.length_map];exact lq.1,?_⟩ (by rw [List.length_map];exact q9) ?_ ⟨-1,si qs,by decide,out,qpF qs⟩
      · rw [List.length_map,cn]
        have:=lq.2
        omega
      · intro z hz
        obtain ⟨y,hy,rfl⟩:=List.mem_map.mp hz
        exact (bq y hy).neg
theorem gq_mnc' {ns:List Int} (lz:Lz ns) (bn:∀ z∈ns,Bd 148 z) (n9:ns.length≤9):Mo (mnc ns):=by
  have last:=lz.2
  refine ⟨qq2 (qgS lz) (qm2 lz) (M:=((co ns (ns.length - 1)).natAbs:Int)) (by omega) ?_ (N:=fun k=>if 0<co ns (ns.length - 1) then co ns k else - co ns k) (fun k=>?_) (fun k=>?_),?_,?_,by rw [qdb];exact n9⟩
  · have:=qa9 bn (ns.length - 1)
    show ((co ns (ns.length - 1)).natAbs:Int).natAbs<2 ^ 148
    rw [Int.natAbs_natCast];exact this
  · rw [qfD lz]
    by_cases c:0<co ns (ns.length - 1)
    · rw [if_pos c,Int.natAbs_of_nonneg (by omega)]
    · rw [if_neg c,show ((co ns (ns.length - 1)).natAbs:Int) = - co ns (ns.length - 1) by omega]
      have c1:=qaC last
      push_cast
      grind
  · split
    · exact qa9 bn k
    · exact (qa9 bn k).neg
  · intro z
    have z2:(mnc ns).length=0:=by rw [z];rfl
    rw [qdb] at z2
    have:=lz.1
    omega
  · refine qfu (qbt (qgS lz) _) ⟨by decide,by decide⟩ ?_
    show pwo (mnc ns) _=_
    rw [qdb,qfD lz]
    have c1:=qaC last
    unfold val
    show _=((1:Int):Rat) / ((1:Int):Rat)
    push_cast
    grind
theorem qlt (h:qb1 K vs H Q E):qgK K { nx:=fun _ H'=>Q .non H',rt:=Q } (L2.start ["P"] vs) H:=by
  obtain ⟨p,xs,l,rfl,hp,hN,G,ne,l9,k⟩:=h
  obtain ⟨cb,cB,ct⟩:=G.clr
  obtain ⟨M,O,bM,_⟩:=G.ov
  unfold qgK
  rwa [hp]
  refine ⟨l,hN,G.low,M,O,bM.mono (by decide),fun q hq=>(ct q hq).mono (by decide),by omega,fun r a H1 s1 hr ha=>?_⟩
  have lz:Lz (qeG l):=qj9 (qm1 G.low G.nz) (fun z=>ne (List.length_eq_zero_iff.mp (by rw [← qdz,z];rfl)))
  rwa [hr,ha]
  refine ⟨qeG l,rfl,lz,cb,by rw [qdz];exact l9,fun r2 rs H2 s2 hr2 lr r9 br rad=>?_⟩
  rwa [hr2]
  refine ⟨rs,rfl,lr,by omega,fun r3 zs H3 s3 hr3 hz=>?_⟩
  obtain ⟨c,c0,L,rad,e⟩:=rad
  refine k r3 (mnc rs) H3 ((s1.trans s2).trans s3) ⟨zs,hr3,hz⟩ (gq_mnc' lr br r9) ⟨((co rs (rs.length - 1):Rat))⁻¹*c,L,?_,?_,?_⟩
  · intro z
    rcases Rat.mul_eq_zero.mp z with z | z
    · exact qm5 lr z
    · exact c0 z
  · rw [qoS G.low];exact rad.smul
  · rw [qhT lr,e,← Sr.num_num];grind
theorem qhU (p:List Nu):∀ (ps:List (List Nu)) (i:Nat),qhg i (ps++[p])=qhg i ps*sr p ^ (i+ps.length)
  | [],i=>by show sr p ^ i*1=1*sr p ^ (i+0);rw [Nat.add_zero];grind
  | q::ps,i=>by
    show sr q ^ i*qhg (i+1) (ps++[p])=sr q ^ i*qhg (i+1) ps*sr p ^ (i+(ps.length+1))
    rw [qhU p ps (i+1),show i+1+ps.length=i+(ps.length+1) by omega]
    grind
theorem qhV (p:List Nu):∀ ps:List (List Nu),qbB (ps++[p])=qbB ps*sr p
  | []=>by show sr p*1=1*sr p;grind
  | q::ps=>by
    show sr q*qbB (ps++[p])=sr q*qbB ps*sr p
    rw [qhV p ps];grind
theorem qdh:∀ ps:List (List Nu),Sr.Pol (qbB ps)
  | []=>Sr.Pol.nat 1
  | p::ps=>(qjt p).mul (qdh ps)
structure LInv (ms:List Int) (L0:Sr) (ps:List (List Nu)) (lf sp:List Int):Prop where
  ll:Lz lf
  ls:Lz sp
  dl:DvI ms lf
  ds:DvI ms sp
  full:∃ c:Rat,c≠0∧si ms=Sr.num c*qhg 1 ps*si lf ^ (ps.length+1)*si sp
  simp:∃ c:Rat,c≠0∧L0=Sr.num c*qbB ps*si lf
  rad:∃ (m:Nat) (a:Sr),Sr.Pol a∧si lf ^ m=a*si sp
  each:∀ p∈ps,Mo p
  last:lf.length=1→∀ p,ps.getLast?=some p→2≤p.length
  many:ps.length+lf.length+sp.length≤12
theorem num_ne' {x y:Rat} (h1:x≠0) (h2:y≠0):x*y≠0:=fun z=>by
  rcases Rat.mul_eq_zero.mp z with z | z
  · exact h1 z
  · exact h2 z
theorem qgW {x:Rat} (h:x≠0):∀ n:Nat,x ^ n≠0
  | 0=>by rw [Rat.pow_zero];decide
  | n+1=>by rw [Rat.pow_succ];exact num_ne' (qgW h n) h
theorem LInv.step {ms:List Int} {L0:Sr} {ps:List (List Nu)} {lf sp kp pt s2:List Int} (I:LInv ms L0 ps lf sp) (lm:Lz ms) (bm:∀ z∈ms,Bd 40 z) (m9:ms.length≤9) (l2:2≤lf.length) (R:RC (co lf) (co sp) kp)
    (hp:∀ k,co lf k=cvL pt (co kp) k) (pl:pt.length=lf.length+1 - kp.length) (hs:∀ k,co sp k=cvL s2 (co kp) k) (sl:s2.length=sp.length+1 - kp.length):Lz pt∧pt.length≤9∧(∀ z∈pt,Bd 148 z)∧kp.length+s2.length<lf.length+sp.length∧LInv ms L0 (ps++[mnc pt]) kp s2:=by
  obtain ⟨lp,pe⟩:=qiF I.ll R.lz pl hp
  obtain ⟨l3,se⟩:=qiF I.ls R.lz sl hs
  have dp:=I.dl.fac hp
  have dq:=I.ds.fac hs
  have p9:pt.length≤9:=by have:=dp.2.len lm lp;omega
  have bp:=dp.2.bd lm bm m9 lp
  have k0:=R.lz.1
  have e1:=qfh hp
  have e2:=qfh hs
  have x0:=qm5 lp
  have ep:=qhT lp
  generalize ((co pt (pt.length - 1):Rat))⁻¹=x at x0 ep
  have ip:=Sr.num_inv x0
  refine ⟨lp,p9,bp,by omega,⟨R.lz,l3,dp.1,dq.2,?_,?_,?_,fun p hp'=>?_,fun k1 p hp'=>?_,by rw [List.length_append];simp;have:=I.many;omega⟩⟩
  · obtain ⟨c,c0,e⟩:=I.full
    refine ⟨c*(x ^ (1+ps.length))⁻¹,num_ne' c0 (qjw (qgW x0 _)),?_⟩
    rw [qhU,ep,Sr.mul_pow,Sr.num_pow,List.length_append,List.length_singleton,e,e1,e2,Sr.mul_pow,Nat.add_comm 1 ps.length,Sr.pow_s (si kp) (ps.length+1),← Sr.num_num]
    have iq:=Sr.num_inv (qgW x0 (ps.length+1))
    generalize Sr.num (x ^ (ps.length+1))=Y at *
    generalize Sr.num (x ^ (ps.length+1))⁻¹=Z at *
    grind
  · obtain ⟨c,c0,e⟩:=I.simp
    refine ⟨c*x⁻¹,num_ne' c0 (qjw x0),?_⟩
    rw [qhV,ep,e,e1,← Sr.num_num]
    grind
  · obtain ⟨m,a,pa,e⟩:=I.rad
    have cs:Sr.Cs (si pt) (si s2):=qq7 R (qbp pt) (qbp s2) e1 e2
    obtain ⟨U,W,pU,pW,h⟩:=((Sr.Cs.pow (qbp s2) (qbp pt) cs.comm m)).comm
    refine ⟨m,U*a*si kp+W*si kp ^ m,((pU.mul pa).mul (qbp kp)).add (pW.mul ((qbp kp).pow m)),?_⟩
    rw [e1,Sr.mul_pow,e2] at e
    have:si kp ^ m=si kp ^ m*(U*si pt ^ m+W*si s2):=by rw [h];grind
    grind
  · rcases List.mem_append.mp hp' with z | z
    · exact I.each p z
    · rw [List.mem_singleton.mp z];exact gq_mnc' lp bp p9
  · rw [List.getLast?_append] at hp'
    obtain rfl:mnc pt=p:=Option.some.inj hp'
    rw [qdb]
    omega
theorem qkY {a:Sr} {sp:List Int} {y:Rat} (pa:Sr.Pol a) (ls:Lz sp) (y0:y≠0) (e:Sr.num y=a*si sp):sp.length=1:=by
  have s0:=ls.1
  have a0:a≠0:=fun z=>by
    have:=congrFun (congrArg Sr.c e) 0
    rw [z,show (0:Sr)*si sp=0 by grind,Sr.zero_c] at this
    have this:y*qbG 0=0:=this
    have e1:(qbG 0:Rat)=1:=rfl
    rw [e1] at this
    exact y0 (by grind)
  obtain ⟨n,hn⟩:=pa.bn
  rcases Sr.top_ex n hn with z | ⟨j,_,j0,jb⟩
  · exact absurd z a0
  have b2:Sr.Bn (si sp) (sp.length - 1+1):=by rw [Nat.sub_add_cancel s0];exact qke sp
  have t:=(Sr.top_mul jb b2).1
  rw [← e] at t
  rcases Nat.eq_zero_or_pos (j+(sp.length - 1)) with z | z
  · omega
  · exfalso
    obtain ⟨i,hi⟩:∃ i,j+(sp.length - 1)=i+1:=⟨j+(sp.length - 1) - 1,by omega⟩
    rw [hi] at t
    have t:y*qbG (i+1)=a.c j*((co sp (sp.length - 1):Int):Rat):=t
    have e1:(qbG (i+1):Rat)=0:=rfl
    rw [e1] at t
    exact num_ne' j0 (qaC ls.2) (by rw [← t];grind)
theorem qnd {sp:List Int} (h:sp.length=1) (l:Lz sp):∃ y:Rat,y≠0∧si sp=Sr.num y:=by
  refine ⟨((co sp 0:Int):Rat),qaC (by have:=l.2;rw [h] at this;exact this),Sr.ext' fun k=>?_⟩
  show ((co sp k:Int):Rat)=((co sp 0:Int):Rat)*qbG k
  cases k with
  | zero=>show _=_*(1:Rat);grind
  | succ k=>rw [qat (by omega)];show ((0:Int):Rat)=_*(0:Rat);push_cast;grind
theorem LInv.fin {ms:List Int} {L0:Sr} {ps:List (List Nu)} {lf sp:List Int} (I:LInv ms L0 ps lf sp) (l1:lf.length≤1):(∃ c:Rat,c≠0∧si ms=Sr.num c*qhg 1 ps)∧(∃ c:Rat,c≠0∧L0=Sr.num c*qbB ps)∧(∀ p,ps.getLast?=some p→2≤p.length):=by
  have l0:=I.ll.1
  have l1':lf.length=1:=by omega
  obtain ⟨y,y0,ey⟩:=qnd l1' I.ll
  obtain ⟨m,a,pa,e⟩:=I.rad
  rw [ey,Sr.num_pow] at e
  obtain ⟨z,z0,ez⟩:=qnd (qkY pa I.ls (qgW y0 m) e) I.ls
  refine ⟨?_,?_,I.last l1'⟩
  · obtain ⟨c,c0,e⟩:=I.full
    refine ⟨c*y ^ (ps.length+1)*z,num_ne' (num_ne' c0 (qgW y0 _)) z0,?_⟩
    rw [e,ey,ez,Sr.num_pow,← Sr.num_num,← Sr.num_num]
    grind
  · obtain ⟨c,c0,e⟩:=I.simp
    refine ⟨c*y,num_ne' c0 y0,?_⟩
    rw [e,ey,← Sr.num_num]
    grind
theorem PLs.tp {H H':Hp} (t:Tp H H'):∀ {us:List V} {ps:List (List Nu)},PLs H us ps→PLs H' us ps
  | [],[],_=>trivial
  | _::_,_::_,⟨⟨a,e,h⟩,r⟩=>⟨⟨a,e,h.tp t⟩,r.tp t⟩
theorem PLs.length {H:Hp}:∀ {us:List V} {ps:List (List Nu)},PLs H us ps→us.length=ps.length
  | [],[],_=>rfl
  | _::_,_::_,⟨_,r⟩=>congrArg (·+1) r.length
theorem PLs.snoc {H:Hp} {a:Addr} {p:List Nu} (h:Pl H a p):∀ {us:List V} {ps:List (List Nu)},PLs H us ps→PLs H (us++[.ref a]) (ps++[p])
  | [],[],_=>⟨⟨a,rfl,h⟩,trivial⟩
  | _::_,_::_,⟨x,r⟩=>⟨x,r.snoc h⟩
theorem PLs.get {H:Hp}:∀ {us:List V} {ps:List (List Nu)} {i:Nat},PLs H us ps→i<ps.length→∃ a,us[i]?=some (.ref a)∧Pl H a (ps.getD i [])
  | [],[],_,_,hi=>by simp at hi
  | _::_,p::_,0,⟨⟨a,e,h⟩,_⟩,_=>⟨a,by rw [e];rfl,h⟩
  | _::us,_::ps,i+1,⟨_,r⟩,hi=>r.get (i:=i) (by simp at hi;omega)
theorem PLs.ne {H:Hp} {us:List V} {ps:List (List Nu)} {w a:Addr} {ns:List Int} (h:PLs H us ps) (hw:H w=some (.lst us)) (ha:H a=some (.lst (ns.map V.int))) (l:Lz ns):a≠w:=fun z=>by
  subst z
  rw [hw] at ha
  injection ha with ha
  injection ha with ha
  subst ha
  cases ns with
  | nil=>exact absurd l.1 (by simp)
  | cons x ns=>
    cases ps with
    | nil=>exact h
    | cons p ps=>obtain ⟨⟨a,e,_⟩,_⟩:=h;cases e
theorem qgX (h:qa0 K vs H Q E):qda K { nx:=fun _ H'=>Q .non H',rt:=Q } (L2.start ["P", "row", "spare", "left", "parts", "kept"] vs) H:=by
  obtain ⟨p,xs,l,rfl,hp,hN,G,ne,l9,k⟩:=h
  obtain ⟨cb,cB,ct⟩:=G.clr
  obtain ⟨M,O,bM,_⟩:=G.ov
  unfold qda
  rwa [hp]
  refine ⟨l,hN,G.low,M,O,bM.mono (by decide),fun q hq=>(ct q hq).mono (by decide),by omega,fun r a H1 s1 hr ha=>?_⟩
  have ln:Lz (qeG l):=qj9 (qm1 G.low G.nz) (fun z=>ne (List.length_eq_zero_iff.mp (by rw [← qdz,z];rfl)))
  have cne:qeG l≠[]:=List.length_pos_iff.mp ln.1
  rwa [hr,ha]
  refine ⟨qeG l,rfl,by rw [qdz];omega,qkf ln,fun t ms g H2 s2 ht g0 eg pr=>?_⟩
  obtain ⟨lm,bm,ml⟩:=qgV g0 eg ln cb
  rw [qdz] at ml
  have m9:ms.length≤9:=by omega
  have mne:ms≠[]:=List.length_pos_iff.mp lm.1
  have pm:Prim ms:=pr.resolve_left cne
  have S2:=s1.trans s2
  unfold qdK
  rwa [ht]
  refine ⟨ms,rfl,by omega,40,bm,by decide,fun b H3 s3 hb=>?_⟩
  have ht3:=s3 _ _ ht
  rwa [ht3,hb]
  refine ⟨ms,rfl,dI ms,rfl,qkf lm,qq8 lm,148,fun z hz=>(bm z hz).mono (by decide),qq9 bm m9,9,m9,by rw [qgU];omega,by decide,by decide,4,by decide,by decide,em9 m9 (by rw [qgU];omega),fun c rs H4 s4 hc rc _=>?_⟩
  obtain ⟨R,Pr⟩:=rc (.inl mne)
  have ht4:=s4 _ _ ht3
  have dv:∃ A:List Int,∀ k,co ms k=cvL A (co rs) k:=gauss Pr R.left
  have lrs:rs.length≤9:=by have:=qjp R.lz lm R.left;omega
  have brs:∀ z∈rs,Bd 148 z:=DvI.bd dv lm bm m9 R.lz
  unfold qdJ
  rwa [ht4,hc]
  refine ⟨ms,rfl,rs,rfl,R.lz,40,bm,148,brs,by omega,by decide,by omega,by omega,fun no=>absurd dv no,fun d qs H5 s5 hd hl hq=>?_⟩
  obtain ⟨lq,le,q9,bq,_,dq,dr,rad⟩:=qnc lm bm m9 R hl hq
  have hc5:=s5 _ _ hc
  have S5:=((S2.trans s3).trans s4).trans s5
  unfold qdI
  rwa []
  refine ⟨sz (by decide),fun w hw=>?_⟩
  have sw:=qag hw (HO.lst [])
  have w0:H w=none:=by
    cases e:H w with
    | none=>rfl
    | some o=>have z:=S5 _ _ e;rw [hw] at z;cases z
  have I0:LInv ms (si qs) [] qs rs:=by
    refine ⟨lq,R.lz,dq,dr,⟨1,by decide,?_⟩,⟨1,by decide,?_⟩,?_,(fun _ h=>nomatch h),(fun _ _ h=>nomatch h),by simp;omega⟩
    · rw [qfh hq,Sr.num_one]
      show _=1*1*si qs ^ (0+1)*si rs
      rw [Nat.zero_add,Sr.pow_s,Sr.pow_z];grind
    · rw [Sr.num_one]
      show _=1*1*si qs
      grind
    · obtain ⟨Sx,Mx,pS,pL,pM,e1,e2,cs⟩:=rad
      have e3:=qfh hq
      have eS:Sx=si rs:=Sr.cancel pS (qbp rs) (qbp qs) (qfE lq) (by rw [← e1,e3];grind)
      subst eS
      have e4:=Sr.D_mul (qbp rs) (si qs)
      rw [← e1,e2] at e4
      exact Sr.rad_pow rs.length (si rs) (si qs) (Mx - Sr.D (si qs)) (qke rs) (qfE R.lz) (qbp qs) (pM.sub (qbp qs).D) (by grind)
  unfold qdH
  rwa []
  refine while_by (fun m σ H'=>∃ (lf sp:List Int) (al as:Addr) (x5:Option V) (us:List V) (ps:List (List Nu)),σ=[some (.ref p),some (.ref t),some (.ref as),some (.ref al),some (.ref w),x5]∧Same H H'∧H' w=some (.lst us)∧PLs H' us ps∧H' al=some (.lst (lf.map V.int))∧H' as=some (.lst (sp.map V.int))∧LInv ms (si qs) ps lf sp∧m=lf.length+sp.length) _ ⟨qs,rs,d,c,none,[],[],rfl,S5.trans sw,upd_same,trivial,sw _ _ hd,sw _ _ hc5,I0,rfl⟩ ?_
  rintro m σ H' ⟨lf,sp,al,as,x5,us,ps,rfl,S6,hw6,P6,hl6,hs6,I,em⟩
  have lle:=I.dl.len lm I.ll
  have lse:=I.ds.len lm I.ls
  rwa [hl6]
  rw [List.length_map]
  refine qcM (fun cc=>?_) (fun cc=>?_)
  · refine ⟨fun σ' H''=>∃ m',m'<m∧_,fun _ _ h=>h,?_⟩
    unfold qcJ
    rwa [hl6,hs6]
    have lne:lf≠[]:=List.length_pos_iff.mp I.ll.1
    refine ⟨lf,rfl,sp,rfl,qkf I.ll,qkf I.ls,148,I.dl.bd lm bm m9 I.ll,I.ds.bd lm bm m9 I.ls,9,by omega,by omega,by decide,by decide,4,by decide,by decide,em9 (by omega) (by omega),fun kp kr H7 s7 hk rc _=>?_⟩
    obtain ⟨R7,P7⟩:=rc (.inl lne)
    have hl7:=s7 _ _ hl6
    have hs7:=s7 _ _ hs6
    have hw7:=s7 _ _ hw6
    have dk:DvI ms kr:=(I.dl.fac (gauss P7 R7.left).choose_spec).1
    have bk:=dk.bd lm bm m9 R7.lz
    have lk:=dk.len lm R7.lz
    have bl:=I.dl.bd lm bm m9 I.ll
    unfold qcI
    rwa [hl7,hk]
    refine ⟨qfs hw7,lf,rfl,kr,rfl,R7.lz,148,bl,148,bk,by omega,by decide,by omega,by omega,fun no=>absurd (gauss P7 R7.left) no,fun ap pt H8 s8 hpt ptl hptq=>?_⟩
    obtain ⟨lpt,pte⟩:=qiF I.ll R7.lz ptl hptq
    have kr0:=R7.lz.1
    refine ⟨pt,hpt,lpt,by omega,fun r9 zs H9 s9 h9 n9=>?_⟩
    have s79:=s8.trans s9
    have hw9:=s79 _ _ hw7
    have P9:PLs H9 us ps:=P6.tp (tpS (s7.trans s79))
    have wk:=(P6.tp (tpS s7)).ne hw7 hk R7.lz
    have wa:=(P6.tp (tpS s7)).ne hw7 hs7 I.ls
    refine ⟨us,hw9,Nat.lt_of_le_of_lt (show _≤1000 by rw [P6.length];have:=I.many;omega) (by rw [sizeLine_eq];omega),?_⟩
    have tp10:Tp H9 (upd H9 w (HO.lst (us++[V.ref r9]))):=Kp.tp Kp.upd hw9
    have hk10:upd H9 w (HO.lst (us++[V.ref r9])) kp=some (HO.lst (kr.map V.int)):=(qaw wk).trans (s79 _ _ hk)
    have hs10:upd H9 w (HO.lst (us++[V.ref r9])) as=some (HO.lst (sp.map V.int)):=(qaw wa).trans (s79 _ _ hs7)
    have hw10:upd H9 w (HO.lst (us++[V.ref r9])) w=some (HO.lst (us++[V.ref r9])):=upd_same
    have P10:PLs (upd H9 w (HO.lst (us++[V.ref r9]))) (us++[V.ref r9]) (ps++[mnc pt]):=(P9.tp tp10).snoc ⟨zs,tp10 _ _ h9,n9.tp tp10⟩
    have S10:Same H (upd H9 w (HO.lst (us++[V.ref r9]))):=fun b o h=>by rw [qaw (qau h w0)];exact ((S6.trans s7).trans s79) b o h
    generalize upd H9 w (HO.lst (us++[V.ref r9]))=H10 at tp10 hk10 hs10 hw10 P10 S10 ⊢
    unfold qcH qcG
    rwa [hs10,hk10]
    refine ⟨sp,rfl,kr,rfl,R7.lz,148,I.ds.bd lm bm m9 I.ls,148,bk,by omega,by decide,by omega,by omega,fun no=>absurd (gauss P7 R7.right) no,fun a2 s2 H11 s11 h2 sl hsq=>?_⟩
    obtain ⟨_,_,_,dec,I2⟩:=I.step lm bm m9 (by omega) R7 hptq ptl hsq sl
    exact ⟨kr.length+s2.length,by omega,S10.trans s11,kr,s2,us++[V.ref r9],s11 _ _ hw10,ps++[mnc pt],P10.tp (tpS s11),s11 _ _ hk10,h2,I2,rfl⟩
  · unfold qdG
    rwa []
    obtain ⟨⟨c1,c10,f1⟩,⟨c2,c20,f2⟩,f3⟩:=I.fin (by omega)
    have gq:=qaC (Int.ne_of_gt g0)
    have bq:=qjw (qaC (Int.ne_of_gt (qeH G.low).1))
    have el:sr l=Sr.num ((qfP l:Rat)⁻¹*(g:Rat))*si ms:=by
      rw [qoS G.low,eg,qeQ,← Sr.num_num];grind
    refine k w us ps H' S6 w0 hw6 P6 ⟨⟨(qfP l:Rat)⁻¹*(g:Rat)*c1,num_ne' (num_ne' bq gq) c10,?_⟩,⟨c2,si qs,c20,?_,f2⟩,I.each,f3,fun z=>?_,by have:=I.many;omega⟩
    · rw [el,f1,← Sr.num_num ((qfP l:Rat)⁻¹*(g:Rat)) c1];grind
    · rw [el];exact rad.smul
    · subst z
      have f1:si ms=Sr.num c1*1:=f1
      have:=qkY (a:=1) (Sr.Pol.nat 1) lm c10 (by rw [f1];grind)
      omega
theorem qnf {B:List Nu} (h:qbR B (B.length - 1)=(1,1)):pwo B (B.length - 1)=1:=by
  unfold pwo
  rw [h]
  unfold val;show ((1:Int):Rat) / ((1:Int):Rat)=1;rw [show ((1:Int):Rat)=1 from rfl];grind
theorem qpG {ns:List Int} {t d:Int} (lz:Lz ns) (bn:∀ z∈ns,Bd 36 z) (l:Low t d) (t0:t≠0) (bt:Bd 4 t) (bd:Bd 4 d):Gq 40 40 (ns.map fun n=>qbV (n*t) d):=by
  have d0:d≠0:=Int.ne_of_gt l.pos
  have e:(ns.map fun n=>qbV (n*t) d)=(ns.map (·*t)).map fun n=>qbV n d:=by rw [List.map_map];rfl
  have b:∀ z∈ns.map (·*t),Bd 40 z:=fun z hz=>by obtain ⟨y,hy,rfl⟩:=List.mem_map.mp hz;exact (bn y hy).mul bt
  have r:=qq0 d0 b
  rw [← e] at r
  refine ⟨fun q hq=>?_,fun q hq=>?_,_,r.1,(bd.le (by omega)).mono (by decide),r.2⟩
  · obtain ⟨z,_,rfl⟩:=List.mem_map.mp hq;exact qcQ d0
  · rw [List.getLast?_map] at hq
    have l0:=lz.1
    have hl:ns.getLast?=some (co ns (ns.length - 1)):=by
      rw [List.getLast?_eq_getElem?]
      unfold co
      rw [List.getD_eq_getElem?_getD,List.getElem?_eq_getElem (by omega)];rfl
    rw [hl] at hq
    obtain rfl:=Option.some.inj hq
    exact qnb d0 (Int.mul_ne_zero lz.2 t0)
theorem qrX (l:List Nu):Sr.Bn (sr l) l.length:=fun k hk=>qet hk
structure Mon (b:Nat) (R:List Nu):Prop where
  gq:Gq b b R
  ne:R≠[]
  one:qbR R (R.length - 1)=(1,1)
theorem Mon.mono {b c:Nat} {R:List Nu} (h:Mon b R) (e:b≤c):Mon c R:=⟨h.gq.mono e e,h.ne,h.one⟩
theorem Mo.mon {p:List Nu} (h:Mo p):Mon 148 p:=⟨h.gq,h.ne,h.one⟩
theorem Mon.top {b:Nat} {R:List Nu} (h:Mon b R):(sr R).c (R.length - 1)=1∧Sr.Bn (sr R) (R.length - 1+1):=by
  have:=List.length_pos_iff.mpr h.ne
  exact ⟨qnf h.one,by rw [Nat.sub_add_cancel this];exact qrX R⟩
theorem qgY {R:List Nu} {Y:Sr} {n:Nat} (lR:qaZ R) (nR:Nz R) (e:sr R=Y) (y0:Y.c n≠0) (yb:Sr.Bn Y (n+1)):R≠[]∧R.length=n+1∧pwo R (R.length - 1)=Y.c n:=by
  have hn:pwo R n=Y.c n:=congrFun (congrArg Sr.c e) n
  have h1:n<R.length:=by
    rcases Nat.lt_or_ge n R.length with h | h
    · exact h
    · exact absurd (hn.symm.trans (qet h)) y0
  have ne:R≠[]:=fun z=>by rw [z] at h1;simp at h1
  have hl:R.length=n+1:=by
    rcases Nat.lt_or_ge (n+1) R.length with h | h
    · have z:=qiD lR nR ne
      exact absurd ((congrFun (congrArg Sr.c e) (R.length - 1)).trans (yb _ (by omega))) z
    · omega
  exact ⟨ne,hl,by rw [hl];exact hn⟩
theorem qiI {b c:Nat} {p q:List Nu} {x:Rat} (hp:Mon b p) (hq:Mon c q) (x0:x≠0) (e:sr p=Sr.num x*sr q):p=q:=by
  have t:(Sr.num x*sr q).c (q.length - 1)=x:=by rw [Sr.num_mul,hq.top.1];grind
  have yb:Sr.Bn (Sr.num x*sr q) (q.length - 1+1):=fun k hk=>by rw [Sr.num_mul,hq.top.2 k hk];grind
  obtain ⟨_,len,last⟩:=qgY hp.gq.low hp.gq.nz e (by rw [t];exact x0) yb
  have x1:x=1:=by rw [← t,← last,qnf hp.one]
  rw [x1,Sr.num_one] at e
  exact qq4 hp.gq.low hq.gq.low hp.gq.nz hq.gq.nz (by rw [e];grind)
theorem qng {l R:List Nu} {Y:Sr} {b:Nat} (hl:qaZ l) (nl:Nz l) (l0:l≠[]) (hR:Mon b R) (pY:Sr.Pol Y) (e:sr l=sr R*Y):R.length≤l.length:=by
  have y0:Y≠0:=fun z=>qog hl nl l0 (by rw [e,z];grind)
  obtain ⟨n,hn⟩:=pY.bn
  rcases Sr.top_ex n hn with z | ⟨j,_,j0,jb⟩
  · exact absurd z y0
  have tm:=Sr.top_mul hR.top.2 jb
  rw [hR.top.1] at tm
  obtain ⟨_,len,_⟩:=qgY hl nl e (n:=R.length - 1+j) (by rw [tm.1];intro z;exact j0 (by grind)) tm.2
  omega
theorem qgg {F L L':Sr} (f0:F≠0) (h:RadOf F L) (h':RadOf F L'):∃ q,Sr.Pol q∧L'=q*L:=by
  obtain ⟨S,M,pS,pL,pM,e1,e2,c⟩:=h
  obtain ⟨S',M',pS',pL',pM',e1',e2',c'⟩:=h'
  have s0:S≠0:=fun z=>f0 (by rw [e1,z];grind)
  have s0':S'≠0:=fun z=>f0 (by rw [e1',z];grind)
  have x:L*M'=L'*M:=by
    refine Sr.cancel (pL.mul pM') (pL'.mul pM) (pS.mul pS') (Sr.ne_mul pS pS' s0 s0') ?_
    have a:S*L=S'*L':=e1.symm.trans e1'
    have b:S*M=S'*M':=e2.symm.trans e2'
    calc L*M'*(S*S')=(S*L)*(S'*M'):=by grind
      _=(S'*L')*(S*M):=by rw [a,b]
      _=L'*M*(S*S'):=by grind
  obtain ⟨U,W,pU,pW,h⟩:=c
  refine ⟨U*L'+W*M',(pU.mul pL').add (pW.mul pM'),?_⟩
  have:L'=L'*(U*L+W*M):=by rw [h];grind
  grind
theorem qpH {F L L':Sr} {b c:Nat} {p q:List Nu} {x y:Rat} (f0:F≠0) (h:RadOf F L) (h':RadOf F L') (hp:Mon b p) (hq:Mon c q) (x0:x≠0) (y0:y≠0) (e1:L=Sr.num x*sr p) (e2:sr q=Sr.num y*L'):p=q:=by
  obtain ⟨u,pu,eu⟩:=qgg f0 h h'
  obtain ⟨v,pv,ev⟩:=qgg f0 h' h
  have a1:sr q=sr p*(Sr.num y*u*Sr.num x):=by rw [e2,eu,e1];grind
  have iy:=Sr.num_inv y0
  have ix:=Sr.num_inv x0
  have a2:sr p=sr q*(Sr.num x⁻¹*v*Sr.num y⁻¹):=by
    have t1:sr p=Sr.num x⁻¹*(Sr.num x*sr p):=by
      rw [show Sr.num x⁻¹*(Sr.num x*sr p)=Sr.num x⁻¹*Sr.num x*sr p by grind,ix];grind
    have t2:L'=Sr.num y⁻¹*sr q:=by
      rw [e2,show Sr.num y⁻¹*(Sr.num y*L')=Sr.num y⁻¹*Sr.num y*L' by grind,iy];grind
    rw [t1,← e1,ev,t2];grind
  have l1:=qng hq.gq.low hq.gq.nz hq.ne hp (((Sr.Pol.num y).mul pu).mul (Sr.Pol.num x)) a1
  have l2:=qng hp.gq.low hp.gq.nz hp.ne hq (((Sr.Pol.num _).mul pv).mul (Sr.Pol.num _)) a2
  have w0:Sr.num y*u*Sr.num x≠0:=fun z=>qog hq.gq.low hq.gq.nz hq.ne (by rw [a1,z];grind)
  obtain ⟨n,hn⟩:=(((Sr.Pol.num y).mul pu).mul (Sr.Pol.num x)).bn
  rcases Sr.top_ex n hn with z | ⟨j,_,j0,jb⟩
  · exact absurd z w0
  have tm:=Sr.top_mul hp.top.2 jb
  rw [hp.top.1] at tm
  obtain ⟨_,len,_⟩:=qgY hq.gq.low hq.gq.nz a1 (n:=p.length - 1+j) (by rw [tm.1];intro z;exact j0 (by grind)) tm.2
  have p0:=List.length_pos_iff.mpr hp.ne
  have hj:j=0:=by omega
  subst hj
  have cst:Sr.num y*u*Sr.num x=Sr.num ((Sr.num y*u*Sr.num x).c 0):=Sr.ext' fun k=>by
    cases k with
    | zero=>show _=_*(1:Rat);grind
    | succ k=>rw [jb (k+1) (by omega)];show (0:Rat)=_*(0:Rat);grind
  generalize (Sr.num y*u*Sr.num x).c 0=w at *
  exact (qiI hq hp j0 (by rw [a1,cst];grind)).symm
theorem qcZ:∀ (a b:List (List Nu)),qbB (a++b)=qbB a*qbB b
  | [],b=>by show qbB b=1*qbB b;grind
  | q::a,b=>by show sr q*qbB (a++b)=sr q*qbB a*qbB b;rw [qcZ a b];grind
theorem qiJ {ps:List (List Nu)} {i:Nat} (h:i<ps.length):ps=ps.take i++ps.getD i []::ps.drop (i+1):=by
  rw [List.getD_eq_getElem?_getD,List.getElem?_eq_getElem h]
  show ps=ps.take i++ps[i]::ps.drop (i+1)
  rw [← List.drop_eq_getElem_cons h,List.take_append_drop]
theorem qnh {l:List Nu} {ps:List (List Nu)} (P:Pts l ps) (l0:sr l≠0):(∀ p∈ps,Sr.Cs (sr p) (Sr.D (sr p)))∧∀ i j:Nat,j<i→i<ps.length→Sr.Cs (sr (ps.getD i [])) (sr (ps.getD j [])):=by
  obtain ⟨c,L,c0,⟨S,M,pS,pL,pM,e1,e2,cs⟩,eL⟩:=P.rad
  have cL:=Sr.simple_cop pS pL pM l0 e1 e2 cs
  have nc:=Sr.Pol.num c
  have one:∀ i,i<ps.length→Sr.Cs (sr (ps.getD i [])) (Sr.D (sr (ps.getD i []))):=fun i hi=>by
    have e:=qiJ hi
    refine Sr.Cs.part (q:=Sr.num c*qbB (ps.take i)*qbB (ps.drop (i+1))) (qjt _) ((nc.mul (qdh _)).mul (qdh _)) cL ?_
    have:qbB ps=qbB (ps.take i)*(sr (ps.getD i [])*qbB (ps.drop (i+1))):=by
      conv=>lhs;rw [e,qcZ]
      rfl
    rw [eL,this];grind
  refine ⟨fun p hp=>?_,fun i j hj hi=>?_⟩
  · obtain ⟨i,hi,rfl⟩:=List.getElem_of_mem hp
    have:=one i hi
    rw [List.getD_eq_getElem?_getD,List.getElem?_eq_getElem hi] at this
    exact this
  · have e:=qiJ hi
    have hj':j<(ps.take i).length:=by rw [List.length_take];omega
    have e3:=qiJ hj'
    have gj:(ps.take i).getD j []=ps.getD j []:=by
      rw [List.getD_eq_getElem?_getD,List.getD_eq_getElem?_getD,List.getElem?_take_of_lt hj]
    rw [gj] at e3
    have s2:qbB ps=qbB (ps.take i)*(sr (ps.getD i [])*qbB (ps.drop (i+1))):=by
      conv=>lhs;rw [e,qcZ]
      rfl
    have s3:qbB (ps.take i)=qbB ((ps.take i).take j)*(sr (ps.getD j [])*qbB ((ps.take i).drop (j+1))):=by
      conv=>lhs;rw [e3,qcZ]
      rfl
    refine Sr.Cs.parts (r:=Sr.num c*qbB ((ps.take i).take j)*qbB ((ps.take i).drop (j+1))*qbB (ps.drop (i+1))) pL (qjt _) (qjt _) (((nc.mul (qdh _)).mul (qdh _)).mul (qdh _)) cL ?_
    rw [eL,s2,s3];grind
theorem qpI:∀ (n:Nat) (D:List Int),Lz D→(co D (D.length - 1)).natAbs≤n→∃ (g:Int) (P:List Int),g≠0∧D=P.map (g*·)∧Prim P∧Lz P∧P.length=D.length:=by
  intro n
  induction n with
  | zero=>intro D l h;exact absurd (Int.natAbs_eq_zero.mp (by omega)) l.2
  | succ n ih=>
    intro D l h
    by_cases pr:Prim D
    · exact ⟨1,D,by decide,by simp,pr,l,rfl⟩
    · obtain ⟨c,hc⟩:=Classical.not_forall.mp pr
      have hc1:∀ k,c∣co D k:=Classical.byContradiction fun z=>hc fun y=>absurd y z
      have hc2:c.natAbs≠1:=fun z=>hc fun _=>z
      have c0:c≠0:=fun z=>l.2 (by have:=hc1 (D.length - 1);rw [z] at this;exact Int.zero_dvd.mp this)
      have e:D=(D.map (· / c)).map (c*·):=by
        rw [List.map_map]
        refine (List.map_id D).symm.trans (List.map_congr_left fun z hz=>?_)
        obtain ⟨i,hi,rfl⟩:=List.getElem_of_mem hz
        have:=hc1 i
        unfold co at this
        rw [List.getD_eq_getElem?_getD,List.getElem?_eq_getElem hi] at this
        exact (Int.mul_ediv_cancel' this).symm
      have el:(D.map (· / c)).length=D.length:=List.length_map ..
      have ec:∀ k,co D k=c*co (D.map (· / c)) k:=fun k=>by
        have:=congrFun (congrArg Sr.c (qeQ (g:=c) (D.map (· / c)))) k
        rw [← e,Sr.num_mul] at this
        have this:((co D k:Int):Rat)=(c:Rat)*((co (D.map (· / c)) k:Int):Rat):=this
        exact_mod_cast this
      have l2:Lz (D.map (· / c)):=⟨by rw [el];exact l.1,fun z=>l.2 (by rw [el] at z;rw [ec,z,Int.mul_zero])⟩
      have sm:(co (D.map (· / c)) ((D.map (· / c)).length - 1)).natAbs≤n:=by
        have h2:=ec (D.length - 1)
        rw [el]
        rw [h2,Int.natAbs_mul] at h
        have z0:(co (D.map (· / c)) (D.length - 1)).natAbs≠0:=fun z=>l2.2 (by rw [el];exact Int.natAbs_eq_zero.mp z)
        have c2:2≤c.natAbs:=by have:=Int.natAbs_pos.mpr c0;omega
        have:=Nat.mul_le_mul_right (co (D.map (· / c)) (D.length - 1)).natAbs c2
        omega
      obtain ⟨g,P,g0,eP,pP,lP,ll⟩:=ih _ l2 sm
      refine ⟨c*g,P,Int.mul_ne_zero c0 g0,?_,pP,lP,by omega⟩
      rw [e,eP,List.map_map]
      refine List.map_congr_left fun z _=>?_
      show c*(g*z)=c*g*z
      grind
theorem qgZ:∀ a:List Rat,∃ c:Int,c≠0∧∃ A:List Int,∀ k,(c:Rat)*a.getD k 0=((A.getD k 0:Int):Rat)
  | []=>⟨1,by decide,[],fun k=>by simp⟩
  | x::a=>by
    obtain ⟨c,c0,A,h⟩:=qgZ a
    have d0:((x.den:Int))≠0:=by have:=x.den_pos;omega
    have hx:(x.den:Rat)*x=(x.num:Rat):=by
      have h1:(x.num:Rat) / ((x.den:Int):Rat)=x:=(Rat.divInt_eq_div x.num (x.den:Int)).symm.trans (Rat.num_divInt_den x)
      have dz:=qaC d0
      have h2:((x.den:Int):Rat)=(x.den:Rat):=rfl
      rw [h2] at h1 dz
      grind
    refine ⟨c*x.den,Int.mul_ne_zero c0 d0,(c*x.num)::A.map (fun z=>(x.den:Int)*z),fun k=>?_⟩
    cases k with
    | zero=>
      show ((c*x.den:Int):Rat)*x=((c*x.num:Int):Rat)
      push_cast
      rw [Rat.mul_assoc,hx]
    | succ k=>
      show ((c*x.den:Int):Rat)*a.getD k 0=(((A.map fun z=>(x.den:Int)*z).getD k 0:Int):Rat)
      have e:(A.map fun z=>(x.den:Int)*z).getD k 0=(x.den:Int)*A.getD k 0:=by
        rw [List.getD_eq_getElem?_getD,List.getD_eq_getElem?_getD,List.getElem?_map]
        cases A[k]? <;> simp
      rw [e]
      have:=h k
      push_cast at this ⊢
      grind
theorem qrY {f g:List Int} {Y:Sr} (pY:Sr.Pol Y) (e:si f=Y*si g):MQ (co g) (co f):=by
  obtain ⟨a,rfl⟩:=pY
  obtain ⟨c,c0,A,h⟩:=qgZ a
  refine ⟨c,c0,A,fun k=>?_⟩
  have eA:si A=Sr.num (c:Rat)*Sr.L a:=Sr.ext' fun j=>by
    rw [Sr.num_mul]
    show ((A.getD j 0:Int):Rat)=(c:Rat)*cvL a qbG j
    rw [qbW]
    exact (h j).symm
  have e2:Sr.num (c:Rat)*si f=si A*si g:=by rw [e,eA];grind
  rw [qp1 A,Sr.L_mul] at e2
  have:=congrFun (congrArg Sr.c e2) k
  rw [Sr.num_mul] at this
  have this:(c:Rat)*((co f k:Int):Rat)=cvL (A.map fun z:Int=>(z:Rat)) (fun k=>((co g k:Int):Rat)) k:=this
  rw [← qjv] at this
  exact_mod_cast this
theorem qiK {P:List Int} {d:Nat} (lP:Lz P) (bP:∀ k,Bd d (co P k)):Mon d (mnc P):=by
  have last:=lP.2
  refine ⟨qq2 (qgS lP) (qm2 lP) (M:=((co P (P.length - 1)).natAbs:Int)) (by omega) ?_ (N:=fun k=>if 0<co P (P.length - 1) then co P k else - co P k) (fun k=>?_) (fun k=>?_),?_,?_⟩
  · show ((co P (P.length - 1)).natAbs:Int).natAbs<2 ^ d
    rw [Int.natAbs_natCast];exact bP _
  · rw [qfD lP]
    by_cases c:0<co P (P.length - 1)
    · rw [if_pos c,Int.natAbs_of_nonneg (by omega)]
    · rw [if_neg c,show ((co P (P.length - 1)).natAbs:Int) = - co P (P.length - 1) by omega]
      have c1:=qaC last
      push_cast
      grind
  · split
    · exact bP k
    · exact (bP k).neg
  · intro z
    have z2:(mnc P).length=0:=by rw [z];rfl
    rw [qdb] at z2
    have:=lP.1
    omega
  · refine qfu (qbt (qgS lP) _) ⟨by decide,by decide⟩ ?_
    show pwo (mnc P) _=_
    rw [qdb,qfD lP]
    have c1:=qaC last
    unfold val
    show _=((1:Int):Rat) / ((1:Int):Rat)
    push_cast
    grind
theorem qni {R:List Int} {Y:Sr} {n:Nat} (l:Lz R) (e:si R=Y) (y0:Y.c n≠0) (yb:Sr.Bn Y (n+1)):R.length=n+1∧((co R (R.length - 1):Int):Rat)=Y.c n:=by
  have hn:((co R n:Int):Rat)=Y.c n:=congrFun (congrArg Sr.c e) n
  have h1:n<R.length:=by
    rcases Nat.lt_or_ge n R.length with h | h
    · exact h
    · rw [qat h] at hn;exact absurd hn.symm y0
  have hl:R.length=n+1:=by
    rcases Nat.lt_or_ge (n+1) R.length with h | h
    · have z:((co R (R.length - 1):Int):Rat)=0:=(congrFun (congrArg Sr.c e) (R.length - 1)).trans (yb _ (by omega))
      exact absurd (by exact_mod_cast z) l.2
    · omega
  exact ⟨hl,by rw [hl];exact hn⟩
structure Lw (T B:List Nu):Prop where
  lt:qaZ T
  lb:qaZ B
  nt:Nz T
  nb:Nz B
  ne:B≠[]
  one:qbR B (B.length - 1)=(1,1)
  cs:Sr.Cs (sr T) (sr B)
theorem qra {A:Sr} (pA:Sr.Pol A) (A0:A≠0):∃ (x:Rat) (P:List Int),x≠0∧A=Sr.num x*si P∧Prim P∧Lz P:=by
  obtain ⟨n,hn⟩:=pA.bn
  rcases Sr.top_ex n hn with z | ⟨m,_,m0,mb⟩
  · exact absurd z A0
  obtain ⟨c,c0,Z,hZ⟩:=qgZ (tr (m+1) A.c)
  have hZ':∀ k,(c:Rat)*A.c k=((co (Z.take (m+1)) k:Int):Rat):=fun k=>by
    by_cases h:k<m+1
    · have:=hZ k
      rw [qfQ,if_pos h] at this
      rw [this]
      unfold co
      rw [List.getD_eq_getElem?_getD,List.getD_eq_getElem?_getD,List.getElem?_take_of_lt h]
    · rw [mb k (by omega),qat (by rw [List.length_take];omega)]
      push_cast;grind
  have e:Sr.num (c:Rat)*A=si (Z.take (m+1)):=Sr.ext' fun k=>by rw [Sr.num_mul];exact hZ' k
  have c1:=qaC c0
  have tm:((co (Z.take (m+1)) m:Int):Rat)≠0:=by rw [← hZ'];exact num_ne' c1 m0
  have tm':co (Z.take (m+1)) m≠0:=fun z=>tm (by rw [z];rfl)
  have len:(Z.take (m+1)).length=m+1:=by
    rcases Nat.lt_or_ge m (Z.take (m+1)).length with h | h
    · have:(Z.take (m+1)).length≤m+1:=by rw [List.length_take];omega
      omega
    · exact absurd (qat h) tm'
  have lz:Lz (Z.take (m+1)):=⟨by omega,by rw [len];exact tm'⟩
  obtain ⟨g,P,g0,eP,pP,lP,_⟩:=qpI _ _ lz (Nat.le_refl _)
  refine ⟨(c:Rat)⁻¹*(g:Rat),P,num_ne' (qjw c1) (qaC g0),?_,pP,lP⟩
  have i:=Sr.num_inv c1
  have:A=Sr.num (c:Rat)⁻¹*(Sr.num (c:Rat)*A):=by
    rw [show Sr.num (c:Rat)⁻¹*(Sr.num (c:Rat)*A)=Sr.num (c:Rat)⁻¹*Sr.num (c:Rat)*A by grind,i];grind
  rw [this,e,eP,qeQ,← Sr.num_num];grind
theorem qnj {P:List Int} (h:P.length=1) (l:Lz P) (x:Rat):Nmb (Sr.num x*si P):=by
  obtain ⟨y,_,e⟩:=qnd h l
  exact ⟨x*y,by rw [e,Sr.num_num]⟩
theorem qnk (g:Nat→Int):∀ (Q:List Int) (j:Nat),(∀ i,i<j→(2:Int)∣co Q i)→(2:Int)∣cvL Q g j - co Q j*g 0
  | [],j,_=>by rw [qaB,qat (Nat.zero_le _)];simp
  | x::Q,0,_=>by
    rw [qam]
    show (2:Int)∣x*g 0+0 - x*g 0
    exact ⟨0,by omega⟩
  | x::Q,j+1,h=>by
    have h0:(2:Int)∣x:=h 0 (by omega)
    have ih:=qnk g Q j fun i hi=>h (i+1) (by omega)
    rw [qaj]
    show (2:Int)∣x*g (j+1)+cvL Q g j - co Q j*g 0
    have:=Int.dvd_mul_of_dvd_left (c:=g (j+1)) h0
    omega
theorem qnl (Q:List Int):∀ n,¬ (2:Int)∣co Q n→∃ j,j≤n∧¬ (2:Int)∣co Q j∧∀ i,i<j→(2:Int)∣co Q i:=by
  intro n
  induction n using Nat.strongRecOn with
  | _ n ih=>
    intro h
    by_cases c:∀ i,i<n→(2:Int)∣co Q i
    · exact ⟨n,Nat.le_refl _,h,c⟩
    · obtain ⟨i,hi⟩:=Classical.not_forall.mp c
      have hi1:i<n:=Classical.byContradiction fun z=>hi fun y=>absurd y z
      have hi2:¬ (2:Int)∣co Q i:=fun z=>hi fun _=>z
      obtain ⟨j,j1,j2,j3⟩:=ih i hi1 hi2
      exact ⟨j,by omega,j2,j3⟩
theorem qpJ {a b:Int} (h1:¬ (2:Int)∣a) (h2:¬ (2:Int)∣b):¬ (2:Int)∣a*b:=fun h=>by
  have e1:a % 2=1:=by omega
  have e2:b % 2=1:=by omega
  have:(a*b) % 2=1:=by rw [Int.mul_emod,e1,e2];rfl
  omega
theorem qhW {r P Q:List Int} (h:∀ k,co r k=cvL Q (co P) k) (ev:∀ k,k<r.length - 1→(2:Int)∣co r k) (qo:¬ (2:Int)∣co Q (Q.length - 1)) (ql:Q.length - 1<r.length - 1):(2:Int)∣co P 0:=Classical.byContradiction fun z=>by
  obtain ⟨j,j1,j2,j3⟩:=qnl Q _ qo
  have a:=qnk (co P) Q j j3
  rw [← h j] at a
  have b:=ev j (by omega)
  have c:=qpJ j2 z
  omega
theorem qoj {r:List Int} (lr:Lz r) (r2:2≤r.length) (ev:∀ k,k<r.length - 1→(2:Int)∣co r k) (od:¬ (2:Int)∣co r (r.length - 1)) (f4:¬ (4:Int)∣co r 0):Irr (si r):=by
  refine ⟨qbp r,qfE lr,fun ⟨x,e⟩=>?_,fun A B pA pB e=>?_⟩
  · have:=congrFun (congrArg Sr.c e) (r.length - 1)
    have this:((co r (r.length - 1):Int):Rat)=x*qbG (r.length - 1):=this
    obtain ⟨j,hj⟩:∃ j,r.length - 1=j+1:=⟨r.length - 2,by omega⟩
    rw [hj] at this
    have z:((co r (j+1):Int):Rat)=0:=by rw [this];show x*0=0;grind
    exact lr.2 (by rw [hj];exact_mod_cast z)
  · have A0:A≠0:=fun z=>qfE lr (by rw [e,z];grind)
    obtain ⟨x,P,x0,eA,pP,lP⟩:=qra pA A0
    have mq:MQ (co P) (co r):=qrY ((pB.mul (Sr.Pol.num x))) (by rw [e,eA];grind)
    obtain ⟨Q0,hQ0⟩:=gauss pP mq
    obtain ⟨Q,lQ,hQ⟩:∃ Q:List Int,Lz Q∧∀ k,co r k=cvL Q (co P) k:=by
      rcases qgE Q0 with z | ⟨Q,lQ,_,eQ⟩
      · exact absurd (by rw [hQ0,qba,qbN P z]) lr.2
      · exact ⟨Q,lQ,fun k=>by rw [hQ0 k,qba,qai (fun j=>(eQ j).symm) P k,← qba]⟩
    have eq:=qfh hQ
    have eB:B=Sr.num x⁻¹*si Q:=by
      have i:=Sr.num_inv x0
      have:A*B=A*(Sr.num x⁻¹*si Q):=by
        rw [← e,eq,eA]
        have:Sr.num x*si P*(Sr.num x⁻¹*si Q)=Sr.num x⁻¹*Sr.num x*(si Q*si P):=by grind
        rw [this,i];grind
      exact Sr.cancel pB ((Sr.Pol.num _).mul (qbp Q)) pA A0 (by grind)
    by_cases p1:P.length=1
    · exact .inl (by rw [eA];exact qnj p1 lP x)
    by_cases q1:Q.length=1
    · exact .inr (by rw [eB];exact qnj q1 lQ _)
    exfalso
    have P0:=lP.1
    have Q0':=lQ.1
    have b1:Sr.Bn (si Q) (Q.length - 1+1):=by rw [Nat.sub_add_cancel Q0'];exact qke Q
    have b2:Sr.Bn (si P) (P.length - 1+1):=by rw [Nat.sub_add_cancel P0];exact qke P
    have tm:=Sr.top_mul b1 b2
    have tv:(si Q*si P).c (Q.length - 1+(P.length - 1))=((co Q (Q.length - 1)*co P (P.length - 1):Int):Rat):=by
      rw [tm.1]
      show ((co Q (Q.length - 1):Int):Rat)*((co P (P.length - 1):Int):Rat)=_
      push_cast;rfl
    obtain ⟨len,top⟩:=qni lr eq (n:=Q.length - 1+(P.length - 1)) (by rw [tv];exact qaC (Int.mul_ne_zero lQ.2 lP.2)) tm.2
    rw [tv] at top
    have top':co r (r.length - 1)=co Q (Q.length - 1)*co P (P.length - 1):=by exact_mod_cast top
    rw [top'] at od
    have oQ:¬ (2:Int)∣co Q (Q.length - 1):=fun z=>od (Int.dvd_mul_of_dvd_left z)
    have oP:¬ (2:Int)∣co P (P.length - 1):=fun z=>od (Int.dvd_mul_of_dvd_right z)
    have hP:∀ k,co r k=cvL P (co Q) k:=fun k=>by
      have h1:∀ (b:List Int) (k:Nat),co b k=cvL b qbG k:=fun b k=>by rw [qbW];rfl
      rw [hQ k,qai (h1 P),qai (h1 Q),qdr]
    have e1:=qhW hQ ev oQ (by omega)
    have e2:=qhW hP ev oP (by omega)
    have c0:=hQ 0
    obtain ⟨q,Q',rfl⟩:∃ q Q',Q=q::Q':=by
      cases Q with
      | nil=>simp at Q0'
      | cons q Q'=>exact ⟨q,Q',rfl⟩
    rw [qam] at c0
    have e2:(2:Int)∣q:=e2
    obtain ⟨u,hu⟩:=e1
    obtain ⟨v,hv⟩:=e2
    exact f4 ⟨v*u,by rw [c0,hu,hv];grind⟩
theorem qfi {x:Rat} {f:Sr} (e:f=Sr.num x) (h:f≠0):x≠0:=fun z=>h (by rw [e,z];exact Sr.ext' fun k=>by rw [Sr.zero_c];show (0:Rat)*_=0;grind)
theorem qrb {f g:Sr} (hf:Irr f) (hg:Irr g) (un:∀ x:Rat,f≠Sr.num x*g):Sr.Cs f g:=by
  obtain ⟨n,hn⟩:=hg.pol.bn
  obtain ⟨d,r,e,U,W,pd,pr,pe,pU,pW,d0,e1,e2,h⟩:=Sr.gcd_ex n f g hf.pol hn (.inl hf.ne)
  have go:Nmb d→Sr.Cs f g:=fun ⟨x,ex⟩=>Sr.Cs.of_unit (qfi ex d0) ex pU pW (by
    rw [e1,e2]
    have:U*(d*r)+W*(d*e)=d*(U*r+W*e):=by grind
    rw [this,h];grind)
  rcases hf.irr d r pd pr e1 with a | ⟨y,ey⟩
  · exact go a
  rcases hg.irr d e pd pe e2 with a | ⟨z,ez⟩
  · exact go a
  exfalso
  have z0:z≠0:=qfi ez fun w=>hg.ne (by rw [e2,w];grind)
  refine un (y*z⁻¹) ?_
  have i:=Sr.num_inv z0
  rw [e1,e2,ey,ez,← Sr.num_num]
  have:Sr.num y*Sr.num z⁻¹*(d*Sr.num z)=d*Sr.num y*(Sr.num z⁻¹*Sr.num z):=by grind
  rw [this,i];grind
theorem qpK {f:Sr} (hf:Irr f):∃ m,f.c (m+1)≠0∧Sr.Bn f (m+2):=by
  obtain ⟨n,hn⟩:=hf.pol.bn
  rcases Sr.top_ex n hn with z | ⟨m,_,m0,mb⟩
  · exact absurd z hf.ne
  cases m with
  | zero=>
    exfalso
    refine hf.no ⟨f.c 0,Sr.ext' fun k=>?_⟩
    cases k with
    | zero=>show f.c 0=f.c 0*1;grind
    | succ k=>rw [mb (k+1) (by omega)];show (0:Rat)=f.c 0*0;grind
  | succ m=>exact ⟨m,m0,mb⟩
theorem qrc {f:Sr} (hf:Irr f):Sr.Cs f (Sr.D f):=by
  obtain ⟨m,m0,mb⟩:=qpK hf
  have bD:Sr.Bn (Sr.D f) (m+1):=Sr.D_bn mb
  have D0:Sr.D f≠0:=Sr.D_ne m0
  obtain ⟨d,r,e,U,W,pd,pr,pe,pU,pW,d0,e1,e2,h⟩:=Sr.gcd_ex (m+1) f (Sr.D f) hf.pol bD (.inl hf.ne)
  rcases hf.irr d r pd pr e1 with ⟨x,ex⟩ | ⟨y,ey⟩
  · refine Sr.Cs.of_unit (qfi ex d0) ex pU pW ?_
    rw [e2]
    have:U*f+W*(d*e)=d*(U*r+W*e):=by rw [e1];grind
    rw [this,h];grind
  · exfalso
    have y0:y≠0:=qfi ey fun w=>hf.ne (by rw [e1,w];grind)
    have i:=Sr.num_inv y0
    have e3:Sr.D f=f*(Sr.num y⁻¹*e):=by
      rw [e2,e1,ey]
      have:d*Sr.num y*(Sr.num y⁻¹*e)=d*(Sr.num y⁻¹*Sr.num y)*e:=by grind
      rw [this,i];grind
    have q0:Sr.num y⁻¹*e≠0:=fun w=>D0 (by rw [e3,w];grind)
    obtain ⟨n,hn⟩:=((Sr.Pol.num y⁻¹).mul pe).bn
    rcases Sr.top_ex n hn with z | ⟨j,_,j0,jb⟩
    · exact absurd z q0
    have t:=(Sr.top_mul mb jb).1
    rw [← e3,bD _ (by omega)] at t
    exact num_ne' m0 j0 t.symm
theorem qkZ {d q:Sr} (pd:Sr.Pol d) (pq:Sr.Pol q) (h:d*q=1):∃ x:Rat,x≠0∧d=Sr.num x:=by
  have d0:d≠0:=fun z=>Sr.one_ne (by rw [← h,z];grind)
  have q0:q≠0:=fun z=>Sr.one_ne (by rw [← h,z];grind)
  obtain ⟨n,hn⟩:=pd.bn
  obtain ⟨n',hn'⟩:=pq.bn
  rcases Sr.top_ex n hn with z | ⟨m,_,m0,mb⟩
  · exact absurd z d0
  rcases Sr.top_ex n' hn' with z | ⟨j,_,j0,jb⟩
  · exact absurd z q0
  have t:=(Sr.top_mul mb jb).1
  rw [h] at t
  cases m with
  | zero=>
    refine ⟨d.c 0,m0,Sr.ext' fun k=>?_⟩
    cases k with
    | zero=>show d.c 0=d.c 0*1;grind
    | succ k=>rw [mb (k+1) (by omega)];show (0:Rat)=d.c 0*0;grind
  | succ m=>
    exfalso
    have o:(1:Sr).c (m+1+j)=0:=by rw [qoh,show m+1+j=(m+j)+1 by omega];rfl
    rw [o] at t
    exact num_ne' m0 j0 t.symm
theorem qpL {d w:Sr} (pd:Sr.Pol d) (pw:Sr.Pol w) (h:Sr.Cs d (d*w)):∃ x:Rat,x≠0∧d=Sr.num x:=by
  obtain ⟨U,W,pU,pW,e⟩:=h
  exact qkZ pd (pU.add (pW.mul pw)) (by rw [← e];grind)
noncomputable def qf3:List (Sr×Nat)→Sr
  | []=>1
  | (f,e)::fs=>f ^ e*qf3 fs
noncomputable def qdi:List (Sr×Nat)→Sr
  | []=>1
  | (f,_)::fs=>f*qdi fs
structure Apt (fs:List (Sr×Nat)):Prop where
  pol:∀ x∈fs,Sr.Pol x.1∧x.1≠0∧1≤x.2∧Sr.Cs x.1 (Sr.D x.1)
  two:List.Pairwise (fun x y=>Sr.Cs x.1 y.1) fs
theorem qk0 {f:Sr} (pf:Sr.Pol f):∀ {fs:List (Sr×Nat)},(∀ x∈fs,Sr.Pol x.1)→(∀ x∈fs,Sr.Cs f x.1)→Sr.Cs f (qdi fs)
  | [],_,_=>Sr.Cs.one
  | (g,e)::fs,h,c=>(c _ (List.mem_cons_self ..)).mul pf (h _ (List.mem_cons_self ..)) (qk0 pf (fun x hx=>h x (List.mem_cons_of_mem _ hx)) fun x hx=>c x (List.mem_cons_of_mem _ hx))
theorem qoT {f:Sr} (pf:Sr.Pol f):∀ k:Nat,Sr.D (f ^ (k+1))=Sr.num ((k+1:Nat):Rat)*(f ^ k*Sr.D f)
  | 0=>by
    rw [Sr.pow_s,Sr.pow_z,show (1:Sr)*f=f by grind,show (((0+1:Nat)):Rat)=1 from rfl,Sr.num_one];grind
  | k+1=>by
    rw [Sr.pow_s,Sr.D_mul (pf.pow _),qoT pf k,Sr.pow_s]
    have:Sr.num ((k+1+1:Nat):Rat)=Sr.num ((k+1:Nat):Rat)+1:=Sr.ext' fun j=>by
      show ((k+1+1:Nat):Rat)*qbG j=((k+1:Nat):Rat)*qbG j+(1:Sr).c j
      rw [qoh];push_cast;grind
    rw [this];grind
theorem qiL:∀ {fs:List (Sr×Nat)},Apt fs→RadOf (qf3 fs) (qdi fs)
  | [],_=>⟨1,0,Sr.Pol.nat 1,Sr.Pol.nat 1,Sr.Pol.nat 0,by show (1:Sr)=1*1;grind,by
      show Sr.D 1=1*0
      rw [show (1:Sr)=Sr.num 1 from Sr.num_one.symm,Sr.D_const];grind,Sr.Cs.one.comm⟩
  | (f,e)::fs,h=>by
    obtain ⟨pf,f0,e1,cf⟩:Sr.Pol f∧f≠0∧1≤e∧Sr.Cs f (Sr.D f):=h.pol _ (List.mem_cons_self ..)
    have ht:Apt fs:=⟨fun x hx=>h.pol x (List.mem_cons_of_mem _ hx),(List.pairwise_cons.mp h.two).2⟩
    obtain ⟨S,M,pS,pL,pM,q1,q2,c⟩:=qiL ht
    have cfL:Sr.Cs f (qdi fs):=qk0 pf (fun x hx=>(ht.pol x hx).1) fun x hx=>(List.pairwise_cons.mp h.two).1 x hx
    obtain ⟨k,rfl⟩:∃ k,e=k+1:=⟨e - 1,by omega⟩
    have en:((k+1:Nat):Rat)≠0:=fun z=>by
      have:((k+1:Nat):Rat)=((0:Nat):Rat):=z
      have:=Rat.natCast_inj.mp this
      omega
    refine ⟨f ^ k*S,Sr.num ((k+1:Nat):Rat)*(Sr.D f*qdi fs)+f*M,(pf.pow k).mul pS,pf.mul pL,((Sr.Pol.num _).mul (pf.D.mul pL)).add (pf.mul pM),?_,?_,?_⟩
    · show f ^ (k+1)*qf3 fs=f ^ k*S*(f*qdi fs)
      rw [q1,Sr.pow_s];grind
    · show Sr.D (f ^ (k+1)*qf3 fs)=_
      rw [Sr.D_mul (pf.pow _),qoT pf,q2,q1,Sr.pow_s]
      grind
    · have a1:Sr.Cs f (Sr.num ((k+1:Nat):Rat)*(Sr.D f*qdi fs)):=by
        obtain ⟨U,W,pU,pW,q⟩:=cf.mul pf pf.D cfL
        have i:=Sr.num_inv en
        exact ⟨U,W*Sr.num ((k+1:Nat):Rat)⁻¹,pU,pW.mul (Sr.Pol.num _),by grind⟩
      have a2:Sr.Cs f (Sr.num ((k+1:Nat):Rat)*(Sr.D f*qdi fs)+f*M):=(a1.comm.add pM (by grind)).comm
      have b1:Sr.Cs (qdi fs) (f*M):=cfL.comm.mul pL pf c
      have b2:Sr.Cs (qdi fs) (Sr.num ((k+1:Nat):Rat)*(Sr.D f*qdi fs)+f*M):=(b1.comm.add ((Sr.Pol.num ((k+1:Nat):Rat)).mul pf.D) (by grind)).comm
      exact (a2.comm.mul (((Sr.Pol.num _).mul (pf.D.mul pL)).add (pf.mul pM)) pf b2.comm).comm
noncomputable def qbE:Nat→List Sr→Sr
  | _,[]=>1
  | i,f::fs=>f ^ i*qbE (i+1) fs
noncomputable def qbv:List Sr→Sr
  | []=>1
  | f::fs=>f*qbv fs
theorem qnm (n:Nat):(1:Sr) ^ n=1:=by
  induction n with
  | zero=>exact Sr.pow_z 1
  | succ n ih=>rw [Sr.pow_s,ih];grind
theorem qfj:∀ (A:List Sr) (s i:Nat),i<A.length→qbE s A=(A.getD i 1) ^ (s+i)*qbE s (A.set i 1)
  | [],_,_,h=>absurd h (Nat.not_lt_zero _)
  | f::fs,s,0,_=>by
    show f ^ s*qbE (s+1) fs=f ^ (s+0)*((1:Sr) ^ s*qbE (s+1) fs)
    rw [qnm,Nat.add_zero];grind
  | f::fs,s,i+1,h=>by
    show f ^ s*qbE (s+1) fs=(fs.getD i 1) ^ (s+(i+1))*(f ^ s*qbE (s+1) (fs.set i 1))
    rw [qfj fs (s+1) i (by simpa using h),show s+1+i=s+(i+1) by omega];grind
theorem qce:∀ (A:List Sr) (i:Nat),qbv A=(A.getD i 1)*qbv (A.set i 1)
  | [],i=>by show (1:Sr)=1*1;grind
  | f::fs,0=>by show f*qbv fs=f*(1*qbv fs);grind
  | f::fs,i+1=>by
    show f*qbv fs=(fs.getD i 1)*(f*qbv (fs.set i 1))
    rw [qce fs i];grind
theorem qjy:∀ {A:List Sr} {s:Nat},(∀ a∈A,Sr.Pol a)→Sr.Pol (qbE s A)
  | [],_,_=>Sr.Pol.nat 1
  | f::fs,s,h=>((h f (List.mem_cons_self ..)).pow s).mul (qjy fun a ha=>h a (List.mem_cons_of_mem _ ha))
theorem qel:∀ {A:List Sr},(∀ a∈A,Sr.Pol a)→Sr.Pol (qbv A)
  | [],_=>Sr.Pol.nat 1
  | f::fs,h=>(h f (List.mem_cons_self ..)).mul (qel fun a ha=>h a (List.mem_cons_of_mem _ ha))
theorem qk1 {f:Sr} (pf:Sr.Pol f):∀ {A:List Sr} {s:Nat},(∀ a∈A,Sr.Pol a)→(∀ a∈A,Sr.Cs f a)→Sr.Cs f (qbE s A)
  | [],_,_,_=>Sr.Cs.one
  | g::fs,s,h,c=>((c g (List.mem_cons_self ..)).pow pf (h g (List.mem_cons_self ..)) s).mul pf ((h g (List.mem_cons_self ..)).pow s) (qk1 pf (fun a ha=>h a (List.mem_cons_of_mem _ ha)) fun a ha=>c a (List.mem_cons_of_mem _ ha))
theorem qk2 {f:Sr} (pf:Sr.Pol f):∀ {A:List Sr},(∀ a∈A,Sr.Pol a)→(∀ a∈A,Sr.Cs f a)→Sr.Cs f (qbv A)
  | [],_,_=>Sr.Cs.one
  | g::fs,h,c=>(c g (List.mem_cons_self ..)).mul pf (h g (List.mem_cons_self ..)) (qk2 pf (fun a ha=>h a (List.mem_cons_of_mem _ ha)) fun a ha=>c a (List.mem_cons_of_mem _ ha))
structure Aps (A:List Sr):Prop where
  pol:∀ a∈A,Sr.Pol a∧a≠0∧Sr.Cs a (Sr.D a)
  two:∀ i j,i≠j→i<A.length→j<A.length→Sr.Cs (A.getD i 1) (A.getD j 1)
theorem qbC {A:List Sr} {i:Nat} (h:i<A.length):A.getD i 1∈A:=by
  rw [List.getD_eq_getElem?_getD,List.getElem?_eq_getElem h]
  exact List.getElem_mem h
theorem qg0 {A:List Sr} {i:Nat} {a:Sr} (h:a∈A.set i 1):a=1∨∃ j,j≠i∧j<A.length∧a=A.getD j 1:=by
  obtain ⟨j,hj,rfl⟩:=List.getElem_of_mem h
  rw [List.length_set] at hj
  by_cases e:j=i
  · left;subst e;simp
  · right
    refine ⟨j,e,hj,?_⟩
    rw [List.getD_eq_getElem?_getD,List.getElem?_eq_getElem hj,List.getElem_set_ne (Ne.symm e)];rfl
theorem Aps.set_pol {A:List Sr} (h:Aps A) (i:Nat):∀ a∈A.set i 1,Sr.Pol a:=fun a ha=>by
  rcases qg0 ha with rfl | ⟨j,_,hj,rfl⟩
  · exact Sr.Pol.nat 1
  · exact (h.pol _ (qbC hj)).1
theorem Aps.often {A:List Sr} (h:Aps A) {i:Nat} (hi:i<A.length) {d r:Sr} (pd:Sr.Pol d) (pr:Sr.Pol r) (e:A.getD i 1=d*r):∃ u,Sr.Pol u∧qbE 1 A=d ^ (1+i)*u∧Sr.Cs d u:=by
  obtain ⟨pa,a0,ca⟩:=h.pol _ (qbC hi)
  have cdr:Sr.Cs d r:=Sr.Cs.parts pa pd pr (Sr.Pol.nat 1) ca (by rw [e];grind)
  have cs1:Sr.Cs (A.getD i 1) (qbE 1 (A.set i 1)):=qk1 pa (h.set_pol i) fun a ha=>by
    rcases qg0 ha with rfl | ⟨j,ji,hj,rfl⟩
    · exact Sr.Cs.one
    · exact h.two i j (Ne.symm ji) hi hj
  have cs2:Sr.Cs d (qbE 1 (A.set i 1)):=(cs1.comm.dvd pr (by rw [e];grind)).comm
  refine ⟨r ^ (1+i)*qbE 1 (A.set i 1),(pr.pow _).mul (qjy (h.set_pol i)),?_,(cdr.pow pd pr _).mul pd (pr.pow _) cs2⟩
  rw [qfj A 1 i hi,e,Sr.mul_pow];grind
theorem qk3 (f:Sr) (m:Nat):∀ n:Nat,f ^ (m+n)=f ^ m*f ^ n
  | 0=>by rw [Nat.add_zero,Sr.pow_z];grind
  | n+1=>by rw [show m+(n+1)=(m+n)+1 by omega,Sr.pow_s,qk3 f m n,Sr.pow_s];grind
theorem qjz {d u v:Sr} {c c':Rat} {i j:Nat} (pd:Sr.Pol d) (pu:Sr.Pol u) (pv:Sr.Pol v) (d0:d≠0) (c0:c≠0) (hij:i<j) (cd:Sr.Cs d u) (e:Sr.num c*(d ^ (1+i)*u)=Sr.num c'*(d ^ (1+j)*v)):∃ x:Rat,x≠0∧d=Sr.num x:=by
  obtain ⟨k,rfl⟩:∃ k,j=i+(k+1):=⟨j - i - 1,by omega⟩
  have i1:=Sr.num_inv c0
  have e2:u=d*(Sr.num c⁻¹*Sr.num c'*d ^ k*v):=by
    refine Sr.cancel pu (pd.mul ((((Sr.Pol.num _).mul (Sr.Pol.num _)).mul (pd.pow k)).mul pv)) (pd.pow (1+i)) (Sr.pow_ne pd d0 _) ?_
    have h1:u*d ^ (1+i)=Sr.num c⁻¹*(Sr.num c*(d ^ (1+i)*u)):=by
      have:Sr.num c⁻¹*(Sr.num c*(d ^ (1+i)*u))=Sr.num c⁻¹*Sr.num c*(d ^ (1+i)*u):=by grind
      rw [this,i1];grind
    rw [h1,e,show 1+(i+(k+1))=(1+i)+(k+1) by omega,qk3,Sr.pow_s];grind
  rw [e2] at cd
  exact qpL pd ((((Sr.Pol.num _).mul (Sr.Pol.num _)).mul (pd.pow k)).mul pv) cd
theorem qok {A B:List Sr} (hA:Aps A) (hB:Aps B) {c c':Rat} (c0:c≠0) (c0':c'≠0) (e:Sr.num c*qbE 1 A=Sr.num c'*qbE 1 B) {i j:Nat} (hij:i≠j) (hi:i<A.length) (hj:j<B.length):Sr.Cs (A.getD i 1) (B.getD j 1):=by
  obtain ⟨pa,a0,ca⟩:=hA.pol _ (qbC hi)
  obtain ⟨pb,b0,cb⟩:=hB.pol _ (qbC hj)
  obtain ⟨n,hn⟩:=pb.bn
  obtain ⟨d,r,w,U,W,pd,pr,pw,pU,pW,d0,e1,e2,h⟩:=Sr.gcd_ex n _ _ pa hn (.inl a0)
  obtain ⟨u,pu,eu,cu⟩:=hA.often hi pd pr e1
  obtain ⟨v,pv,ev,cv⟩:=hB.often hj pd pw e2
  have go:(∃ x:Rat,x≠0∧d=Sr.num x)→Sr.Cs (A.getD i 1) (B.getD j 1):=fun ⟨x,x0,ex⟩=>Sr.Cs.of_unit x0 ex pU pW (by
    rw [e1,e2]
    have:U*(d*r)+W*(d*w)=d*(U*r+W*w):=by grind
    rw [this,h];grind)
  rw [eu,ev] at e
  rcases Nat.lt_or_gt_of_ne hij with l | l
  · exact go (qjz pd pu pv d0 c0 l cu e)
  · exact go (qjz pd pv pu d0 c0' l cv e.symm)
theorem qrd {f g h:Sr} (pf:Sr.Pol f) (pg:Sr.Pol g) (c:Sr.Cs f h) {q:Sr} (pq:Sr.Pol q) (e:g*h=q*f):∃ p,Sr.Pol p∧g=p*f:=by
  obtain ⟨U,W,pU,pW,k⟩:=c
  refine ⟨g*U+W*q,(pg.mul pU).add (pW.mul pq),?_⟩
  have:g=g*(U*f+W*h):=by rw [k];grind
  rw [this]
  have:g*(U*f+W*h)=g*U*f+W*(g*h):=by grind
  rw [this,e];grind
theorem qk4 {A B:List Sr} (hA:Aps A) (hB:Aps B) {c c':Rat} (c0:c≠0) (c0':c'≠0) (e:Sr.num c*qbE 1 A=Sr.num c'*qbE 1 B) {q:Sr} (pq:Sr.Pol q) (er:qbv B=q*qbv A) (i:Nat):∃ p,Sr.Pol p∧B.getD i 1=p*A.getD i 1:=by
  have pB:Sr.Pol (B.getD i 1):=by
    by_cases h:i<B.length
    · exact (hB.pol _ (qbC h)).1
    · rw [List.getD_eq_getElem?_getD,List.getElem?_eq_none (by omega)];exact Sr.Pol.nat 1
  by_cases hi:i<A.length
  · obtain ⟨pa,a0,ca⟩:=hA.pol _ (qbC hi)
    have cs:Sr.Cs (A.getD i 1) (qbv (B.set i 1)):=qk2 pa (hB.set_pol i) fun a ha=>by
      rcases qg0 ha with rfl | ⟨j,ji,hj,rfl⟩
      · exact Sr.Cs.one
      · exact qok hA hB c0 c0' e (Ne.symm ji) hi hj
    refine qrd pa pB cs (q:=q*qbv (A.set i 1)) (pq.mul (qel (hA.set_pol i))) ?_
    rw [← qce,er,qce A i];grind
  · rw [List.getD_eq_getElem?_getD (l:=A),List.getElem?_eq_none (by omega)]
    exact ⟨_,pB,by show _=_*(1:Sr);grind⟩
theorem qlu {A B:List Sr} (hA:Aps A) (hB:Aps B) {c c':Rat} (c0:c≠0) (c0':c'≠0) (e:Sr.num c*qbE 1 A=Sr.num c'*qbE 1 B) {q q':Sr} (pq:Sr.Pol q) (pq':Sr.Pol q') (er:qbv B=q*qbv A) (er':qbv A=q'*qbv B) (i:Nat):∃ x:Rat,x≠0∧A.getD i 1=Sr.num x*B.getD i 1:=by
  obtain ⟨p,pp,h1⟩:=qk4 hA hB c0 c0' e pq er i
  obtain ⟨p',pp',h2⟩:=qk4 hB hA c0' c0 e.symm pq' er' i
  have B0:B.getD i 1≠0∧Sr.Pol (B.getD i 1):=by
    by_cases h:i<B.length
    · exact ⟨(hB.pol _ (qbC h)).2.1,(hB.pol _ (qbC h)).1⟩
    · rw [List.getD_eq_getElem?_getD,List.getElem?_eq_none (by omega)];exact ⟨Sr.one_ne,Sr.Pol.nat 1⟩
  have u:p'*p=1:=Sr.cancel (pp'.mul pp) (Sr.Pol.nat 1) B0.2 B0.1 (by
    rw [show p'*p*B.getD i 1=p*(p'*B.getD i 1) by grind,← h2,← h1]
    show _=(1:Sr)*_;grind)
  obtain ⟨x,x0,ex⟩:=qkZ pp' pp u
  exact ⟨x,x0,by rw [h2,ex]⟩
theorem qpM {ns:List Int} {t d:Int} (d0:d≠0):sr (ns.map fun n=>qbV (n*t) d)=Sr.num ((t:Rat) / (d:Rat))*si ns:=Sr.ext' fun k=>by
  rw [Sr.num_mul]
  show val ((ns.map fun n=>qbV (n*t) d).getD k (0,1))=_*((ns.getD k 0:Int):Rat)
  rw [List.getD_eq_getElem?_getD,List.getD_eq_getElem?_getD,List.getElem?_map]
  cases ns[k]? with
  | none=>show val (0,1)=_*((0:Int):Rat);rw [show val (0,1)=0 from zdiv _];push_cast;grind
  | some z=>
    show val (qbV (z*t) d)=_*(z:Rat)
    rw [qdq d0]
    have:=qaC d0
    push_cast
    grind
theorem qnn {H:Hp}:∀ {us:List V} {ps:List (List Nu)},PLs H us ps→RepA H us (ps.map qln)
  | [],[],_=>.nil
  | _::_,_::_,⟨⟨_,e,_,a,b⟩,r⟩=>e ▸ .cons (qpZ a b) (qnn r)
theorem qrt (ps:List (List Nu)):PySem.W.kqdOk 8 (.list (ps.map qln))=true:=by
  show (ps.map qln).all (PySem.W.kqdOk 7)=true
  rw [List.all_eq_true]
  intro x hx
  obtain ⟨p,_,rfl⟩:=List.mem_map.mp hx
  exact okP p 5
theorem qfF {H:Hp} {p a q:Addr} {n:Int} {ns:List Int} (h:Hand H p a n) (hq:H q=some (.lst (ns.map V.int))):q≠p:=fun z=>by
  obtain ⟨_,_,_,_,e,_⟩:=h
  subst z
  rw [e] at hq
  injection hq with hq
  injection hq with hq
  cases ns with
  | nil=>simp at hq
  | cons x ns=>rw [List.map_cons] at hq;injection hq with h1 _;cases h1
theorem qre {g:Nat→Int} {h:Nat} (hg:∀ k,(g k).natAbs≤h):∀ (a:List Int) (k:Nat),(cvL a g k).natAbs≤l1 a*h
  | [],k=>by show (0:Int).natAbs≤_;simp
  | x::a,0=>by
    rw [qam]
    show (x*g 0+0).natAbs≤(x.natAbs+l1 a)*h
    rw [Int.add_zero,Int.natAbs_mul,Nat.add_mul]
    have:=Nat.mul_le_mul_left x.natAbs (hg 0)
    omega
  | x::a,k+1=>by
    rw [qaj]
    have h1:=qre hg a k
    have h2:=Int.natAbs_add_le (x*g (k+1)) (cvL a g k)
    show (x*g (k+1)+cvL a g k).natAbs≤(x.natAbs+l1 a)*h
    rw [Int.natAbs_mul] at h2
    have:=Nat.mul_le_mul_left x.natAbs (hg (k+1))
    rw [Nat.add_mul]
    omega
theorem qpN {r:List Int} (lr:Lz r) (l2:r.length=2):Irr (si r):=by
  have c1:((co r 1:Int):Rat)≠0:=qaC (by have:=lr.2;rw [l2] at this;exact this)
  have br:Sr.Bn (si r) 2:=by rw [← l2];exact qke r
  have topn:∀ {A:Sr},Sr.Bn A 1→Nmb A:=fun {A} h=>⟨A.c 0,Sr.ext' fun k=>by
    cases k with
    | zero=>show A.c 0=A.c 0*1;grind
    | succ k=>rw [h (k+1) (by omega)];show (0:Rat)=A.c 0*0;grind⟩
  refine ⟨qbp r,qfE lr,fun ⟨x,e⟩=>?_,fun A B pA pB e=>?_⟩
  · have:=congrFun (congrArg Sr.c e) 1
    have this:((co r 1:Int):Rat)=x*0:=this
    exact c1 (by rw [this];grind)
  · have A0:A≠0:=fun z=>qfE lr (by rw [e,z];grind)
    have B0:B≠0:=fun z=>qfE lr (by rw [e,z];grind)
    obtain ⟨n,hn⟩:=pA.bn
    obtain ⟨n',hn'⟩:=pB.bn
    rcases Sr.top_ex n hn with z | ⟨i,_,i0,ib⟩
    · exact absurd z A0
    rcases Sr.top_ex n' hn' with z | ⟨j,_,j0,jb⟩
    · exact absurd z B0
    have t:=(Sr.top_mul ib jb).1
    rw [← e] at t
    have ij:i+j<2:=by
      rcases Nat.lt_or_ge (i+j) 2 with c | c
      · exact c
      · rw [br _ c] at t;exact absurd t.symm (num_ne' i0 j0)
    rcases Nat.eq_zero_or_pos i with z | z
    · left;rw [z] at ib;exact topn ib
    · right;have:j=0:=by omega
      rw [this] at jb;exact topn jb
theorem qrf:∀ (r:List Int) (k:Nat),(co r k).natAbs≤l1 r
  | [],k=>by rw [qat (Nat.zero_le _)];simp
  | x::r,0=>by show x.natAbs≤x.natAbs+l1 r;omega
  | x::r,k+1=>by
    have:=qrf r k
    show (co r k).natAbs≤x.natAbs+l1 r
    omega
theorem Ro.bd {r:List Int} (h:Ro r) (k:Nat):Bd 12 (co r k):=by
  have h1:=qrf r k
  have h2:=h.sm
  have h3:2 ^ (4*(r.length - 1))≤2 ^ 12:=Nat.pow_le_pow_right (by decide) (by have:=h.l4;omega)
  show _<2 ^ 12
  omega
theorem Ro.bz {r:List Int} (h:Ro r):∀ z∈r,Bd 12 z:=qkU h.bd
theorem qol {r s:List Int} {b b':Nat} (lr:Lz r) (ls:Lz s) (br:∀ k,Bd b (co r k)) (bs:∀ k,Bd b' (co s k)) {x:Rat} (x0:x≠0) (e:si r=Sr.num x*si s):mnc r=mnc s:=by
  have i2:=Sr.num_inv (qaC ls.2)
  have x1:((co r (r.length - 1):Int):Rat)⁻¹*x*((co s (s.length - 1):Int):Rat)≠0:=num_ne' (num_ne' (qjw (qaC lr.2)) x0) (qaC ls.2)
  refine qiI (qiK lr br) (qiK ls bs) x1 ?_
  rw [qhT lr,qhT ls,e,← Sr.num_num,← Sr.num_num]
  have:Sr.num ((co r (r.length - 1):Int):Rat)⁻¹*Sr.num x*Sr.num ((co s (s.length - 1):Int):Rat)*(Sr.num ((co s (s.length - 1):Int):Rat)⁻¹*si s)=Sr.num ((co r (r.length - 1):Int):Rat)⁻¹*Sr.num x*(Sr.num ((co s (s.length - 1):Int):Rat)⁻¹*Sr.num ((co s (s.length - 1):Int):Rat))*si s:=by grind
  rw [this,i2];grind
theorem qrZ {r s:List Int} (hr:Ro r) (hs:Ro s) (ne:mnc r≠mnc s):Sr.Cs (si r) (si s):=qrb hr.ir hs.ir fun x e=>ne (qol hr.lz hs.lz hr.bd hs.bd (fun z=>qfE hr.lz (by rw [e,z];exact Sr.ext' fun k=>by rw [Sr.num_mul,Sr.zero_c];grind)) e)
theorem qrg {t d:Int} (d0:0<d) (d6:d≤6) (t9:t.natAbs≤9):Ro [-t,d]:=by
  have lz:Lz [-t,d]:=⟨by simp,by show d≠0;omega⟩
  refine ⟨lz,by simp,by simp,?_,qpN lz rfl⟩
  show (-t).natAbs+(d.natAbs+0)<2 ^ 4
  omega
theorem qpO {r:List Int} (l3:r.length=3∨r.length=4) (f:∃ x:Int,co r 0=2*(2*x - 7)∧0≤x∧x≤6) (m:∀ k,1≤k→k<r.length - 1→∃ y:Int,co r k=2*(y - 3)∧0≤y∧y≤6) (o:co r (r.length - 1)=1∨co r (r.length - 1)=3):Ro r:=by
  obtain ⟨x,ex,x0,x6⟩:=f
  have lz:Lz r:=⟨by omega,by omega⟩
  refine ⟨lz,by omega,by omega,?_,qoj lz (by omega) (fun k hk=>?_) (by omega) (by rw [ex];omega)⟩
  · rcases l3 with h | h
    · obtain ⟨a,b,c,rfl⟩:∃ a b c,r=[a,b,c]:=by
        match r,h with
        | [a,b,c],_=>exact ⟨a,b,c,rfl⟩
      obtain ⟨y,ey,y0,y6⟩:=m 1 (by decide) (by show 1<2;decide)
      have ex:a=2*(2*x - 7):=ex
      have ey:b=2*(y - 3):=ey
      have o:c=1∨c=3:=o
      show a.natAbs+(b.natAbs+(c.natAbs+0))<2 ^ 8
      omega
    · obtain ⟨a,b,c,d,rfl⟩:∃ a b c d,r=[a,b,c,d]:=by
        match r,h with
        | [a,b,c,d],_=>exact ⟨a,b,c,d,rfl⟩
      obtain ⟨y,ey,y0,y6⟩:=m 1 (by decide) (by show 1<3;decide)
      obtain ⟨z,ez,z0,z6⟩:=m 2 (by decide) (by show 2<3;decide)
      have ex:a=2*(2*x - 7):=ex
      have ey:b=2*(y - 3):=ey
      have ez:c=2*(z - 3):=ez
      have o:d=1∨d=3:=o
      show a.natAbs+(b.natAbs+(c.natAbs+(d.natAbs+0)))<2 ^ 12
      omega
  · cases k with
    | zero=>rw [ex];exact ⟨_,rfl⟩
    | succ k=>
      obtain ⟨y,ey,_,_⟩:=m (k+1) (by omega) hk
      rw [ey];exact ⟨_,rfl⟩
theorem qno (h:qcz K vs H Q E):qiu K { nx:=fun _ H'=>Q .non H',rt:=Q } (L2.start ["_law_hand_here", "_law_great", "_law_top", "_law_bottom"] vs) H:=by
  obtain ⟨p,a,n,rfl,hh,n9,k⟩:=h
  unfold qiu
  rwa []
  refine ⟨a,n,hh,by omega,by decide,by decide,fun x H1 x0 x1 h1 k1=>?_⟩
  unfold qhN
  rwa []
  refine ⟨a,n+2,h1,by omega,by decide,by decide,fun y H2 y0 y1 h2 k2=>?_⟩
  unfold qhM
  rwa []
  unfold qhL
  rwa []
  refine ⟨by omega,fun r hr=>?_⟩
  have s:=qag hr (HO.tup [V.int (qbV (x - 9) (1+y)).1,V.int (qbV (x - 9) (1+y)).2])
  have e:qbV (x - 9) (1+y)=red (x - 9) (1+y):=qn7 (by omega)
  have lm:=qdo (a:=x - 9) (b:=1+y) (by omega)
  refine k r _ _ _ upd_same (qcQ (by omega)) (by rw [e];exact Nat.le_trans lm.2.1 (by omega)) ?_ ((h2.same s).mono (by omega)) ((k1.trans k2).same s)
  have p0:=lm.1.pos
  have q0:=lm.2.2.1
  rw [e]
  show (1+y) / _≤6
  omega
theorem qiM (h:qbm K vs H Q E):qej K { nx:=fun _ H'=>Q .non H',rt:=Q } (L2.start ["_law_hand_here", "_law_size", "_law_row", "_law_k"] vs) H:=by
  obtain ⟨p,a,m,n,rfl,hh,n9,m2,m3,k⟩:=h
  unfold qej
  rwa []
  refine ⟨a,n,hh,by omega,by decide,by decide,fun x H1 x0 x1 h1 k1=>⟨qp0 (by decide) (by decide),qp0 (by decide) (by decide),sz (by decide),fun w hw=>?_⟩⟩
  have sw:=qag hw (HO.lst [V.int (2*(2*x - 7))])
  have wp:=h1.ne hw
  have wa:=h1.ne2 hw
  have w0:H w=none:=by
    cases e:H w with
    | none=>rfl
    | some o=>have z:=k1 _ _ wp e;rw [hw] at z;cases z
  unfold qex
  rwa []
  refine ⟨by omega,by omega,ForR.by (fun i σ H'=>i≤(m - 1).toNat∧∃ (rs:List Int) (x3:Option V),σ=[some (.ref p),some (.int m),some (.ref w),x3]∧H' w=some (.lst (rs.map V.int))∧rs.length=i+1∧co rs 0=2*(2*x - 7)∧(∀ j,1≤j→j≤i→∃ y:Int,co rs j=2*(y - 3)∧0≤y∧y≤6)∧Hand H' p a (n+2+2*i)∧Kp p H H') ⟨Nat.zero_le _,[2*(2*x - 7)],none,rfl,upd_same,rfl,rfl,fun j h1 h2=>absurd h1 (by omega),(h1.same sw).mono (by omega),k1.same sw⟩ ?_ ?_⟩
  · rintro i σ H2 hi ⟨_,rs,x3,rfl,hw2,lr,r0,rj,h2,k2⟩
    rwa [hw2]
    refine ⟨qfs hw2,a,_,h2,by omega,by decide,by decide,fun y H3 y0 y1 h3 k3=>?_⟩
    have hw3:=k3 _ _ wp hw2
    have cs:∀ j,j<rs.length→co (rs++[2*(y - 3)]) j=co rs j:=fun j hj=>by unfold co;rw [List.getD_eq_getElem?_getD,List.getD_eq_getElem?_getD,List.getElem?_append_left hj]
    have cl:co (rs++[2*(y - 3)]) rs.length=2*(y - 3):=by unfold co;rw [List.getD_eq_getElem?_getD];simp
    refine ⟨qp0 (by decide) (by decide),_,hw3,Nat.lt_of_le_of_lt (show _≤1000 by rw [List.length_map];omega) (by rw [sizeLine_eq];omega),by omega,rs++[2*(y - 3)],by rw [List.map_append];rfl,by rw [List.length_append,lr];rfl,by rw [cs 0 (by omega)];exact r0,fun j j1 j2=>?_,(h3.upd wp wa).mono (by push_cast;omega),fun b o nb hb=>?_⟩
    · rcases Nat.lt_or_ge j rs.length with c | c
      · obtain ⟨y',e',a',b'⟩:=rj j j1 (by omega)
        exact ⟨y',by rw [cs j c];exact e',a',b'⟩
      · have:j=rs.length:=by omega
        exact ⟨y,by rw [this,cl],y0,by omega⟩
    · exact Kp.upd b o (qau hb w0) ((k2.trans k3) b o nb hb)
  · rintro σ H2 ⟨_,rs,x3,rfl,hw2,lr,r0,rj,h2,k2⟩
    unfold qew
    rwa []
    refine ⟨a,_,h2,by omega,by decide,by decide,fun y H3 y0 y1 h3 k3=>?_⟩
    have hw3:=k3 _ _ wp hw2
    refine ⟨qp0 (by decide) (by decide),sz (by decide),fun v hv=>?_⟩
    have sv:=qag hv (HO.lst [V.int (1+2*y)])
    refine ⟨_,sv _ _ hw3,sz (by rw [List.length_map];omega),fun r hr=>?_⟩
    have sr:=qag hr (HO.lst (rs.map V.int++[V.int (1+2*y)]))
    have cs:∀ j,j<rs.length→co (rs++[1+2*y]) j=co rs j:=fun j hj=>by unfold co;rw [List.getD_eq_getElem?_getD,List.getD_eq_getElem?_getD,List.getElem?_append_left hj]
    have cl:co (rs++[1+2*y]) rs.length=1+2*y:=by unfold co;rw [List.getD_eq_getElem?_getD];simp
    have ll:(rs++[1+2*y]).length=rs.length+1:=by rw [List.length_append];rfl
    refine k r (rs++[1+2*y]) _ (upd_same.trans (by rw [List.map_append];rfl)) (qpO (by omega) ⟨x,by rw [cs 0 (by omega)];exact r0,x0,by omega⟩ (fun j j1 j2=>?_) (by rw [ll,Nat.add_sub_cancel,cl];omega)) (((h3.same sv).same sr).mono (by omega)) (((k2.trans k3).same sv).same sr)
    obtain ⟨y',e',a',b'⟩:=rj j j1 (by omega)
    exact ⟨y',by rw [cs j (by omega)];exact e',a',b'⟩
theorem FLs.length {H:Hp}:∀ {us:List V} {fs:List (List Int×Nat)},FLs H us fs→us.length=fs.length
  | [],[],_=>rfl
  | _::us,_::fs,⟨_,r⟩=>by rw [List.length_cons,List.length_cons,FLs.length r]
theorem FLs.at {H:Hp}:∀ {us:List V} {fs:List (List Int×Nat)} {i:Nat} {v:V},FLs H us fs→us[i]?=some v→∃ x t r,fs[i]?=some x∧v=.ref t∧H t=some (.tup [.ref r,.int (x.2:Int)])∧H r=some (.lst (x.1.map V.int))
  | _::us,x::fs,0,v,⟨⟨t,r,e,a,b⟩,_⟩,h=>by
    obtain rfl:=Option.some.inj h
    exact ⟨x,t,r,rfl,e,a,b⟩
  | _::us,_::fs,i+1,v,⟨_,r⟩,h=>FLs.at (i:=i) r h
theorem FLs.keep {H H':Hp}:∀ {us:List V} {fs:List (List Int×Nat)},FLs H us fs→(∀ b xs,H b=some (.tup xs)→H' b=some (.tup xs))→(∀ b,∀ row:List Int,row≠[]→H b=some (.lst (row.map V.int))→H' b=some (.lst (row.map V.int)))→(∀ x∈fs,x.1≠[])→FLs H' us fs
  | [],[],_,_,_,_=>trivial
  | _::us,x::fs,⟨⟨t,r,e,a,b⟩,h⟩,k1,k2,k3=>⟨⟨t,r,e,k1 _ _ a,k2 _ _ (k3 x (List.mem_cons_self ..)) b⟩,FLs.keep h k1 k2 fun y hy=>k3 y (List.mem_cons_of_mem _ hy)⟩
theorem FLs.same {H H':Hp} {us:List V} {fs:List (List Int×Nat)} (h:FLs H us fs) (s:Same H H') (k3:∀ x∈fs,x.1≠[]):FLs H' us fs:=h.keep (fun b xs q=>s b _ q) (fun b row _ q=>s b _ q) k3
theorem FLs.snoc {H:Hp} {v:V} {x:List Int×Nat}:∀ {us:List V} {fs:List (List Int×Nat)},FLs H us fs→(∃ t r,v=.ref t∧H t=some (.tup [.ref r,.int (x.2:Int)])∧H r=some (.lst (x.1.map V.int)))→FLs H (us++[v]) (fs++[x])
  | [],[],_,h=>⟨h,trivial⟩
  | _::us,_::fs,⟨a,r⟩,h=>⟨a,FLs.snoc r h⟩
theorem Fcs.ne {fs:List (List Int×Nat)} (h:Fcs fs):∀ x∈fs,x.1≠[]:=fun x hx=>List.length_pos_iff.mp (by have:=(h.each x hx).1.l2;omega)
theorem qpP {H:Hp} {w b:Addr} {us:List V} {fs:List (List Int×Nat)} {row:List Int} (hw:H w=some (.lst us)) (hf:FLs H us fs) (r0:row≠[]) (hb:H b=some (.lst (row.map V.int))):b≠w:=fun e=>by
  subst e
  rw [hw] at hb
  injection hb with hb
  injection hb with hb
  cases row with
  | nil=>exact r0 rfl
  | cons z row=>
    cases us with
    | nil=>simp at hb
    | cons u us=>
      cases fs with
      | nil=>exact hf
      | cons x fs=>
        obtain ⟨⟨t,_,e,_,_⟩,_⟩:=hf
        rw [List.map_cons] at hb
        injection hb with h1 _
        rw [e] at h1;cases h1
theorem qg1 (x:List Int×Nat):∀ fs:List (List Int×Nat),degs (fs++[x])=degs fs+(x.1.length - 1)*x.2
  | []=>by show (x.1.length - 1)*x.2+0=0+_;omega
  | y::fs=>by show (y.1.length - 1)*y.2+degs (fs++[x])=(y.1.length - 1)*y.2+degs fs+_;rw [qg1 x fs];omega
theorem qk5:∀ fs:List (List Int×Nat),(fs.map fun x:List Int×Nat=>((x.1.length:Int) - 1)*(x.2:Int)).sum=(degs fs:Int)∨∃ x∈fs,x.1.length=0
  | []=>.inl rfl
  | x::fs=>by
    rcases qk5 fs with h | ⟨y,hy,h⟩
    · rcases Nat.eq_zero_or_pos x.1.length with z | z
      · exact .inr ⟨x,List.mem_cons_self ..,z⟩
      · left
        rw [List.map_cons,List.sum_cons,h]
        show _=(((x.1.length - 1)*x.2+degs fs:Nat):Int)
        push_cast
        rw [Int.natCast_sub (by omega)]
        rfl
    · exact .inr ⟨y,List.mem_cons_of_mem _ hy,h⟩
theorem PLs.in' {H:Hp}:∀ {us:List V} {ps:List (List Nu)},PLs H us ps→RepA H us (ps.map qln)
  | [],[],_=>.nil
  | _::_,_::_,⟨⟨_,e,_,a,b⟩,r⟩=>e ▸ .cons (qpZ a b) (PLs.in' r)
theorem FLs.kp {H H':Hp} {p a:Addr} {n:Int} {us:List V} {fs:List (List Int×Nat)} (h:FLs H us fs) (hd:Hand H p a n) (k:Kp p H H') (k3:∀ x∈fs,x.1≠[]):FLs H' us fs:=by
  refine h.keep (fun b xs q=>k b _ (fun e=>?_) q) (fun b row _ q=>k b _ (qfF hd q) q) k3
  obtain ⟨_,_,_,_,hp,_⟩:=hd
  subst e
  rw [hp] at q;cases q
noncomputable def FInv (H:Hp) (p w a:Addr) (most n:Int) (c i:Nat):L2.St→Hp→Prop:=fun σ H'=>i≤c∧∃ (us:List V) (fs:List (List Int×Nat)) (x3 x4 x5 x6 x7 x8:Option V),σ=[some (.ref p),some (.ref w),some (.int most),x3,x4,x5,x6,x7,x8]∧H' w=some (.lst us)∧FLs H' us fs∧Fcs fs∧fs.length≤i∧Hand H' p a (n+4+40*i)∧Kp p H H'
theorem qjA (h:qbz K vs H Q E):qeO K { nx:=fun _ H'=>Q .non H',rt:=Q } (L2.start ["_law_hand_here", "_law_factors_here", "_law_most", "_law_k", "_law_root_here", "_law_row", "_law_often", "_law_known", "_law_grown"] vs) H:=by
  obtain ⟨p,a,n,rfl,hh,n9,k⟩:=h
  unfold qeO
  rwa []
  refine ⟨sz (by decide),fun w hw=>?_⟩
  have sw:=qag hw (HO.lst [])
  have wp:=hh.ne hw
  have wa:=hh.ne2 hw
  have hw1:upd H w (HO.lst []) w=some (HO.lst []):=upd_same
  have h1:=hh.same sw
  generalize upd H w (HO.lst [])=H1 at sw hw1 h1 ⊢
  unfold qfd
  rwa []
  refine ⟨sz (by decide),fun v hv=>?_⟩
  have sv:=qag hv (HO.lst [V.int 8,V.int 4])
  refine ⟨a,n,h1.same sv,by omega,by decide,by decide,fun d H2 d0 d1 h2 k2=>?_⟩
  have vp:=h1.ne hv
  have hv2:H2 v=some (HO.lst [V.int 8,V.int 4]):=k2 _ _ vp upd_same
  have hw2:H2 w=some (HO.lst []):=k2 _ _ wp (sv _ _ hw1)
  obtain ⟨most,hm,m1,m8⟩:∃ most:Int,atI [V.int 8,V.int 4] (if 0<d then 1 else 0)=some (V.int most)∧1≤most∧most≤8:=by
    split
    · exact ⟨4,rfl,by decide,by decide⟩
    · exact ⟨8,rfl,by decide,by decide⟩
  refine ⟨_,hv2,_,hm,?_⟩
  have K2:Kp p H H2:=((Kp.of_same sw).same sv).trans k2
  unfold qfc
  rwa []
  refine ⟨a,_,h2,by omega,by decide,by decide,fun c H3 c0 c1 h3 k3=>⟨by omega,by omega,?_⟩⟩
  refine ForR.by (fun i=>FInv H p w a most n c.toNat i)
    ⟨Nat.zero_le _,[],[],none,none,none,none,none,none,rfl,k3 _ _ wp hw2,trivial,⟨(fun _ h=>nomatch h),.nil,Nat.zero_le _,Nat.zero_le _⟩,Nat.zero_le _,h3.mono (by omega),K2.trans k3⟩ ?_ ?_
  · rintro i σ H4 hi ⟨_,us,fs,x3,x4,x5,x6,x7,x8,rfl,hw4,fl4,fc,fi,h4,k4⟩
    have i4:i<4:=by omega
    have fne:=fc.ne
    have go:∀ (rr:Addr) (row:List Int) (x3 x4:Option V) (H5:Hp),H5 rr=some (.lst (row.map V.int))→Ro row→H5 w=some (.lst us)→FLs H5 us fs→Hand H5 p a (n+4+40*i+30)→Kp p H H5→qcm K { nx:=FInv H p w a most n c.toNat (i+1),rt:=Q,bk:=qdy K { nx:=fun _ H'=>Q V.non H',rt:=Q },ct:=FInv H p w a most n c.toNat (i+1) } [some (.ref p),some (.ref w),some (.int most),x3,x4,some (.ref rr),x6,x7,x8] H5:=fun rr row x3 x4 H5 hr ro hw5 fl5 h5 k5=>by
      unfold qcm
      rwa []
      refine ⟨a,_,h5,by omega,by omega,by omega,fun dd H6 e0 e1 h6 k6=>?_⟩
      have hr6:=k6 _ _ (qfF h5 hr) hr
      have hw6:=k6 _ _ wp hw5
      have fl6:=fl5.kp h5 k6 fne
      obtain ⟨e,ee⟩:∃ e:Nat,1+dd=(e:Int):=⟨(1+dd).toNat,by omega⟩
      rw [ee]
      have lus:=fl6.length
      unfold qdN
      rwa []
      refine ⟨⟨_,SqL.of hw6⟩,CompJ.lst (xs:=us) (fun j ys H'=>j≤fs.length∧Same H6 H'∧PLs H' ys ((fs.take j).map fun x:List Int×Nat=>mnc x.1)) ⟨Nat.zero_le _,Same.refl H6,trivial⟩ ?_ ?_ ?_⟩
      · rintro j ys H' ⟨j1,s7,hp⟩
        exact ⟨by omega,sz (by rw [hp.length,List.length_map,List.length_take];omega),SqL.of (s7 _ _ hw6)⟩
      · rintro j x ys H7 hx ⟨j1,s7,hp⟩
        obtain ⟨y,t,r,hy,rfl,ht,hr'⟩:=fl6.at hx
        have ht7:=s7 _ _ ht
        have hr7:=s7 _ _ hr'
        have my:=List.mem_of_getElem? hy
        have lj:j<fs.length:=(List.getElem?_eq_some_iff.mp hy).1
        have ry:=(fc.each y my).1
        rwa [ht7,hr7]
        refine ⟨y.1,rfl,ry.lz,by have:=ry.l4;omega,fun o zs H8 s8 ho nz=>⟨by omega,s7.trans s8,?_⟩⟩
        rw [List.take_add_one,hy,List.map_append]
        exact (hp.tp (tpS s8)).snoc ⟨zs,ho,nz⟩
      · rintro ys H7 ⟨_,s7,hp⟩ kn hkn
        rw [lus,List.take_length] at hp
        have sk:=qag hkn (HO.lst ys)
        have hk8:upd H7 kn (HO.lst ys) kn=some (HO.lst ys):=upd_same
        have hp8:=hp.tp (tpS sk)
        have s8:=s7.trans sk
        generalize upd H7 kn (HO.lst ys)=H8 at sk hk8 hp8 s8 ⊢
        unfold qdM
        rwa []
        refine ⟨⟨_,SqL.of (s8 _ _ hw6)⟩,CompJ.lst (xs:=us) (fun j ys H'=>j≤fs.length∧H'=H8∧ys=((fs.take j).map fun x:List Int×Nat=>((x.1.length:Int) - 1)*(x.2:Int)).map V.int) ⟨Nat.zero_le _,rfl,rfl⟩ ?_ ?_ ?_⟩
        · rintro j ys H' ⟨j1,rfl,rfl⟩
          exact ⟨by omega,sz (by rw [List.length_map,List.length_map,List.length_take];omega),SqL.of (s8 _ _ hw6)⟩
        · rintro j x ys _ hx ⟨j1,rfl,rfl⟩
          obtain ⟨y,t,r,hy,rfl,ht,hr'⟩:=fl6.at hx
          have ht8:=s8 _ _ ht
          have hr8:=s8 _ _ hr'
          have my:=List.mem_of_getElem? hy
          have lj:j<fs.length:=(List.getElem?_eq_some_iff.mp hy).1
          have ry:=(fc.each y my)
          rwa [ht8,hr8]
          refine ⟨qrr (by omega) (by omega),by omega,?_⟩
          rw [List.take_add_one,hy,List.map_append,List.map_append,List.length_map]
          rfl
        · rintro ys _ ⟨_,rfl,rfl⟩ g hg
          rw [lus,List.take_length]
          have sg:=qag hg (HO.lst ((fs.map fun x:List Int×Nat=>((x.1.length:Int) - 1)*(x.2:Int)).map V.int))
          have ds:(fs.map fun x:List Int×Nat=>((x.1.length:Int) - 1)*(x.2:Int)).sum=(degs fs:Int):=by
            rcases qk5 fs with h | ⟨y,hy,h⟩
            · exact h
            · have:=(fc.each y hy).1.l2;omega
          rwa []
          refine ⟨_,rfl,?_⟩
          rw [ds]
          have s9:=s8.trans sg
          have hr9:=s9 _ _ hr6
          have hw9:=s9 _ _ hw6
          have fl9:=fl6.same s9 fne
          have h9:=h6.same s9
          have k9:Kp p H _:=(k5.trans k6).same s9
          have hk9:=sg _ _ hk8
          have hp9:=hp8.tp (tpS sg)
          generalize upd _ g (HO.lst ((fs.map fun x:List Int×Nat=>((x.1.length:Int) - 1)*(x.2:Int)).map V.int))=H9 at sg s9 hr9 hw9 fl9 h9 k9 hk9 hp9 ⊢
          have stay:∀ (x6 x7 x8:Option V) (H':Hp),Same H9 H'→FInv H p w a most n c.toNat (i+1) [some (.ref p),some (.ref w),some (.int most),x3,x4,some (.ref rr),x6,x7,x8] H':=fun x6 x7 x8 H' s'=>⟨by omega,us,fs,x3,x4,_,x6,x7,x8,rfl,s' _ _ hw9,fl9.same s' fne,fc,by omega,(h9.same s').mono (by push_cast;omega),k9.same s'⟩
          unfold qdL
          rwa [hr9]
          refine ⟨row,rfl,ro.lz,by have:=ro.l4;omega,fun o zs H10 s10 ho no=>?_⟩
          have hp10:=hp9.tp (tpS s10)
          refine ⟨kn,ys,qln (mnc row),(fs.map fun x:List Int×Nat=>mnc x.1).map qln,decide (mnc row∈fs.map fun x:List Int×Nat=>mnc x.1),rfl,s10 _ _ hk9,qpZ ho no,hp10.in',okP _ 6,fun x hx=>?_,?_,?_⟩
          · obtain ⟨y,_,rfl⟩:=List.mem_map.mp hx
            exact okP y 6
          · rw [decide_eq_true_eq]
            constructor
            · intro h;exact List.mem_map.mpr ⟨_,h,rfl⟩
            · intro h
              obtain ⟨y,hy,e⟩:=List.mem_map.mp h
              rw [← qkX e];exact hy
          rw [if_pos rfl]
          refine ⟨_,rfl,qcM (fun c1=>?_) (fun _=>stay _ _ _ H10 s10)⟩
          have nin:mnc row∉fs.map fun x:List Int×Nat=>mnc x.1:=by simpa using c1
          have r2:=ro.l2
          have r4:=ro.l4
          have hw10:=s10 _ _ hw9
          refine ⟨_,s10 _ _ hr9,qrr (by omega) (by omega),qcM (fun c2=>⟨qfs hw10,sz (by decide),fun t ht=>?_⟩) (fun _=>stay _ _ _ H10 s10)⟩
          rw [List.length_map] at c2
          have st:=qag ht (HO.tup [V.ref rr,V.int (e:Int)])
          have hw11:=st _ _ hw10
          have s11:=s10.trans st
          have fl11:=fl9.same s11 fne
          have hr11:=s11 _ _ hr9
          have h11:=h9.same s11
          have hin:upd H10 t (HO.tup [V.ref rr,V.int (e:Int)]) t=some (HO.tup [V.ref rr,V.int (e:Int)]):=upd_same
          have k11:=k9.same s11
          generalize upd H10 t (HO.tup [V.ref rr,V.int (e:Int)])=H11 at hw11 fl11 hr11 h11 hin k11 ⊢
          have r0:row≠[]:=List.length_pos_iff.mp (by omega)
          have keepL:∀ b,∀ row:List Int,row≠[]→H11 b=some (.lst (row.map V.int))→upd H11 w (HO.lst (us++[V.ref t])) b=some (.lst (row.map V.int)):=fun b row r0 hb=>by rw [qaw (qpP hw11 fl11 r0 hb)];exact hb
          have keepT:∀ b xs,H11 b=some (.tup xs)→upd H11 w (HO.lst (us++[V.ref t])) b=some (.tup xs):=fun b xs hb=>by rw [qaw (fun z=>by rw [z,hw11] at hb;cases hb)];exact hb
          refine ⟨us,hw11,Nat.lt_of_le_of_lt (show _≤1000 by omega) (by rw [sizeLine_eq];omega),by omega,us++[.ref t],fs++[(row,e)],x3,x4,_,_,_,_,rfl,upd_same,(fl11.keep keepT keepL fne).snoc ⟨t,rr,rfl,keepT _ _ hin,keepL _ _ r0 hr11⟩,⟨fun x hx=>?_,?_,?_,?_⟩,by rw [List.length_append];show fs.length+1≤_;omega,(h11.upd wp wa).mono (by push_cast;omega),fun b o nb hb=>?_⟩
          · rcases List.mem_append.mp hx with h | h
            · exact fc.each x h
            · rw [List.mem_singleton.mp h];exact ⟨ro,by show 1≤e;omega,by show e≤8;omega⟩
          · refine List.pairwise_append.mpr ⟨fc.two,List.pairwise_singleton ..,fun x hx y hy=>?_⟩
            rw [List.mem_singleton.mp hy]
            exact fun z=>nin (List.mem_map.mpr ⟨x,hx,z⟩)
          · rw [qg1]
            show degs fs+(row.length - 1)*e≤8
            have:(((row.length - 1)*e:Nat):Int)=((row.length:Int) - 1)*(e:Int):=by push_cast;rw [Int.natCast_sub (by omega)];rfl
            omega
          · rw [List.length_append];show fs.length+1≤4;omega
          · exact Kp.upd b o (qau hb hw) (k11 b o nb hb)
    unfold qdQ
    rwa []
    refine ⟨a,_,h4,by omega,fun r t dd H5 hr lt t9 d6 h5 k5=>?_⟩
    unfold qdP
    rwa [hr]
    refine ⟨sz (by decide),fun rr hrr=>?_⟩
    have sr:=qag hrr (HO.lst [V.int (-t),V.int dd])
    have hw6:=sr _ _ (k5 _ _ wp hw4)
    have fl6:=(fl4.kp h4 k5 fne).same sr fne
    have h6:=h5.same sr
    have hr6:upd H5 rr (HO.lst [V.int (-t),V.int dd]) rr=some (.lst ([-t,dd].map V.int)):=upd_same
    have k6:=(k4.trans k5).same sr
    generalize upd H5 rr (HO.lst [V.int (-t),V.int dd])=H6 at hw6 fl6 h6 hr6 k6 ⊢
    unfold qdO
    rwa []
    refine ⟨a,_,h6,by omega,by decide,by decide,fun b H7 b0 b1 h7 k7=>qcM (fun _=>?_) (fun _=>?_)⟩
    · refine ⟨a,_,h7,by omega,by decide,by decide,fun b' H8 c0' c1' h8 k8=>⟨a,_,h8,by omega,by omega,by omega,fun r9 row H9 h9r ro h9 k9=>?_⟩⟩
      have f8:=(fl6.kp h6 k7 fne).kp h7 k8 fne
      exact go r9 row _ _ H9 h9r ro (k9 _ _ wp (k8 _ _ wp (k7 _ _ wp hw6))) (f8.kp h8 k9 fne) (h9.mono (by omega)) (((k6.trans k7).trans k8).trans k9)
    · exact go rr [-t,dd] _ _ H7 (k7 _ _ (qfF h6 hr6) hr6) (qrg lt.pos d6 t9) (k7 _ _ wp hw6) (fl6.kp h6 k7 fne) (h7.mono (by omega)) (k6.trans k7)
  · rintro σ H4 ⟨_,us,fs,x3,x4,x5,x6,x7,x8,rfl,hw4,fl4,fc,fi,h4,k4⟩
    unfold qdy
    rwa []
    exact k w us fs H4 hw4 fl4 fc wp (h4.mono (by omega)) k4
theorem qk6 {α:Type} [Lean.Grind.CommRing α] (x:α) (b:Nat→α):∀ (a:List α) (k:Nat),cvL (a++[x]) b k=cvL a b k+(if a.length≤k then x*b (k - a.length) else 0)
  | [],0=>by show x*b 0+0=0+(if 0≤0 then x*b 0 else 0);rw [if_pos (Nat.le_refl 0)];grind
  | [],k+1=>by show x*b (k+1)+0=0+(if 0≤k+1 then x*b (k+1) else 0);rw [if_pos (Nat.zero_le _)];grind
  | y::a,0=>by
    show y*b 0+0=y*b 0+0+(if a.length+1≤0 then _ else 0)
    rw [if_neg (by omega)]
    grind
  | y::a,k+1=>by
    show y*b (k+1)+cvL (a++[x]) b k=y*b (k+1)+cvL a b k+(if a.length+1≤k+1 then x*b (k+1 - (a.length+1)) else 0)
    rw [qk6 x b a k,show k+1 - (a.length+1)=k - a.length by omega]
    have e:(a.length+1≤k+1)↔(a.length≤k):=by omega
    simp only [e]
    grind
theorem qnp (a b:List Int) (k:Nat):∀ i,i≤a.length→ps a b i k=cvL (a.take i) (co b) k
  | 0,_=>rfl
  | i+1,h=>by
    have hi:i<a.length:=by omega
    show ps a b i k+_=_
    rw [qnp a b k i (by omega),List.take_add_one,List.getElem?_eq_getElem hi,Option.toList_some,qk6,List.length_take,Nat.min_eq_left (by omega)]
    congr 1
    have e:a.getD i 0=a[i]:=by rw [List.getD_eq_getElem?_getD,List.getElem?_eq_getElem hi];rfl
    rw [e]
    by_cases c1:i≤k
    · rw [if_pos c1]
      by_cases c2:k - i<b.length
      · rw [if_pos ⟨c1,c2⟩];rfl
      · rw [if_neg (fun z=>c2 z.2),qat (by omega)];omega
    · rw [if_neg c1,if_neg (fun z=>c1 z.1)]
theorem qom {a b c:List Int} {n:Nat} (ba:∀ z∈a,Bd n z) (hb:Ro b) (e:∀ k,co c k=ps a b a.length k):si c=si a*si b∧∀ z∈c,Bd (n+4*(b.length - 1)) z:=by
  have e2:∀ k,co c k=cvL a (co b) k:=fun k=>by rw [e k,qnp a b k a.length (Nat.le_refl _),List.take_length]
  refine ⟨qfh e2,qkU fun k=>?_⟩
  rw [e2 k,qba]
  have h1:=qre (h:=2 ^ n) (fun j=>Nat.le_of_lt (qa9 ba j)) b k
  have h2:=hb.sm
  show _<2 ^ _
  rw [Nat.pow_add,Nat.mul_comm]
  exact Nat.lt_of_le_of_lt h1 (Nat.mul_lt_mul_of_pos_right h2 (Nat.pow_pos (by decide)))
theorem qjB (s:Nat):∀ (A:List Sr),qbE s (A++[1])=qbE s A
  | []=>by show (1:Sr) ^ s*1=1;rw [qnm];grind
  | f::A=>by show f ^ s*qbE (s+1) (A++[1])=f ^ s*qbE (s+1) A;rw [qjB (s+1) A]
theorem qjC:∀ (A:List Sr),qbv (A++[1])=qbv A
  | []=>by show (1:Sr)*1=1;grind
  | f::A=>by show f*qbv (A++[1])=f*qbv A;rw [qjC A]
theorem qnq {A:List Sr} {s j:Nat} {f:Sr} (h:j<A.length):qbE s (A.set j (A.getD j 1*f))=f ^ (s+j)*qbE s A:=by
  have e:=qfj (A.set j (A.getD j 1*f)) s j (by rw [List.length_set];exact h)
  have g:(A.set j (A.getD j 1*f)).getD j 1=A.getD j 1*f:=by
    rw [List.getD_eq_getElem?_getD (l:=A.set j _),List.getElem?_set_self h];rfl
  rw [e,g,List.set_set,Sr.mul_pow,qfj A s j h];grind
theorem qnr {A:List Sr} {j:Nat} {f:Sr} (h:j<A.length):qbv (A.set j (A.getD j 1*f))=f*qbv A:=by
  have e:=qce (A.set j (A.getD j 1*f)) j
  have g:(A.set j (A.getD j 1*f)).getD j 1=A.getD j 1*f:=by
    rw [List.getD_eq_getElem?_getD (l:=A.set j _),List.getElem?_set_self h];rfl
  rw [e,g,List.set_set,qce A j];grind
theorem qon:si [1]=1:=Sr.ext' fun k=>by
  rw [qoh]
  cases k with
  | zero=>rfl
  | succ k=>show ((co [1] (k+1):Int):Rat)=0;rw [qat (by simp)];rfl
noncomputable def sx (x:List Int×Nat):Sr×Nat:=(si x.1,x.2)
theorem qfG (x:Sr×Nat):∀ fs:List (Sr×Nat),qf3 (fs++[x])=qf3 fs*x.1 ^ x.2
  | []=>by show x.1 ^ x.2*1=1*_;grind
  | y::fs=>by show y.1 ^ y.2*qf3 (fs++[x])=y.1 ^ y.2*qf3 fs*_;rw [qfG x fs];grind
theorem qfH (x:Sr×Nat):∀ fs:List (Sr×Nat),qdi (fs++[x])=qdi fs*x.1
  | []=>by show x.1*1=1*_;grind
  | y::fs=>by show y.1*qdi (fs++[x])=y.1*qdi fs*_;rw [qfH x fs];grind
theorem Fcs.apt {fs:List (List Int×Nat)} (h:Fcs fs):Apt (fs.map sx):=by
  refine ⟨fun x hx=>?_,?_⟩
  · obtain ⟨y,hy,rfl⟩:=List.mem_map.mp hx
    obtain ⟨r,e1,_⟩:=h.each y hy
    exact ⟨qbp _,qfE r.lz,e1,qrc r.ir⟩
  · rw [List.pairwise_map]
    exact List.Pairwise.imp_of_mem (fun {x y} hx hy ne=>qrZ (h.each x hx).1 (h.each y hy).1 ne) h.two
theorem RLs.length {H:Hp}:∀ {us:List V} {fs:List (List Int)},RLs H us fs→us.length=fs.length
  | [],[],_=>rfl
  | _::us,_::fs,⟨_,r⟩=>by rw [List.length_cons,List.length_cons,RLs.length r]
theorem RLs.at {H:Hp}:∀ {us:List V} {fs:List (List Int)} {i:Nat},RLs H us fs→i<fs.length→∃ r,us[i]?=some (.ref r)∧H r=some (.lst ((fs.getD i []).map V.int))
  | [],[],_,_,h=>absurd h (Nat.not_lt_zero _)
  | _::us,x::fs,0,⟨⟨r,e,b⟩,_⟩,_=>⟨r,by rw [e];rfl,b⟩
  | _::us,_::fs,i+1,⟨_,r⟩,h=>RLs.at (i:=i) r (by simpa using h)
theorem RLs.keep {H H':Hp}:∀ {us:List V} {fs:List (List Int)},RLs H us fs→(∀ b,∀ row:List Int,row≠[]→H b=some (.lst (row.map V.int))→H' b=some (.lst (row.map V.int)))→(∀ x∈fs,x≠[])→RLs H' us fs
  | [],[],_,_,_=>trivial
  | _::us,x::fs,⟨⟨r,e,b⟩,h⟩,k2,k3=>⟨⟨r,e,k2 _ _ (k3 x (List.mem_cons_self ..)) b⟩,RLs.keep h k2 fun y hy=>k3 y (List.mem_cons_of_mem _ hy)⟩
theorem RLs.snoc {H:Hp} {r:Addr} {x:List Int} (hr:H r=some (.lst (x.map V.int))):∀ {us:List V} {fs:List (List Int)},RLs H us fs→RLs H (us++[.ref r]) (fs++[x])
  | [],[],_=>⟨⟨r,rfl,hr⟩,trivial⟩
  | _::us,_::fs,⟨a,h⟩=>⟨a,RLs.snoc hr h⟩
theorem RLs.set {H:Hp} {r:Addr} {x:List Int} (hr:H r=some (.lst (x.map V.int))):∀ {us:List V} {fs:List (List Int)} (i:Nat),RLs H us fs→RLs H (us.set i (.ref r)) (fs.set i x)
  | [],[],_,_=>trivial
  | _::us,_::fs,0,⟨_,h⟩=>⟨⟨r,rfl,hr⟩,h⟩
  | _::us,_::fs,i+1,⟨a,h⟩=>⟨a,RLs.set hr i h⟩
theorem qpQ {H:Hp} {w b:Addr} {us:List V} {fs:List (List Int)} {row:List Int} (hw:H w=some (.lst us)) (hf:RLs H us fs) (r0:row≠[]) (hb:H b=some (.lst (row.map V.int))):b≠w:=fun e=>by
  subst e
  rw [hw] at hb
  injection hb with hb
  injection hb with hb
  cases row with
  | nil=>exact r0 rfl
  | cons z row=>
    cases us with
    | nil=>simp at hb
    | cons u us=>
      cases fs with
      | nil=>exact hf
      | cons x fs=>
        obtain ⟨⟨t,e,_⟩,_⟩:=hf
        rw [List.map_cons] at hb
        injection hb with h1 _
        rw [e] at h1;cases h1
structure Rw (d:Nat) (r:List Int):Prop where
  lz:Lz r
  le:r.length≤d+1
  bd:∀ z∈r,Bd (4*d+1) z
theorem Rw.mono {d d':Nat} {r:List Int} (h:Rw d r) (e:d≤d'):Rw d' r:=⟨h.lz,Nat.le_trans h.le (by omega),fun z hz=>(h.bd z hz).mono (by omega)⟩
theorem Rw.ne {d:Nat} {r:List Int} (h:Rw d r):r≠[]:=List.length_pos_iff.mp h.lz.1
theorem Rw.times {d:Nat} {a b c:List Int} (h:Rw d a) (hb:Ro b) (lz:Lz c) (cl:c.length=a.length+b.length - 1) (e:∀ k,co c k=ps a b a.length k):Rw (d+(b.length - 1)) c∧si c=si a*si b:=by
  obtain ⟨e1,e2⟩:=qom h.bd hb e
  have:=h.le
  have:=hb.l2
  exact ⟨⟨lz,by omega,fun z hz=>(e2 z hz).mono (by omega)⟩,e1⟩
theorem rw_one' (d:Nat):Rw d [1]:=⟨⟨by decide,by decide⟩,by simp,fun z hz=>by rw [List.mem_singleton.mp hz];exact Bd.one.mono (by omega)⟩
structure P15 (fs:List (List Int×Nat)) (F Sm:List Int) (rs:List (List Int)):Prop where
  rF:Rw (degs fs) F
  rS:Rw (degs fs) Sm
  rR:∀ r∈rs,Rw (degs fs) r
  eF:si F=qf3 (fs.map sx)
  eS:si Sm=qdi (fs.map sx)
  fR:qbE 1 (rs.map si)=qf3 (fs.map sx)
  sR:qbv (rs.map si)=qdi (fs.map sx)
  last:∀ r,rs.getLast?=some r→2≤r.length
  many:rs.length≤8
theorem qns:∀ (s:Nat) (ps:List (List Nu)),qhg s ps=qbE s (ps.map sr)
  | _,[]=>rfl
  | s,p::ps=>by show sr p ^ s*qhg (s+1) ps=sr p ^ s*qbE (s+1) (ps.map sr);rw [qns (s+1) ps]
theorem qkg:∀ (ps:List (List Nu)),qbB ps=qbv (ps.map sr)
  | []=>rfl
  | p::ps=>by show sr p*qbB ps=sr p*qbv (ps.map sr);rw [qkg ps]
theorem qiN {ps:List (List Nu)} {i:Nat} (h:i<ps.length):(ps.map sr).getD i 1=sr (ps.getD i []):=by
  rw [List.getD_eq_getElem?_getD,List.getD_eq_getElem?_getD,List.getElem?_map,List.getElem?_eq_getElem h];rfl
theorem qiO {rs:List (List Int)} {i:Nat} (h:i<rs.length):(rs.map si).getD i 1=si (rs.getD i []):=by
  rw [List.getD_eq_getElem?_getD,List.getD_eq_getElem?_getD,List.getElem?_map,List.getElem?_eq_getElem h];rfl
theorem qiP {α:Type} {l:List α} {i:Nat} {d:α} (h:i<l.length):l.getD i d∈l:=by
  rw [List.getD_eq_getElem?_getD,List.getElem?_eq_getElem h];exact List.getElem_mem h
theorem qrh {l:List Nu} {ps:List (List Nu)} (P:Pts l ps) (l0:sr l≠0):Aps (ps.map sr):=by
  obtain ⟨h1,h2⟩:=qnh P l0
  refine ⟨fun a ha=>?_,fun i j ij hi hj=>?_⟩
  · obtain ⟨p,hp,rfl⟩:=List.mem_map.mp ha
    have m:=P.each p hp
    exact ⟨qjt p,qog m.gq.low m.gq.nz m.ne,h1 p hp⟩
  · rw [List.length_map] at hi hj
    rw [qiN hi,qiN hj]
    rcases Nat.lt_or_gt_of_ne ij with c | c
    · exact (h2 j i c hj).comm
    · exact h2 i j c hi
theorem qri {B:List Sr} (pB:∀ b∈B,Sr.Pol b∧b≠0) (c:Sr.Cs (qbv B) (Sr.D (qbv B))):Aps B:=by
  have pol:∀ i,∀ a∈B.set i 1,Sr.Pol a:=fun i a ha=>by
    rcases qg0 ha with rfl | ⟨j,_,hj,rfl⟩
    · exact Sr.Pol.nat 1
    · exact (pB _ (qbC hj)).1
  have pb:∀ b∈B,Sr.Pol b:=fun b hb=>(pB b hb).1
  refine ⟨fun b hb=>?_,fun i j ij hi hj=>?_⟩
  · obtain ⟨i,hi,rfl⟩:=List.getElem_of_mem hb
    have e:B.getD i 1=B[i]:=by rw [List.getD_eq_getElem?_getD,List.getElem?_eq_getElem hi];rfl
    have s:=qce B i
    rw [e] at s
    exact ⟨(pB _ hb).1,(pB _ hb).2,Sr.Cs.part (pB _ hb).1 (qel (pol i)) c s⟩
  · have s:=qce B i
    have s2:=qce (B.set i 1) j
    have g:(B.set i 1).getD j 1=B.getD j 1:=by
      rw [List.getD_eq_getElem?_getD,List.getD_eq_getElem?_getD,List.getElem?_set_ne ij]
    rw [g] at s2
    have p2:∀ a∈(B.set i 1).set j 1,Sr.Pol a:=fun a ha=>by
      rcases qg0 ha with rfl | ⟨k,_,hk,rfl⟩
      · exact Sr.Pol.nat 1
      · exact pol i _ (qbC hk)
    exact Sr.Cs.parts (qel pb) (pb _ (qbC hi)) (pb _ (qbC hj)) (qel p2) c (by rw [s,s2];grind)
theorem one_top' {k:Nat} (h:1≤k):(1:Sr).c k=0:=by
  rw [qoh]
  cases k with
  | zero=>omega
  | succ k=>rfl
theorem qoU {l:List Nu} {ps:List (List Nu)} {fs:List (List Int×Nat)} {F Sm:List Int} {rs:List (List Int)} {q:Rat} (Pt:Pts l ps) (P:P15 fs F Sm rs) (fc:Fcs fs) (q0:q≠0) (el:sr l=Sr.num q*si F) (l0:sr l≠0):ps=rs.map mnc:=by
  have hA:=qrh Pt l0
  have rad0:=qiL fc.apt
  have f0:qf3 (fs.map sx)≠0:=by rw [← P.eF];exact qfE P.rF.lz
  have rad1:RadOf (sr l) (qdi (fs.map sx)):=by rw [el,P.eF];exact rad0.smul
  obtain ⟨S,M,pS,pL,pM,e1,e2,cc⟩:=rad0
  have cL:=Sr.simple_cop pS pL pM f0 e1 e2 cc
  have hB:Aps (rs.map si):=qri (fun b hb=>by
    obtain ⟨r,hr,rfl⟩:=List.mem_map.mp hb
    exact ⟨qbp r,qfE (P.rR r hr).lz⟩) (by rw [P.sR];exact cL)
  obtain ⟨c,c0,efull⟩:=Pt.full
  obtain ⟨cr,L,cr0,rad2,eL⟩:=Pt.rad
  have full:Sr.num c*qbE 1 (ps.map sr)=Sr.num q*qbE 1 (rs.map si):=by rw [← qns,← efull,el,P.fR,P.eF]
  obtain ⟨u,pu,eu⟩:=qgg l0 rad2 rad1
  obtain ⟨v,pv,ev⟩:=qgg l0 rad1 rad2
  have i:=Sr.num_inv cr0
  have er:qbv (rs.map si)=u*Sr.num cr*qbv (ps.map sr):=by rw [P.sR,eu,eL,qkg];grind
  have er':qbv (ps.map sr)=Sr.num cr⁻¹*v*qbv (rs.map si):=by
    have:qbv (ps.map sr)=Sr.num cr⁻¹*L:=by
      rw [eL,qkg,show Sr.num cr⁻¹*(Sr.num cr*qbv (ps.map sr))=Sr.num cr⁻¹*Sr.num cr*qbv (ps.map sr) by grind,i];grind
    rw [this,ev,P.sR];grind
  have key:=qlu hA hB c0 q0 full (pu.mul (Sr.Pol.num cr)) ((Sr.Pol.num cr⁻¹).mul pv) er er'
  have out:∀ {A:List Sr} {i:Nat},A.length≤i→A.getD i 1=1:=fun {A i} h=>by rw [List.getD_eq_getElem?_getD,List.getElem?_eq_none h];rfl
  have len:ps.length=rs.length:=by
    rcases Nat.lt_trichotomy ps.length rs.length with c | c | c
    · exfalso
      obtain ⟨x,x0,e⟩:=key (rs.length - 1)
      rw [out (by rw [List.length_map];omega),qiO (by omega)] at e
      have hl:=P.last (rs.getD (rs.length - 1) []) (by rw [List.getLast?_eq_getElem?,List.getD_eq_getElem?_getD,List.getElem?_eq_getElem (show rs.length - 1<rs.length by omega)];rfl)
      have lz:=(P.rR _ (qiP (d:=[]) (show rs.length - 1<rs.length by omega))).lz
      generalize rs.getD (rs.length - 1) []=r at e hl lz
      have:=congrFun (congrArg Sr.c e) (r.length - 1)
      rw [one_top' (by omega),Sr.num_mul] at this
      exact num_ne' x0 (qaC lz.2) this.symm
    · exact c
    · exfalso
      obtain ⟨x,x0,e⟩:=key (ps.length - 1)
      rw [out (A:=rs.map si) (by rw [List.length_map];omega),qiN (by omega)] at e
      have hl:=Pt.last (ps.getD (ps.length - 1) []) (by rw [List.getLast?_eq_getElem?,List.getD_eq_getElem?_getD,List.getElem?_eq_getElem (show ps.length - 1<ps.length by omega)];rfl)
      have mo:=Pt.each _ (qiP (d:=[]) (show ps.length - 1<ps.length by omega))
      generalize ps.getD (ps.length - 1) []=p at e hl mo
      have:=congrFun (congrArg Sr.c e) (p.length - 1)
      rw [Sr.num_mul,one_top' (by omega)] at this
      have t:(sr p).c (p.length - 1)=1:=qnf mo.one
      rw [t] at this
      grind
  refine List.ext_getElem (by rw [List.length_map];exact len) fun i h1 h2=>?_
  rw [List.getElem_map]
  obtain ⟨x,x0,e⟩:=key i
  have hr:i<rs.length:=by omega
  rw [qiN h1,qiO hr] at e
  have e1:ps.getD i []=ps[i]:=by rw [List.getD_eq_getElem?_getD,List.getElem?_eq_getElem h1];rfl
  have e2:rs.getD i []=rs[i]:=by rw [List.getD_eq_getElem?_getD,List.getElem?_eq_getElem hr];rfl
  rw [e1,e2] at e
  have mo:=(Pt.each _ (List.getElem_mem h1)).mon
  have rr:=P.rR _ (List.getElem_mem hr)
  generalize ps[i]=p at *
  generalize rs[i]=r at *
  have i2:=Sr.num_inv (qaC rr.lz.2)
  refine qiI mo (qiK rr.lz (fun k=>qa9 rr.bd k)) (num_ne' x0 (qaC rr.lz.2)) ?_
  rw [e,qhT rr.lz,← Sr.num_num]
  have:Sr.num x*Sr.num ((co r (r.length - 1):Int):Rat)*(Sr.num ((co r (r.length - 1):Int):Rat)⁻¹*si r)=Sr.num x*(Sr.num ((co r (r.length - 1):Int):Rat)⁻¹*Sr.num ((co r (r.length - 1):Int):Rat))*si r:=by grind
  rw [this,i2];grind
theorem qrj {l R:List Nu} {fs:List (List Int×Nat)} {F Sm:List Int} {rs:List (List Int)} {q c:Rat} {L:Sr} (P:P15 fs F Sm rs) (fc:Fcs fs) (el:sr l=Sr.num q*si F) (l0:sr l≠0) (mo:Mo R) (c0:c≠0) (rad:RadOf (sr l) L) (eR:sr R=Sr.num c*L):mnc Sm=R:=by
  have rad1:RadOf (sr l) (qdi (fs.map sx)):=by rw [el,P.eF];exact (qiL fc.apt).smul
  have i2:=Sr.num_inv (qaC P.rS.lz.2)
  refine qpH l0 rad1 rad (qiK P.rS.lz (fun k=>qa9 P.rS.bd k)) mo.mon (qaC P.rS.lz.2) c0 ?_ eR
  rw [qhT P.rS.lz,← P.eS]
  have:Sr.num ((co Sm (Sm.length - 1):Int):Rat)*(Sr.num ((co Sm (Sm.length - 1):Int):Rat)⁻¹*si Sm)=Sr.num ((co Sm (Sm.length - 1):Int):Rat)⁻¹*Sr.num ((co Sm (Sm.length - 1):Int):Rat)*si Sm:=by grind
  rw [this,i2];grind
noncomputable def qr0 (H4:Hp) (s p w ap:Addr) (fs:List (List Int×Nat)) (i:Nat):L2.St→Hp→Prop:=fun σ H'=>∃ (af as:Addr) (F Sm:List Int) (us:List V) (rs:List (List Int)) (x6 x7 x8:Option V),σ=[some (.ref s),some (.ref p),some (.ref w),some (.ref af),some (.ref as),some (.ref ap),x6,x7,x8,none,none,none]∧Same H4 H'∧H' af=some (.lst (F.map V.int))∧H' as=some (.lst (Sm.map V.int))∧H' ap=some (.lst us)∧RLs H' us rs∧P15 (fs.take i) F Sm rs
noncomputable def LWl (H4:Hp) (s p w ap af a9 r:Addr) (fs:List (List Int×Nat)) (i:Nat) (y:List Int×Nat) (F c:List Int) (rs:List (List Int)) (x8:Option V):Nat→L2.St→Hp→Prop:=fun m σ H'=>∃ (us:List V) (rs':List (List Int)),σ=[some (.ref s),some (.ref p),some (.ref w),some (.ref af),some (.ref a9),some (.ref ap),some (.ref r),some (.int (y.2:Int)),x8,none,none,none]∧Same H4 H'∧H' af=some (.lst (F.map V.int))∧H' a9=some (.lst (c.map V.int))∧H' r=some (.lst (y.1.map V.int))∧H' ap=some (.lst us)∧RLs H' us rs'∧(∀ r∈rs',Rw (degs (fs.take i)) r)∧qbE 1 (rs'.map si)=qf3 ((fs.take i).map sx)∧qbv (rs'.map si)=qdi ((fs.take i).map sx)∧rs'.length≤8∧(rs'=rs∨rs'.length≤y.2)∧m=y.2 - rs'.length
theorem RLs.same {H H':Hp} {us:List V} {fs:List (List Int)} (h:RLs H us fs) (s:Same H H') (k3:∀ x∈fs,x≠[]):RLs H' us fs:=h.keep (fun b _ _ hb=>s b _ hb) k3
theorem qrk {H:Hp} {ap:Addr} {us us':List V} {rs:List (List Int)} (hP:H ap=some (.lst us)) (rl:RLs H us rs):∀ b,∀ row:List Int,row≠[]→H b=some (.lst (row.map V.int))→upd H ap (HO.lst us') b=some (.lst (row.map V.int)):=fun b row r0 hb=>by rw [qaw (qpQ hP rl r0 hb)];exact hb
theorem qpR {H:Hp} {p:Addr} {xs:List V} (h:H p=some (.lst xs)):qoy H (.ref p) "list" = some true:=by
  show qqo (H p) "list" = _
  rw [h];rfl
theorem qjD:∀ (fs:List (List Int×Nat)) (i:Nat),degs (fs.take i)≤degs fs
  | [],i=>by rw [List.take_nil];exact Nat.le_refl _
  | x::fs,0=>Nat.zero_le _
  | x::fs,i+1=>by
    have:=qjD fs i
    show (x.1.length - 1)*x.2+degs (fs.take i)≤(x.1.length - 1)*x.2+degs fs
    omega
theorem qrl (h:qjm K vs H Q E):qpn K { nx:=fun _ H'=>Q .non H',rt:=Q } (L2.start ["_law_script", "_law_hand_here", "_law_factors_here", "_law_full", "_law_simple", "_law_parts", "_law_row", "_law_often", "_law_turn", "_law_kp", "_law_due", "_law_found"] vs) H:=by
  obtain ⟨s,sc,rfl,hs,n63,k⟩:=h
  unfold qpn
  rwa []
  refine ⟨sc,hs,n63,fun p ad H1 hp k1 h1=>?_⟩
  unfold qmQ
  rwa []
  refine ⟨ad,0,h1,by decide,fun w us fs H2 hw fl fc wp h2 k2=>?_⟩
  unfold qmP
  rwa []
  refine ⟨sz (by decide),fun af haf=>?_⟩
  have saf:=qag haf (HO.lst [V.int 1])
  have hf3:upd H2 af (HO.lst [V.int 1]) af=some (HO.lst (([1]:List Int).map V.int)):=upd_same
  generalize upd H2 af (HO.lst [V.int 1])=H3 at saf hf3 ⊢
  unfold qmO
  rwa []
  refine ⟨sz (by decide),fun as has=>?_⟩
  have sas:=qag has (HO.lst [V.int 1])
  have hs4:upd H3 as (HO.lst [V.int 1]) as=some (HO.lst (([1]:List Int).map V.int)):=upd_same
  have hf4:=sas _ _ hf3
  generalize upd H3 as (HO.lst [V.int 1])=H4 at sas hs4 hf4 ⊢
  unfold qmN
  rwa []
  refine ⟨sz (by decide),fun ap hap=>?_⟩
  have sap:=qag hap (HO.lst [])
  have s24:=saf.trans sas
  have hw4:=s24 _ _ hw
  have fl4:=fl.same s24 fc.ne
  have h4:=h2.same s24
  have wap:w≠ap:=qau hw4 hap
  have hp5:upd H4 ap (HO.lst []) ap=some (HO.lst []):=upd_same
  have hf5:=sap _ _ hf4
  have hs5:=sap _ _ hs4
  generalize upd H4 ap (HO.lst [])=H5 at sap hp5 hf5 hs5 ⊢
  have lus:=fl4.length
  unfold qmM
  rwa []
  refine ⟨⟨_,SqL.of (sap _ _ hw4)⟩,ForL.by (xs:=us) (fun i=>qr0 H4 s p w ap fs i) ⟨af,as,[1],[1],[],[],none,none,none,rfl,sap,hf5,hs5,hp5,trivial,?_⟩ ?_ ?_ ?_⟩
  · exact ⟨rw_one' _,rw_one' _,(fun _ h=>nomatch h),qon,qon,rfl,rfl,(fun _ h=>nomatch h),by decide⟩
  · rintro i σ H' _ ⟨_,_,_,_,_,_,_,_,_,_,s6,_⟩
    exact SqL.of (s6 _ _ hw4)
  · rintro i x σ H6 hx ⟨af,as,F,Sm,us',rs,x6,x7,x8,rfl,s6,hF,hS,hP,rl,P⟩
    obtain ⟨y,t,r,hy,rfl,ht,hr⟩:=fl4.at hx
    have ht6:=s6 _ _ ht
    have hr6:=s6 _ _ hr
    have my:=List.mem_of_getElem? hy
    have lj:i<fs.length:=(List.getElem?_eq_some_iff.mp hy).1
    obtain ⟨ro,e1,e8⟩:=fc.each y my
    have tk:fs.take (i+1)=fs.take i++[y]:=by rw [List.take_add_one,hy];rfl
    have dk:degs (fs.take (i+1))=degs (fs.take i)+(y.1.length - 1)*y.2:=by rw [tk,qg1]
    have d8:=qjD fs (i+1)
    have f8:=fc.deg
    unfold qhR
    rwa [ht6]
    have r4:=ro.l4
    have r2:=ro.l2
    refine ⟨Sm,hS,y.1,hr6,P.rS.lz,ro.lz,by have:=P.rS.le;omega,by omega,_,P.rS.bd,12,ro.bz,by omega,by decide,fun a9 c H9 s9 hc cl lz ec=>?_⟩
    obtain ⟨rwS,eS⟩:=P.rS.times ro lz cl ec
    have c0:=rwS.ne
    have y0:y.1≠[]:=List.length_pos_iff.mp (by omega)
    have F0:=P.rF.ne
    have rne:∀ x∈rs,x≠[]:=fun x hx=>(P.rR x hx).ne
    unfold qhQ
    rwa []
    refine while_by (LWl H4 s p w ap af a9 r fs i y F c rs x8) (y.2 - rs.length) ⟨us',rs,rfl,s6.trans s9,s9 _ _ hF,hc,s9 _ _ hr6,s9 _ _ hP,rl.same s9 rne,P.rR,P.fR,P.sR,P.many,.inl rfl,rfl⟩ ?_
    rintro m σ H10 ⟨us2,rs2,rfl,s10,hF10,hc10,hr10,hP10,rl10,R10,f10,g10,m10,o10,rfl⟩
    have l10:=rl10.length
    rwa [hP10]
    have rne2:∀ x∈rs2,x≠[]:=fun x hx=>(R10 x hx).ne
    refine qcM (fun c1=>⟨fun σ H'=>∃ m',m'<y.2 - rs2.length∧LWl H4 s p w ap af a9 r fs i y F c rs x8 m' σ H',fun _ _ h=>h,qfs hP10,sz (by decide),fun u hu=>?_⟩) (fun c1=>?_)
    · have su:=qag hu (HO.lst [V.int 1])
      have hu11:upd H10 u (HO.lst [V.int 1]) u=some (.lst (([1]:List Int).map V.int)):=upd_same
      have hP11:=su _ _ hP10
      have s11:=s10.trans su
      have hF11:=su _ _ hF10
      have hc11:=su _ _ hc10
      have hr11:=su _ _ hr10
      have rl11:=rl10.same su rne2
      generalize upd H10 u (HO.lst [V.int 1])=H11 at hu11 hP11 s11 hF11 hc11 hr11 rl11 ⊢
      have kr:=qrk (us':=us2++[V.ref u]) hP11 rl11
      refine ⟨us2,hP11,Nat.lt_of_le_of_lt (show _≤1000 by omega) (by rw [sizeLine_eq];omega),y.2 - (rs2.length+1),by omega,us2++[V.ref u],rs2++[[1]],rfl,fun b o hb=>by rw [qaw (qau hb hap)];exact s11 _ _ hb,kr _ _ F0 hF11,kr _ _ c0 hc11,kr _ _ y0 hr11,upd_same,(rl11.keep kr rne2).snoc (kr _ _ (by decide) hu11),fun x hx=>?_,?_,?_,?_,.inr ?_,?_⟩
      · rcases List.mem_append.mp hx with h | h
        · exact R10 x h
        · rw [List.mem_singleton.mp h];exact rw_one' _
      · rw [List.map_append,show [([1]:List Int)].map si=[1] by rw [List.map_singleton,qon],qjB];exact f10
      · rw [List.map_append,show [([1]:List Int)].map si=[1] by rw [List.map_singleton,qon],qjC];exact g10
      · rw [List.length_append];show rs2.length+1≤8;omega
      · rw [List.length_append];show rs2.length+1≤_;omega
      · rw [List.length_append];rfl
    have le2:y.2 - 1<rs2.length:=by omega
    obtain ⟨u,hu,hu10⟩:=rl10.at le2
    have mu:=qiP (d:=[]) le2
    have Ru:=R10 _ mu
    unfold qhP
    rwa [hP10]
    refine ⟨_,qdB (j:=y.2 - 1) (by omega) hu,u,rfl,_,hu10,y.1,hr10,Ru.lz,ro.lz,by have:=Ru.le;omega,by omega,_,Ru.bd,12,ro.bz,by omega,by decide,fun v d H11 s11 hv dl lzd ed=>?_⟩
    obtain ⟨rwU,eU⟩:=Ru.times ro lzd dl ed
    have ul:=Ru.lz.1
    have hP11:=s11 _ _ hP10
    have rl11:=rl10.same s11 rne2
    refine ⟨us2,hP11,y.2 - 1,qgM (by omega) (by omega),?_⟩
    have kr:=qrk (us':=us2.set (y.2 - 1) (V.ref v)) hP11 rl11
    have rl12:=(rl11.keep kr rne2).set (kr _ _ rwU.ne hv) (y.2 - 1)
    have s12:Same H4 (upd H11 ap (HO.lst (us2.set (y.2 - 1) (V.ref v)))):=fun b o hb=>by rw [qaw (qau hb hap)];exact s11 _ _ (s10 _ _ hb)
    have hF12:=kr _ _ F0 (s11 _ _ hF10)
    have hc12:=kr _ _ c0 (s11 _ _ hc10)
    have hr12:=kr _ _ y0 (s11 _ _ hr10)
    have hP12:upd H11 ap (HO.lst (us2.set (y.2 - 1) (V.ref v))) ap=some (HO.lst (us2.set (y.2 - 1) (V.ref v))):=upd_same
    generalize upd H11 ap (HO.lst (us2.set (y.2 - 1) (V.ref v)))=H12 at rl12 s12 hF12 hc12 hr12 hP12 ⊢
    have dmul:y.1.length - 1≤(y.1.length - 1)*y.2:=Nat.le_mul_of_pos_right _ (by omega)
    have rne3:∀ x∈rs2.set (y.2 - 1) d,x≠[]:=fun x hx=>by
      rcases List.mem_or_eq_of_mem_set hx with h | rfl
      · exact rne2 x h
      · exact rwU.ne
    unfold qhO
    rwa []
    refine ⟨by omega,by omega,ForR.by (fun j σ H'=>j≤y.2∧∃ (af:Addr) (F':List Int) (x8:Option V),σ=[some (.ref s),some (.ref p),some (.ref w),some (.ref af),some (.ref a9),some (.ref ap),some (.ref r),some (.int (y.2:Int)),x8,none,none,none]∧Same H12 H'∧H' af=some (.lst (F'.map V.int))∧Rw (degs (fs.take i)+(y.1.length - 1)*j) F'∧si F'=si F*si y.1 ^ j) ⟨Nat.zero_le _,af,F,x8,rfl,Same.refl H12,hF12,P.rF,by rw [Sr.pow_z];grind⟩ ?_ ?_⟩
    · rintro j σ H13 hj ⟨_,af',F',x8',rfl,s13,hF13,rF13,eF13⟩
      have j2:j<y.2:=by omega
      have jm:(y.1.length - 1)*(j+1)≤(y.1.length - 1)*y.2:=Nat.mul_le_mul_left _ (by omega)
      have js:(y.1.length - 1)*(j+1)=(y.1.length - 1)*j+(y.1.length - 1):=Nat.mul_succ _ _
      rwa []
      refine ⟨F',hF13,y.1,s13 _ _ hr12,rF13.lz,ro.lz,by have:=rF13.le;omega,by omega,_,rF13.bd,12,ro.bz,by omega,by decide,fun v' d' H14 s14 hv' dl' lzd' ed'=>?_⟩
      obtain ⟨rw14,e14⟩:=rF13.times ro lzd' dl' ed'
      exact ⟨by omega,s13.trans s14,d',hv',rw14.mono (by omega),by rw [e14,eF13,Sr.pow_s];grind⟩
    · rintro σ H13 ⟨_,af',F',x8',rfl,s13,hF13,rF13,eF13⟩
      rw [show ((y.2:Int)).toNat=y.2 by omega] at rF13 eF13
      refine ⟨af',a9,F',c,_,rs2.set (y.2 - 1) d,_,_,x8',rfl,s12.trans s13,hF13,s13 _ _ hc12,s13 _ _ hP12,rl12.same s13 rne3,⟨rF13.mono (by omega),rwS.mono (by omega),fun x hx=>?_,?_,?_,?_,?_,fun x hx=>?_,?_⟩⟩
      · rcases List.mem_or_eq_of_mem_set hx with h | rfl
        · exact (R10 x h).mono (by omega)
        · exact rwU.mono (by omega)
      · rw [eF13,tk,List.map_append,List.map_singleton,qfG,P.eF];rfl
      · rw [eS,tk,List.map_append,List.map_singleton,qfH,P.eS];rfl
      · rw [List.map_set,eU,← qiO le2,qnq (by rw [List.length_map];exact le2),f10,tk,List.map_append,List.map_singleton,qfG,show 1+(y.2 - 1)=y.2 by omega]
        show _=_*si y.1 ^ y.2
        grind
      · rw [List.map_set,eU,← qiO le2,qnr (by rw [List.length_map];exact le2),g10,tk,List.map_append,List.map_singleton,qfH]
        show _=_*si y.1
        grind
      · rw [List.getLast?_eq_getElem?,List.length_set] at hx
        by_cases z:y.2 - 1=rs2.length - 1
        · rw [← z,List.getElem?_set_self le2] at hx
          rw [← Option.some.inj hx];omega
        · rw [List.getElem?_set_ne z] at hx
          have e2:rs2=rs:=by
            rcases o10 with h | h
            · exact h
            · omega
          rw [e2,← List.getLast?_eq_getElem?] at hx
          exact P.last x hx
      · rw [List.length_set];exact m10
  · rintro σ H6 ⟨af,as,F,Sm,us',rs,x6,x7,x8,rfl,s6,hF,hS,hP,rl,P⟩
    rw [lus,List.take_length] at P
    have h6:=h4.same s6
    have app:=h4.ne hap
    have f8:=fc.deg
    have rne:∀ x∈rs,x≠[]:=fun x hx=>(P.rR x hx).ne
    unfold qmL
    rwa []
    refine ⟨ad,_,h6,by omega,fun q t d H7 hq lt t0 bt bd h7 k7=>?_⟩
    have hF7:=k7 _ _ (qfF h6 hF) hF
    have hS7:=k7 _ _ (qfF h6 hS) hS
    have hP7:=k7 _ _ app hP
    have rl7:=rl.keep (fun b row _ hb=>k7 _ _ (qfF h6 hb) hb) rne
    unfold Nm at hq
    rwa [hF7,hq]
    have d0:d≠0:=Int.ne_of_gt lt.pos
    have br:∀ z∈F,Bd 36 z:=fun z hz=>(P.rF.bd z hz).mono (by omega)
    have lF:=P.rF.le
    refine ⟨F,rfl,d0,bt.mono (by decide),fun z hz=>(br z hz).mono (by decide),by omega,fun r8 zs H8 s8 h8 n8=>?_⟩
    have G:=qpG P.rF.lz br lt t0 bt bd
    have el:=qpM (ns:=F) (t:=t) d0
    have ll:(F.map fun n=>qbV (n*t) d).length≤9:=by rw [List.length_map];omega
    have lne:(F.map fun n=>qbV (n*t) d)≠[]:=fun z=>by have z2:=congrArg List.length z;rw [List.length_map] at z2;have:=P.rF.lz.1;simp at z2;rw [z2] at this;simp at this
    have q0:(t:Rat) / (d:Rat)≠0:=fun z=>by have a1:=qaC t0;have a2:=qaC d0;grind
    generalize (F.map fun n=>qbV (n*t) d)=l at *
    have f0:=qog G.low G.nz lne
    have hS8:=s8 _ _ hS7
    have hP8:=s8 _ _ hP7
    have rl8:=rl7.same s8 rne
    have url:=rl8.length
    have r8m:=P.many
    unfold qmK
    rwa []
    refine ⟨⟨_,SqL.of hP8⟩,CompJ.lst (xs:=us') (fun j ys H'=>j≤rs.length∧Same H8 H'∧PLs H' ys ((rs.take j).map mnc)) ⟨Nat.zero_le _,Same.refl H8,trivial⟩ ?_ ?_ ?_⟩
    · rintro j ys H' ⟨j1,s9,hp⟩
      exact ⟨by omega,sz (by rw [hp.length,List.length_map,List.length_take];omega),SqL.of (s9 _ _ hP8)⟩
    · rintro j x ys H9 hx ⟨j1,s9,hp⟩
      have lj:j<rs.length:=by have:=(List.getElem?_eq_some_iff.mp hx).1;omega
      obtain ⟨u,hu,hu8⟩:=rl8.at lj
      obtain rfl:V.ref u=x:=Option.some.inj (hu.symm.trans hx)
      have hu9:=s9 _ _ hu8
      have Ru:=P.rR _ (qiP (d:=[]) lj)
      have gj:rs[j]?=some (rs.getD j []):=by rw [List.getD_eq_getElem?_getD,List.getElem?_eq_getElem lj];rfl
      rwa [hu9]
      refine ⟨rs.getD j [],rfl,Ru.lz,by have:=Ru.le;omega,fun o zs H8 s8 ho nz=>⟨by omega,s9.trans s8,?_⟩⟩
      rw [List.take_add_one,gj,List.map_append]
      exact (hp.tp (tpS s8)).snoc ⟨zs,ho,nz⟩
    · rintro ys H9 ⟨_,s9,hp⟩ kn hkn
      rw [url,List.take_length] at hp
      have sk:=qag hkn (HO.lst ys)
      have hk10:upd H9 kn (HO.lst ys) kn=some (HO.lst ys):=upd_same
      have hp10:=hp.tp (tpS sk)
      have s10:=s9.trans sk
      generalize upd H9 kn (HO.lst ys)=H10 at sk hk10 hp10 s10 ⊢
      have h10:=s10 _ _ h8
      have n10:=n8.tp (tpS s10)
      have hS10:=s10 _ _ hS8
      unfold qmJ
      rwa [h10]
      refine ⟨l,n10,G,lne,ll,fun r11 us11 ps H11 s11 w11 h11 P11 Pt=>?_⟩
      have ep:=qoU Pt P fc q0 el f0
      have hp11:=hp10.tp (tpS s11)
      rw [← ep] at hp11
      unfold qmI
      rwa []
      refine ⟨true,qpR h11,qcM (fun z=>nomatch z) (fun _=>⟨_,_,true,.lst h11 (qnn P11),.lst (s11 _ _ hk10) (qnn hp11),qrt ps,qrt ps,by simp,false,rfl,qcM (fun z=>nomatch z) (fun _=>?_)⟩)⟩
      refine ⟨_,s11 _ _ h10,l,n10.tp (tpS s11),G,lne,ll,fun r12 R H12 s12 hR mo hc=>?_⟩
      obtain ⟨c,c0,L,rad,eR⟩:=hc
      have s112:=s11.trans s12
      have eSm:=qrj P fc el f0 mo c0 rad eR
      refine ⟨Sm,s112 _ _ hS10,P.rS.lz,by have:=P.rS.le;omega,fun o zo H13 s13 ho no=>?_⟩
      obtain ⟨zR,hzR,nR⟩:=hR.same s13
      refine neP hzR nR ho no true (by simp [eSm]) ⟨false,rfl,qcM (fun z=>nomatch z) (fun _=>?_)⟩
      have s113:=s112.trans s13
      have h13:=(s12.trans s13) _ _ h11
      unfold qkL
      rwa []
      refine ⟨qfs h13,sz (by decide),fun u hu=>?_⟩
      have su:=qag hu (HO.tup [])
      have h14:=su _ _ h13
      have ul:=P11.length
      have pm:=Pt.many
      have tpx:Tp (upd H13 u (HO.tup [])) (upd (upd H13 u (HO.tup [])) r11 (HO.lst (us11++[V.ref u]))):=Kp.tp Kp.upd h14
      have tp10:Tp H10 (upd (upd H13 u (HO.tup [])) r11 (HO.lst (us11++[V.ref u]))):=fun b xs hb=>tpx b xs ((s113.trans su) _ _ hb)
      have hk15:upd (upd H13 u (HO.tup [])) r11 (HO.lst (us11++[V.ref u])) kn=some (HO.lst ys):=by
        rw [qaw (qau hk10 w11)];exact (s113.trans su) _ _ hk10
      refine ⟨us11,h14,Nat.lt_of_le_of_lt (show _≤1000 by omega) (by rw [sizeLine_eq];omega),?_⟩
      generalize upd (upd H13 u (HO.tup [])) r11 (HO.lst (us11++[V.ref u]))=H15 at tp10 hk15 ⊢
      unfold qkK
      rwa []
      refine ⟨_,tp10 _ _ h10,l,n10.tp tp10,G,lne,ll,fun r16 us16 ps16 H16 s16 _ h16 P16 Pt16=>?_⟩
      have ep16:=qoU Pt16 P fc q0 el f0
      have hp16:=(hp10.tp tp10).tp (tpS s16)
      rw [← ep16] at hp16
      exact ⟨_,_,true,.lst h16 (qnn P16),.lst (s16 _ _ hk15) (qnn hp16),qrt ps16,qrt ps16,by simp,k _⟩
end Bs
namespace Bs
open PySem PySem.Spec PyProof.Rows L2
set_option maxHeartbeats 4000000
open Hd
structure Bl (K:W.Frag) (mg:Str→Option Value):Prop where
  abs:mg "abs" = none
  min:mg "min" = none
  len:mg "len" = none
  range:mg "range" = none
  list:mg "list" = none
  max:mg "max" = none
  any:mg "any" = none
  enumerate:mg "enumerate" = none
  zip:mg "zip" = none
  EXPONENTS:mg "EXPONENTS" = some (.ref (qbX K))
  tuple:mg "tuple" = none
  sum:mg "sum" = none
  int:mg "int" = none
  isinstance:mg "isinstance" = none
  xEXPONENTS:∀ H:Hp,SqT K H (qbX K) (exps.map fun e:Nat=>V.int (e:Int))
section
variable {P:Program} {w:World} {K:W.Frag} {mg:Str→Option Value} {base:Heap} {f:Addr} {fd:FuncData}
theorem sc_common_divisor:FnScope ["one", "other", "rest"] ["one", "other"] (qan qcf):=⟨rfl,rfl,rfl,by decide +kernel,rfl,by decide +kernel,by decide +kernel⟩
theorem qfI (F:Fun K "common_divisor" "common_divisor" qcf f fd) (B:Bl K mg)  : FnOk P w K mg base CX0 1 f fd ["one", "other"] (qaq K):=by
  refine F.ok sc_common_divisor (fun vs H Q E h=>?_) (fun cdv A outer s H vs Q E hr h=>?_)
  · obtain ⟨_,_,rfl,_⟩:=h
    rfl
  have nd:=sc_common_divisor.nd
  have hu:=hr.units0
  have hu64:=hr.units
  exact ⟨qck K,(qab (qbJ PassesOwn.never (qaG qlb (pv 1) qad (nomark _)) (qab (qal (i:=2) nd rfl (Or.inl rfl) (qao qo0 (pv 0) (pv 1)))
    (qab (qal (i:=0) nd rfl (Or.inl rfl) (pv 1))
    (qah (qal (i:=1) nd rfl (Or.inl rfl) (pv 2))))))
    (qah (qaF (qax qde rfl B.abs qhD (qaa (pv 0) qae))))),qfA h⟩
theorem sc_raised:FnScope ["whole", "n", "result", "square"] ["whole", "n"] (qan qh2):=⟨rfl,rfl,rfl,by decide +kernel,rfl,by decide +kernel,by decide +kernel⟩
theorem qnt (F:Fun K "raised" "raised" qh2 f fd) (B:Bl K mg)  : FnOk P w K mg base CX0 1 f fd ["whole", "n"] (qcx K):=by
  refine F.ok sc_raised (fun vs H Q E h=>?_) (fun cdv A outer s H vs Q E hr h=>?_)
  · obtain ⟨_,_,_,rfl,_⟩:=h
    rfl
  have nd:=sc_raised.nd
  have hu:=hr.units0
  have hu64:=hr.units
  exact ⟨qip K,(qab (qal (i:=2) nd rfl (Or.inl rfl) qad)
    (qab (qal (i:=3) nd rfl (Or.inl rfl) (pv 0))
    (qab (qbJ PassesOwn.never (qaG qha (pv 1) qad (nomark _)) (qab (qdc (qaG qg9 (qao qb5 (pv 1) qad) qad (nomark _)) (qah (qhu (i:=2) nd rfl (Or.inl rfl) (pv 3) qib)) qbf)
    (qab (qhu (i:=1) nd rfl (Or.inl rfl) qad qmi)
    (qah (qdc (qaG qha (pv 1) qad (nomark _)) (qah (qhu (i:=3) nd rfl (Or.inl rfl) (pv 3) qib)) qbf)))))
    (qah (qaF (pv 2)))))),qmR h⟩
theorem sc_content:FnScope ["row", "start", "found", "whole"] ["row", "start"] (qan qgp):=⟨rfl,rfl,rfl,by decide +kernel,rfl,by decide +kernel,by decide +kernel⟩
theorem qlv (F:Fun K "content" "content" qgp f fd) (B:Bl K mg) (c_common_divisor:Cal P w K mg base 1 "common_divisor" ["one", "other"] (qaq K)):FnOk P w K mg base CX0 2 f fd ["row", "start"] (qbY K):=by
  refine F.ok sc_content (fun vs H Q E h=>?_) (fun cdv A outer s H vs Q E hr h=>?_)
  · obtain ⟨_,_,_,rfl,_⟩:=h
    rfl
  have nd:=sc_content.nd
  have hu:=hr.units0
  have hu64:=hr.units
  exact ⟨qgH K,(qab (qal (i:=2) nd rfl (Or.inl rfl) (c_common_divisor.pe hr (by decide) rfl (qaa (qpe rfl B.min qqp (qnU (N:=["whole"]) (capt:=[none]) rfl (BlkOk.of rfl rfl rfl rfl (fun _ h=>nomatch h) rfl rfl rfl) (qbw (pv 0)) (fun _ _ _ _=>(qaD (i:=0) (show (["whole"]:List PySem.Str).Nodup by decide +kernel) rfl (Or.inl rfl))) (fun _ _ _ _=>(qaG qlb (pv 0) qad (nomark _))) (fun _ _ _ _=>(qax qde rfl B.abs qhD (qaa (pv 0) qae))))) (qaa (pv 1) qae))))
    (qab (qcq PassesOwn.never rfl (qbw (pv 0)) (qaD (i:=3) nd rfl (Or.inl rfl)) (qab (qdc (qaG qg9 (pv 2) qad (nomark _)) (qah (qaF qad)) qbf)
    (qah (qal (i:=2) nd rfl (Or.inl rfl) (c_common_divisor.pe hr (by decide) rfl (qaa (pv 3) (qaa (pv 2) qae)))))))
    (qah (qaF (pv 2))))),qlq h⟩
theorem sc_row_trimmed:FnScope ["row", "many"] ["row"] (qan qdk):=⟨rfl,rfl,rfl,by decide +kernel,rfl,by decide +kernel,by decide +kernel⟩
theorem qhl (F:Fun K "row_trimmed" "row_trimmed" qdk f fd) (B:Bl K mg)  : FnOk P w K mg base CX0 1 f fd ["row"] (qaK K):=by
  refine F.ok sc_row_trimmed (fun vs H Q E h=>?_) (fun cdv A outer s H vs Q E hr h=>?_)
  · obtain ⟨_,_,rfl,_⟩:=h
    rfl
  have nd:=sc_row_trimmed.nd
  have hu:=hr.units0
  have hu64:=hr.units
  exact ⟨qdu K,(qab (qal (i:=1) nd rfl (Or.inl rfl) (qax qaH rfl B.len qbs (qaa (pv 0) qae)))
    (qab (qbJ PassesOwn.never (PW.pt (qgj (qaG qha (pv 1) qad (nomark _)) (qfl (qaG qg9 (qaL qas (pv 0) (qao qbg (pv 1) qad) (fun _ _=>rfl)) qad (nomark _))))) (qah (qhu (i:=1) nd rfl (Or.inl rfl) qad qgl)))
    (qah (qaF (qcO qfq (pv 0) qdU (qdV (pv 1))))))),qhh h⟩
theorem sc_row_parted:FnScope ["row", "divisor"] ["row", "divisor"] (qan qdZ):=⟨rfl,rfl,rfl,by decide +kernel,rfl,by decide +kernel,by decide +kernel⟩
theorem qiQ (F:Fun K "row_parted" "row_parted" qdZ f fd) (B:Bl K mg)  : FnOk P w K mg base CX0 1 f fd ["row", "divisor"] (qbk K):=by
  refine F.ok sc_row_parted (fun vs H Q E h=>?_) (fun cdv A outer s H vs Q E hr h=>?_)
  · obtain ⟨_,_,_,rfl,_⟩:=h
    rfl
  have nd:=sc_row_parted.nd
  have hu:=hr.units0
  have hu64:=hr.units
  exact ⟨qd9 K,(qah (qaF (qcj (N:=["whole", "divisor"]) (capt:=[none,some 1]) rfl (BlkOk.of rfl rfl rfl rfl (List.forall_mem_singleton.mpr rfl) rfl rfl rfl) (qbw (pv 0)) (fun _ _ _ _=>(qaD (i:=0) (show (["whole", "divisor"]:List PySem.Str).Nodup by decide +kernel) rfl (Or.inl rfl))) (fun _ _ _ _=>(qao qga (pv 0) (pv 1)))))),qix h⟩
theorem sc_row_slope:FnScope ["row"] ["row"] (qan qeA):=⟨rfl,rfl,rfl,by decide +kernel,rfl,by decide +kernel,by decide +kernel⟩
theorem qjE (F:Fun K "row_slope" "row_slope" qeA f fd) (B:Bl K mg)  : FnOk P w K mg base CX0 1 f fd ["row"] (qbb K):=by
  refine F.ok sc_row_slope (fun vs H Q E h=>?_) (fun cdv A outer s H vs Q E hr h=>?_)
  · obtain ⟨_,_,_,rfl,_⟩:=h
    rfl
  have nd:=sc_row_slope.nd
  have hu:=hr.units0
  have hu64:=hr.units
  exact ⟨qeL K,(qah (qaF (qcj (N:=["place", "row"]) (capt:=[none,some 0]) rfl (BlkOk.of rfl rfl rfl rfl (List.forall_mem_singleton.mpr rfl) rfl rfl rfl) (qlH rfl B.range (qaa qad (qaa (qax qaH rfl B.len qbs (qaa (pv 0) qae)) qae))) (fun _ _ _ _=>(qaD (i:=0) (show (["place", "row"]:List PySem.Str).Nodup by decide +kernel) rfl (Or.inl rfl))) (fun _ _ _ _=>(qao qaT (pv 0) (qaL qas (pv 1) (pv 0) (fun _ _=>rfl))))))),qjx h⟩
theorem sc_row_over:FnScope ["row", "divisor", "rest", "last", "quotient", "shift", "weight", "place"] ["row", "divisor"] (qan qfn):=⟨rfl,rfl,rfl,by decide +kernel,rfl,by decide +kernel,by decide +kernel⟩
theorem qkh (F:Fun K "row_over" "row_over" qfn f fd) (B:Bl K mg)  : FnOk P w K mg base CX0 1 f fd ["row", "divisor"] (qaN K):=by
  refine F.ok sc_row_over (fun vs H Q E h=>?_) (fun cdv A outer s H vs Q E hr h=>?_)
  · obtain ⟨_,_,_,_,_,_,rfl,_⟩:=h
    rfl
  have nd:=sc_row_over.nd
  have hu:=hr.units0
  have hu64:=hr.units
  exact ⟨qfv K,(qab (qal (i:=2) nd rfl (Or.inl rfl) (qcr qfr rfl B.list qia (qaa (pv 0) qae)))
    (qab (qal (i:=3) nd rfl (Or.inl rfl) (qao qbg (qax qaH rfl B.len qbs (qaa (pv 1) qae)) qad))
    (qab (qal (i:=4) nd rfl (Or.inl rfl) (qao qks (qbF (qaa qad qae)) (qax (qgu rfl) rfl B.max ql8 (qaa (qao qbg (qax qaH rfl B.len qbs (qaa (pv 0) qae)) (pv 3)) (qaa qad qae)))))
    (qab (qcq PassesOwn.never rfl (qjg rfl B.range (qaa (qao qbg (qao qbg (qax qaH rfl B.len qbs (qaa (pv 0) qae)) (pv 3)) qad) (qaa (qdj qbK qad) (qaa (qdj qbK qad) qae)))) (qaD (i:=5) nd rfl (Or.inl rfl)) (qab (qal (i:=6) nd rfl (Or.inl rfl) (qao qcP (qaL qas (pv 2) (qao qbe (pv 5) (pv 3)) (fun _ _=>rfl)) (qaL qas (pv 1) (qdj qbK qad) (fun _ _=>rfl))))
    (qab (qdc (qaG qlb (qao qaT (pv 6) (qaL qas (pv 1) (qdj qbK qad) (fun _ _=>rfl))) (qaL qas (pv 2) (qao qbe (pv 5) (pv 3)) (fun _ _=>rfl)) (nomark _)) (qah (qaF qgi)) qbf)
    (qab (qfN (pv 6) (qfM (pv 4) (pv 5) qbL))
    (qah (qdc (qaG qlb (pv 6) qad (nomark _)) (qah (qcq PassesOwn.never rfl (qdS rfl B.range (qaa (pv 3) qae)) (qaD (i:=7) nd rfl (Or.inl rfl)) (qah (qjN (pv 2) (qao qbe (pv 5) (pv 7)) qig (qao qaT (pv 6) (qaL qas (pv 1) (pv 7) (fun _ _=>rfl))) qgl qbL)))) qbf))))))
    (qah (qaF (qhX (qlD (qax (qmp rfl) rfl B.any qqJ (qaa (qcO qfq (pv 2) qdU (qdV (pv 3))) qae))) qgi (pv 4)))))))),qj6 h⟩
theorem sc_row_less:FnScope ["row", "factor", "other", "weight", "shift", "result", "place", "whole"] ["row", "factor", "other", "weight", "shift"] (qan qfo):=⟨rfl,rfl,rfl,by decide +kernel,rfl,by decide +kernel,by decide +kernel⟩
theorem qki (F:Fun K "row_less" "row_less" qfo f fd) (B:Bl K mg) (c_row_trimmed:Cal P w K mg base 1 "row_trimmed" ["row"] (qaK K)):FnOk P w K mg base CX0 2 f fd ["row", "factor", "other", "weight", "shift"] (qbD K):=by
  refine F.ok sc_row_less (fun vs H Q E h=>?_) (fun cdv A outer s H vs Q E hr h=>?_)
  · obtain ⟨_,_,_,_,_,_,_,rfl,_⟩:=h
    rfl
  have nd:=sc_row_less.nd
  have hu:=hr.units0
  have hu64:=hr.units
  exact ⟨qfw K,(qab (qid (i:=5) (N:=["whole", "factor"]) (capt:=[none,some 1]) nd rfl (Or.inl rfl) rfl (BlkOk.of rfl rfl rfl rfl (List.forall_mem_singleton.mpr rfl) rfl rfl rfl) (qbw (pv 0)) (fun _ _ _ _=>(qaD (i:=0) (show (["whole", "factor"]:List PySem.Str).Nodup by decide +kernel) rfl (Or.inl rfl))) (fun _ _ _ _=>(qao qaT (pv 1) (pv 0))))
    (qab (qfm (qle PySem.F.plainAttrs_list PySem.F.slot_list_extend PySem.F.type_list_extend qlY (pv 5) (qaa (qao qks (qbF (qaa qad qae)) (qao qbg (qao qbe (qax qaH rfl B.len qbs (qaa (pv 2) qae)) (pv 4)) (qax qaH rfl B.len qbs (qaa (pv 0) qae)))) qae)))
    (qab (qcq PassesOwn.never rfl (qie rfl B.enumerate (qaa (pv 2) qae)) (qeE rfl (qbr (qaD (i:=6) nd rfl (Or.inl rfl)) (qbr (qaD (i:=7) nd rfl (Or.inl rfl)) qey))) (qah (qjN (pv 5) (qao qbe (pv 6) (pv 4)) qig (qao qaT (pv 3) (pv 7)) qgl qbL)))
    (qah (qaF (c_row_trimmed.pe hr (by decide) rfl (qaa (pv 5) qae))))))),qj5 h⟩
theorem sc_strand_rest:FnScope ["strand", "other", "shift", "top", "lead", "shared", "factor", "weight"] ["strand", "other"] (qan qdl):=⟨rfl,rfl,rfl,by decide +kernel,rfl,by decide +kernel,by decide +kernel⟩
theorem qhm (F:Fun K "strand_rest" "strand_rest" qdl f fd) (B:Bl K mg) (c_common_divisor:Cal P w K mg base 1 "common_divisor" ["one", "other"] (qaq K)) (c_row_less:Cal P w K mg base 2 "row_less" ["row", "factor", "other", "weight", "shift"] (qbD K)) (c_strand_shortened:Cal P w K mg base 3 "strand_shortened" ["strand"] (qaE K)):FnOk P w K mg base CX0 4 f fd ["strand", "other"] (qbc K):=by
  refine F.ok sc_strand_rest (fun vs H Q E h=>?_) (fun cdv A outer s H vs Q E hr h=>?_)
  · obtain ⟨_,_,_,rfl,_⟩:=h
    rfl
  have nd:=sc_strand_rest.nd
  have hu:=hr.units0
  have hu64:=hr.units
  exact ⟨qdv K,(qab (qbJ PassesOwn.never (qaG qrA (qax qaH rfl B.len qbs (qaa (qaL qas (pv 0) qad (fun _ _=>rfl)) qae)) (qax qaH rfl B.len qbs (qaa (qaL qas (pv 1) qad (fun _ _=>rfl)) qae)) (nomark _)) (qab (qal (i:=2) nd rfl (Or.inr rfl) (qao qbg (qax qaH rfl B.len qbs (qaa (qaL qas (pv 0) qad (fun _ _=>rfl)) qae)) (qax qaH rfl B.len qbs (qaa (qaL qas (pv 1) qad (fun _ _=>rfl)) qae))))
    (qab (qal (i:=3) nd rfl (Or.inl rfl) (qaL qas (qaL qas (pv 0) qad (fun _ _=>rfl)) (qdj qbK qad) (fun _ _=>rfl)))
    (qab (qal (i:=4) nd rfl (Or.inl rfl) (qaL qas (qaL qas (pv 1) qad (fun _ _=>rfl)) (qdj qbK qad) (fun _ _=>rfl)))
    (qab (qal (i:=5) nd rfl (Or.inl rfl) (c_common_divisor.pe hr (by decide) rfl (qaa (pv 3) (qaa (pv 4) qae))))
    (qab (qal (i:=6) nd rfl (Or.inr rfl) (qao qcP (pv 4) (pv 5)))
    (qab (qal (i:=7) nd rfl (Or.inr rfl) (qao qcP (pv 3) (pv 5)))
    (qah (qid (i:=0) (N:=["row", "follower", "factor", "weight", "shift"]) (capt:=[none,none,some 6,some 7,some 2]) nd rfl (Or.inl rfl) rfl (BlkOk.of rfl rfl rfl rfl (List.forall_mem_cons.mpr ⟨rfl,(List.forall_mem_cons.mpr ⟨rfl,(List.forall_mem_singleton.mpr rfl)⟩)⟩) rfl rfl rfl) (qqI rfl B.zip (qaa (pv 0) (qaa (pv 1) qae))) (fun _ _ _ _=>(qeE rfl (qbr (qaD (i:=0) (show (["row", "follower", "factor", "weight", "shift"]:List PySem.Str).Nodup by decide +kernel) rfl (Or.inl rfl)) (qbr (qaD (i:=1) (show (["row", "follower", "factor", "weight", "shift"]:List PySem.Str).Nodup by decide +kernel) rfl (Or.inl rfl)) qey)))) (fun _ _ _ _=>(c_row_less.pe hr (by decide) rfl (qaa (pv 0) (qaa (pv 2) (qaa (pv 1) (qaa (pv 3) (qaa (pv 4) qae))))))))))))))))
    (qah (qaF (c_strand_shortened.pe hr (by decide) rfl (qaa (pv 0) qae))))),qhj h⟩
theorem sc_strand_shortened:FnScope ["strand", "shared", "row"] ["strand"] (qan qbM):=⟨rfl,rfl,rfl,by decide +kernel,rfl,by decide +kernel,by decide +kernel⟩
theorem qeR (F:Fun K "strand_shortened" "strand_shortened" qbM f fd) (B:Bl K mg) (c_content:Cal P w K mg base 2 "content" ["row", "start"] (qbY K)) (c_row_parted:Cal P w K mg base 1 "row_parted" ["row", "divisor"] (qbk K)):FnOk P w K mg base CX0 3 f fd ["strand"] (qaE K):=by
  refine F.ok sc_strand_shortened (fun vs H Q E h=>?_) (fun cdv A outer s H vs Q E hr h=>?_)
  · obtain ⟨_,_,rfl,_⟩:=h
    rfl
  have nd:=sc_strand_shortened.nd
  have hu:=hr.units0
  have hu64:=hr.units
  exact ⟨qbO K,(qab (qal (i:=1) nd rfl (Or.inr rfl) qad)
    (qab (qcq PassesOwn.never rfl (qbw (pv 0)) (qaD (i:=2) nd rfl (Or.inl rfl)) (qah (qal (i:=1) nd rfl (Or.inr rfl) (c_content.pe hr (by decide) rfl (qaa (pv 2) (qaa (pv 1) qae))))))
    (qah (qaF (qcj (N:=["row", "shared"]) (capt:=[none,some 1]) rfl (BlkOk.of rfl rfl rfl rfl (List.forall_mem_singleton.mpr rfl) rfl rfl rfl) (qbw (pv 0)) (fun _ _ _ _=>(qaD (i:=0) (show (["row", "shared"]:List PySem.Str).Nodup by decide +kernel) rfl (Or.inl rfl))) (fun _ _ _ _=>(c_row_parted.pe hr (by decide) rfl (qaa (pv 0) (qaa (pv 1) qae))))))))),qeP h⟩
theorem sc_row_shortened:FnScope ["row"] ["row"] (qan qct):=⟨rfl,rfl,rfl,by decide +kernel,rfl,by decide +kernel,by decide +kernel⟩
theorem qf4 (F:Fun K "row_shortened" "row_shortened" qct f fd) (B:Bl K mg) (c_strand_shortened:Cal P w K mg base 3 "strand_shortened" ["strand"] (qaE K)):FnOk P w K mg base CX0 4 f fd ["row"] (qay K):=by
  refine F.ok sc_row_shortened (fun vs H Q E h=>?_) (fun cdv A outer s H vs Q E hr h=>?_)
  · obtain ⟨_,_,rfl,_⟩:=h
    rfl
  have nd:=sc_row_shortened.nd
  have hu:=hr.units0
  have hu64:=hr.units
  exact ⟨qcA K,(qah (qaF (qaL qas (c_strand_shortened.pe hr (by decide) rfl (qaa (qbF (qaa (pv 0) qae)) qae)) qad (fun _ _=>rfl)))),qf1 h⟩
theorem sc_strand_euclid:FnScope ["strand", "other", "rest"] ["strand", "other"] (qan qcu):=⟨rfl,rfl,rfl,by decide +kernel,rfl,by decide +kernel,by decide +kernel⟩
theorem qf5 (F:Fun K "strand_euclid" "strand_euclid" qcu f fd) (B:Bl K mg) (c_strand_rest:Cal P w K mg base 4 "strand_rest" ["strand", "other"] (qbc K)):FnOk P w K mg base CX0 5 f fd ["strand", "other"] (qaR K):=by
  refine F.ok sc_strand_euclid (fun vs H Q E h=>?_) (fun cdv A outer s H vs Q E hr h=>?_)
  · obtain ⟨_,_,_,_,rfl,_⟩:=h
    rfl
  have nd:=sc_strand_euclid.nd
  have hu:=hr.units0
  have hu64:=hr.units
  exact ⟨qcB K,(qab (qbJ PassesOwn.never (qgw (qaL qas (pv 1) qad (fun _ _=>rfl)) (fun _=>rfl)) (qab (qdc (qaG qg9 (qax qaH rfl B.len qbs (qaa (qaL qas (pv 1) qad (fun _ _=>rfl)) qae)) qad (nomark _)) (qah (qaF (pv 1))) qbf)
    (qab (qal (i:=2) nd rfl (Or.inl rfl) (c_strand_rest.pe hr (by decide) rfl (qaa (pv 0) (qaa (pv 1) qae))))
    (qab (qal (i:=0) nd rfl (Or.inl rfl) (pv 1))
    (qah (qal (i:=1) nd rfl (Or.inl rfl) (pv 2)))))))
    (qah (qaF (pv 0)))),qf2 h⟩
theorem sc_inverse_modulo:FnScope ["whole", "prime", "one", "other", "one_weight", "other_weight", "quotient", "rest"] ["whole", "prime"] (qan qcg):=⟨rfl,rfl,rfl,by decide +kernel,rfl,by decide +kernel,by decide +kernel⟩
theorem qfJ (F:Fun K "inverse_modulo" "inverse_modulo" qcg f fd) (B:Bl K mg)  : FnOk P w K mg base CX0 1 f fd ["whole", "prime"] (qaU K):=by
  refine F.ok sc_inverse_modulo (fun vs H Q E h=>?_) (fun cdv A outer s H vs Q E hr h=>?_)
  · obtain ⟨_,_,rfl,_⟩:=h
    rfl
  have nd:=sc_inverse_modulo.nd
  have hu:=hr.units0
  have hu64:=hr.units
  exact ⟨qcl K,(qab (qal (i:=2) nd rfl (Or.inl rfl) (pv 1))
    (qab (qal (i:=3) nd rfl (Or.inl rfl) (qao qb5 (pv 0) (pv 1)))
    (qab (qal (i:=4) nd rfl (Or.inl rfl) qad)
    (qab (qal (i:=5) nd rfl (Or.inl rfl) qad)
    (qab (qbJ PassesOwn.never (qaG qlb (pv 3) qad (nomark _)) (qab (qal (i:=6) nd rfl (Or.inl rfl) (qao qga (pv 2) (pv 3)))
    (qab (qal (i:=7) nd rfl (Or.inl rfl) (qao qbg (pv 2) (qao qaT (pv 6) (pv 3))))
    (qab (qal (i:=2) nd rfl (Or.inl rfl) (pv 3))
    (qab (qal (i:=3) nd rfl (Or.inl rfl) (pv 7))
    (qab (qal (i:=7) nd rfl (Or.inl rfl) (qao qbg (pv 4) (qao qaT (pv 6) (pv 5))))
    (qab (qal (i:=4) nd rfl (Or.inl rfl) (pv 5))
    (qah (qal (i:=5) nd rfl (Or.inl rfl) (pv 7))))))))))
    (qah (qaF (qao qb5 (pv 4) (pv 1))))))))),qfC h⟩
theorem sc_rests_modulo:FnScope ["row", "prime"] ["row", "prime"] (qan qc2):=⟨rfl,rfl,rfl,by decide +kernel,rfl,by decide +kernel,by decide +kernel⟩
theorem qg2 (F:Fun K "rests_modulo" "rests_modulo" qc2 f fd) (B:Bl K mg)  : FnOk P w K mg base CX0 1 f fd ["row", "prime"] (qa5 K):=by
  refine F.ok sc_rests_modulo (fun vs H Q E h=>?_) (fun cdv A outer s H vs Q E hr h=>?_)
  · obtain ⟨_,_,_,rfl,_⟩:=h
    rfl
  have nd:=sc_rests_modulo.nd
  have hu:=hr.units0
  have hu64:=hr.units
  exact ⟨qc7 K,(qah (qaF (qcj (N:=["whole", "prime"]) (capt:=[none,some 1]) rfl (BlkOk.of rfl rfl rfl rfl (List.forall_mem_singleton.mpr rfl) rfl rfl rfl) (qbw (pv 0)) (fun _ _ _ _=>(qaD (i:=0) (show (["whole", "prime"]:List PySem.Str).Nodup by decide +kernel) rfl (Or.inl rfl))) (fun _ _ _ _=>(qao qb5 (pv 0) (pv 1)))))),qgP h⟩
theorem sc_row_modulo:FnScope ["row", "prime"] ["row", "prime"] (qan qd0):=⟨rfl,rfl,rfl,by decide +kernel,rfl,by decide +kernel,by decide +kernel⟩
theorem qiR (F:Fun K "row_modulo" "row_modulo" qd0 f fd) (B:Bl K mg) (c_rests_modulo:Cal P w K mg base 1 "rests_modulo" ["row", "prime"] (qa5 K)) (c_row_trimmed:Cal P w K mg base 1 "row_trimmed" ["row"] (qaK K)):FnOk P w K mg base CX0 2 f fd ["row", "prime"] (qaW K):=by
  refine F.ok sc_row_modulo (fun vs H Q E h=>?_) (fun cdv A outer s H vs Q E hr h=>?_)
  · obtain ⟨_,_,_,rfl,_⟩:=h
    rfl
  have nd:=sc_row_modulo.nd
  have hu:=hr.units0
  have hu64:=hr.units
  exact ⟨qef K,(qah (qaF (c_row_trimmed.pe hr (by decide) rfl (qaa (c_rests_modulo.pe hr (by decide) rfl (qaa (pv 0) (qaa (pv 1) qae))) qae)))),qiA h⟩
theorem sc_monic_modulo:FnScope ["row", "prime", "factor"] ["row", "prime"] (qan qc3):=⟨rfl,rfl,rfl,by decide +kernel,rfl,by decide +kernel,by decide +kernel⟩
theorem qg3 (F:Fun K "monic_modulo" "monic_modulo" qc3 f fd) (B:Bl K mg) (c_inverse_modulo:Cal P w K mg base 1 "inverse_modulo" ["whole", "prime"] (qaU K)):FnOk P w K mg base CX0 2 f fd ["row", "prime"] (qaO K):=by
  refine F.ok sc_monic_modulo (fun vs H Q E h=>?_) (fun cdv A outer s H vs Q E hr h=>?_)
  · obtain ⟨_,_,_,rfl,_⟩:=h
    rfl
  have nd:=sc_monic_modulo.nd
  have hu:=hr.units0
  have hu64:=hr.units
  exact ⟨qc8 K,(qab (qdc (qot (qgw (pv 0) (fun _=>rfl))) (qah (qaF (qbF qae))) qbf)
    (qab (qal (i:=2) nd rfl (Or.inr rfl) (c_inverse_modulo.pe hr (by decide) rfl (qaa (qaL qas (pv 0) (qdj qbK qad) (fun _ _=>rfl)) (qaa (pv 1) qae))))
    (qah (qaF (qcj (N:=["whole", "prime", "factor"]) (capt:=[none,some 1,some 2]) rfl (BlkOk.of rfl rfl rfl rfl (List.forall_mem_cons.mpr ⟨rfl,(List.forall_mem_singleton.mpr rfl)⟩) rfl rfl rfl) (qbw (pv 0)) (fun _ _ _ _=>(qaD (i:=0) (show (["whole", "prime", "factor"]:List PySem.Str).Nodup by decide +kernel) rfl (Or.inl rfl))) (fun _ _ _ _=>(qao qb5 (qao qaT (pv 0) (pv 2)) (pv 1)))))))),qgQ h⟩
theorem sc_split_modulo:FnScope ["row", "divisor", "modulus", "rest", "last", "quotient", "shift", "weight", "place"] ["row", "divisor", "modulus"] (qan qc4):=⟨rfl,rfl,rfl,by decide +kernel,rfl,by decide +kernel,by decide +kernel⟩
theorem qg4 (F:Fun K "split_modulo" "split_modulo" qc4 f fd) (B:Bl K mg) (c_row_trimmed:Cal P w K mg base 1 "row_trimmed" ["row"] (qaK K)) (c_row_modulo:Cal P w K mg base 2 "row_modulo" ["row", "prime"] (qaW K)):FnOk P w K mg base CX0 3 f fd ["row", "divisor", "modulus"] (qa6 K):=by
  refine F.ok sc_split_modulo (fun vs H Q E h=>?_) (fun cdv A outer s H vs Q E hr h=>?_)
  · obtain ⟨_,_,_,_,_,_,rfl,_⟩:=h
    rfl
  have nd:=sc_split_modulo.nd
  have hu:=hr.units0
  have hu64:=hr.units
  exact ⟨qc9 K,(qab (qal (i:=3) nd rfl (Or.inl rfl) (qcr qfr rfl B.list qia (qaa (pv 0) qae)))
    (qab (qal (i:=4) nd rfl (Or.inl rfl) (qao qbg (qax qaH rfl B.len qbs (qaa (pv 1) qae)) qad))
    (qab (qal (i:=5) nd rfl (Or.inl rfl) (qao qks (qbF (qaa qad qae)) (qax (qgu rfl) rfl B.max ql8 (qaa (qao qbg (qax qaH rfl B.len qbs (qaa (pv 0) qae)) (pv 4)) (qaa qad qae)))))
    (qab (qcq PassesOwn.never rfl (qjg rfl B.range (qaa (qao qbg (qao qbg (qax qaH rfl B.len qbs (qaa (pv 0) qae)) (pv 4)) qad) (qaa (qdj qbK qad) (qaa (qdj qbK qad) qae)))) (qaD (i:=6) nd rfl (Or.inl rfl)) (qab (qal (i:=7) nd rfl (Or.inl rfl) (qao qb5 (qaL qas (pv 3) (qao qbe (pv 6) (pv 4)) (fun _ _=>rfl)) (pv 2)))
    (qab (qfN (pv 7) (qfM (pv 5) (pv 6) qbL))
    (qah (qdc (qaG qlb (pv 7) qad (nomark _)) (qah (qcq PassesOwn.never rfl (qdS rfl B.range (qaa (pv 4) qae)) (qaD (i:=8) nd rfl (Or.inl rfl)) (qah (qjN (pv 3) (qao qbe (pv 6) (pv 8)) qig (qao qaT (pv 7) (qaL qas (pv 1) (pv 8) (fun _ _=>rfl))) qgl qbL)))) qbf)))))
    (qah (qaF (qhx (qaa (c_row_trimmed.pe hr (by decide) rfl (qaa (pv 5) qae)) (qaa (c_row_modulo.pe hr (by decide) rfl (qaa (qcO qfq (pv 3) qdU (qdV (pv 4))) (qaa (pv 2) qae))) qae))))))))),qgR h⟩
theorem sc_rest_modulo:FnScope ["row", "divisor", "modulus"] ["row", "divisor", "modulus"] (qan qdm):=⟨rfl,rfl,rfl,by decide +kernel,rfl,by decide +kernel,by decide +kernel⟩
theorem qhn (F:Fun K "rest_modulo" "rest_modulo" qdm f fd) (B:Bl K mg) (c_split_modulo:Cal P w K mg base 3 "split_modulo" ["row", "divisor", "modulus"] (qa6 K)):FnOk P w K mg base CX0 4 f fd ["row", "divisor", "modulus"] (qbd K):=by
  refine F.ok sc_rest_modulo (fun vs H Q E h=>?_) (fun cdv A outer s H vs Q E hr h=>?_)
  · obtain ⟨_,_,_,_,_,_,rfl,_⟩:=h
    rfl
  have nd:=sc_rest_modulo.nd
  have hu:=hr.units0
  have hu64:=hr.units
  exact ⟨qdw K,(qah (qaF (qaL qch (c_split_modulo.pe hr (by decide) rfl (qaa (pv 0) (qaa (pv 1) (qaa (pv 2) qae)))) qad (fun _ _=>rfl)))),qhi h⟩
theorem sc_euclid_modulo:FnScope ["row", "other", "prime", "rest"] ["row", "other", "prime"] (qan qcv):=⟨rfl,rfl,rfl,by decide +kernel,rfl,by decide +kernel,by decide +kernel⟩
theorem qf6 (F:Fun K "euclid_modulo" "euclid_modulo" qcv f fd) (B:Bl K mg) (c_row_modulo:Cal P w K mg base 2 "row_modulo" ["row", "prime"] (qaW K)) (c_monic_modulo:Cal P w K mg base 2 "monic_modulo" ["row", "prime"] (qaO K)) (c_rest_modulo:Cal P w K mg base 4 "rest_modulo" ["row", "divisor", "modulus"] (qbd K)):FnOk P w K mg base CX0 5 f fd ["row", "other", "prime"] (qa1 K):=by
  refine F.ok sc_euclid_modulo (fun vs H Q E h=>?_) (fun cdv A outer s H vs Q E hr h=>?_)
  · obtain ⟨_,_,_,_,_,rfl,_⟩:=h
    rfl
  have nd:=sc_euclid_modulo.nd
  have hu:=hr.units0
  have hu64:=hr.units
  exact ⟨qcF K,(qab (qal (i:=0) nd rfl (Or.inl rfl) (c_monic_modulo.pe hr (by decide) rfl (qaa (c_row_modulo.pe hr (by decide) rfl (qaa (pv 0) (qaa (pv 2) qae))) (qaa (pv 2) qae))))
    (qab (qal (i:=1) nd rfl (Or.inl rfl) (c_monic_modulo.pe hr (by decide) rfl (qaa (c_row_modulo.pe hr (by decide) rfl (qaa (pv 1) (qaa (pv 2) qae))) (qaa (pv 2) qae))))
    (qab (qbJ PassesOwn.never (qgw (pv 1) (fun _=>rfl)) (qab (qal (i:=3) nd rfl (Or.inl rfl) (c_rest_modulo.pe hr (by decide) rfl (qaa (pv 0) (qaa (pv 1) (qaa (pv 2) qae)))))
    (qab (qal (i:=0) nd rfl (Or.inl rfl) (pv 1))
    (qah (qal (i:=1) nd rfl (Or.inl rfl) (c_monic_modulo.pe hr (by decide) rfl (qaa (pv 3) (qaa (pv 2) qae))))))))
    (qah (qaF (pv 0)))))),qf0 h⟩
theorem sc_nearest:FnScope ["whole", "prime", "rest"] ["whole", "prime"] (qan qgq):=⟨rfl,rfl,rfl,by decide +kernel,rfl,by decide +kernel,by decide +kernel⟩
theorem qlw (F:Fun K "nearest" "nearest" qgq f fd) (B:Bl K mg)  : FnOk P w K mg base CX0 1 f fd ["whole", "prime"] (qbZ K):=by
  refine F.ok sc_nearest (fun vs H Q E h=>?_) (fun cdv A outer s H vs Q E hr h=>?_)
  · obtain ⟨_,_,rfl,_⟩:=h
    rfl
  have nd:=sc_nearest.nd
  have hu:=hr.units0
  have hu64:=hr.units
  exact ⟨qgI K,(qab (qal (i:=2) nd rfl (Or.inl rfl) (qao qb5 (pv 0) (pv 1)))
    (qah (qaF (qhX (qaG qha (qao qaT qad (pv 2)) (pv 1) (nomark _)) (qao qbg (pv 2) (pv 1)) (pv 2))))),qlr h⟩
theorem sc_common_by_prime:FnScope ["row", "other", "prime", "lead", "found", "guess"] ["row", "other", "prime"] (qan qbT):=⟨rfl,rfl,rfl,by decide +kernel,rfl,by decide +kernel,by decide +kernel⟩
theorem qfk (F:Fun K "common_by_prime" "common_by_prime" qbT f fd) (B:Bl K mg) (c_common_divisor:Cal P w K mg base 1 "common_divisor" ["one", "other"] (qaq K)) (c_euclid_modulo:Cal P w K mg base 5 "euclid_modulo" ["row", "other", "prime"] (qa1 K)) (c_nearest:Cal P w K mg base 1 "nearest" ["whole", "prime"] (qbZ K)) (c_row_shortened:Cal P w K mg base 4 "row_shortened" ["row"] (qay K)) (c_row_over:Cal P w K mg base 1 "row_over" ["row", "divisor"] (qaN K)):FnOk P w K mg base CX0 6 f fd ["row", "other", "prime"] (qaP K):=by
  refine F.ok sc_common_by_prime (fun vs H Q E h=>?_) (fun cdv A outer s H vs Q E hr h=>?_)
  · obtain ⟨_,_,_,_,_,_,_,_,rfl,_⟩:=h
    rfl
  have nd:=sc_common_by_prime.nd
  have hu:=hr.units0
  have hu64:=hr.units
  exact ⟨qb2 K,(qab (qal (i:=3) nd rfl (Or.inr rfl) (c_common_divisor.pe hr (by decide) rfl (qaa (qaL qas (pv 0) (qdj qbK qad) (fun _ _=>rfl)) (qaa (qaL qas (pv 1) (qdj qbK qad) (fun _ _=>rfl)) qae))))
    (qab (qdc (qaG qg9 (qao qb5 (pv 3) (pv 2)) qad (nomark _)) (qah (qaF qgi)) qbf)
    (qab (qal (i:=4) nd rfl (Or.inl rfl) (c_euclid_modulo.pe hr (by decide) rfl (qaa (pv 0) (qaa (pv 1) (qaa (pv 2) qae)))))
    (qab (qal (i:=5) nd rfl (Or.inl rfl) (c_row_shortened.pe hr (by decide) rfl (qaa (qcj (N:=["whole", "prime", "lead"]) (capt:=[none,some 2,some 3]) rfl (BlkOk.of rfl rfl rfl rfl (List.forall_mem_cons.mpr ⟨rfl,(List.forall_mem_singleton.mpr rfl)⟩) rfl rfl rfl) (qbw (pv 4)) (fun _ _ _ _=>(qaD (i:=0) (show (["whole", "prime", "lead"]:List PySem.Str).Nodup by decide +kernel) rfl (Or.inl rfl))) (fun _ _ _ _=>(c_nearest.pe hr (by decide) rfl (qaa (qao qaT (pv 2) (pv 0)) (qaa (pv 1) qae))))) qae)))
    (qab (qdc (PW.pt (qoZ (qaG qow (c_row_over.pe hr (by decide) rfl (qaa (pv 0) (qaa (pv 5) qae))) qgi (nomark _)) (qos (qaG qow (c_row_over.pe hr (by decide) rfl (qaa (pv 1) (qaa (pv 5) qae))) qgi (nomark _))))) (qah (qaF qgi)) qbf)
    (qah (qaF (pv 5)))))))),qfg h⟩
theorem sc_row_common:FnScope ["row", "other", "one", "two", "exponent", "found"] ["row", "other"] (qan qd1):=⟨rfl,rfl,rfl,by decide +kernel,rfl,by decide +kernel,by decide +kernel⟩
theorem qiS (F:Fun K "row_common" "row_common" qd1 f fd) (B:Bl K mg) (c_row_shortened:Cal P w K mg base 4 "row_shortened" ["row"] (qay K)) (c_raised:Cal P w K mg base 1 "raised" ["whole", "n"] (qcx K)) (c_common_by_prime:Cal P w K mg base 6 "common_by_prime" ["row", "other", "prime"] (qaP K)) (c_strand_euclid:Cal P w K mg base 5 "strand_euclid" ["strand", "other"] (qaR K)):FnOk P w K mg base CX0 7 f fd ["row", "other"] (qaX K):=by
  refine F.ok sc_row_common (fun vs H Q E h=>?_) (fun cdv A outer s H vs Q E hr h=>?_)
  · obtain ⟨_,_,_,_,_,_,_,rfl,_⟩:=h
    rfl
  have nd:=sc_row_common.nd
  have hu:=hr.units0
  have hu64:=hr.units
  exact ⟨qeg K,(qab (qal (i:=2) nd rfl (Or.inl rfl) (c_row_shortened.pe hr (by decide) rfl (qaa (pv 0) qae)))
    (qab (qal (i:=3) nd rfl (Or.inl rfl) (c_row_shortened.pe hr (by decide) rfl (qaa (pv 1) qae)))
    (qab (qdc (PW.pt (qgj (qgw (pv 0) (fun _=>rfl)) (qfl (qgw (pv 1) (fun _=>rfl))))) (qah (qcq PassesOwn.never rfl (qlG (qoX rfl B.EXPONENTS rfl)) (qaD (i:=4) nd rfl (Or.inl rfl)) (qab (qal (i:=5) nd rfl (Or.inl rfl) (c_common_by_prime.pe hr (by decide) rfl (qaa (pv 2) (qaa (pv 3) (qaa (qao qbg (c_raised.pe hr (by decide) rfl (qaa qad (qaa (pv 4) qae))) qad) qae)))))
    (qah (qdc (qaG qo1 (pv 5) qgi (nomark _)) (qah (qaF (pv 5))) qbf))))) qbf)
    (qah (qaF (qaL qas (c_strand_euclid.pe hr (by decide) rfl (qaa (qbF (qaa (pv 2) qae)) (qaa (qbF (qaa (pv 3) qae)) qae))) qad (fun _ _=>rfl))))))),qiC B.xEXPONENTS h⟩
theorem sc_simple_row:FnScope ["row", "short", "simple"] ["row"] (qan qd2):=⟨rfl,rfl,rfl,by decide +kernel,rfl,by decide +kernel,by decide +kernel⟩
theorem qiT (F:Fun K "simple_row" "simple_row" qd2 f fd) (B:Bl K mg) (c_row_shortened:Cal P w K mg base 4 "row_shortened" ["row"] (qay K)) (c_row_slope:Cal P w K mg base 1 "row_slope" ["row"] (qbb K)) (c_row_common:Cal P w K mg base 7 "row_common" ["row", "other"] (qaX K)) (c_row_over:Cal P w K mg base 1 "row_over" ["row", "divisor"] (qaN K)):FnOk P w K mg base CX0 8 f fd ["row"] (qbl K):=by
  refine F.ok sc_simple_row (fun vs H Q E h=>?_) (fun cdv A outer s H vs Q E hr h=>?_)
  · obtain ⟨_,_,rfl,_⟩:=h
    rfl
  have nd:=sc_simple_row.nd
  have hu:=hr.units0
  have hu64:=hr.units
  exact ⟨qeh K,(qab (qal (i:=1) nd rfl (Or.inl rfl) (c_row_shortened.pe hr (by decide) rfl (qaa (pv 0) qae)))
    (qab (qal (i:=2) nd rfl (Or.inl rfl) (c_row_over.pe hr (by decide) rfl (qaa (pv 1) (qaa (c_row_common.pe hr (by decide) rfl (qaa (pv 1) (qaa (c_row_slope.pe hr (by decide) rfl (qaa (pv 1) qae)) qae))) qae))))
    (qah (qaF (qhX (qaG qha (qaL qas (pv 2) (qdj qbK qad) (fun _ _=>rfl)) qad (nomark _)) (pv 2) (qcj (N:=["whole"]) (capt:=[none]) rfl (BlkOk.of rfl rfl rfl rfl (fun _ h=>nomatch h) rfl rfl rfl) (qbw (pv 2)) (fun _ _ _ _=>(qaD (i:=0) (show (["whole"]:List PySem.Str).Nodup by decide +kernel) rfl (Or.inl rfl))) (fun _ _ _ _=>(qdj qbK (pv 0))))))))),qiH h⟩
theorem sc_ratio:FnScope ["top", "bottom", "shared"] ["top", "bottom"] (qan qjR):=⟨rfl,rfl,rfl,by decide +kernel,rfl,by decide +kernel,by decide +kernel⟩
theorem qoo (F:Fun K "ratio" "ratio" qjR f fd) (B:Bl K mg) (c_common_divisor:Cal P w K mg base 1 "common_divisor" ["one", "other"] (qaq K)):FnOk P w K mg base CX0 2 f fd ["top", "bottom"] (qcT K):=by
  refine F.ok sc_ratio (fun vs H Q E h=>?_) (fun cdv A outer s H vs Q E hr h=>?_)
  · obtain ⟨_,_,rfl,_⟩:=h
    rfl
  have nd:=sc_ratio.nd
  have hu:=hr.units0
  have hu64:=hr.units
  exact ⟨qj3 K,(qab (qal (i:=2) nd rfl (Or.inl rfl) (c_common_divisor.pe hr (by decide) rfl (qaa (pv 0) (qaa (pv 1) qae))))
    (qab (qdc (qaG qlO (pv 1) qad (nomark _)) (qah (qal (i:=2) nd rfl (Or.inl rfl) (qdj qbK (pv 2)))) qbf)
    (qah (qaF (qhx (qaa (qao qcP (pv 0) (pv 2)) (qaa (qao qcP (pv 1) (pv 2)) qae))))))),qn8 h⟩
theorem sc_poly:FnScope ["row", "many"] ["row"] (qan ql1):=⟨rfl,rfl,rfl,by decide +kernel,rfl,by decide +kernel,by decide +kernel⟩
theorem qpS (F:Fun K "poly" "poly" ql1 f fd) (B:Bl K mg)  : FnOk P w K mg base CX0 1 f fd ["row"] (qeK K):=by
  refine F.ok sc_poly (fun vs H Q E h=>?_) (fun cdv A outer s H vs Q E hr h=>?_)
  · obtain ⟨_,_,_,rfl,_⟩:=h
    rfl
  have nd:=sc_poly.nd
  have hu:=hr.units0
  have hu64:=hr.units
  exact ⟨qmH K,(qab (qal (i:=1) nd rfl (Or.inl rfl) (qax qaH rfl B.len qbs (qaa (pv 0) qae)))
    (qab (qbJ PassesOwn.never (PW.pt (qgj (qaG qha (pv 1) qad (nomark _)) (qfl (qaG qg9 (qaL qch (qaL qas (pv 0) (qao qbg (pv 1) qad) (fun _ _=>rfl)) qad (fun _ _=>rfl)) qad (nomark _))))) (qah (qhu (i:=1) nd rfl (Or.inl rfl) qad qgl)))
    (qah (qaF (qcr qgx rfl B.tuple qh9 (qaa (qcO qfq (pv 0) qdU (qdV (pv 1))) qae)))))),qpo h⟩
theorem sc_cleared:FnScope ["P", "bottom", "number"] ["P"] (qan qgr):=⟨rfl,rfl,rfl,by decide +kernel,rfl,by decide +kernel,by decide +kernel⟩
theorem qlx (F:Fun K "cleared" "cleared" qgr f fd) (B:Bl K mg) (c_common_divisor:Cal P w K mg base 1 "common_divisor" ["one", "other"] (qaq K)):FnOk P w K mg base CX0 2 f fd ["P"] (qbA K):=by
  refine F.ok sc_cleared (fun vs H Q E h=>?_) (fun cdv A outer s H vs Q E hr h=>?_)
  · obtain ⟨_,_,_,_,rfl,_⟩:=h
    rfl
  have nd:=sc_cleared.nd
  have hu:=hr.units0
  have hu64:=hr.units
  exact ⟨qgJ K,(qab (qal (i:=1) nd rfl (Or.inr rfl) qad)
    (qab (qcq PassesOwn.never rfl (qlG (pv 0)) (qaD (i:=2) nd rfl (Or.inl rfl)) (qah (qhu (i:=1) nd rfl (Or.inr rfl) (qao qga (qaL qch (pv 2) qad (fun _ _=>rfl)) (c_common_divisor.pe hr (by decide) rfl (qaa (pv 1) (qaa (qaL qch (pv 2) qad (fun _ _=>rfl)) qae)))) qib)))
    (qah (qaF (qhx (qaa (qcj (N:=["number", "bottom"]) (capt:=[none,some 1]) rfl (BlkOk.of rfl rfl rfl rfl (List.forall_mem_singleton.mpr rfl) rfl rfl rfl) (qlG (pv 0)) (fun _ _ _ _=>(qaD (i:=0) (show (["number", "bottom"]:List PySem.Str).Nodup by decide +kernel) rfl (Or.inl rfl))) (fun _ _ _ _=>(qao qaT (qaL qch (pv 0) qad (fun _ _=>rfl)) (qao qga (pv 1) (qaL qch (pv 0) qad (fun _ _=>rfl)))))) (qaa (pv 1) qae))))))),qlp h⟩
theorem sc_uncleared:FnScope ["row", "bottom"] ["row", "bottom"] (qan qeB):=⟨rfl,rfl,rfl,by decide +kernel,rfl,by decide +kernel,by decide +kernel⟩
theorem qjF (F:Fun K "uncleared" "uncleared" qeB f fd) (B:Bl K mg) (c_ratio:Cal P w K mg base 2 "ratio" ["top", "bottom"] (qcT K)) (c_poly:Cal P w K mg base 1 "poly" ["row"] (qeK K)):FnOk P w K mg base CX0 3 f fd ["row", "bottom"] (qbx K):=by
  refine F.ok sc_uncleared (fun vs H Q E h=>?_) (fun cdv A outer s H vs Q E hr h=>?_)
  · obtain ⟨_,_,_,rfl,_⟩:=h
    rfl
  have nd:=sc_uncleared.nd
  have hu:=hr.units0
  have hu64:=hr.units
  exact ⟨qeM K,(qah (qaF (c_poly.pe hr (by decide) rfl (qaa (qcj (N:=["whole", "bottom"]) (capt:=[none,some 1]) rfl (BlkOk.of rfl rfl rfl rfl (List.forall_mem_singleton.mpr rfl) rfl rfl rfl) (qbw (pv 0)) (fun _ _ _ _=>(qaD (i:=0) (show (["whole", "bottom"]:List PySem.Str).Nodup by decide +kernel) rfl (Or.inl rfl))) (fun _ _ _ _=>(c_ratio.pe hr (by decide) rfl (qaa (pv 0) (qaa (pv 1) qae))))) qae)))),qjo h⟩
theorem sc_simple_parts:FnScope ["P", "row", "spare", "left", "parts", "kept"] ["P"] (qan qc5):=⟨rfl,rfl,rfl,by decide +kernel,rfl,by decide +kernel,by decide +kernel⟩
theorem qg5 (F:Fun K "simple_parts" "simple_parts" qc5 f fd) (B:Bl K mg) (c_cleared:Cal P w K mg base 2 "cleared" ["P"] (qbA K)) (c_row_shortened:Cal P w K mg base 4 "row_shortened" ["row"] (qay K)) (c_row_slope:Cal P w K mg base 1 "row_slope" ["row"] (qbb K)) (c_row_common:Cal P w K mg base 7 "row_common" ["row", "other"] (qaX K)) (c_row_over:Cal P w K mg base 1 "row_over" ["row", "divisor"] (qaN K)) (c_made_monic:Cal P w K mg base 4 "made_monic" ["row"] (qa2 K)):FnOk P w K mg base CX0 8 f fd ["P"] (qa0 K):=by
  refine F.ok sc_simple_parts (fun vs H Q E h=>?_) (fun cdv A outer s H vs Q E hr h=>?_)
  · obtain ⟨_,_,_,rfl,_⟩:=h
    rfl
  have nd:=sc_simple_parts.nd
  have hu:=hr.units0
  have hu64:=hr.units
  exact ⟨qda K,(qab (qal (i:=1) nd rfl (Or.inl rfl) (c_row_shortened.pe hr (by decide) rfl (qaa (qaL qch (c_cleared.pe hr (by decide) rfl (qaa (pv 0) qae)) qad (fun _ _=>rfl)) qae)))
    (qab (qal (i:=2) nd rfl (Or.inl rfl) (c_row_common.pe hr (by decide) rfl (qaa (pv 1) (qaa (c_row_slope.pe hr (by decide) rfl (qaa (pv 1) qae)) qae))))
    (qab (qal (i:=3) nd rfl (Or.inl rfl) (c_row_over.pe hr (by decide) rfl (qaa (pv 1) (qaa (pv 2) qae))))
    (qab (qal (i:=4) nd rfl (Or.inl rfl) (qbF qae))
    (qab (qbJ PassesOwn.never (qaG qha (qax qaH rfl B.len qbs (qaa (pv 3) qae)) qad (nomark _)) (qab (qal (i:=5) nd rfl (Or.inl rfl) (c_row_common.pe hr (by decide) rfl (qaa (pv 3) (qaa (pv 2) qae))))
    (qab (qfm (qle PySem.F.plainAttrs_list PySem.F.slot_list_append PySem.F.type_list_append qdX (pv 4) (qaa (c_made_monic.pe hr (by decide) rfl (qaa (c_row_over.pe hr (by decide) rfl (qaa (pv 3) (qaa (pv 5) qae))) qae)) qae)))
    (qab (qal (i:=3) nd rfl (Or.inl rfl) (pv 5))
    (qah (qal (i:=2) nd rfl (Or.inl rfl) (c_row_over.pe hr (by decide) rfl (qaa (pv 2) (qaa (pv 5) qae)))))))))
    (qah (qaF (pv 4)))))))),qgX h⟩
theorem sc_made_monic:FnScope ["row"] ["row"] (qan qd3):=⟨rfl,rfl,rfl,by decide +kernel,rfl,by decide +kernel,by decide +kernel⟩
theorem qiU (F:Fun K "made_monic" "made_monic" qd3 f fd) (B:Bl K mg) (c_uncleared:Cal P w K mg base 3 "uncleared" ["row", "bottom"] (qbx K)):FnOk P w K mg base CX0 4 f fd ["row"] (qa2 K):=by
  refine F.ok sc_made_monic (fun vs H Q E h=>?_) (fun cdv A outer s H vs Q E hr h=>?_)
  · obtain ⟨_,_,rfl,_⟩:=h
    rfl
  have nd:=sc_made_monic.nd
  have hu:=hr.units0
  have hu64:=hr.units
  exact ⟨qei K,(qah (qaF (c_uncleared.pe hr (by decide) rfl (qaa (pv 0) (qaa (qaL qas (pv 0) (qdj qbK qad) (fun _ _=>rfl)) qae))))),qiG h⟩
theorem sc_radical:FnScope ["P"] ["P"] (qan qgs):=⟨rfl,rfl,rfl,by decide +kernel,rfl,by decide +kernel,by decide +kernel⟩
theorem qly (F:Fun K "radical" "radical" qgs f fd) (B:Bl K mg) (c_cleared:Cal P w K mg base 2 "cleared" ["P"] (qbA K)) (c_simple_row:Cal P w K mg base 8 "simple_row" ["row"] (qbl K)) (c_made_monic:Cal P w K mg base 4 "made_monic" ["row"] (qa2 K)):FnOk P w K mg base CX0 9 f fd ["P"] (qb1 K):=by
  refine F.ok sc_radical (fun vs H Q E h=>?_) (fun cdv A outer s H vs Q E hr h=>?_)
  · obtain ⟨_,_,_,rfl,_⟩:=h
    rfl
  have nd:=sc_radical.nd
  have hu:=hr.units0
  have hu64:=hr.units
  exact ⟨qgK K,(qah (qaF (c_made_monic.pe hr (by decide) rfl (qaa (c_simple_row.pe hr (by decide) rfl (qaa (qaL qch (c_cleared.pe hr (by decide) rfl (qaa (pv 0) qae)) qad (fun _ _=>rfl)) qae)) qae)))),qlt h⟩
theorem sc_l_hand:FnScope ["_law_script", "_law_first"] ["_law_script"] (qan qh3):=⟨rfl,rfl,rfl,by decide +kernel,rfl,by decide +kernel,by decide +kernel⟩
theorem qnu (F:Fun K "_law_hand" "_law_hand" qh3 f fd) (B:Bl K mg)  : FnOk P w K mg base CX0 1 f fd ["_law_script"] (qcy K):=by
  refine F.ok sc_l_hand (fun vs H Q E h=>?_) (fun cdv A outer s H vs Q E hr h=>?_)
  · obtain ⟨_,_,rfl,_⟩:=h
    rfl
  have nd:=sc_l_hand.nd
  have hu:=hr.units0
  have hu64:=hr.units
  exact ⟨qiq K,(qab (qal (i:=1) nd rfl (Or.inl rfl) (qax (qgA rfl) rfl B.sum ql9 (qaa (qcO qji (pv 0) qdU (qdV qad)) qae)))
    (qah (qaF (qbF (qaa (qcr qfr rfl B.list qia (qaa (qcO qji (pv 0) qdU (qdV qad)) qae)) (qaa qad (qaa (qao qic (qax qde rfl B.abs qhD (qaa (pv 1) qae)) qad) (qaa (qao qb5 (pv 1) qad) qae)))))))),qm9 h⟩
theorem sc_l_draw:FnScope ["_law_hand_here", "_law_many", "_law_found", "_law_cell", "_law_once", "_law_twice"] ["_law_hand_here", "_law_many"] (qan qh4):=⟨rfl,rfl,rfl,by decide +kernel,rfl,by decide +kernel,by decide +kernel⟩
theorem qnv (F:Fun K "_law_draw" "_law_draw" qh4 f fd) (B:Bl K mg)  : FnOk P w K mg base CX0 1 f fd ["_law_hand_here", "_law_many"] (qaI K):=by
  refine F.ok sc_l_draw (fun vs H Q E h=>?_) (fun cdv A outer s H vs Q E hr h=>?_)
  · obtain ⟨_,_,_,_,rfl,_⟩:=h
    rfl
  have nd:=sc_l_draw.nd
  have hu:=hr.units0
  have hu64:=hr.units
  exact ⟨qir K,(qab (qdc (PW.pt (qgj (qaG qg9 (qaL qas (pv 0) qad (fun _ _=>rfl)) qad (nomark _)) (qgj (qaG qg9 (qaL qas (pv 0) qad (fun _ _=>rfl)) qad (nomark _)) (qfl (qaG qlO (qao qbe (qaL qas (pv 0) qad (fun _ _=>rfl)) qad) (qax qaH rfl B.len qbs (qaa (qaL qas (pv 0) qad (fun _ _=>rfl)) qae)) (nomark _)))))) (qab (qfN (qao qbe (qaL qas (pv 0) qad (fun _ _=>rfl)) qad) (qfM (pv 0) qad qbL))
    (qah (qfN (qax qde rfl B.abs qhD (qaa (qaL qas (qaL qas (pv 0) qad (fun _ _=>rfl)) (qaL qas (pv 0) qad (fun _ _=>rfl)) (fun _ _=>rfl)) qae)) (qfM (pv 0) qad qbL)))) qbf)
    (qab (qdc (PW.pt (qgj (qaG qg9 (qaL qas (pv 0) qad (fun _ _=>rfl)) qad (nomark _)) (qfl (qaG qha (qaL qas (pv 0) qad (fun _ _=>rfl)) qad (nomark _))))) (qab (qal (i:=2) nd rfl (Or.inl rfl) (qao qb5 (qaL qas (pv 0) qad (fun _ _=>rfl)) (pv 1)))
    (qab (qfN (qao qic (qaL qas (pv 0) qad (fun _ _=>rfl)) (pv 1)) (qfM (pv 0) qad qbL))
    (qah (qaF (pv 2))))) qbf)
    (qab (qfN (qao qbe (qaL qas (pv 0) qad (fun _ _=>rfl)) qad) (qfM (pv 0) qad qbL))
    (qab (qal (i:=3) nd rfl (Or.inl rfl) (qax (qgA rfl) rfl B.sum ql9 (qaa (qcO qfq (qcO qfq (qaL qas (pv 0) qad (fun _ _=>rfl)) (qdV (qao qb5 (qaL qas (pv 0) qad (fun _ _=>rfl)) (qax (qgu rfl) rfl B.max ql8 (qaa qad (qaa (qax qaH rfl B.len qbs (qaa (qaL qas (pv 0) qad (fun _ _=>rfl)) qae)) qae))))) qdU) qdU (qdV qad)) qae)))
    (qab (qal (i:=4) nd rfl (Or.inl rfl) (qao qb5 (qao qaT (qao qbe (qao qbe (qao qb5 (pv 3) qad) (qao qaT qad (qaL qas (pv 0) qad (fun _ _=>rfl)))) qad) (qao qbe qad (qao qaT qad (qaL qas (pv 0) qad (fun _ _=>rfl))))) qad))
    (qab (qal (i:=5) nd rfl (Or.inl rfl) (qao qb5 (qao qbe (qao qaT (pv 4) (qao qbe (qao qb5 (pv 4) qad) (qaL qas (pv 0) qad (fun _ _=>rfl)))) (qao qaT qad (qaL qas (pv 0) qad (fun _ _=>rfl)))) qad))
    (qah (qaF (qao qb5 (qao qic (pv 5) qad) (pv 1)))))))))),qna h⟩
theorem sc_l_lowest:FnScope ["_law_top", "_law_bottom", "_law_one", "_law_other"] ["_law_top", "_law_bottom"] (qan qfp):=⟨rfl,rfl,rfl,by decide +kernel,rfl,by decide +kernel,by decide +kernel⟩
theorem qkj (F:Fun K "_law_lowest" "_law_lowest" qfp f fd) (B:Bl K mg)  : FnOk P w K mg base CX0 1 f fd ["_law_top", "_law_bottom"] (qa7 K):=by
  refine F.ok sc_l_lowest (fun vs H Q E h=>?_) (fun cdv A outer s H vs Q E hr h=>?_)
  · obtain ⟨_,_,rfl,_⟩:=h
    rfl
  have nd:=sc_l_lowest.nd
  have hu:=hr.units0
  have hu64:=hr.units
  exact ⟨qfz K,(qab (qou (i:=2) (j:=3) rfl nd rfl rfl (by decide) rfl rfl (qaa (qax qde rfl B.abs qhD (qaa (pv 0) qae)) (qaa (qax qde rfl B.abs qhD (qaa (pv 1) qae)) qae)) rfl)
    (qab (qbJ PassesOwn.never (qaG qha (pv 3) qad (nomark _)) (qah (qou (i:=2) (j:=3) rfl nd rfl rfl (by decide) rfl rfl (qaa (pv 3) (qaa (qao qb5 (pv 2) (pv 3)) qae)) rfl)))
    (qab (qdc (qaG qlO (pv 1) qad (nomark _)) (qah (qal (i:=2) nd rfl (Or.inl rfl) (qdj qbK (pv 2)))) qbf)
    (qah (qaF (qhx (qaa (qao qcP (pv 0) (pv 2)) (qaa (qao qcP (pv 1) (pv 2)) qae)))))))),qkd h⟩
theorem sc_l_row_times:FnScope ["_law_one", "_law_other", "_law_made", "_law_k", "_law_a", "_law_j", "_law_b"] ["_law_one", "_law_other"] (qan qdn):=⟨rfl,rfl,rfl,by decide +kernel,rfl,by decide +kernel,by decide +kernel⟩
theorem qho (F:Fun K "_law_row_times" "_law_row_times" qdn f fd) (B:Bl K mg)  : FnOk P w K mg base CX0 1 f fd ["_law_one", "_law_other"] (qaY K):=by
  refine F.ok sc_l_row_times (fun vs H Q E h=>?_) (fun cdv A outer s H vs Q E hr h=>?_)
  · obtain ⟨_,_,_,_,_,_,rfl,_⟩:=h
    rfl
  have nd:=sc_l_row_times.nd
  have hu:=hr.units0
  have hu64:=hr.units
  exact ⟨qdx K,(qab (qal (i:=2) nd rfl (Or.inl rfl) (qao qks (qbF (qaa qad qae)) (qao qbg (qao qbe (qax qaH rfl B.len qbs (qaa (pv 0) qae)) (qax qaH rfl B.len qbs (qaa (pv 1) qae))) qad)))
    (qab (qcq PassesOwn.never rfl (qie rfl B.enumerate (qaa (pv 0) qae)) (qeE rfl (qbr (qaD (i:=3) nd rfl (Or.inl rfl)) (qbr (qaD (i:=4) nd rfl (Or.inl rfl)) qey))) (qah (qcq PassesOwn.never rfl (qie rfl B.enumerate (qaa (pv 1) qae)) (qeE rfl (qbr (qaD (i:=5) nd rfl (Or.inl rfl)) (qbr (qaD (i:=6) nd rfl (Or.inl rfl)) qey))) (qah (qfN (qao qbe (qaL qas (pv 2) (qao qbe (pv 3) (pv 5)) (fun _ _=>rfl)) (qao qaT (pv 4) (pv 6))) (qfM (pv 2) (qao qbe (pv 3) (pv 5)) qbL))))))
    (qah (qaF (pv 2))))),qhk h⟩
theorem sc_l_poly_of:FnScope ["_law_row", "_law_scale_here"] ["_law_row", "_law_scale_here"] (qan qeC):=⟨rfl,rfl,rfl,by decide +kernel,rfl,by decide +kernel,by decide +kernel⟩
theorem qjG (F:Fun K "_law_poly_of" "_law_poly_of" qeC f fd) (B:Bl K mg) (c_l_lowest:Cal P w K mg base 1 "_law_lowest" ["_law_top", "_law_bottom"] (qa7 K)):FnOk P w K mg base CX0 2 f fd ["_law_row", "_law_scale_here"] (qby K):=by
  refine F.ok sc_l_poly_of (fun vs H Q E h=>?_) (fun cdv A outer s H vs Q E hr h=>?_)
  · obtain ⟨_,_,_,_,_,rfl,_⟩:=h
    rfl
  have nd:=sc_l_poly_of.nd
  have hu:=hr.units0
  have hu64:=hr.units
  exact ⟨qeN K,(qah (qaF (qcr qgx rfl B.tuple qh9 (qaa (qcj (N:=["_law_one", "_law_scale_here"]) (capt:=[none,some 1]) rfl (BlkOk.of rfl rfl rfl rfl (List.forall_mem_singleton.mpr rfl) rfl rfl rfl) (qbw (pv 0)) (fun _ _ _ _=>(qaD (i:=0) (show (["_law_one", "_law_scale_here"]:List PySem.Str).Nodup by decide +kernel) rfl (Or.inl rfl))) (fun _ _ _ _=>(c_l_lowest.pe hr (by decide) rfl (qaa (qao qaT (pv 0) (qaL qch (pv 1) qad (fun _ _=>rfl))) (qaa (qaL qch (pv 1) qad (fun _ _=>rfl)) qae))))) qae)))),qju h⟩
theorem sc_l_root:FnScope ["_law_hand_here", "_law_great", "_law_top", "_law_bottom"] ["_law_hand_here", "_law_great"] (qan qh5):=⟨rfl,rfl,rfl,by decide +kernel,rfl,by decide +kernel,by decide +kernel⟩
theorem qnw (F:Fun K "_law_root" "_law_root" qh5 f fd) (B:Bl K mg) (c_l_draw:Cal P w K mg base 1 "_law_draw" ["_law_hand_here", "_law_many"] (qaI K)) (c_l_lowest:Cal P w K mg base 1 "_law_lowest" ["_law_top", "_law_bottom"] (qa7 K)):FnOk P w K mg base CX0 2 f fd ["_law_hand_here", "_law_great"] (qcz K):=by
  refine F.ok sc_l_root (fun vs H Q E h=>?_) (fun cdv A outer s H vs Q E hr h=>?_)
  · obtain ⟨_,_,_,rfl,_⟩:=h
    rfl
  have nd:=sc_l_root.nd
  have hu:=hr.units0
  have hu64:=hr.units
  exact ⟨qiu K,(qab (qal (i:=2) nd rfl (Or.inl rfl) (qao qbg (c_l_draw.pe hr (by decide) rfl (qaa (pv 0) (qaa qad qae))) qad))
    (qab (qal (i:=3) nd rfl (Or.inl rfl) (qao qbe qad (c_l_draw.pe hr (by decide) rfl (qaa (pv 0) (qaa qad qae)))))
    (qab (qdc (qlD (pv 1)) (qab (qal (i:=2) nd rfl (Or.inl rfl) (qao qbe (qao qbg (c_l_draw.pe hr (by decide) rfl (qaa (pv 0) (qaa (qao qbg (qao qaT qad (qao qjS qad qad)) qad) qae))) (qao qjS qad qad)) qad))
    (qah (qal (i:=3) nd rfl (Or.inl rfl) (qao qbe qad (c_l_draw.pe hr (by decide) rfl (qaa (pv 0) (qaa (qao qjS qad qad) qae))))))) qbf)
    (qah (qaF (c_l_lowest.pe hr (by decide) rfl (qaa (pv 2) (qaa (pv 3) qae)))))))),qno h⟩
theorem sc_l_rootless:FnScope ["_law_hand_here", "_law_size", "_law_row", "_law_k"] ["_law_hand_here", "_law_size"] (qan qd4):=⟨rfl,rfl,rfl,by decide +kernel,rfl,by decide +kernel,by decide +kernel⟩
theorem qiV (F:Fun K "_law_rootless" "_law_rootless" qd4 f fd) (B:Bl K mg) (c_l_draw:Cal P w K mg base 1 "_law_draw" ["_law_hand_here", "_law_many"] (qaI K)):FnOk P w K mg base CX0 2 f fd ["_law_hand_here", "_law_size"] (qbm K):=by
  refine F.ok sc_l_rootless (fun vs H Q E h=>?_) (fun cdv A outer s H vs Q E hr h=>?_)
  · obtain ⟨_,_,_,_,rfl,_⟩:=h
    rfl
  have nd:=sc_l_rootless.nd
  have hu:=hr.units0
  have hu64:=hr.units
  exact ⟨qej K,(qab (qal (i:=2) nd rfl (Or.inl rfl) (qbF (qaa (qao qaT qad (qao qbg (qao qaT qad (c_l_draw.pe hr (by decide) rfl (qaa (pv 0) (qaa qad qae)))) qad)) qae)))
    (qab (qcq PassesOwn.never rfl (qdS rfl B.range (qaa (qao qbg (pv 1) qad) qae)) (qaD (i:=3) nd rfl (Or.inl rfl)) (qah (qfm (qle PySem.F.plainAttrs_list PySem.F.slot_list_append PySem.F.type_list_append qdX (pv 2) (qaa (qao qaT qad (qao qbg (c_l_draw.pe hr (by decide) rfl (qaa (pv 0) (qaa qad qae))) qad)) qae)))))
    (qah (qaF (qao qqj (pv 2) (qbF (qaa (qao qbe qad (qao qaT qad (c_l_draw.pe hr (by decide) rfl (qaa (pv 0) (qaa qad qae))))) qae))))))),qiM h⟩
theorem sc_l_scale:FnScope ["_law_hand_here"] ["_law_hand_here"] (qan qgt):=⟨rfl,rfl,rfl,by decide +kernel,rfl,by decide +kernel,by decide +kernel⟩
theorem qlz (F:Fun K "_law_scale" "_law_scale" qgt f fd) (B:Bl K mg) (c_l_draw:Cal P w K mg base 1 "_law_draw" ["_law_hand_here", "_law_many"] (qaI K)) (c_l_lowest:Cal P w K mg base 1 "_law_lowest" ["_law_top", "_law_bottom"] (qa7 K)):FnOk P w K mg base CX0 2 f fd ["_law_hand_here"] (qb0 K):=by
  refine F.ok sc_l_scale (fun vs H Q E h=>?_) (fun cdv A outer s H vs Q E hr h=>?_)
  · obtain ⟨_,_,_,rfl,_⟩:=h
    rfl
  have nd:=sc_l_scale.nd
  have hu:=hr.units0
  have hu64:=hr.units
  exact ⟨qgL K,(qah (qaF (c_l_lowest.pe hr (by decide) rfl (qaa (qao qaT (qaL qas (qbF (qaa qad (qaa (qdj qbK qad) qae))) (c_l_draw.pe hr (by decide) rfl (qaa (pv 0) (qaa qad qae))) (fun _ _=>rfl)) (qao qbe qad (c_l_draw.pe hr (by decide) rfl (qaa (pv 0) (qaa qad qae))))) (qaa (qao qbe qad (c_l_draw.pe hr (by decide) rfl (qaa (pv 0) (qaa qad qae)))) qae))))),qls h⟩
theorem sc_l_monic_of:FnScope ["_law_row"] ["_law_row"] (qan qd5):=⟨rfl,rfl,rfl,by decide +kernel,rfl,by decide +kernel,by decide +kernel⟩
theorem qiW (F:Fun K "_law_monic_of" "_law_monic_of" qd5 f fd) (B:Bl K mg) (c_l_lowest:Cal P w K mg base 1 "_law_lowest" ["_law_top", "_law_bottom"] (qa7 K)):FnOk P w K mg base CX0 2 f fd ["_law_row"] (qaQ K):=by
  refine F.ok sc_l_monic_of (fun vs H Q E h=>?_) (fun cdv A outer s H vs Q E hr h=>?_)
  · obtain ⟨_,_,rfl,_⟩:=h
    rfl
  have nd:=sc_l_monic_of.nd
  have hu:=hr.units0
  have hu64:=hr.units
  exact ⟨qek K,(qah (qaF (qcr qgx rfl B.tuple qh9 (qaa (qcj (N:=["_law_one", "_law_row"]) (capt:=[none,some 0]) rfl (BlkOk.of rfl rfl rfl rfl (List.forall_mem_singleton.mpr rfl) rfl rfl rfl) (qbw (pv 0)) (fun _ _ _ _=>(qaD (i:=0) (show (["_law_one", "_law_row"]:List PySem.Str).Nodup by decide +kernel) rfl (Or.inl rfl))) (fun _ _ _ _=>(c_l_lowest.pe hr (by decide) rfl (qaa (pv 0) (qaa (qaL qas (pv 1) (qdj qbK qad) (fun _ _=>rfl)) qae))))) qae)))),qiE h⟩
theorem sc_l_factors:FnScope ["_law_hand_here", "_law_factors_here", "_law_most", "_law_k", "_law_root_here", "_law_row", "_law_often", "_law_known", "_law_grown"] ["_law_hand_here"] (qan qeD):=⟨rfl,rfl,rfl,by decide +kernel,rfl,by decide +kernel,by decide +kernel⟩
theorem qjH (F:Fun K "_law_factors" "_law_factors" qeD f fd) (B:Bl K mg) (c_l_draw:Cal P w K mg base 1 "_law_draw" ["_law_hand_here", "_law_many"] (qaI K)) (c_l_root:Cal P w K mg base 2 "_law_root" ["_law_hand_here", "_law_great"] (qcz K)) (c_l_rootless:Cal P w K mg base 2 "_law_rootless" ["_law_hand_here", "_law_size"] (qbm K)) (c_l_monic_of:Cal P w K mg base 2 "_law_monic_of" ["_law_row"] (qaQ K)):FnOk P w K mg base CX0 3 f fd ["_law_hand_here"] (qbz K):=by
  refine F.ok sc_l_factors (fun vs H Q E h=>?_) (fun cdv A outer s H vs Q E hr h=>?_)
  · obtain ⟨_,_,_,rfl,_⟩:=h
    rfl
  have nd:=sc_l_factors.nd
  have hu:=hr.units0
  have hu64:=hr.units
  exact ⟨qeO K,(qab (qal (i:=1) nd rfl (Or.inl rfl) (qbF qae))
    (qab (qal (i:=2) nd rfl (Or.inl rfl) (qaL qas (qbF (qaa qad (qaa qad qae))) (qcr qmb rfl B.int qqq (qaa (qlP qha (c_l_draw.pe hr (by decide) rfl (qaa (pv 0) (qaa qad qae))) qad (nomark _)) qae)) (fun _ _=>rfl)))
    (qab (qcq PassesOwn.never rfl (qdS rfl B.range (qaa (c_l_draw.pe hr (by decide) rfl (qaa (pv 0) (qaa qad qae))) qae)) (qaD (i:=3) nd rfl (Or.inl rfl)) (qab (qal (i:=4) nd rfl (Or.inl rfl) (c_l_root.pe hr (by decide) rfl (qaa (pv 0) (qaa qp8 qae))))
    (qab (qal (i:=5) nd rfl (Or.inl rfl) (qbF (qaa (qdj qbK (qaL qch (pv 4) qad (fun _ _=>rfl))) (qaa (qaL qch (pv 4) qad (fun _ _=>rfl)) qae))))
    (qab (qdc (qaG qg9 (c_l_draw.pe hr (by decide) rfl (qaa (pv 0) (qaa qad qae))) qad (nomark _)) (qah (qal (i:=5) nd rfl (Or.inl rfl) (c_l_rootless.pe hr (by decide) rfl (qaa (pv 0) (qaa (qao qbe qad (c_l_draw.pe hr (by decide) rfl (qaa (pv 0) (qaa qad qae)))) qae))))) qbf)
    (qab (qal (i:=6) nd rfl (Or.inl rfl) (qao qbe qad (c_l_draw.pe hr (by decide) rfl (qaa (pv 0) (qaa (pv 2) qae)))))
    (qab (qid (i:=7) (N:=["_law_other", "_law_more"]) (capt:=[none,none]) nd rfl (Or.inl rfl) rfl (BlkOk.of rfl rfl rfl rfl (fun _ h=>nomatch h) rfl rfl rfl) (qbw (pv 1)) (fun _ _ _ _=>(qeE rfl (qbr (qaD (i:=0) (show (["_law_other", "_law_more"]:List PySem.Str).Nodup by decide +kernel) rfl (Or.inl rfl)) (qbr (qaD (i:=1) (show (["_law_other", "_law_more"]:List PySem.Str).Nodup by decide +kernel) rfl (Or.inl rfl)) qey)))) (fun _ _ _ _=>(c_l_monic_of.pe hr (by decide) rfl (qaa (pv 0) qae))))
    (qab (qal (i:=8) nd rfl (Or.inl rfl) (qax (qgA rfl) rfl B.sum ql9 (qaa (qcj (N:=["_law_other", "_law_more"]) (capt:=[none,none]) rfl (BlkOk.of rfl rfl rfl rfl (fun _ h=>nomatch h) rfl rfl rfl) (qbw (pv 1)) (fun _ _ _ _=>(qeE rfl (qbr (qaD (i:=0) (show (["_law_other", "_law_more"]:List PySem.Str).Nodup by decide +kernel) rfl (Or.inl rfl)) (qbr (qaD (i:=1) (show (["_law_other", "_law_more"]:List PySem.Str).Nodup by decide +kernel) rfl (Or.inl rfl)) qey)))) (fun _ _ _ _=>(qao qaT (qao qbg (qax qaH rfl B.len qbs (qaa (pv 0) qae)) qad) (pv 1)))) qae)))
    (qah (qdc (PW.pt (qgj (qaG (qmr hu64) (c_l_monic_of.pe hr (by decide) rfl (qaa (pv 5) qae)) (pv 7) rfl) (qfl (qaG qlO (qao qbe (pv 8) (qao qaT (qao qbg (qax qaH rfl B.len qbs (qaa (pv 5) qae)) qad) (pv 6))) qad (nomark _))))) (qah (qfm (qle PySem.F.plainAttrs_list PySem.F.slot_list_append PySem.F.type_list_append qdX (pv 1) (qaa (qhx (qaa (pv 5) (qaa (pv 6) qae))) qae)))) qbf)))))))))
    (qah (qaF (pv 1)))))),qjA h⟩
theorem sc_law:FnScope ["_law_script", "_law_hand_here", "_law_factors_here", "_law_full", "_law_simple", "_law_parts", "_law_row", "_law_often", "_law_turn", "_law_kp", "_law_due", "_law_found"] ["_law_script"] (qan qlf):=⟨rfl,rfl,rfl,by decide +kernel,rfl,by decide +kernel,by decide +kernel⟩
theorem qrm (F:Fun K "law" "law" qlf f fd) (B:Bl K mg) (c_l_hand:Cal P w K mg base 1 "_law_hand" ["_law_script"] (qcy K)) (c_l_factors:Cal P w K mg base 3 "_law_factors" ["_law_hand_here"] (qbz K)) (c_l_row_times:Cal P w K mg base 1 "_law_row_times" ["_law_one", "_law_other"] (qaY K)) (c_l_scale:Cal P w K mg base 2 "_law_scale" ["_law_hand_here"] (qb0 K)) (c_l_poly_of:Cal P w K mg base 2 "_law_poly_of" ["_law_row", "_law_scale_here"] (qby K)) (c_l_monic_of:Cal P w K mg base 2 "_law_monic_of" ["_law_row"] (qaQ K)) (c_simple_parts:Cal P w K mg base 8 "simple_parts" ["P"] (qa0 K)) (c_radical:Cal P w K mg base 9 "radical" ["P"] (qb1 K)):FnOk P w K mg base CX0 10 f fd ["_law_script"] (qjm K):=by
  refine F.ok sc_law (fun vs H Q E h=>?_) (fun cdv A outer s H vs Q E hr h=>?_)
  · obtain ⟨_,_,rfl,_⟩:=h
    rfl
  have nd:=sc_law.nd
  have hu:=hr.units0
  have hu64:=hr.units
  exact ⟨qpn K,(qab (qal (i:=1) nd rfl (Or.inl rfl) (c_l_hand.pe hr (by decide) rfl (qaa (pv 0) qae)))
    (qab (qal (i:=2) nd rfl (Or.inl rfl) (c_l_factors.pe hr (by decide) rfl (qaa (pv 1) qae)))
    (qab (qal (i:=3) nd rfl (Or.inl rfl) (qbF (qaa qad qae)))
    (qab (qal (i:=4) nd rfl (Or.inl rfl) (qbF (qaa qad qae)))
    (qab (qal (i:=5) nd rfl (Or.inl rfl) (qbF qae))
    (qab (qcq PassesOwn.never rfl (qbw (pv 2)) (qeE rfl (qbr (qaD (i:=6) nd rfl (Or.inl rfl)) (qbr (qaD (i:=7) nd rfl (Or.inl rfl)) qey))) (qab (qal (i:=4) nd rfl (Or.inl rfl) (c_l_row_times.pe hr (by decide) rfl (qaa (pv 4) (qaa (pv 6) qae))))
    (qab (qbJ PassesOwn.never (qaG qlO (qax qaH rfl B.len qbs (qaa (pv 5) qae)) (pv 7) (nomark _)) (qah (qfm (qle PySem.F.plainAttrs_list PySem.F.slot_list_append PySem.F.type_list_append qdX (pv 5) (qaa (qbF (qaa qad qae)) qae)))))
    (qab (qfN (c_l_row_times.pe hr (by decide) rfl (qaa (qaL qas (pv 5) (qao qbg (pv 7) qad) (fun _ _=>rfl)) (qaa (pv 6) qae))) (qfM (pv 5) (qao qbg (pv 7) qad) qbL))
    (qah (qcq PassesOwn.never rfl (qdS rfl B.range (qaa (pv 7) qae)) (qaD (i:=8) nd rfl (Or.inl rfl)) (qah (qal (i:=3) nd rfl (Or.inl rfl) (c_l_row_times.pe hr (by decide) rfl (qaa (pv 3) (qaa (pv 6) qae)))))))))))
    (qab (qal (i:=9) nd rfl (Or.inl rfl) (c_l_poly_of.pe hr (by decide) rfl (qaa (pv 3) (qaa (c_l_scale.pe hr (by decide) rfl (qaa (pv 1) qae)) qae))))
    (qab (qid (i:=10) (N:=["_law_row"]) (capt:=[none]) nd rfl (Or.inl rfl) rfl (BlkOk.of rfl rfl rfl rfl (fun _ h=>nomatch h) rfl rfl rfl) (qbw (pv 5)) (fun _ _ _ _=>(qaD (i:=0) (show (["_law_row"]:List PySem.Str).Nodup by decide +kernel) rfl (Or.inl rfl))) (fun _ _ _ _=>(c_l_monic_of.pe hr (by decide) rfl (qaa (pv 0) qae))))
    (qab (qal (i:=11) nd rfl (Or.inl rfl) (c_simple_parts.pe hr (by decide) rfl (qaa (pv 9) qae)))
    (qab (qdc (PW.pt (qoZ (qot (qlD (qax qnO rfl B.isinstance qh8 (qaa (pv 11) (qaa (qoY rfl B.list qia rfl) qae))))) (qoZ (qaG (qoE hu64) (pv 11) (pv 10) (nomark _)) (qos (qaG (qoE hu64) (c_radical.pe hr (by decide) rfl (qaa (pv 9) qae)) (c_l_monic_of.pe hr (by decide) rfl (qaa (pv 4) qae)) (nomark _)))))) (qah (qaF qp8)) qbf)
    (qab (qfm (qle PySem.F.plainAttrs_list PySem.F.slot_list_append PySem.F.type_list_append qdX (pv 11) (qaa (qhx qae) qae)))
    (qah (qaF (qlP (qqH hu64) (c_simple_parts.pe hr (by decide) rfl (qaa (pv 9) qae)) (pv 10) (nomark _))))))))))))))),qrl h⟩
end
end Bs
namespace Bs
open PySem PySem.Spec PyProof.Rows L2
set_option maxHeartbeats 4000000
open Hd
theorem qbh {K:W.Frag} {st:Stmt} {f c:Addr} {n:Str} {pm:Value} (l:K.lookup f=some (fnO n st pm c)) (e:PySem.W.codeIn K (.ref c) n=true) (k:PySem.W.keepIn K (.ref f)=true):Fun K n n st f (PySem.W.fnOf n n (qez st) (qdY st) (qan st) .none .none .none pm none (.ref c) .none):=qqk (st:=st) l e k
theorem qaM {P:Program} {K:W.Frag} {w:World} {h base:Heap} {mg:Str→Option Value} {k:Nat} {f:Addr} {fd:FuncData} {n:Str} {ps:List Str} {sp:Sp} (X:K.In h) (G:h.Ns mainGlobals mg) (ok:FnOk P w K mg base CX0 k f fd ps sp) (b:Binds K fd ps []) (e:PySem.W.keepIn K (.ref f)=true) (a:PySem.W.nsIn K mainGlobals n=some (some (.ref f))):Cal P w K mg base k n ps sp:=⟨f,fd,ok,b,e,PySem.W.mg_of X G a⟩
theorem qk7:∀ us:List Value,us.length=1→∃ x0,us=[x0]
  | [x0],_=>⟨x0,rfl⟩
theorem qhp:∀ us:List Value,us.length=2→∃ x0 x1,us=[x0,x1]
  | [x0,x1],_=>⟨x0,x1,rfl⟩
theorem qru:∀ us:List Value,us.length=3→∃ x0 x1 x2,us=[x0,x1,x2]
  | [x0,x1,x2],_=>⟨x0,x1,x2,rfl⟩
theorem qst:∀ us:List Value,us.length=5→∃ x0 x1 x2 x3 x4,us=[x0,x1,x2,x3,x4]
  | [x0,x1,x2,x3,x4],_=>⟨x0,x1,x2,x3,x4,rfl⟩
section
variable {P:Program} {w:World} {mg:Str→Option Value} {base h:Heap}
theorem qbq (X:(hp w.params).In h) (G:h.Ns mainGlobals mg) (B:Bl (hp w.params) mg):Cal P w (hp w.params) mg base 1 "common_divisor" ["one", "other"] (qaq (hp w.params)):=by
  have F:=qbh (K:=hp w.params) (st:=qcf) (f:=22) (c:=21) (n := "common_divisor") (pm:=mo0) (by kernel_rfl) (by kernel_rfl) (by kernel_rfl)
  exact qaM X G (qfI F B ) (F.binds fun _ _ _ _ _ _ us hl=>by obtain ⟨_,_,rfl⟩:=qhp us hl;rfl) (by kernel_rfl) (by kernel_rfl)
theorem qop (X:(hp w.params).In h) (G:h.Ns mainGlobals mg) (B:Bl (hp w.params) mg):Cal P w (hp w.params) mg base 1 "raised" ["whole", "n"] (qcx (hp w.params)):=by
  have F:=qbh (K:=hp w.params) (st:=qh2) (f:=29) (c:=28) (n := "raised") (pm:=mo0) (by kernel_rfl) (by kernel_rfl) (by kernel_rfl)
  exact qaM X G (qnt F B ) (F.binds fun _ _ _ _ _ _ us hl=>by obtain ⟨_,_,rfl⟩:=qhp us hl;rfl) (by kernel_rfl) (by kernel_rfl)
theorem qdA (X:(hp w.params).In h) (G:h.Ns mainGlobals mg) (B:Bl (hp w.params) mg):Cal P w (hp w.params) mg base 1 "row_trimmed" ["row"] (qaK (hp w.params)):=by
  have F:=qbh (K:=hp w.params) (st:=qdk) (f:=41) (c:=40) (n := "row_trimmed") (pm:=mo0) (by kernel_rfl) (by kernel_rfl) (by kernel_rfl)
  exact qaM X G (qhl F B ) (F.binds fun _ _ _ _ _ _ us hl=>by obtain ⟨_,rfl⟩:=qk7 us hl;rfl) (by kernel_rfl) (by kernel_rfl)
theorem qjI (X:(hp w.params).In h) (G:h.Ns mainGlobals mg) (B:Bl (hp w.params) mg):Cal P w (hp w.params) mg base 1 "row_parted" ["row", "divisor"] (qbk (hp w.params)):=by
  have F:=qbh (K:=hp w.params) (st:=qdZ) (f:=46) (c:=45) (n := "row_parted") (pm:=mo0) (by kernel_rfl) (by kernel_rfl) (by kernel_rfl)
  exact qaM X G (qiQ F B ) (F.binds fun _ _ _ _ _ _ us hl=>by obtain ⟨_,_,rfl⟩:=qhp us hl;rfl) (by kernel_rfl) (by kernel_rfl)
theorem qg6 (X:(hp w.params).In h) (G:h.Ns mainGlobals mg) (B:Bl (hp w.params) mg):Cal P w (hp w.params) mg base 1 "row_slope" ["row"] (qbb (hp w.params)):=by
  have F:=qbh (K:=hp w.params) (st:=qeA) (f:=51) (c:=50) (n := "row_slope") (pm:=mo0) (by kernel_rfl) (by kernel_rfl) (by kernel_rfl)
  exact qaM X G (qjE F B ) (F.binds fun _ _ _ _ _ _ us hl=>by obtain ⟨_,rfl⟩:=qk7 us hl;rfl) (by kernel_rfl) (by kernel_rfl)
theorem qfK (X:(hp w.params).In h) (G:h.Ns mainGlobals mg) (B:Bl (hp w.params) mg):Cal P w (hp w.params) mg base 1 "row_over" ["row", "divisor"] (qaN (hp w.params)):=by
  have F:=qbh (K:=hp w.params) (st:=qfn) (f:=58) (c:=57) (n := "row_over") (pm:=mo0) (by kernel_rfl) (by kernel_rfl) (by kernel_rfl)
  exact qaM X G (qkh F B ) (F.binds fun _ _ _ _ _ _ us hl=>by obtain ⟨_,_,rfl⟩:=qhp us hl;rfl) (by kernel_rfl) (by kernel_rfl)
theorem qf7 (X:(hp w.params).In h) (G:h.Ns mainGlobals mg) (B:Bl (hp w.params) mg):Cal P w (hp w.params) mg base 1 "inverse_modulo" ["whole", "prime"] (qaU (hp w.params)):=by
  have F:=qbh (K:=hp w.params) (st:=qcg) (f:=94) (c:=93) (n := "inverse_modulo") (pm:=mo0) (by kernel_rfl) (by kernel_rfl) (by kernel_rfl)
  exact qaM X G (qfJ F B ) (F.binds fun _ _ _ _ _ _ us hl=>by obtain ⟨_,_,rfl⟩:=qhp us hl;rfl) (by kernel_rfl) (by kernel_rfl)
theorem qhq (X:(hp w.params).In h) (G:h.Ns mainGlobals mg) (B:Bl (hp w.params) mg):Cal P w (hp w.params) mg base 1 "rests_modulo" ["row", "prime"] (qa5 (hp w.params)):=by
  have F:=qbh (K:=hp w.params) (st:=qc2) (f:=99) (c:=98) (n := "rests_modulo") (pm:=mo0) (by kernel_rfl) (by kernel_rfl) (by kernel_rfl)
  exact qaM X G (qg2 F B ) (F.binds fun _ _ _ _ _ _ us hl=>by obtain ⟨_,_,rfl⟩:=qhp us hl;rfl) (by kernel_rfl) (by kernel_rfl)
theorem qnx (X:(hp w.params).In h) (G:h.Ns mainGlobals mg) (B:Bl (hp w.params) mg):Cal P w (hp w.params) mg base 1 "nearest" ["whole", "prime"] (qbZ (hp w.params)):=by
  have F:=qbh (K:=hp w.params) (st:=qgq) (f:=139) (c:=138) (n := "nearest") (pm:=mo0) (by kernel_rfl) (by kernel_rfl) (by kernel_rfl)
  exact qaM X G (qlw F B ) (F.binds fun _ _ _ _ _ _ us hl=>by obtain ⟨_,_,rfl⟩:=qhp us hl;rfl) (by kernel_rfl) (by kernel_rfl)
theorem qrn (X:(hp w.params).In h) (G:h.Ns mainGlobals mg) (B:Bl (hp w.params) mg):Cal P w (hp w.params) mg base 1 "poly" ["row"] (qeK (hp w.params)):=by
  have F:=qbh (K:=hp w.params) (st:=ql1) (f:=170) (c:=169) (n := "poly") (pm:=mo2) (by kernel_rfl) (by kernel_rfl) (by kernel_rfl)
  exact qaM X G (qpS F B ) (F.binds fun _ _ _ _ _ _ us hl=>by obtain ⟨_,rfl⟩:=qk7 us hl;rfl) (by kernel_rfl) (by kernel_rfl)
theorem qoq (X:(hp w.params).In h) (G:h.Ns mainGlobals mg) (B:Bl (hp w.params) mg):Cal P w (hp w.params) mg base 1 "_law_hand" ["_law_script"] (qcy (hp w.params)):=by
  have F:=qbh (K:=hp w.params) (st:=qh3) (f:=208) (c:=207) (n := "_law_hand") (pm:=mo4) (by kernel_rfl) (by kernel_rfl) (by kernel_rfl)
  exact qaM X G (qnu F B ) (F.binds fun _ _ _ _ _ _ us hl=>by obtain ⟨_,rfl⟩:=qk7 us hl;rfl) (by kernel_rfl) (by kernel_rfl)
theorem qgh (X:(hp w.params).In h) (G:h.Ns mainGlobals mg) (B:Bl (hp w.params) mg):Cal P w (hp w.params) mg base 1 "_law_draw" ["_law_hand_here", "_law_many"] (qaI (hp w.params)):=by
  have F:=qbh (K:=hp w.params) (st:=qh4) (f:=215) (c:=214) (n := "_law_draw") (pm:=mo4) (by kernel_rfl) (by kernel_rfl) (by kernel_rfl)
  exact qaM X G (qnv F B ) (F.binds fun _ _ _ _ _ _ us hl=>by obtain ⟨_,_,rfl⟩:=qhp us hl;rfl) (by kernel_rfl) (by kernel_rfl)
theorem qes (X:(hp w.params).In h) (G:h.Ns mainGlobals mg) (B:Bl (hp w.params) mg):Cal P w (hp w.params) mg base 1 "_law_lowest" ["_law_top", "_law_bottom"] (qa7 (hp w.params)):=by
  have F:=qbh (K:=hp w.params) (st:=qfp) (f:=222) (c:=221) (n := "_law_lowest") (pm:=mo4) (by kernel_rfl) (by kernel_rfl) (by kernel_rfl)
  exact qaM X G (qkj F B ) (F.binds fun _ _ _ _ _ _ us hl=>by obtain ⟨_,_,rfl⟩:=qhp us hl;rfl) (by kernel_rfl) (by kernel_rfl)
theorem qiX (X:(hp w.params).In h) (G:h.Ns mainGlobals mg) (B:Bl (hp w.params) mg):Cal P w (hp w.params) mg base 1 "_law_row_times" ["_law_one", "_law_other"] (qaY (hp w.params)):=by
  have F:=qbh (K:=hp w.params) (st:=qdn) (f:=229) (c:=228) (n := "_law_row_times") (pm:=mo4) (by kernel_rfl) (by kernel_rfl) (by kernel_rfl)
  exact qaM X G (qho F B ) (F.binds fun _ _ _ _ _ _ us hl=>by obtain ⟨_,_,rfl⟩:=qhp us hl;rfl) (by kernel_rfl) (by kernel_rfl)
theorem qny (X:(hp w.params).In h) (G:h.Ns mainGlobals mg) (B:Bl (hp w.params) mg):Cal P w (hp w.params) mg base 2 "content" ["row", "start"] (qbY (hp w.params)):=by
  have F:=qbh (K:=hp w.params) (st:=qgp) (f:=34) (c:=33) (n := "content") (pm:=mo0) (by kernel_rfl) (by kernel_rfl) (by kernel_rfl)
  exact qaM X G (qlv F B (qbq X G B)) (F.binds fun _ _ _ _ _ _ us hl=>by obtain ⟨_,_,rfl⟩:=qhp us hl;rfl) (by kernel_rfl) (by kernel_rfl)
theorem qlA (X:(hp w.params).In h) (G:h.Ns mainGlobals mg) (B:Bl (hp w.params) mg):Cal P w (hp w.params) mg base 2 "row_less" ["row", "factor", "other", "weight", "shift"] (qbD (hp w.params)):=by
  have F:=qbh (K:=hp w.params) (st:=qfo) (f:=63) (c:=62) (n := "row_less") (pm:=mo0) (by kernel_rfl) (by kernel_rfl) (by kernel_rfl)
  exact qaM X G (qki F B (qdA X G B)) (F.binds fun _ _ _ _ _ _ us hl=>by obtain ⟨_,_,_,_,_,rfl⟩:=qst us hl;rfl) (by kernel_rfl) (by kernel_rfl)
theorem qfV (X:(hp w.params).In h) (G:h.Ns mainGlobals mg) (B:Bl (hp w.params) mg):Cal P w (hp w.params) mg base 2 "row_modulo" ["row", "prime"] (qaW (hp w.params)):=by
  have F:=qbh (K:=hp w.params) (st:=qd0) (f:=106) (c:=105) (n := "row_modulo") (pm:=mo0) (by kernel_rfl) (by kernel_rfl) (by kernel_rfl)
  exact qaM X G (qiR F B (qhq X G B) (qdA X G B)) (F.binds fun _ _ _ _ _ _ us hl=>by obtain ⟨_,_,rfl⟩:=qhp us hl;rfl) (by kernel_rfl) (by kernel_rfl)
theorem qhr (X:(hp w.params).In h) (G:h.Ns mainGlobals mg) (B:Bl (hp w.params) mg):Cal P w (hp w.params) mg base 2 "monic_modulo" ["row", "prime"] (qaO (hp w.params)):=by
  have F:=qbh (K:=hp w.params) (st:=qc3) (f:=111) (c:=110) (n := "monic_modulo") (pm:=mo0) (by kernel_rfl) (by kernel_rfl) (by kernel_rfl)
  exact qaM X G (qg3 F B (qf7 X G B)) (F.binds fun _ _ _ _ _ _ us hl=>by obtain ⟨_,_,rfl⟩:=qhp us hl;rfl) (by kernel_rfl) (by kernel_rfl)
theorem qpT (X:(hp w.params).In h) (G:h.Ns mainGlobals mg) (B:Bl (hp w.params) mg):Cal P w (hp w.params) mg base 2 "ratio" ["top", "bottom"] (qcT (hp w.params)):=by
  have F:=qbh (K:=hp w.params) (st:=qjR) (f:=163) (c:=162) (n := "ratio") (pm:=mo1) (by kernel_rfl) (by kernel_rfl) (by kernel_rfl)
  exact qaM X G (qoo F B (qbq X G B)) (F.binds fun _ _ _ _ _ _ us hl=>by obtain ⟨_,_,rfl⟩:=qhp us hl;rfl) (by kernel_rfl) (by kernel_rfl)
theorem qjJ (X:(hp w.params).In h) (G:h.Ns mainGlobals mg) (B:Bl (hp w.params) mg):Cal P w (hp w.params) mg base 2 "cleared" ["P"] (qbA (hp w.params)):=by
  have F:=qbh (K:=hp w.params) (st:=qgr) (f:=175) (c:=174) (n := "cleared") (pm:=mo2) (by kernel_rfl) (by kernel_rfl) (by kernel_rfl)
  exact qaM X G (qlx F B (qbq X G B)) (F.binds fun _ _ _ _ _ _ us hl=>by obtain ⟨_,rfl⟩:=qk7 us hl;rfl) (by kernel_rfl) (by kernel_rfl)
theorem qkk (X:(hp w.params).In h) (G:h.Ns mainGlobals mg) (B:Bl (hp w.params) mg):Cal P w (hp w.params) mg base 2 "_law_poly_of" ["_law_row", "_law_scale_here"] (qby (hp w.params)):=by
  have F:=qbh (K:=hp w.params) (st:=qeC) (f:=234) (c:=233) (n := "_law_poly_of") (pm:=mo4) (by kernel_rfl) (by kernel_rfl) (by kernel_rfl)
  exact qaM X G (qjG F B (qes X G B)) (F.binds fun _ _ _ _ _ _ us hl=>by obtain ⟨_,_,rfl⟩:=qhp us hl;rfl) (by kernel_rfl) (by kernel_rfl)
theorem qor (X:(hp w.params).In h) (G:h.Ns mainGlobals mg) (B:Bl (hp w.params) mg):Cal P w (hp w.params) mg base 2 "_law_root" ["_law_hand_here", "_law_great"] (qcz (hp w.params)):=by
  have F:=qbh (K:=hp w.params) (st:=qh5) (f:=241) (c:=240) (n := "_law_root") (pm:=mo4) (by kernel_rfl) (by kernel_rfl) (by kernel_rfl)
  exact qaM X G (qnw F B (qgh X G B) (qes X G B)) (F.binds fun _ _ _ _ _ _ us hl=>by obtain ⟨_,_,rfl⟩:=qhp us hl;rfl) (by kernel_rfl) (by kernel_rfl)
theorem qjK (X:(hp w.params).In h) (G:h.Ns mainGlobals mg) (B:Bl (hp w.params) mg):Cal P w (hp w.params) mg base 2 "_law_rootless" ["_law_hand_here", "_law_size"] (qbm (hp w.params)):=by
  have F:=qbh (K:=hp w.params) (st:=qd4) (f:=248) (c:=247) (n := "_law_rootless") (pm:=mo4) (by kernel_rfl) (by kernel_rfl) (by kernel_rfl)
  exact qaM X G (qiV F B (qgh X G B)) (F.binds fun _ _ _ _ _ _ us hl=>by obtain ⟨_,_,rfl⟩:=qhp us hl;rfl) (by kernel_rfl) (by kernel_rfl)
theorem qnz (X:(hp w.params).In h) (G:h.Ns mainGlobals mg) (B:Bl (hp w.params) mg):Cal P w (hp w.params) mg base 2 "_law_scale" ["_law_hand_here"] (qb0 (hp w.params)):=by
  have F:=qbh (K:=hp w.params) (st:=qgt) (f:=255) (c:=254) (n := "_law_scale") (pm:=mo4) (by kernel_rfl) (by kernel_rfl) (by kernel_rfl)
  exact qaM X G (qlz F B (qgh X G B) (qes X G B)) (F.binds fun _ _ _ _ _ _ us hl=>by obtain ⟨_,rfl⟩:=qk7 us hl;rfl) (by kernel_rfl) (by kernel_rfl)
theorem qfW (X:(hp w.params).In h) (G:h.Ns mainGlobals mg) (B:Bl (hp w.params) mg):Cal P w (hp w.params) mg base 2 "_law_monic_of" ["_law_row"] (qaQ (hp w.params)):=by
  have F:=qbh (K:=hp w.params) (st:=qd5) (f:=260) (c:=259) (n := "_law_monic_of") (pm:=mo4) (by kernel_rfl) (by kernel_rfl) (by kernel_rfl)
  exact qaM X G (qiW F B (qes X G B)) (F.binds fun _ _ _ _ _ _ us hl=>by obtain ⟨_,rfl⟩:=qk7 us hl;rfl) (by kernel_rfl) (by kernel_rfl)
theorem qc0 (X:(hp w.params).In h) (G:h.Ns mainGlobals mg) (B:Bl (hp w.params) mg):Cal P w (hp w.params) mg base 3 "strand_shortened" ["strand"] (qaE (hp w.params)):=by
  have F:=qbh (K:=hp w.params) (st:=qbM) (f:=73) (c:=72) (n := "strand_shortened") (pm:=mo0) (by kernel_rfl) (by kernel_rfl) (by kernel_rfl)
  exact qaM X G (qeR F B (qny X G B) (qjI X G B)) (F.binds fun _ _ _ _ _ _ us hl=>by obtain ⟨_,rfl⟩:=qk7 us hl;rfl) (by kernel_rfl) (by kernel_rfl)
theorem qhs (X:(hp w.params).In h) (G:h.Ns mainGlobals mg) (B:Bl (hp w.params) mg):Cal P w (hp w.params) mg base 3 "split_modulo" ["row", "divisor", "modulus"] (qa6 (hp w.params)):=by
  have F:=qbh (K:=hp w.params) (st:=qc4) (f:=118) (c:=117) (n := "split_modulo") (pm:=mo0) (by kernel_rfl) (by kernel_rfl) (by kernel_rfl)
  exact qaM X G (qg4 F B (qdA X G B) (qfV X G B)) (F.binds fun _ _ _ _ _ _ us hl=>by obtain ⟨_,_,_,rfl⟩:=qru us hl;rfl) (by kernel_rfl) (by kernel_rfl)
theorem qkl (X:(hp w.params).In h) (G:h.Ns mainGlobals mg) (B:Bl (hp w.params) mg):Cal P w (hp w.params) mg base 3 "uncleared" ["row", "bottom"] (qbx (hp w.params)):=by
  have F:=qbh (K:=hp w.params) (st:=qeB) (f:=180) (c:=179) (n := "uncleared") (pm:=mo2) (by kernel_rfl) (by kernel_rfl) (by kernel_rfl)
  exact qaM X G (qjF F B (qpT X G B) (qrn X G B)) (F.binds fun _ _ _ _ _ _ us hl=>by obtain ⟨_,_,rfl⟩:=qhp us hl;rfl) (by kernel_rfl) (by kernel_rfl)
theorem qkm (X:(hp w.params).In h) (G:h.Ns mainGlobals mg) (B:Bl (hp w.params) mg):Cal P w (hp w.params) mg base 3 "_law_factors" ["_law_hand_here"] (qbz (hp w.params)):=by
  have F:=qbh (K:=hp w.params) (st:=qeD) (f:=265) (c:=264) (n := "_law_factors") (pm:=mo4) (by kernel_rfl) (by kernel_rfl) (by kernel_rfl)
  exact qaM X G (qjH F B (qgh X G B) (qor X G B) (qjK X G B) (qfW X G B)) (F.binds fun _ _ _ _ _ _ us hl=>by obtain ⟨_,rfl⟩:=qk7 us hl;rfl) (by kernel_rfl) (by kernel_rfl)
theorem qiY (X:(hp w.params).In h) (G:h.Ns mainGlobals mg) (B:Bl (hp w.params) mg):Cal P w (hp w.params) mg base 4 "strand_rest" ["strand", "other"] (qbc (hp w.params)):=by
  have F:=qbh (K:=hp w.params) (st:=qdl) (f:=68) (c:=67) (n := "strand_rest") (pm:=mo0) (by kernel_rfl) (by kernel_rfl) (by kernel_rfl)
  exact qaM X G (qhm F B (qbq X G B) (qlA X G B) (qc0 X G B)) (F.binds fun _ _ _ _ _ _ us hl=>by obtain ⟨_,_,rfl⟩:=qhp us hl;rfl) (by kernel_rfl) (by kernel_rfl)
theorem qbQ (X:(hp w.params).In h) (G:h.Ns mainGlobals mg) (B:Bl (hp w.params) mg):Cal P w (hp w.params) mg base 4 "row_shortened" ["row"] (qay (hp w.params)):=by
  have F:=qbh (K:=hp w.params) (st:=qct) (f:=80) (c:=79) (n := "row_shortened") (pm:=mo0) (by kernel_rfl) (by kernel_rfl) (by kernel_rfl)
  exact qaM X G (qf4 F B (qc0 X G B)) (F.binds fun _ _ _ _ _ _ us hl=>by obtain ⟨_,rfl⟩:=qk7 us hl;rfl) (by kernel_rfl) (by kernel_rfl)
theorem qiZ (X:(hp w.params).In h) (G:h.Ns mainGlobals mg) (B:Bl (hp w.params) mg):Cal P w (hp w.params) mg base 4 "rest_modulo" ["row", "divisor", "modulus"] (qbd (hp w.params)):=by
  have F:=qbh (K:=hp w.params) (st:=qdm) (f:=125) (c:=124) (n := "rest_modulo") (pm:=mo0) (by kernel_rfl) (by kernel_rfl) (by kernel_rfl)
  exact qaM X G (qhn F B (qhs X G B)) (F.binds fun _ _ _ _ _ _ us hl=>by obtain ⟨_,_,_,rfl⟩:=qru us hl;rfl) (by kernel_rfl) (by kernel_rfl)
theorem qfX (X:(hp w.params).In h) (G:h.Ns mainGlobals mg) (B:Bl (hp w.params) mg):Cal P w (hp w.params) mg base 4 "made_monic" ["row"] (qa2 (hp w.params)):=by
  have F:=qbh (K:=hp w.params) (st:=qd3) (f:=194) (c:=193) (n := "made_monic") (pm:=mo3) (by kernel_rfl) (by kernel_rfl) (by kernel_rfl)
  exact qaM X G (qiU F B (qkl X G B)) (F.binds fun _ _ _ _ _ _ us hl=>by obtain ⟨_,rfl⟩:=qk7 us hl;rfl) (by kernel_rfl) (by kernel_rfl)
theorem qg7 (X:(hp w.params).In h) (G:h.Ns mainGlobals mg) (B:Bl (hp w.params) mg):Cal P w (hp w.params) mg base 5 "strand_euclid" ["strand", "other"] (qaR (hp w.params)):=by
  have F:=qbh (K:=hp w.params) (st:=qcu) (f:=87) (c:=86) (n := "strand_euclid") (pm:=mo0) (by kernel_rfl) (by kernel_rfl) (by kernel_rfl)
  exact qaM X G (qf5 F B (qiY X G B)) (F.binds fun _ _ _ _ _ _ us hl=>by obtain ⟨_,_,rfl⟩:=qhp us hl;rfl) (by kernel_rfl) (by kernel_rfl)
theorem qg8 (X:(hp w.params).In h) (G:h.Ns mainGlobals mg) (B:Bl (hp w.params) mg):Cal P w (hp w.params) mg base 5 "euclid_modulo" ["row", "other", "prime"] (qa1 (hp w.params)):=by
  have F:=qbh (K:=hp w.params) (st:=qcv) (f:=132) (c:=131) (n := "euclid_modulo") (pm:=mo0) (by kernel_rfl) (by kernel_rfl) (by kernel_rfl)
  exact qaM X G (qf6 F B (qfV X G B) (qhr X G B) (qiZ X G B)) (F.binds fun _ _ _ _ _ _ us hl=>by obtain ⟨_,_,_,rfl⟩:=qru us hl;rfl) (by kernel_rfl) (by kernel_rfl)
theorem qfL (X:(hp w.params).In h) (G:h.Ns mainGlobals mg) (B:Bl (hp w.params) mg):Cal P w (hp w.params) mg base 6 "common_by_prime" ["row", "other", "prime"] (qaP (hp w.params)):=by
  have F:=qbh (K:=hp w.params) (st:=qbT) (f:=144) (c:=143) (n := "common_by_prime") (pm:=mo0) (by kernel_rfl) (by kernel_rfl) (by kernel_rfl)
  exact qaM X G (qfk F B (qbq X G B) (qg8 X G B) (qnx X G B) (qbQ X G B) (qfK X G B)) (F.binds fun _ _ _ _ _ _ us hl=>by obtain ⟨_,_,_,rfl⟩:=qru us hl;rfl) (by kernel_rfl) (by kernel_rfl)
theorem qfY (X:(hp w.params).In h) (G:h.Ns mainGlobals mg) (B:Bl (hp w.params) mg):Cal P w (hp w.params) mg base 7 "row_common" ["row", "other"] (qaX (hp w.params)):=by
  have F:=qbh (K:=hp w.params) (st:=qd1) (f:=151) (c:=150) (n := "row_common") (pm:=mo0) (by kernel_rfl) (by kernel_rfl) (by kernel_rfl)
  exact qaM X G (qiS F B (qbQ X G B) (qop X G B) (qfL X G B) (qg7 X G B)) (F.binds fun _ _ _ _ _ _ us hl=>by obtain ⟨_,_,rfl⟩:=qhp us hl;rfl) (by kernel_rfl) (by kernel_rfl)
theorem qjL (X:(hp w.params).In h) (G:h.Ns mainGlobals mg) (B:Bl (hp w.params) mg):Cal P w (hp w.params) mg base 8 "simple_row" ["row"] (qbl (hp w.params)):=by
  have F:=qbh (K:=hp w.params) (st:=qd2) (f:=156) (c:=155) (n := "simple_row") (pm:=mo0) (by kernel_rfl) (by kernel_rfl) (by kernel_rfl)
  exact qaM X G (qiT F B (qbQ X G B) (qg6 X G B) (qfY X G B) (qfK X G B)) (F.binds fun _ _ _ _ _ _ us hl=>by obtain ⟨_,rfl⟩:=qk7 us hl;rfl) (by kernel_rfl) (by kernel_rfl)
theorem qht (X:(hp w.params).In h) (G:h.Ns mainGlobals mg) (B:Bl (hp w.params) mg):Cal P w (hp w.params) mg base 8 "simple_parts" ["P"] (qa0 (hp w.params)):=by
  have F:=qbh (K:=hp w.params) (st:=qc5) (f:=187) (c:=186) (n := "simple_parts") (pm:=mo3) (by kernel_rfl) (by kernel_rfl) (by kernel_rfl)
  exact qaM X G (qg5 F B (qjJ X G B) (qbQ X G B) (qg6 X G B) (qfY X G B) (qfK X G B) (qfX X G B)) (F.binds fun _ _ _ _ _ _ us hl=>by obtain ⟨_,rfl⟩:=qk7 us hl;rfl) (by kernel_rfl) (by kernel_rfl)
theorem qnA (X:(hp w.params).In h) (G:h.Ns mainGlobals mg) (B:Bl (hp w.params) mg):Cal P w (hp w.params) mg base 9 "radical" ["P"] (qb1 (hp w.params)):=by
  have F:=qbh (K:=hp w.params) (st:=qgs) (f:=201) (c:=200) (n := "radical") (pm:=mo3) (by kernel_rfl) (by kernel_rfl) (by kernel_rfl)
  exact qaM X G (qly F B (qjJ X G B) (qjL X G B) (qfX X G B)) (F.binds fun _ _ _ _ _ _ us hl=>by obtain ⟨_,rfl⟩:=qk7 us hl;rfl) (by kernel_rfl) (by kernel_rfl)
end
theorem all_mk {l:PySem.W.OpenLaw} {w:World} {h:Heap} {mg:Str→Option Value} {fa:Addr} (X:(hp w.params).In h) (G:h.Ns mainGlobals mg) (hfa:mg "law" = some (.ref fa))
    : ∃ fd:FuncData,(∀ (s:Shared) (v:Value),BindsTo s fd ⟨[v],[]⟩ [("_law_script", v)])∧∀ base:Heap,(hp w.params).In base→base.Ns mainGlobals mg→FnOk l.prog w (hp w.params) mg base CX0 10 fa fd ["_law_script"] (qjm (hp w.params)):=by
  have e:=hfa.symm.trans (PySem.W.mg_of X G (n := "law") (v:=.ref 270) (by kernel_rfl))
  cases e
  have qEXPONENTS:qbX (hp w.params)=15:=by kernel_rfl
  have xEXPONENTS:∀ H:Hp,SqT (hp w.params) H (qbX (hp w.params)) (exps.map fun e:Nat=>V.int (e:Int)):=fun H=>.inr ⟨_,_,_,(show (hp w.params).lookup (qbX (hp w.params))=some ⟨.type "tuple", none,.seq #[(.int 61 189),(.int 127 190),(.int 521 191),(.int 1279 192),(.int 4423 193),(.int 9941 194),(.int 21701 195),(.int 44497 196)] 0,#[]⟩ by rw [qEXPONENTS];kernel_rfl),rfl,rfl,by show 8≤sizeLine;rw [sizeLine_eq];decide,.cons ⟨_,rfl⟩ (.cons ⟨_,rfl⟩ (.cons ⟨_,rfl⟩ (.cons ⟨_,rfl⟩ (.cons ⟨_,rfl⟩ (.cons ⟨_,rfl⟩ (.cons ⟨_,rfl⟩ (.cons ⟨_,rfl⟩ (.nil))))))))⟩
  have B:Bl (hp w.params) mg:=⟨PySem.W.mg_none_of X G (by kernel_rfl),PySem.W.mg_none_of X G (by kernel_rfl),PySem.W.mg_none_of X G (by kernel_rfl),PySem.W.mg_none_of X G (by kernel_rfl),PySem.W.mg_none_of X G (by kernel_rfl),PySem.W.mg_none_of X G (by kernel_rfl),PySem.W.mg_none_of X G (by kernel_rfl),PySem.W.mg_none_of X G (by kernel_rfl),PySem.W.mg_none_of X G (by kernel_rfl),by rw [qEXPONENTS];exact PySem.W.mg_of X G (by kernel_rfl),PySem.W.mg_none_of X G (by kernel_rfl),PySem.W.mg_none_of X G (by kernel_rfl),PySem.W.mg_none_of X G (by kernel_rfl),PySem.W.mg_none_of X G (by kernel_rfl),xEXPONENTS⟩
  have FL:=qbh (K:=hp w.params) (st:=qlf) (f:=270) (c:=269) (n := "law") (pm:=mo4) (by kernel_rfl) (by kernel_rfl) (by kernel_rfl)
  refine ⟨PySem.W.fnOf "law" "law" (qez qlf) (qdY qlf) (qan qlf) .none .none .none mo4 none (.ref 269) .none,fun s v=>.of_eq rfl,fun base _ _=>?_⟩
  exact qrm FL B (qoq X G B) (qkm X G B) (qiX X G B) (qnz X G B) (qkk X G B) (qfW X G B) (qht X G B) (qnA X G B)
theorem walk {l:PySem.W.OpenLaw} {q:Program} {loose:List Str} {XP:(Str→Option Value)→Heap→Prop} {YP:World→Heap→Prop} {d:DefRec} {K:Params→W.Frag} (hn:l.most=some 63) (hdf:d.params.defaults=[]) (hq:importsNone q=true) (ht:∀ w,(model l.prog w).prog.given.tree=none)
    (hY:∀ (w:World) (h:Heap),YP w h→(K w.params).In h)
    (F:∀ (w:World) (mg:Str→Option Value) (fa:Addr) (h:Heap),(K w.params).In h→h.Ns mainGlobals mg→mg d.name=some (.ref fa)→
      ∃ fd:FuncData,(∀ (s:Shared) (u:Value),BindsTo s fd ⟨[u],[]⟩ [("_law_script", u)])∧∀ base:Heap,(K w.params).In base→base.Ns mainGlobals mg→FnOk l.prog w (K w.params) mg base CX0 10 fa fd ["_law_script"] (qjm (K w.params))) :
    PySem.W.WalkO q loose XP YP l.row.toRowW d [] (fun f vs=>PySem.call f vs):=
  L2.walk_of (n:=63) (k:=10) (x := "_law_script") (CX:=fun _=>CX0) (sp:=fun w=>qjm (K w.params)) hn (by decide) hdf hq ht ⟨rfl,by decide,by decide⟩ hY F (fun _ _ a ns hl _ hS=>⟨a,ns,rfl,hS,hl,fun _=>rfl⟩) fun _ _ _ _ _ z=>z
end Bs
open PySem PySem.W PyProof.Rows
set_option maxRecDepth 100000 in
set_option maxHeartbeats 0 in
theorem PySem.Challenge.cw_backslope_k15_parts_put_in_holds : PySem.Challenge.rw_backslope_k15_parts_put_in.Holds := by
  w_on; o_law
  refine PySem.W.holds_open (q := Bs.Hd.vw) (loose := []) (Xt := fun s => PySem.W.xlAt Bs.Hd.vw [] s && PySem.W.recOk (PySem.W.RowW.records (PySem.W.OpenRow.toRowW (PySem.W.OpenLaw.row PySem.Challenge.rw_backslope_k15_parts_put_in))) s) (XP := PySem.W.XL Bs.Hd.vw []) (Yf := Bs.Hd.hk.obs) (Ya := Bs.Hd.hk.val) (YP := Bs.Hd.hk.says) (N := 2678) Bs.Hd.left Bs.Hd.hk.of Bs.Hd.hk.keeps (fun s e => PySem.W.xl_of s (Bool.and_eq_true_iff.mp e).1) PySem.W.XL.keeps (by rfl) (by rfl) (by rfl) (fun s e => PySem.W.recFacts_of (Bool.and_eq_true_iff.mp e).2) (by rfl) (by first | assumption | decide +kernel) (by decide +kernel) ⟨rfl, rfl, rfl, rfl, rfl, by decide +kernel⟩ ?hw ?hc
  case hw => w_witness2
  case hc => exact Bs.walk (l := PySem.Challenge.rw_backslope_k15_parts_put_in) (K := Bs.Hd.hp) rfl rfl (by decide +kernel) (fun _ => rfl) (fun w h Y => Y) (fun w mg fa h KX G hmg => Bs.all_mk KX G hmg)
#print axioms PySem.Challenge.cw_backslope_k15_parts_put_in_holds
