import PyProof.Rows.All
import Wide.All
import OpenK.AllK
import Wide.FinOn
import Lean
import PyProof.EqAt
import PyProof.EqKinds
import PyProof.TupleCall
import PySem.Challenge.RW_backslope_k23_whole_a_field
set_option Elab.async false
set_option linter.all false
set_option maxRecDepth 100000
namespace L2
open PySem PySem.Spec PyProof.Rows
noncomputable abbrev Key := Sum Int Str
noncomputable def qru : Key → Value → Bool
  | .inl k, v => Value.isInt k v
  | .inr x, v => Value.isStrOf x v
noncomputable def qto (w : World) : Key → Int
  | .inl k => hashInt k
  | .inr x => hashStr w x
theorem qbG : ∀ {k : Key} {v : Value}, qru k v = true → (∃ i t, k = Sum.inl i ∧ v = Value.int i t) ∨ (∃ x t, k = Sum.inr x ∧ v = Value.str x t)
  | .inl i, v, h => by
    obtain ⟨t, e⟩ := Value.isInt_shape (k := i) (v := v) h
    exact .inl ⟨i, t, rfl, e⟩
  | .inr x, v, h => by
    obtain ⟨t, e⟩ := Value.isStrOf_shape (x := x) (v := v) h
    exact .inr ⟨x, t, rfl, e⟩
theorem qrv (a b : Int) : decide ((Sum.inl a : Key) = Sum.inl b) = (a == b) := by
  by_cases e : a = b
  · subst e; simp
  · have h : ¬ (Sum.inl a : Key) = Sum.inl b := fun q => e (Sum.inl.inj q)
    rw [decide_eq_false h]
    exact (beq_eq_false_iff_ne.mpr e).symm
theorem qrw (a b : Str) : decide ((Sum.inr a : Key) = Sum.inr b) = decide (a = b) := by
  by_cases e : a = b
  · subst e; simp
  · have h : ¬ (Sum.inr a : Key) = Sum.inr b := fun q => e (Sum.inr.inj q)
    rw [decide_eq_false h, decide_eq_false e]
theorem qrx (a : Int) (b : Str) : decide ((Sum.inl a : Key) = Sum.inr b) = false := decide_eq_false (fun q => nomatch q)
theorem qry (a : Str) (b : Int) : decide ((Sum.inr a : Key) = Sum.inl b) = false := decide_eq_false (fun q => nomatch q)
noncomputable def qkw (prog : Program) (w : World) : PySem.KeyKind prog w Key where
  is := qru
  hash := qto w
  inj := fun v a b ha hb => by
    rcases qbG ha with ⟨i, t, rfl, rfl⟩ | ⟨x, t, rfl, rfl⟩
    · rcases qbG hb with ⟨j, u, rfl, e⟩ | ⟨y, u, rfl, e⟩
      · injection e with e1 _; rw [e1]
      · exact nomatch e
    · rcases qbG hb with ⟨j, u, rfl, e⟩ | ⟨y, u, rfl, e⟩
      · exact nomatch e
      · injection e with e1 _; rw [e1]
  byValue := fun k v h => by
    rcases qbG h with ⟨i, t, rfl, rfl⟩ | ⟨x, t, rfl, rfl⟩ <;> rfl
  pyHash := fun hv h => by
    rcases qbG hv with ⟨i, t, rfl, rfl⟩ | ⟨x, t, rfl, rfl⟩
    · exact wpAny_pyHash_int h
    · exact wpAny_pyHash_str h
  eqBool := fun hu hv h => by
    rcases qbG hu with ⟨i, t, rfl, rfl⟩ | ⟨x, t, rfl, rfl⟩
    · rcases qbG hv with ⟨j, u, rfl, rfl⟩ | ⟨y, u, rfl, rfl⟩
      · rw [qrv] at h; exact wpAny_eqBool_int h
      · rw [qrx] at h; exact SeqAt.EqAt.int_str i t y u _ _ _ _ h
    · rcases qbG hv with ⟨j, u, rfl, rfl⟩ | ⟨y, u, rfl, rfl⟩
      · rw [qry] at h; exact SeqAt.EqAt.str_int x t j u _ _ _ _ h
      · rw [qrw] at h; exact wpAny_eqBool_str h
  «strs» := fun k x t v h => by
    rcases qbG h with ⟨i, u, rfl, e⟩ | ⟨y, u, rfl, e⟩
    · exact nomatch e
    · injection e with e1 _
      subst e1
      cases v <;> rfl
end L2
namespace L2
open PySem PySem.Spec PyProof.Rows
inductive V where
  | non | bl (b : Bool) | int (i : Int) | str (x : Str) | byt (b : Array UInt8) | flt (b : UInt64) | ref (a : Addr) | ty (n : String)
  deriving DecidableEq
noncomputable def RelV : V → Value → Prop
  | .non, u => u = Value.none
  | .bl b, u => u = Value.bool b
  | .int i, u => ∃ t, u = Value.int i t
  | .str x, u => ∃ t, u = Value.str x t
  | .byt b, u => ∃ t, u = Value.bytes b t
  | .flt b, u => ∃ t, u = Value.float b t
  | .ref a, u => u = Value.ref a
  | .ty n, u => u = Value.type n
noncomputable abbrev Vals : List V → List Value → Prop := Paired RelV
theorem Vals.length {xs : List V} {us : List Value} (r : Vals xs us) : xs.length = us.length := Paired.length r
theorem Vals.get : ∀ {xs : List V} {us : List Value} {i : Nat} {x : V}, Vals xs us → xs[i]? = some x → ∃ u, us[i]? = some u ∧ RelV x u
  | _, _, _, _, .nil, e => by simp at e
  | _, _, 0, _, .cons r _, e => by simp at e; subst e; exact ⟨_, rfl, r⟩
  | _, _, i + 1, x, .cons _ t, e => by
    obtain ⟨u, h1, h2⟩ := Vals.get (i := i) (x := x) t (by simpa using e)
    exact ⟨u, by simpa using h1, h2⟩
theorem Vals.set {x : V} {u : Value} (r : RelV x u) : ∀ {xs : List V} {us : List Value} (i : Nat), Vals xs us → Vals (xs.set i x) (us.set i u)
  | _, _, _, .nil => .nil
  | _, _, 0, .cons _ t => .cons r t
  | _, _, i + 1, .cons q t => .cons q (Vals.set r i t)
theorem Vals.append : ∀ {xs ys : List V} {us ws : List Value}, Vals xs us → Vals ys ws → Vals (xs ++ ys) (us ++ ws)
  | _, _, _, _, .nil, s => s
  | _, _, _, _, .cons r t, s => .cons r (Vals.append t s)
theorem Vals.take : ∀ {xs : List V} {us : List Value} (n : Nat), Vals xs us → Vals (xs.take n) (us.take n)
  | _, _, 0, _ => .nil
  | _, _, _ + 1, .nil => .nil
  | _, _, n + 1, .cons r t => .cons r (Vals.take n t)
theorem Vals.drop : ∀ {xs : List V} {us : List Value} (n : Nat), Vals xs us → Vals (xs.drop n) (us.drop n)
  | _, _, 0, r => r
  | _, _, _ + 1, .nil => .nil
  | _, _, n + 1, .cons _ t => Vals.drop n t
noncomputable def qs6 : Option V → Option Value → Prop
  | some v, some u => RelV v u
  | none, none => True
  | _, _ => False
noncomputable def KV {κ : Type} : List (κ × V) → List (κ × Value) → Prop := Paired fun (p : κ × V) (q : κ × Value) => p.1 = q.1 ∧ RelV p.2 q.2
noncomputable def kV : Key → V
  | .inl i => .int i
  | .inr x => .str x
inductive HO where

  | lst (xs : List V)

  | tup (xs : List V)

  | dK (kvs : List (Key × V)) | dT (kvs : List (List Key × V))

  | set (S : Int → Bool) (n : Nat)

  | ins (C dx : Addr) (fs : List (Str × V))

  | own (x : Addr)

  | xd (fs : List (Str × V))

  | met (f x : Addr)

  | rng (lo hi : Int)

  | frz (o : Obj) (u : HO)

  | tbl (ps : Array Value)

  | ext (φ : Heap → Prop)
noncomputable abbrev Hp := Addr → Option HO
noncomputable def upd (H : Hp) (a : Addr) (o : HO) : Hp := fun b => if b = a then some o else H b
theorem qai {H : Hp} {a : Addr} {o : HO} : upd H a o a = some o := by unfold upd; rw [if_pos rfl]
theorem qaJ {H : Hp} {a b : Addr} {o : HO} (h : b ≠ a) : upd H a o b = H b := by unfold upd; rw [if_neg h]
theorem qsF {H : Hp} {a b : Addr} {o u : HO} (h : H a = some o) (h' : H b = some u) (d : o ≠ u) : a ≠ b := by
  intro e; subst e; rw [h] at h'; exact d (Option.some.inj h')
theorem qaH {H : Hp} {a b : Addr} {o : HO} (h : H a = some o) (h' : H b = none) : a ≠ b := by
  intro e; subst e; rw [h] at h'; cases h'
section
variable (P : Program) (w : World)
noncomputable def ObjOk (H : Hp) (h : Heap) (a : Addr) : HO → Prop
  | .lst xs => xs.length ≤ sizeLine ∧ ∃ (its : List Value) (n : Nat), Vals xs its ∧ h.get? a = some { cls := .type "list", data := .seq its.toArray n }
  | .tup xs => xs.length ≤ sizeLine ∧ ∃ its : List Value, Vals xs its ∧ IsTup h a its.toArray
  | .dK kvs => kvs.length ≤ sizeLine ∧ (a == sysModules) = false ∧ ∃ vs, KV kvs vs ∧ h.DictOf (qkw P w) a vs
  | .dT kvs => kvs.length ≤ sizeLine ∧ (a == sysModules) = false ∧ ∃ xs : List (List Key × Addr × Value),
      Paired (fun (p : List Key × V) (q : List Key × Addr × Value) => p.1 = q.1 ∧ H q.2.1 = some (.tup (p.1.map kV)) ∧ RelV p.2 q.2.2) kvs xs ∧
      ∃ o es ep, h.get? a = some o ∧ o.ExactDict ∧ o.data = .dict es ep ∧ es.toList = xs.map (entryOfKey (tupleKind (qkw P w))) ∧ (xs.map (·.1)).Nodup
  | .set S n => h.SetOf (intKind P w) a S n
  | .ins C dx fs => H dx = some (.own a) ∧ fs.length ≤ 1000 ∧ dx ≠ a ∧ h.get? a = some (PySem.W.instObj C dx) ∧
      ∃ mA, h.Ns1 dx mA ∧ (∀ f, qs6 (fs.lookup f) (mA f)) ∧ PySem.Within mA (fs.map (·.1))
  | .own _ => ∃ o, h.get? a = some o
  | .xd fs => ∃ mA, h.Ns1 a mA ∧ ∀ f, qs6 (fs.lookup f) (mA f)
  | .rng lo hi => ∃ t u v, h.get? a = some { cls := .type "range", data := .fields #[.int lo t, .int hi u, .int 1 v] }
  | .frz o u => h.get? a = some o ∧ ObjOk H h a u
  | .tbl ps => h.get? a = some { cls := .none, data := .fields ps }
  | .met f x => h.get? a = some (PySem.W.methodObj (.ref f) (.ref x))
  | .ext φ => φ h ∧ (∃ o, h.get? a = some o) ∧ ∀ h1 h2 : Heap, φ h1 → (∀ o, h1.get? a = some o → h2.get? a = some o) → φ h2
noncomputable def HOk (H : Hp) (h : Heap) : Prop := ∀ a o, H a = some o → ObjOk P w H h a o
end
section
variable {P : Program} {w : World} {H H' : Hp} {h h' : Heap} {a : Addr} {o : HO}
theorem ObjOk.lt (x : ObjOk P w H h a o) : a < h.objs.size := by
  cases o with
  | lst xs => obtain ⟨_, _, _, _, e⟩ := x; exact Heap.lt_size e
  | tup xs => obtain ⟨_, _, _, p⟩ := x; exact p.lt
  | dK kvs => obtain ⟨_, _, _, _, o, _, _, e, _⟩ := x; exact Heap.lt_size e
  | dT kvs => obtain ⟨_, _, _, _, o, _, _, e, _⟩ := x; exact Heap.lt_size e
  | set S n => obtain ⟨o, _, _, _, e, _⟩ := x; exact Heap.lt_size e
  | ins C dx fs => obtain ⟨_, _, _, e, _⟩ := x; exact Heap.lt_size e
  | own y => obtain ⟨_, e⟩ := x; exact Heap.lt_size e
  | xd fs => obtain ⟨_, ⟨_, _, _, e, _⟩, _⟩ := x; exact Heap.lt_size e
  | rng lo hi => obtain ⟨_, _, _, e⟩ := x; exact Heap.lt_size e
  | frz ob u => obtain ⟨e, _⟩ := x; exact Heap.lt_size e
  | tbl ps => exact Heap.lt_size (show h.get? a = some _ from x)
  | met f y => exact Heap.lt_size (show h.get? a = some _ from x)
  | ext φ => obtain ⟨_, ⟨_, e⟩, _⟩ := x; exact Heap.lt_size e
theorem Paired.mapP {α β : Type} {F G : α → β → Prop} : ∀ {l₁ : List α} {l₂ : List β}, Paired F l₁ l₂ → (∀ a b, F a b → G a b) → Paired G l₁ l₂
  | _, _, .nil, _ => .nil
  | _, _, .cons r t, f => .cons (f _ _ r) (Paired.mapP t f)
theorem ObjOk.stay (x : ObjOk P w H h a o) (k : ∀ b u, (b = a ∨ H b = some (.own a)) → h.get? b = some u → h'.get? b = some u)
    (ho : ∀ b, H b = some (.own a) → H' b = some (.own a)) (ht : ∀ b xs, H b = some (.tup xs) → H' b = some (.tup xs)) : ObjOk P w H' h' a o := by
  induction o with
  | lst xs => obtain ⟨z, its, n, r, e⟩ := x; exact ⟨z, its, n, r, k _ _ (.inl rfl) e⟩
  | tup xs => obtain ⟨z, its, r, ob, e, c⟩ := x; exact ⟨z, its, r, ob, k _ _ (.inl rfl) e, c⟩
  | dK kvs => obtain ⟨z, y, vs, r, ob, es, ep, e, c⟩ := x; exact ⟨z, y, vs, r, ob, es, ep, k _ _ (.inl rfl) e, c⟩
  | dT kvs =>
    obtain ⟨z, y, xs, r, ob, es, ep, e, c⟩ := x
    exact ⟨z, y, xs, Paired.mapP r fun p q z => ⟨z.1, ht _ _ z.2.1, z.2.2⟩, ob, es, ep, k _ _ (.inl rfl) e, c⟩
  | set S n => obtain ⟨ob, es, ep, t, e, c⟩ := x; exact ⟨ob, es, ep, t, k _ _ (.inl rfl) e, c⟩
  | ins C dx fs =>
    obtain ⟨d, z, ne, e, mA, ⟨od, es, ep, e2, c⟩, r⟩ := x
    exact ⟨ho _ d, z, ne, k _ _ (.inl rfl) e, mA, ⟨od, es, ep, k _ _ (.inr d) e2, c⟩, r⟩
  | own y => obtain ⟨ob, e⟩ := x; exact ⟨ob, k _ _ (.inl rfl) e⟩
  | xd fs => obtain ⟨mA, ⟨od, es, ep, e, c⟩, r⟩ := x; exact ⟨mA, ⟨od, es, ep, k _ _ (.inl rfl) e, c⟩, r⟩
  | rng lo hi => obtain ⟨t, u, v, e⟩ := x; exact ⟨t, u, v, k _ _ (.inl rfl) e⟩
  | frz ob u ih => obtain ⟨e, q⟩ := x; exact ⟨k _ _ (.inl rfl) e, ih q⟩
  | tbl ps =>
    have e : h.get? a = some { cls := .none, data := .fields ps } := x
    show h'.get? a = some { cls := .none, data := .fields ps }
    exact k a _ (.inl rfl) e
  | met f y =>
    have e : h.get? a = some (PySem.W.methodObj (.ref f) (.ref y)) := x
    show h'.get? a = some (PySem.W.methodObj (.ref f) (.ref y))
    exact k a _ (.inl rfl) e
  | ext φ => obtain ⟨p, ⟨o, e⟩, st⟩ := x; exact ⟨st _ _ p fun o q => k _ _ (.inl rfl) q, ⟨o, k _ _ (.inl rfl) e⟩, st⟩
theorem HOk.lt (x : HOk P w H h) (e : H a = some o) : a < h.objs.size := (x a o e).lt
theorem HOk.fresh (x : HOk P w H h) (e : h.objs.size ≤ a) : H a = none := by
  cases q : H a with
  | none => rfl
  | some u => exact absurd (Nat.lt_of_lt_of_le (x.lt q) e) (Nat.lt_irrefl _)
theorem HOk.kept (x : HOk P w H h) (k : ∀ b u, h.get? b = some u → h'.get? b = some u) : HOk P w H h' := fun a o e =>
  (x a o e).stay (fun b u _ q => k b u q) (fun _ q => q) fun _ _ q => q
theorem HOk.laid (x : HOk P w H h) (k : ∀ b u, h.get? b = some u → h'.get? b = some u) (hp : h.objs.size ≤ a) (new : ObjOk P w (upd H a o) h' a o) : HOk P w (upd H a o) h' := fun b u e => by
  have hn := x.fresh hp
  by_cases hb : b = a
  · subst hb; rw [qai] at e; cases e; exact new
  · rw [qaJ hb] at e
    exact (x b u e).stay (fun c v _ q => k c v q) (fun c q => by rw [qaJ (qaH q hn)]; exact q) fun c xs q => by rw [qaJ (qaH q hn)]; exact q
end
noncomputable def Rd (H : Hp) (a : Addr) (u : HO) : Prop := H a = some u ∨ ∃ o, H a = some (.frz o u)
theorem Rd.of {H : Hp} {a : Addr} {u : HO} (h : H a = some u) : Rd H a u := .inl h
theorem Rd.ok {P : Program} {w : World} {H : Hp} {h : Heap} {a : Addr} {u : HO} (r : Rd H a u) (x : HOk P w H h) : ObjOk P w H h a u := by
  rcases r with r | ⟨o, r⟩
  · exact x a u r
  · obtain ⟨_, q⟩ := x a _ r
    exact q
noncomputable def Mut : Option HO → Prop
  | some (.lst _) => True
  | some (.dK _) => True
  | some (.dT _) => True
  | some (.set _ _) => True
  | some (.ins _ _ _) => True
  | some (.ext _) => True
  | _ => False
section
variable {P : Program} {w : World} {H : Hp} {h h' : Heap} {x e : Addr} {o' : HO}
theorem HOk.write (ok : HOk P w H h) (mu : Mut (H x)) (he : e = x ∨ H e = some (.own x)) (k : ∀ b u, b ≠ e → h.get? b = some u → h'.get? b = some u) (heo : ∃ u, h'.get? e = some u)
    (new : ObjOk P w (upd H x o') h' x o') : HOk P w (upd H x o') h' := fun b u q => by
  have nown : ∀ c y, H c = some (.own y) → c ≠ x := fun c y r z => by subst z; rw [r] at mu; exact mu
  have ntup : ∀ c xs, H c = some (.tup xs) → c ≠ x := fun c xs r z => by subst z; rw [r] at mu; exact mu
  by_cases hb : b = x
  · subst hb; rw [qai] at q; cases q; exact new
  · rw [qaJ hb] at q
    by_cases hbe : b = e
    · have q' : H b = some (.own x) := by
        rcases he with z | z
        · exact absurd (hbe.trans z) hb
        · rw [hbe]; exact z
      rw [q] at q'; cases q'
      obtain ⟨v, hv⟩ := heo
      exact ⟨v, by rw [hbe]; exact hv⟩
    · refine (ok b u q).stay (fun c v hc r => k c v ?_ r) (fun c r => by rw [qaJ (nown c b r)]; exact r) fun c xs r => by rw [qaJ (ntup c xs r)]; exact r
      rcases hc with rfl | hc
      · exact hbe
      · rintro rfl
        rcases he with z | z
        · exact nown c b hc z
        · rw [hc] at z; cases z; exact hb rfl
end
structure Un (fs ex : List Addr) (H H' : Hp) (h h' : Heap) : Prop where
  keep : ∀ b o, h.get? b = some o → H b = none → b ∉ fs → b ∉ ex → h'.get? b = some o
  slot : ∀ b o, h.get? b = some o → H b = none → b ∈ fs → b ∉ ex → ∃ sl, h'.get? b = some { o with slots := sl }
  free : ∀ b o, h.get? b = some o → H b = none → b ∉ ex → H' b = none
  there : ∀ b o, h.get? b = some o → b ∉ ex → ∃ o', h'.get? b = some o'
  tups : ∀ b xs, H b = some (.tup xs) → H' b = some (.tup xs)
  frzs : ∀ b o u, H b = some (.frz o u) → H' b = some (.frz o u)
  tbls : ∀ b ps, H b = some (.tbl ps) → ∃ more, H' b = some (.tbl (ps ++ more))
section
variable {fs fs' ex ex' : List Addr} {H H1 H2 : Hp} {h h1 h2 h' : Heap} {a x e : Addr} {o : HO}
theorem Un.any (u : Un fs ex H H1 h h1) {b : Addr} {ob : Obj} (q : h.get? b = some ob) (n : H b = none) (hx : b ∉ ex) : ∃ sl, h1.get? b = some { ob with slots := sl } := by
  by_cases hb : b ∈ fs
  · exact u.slot b ob q n hb hx
  · exact ⟨ob.slots, u.keep b ob q n hb hx⟩
theorem Un.trans (a : Un fs ex H H1 h h1) (b : Un fs ex H1 H2 h1 h2) : Un fs ex H H2 h h2 where
  keep := fun c ob q n hc hx => b.keep c ob (a.keep c ob q n hc hx) (a.free c ob q n hx) hc hx
  slot := fun c ob q n hc hx => by
    obtain ⟨sl, e1⟩ := a.slot c ob q n hc hx
    obtain ⟨sl', e2⟩ := b.slot c _ e1 (a.free c ob q n hx) hc hx
    exact ⟨sl', e2⟩
  free := fun c ob q n hx => by
    obtain ⟨o', e1⟩ := a.there c ob q hx
    exact b.free c o' e1 (a.free c ob q n hx) hx
  there := fun c ob q hx => by
    obtain ⟨o', e1⟩ := a.there c ob q hx
    exact b.there c o' e1 hx
  tups := fun c xs q => b.tups c xs (a.tups c xs q)
  frzs := fun c ob xs q => b.frzs c ob xs (a.frzs c ob xs q)
  tbls := fun c ps q => by
    obtain ⟨m1, e1⟩ := a.tbls c ps q
    obtain ⟨m2, e2⟩ := b.tbls c _ e1
    exact ⟨m1 ++ m2, by rw [e2, Array.append_assoc]⟩
theorem Un.kept (k : ∀ b u, h.get? b = some u → h'.get? b = some u) : Un fs ex H H h h' :=
  ⟨fun b ob q _ _ _ => k b ob q, fun b ob q _ _ _ => ⟨ob.slots, k b ob q⟩, fun _ _ _ n _ => n, fun b ob q _ => ⟨ob, k b ob q⟩, fun _ _ q => q, fun _ _ _ q => q, fun _ ps q => ⟨#[], by rw [q]; simp⟩⟩
theorem Un.refl : Un fs ex H H h h := Un.kept fun _ _ q => q
theorem Un.laid (k : ∀ b u, h.get? b = some u → h'.get? b = some u) (hp : h.objs.size ≤ a) (hn : H a = none) : Un fs ex H (upd H a o) h h' where
  keep := fun b u q _ _ _ => k b u q
  slot := fun b u q _ _ _ => ⟨u.slots, k b u q⟩
  free := fun b u q n _ => by rw [qaJ (Nat.ne_of_lt (Nat.lt_of_lt_of_le (Heap.lt_size q) hp))]; exact n
  there := fun b u q _ => ⟨u, k b u q⟩
  tups := fun b xs q => by rw [qaJ (qaH q hn)]; exact q
  frzs := fun b u xs q => by rw [qaJ (qaH q hn)]; exact q
  tbls := fun b ps q => ⟨#[], by rw [qaJ (qaH q hn), q]; simp⟩
theorem Un.write (mu : Mut (H x)) (he : e = x ∨ H e = some (.own x)) (k : ∀ b u, b ≠ e → h.get? b = some u → h'.get? b = some u) (heo : ∃ u, h'.get? e = some u) : Un fs ex H (upd H x o) h h' := by
  have hx : ∀ b, H b = none → b ≠ x := fun b n z => by subst z; rw [n] at mu; exact mu
  have hb : ∀ b, H b = none → b ≠ e := fun b n z => by
    subst z
    rcases he with r | r
    · exact hx b n r
    · rw [n] at r; cases r
  have hm : ∀ b u, H b = some u → ¬ Mut (some u) → b ≠ x := fun b u q nm z => by subst z; rw [q] at mu; exact nm mu
  refine ⟨fun b u q n _ _ => k b u (hb b n) q, fun b u q n _ _ => ⟨u.slots, k b u (hb b n) q⟩, fun b u q n _ => by rw [qaJ (hx b n)]; exact n, fun b u q _ => ?_,
    fun b xs q => by rw [qaJ (hm b _ q fun z => z)]; exact q, fun b u xs q => by rw [qaJ (hm b _ q fun z => z)]; exact q, fun b ps q => ⟨#[], by rw [qaJ (hm b _ q fun z => z), q]; simp⟩⟩
  by_cases hbe : b = e
  · subst hbe; exact heo
  · exact ⟨u, k b u hbe q⟩
theorem Un.mono (u : Un fs ex H H1 h h1) (hs : ∀ b ∈ fs, b ∈ fs') (hx : ∀ b ∈ ex, b ∈ ex') : Un fs' ex' H H1 h h1 :=
  ⟨fun b ob q n hb he => u.keep b ob q n (fun z => hb (hs b z)) fun z => he (hx b z), fun _ _ q n _ he => u.any q n fun z => he (hx _ z), fun b ob q n he => u.free b ob q n fun z => he (hx b z), fun b ob q he => u.there b ob q fun z => he (hx b z), u.tups, u.frzs, u.tbls⟩
end
noncomputable def trk (h : Heap) (H : Hp) : List Addr := (List.range h.objs.size).filter fun a => (H a).isSome
noncomputable def qoV (h : Heap) (H : Hp) : Heap := PySem.W.hideAll h (trk h H)
theorem qmP (h : Heap) (H : Hp) : (qoV h H).objs.size = h.objs.size := PySem.W.hideAll_size _ _
theorem qoW {h : Heap} {H : Hp} {b : Addr} {o : Obj} (e : h.get? b = some o) (n : H b = none) : (qoV h H).get? b = some o :=
  PySem.W.hideAll_get _ e fun hm => by
    have q : (H b).isSome = true := (List.mem_filter.mp hm).2
    rw [n] at q; simp at q
theorem qqk {h : Heap} {H : Hp} {b : Addr} {o : Obj} (e : (qoV h H).get? b = some o) : h.get? b = some o ∧ H b = none := by
  have e' : h.get? b = some o := PySem.W.of_hideAll (trk h H) e
  refine ⟨e', ?_⟩
  cases q : H b with
  | none => rfl
  | some x =>
    have hm : b ∈ trk h H := List.mem_filter.mpr ⟨List.mem_range.mpr (Heap.lt_size e'), by simp [q]⟩
    have z : (qoV h H).get? b = none := PySem.W.hideAll_none (trk h H) hm
    rw [z] at e; cases e
noncomputable def qql (g h : Heap) (L : Addr) : List (Addr × Obj) := (List.range h.objs.size).filterMap fun a => if a = L ∨ (g.get? a).isSome = true then none else (h.get? a).map fun o => (a, o)
noncomputable def rest (g h : Heap) (L d : Addr) : List (Addr × Obj) := (qql g h L).filter fun p => decide (p.1 ≠ d)
end L2
namespace L2
open PySem PySem.Spec PyProof.Rows
structure Mod (K : PySem.W.Frag) (mg : Str → Option Value) (base : Heap) : Prop where
  kin : K.In base
  glob : base.Ns mainGlobals mg
  blt : ∃ mb, base.Ns builtinsNs mb ∧ ∀ x : Str, x ≠ "__name__" → mb x = bootBuiltins x
  nolimit : base.NoLimit
structure Cx where
  prog : Program
  w : World
  K : PySem.W.Frag
  mg : Str → Option Value
  base : Heap
  A : Around
  N : List Str
  s₀ : Shared
  H₀ : Hp
  env : Env
  outer : List Env
  stack : List Env
  ex : List Addr
  fn : Str → Bool
  calm : Bool
  pn : List (Addr × Obj)
  xe : Value → Shared → Prop
noncomputable def frs (l : List Env) : List Addr := l.filterMap (·.frame)
noncomputable abbrev Cx.fs (X : Cx) : List Addr := frs X.outer
noncomputable def Vis (sc : Scope) (x : Str) : Prop := sc.names.lookup x = some .local ∨ sc.names.lookup x = some .cell ∨ sc.names.lookup x = some .free
noncomputable def Loc (sc : Scope) (x : Str) : Prop := sc.names.lookup x = some .local ∨ sc.names.lookup x = some .cell
noncomputable def Look (env : Env) (h : Heap) (m : Str → Option Value) (x : Str) (u : Value) : Prop :=
  (env.kindOf x = some .local ∧ m x = some u) ∨ ((env.kindOf x = some .cell ∨ env.kindOf x = some .free) ∧ ∃ c, env.cells.lookup x = some c ∧ h.IsCell c (some u))
structure Cx.Ok (X : Cx) : Prop where
  mod : Mod X.K X.mg X.base
  kind : X.env.scope.kind = .function
  glob : X.env.globals = mainGlobals
  blt : X.env.builtins = builtinsNs
  above : X.s₀.heap.objs.size ≤ X.env.locals
  inj : ∀ x y c, X.env.cells.lookup x = some c → X.env.cells.lookup y = some c → x = y
  has : ∀ x, (X.env.kindOf x = some .cell ∨ X.env.kindOf x = some .free) → ∃ c, X.env.cells.lookup x = some c
  cab : ∀ x c, X.fn x = true → X.env.cells.lookup x = some c → X.s₀.heap.objs.size ≤ c
  hd : X.calm = true → X.A.handled = none
  frames : X.A.frames = some X.stack
  stk : X.stack = X.outer ∨ (X.stack = X.env :: X.outer ∧ X.env.frame = some X.env.locals)
  exf : ∀ b ∈ X.ex, b ≠ X.env.locals ∧ ∀ x c, X.env.cells.lookup x = some c → c ≠ b
  bs : ∀ b o, X.base.get? b = some o → X.s₀.heap.get? b = some o ∧ X.H₀ b = none
  bsz : X.base.objs.size ≤ X.s₀.heap.objs.size
  noex : ∀ b o, X.base.get? b = some o → b ∉ X.ex
  exfs : ∀ b ∈ X.ex, b ∉ X.fs
  funs : X.s₀.heap.FunFrames X.base X.outer
  frf : ∀ b ∈ X.fs, X.H₀ b = none
  seer : X.base.NoSeer
  tree : (model X.prog X.w).prog.given.tree = none
  plr : ∀ s : Shared, (∀ b o, X.base.get? b = some o → s.heap.get? b = some o) → PySem.PylongRoom (model X.prog X.w) X.A s
structure Inv (X : Cx) (pins : List (Addr × Obj)) (σ : List (Option V)) (H : Hp) (s : Shared) : Prop where
  ok : X.Ok
  os : s.os = X.s₀.os
  bare : AllBare s.gens
  base : Un X.fs X.ex X.H₀ H X.s₀.heap s.heap
  loc : ∃ m, s.heap.Ns X.env.locals m ∧ ∀ (i : Nat) (x : Str) (v : V), X.N[i]? = some x → σ[i]? = some (some v) → Vis X.env.scope x → ∃ u, RelV v u ∧ Look X.env s.heap m x u
  cell : ∀ x c, X.env.cells.lookup x = some c → ∃ v, s.heap.IsCell c v
  free : H X.env.locals = none
  freeC : ∀ x c, X.env.cells.lookup x = some c → H c = none
  pin : ∀ p ∈ X.pn ++ pins, s.heap.get? p.1 = some p.2 ∧ H p.1 = none ∧ p.1 ≠ X.env.locals ∧ p.1 ∉ X.fs ∧ ∀ v, p.2.data ≠ .cell v
  hok : HOk X.prog X.w H s.heap
  len : σ.length = X.N.length
section
variable {X : Cx} {pins : List (Addr × Obj)} {σ : List (Option V)} {H H' : Hp} {s : Shared} {h' : Heap}
theorem Cx.Ok.nofr (ok : X.Ok) {b : Addr} {o : Obj} (e : X.base.get? b = some o) : b ∉ X.fs := fun hb => by
  have := (ok.funs.mem hb).1
  rw [e] at this; cases this
theorem Inv.bs (I : Inv X pins σ H s) : ∀ b o, X.base.get? b = some o → s.heap.get? b = some o ∧ H b = none := fun b o e =>
  ⟨I.base.keep b o (I.ok.bs b o e).1 (I.ok.bs b o e).2 (I.ok.nofr e) (I.ok.noex b o e), I.base.free b o (I.ok.bs b o e).1 (I.ok.bs b o e).2 (I.ok.noex b o e)⟩
theorem Inv.bk (I : Inv X pins σ H s) : ∀ b o, X.base.get? b = some o → s.heap.get? b = some o := fun b o e => (I.bs b o e).1
theorem Inv.mod (I : Inv X pins σ H s) : Mod X.K X.mg X.base := I.ok.mod
theorem Inv.kIn (I : Inv X pins σ H s) : X.K.In s.heap := I.ok.mod.kin.keeps I.bk
theorem Inv.nolimit (I : Inv X pins σ H s) : s.heap.NoLimit := I.ok.mod.nolimit.keeps I.bk
theorem Inv.lt (I : Inv X pins σ H s) : X.env.locals < s.heap.objs.size := let ⟨_, hn, _⟩ := I.loc; hn.lt
theorem Inv.sz (I : Inv X pins σ H s) : X.s₀.heap.objs.size ≤ s.heap.objs.size := Nat.le_trans I.ok.above (Nat.le_of_lt I.lt)
theorem Inv.nofs (I : Inv X pins σ H s) {a : Addr} (h : s.heap.objs.size ≤ a) : a ∉ X.fs := fun hb => by
  obtain ⟨_, o, ho, _⟩ := I.ok.funs.mem hb
  exact absurd (Nat.lt_of_lt_of_le (Heap.lt_size ho) (Nat.le_trans I.sz h)) (Nat.lt_irrefl _)
theorem Inv.cne (I : Inv X pins σ H s) : ∀ x c, X.env.cells.lookup x = some c → c ≠ X.env.locals := fun x c e z => by
  obtain ⟨v, o, ho, hd⟩ := I.cell x c e
  obtain ⟨m, ⟨o', es, ep, ho', hd', _⟩, _⟩ := I.loc
  rw [z, ho'] at ho; cases ho; rw [hd'] at hd; cases hd
theorem Inv.funs (I : Inv X pins σ H s) : s.heap.FunFrames X.base X.outer := by
  have all : ∀ (l : List Env), (∀ b ∈ frs l, b ∈ X.fs) → X.s₀.heap.FunFrames X.base l → s.heap.FunFrames X.base l := by
    intro l
    induction l with
    | nil => intro _ _; trivial
    | cons env r ih =>
      intro hs hl
      obtain ⟨hk, ⟨L, o, hf, hn, ho, hd⟩, hr⟩ := hl
      have hL : L ∈ X.fs := hs L (by unfold frs; rw [List.filterMap_cons, hf]; exact List.mem_cons_self)
      obtain ⟨sl, e⟩ := I.base.slot L o ho (I.ok.frf L hL) hL fun z => I.ok.exfs L z hL
      exact ⟨hk, ⟨L, _, hf, hn, e, hd⟩, ih (fun b hb => hs b (by unfold frs; rw [List.filterMap_cons, hf]; exact List.mem_cons_of_mem _ hb)) hr⟩
  exact all X.outer (fun _ hb => hb) I.ok.funs
theorem Inv.stack (I : Inv X pins σ H s) : s.heap.FunFrames X.base X.stack := by
  rcases I.ok.stk with e | ⟨e, hf⟩
  · rw [e]; exact I.funs
  · rw [e]
    obtain ⟨m, hn, _⟩ := I.loc
    refine .cons (by rw [I.ok.kind]; decide) hf hn ?_ I.funs
    exact Heap.get?_none_of_le (Nat.le_trans I.ok.bsz I.ok.above)
theorem Inv.stkSub (I : Inv X pins σ H s) : ∀ b ∈ frs X.stack, b ∈ X.env.locals :: X.fs := fun b hb => by
  rcases I.ok.stk with e | ⟨e, hf⟩
  · rw [e] at hb; exact List.mem_cons_of_mem _ hb
  · rw [e] at hb
    unfold frs at hb
    rw [List.filterMap_cons, hf] at hb
    exact hb
theorem Inv.stkFree (I : Inv X pins σ H s) : ∀ b ∈ frs X.stack, H b = none := fun b hb => by
  rcases List.mem_cons.mp (I.stkSub b hb) with e | hb
  · rw [e]; exact I.free
  · obtain ⟨_, o, ho, _⟩ := I.ok.funs.mem hb
    exact I.base.free b o ho (I.ok.frf b hb) fun z => I.ok.exfs b z hb
theorem Inv.step {g' : Array GenState} {t' : Nat} {d' : Drawn} {ch : List Addr} (I : Inv X pins σ H s)
    (hch : ∀ b ∈ ch, (b ∈ X.ex ∨ X.s₀.heap.objs.size ≤ b) ∧ b ≠ X.env.locals ∧ (∀ x c, X.env.cells.lookup x = some c → c ≠ b) ∧ ∀ p ∈ X.pn ++ pins, p.1 ≠ b)
    (keep : ∀ b o, b ≠ X.env.locals → b ∉ X.fs → b ∉ ch → s.heap.get? b = some o → H b = none → h'.get? b = some o)
    (slot : ∀ b o, b ≠ X.env.locals → b ∈ X.fs → b ∉ ch → s.heap.get? b = some o → H b = none → ∃ sl, h'.get? b = some { o with slots := sl }) (free : ∀ b o, b ∉ ch → s.heap.get? b = some o → H b = none → H' b = none)
    (there : ∀ b o, b ∉ ch → s.heap.get? b = some o → ∃ o', h'.get? b = some o')
    (tups : ∀ b xs, H b = some (.tup xs) → H' b = some (.tup xs)) (frzs : ∀ b o u, H b = some (.frz o u) → H' b = some (.frz o u)) (tbls : ∀ b ps, H b = some (.tbl ps) → ∃ more, H' b = some (.tbl (ps ++ more)))
    (ns : ∀ m, s.heap.Ns X.env.locals m → h'.Ns X.env.locals m) (hok : HOk X.prog X.w H' h') (hg : AllBare g') :
    Inv X pins σ H' { s with heap := h', gens := g', drawn := d', toks := t' } := by
  have neL : ∀ b o, X.s₀.heap.get? b = some o → b ≠ X.env.locals := fun b o e => Nat.ne_of_lt (Nat.lt_of_lt_of_le (Heap.lt_size e) I.ok.above)
  have neC : ∀ b o, X.s₀.heap.get? b = some o → b ∉ X.ex → b ∉ ch := fun b o e hx hb => by
    rcases (hch b hb).1 with z | z
    · exact hx z
    · exact absurd (Nat.lt_of_lt_of_le (Heap.lt_size e) z) (Nat.lt_irrefl _)
  have cellK : ∀ x c, X.env.cells.lookup x = some c → ∀ v, s.heap.IsCell c v → h'.IsCell c v := fun x c e v ⟨o, ho, hd⟩ => by
    have nch : c ∉ ch := fun z => (hch c z).2.2.1 x c e rfl
    by_cases hc : c ∈ X.fs
    · obtain ⟨sl, q⟩ := slot c o (I.cne x c e) hc nch ho (I.freeC x c e)
      exact ⟨_, q, hd⟩
    · exact ⟨o, keep c o (I.cne x c e) hc nch ho (I.freeC x c e), hd⟩
  refine ⟨I.ok, I.os, hg, ⟨fun b o e n hb hx => ?_, fun b o e n hb hx => ?_, fun b o e n hx => ?_, fun b o e hx => ?_, fun b xs e => tups b xs (I.base.tups b xs e), fun b o xs e => frzs b o xs (I.base.frzs b o xs e), fun b ps e => ?_⟩, ?_, fun x c e => ?_, ?_, fun x c e => ?_, fun p hp => ?_, hok, I.len⟩
  · exact keep b o (neL b o e) hb (neC b o e hx) (I.base.keep b o e n hb hx) (I.base.free b o e n hx)
  · obtain ⟨sl, e1⟩ := I.base.slot b o e n hb hx
    obtain ⟨sl', e2⟩ := slot b _ (neL b o e) hb (neC b o e hx) e1 (I.base.free b o e n hx)
    exact ⟨sl', e2⟩
  · obtain ⟨o', e1⟩ := I.base.there b o e hx
    exact free b o' (neC b o e hx) e1 (I.base.free b o e n hx)
  · obtain ⟨o', e1⟩ := I.base.there b o e hx
    exact there b o' (neC b o e hx) e1
  · obtain ⟨m1, e1⟩ := I.base.tbls b ps e
    obtain ⟨m2, e2⟩ := tbls b _ e1
    exact ⟨m1 ++ m2, by rw [e2, Array.append_assoc]⟩
  · obtain ⟨m, hn, hl⟩ := I.loc
    refine ⟨m, ns m hn, fun i x v e1 e2 e3 => ?_⟩
    obtain ⟨u, r, l⟩ := hl i x v e1 e2 e3
    refine ⟨u, r, ?_⟩
    rcases l with l | ⟨k, c, e, z⟩
    · exact .inl l
    · exact .inr ⟨k, c, e, cellK x c e _ z⟩
  · obtain ⟨v, z⟩ := I.cell x c e
    exact ⟨v, cellK x c e v z⟩
  · obtain ⟨m, ⟨o, _, _, ho, _⟩, _⟩ := I.loc
    exact free _ o (fun z => (hch _ z).2.1 rfl) ho I.free
  · obtain ⟨v, o, ho, hd⟩ := I.cell x c e
    exact free c o (fun z => (hch c z).2.2.1 x c e rfl) ho (I.freeC x c e)
  · obtain ⟨e, n, ne, nf, d⟩ := I.pin p hp
    have nch : p.1 ∉ ch := fun z => (hch p.1 z).2.2.2 p hp rfl
    exact ⟨keep p.1 p.2 ne nf nch e n, free p.1 p.2 nch e n, ne, nf, d⟩
theorem Inv.un {t' : Nat} (I : Inv X pins σ H s) (u : Un X.fs [] H H' s.heap h') (hok : HOk X.prog X.w H' h') : Inv X pins σ H' { s with heap := h', toks := t' } := by
  obtain ⟨m, ⟨o, es, ep, ho, r⟩, _⟩ := id I.loc
  obtain ⟨sl, hL⟩ := u.any ho I.free (by simp)
  exact I.step (g' := s.gens) (d' := s.drawn) (ch := []) (fun _ z => nomatch z) (fun b o _ hb _ e n => u.keep b o e n hb (by simp)) (fun b o _ hb _ e n => u.slot b o e n hb (by simp)) (fun b o _ e n => u.free b o e n (by simp)) (fun b o _ e => u.there b o e (by simp)) u.tups u.frzs u.tbls (fun m' hm => by
    obtain ⟨o', es', ep', ho', r'⟩ := hm
    rw [ho] at ho'; cases ho'
    exact ⟨_, es', ep', hL, r'⟩) hok I.bare
theorem Inv.call {g' : Array GenState} {t' : Nat} {d' : Drawn} {ch : List Addr} (I : Inv X pins σ H s) (u : Un (frs X.stack) ch H H' s.heap h') (hok : HOk X.prog X.w H' h') (hg : AllBare g')
    (hch : ∀ b ∈ ch, (b ∈ X.ex ∨ X.s₀.heap.objs.size ≤ b) ∧ b ≠ X.env.locals ∧ (∀ x c, X.env.cells.lookup x = some c → c ≠ b) ∧ ∀ p ∈ X.pn ++ pins, p.1 ≠ b) :
    Inv X pins σ H' { s with heap := h', gens := g', drawn := d', toks := t' } := by
  obtain ⟨m, ⟨o, es, ep, ho, r⟩, _⟩ := id I.loc
  obtain ⟨sl, hL⟩ := u.any ho I.free fun z => (hch _ z).2.1 rfl
  exact I.step (ch := ch) hch (fun b o hL hb hc e n => u.keep b o e n (fun z => (List.mem_cons.mp (I.stkSub b z)).elim hL hb) hc) (fun b o _ _ hc e n => u.any e n hc) (fun b o hc e n => u.free b o e n hc) (fun b o hc e => u.there b o e hc) u.tups u.frzs u.tbls (fun m' hm => by
    obtain ⟨o', es', ep', ho', r'⟩ := hm
    rw [ho] at ho'; cases ho'
    exact ⟨_, es', ep', hL, r'⟩) hok hg
theorem Inv.turned {t' : Nat} {it : Addr} (I : Inv X pins σ H s) (k : ∀ b o, b ≠ it → s.heap.get? b = some o → h'.get? b = some o) (hn : H it = none) (hL : it ≠ X.env.locals)
    (h1 : it ∈ X.ex ∨ X.s₀.heap.objs.size ≤ it) (h2 : ∀ x c, X.env.cells.lookup x = some c → c ≠ it) (h3 : ∀ p ∈ X.pn ++ pins, p.1 ≠ it) : Inv X pins σ H { s with heap := h', toks := t' } := by
  have nit : ∀ b u, H b = some u → b ≠ it := fun b u e z => by rw [z, hn] at e; cases e
  refine I.step (g' := s.gens) (d' := s.drawn) (ch := [it]) (fun b hb => ?_) (fun b o _ _ hc e _ => k b o (fun z => hc (by simp [z])) e) (fun b o _ _ hc e _ => ⟨o.slots, k b o (fun z => hc (by simp [z])) e⟩) (fun _ _ _ _ n => n)
    (fun b o hc e => ⟨o, k b o (fun z => hc (by simp [z])) e⟩) (fun _ _ e => e) (fun _ _ _ e => e) (fun b ps e => ⟨#[], by rw [e]; simp⟩) (fun m hm => ?_) (fun b u e => ?_) I.bare
  · have e : b = it := by simpa using hb
    subst e
    exact ⟨h1, hL, h2, h3⟩
  · obtain ⟨o, es, ep, ho, r⟩ := hm
    exact ⟨o, es, ep, k _ o (Ne.symm hL) ho, r⟩
  · refine (I.hok b u e).stay (fun c v hc q => k c v ?_ q) (fun _ q => q) fun _ _ q => q
    rcases hc with z | z
    · rw [z]; exact nit b u e
    · exact nit c _ z
theorem Inv.tok (I : Inv X pins σ H s) (t : Nat) : Inv X pins σ H { s with toks := t } := I.un (h' := s.heap) (t' := t) Un.refl I.hok
theorem Inv.kept {t' : Nat} (I : Inv X pins σ H s) (k : ∀ b u, s.heap.get? b = some u → h'.get? b = some u) : Inv X pins σ H { s with heap := h', toks := t' } := I.un (Un.kept k) (I.hok.kept k)
theorem Inv.laid {a : Addr} {o : HO} {t' : Nat} (I : Inv X pins σ H s) (k : ∀ b u, s.heap.get? b = some u → h'.get? b = some u) (hp : s.heap.objs.size ≤ a) (new : ObjOk X.prog X.w (upd H a o) h' a o) :
    Inv X pins σ (upd H a o) { s with heap := h', toks := t' } := I.un (Un.laid k hp (I.hok.fresh hp)) (I.hok.laid k hp new)
theorem Inv.write {x e : Addr} {o : HO} {t' : Nat} (I : Inv X pins σ H s) (mu : Mut (H x)) (he : e = x ∨ H e = some (.own x)) (k : ∀ b u, b ≠ e → s.heap.get? b = some u → h'.get? b = some u) (heo : ∃ u, h'.get? e = some u)
    (new : ObjOk X.prog X.w (upd H x o) h' x o) : Inv X pins σ (upd H x o) { s with heap := h', toks := t' } := I.un (Un.write mu he k heo) (I.hok.write mu he k heo new)
theorem Inv.pins_of {pins' : List (Addr × Obj)} (I : Inv X pins σ H s) (h : ∀ p ∈ pins', s.heap.get? p.1 = some p.2 ∧ H p.1 = none ∧ p.1 ≠ X.env.locals ∧ p.1 ∉ X.fs ∧ ∀ v, p.2.data ≠ .cell v) : Inv X pins' σ H s :=
  ⟨I.ok, I.os, I.bare, I.base, I.loc, I.cell, I.free, I.freeC, fun p hp => (List.mem_append.mp hp).elim (fun z => I.pin p (List.mem_append_left _ z)) (h p), I.hok, I.len⟩
theorem qlm {N : List Str} (hN : N.Nodup) {i j : Nat} {x : Str} (a : N[i]? = some x) (b : N[j]? = some x) : i = j := by
  obtain ⟨h1, e1⟩ := List.getElem?_eq_some_iff.mp a
  obtain ⟨h2, e2⟩ := List.getElem?_eq_some_iff.mp b
  exact (List.getElem_inj hN).mp (e1.trans e2.symm)
theorem qjF {M : Model} {A : Around} {E : Value → Shared → Prop} {i : Nat} {x : Str} {v : V} {u : Value} {Q : Unit → Shared → Prop} (I : Inv X pins σ H s) (hN : X.N.Nodup) (hi : X.N[i]? = some x) (hx : Loc X.env.scope x) (r : RelV v u)
    (h : ∀ s', Inv X pins (σ.set i (some v)) H s' → (∃ a, Heap.SameBut a s.heap s'.heap ∧ (a = X.env.locals ∨ X.env.cells.lookup x = some a)) → Q () s') (hf : X.fn x = true ∨ X.env.scope.names.lookup x = some .local := by first | exact .inl rfl | exact .inr rfl | assumption) : wpAny M A (storeName X.env x u) Q E s := by
  obtain ⟨m, hn, hl⟩ := id I.loc
  have hcls : (X.env.scope.kind == .class || (X.env.scope.kind == .module && X.env.locals != X.env.globals)) = false := by rw [I.ok.kind]; rfl
  have hiσ : i < σ.length := by rw [I.len]; exact (List.getElem?_eq_some_iff.mp hi).1
  have cne := I.cne
  have tracked : ∀ {a : Addr} {h' : Heap}, (∃ o, s.heap.get? a = some o ∧ H a = none) → Heap.SameBut a s.heap h' → HOk X.prog X.w H h' := fun {a h'} ha hs b ob e => by
    obtain ⟨_, _, hfree⟩ := ha
    refine (I.hok b ob e).stay (fun c w' hc q => (hs.2 c ?_).trans q) (fun _ q => q) fun _ _ q => q
    rintro rfl
    rcases hc with rfl | hc
    · rw [hfree] at e; cases e
    · rw [hfree] at hc; cases hc
  rcases hx with hk | hk
  · refine wpAny_storeName_local hk hn (fun h' hn' hs => ?_) hcls
    obtain ⟨oL, _, _, hoL, _⟩ := id hn
    refine h _ ⟨I.ok, I.os, I.bare, ⟨fun b o e n hb hx => ?_, fun b o e n hb hx => ?_, I.base.free, fun b o e hx => ?_, I.base.tups, I.base.frzs, I.base.tbls⟩, ⟨_, hn', fun j y v' e1 e2 e3 => ?_⟩, fun y c e => ?_, I.free, I.freeC, fun p hp => ?_, tracked ⟨oL, hoL, I.free⟩ hs, by simpa using I.len⟩ ⟨_, hs, .inl rfl⟩
    · exact (hs.2 b (Nat.ne_of_lt (Nat.lt_of_lt_of_le (Heap.lt_size e) I.ok.above))).trans (I.base.keep b o e n hb hx)
    · obtain ⟨sl, e1⟩ := I.base.slot b o e n hb hx
      exact ⟨sl, (hs.2 b (Nat.ne_of_lt (Nat.lt_of_lt_of_le (Heap.lt_size e) I.ok.above))).trans e1⟩
    · obtain ⟨o', e1⟩ := I.base.there b o e hx
      exact ⟨o', (hs.2 b (Nat.ne_of_lt (Nat.lt_of_lt_of_le (Heap.lt_size e) I.ok.above))).trans e1⟩
    · by_cases hj : j = i
      · subst hj
        rw [hi] at e1; cases e1
        rw [List.getElem?_set_self hiσ] at e2
        cases e2
        exact ⟨u, r, .inl ⟨hk, by simp⟩⟩
      · rw [List.getElem?_set_ne (Ne.symm hj)] at e2
        obtain ⟨u', r', q⟩ := hl j y v' e1 e2 e3
        refine ⟨u', r', ?_⟩
        rcases q with ⟨k, e⟩ | ⟨k, c, e, z⟩
        · refine .inl ⟨k, ?_⟩
          have : y ≠ x := fun e => hj (qlm hN e1 (e ▸ hi))
          simp [this, e]
        · exact .inr ⟨k, c, e, z.sameBut hs (cne y c e)⟩
    · obtain ⟨w', z⟩ := I.cell y c e
      exact ⟨w', z.sameBut hs (cne y c e)⟩
    · obtain ⟨e, n, ne, nf, d⟩ := I.pin p hp
      exact ⟨(hs.2 p.1 ne).trans e, n, ne, nf, d⟩
  · have hfn : X.fn x = true := by
      rcases hf with z | z
      · exact z
      · rw [z] at hk; cases hk
    obtain ⟨c, hc⟩ := I.ok.has x (.inl hk)
    obtain ⟨w', z⟩ := I.cell x c hc
    refine wpAny_storeName_cell I.ok.kind hk hc z (fun h' hc' hs => ?_)
    obtain ⟨oc, hoc, hocd⟩ := id z
    refine h { s with heap := h' } ⟨I.ok, I.os, I.bare, ⟨fun b o e n hb hx => ?_, fun b o e n hb hx => ?_, I.base.free, fun b o e hx => ?_, I.base.tups, I.base.frzs, I.base.tbls⟩, ⟨m, hn.sameBut hs (Ne.symm (cne x c hc)), fun j y v' e1 e2 e3 => ?_⟩, fun y c' e => ?_, I.free, I.freeC, fun p hp => ?_, tracked ⟨oc, hoc, I.freeC x c hc⟩ hs, by simpa using I.len⟩ ⟨c, hs, .inr hc⟩
    · exact (hs.2 b (Nat.ne_of_lt (Nat.lt_of_lt_of_le (Heap.lt_size e) (I.ok.cab x c hfn hc)))).trans (I.base.keep b o e n hb hx)
    · obtain ⟨sl, e1⟩ := I.base.slot b o e n hb hx
      exact ⟨sl, (hs.2 b (Nat.ne_of_lt (Nat.lt_of_lt_of_le (Heap.lt_size e) (I.ok.cab x c hfn hc)))).trans e1⟩
    · obtain ⟨o', e1⟩ := I.base.there b o e hx
      exact ⟨o', (hs.2 b (Nat.ne_of_lt (Nat.lt_of_lt_of_le (Heap.lt_size e) (I.ok.cab x c hfn hc)))).trans e1⟩
    · by_cases hj : j = i
      · subst hj
        rw [hi] at e1; cases e1
        rw [List.getElem?_set_self hiσ] at e2
        cases e2
        exact ⟨u, r, .inr ⟨.inl hk, c, hc, hc'⟩⟩
      · rw [List.getElem?_set_ne (Ne.symm hj)] at e2
        obtain ⟨u', r', q⟩ := hl j y v' e1 e2 e3
        refine ⟨u', r', ?_⟩
        rcases q with q | ⟨k, c', e, z'⟩
        · exact .inl q
        · refine .inr ⟨k, c', e, z'.sameBut hs ?_⟩
          rintro rfl
          exact hj (qlm hN e1 (I.ok.inj _ _ _ e hc ▸ hi))
    · by_cases hcc : c' = c
      · subst hcc; exact ⟨_, hc'⟩
      · obtain ⟨w2, z2⟩ := I.cell y c' e
        exact ⟨w2, z2.sameBut hs hcc⟩
    · obtain ⟨e, n, ne, nf, d⟩ := I.pin p hp
      refine ⟨(hs.2 p.1 ?_).trans e, n, ne, nf, d⟩
      intro q
      rw [q, hoc] at e
      have q' : oc = p.2 := Option.some.inj e
      exact d w' (by rw [← q']; exact hocd)
theorem qiF {M : Model} {A : Around} {E : Value → Shared → Prop} {i : Nat} {x : Str} {v : V} {u : Value} {Q : Unit → Shared → Prop} (I : Inv X pins σ H s) (hN : X.N.Nodup) (hi : X.N[i]? = some x) (hx : Loc X.env.scope x) (r : RelV v u)
    (h : ∀ s', Inv X pins (σ.set i (some v)) H s' → Q () s') (hf : X.fn x = true ∨ X.env.scope.names.lookup x = some .local := by first | exact .inl rfl | exact .inr rfl | assumption) : wpAny M A (storeName X.env x u) Q E s :=
  qjF I hN hi hx r (fun s' I' _ => h s' I') hf
theorem Inv.call' {s' : Shared} {ch : List Addr} (I : Inv X pins σ H s) (ho : s'.os = s.os) (u : Un (frs X.stack) ch H H' s.heap s'.heap) (hok : HOk X.prog X.w H' s'.heap) (hg : AllBare s'.gens)
    (hch : ∀ b ∈ ch, (b ∈ X.ex ∨ X.s₀.heap.objs.size ≤ b) ∧ b ≠ X.env.locals ∧ (∀ x c, X.env.cells.lookup x = some c → c ≠ b) ∧ ∀ p ∈ X.pn ++ pins, p.1 ≠ b) : Inv X pins σ H' s' := by
  obtain ⟨h', g', d', t', o'⟩ := s'
  have e : o' = s.os := ho
  subst e
  exact I.call (g' := g') (t' := t') (d' := d') u hok hg hch
end
noncomputable abbrev XK := Value → Option Addr → Hp → Prop
noncomputable abbrev St := List (Option V)
noncomputable abbrev VK := V → Hp → Prop
noncomputable abbrev TE := St → Hp → VK → Prop
noncomputable abbrev TT := St → Hp → (Bool → Hp → Prop) → Prop
noncomputable abbrev TA := St → Hp → (List V → Hp → Prop) → Prop
structure Ends where
  nx : St → Hp → Prop
  rt : VK
  bk : St → Hp → Prop := fun _ _ => False
  ct : St → Hp → Prop := fun _ _ => False
noncomputable abbrev TS := Ends → St → Hp → Prop
noncomputable def EP (X : Cx) (pins : List (Addr × Obj)) (σ : St) (Q : VK) (u : Value) (s' : Shared) : Prop := ∃ v H', Inv X pins σ H' s' ∧ RelV v u ∧ Q v H'
noncomputable def TP (X : Cx) (pins : List (Addr × Obj)) (σ : St) (Q : Bool → Hp → Prop) (b : Bool) (s' : Shared) : Prop := ∃ H', Inv X pins σ H' s' ∧ Q b H'
noncomputable def AP (X : Cx) (pins : List (Addr × Obj)) (σ : St) (Q : List V → Hp → Prop) (us : List Value) (s' : Shared) : Prop := ∃ vs H', Inv X pins σ H' s' ∧ Vals vs us ∧ Q vs H'
noncomputable def SP (X : Cx) (pins : List (Addr × Obj)) (D : Ends) (f : Flow) (s' : Shared) : Prop :=
  match f with
  | .next => ∃ σ' H', Inv X pins σ' H' s' ∧ D.nx σ' H'
  | .brk => ∃ σ' H', Inv X pins σ' H' s' ∧ D.bk σ' H'
  | .cont => ∃ σ' H', Inv X pins σ' H' s' ∧ D.ct σ' H'
  | .ret u => ∃ v σ' H', Inv X pins σ' H' s' ∧ RelV v u ∧ D.rt v H'
noncomputable def PE (X : Cx) (e : Expr) (t : TE) : Prop :=
  ∀ (pins : List (Addr × Obj)) (s : Shared) (σ : St) (H : Hp) (Q : VK), Inv X pins σ H s → t σ H Q → wpAny (model X.prog X.w) X.A (eval e X.env) (EP X pins σ Q) X.xe s
noncomputable def PT (X : Cx) (e : Expr) (t : TT) : Prop :=
  ∀ (pins : List (Addr × Obj)) (s : Shared) (σ : St) (H : Hp) (Q : Bool → Hp → Prop), Inv X pins σ H s → t σ H Q → wpAny (model X.prog X.w) X.A (isTrue e X.env (eval e X.env)) (TP X pins σ Q) X.xe s
noncomputable def PW (X : Cx) (e : Expr) (t : TT) : Prop :=
  ∀ (whole : Sem Value) (pins : List (Addr × Obj)) (s : Shared) (σ : St) (H : Hp) (Q : Bool → Hp → Prop), Inv X pins σ H s → t σ H Q → wpAny (model X.prog X.w) X.A (isTrue e X.env whole) (TP X pins σ Q) X.xe s
theorem PW.pt {X : Cx} {e : Expr} {t : TT} (h : PW X e t) : PT X e t := h _
noncomputable def PA (X : Cx) (es : List Expr) (t : TA) : Prop :=
  ∀ (pos : Pos) (pins : List (Addr × Obj)) (s : Shared) (σ : St) (H : Hp) (Q : List V → Hp → Prop), Inv X pins σ H s → t σ H Q → wpAny (model X.prog X.w) X.A (spliced (backTo pos (starEach es X.env))) (AP X pins σ Q) X.xe s
noncomputable def PS (X : Cx) (st : Stmt) (t : TS) : Prop :=
  ∀ (pins : List (Addr × Obj)) (s : Shared) (σ : St) (H : Hp) (D : Ends), Inv X pins σ H s → t D σ H → wpAny (model X.prog X.w) X.A (exec st X.env) (SP X pins D) X.xe s
noncomputable def PSs (X : Cx) (st : List Stmt) (t : TS) : Prop :=
  ∀ (pins : List (Addr × Obj)) (s : Shared) (σ : St) (H : Hp) (D : Ends), Inv X pins σ H s → t D σ H → wpAny (model X.prog X.w) X.A (execs st X.env) (SP X pins D) X.xe s
theorem thn {α : Type} {t : Sem α} {Q Q' : α → Shared → Prop} {M : Model} {A : Around} {E : Value → Shared → Prop} {s : Shared} (h : wpAny M A t Q E s) (hQ : ∀ a s, Q a s → Q' a s) : wpAny M A t Q' E s := wpAny_mono h hQ fun _ _ x => x
end L2
namespace L2
open PySem PySem.Spec PyProof.Rows
section
variable {X : Cx}
noncomputable def qaf (i : Nat) : TE := fun σ H Q => ∃ v, σ[i]? = some (some v) ∧ Q v H
noncomputable def tC (v : V) : TE := fun _ H Q => Q v H
theorem qrz {i : Nat} {x : Str} {pos : Pos} (hN : X.N[i]? = some x) (hv : Vis X.env.scope x) (hd : (x == ("__debug__" : Str)) = false := by decide) (hcd : (x == ("__classdict__" : Str)) = false := by decide) : PE X (.Name x pos) (qaf i) := by
  intro pins s σ H Q I h
  obtain ⟨v, e, h⟩ := h
  obtain ⟨m, hn, hl⟩ := I.loc
  obtain ⟨u, r, l⟩ := hl i x v hN e hv
  have fin : EP X pins σ Q u s := ⟨v, H, I, r, h⟩
  rcases l with ⟨hk, hm⟩ | ⟨hk, c, hc, hcell⟩
  · exact wpAny_Name (wpAny_loadName_local I.ok.kind hk hn hm fin) hd
  · rcases hk with hk | hk
    · exact wpAny_Name (wpAny_loadName_cell I.ok.kind hk hc hcell fin) hd
    · exact wpAny_Name (wpAny_loadName_free I.ok.kind hk hc hcell fin hcd) hd
theorem qad {i j pos} : PE X (.Constant (.int i) j pos) (tC (.int i)) := fun _ _ _ H _ I h => wpAny_Constant_int ⟨.int i, H, I.tok _, ⟨_, rfl⟩, h⟩
theorem qgH {b j pos} : PE X (.Constant (.bool b) j pos) (tC (.bl b)) := fun _ _ _ H _ I h => Constant_bool ⟨.bl b, H, I, rfl, h⟩
theorem qgI {j pos} : PE X (.Constant .none j pos) (tC .non) := fun _ _ _ H _ I h => Constant_none ⟨.non, H, I, rfl, h⟩
noncomputable def Gl (X : Cx) (x : Str) : Prop := X.env.kindOf x = some .globalImplicit
theorem qmQ {E : Value → Shared → Prop} {pins : List (Addr × Obj)} {s : Shared} {σ : St} {H : Hp} {x : Str} {u : Value} {pos : Pos} {Q : Value → Shared → Prop} (I : Inv X pins σ H s) (hg : Gl X x) (hm : X.mg x = some u) (h : Q u s)
    (hd : (x == ("__debug__" : Str)) = false := by decide) : wpAny (model X.prog X.w) X.A (eval (.Name x pos) X.env) Q E s :=
  Calls.Name_function_global I.ok.kind hg (Calls.loadGlobal_global (by rw [I.ok.glob]; exact I.mod.glob.keeps I.bk) hm h) hd
theorem qf8 {E : Value → Shared → Prop} {pins : List (Addr × Obj)} {s : Shared} {σ : St} {H : Hp} {x : Str} {u : Value} {pos : Pos} {Q : Value → Shared → Prop} (I : Inv X pins σ H s) (hg : Gl X x) (hm : X.mg x = none) (hv : bootBuiltins x = some u) (h : Q u s)
    (hn : x ≠ "__name__" := by decide) (hd : (x == ("__debug__" : Str)) = false := by decide) : wpAny (model X.prog X.w) X.A (eval (.Name x pos) X.env) Q E s := by
  obtain ⟨mb, h1, h2⟩ := I.mod.blt
  exact Calls.Name_function_global I.ok.kind hg (Calls.loadGlobal_builtin (by rw [I.ok.glob]; exact I.mod.glob.keeps I.bk) hm (by rw [I.ok.blt]; exact h1.keeps I.bk) ((h2 x hn).trans hv) h) hd
theorem qqm {x : Str} {v : V} {u : Value} {pos : Pos} (hg : Gl X x) (hm : X.mg x = some u) (r : RelV v u) (hd : (x == ("__debug__" : Str)) = false := by decide) : PE X (.Name x pos) (tC v) :=
  fun _ _ _ H _ I h => qmQ I hg hm ⟨v, H, I, r, h⟩ hd
variable {a b : Expr} {ta tb : TE} {pos : Pos}
noncomputable def tB (t : TE) : TT := fun σ H Q => t σ H fun x H1 => ∃ c, x = .bl c ∧ Q c H1
theorem qpQ {e : Expr} {t : TE} (h : PE X e t) (he : ∀ whole, isTrue e X.env whole = (do let v ← whole; standAt e.pos; holding [v] (truthy v)) := by intro _; rfl) : PT X e (tB t) := by
  intro pins s σ H Q I hw
  refine isTrue_plain (thn (h pins s σ H _ I hw) fun v s1 ⟨x, H1, I1, r1, q1⟩ => ?_) (he _)
  obtain ⟨d, rfl, q⟩ := q1
  cases r1
  exact wpAny_truthy_bool ⟨H1, I1, q⟩
variable {tA tB' : TT} {rest : List Expr}
noncomputable def qpR (t u : TT) : TT := fun σ H Q => t σ H fun c H1 => if c = true then u σ H1 Q else Q false H1
noncomputable def tOr (t u : TT) : TT := fun σ H Q => t σ H fun c H1 => if c = true then Q true H1 else u σ H1 Q
noncomputable def qrp (t : TT) : TT := fun σ H Q => t σ H fun c H1 => Q (!c) H1
theorem qgJ (ha : PT X a tA) : PW X (.BoolOp .And [a] pos) tA := by
  intro wh pins s σ H Q I h
  refine isTrue_and (thn (ha pins s σ H Q I h) fun c s1 e => ?_)
  cases c with
  | true => exact isTrue_and_nil e
  | false => exact e
theorem qie (ha : PT X a tA) : PW X (.BoolOp .Or [a] pos) tA := by
  intro wh pins s σ H Q I h
  refine isTrue_or (thn (ha pins s σ H Q I h) fun c s1 e => ?_)
  cases c with
  | false => exact isTrue_or_nil e
  | true => exact e
theorem qjG (ha : PT X a tA) (hb : PW X (.BoolOp .And (b :: rest) pos) tB') : PW X (.BoolOp .And (a :: b :: rest) pos) (qpR tA tB') := by
  intro wh pins s σ H Q I h
  refine isTrue_and (thn (ha pins s σ H _ I h) fun c s1 ⟨H1, I1, q1⟩ => ?_)
  cases c with
  | true => exact hb wh pins s1 σ H1 Q I1 q1
  | false => exact ⟨H1, I1, q1⟩
theorem qma (ha : PT X a tA) (hb : PW X (.BoolOp .Or (b :: rest) pos) tB') : PW X (.BoolOp .Or (a :: b :: rest) pos) (tOr tA tB') := by
  intro wh pins s σ H Q I h
  refine isTrue_or (thn (ha pins s σ H _ I h) fun c s1 ⟨H1, I1, q1⟩ => ?_)
  cases c with
  | true => exact ⟨H1, I1, q1⟩
  | false => exact hb wh pins s1 σ H1 Q I1 q1
theorem qmR (ha : PT X a tA) : PT X (.UnaryOp .Not a pos) (qrp tA) := by
  intro pins s σ H Q I h
  exact isTrue_not (ha pins s σ H (fun c H1 => Q (!c) H1) I h)
noncomputable def qrA (ta tb : TE) : TE := fun σ H Q => ta σ H fun x H1 => ∃ c, x = .bl c ∧ if c = true then tb σ H1 Q else Q (.bl false) H1
noncomputable def qs7 (ta tb : TE) : TE := fun σ H Q => ta σ H fun x H1 => ∃ c, x = .bl c ∧ if c = true then Q (.bl true) H1 else tb σ H1 Q
noncomputable def qrB (ta : TE) : TE := fun σ H Q => ta σ H fun x H1 => ∃ c, x = .bl c ∧ Q (.bl (!c)) H1
noncomputable def tIf (t : TT) (ta tb : TE) : TE := fun σ H Q => t σ H fun c H1 => if c = true then ta σ H1 Q else tb σ H1 Q
theorem qgv {c : Expr} (hc : PT X c tA) (ha : PE X a ta) (hb : PE X b tb) : PE X (.IfExp c a b pos) (tIf tA ta tb) := by
  intro pins s σ H Q I h
  refine wpAny_IfExp (thn (hc pins s σ H _ I h) fun d s1 ⟨H1, I1, q1⟩ => ?_)
  cases d with
  | true => exact ha pins s1 σ H1 Q I1 q1
  | false => exact hb pins s1 σ H1 Q I1 q1
end
end L2
namespace L2
open PySem PySem.Spec PyProof.Rows
noncomputable def SqL (K : PySem.W.Frag) (H : Hp) (a : Addr) (xs : List V) : Prop :=
  Rd H a (.lst xs) ∨
    ∃ (o : Obj) (its : Array Value) (n : Nat), K.lookup a = some o ∧ o.cls = .type "list" ∧ o.dict = none ∧ o.data = .seq its n ∧ its.size ≤ sizeLine ∧ Vals xs its.toList
noncomputable def SqT (K : PySem.W.Frag) (H : Hp) (a : Addr) (xs : List V) : Prop :=
  Rd H a (.tup xs) ∨
    ∃ (o : Obj) (its : Array Value) (n : Nat), K.lookup a = some o ∧ o.cls = .type "tuple" ∧ o.data = .seq its n ∧ its.size ≤ sizeLine ∧ Vals xs its.toList
noncomputable def qtp : Value → Option V
  | .none => some .non
  | .bool b => some (.bl b)
  | .int i _ => some (.int i)
  | .str x _ => some (.str x)
  | .bytes b _ => some (.byt b)
  | .float b _ => some (.flt b)
  | .ref a => some (.ref a)
  | .type n => some (.ty n)
  | _ => none
theorem RelV.abs {x : V} {u : Value} (r : RelV x u) : qtp u = some x := by
  cases x with
  | non => cases r; rfl
  | bl _ => cases r; rfl
  | int _ => obtain ⟨t, rfl⟩ := r; rfl
  | str _ => obtain ⟨t, rfl⟩ := r; rfl
  | byt _ => obtain ⟨t, rfl⟩ := r; rfl
  | flt _ => obtain ⟨t, rfl⟩ := r; rfl
  | ref _ => cases r; rfl
  | ty _ => cases r; rfl
theorem RelV.inj {x y : V} {u : Value} (r : RelV x u) (q : RelV y u) : x = y := Option.some.inj (r.abs.symm.trans q.abs)
theorem Vals.inj : ∀ {xs ys : List V} {us : List Value}, Vals xs us → Vals ys us → xs = ys
  | _, _, _, .nil, .nil => rfl
  | _, _, _, .cons r t, .cons r' t' => by rw [r.inj r', Vals.inj t t']
section
variable {X : Cx} {pins : List (Addr × Obj)} {σ : St} {H : Hp} {s : Shared} {a : Addr} {xs ys : List V}
theorem SqL.of {K : PySem.W.Frag} (h : H a = some (.lst xs)) : SqL K H a xs := .inl (.inl h)
theorem SqT.of {K : PySem.W.Frag} (h : H a = some (.tup xs)) : SqT K H a xs := .inl (.inl h)
theorem Inv.list (I : Inv X pins σ H s) (h : SqL X.K H a xs) : ∃ its : List Value, Vals xs its ∧ PlainL s.heap a its.toArray ∧ xs.length ≤ sizeLine := by
  rcases h with h | ⟨o, its, n, hk, hc, hd, hs, hz, r⟩
  · obtain ⟨z, its, n, r, e⟩ := h.ok I.hok
    exact ⟨its, r, ⟨_, n, e, rfl, rfl, rfl⟩, z⟩
  · refine ⟨its.toList, r, ⟨o, n, I.kIn a o hk, hc, hd, by simpa using hs⟩, ?_⟩
    have e := r.length
    simp only [Array.length_toList] at e
    omega
theorem Inv.tuple (I : Inv X pins σ H s) (h : SqT X.K H a xs) : ∃ its : List Value, Vals xs its ∧ IsTup s.heap a its.toArray ∧ xs.length ≤ sizeLine := by
  rcases h with h | ⟨o, its, n, hk, hc, hs, hz, r⟩
  · obtain ⟨z, its, r, p⟩ := h.ok I.hok
    exact ⟨its, r, p, z⟩
  · refine ⟨its.toList, r, ⟨o, I.kIn a o hk, hc, n, by simpa using hs⟩, ?_⟩
    have e := r.length
    simp only [Array.length_toList] at e
    omega
theorem Inv.list_inj (I : Inv X pins σ H s) (h : SqL X.K H a xs) (h' : SqL X.K H a ys) : xs = ys := by
  obtain ⟨its, r, ⟨o, n, e, _, _, d⟩, _⟩ := I.list h
  obtain ⟨its', r', ⟨o', n', e', _, _, d'⟩, _⟩ := I.list h'
  rw [e] at e'; cases e'
  rw [d] at d'
  injection d' with d1 _
  have : its = its' := by simpa using congrArg Array.toList d1
  subst this
  exact r.inj r'
theorem Inv.tuple_inj (I : Inv X pins σ H s) (h : SqT X.K H a xs) (h' : SqT X.K H a ys) : xs = ys := by
  obtain ⟨its, r, ⟨o, e, _, n, d⟩, _⟩ := I.tuple h
  obtain ⟨its', r', ⟨o', e', _, n', d'⟩, _⟩ := I.tuple h'
  rw [e] at e'; cases e'
  rw [d] at d'
  injection d' with d1 _
  have : its = its' := by simpa using congrArg Array.toList d1
  subst this
  exact r.inj r'
end
noncomputable abbrev Cx.wish (X : Cx) (E : Value → Shared → Prop) : Cx := { X with xe := E }
noncomputable abbrev Cx.nox (X : Cx) : Cx := X.wish fun _ _ => False
theorem Cx.Ok.wish {X : Cx} (ok : X.Ok) (E : Value → Shared → Prop) : (X.wish E).Ok :=
  ⟨ok.mod, ok.kind, ok.glob, ok.blt, ok.above, ok.inj, ok.has, ok.cab, ok.hd, ok.frames, ok.stk, ok.exf, ok.bs, ok.bsz, ok.noex, ok.exfs, ok.funs, ok.frf, ok.seer, ok.tree, ok.plr⟩
theorem Cx.Ok.unwish {X : Cx} {E : Value → Shared → Prop} (ok : (X.wish E).Ok) : X.Ok :=
  ⟨ok.mod, ok.kind, ok.glob, ok.blt, ok.above, ok.inj, ok.has, ok.cab, ok.hd, ok.frames, ok.stk, ok.exf, ok.bs, ok.bsz, ok.noex, ok.exfs, ok.funs, ok.frf, ok.seer, ok.tree, ok.plr⟩
section
variable {X : Cx} {pins : List (Addr × Obj)} {σ : St} {H : Hp} {s : Shared} {E : Value → Shared → Prop}
theorem Inv.wish (I : Inv X pins σ H s) (E : Value → Shared → Prop) : Inv (X.wish E) pins σ H s := ⟨I.ok.wish E, I.os, I.bare, I.base, I.loc, I.cell, I.free, I.freeC, I.pin, I.hok, I.len⟩
theorem Inv.unwish (I : Inv (X.wish E) pins σ H s) : Inv X pins σ H s := ⟨I.ok.unwish, I.os, I.bare, I.base, I.loc, I.cell, I.free, I.freeC, I.pin, I.hok, I.len⟩
theorem SP.unwish {D : Ends} {f : Flow} {s' : Shared} (h : SP (X.wish E) pins D f s') : SP X pins D f s' := by
  cases f with
  | next => obtain ⟨σ', H', I, q⟩ := h; exact ⟨σ', H', I.unwish, q⟩
  | brk => obtain ⟨σ', H', I, q⟩ := h; exact ⟨σ', H', I.unwish, q⟩
  | cont => obtain ⟨σ', H', I, q⟩ := h; exact ⟨σ', H', I.unwish, q⟩
  | ret u => obtain ⟨v, σ', H', I, r, q⟩ := h; exact ⟨v, σ', H', I.unwish, r, q⟩
theorem PE.nox {e : Expr} {t : TE} (h : PE X.nox e t) : PE X e t := fun pins s σ H Q I hw =>
  wpAny_mono (h pins s σ H Q (I.wish _) hw) (fun _ _ ⟨v, H', I', r, q⟩ => ⟨v, H', I'.unwish, r, q⟩) fun _ _ z => False.elim z
theorem PT.nox {e : Expr} {t : TT} (h : PT X.nox e t) : PT X e t := fun pins s σ H Q I hw =>
  wpAny_mono (h pins s σ H Q (I.wish _) hw) (fun _ _ ⟨H', I', q⟩ => ⟨H', I'.unwish, q⟩) fun _ _ z => False.elim z
theorem PSs.nox {st : List Stmt} {t : TS} (h : PSs X.nox st t) : PSs X st t := fun pins s σ H D I hw =>
  wpAny_mono (h pins s σ H D (I.wish _) hw) (fun _ _ q => q.unwish) fun _ _ z => False.elim z
end
section
variable {X : Cx} {st : Stmt} {rest : List Stmt} {t u : TS} {e : Expr} {te : TE} {pos : Pos}
noncomputable def qbW : TS := fun D σ H => D.nx σ H
noncomputable def qaN (t u : TS) : TS := fun D σ H => t { D with nx := u D } σ H
theorem qa0 : PSs X [] qbW := fun _ _ σ H _ I h => wpAny_execs_nil ⟨σ, H, I, h⟩
theorem qae (h1 : PS X st t) (h2 : PSs X rest u) : PSs X (st :: rest) (qaN t u) := by
  intro pins s σ H D I h
  refine wpAny_execs_cons (thn (h1 pins s σ H { D with nx := u D } I h) fun f s1 q => ?_)
  cases f with
  | next =>
    obtain ⟨σ', H', I', q⟩ := q
    exact h2 pins s1 σ' H' D I' q
  | ret v => exact q
  | brk => exact q
  | cont => exact q
theorem qah (h1 : PS X st t) : PSs X [st] t := by
  intro pins s σ H D I h
  refine wpAny_execs_cons (thn (h1 pins s σ H D I h) fun f s1 q => ?_)
  cases f with
  | next => exact wpAny_execs_nil q
  | ret v => exact q
  | brk => exact q
  | cont => exact q
theorem Inv.quiet {pins : List (Addr × Obj)} {σ : St} {H : Hp} {s : Shared} (I : Inv X pins σ H s) : interactive X.env = false := by simp [interactive, I.ok.kind]
noncomputable def qoX (te : TE) : TS := fun D σ H => te σ H fun _ H1 => D.nx σ H1
theorem qqn (he : PE X e te) (hs : swapsWith e none pos.line X.env = pure false := by rfl) : PS X (.Expr e pos) (qoX te) := by
  intro pins s σ H D I h
  exact wpAny_Expr_any (thn (he pins s σ H _ I h) fun v s1 ⟨x, H1, I1, r1, q1⟩ => ⟨σ, H1, I1, q1⟩) I.quiet hs
noncomputable def qbH (te : TE) : TS := fun D σ H => te σ H D.rt
theorem qay (he : PE X e te) : PS X (.Return (some e) pos) (qbH te) := by
  intro pins s σ H D I h
  exact wpAny_Return_some (thn (he pins s σ H _ I h) fun v s1 ⟨x, H1, I1, r1, q1⟩ => ⟨x, σ, H1, I1, r1, q1⟩)
noncomputable def qeP (c : TT) (t u : TS) : TS := fun D σ H => c σ H fun b H1 => if b = true then t D σ H1 else u D σ H1
theorem qb5 {c : Expr} {a b : List Stmt} {tc : TT} (hc : PT X c tc) (ha : PSs X a t) (hb : PSs X b u) : PS X (.If c a b pos) (qeP tc t u) := by
  intro pins s σ H D I h
  refine wpAny_If (thn (hc pins s σ H _ I h) fun d s1 ⟨H1, I1, q1⟩ => ?_)
  cases d with
  | true => exact ha pins s1 σ H1 D I1 q1
  | false => exact hb pins s1 σ H1 D I1 q1
end
noncomputable abbrev TG := V → St → Hp → (St → Hp → Prop) → Prop
noncomputable abbrev TGs := List V → St → Hp → (St → Hp → Prop) → Prop
noncomputable def PG (X : Cx) (target : Expr) (t : TG) : Prop :=
  ∀ (pins : List (Addr × Obj)) (s : Shared) (σ : St) (H : Hp) (v : V) (u : Value) (Q : St → Hp → Prop), Inv X pins σ H s → RelV v u → t v σ H Q →
    wpAny (model X.prog X.w) X.A (assign target X.env u) (fun _ s' => ∃ σ' H', Inv X pins σ' H' s' ∧ Q σ' H') X.xe s
noncomputable def PGs (X : Cx) (ts : List Expr) (t : TGs) : Prop :=
  ∀ (pins : List (Addr × Obj)) (s : Shared) (σ : St) (H : Hp) (vs : List V) (us : List Value) (Q : St → Hp → Prop), Inv X pins σ H s → Vals vs us → t vs σ H Q →
    wpAny (model X.prog X.w) X.A (assignInOrder ((assignEach ts X.env).map (·.2)) us) (fun _ s' => ∃ σ' H', Inv X pins σ' H' s' ∧ Q σ' H') X.xe s
noncomputable abbrev TSet := V → V → V → Hp → (Hp → Prop) → Prop
noncomputable def PSet (X : Cx) (t : TSet) : Prop :=
  ∀ (pins : List (Addr × Obj)) (s : Shared) (σ : St) (H : Hp) (o i v : V) (ov iv u : Value) (Q : Hp → Prop), Inv X pins σ H s → RelV o ov → RelV i iv → RelV v u → t o i v H Q →
    wpAny (model X.prog X.w) X.A (setItem ov iv u) (fun _ s' => ∃ H', Inv X pins σ H' s' ∧ Q H') X.xe s
noncomputable abbrev TIp := V → V → Hp → VK → Prop
noncomputable def PIp (X : Cx) (op : Operator) (t : TIp) : Prop :=
  ∀ (pins : List (Addr × Obj)) (s : Shared) (σ : St) (H : Hp) (x y : V) (v u : Value) (Q : VK), Inv X pins σ H s → RelV x v → RelV y u → t x y H Q →
    wpAny (model X.prog X.w) X.A (inplaceOp op v u) (EP X pins σ Q) X.xe s
section
variable {X : Cx} {pos : Pos}
noncomputable def qaq (i : Nat) : TG := fun v σ H Q => Q (σ.set i (some v)) H
theorem qaT {i : Nat} {x : Str} (hN : X.N.Nodup) (hi : X.N[i]? = some x) (hx : Loc X.env.scope x) (hf : X.fn x = true ∨ X.env.scope.names.lookup x = some .local := by first | exact .inl rfl | exact .inr rfl | assumption) : PG X (.Name x pos) (qaq i) := by
  intro pins s σ H v u Q I r h
  exact wpAny_assign_Name (qiF I hN hi hx r (fun s' I' => ⟨_, H, I', h⟩) hf)
noncomputable def qqo : TGs := fun vs σ H Q => vs = [] ∧ Q σ H
noncomputable def qgK (t : TG) (u : TGs) : TGs := fun vs σ H Q => ∃ v r, vs = v :: r ∧ t v σ H fun σ' H' => u r σ' H' Q
theorem qiG : PGs X [] qqo := by
  intro pins s σ H vs us Q I r h
  obtain ⟨e, h⟩ := h
  subst e
  cases r
  exact assignInOrder_nil ⟨σ, H, I, h⟩
theorem qc8 {e : Expr} {es : List Expr} {t : TG} {u : TGs} (h1 : PG X e t) (h2 : PGs X es u)
    (hs : (assignEach (e :: es) X.env).map (·.2) = assign e X.env :: (assignEach es X.env).map (·.2) := by rfl) : PGs X (e :: es) (qgK t u) := by
  intro pins s σ H vs us Q I r h
  obtain ⟨v, vr, e1, h⟩ := h
  subst e1
  cases r with
  | cons r rr =>
    rw [hs]
    refine assignInOrder_cons (thn (h1 pins s σ H _ _ _ I r h) fun _ s1 ⟨σ1, H1, I1, q1⟩ => ?_)
    exact h2 pins s1 σ1 H1 _ _ Q I1 rr q1
noncomputable def qtq (K : PySem.W.Frag) (n : Nat) (t : TGs) : TG := fun v σ H Q => ∃ a xs, v = .ref a ∧ SqT K H a xs ∧ xs.length = n ∧ t xs σ H Q
theorem qrC {es : List Expr} {k : Nat} {t : TGs} {n : Nat} (hc : X.calm = true) (h : PGs X es t)
    (hn : (assignEach es X.env).length = n := by rfl) (hst : (assignEach es X.env).findIdx? (·.1) = none := by rfl) : PG X (.Tuple es k pos) (qtq X.K n t) := by
  intro pins s σ H v u Q I r hw
  obtain ⟨a, xs, e1, hq, hl, hw⟩ := hw
  subst e1
  cases r
  obtain ⟨its, rv, ht, hz⟩ := I.tuple hq
  refine assign_Tuple_tuple (I.ok.hd hc) ht (by simp [hn, ← hl, rv.length]) hst fun h' hx => ?_
  have I1 : Inv X pins σ H { s with heap := h' } := I.kept (t' := s.toks) fun b o e => hx b o (Nat.ne_of_lt (Heap.lt_size e)) e
  exact h pins _ σ H xs _ Q I1 (by simpa using rv) hw
noncomputable def qqp (to ti : TE) (t : TSet) : TG := fun v σ H Q => to σ H fun o H1 => ti σ H1 fun i H2 => t o i v H2 fun H3 => Q σ H3
theorem qln {o i : Expr} {to ti : TE} {t : TSet} (ho : PE X o to) (hi : PE X i ti) (hs : PSet X t)
    (ha : ∀ v, assign (.Subscript o i pos) X.env v = (do
      let ov ← holding [v] (eval o X.env)
      let iv ← holding [v, ov] (eval i X.env)
      standAt pos
      holding [v, ov, iv] (setItem ov iv v)
      release [v, ov, iv] []) := by intro _; rfl) : PG X (.Subscript o i pos) (qqp to ti t) := by
  intro pins s σ H v u Q I r h
  rw [ha]
  refine wpAny_bind (wpAny_holding (thn (ho pins s σ H _ I h) fun ov s1 ⟨x, H1, I1, r1, q1⟩ => ?_))
  refine wpAny_bind (wpAny_holding (thn (hi pins s1 σ H1 _ I1 q1) fun iv s2 ⟨y, H2, I2, r2, q2⟩ => ?_))
  refine wpAny_bind (wpAny_standAt (wpAny_bind (wpAny_holding (thn (hs pins s2 σ H2 x y v ov iv u _ I2 r1 r2 r q2) fun _ s3 ⟨H3, I3, q3⟩ => ?_))))
  exact wpAny_release ⟨σ, H3, I3, q3⟩
noncomputable def qa7 (te : TE) (g : TG) : TS := fun D σ H => te σ H fun x H1 => g x σ H1 D.nx
theorem qlo {tg e : Expr} {te : TE} {g : TG} (he : PE X e te) (hg : PG X tg g) (hs : swapsWithSole [tg] e pos.line X.env = pure false := by rfl) (hw : swappedStores [tg] e X.env = pure none := by rfl)
    (h1 : (assignEach [tg] X.env).map (·.2) = [assign tg X.env] := by rfl) : PS X (.Assign [tg] e pos) (qa7 te g) := by
  intro pins s σ H D I h
  refine wpAny_Assign_stores (thn (he pins s σ H _ I h) fun v s1 ⟨x, H1, I1, r1, q1⟩ => ?_) hs hw
  rw [h1]
  exact thn (hg pins s1 σ H1 x v _ I1 r1 q1) fun _ s2 q => q
theorem qal {i : Nat} {x : Str} {e : Expr} {te : TE} {pos' : Pos} (hN : X.N.Nodup) (hi : X.N[i]? = some x) (hx : Loc X.env.scope x) (he : PE X e te) (hs : swapsWith e (some (.Name x pos')) pos.line X.env = pure false := by rfl) (hf : X.fn x = true ∨ X.env.scope.names.lookup x = some .local := by first | exact .inl rfl | exact .inr rfl | assumption) :
    PS X (.Assign [.Name x pos'] e pos) (qa7 te (qaq i)) := by
  intro pins s σ H D I h
  refine wpAny_Assign_Name (thn (he pins s σ H _ I h) fun v s1 ⟨y, H1, I1, r1, q1⟩ => ?_) hs
  exact qiF I1 hN hi hx r1 (fun s2 I2 => ⟨_, H1, I2, q1⟩) hf
noncomputable def qs8 (i j : Nat) (ta : TA) : TS := fun D σ H => ta σ H fun vs H1 => ∃ v w, vs = [v, w] ∧ D.nx ((σ.set i (some v)).set j (some w)) H1
noncomputable def qmS (i : Nat) (te : TE) (ti : TIp) : TS := fun D σ H => ∃ x, σ[i]? = some (some x) ∧ te σ H fun y H1 => ti x y H1 fun z H2 => D.nx (σ.set i (some z)) H2
theorem qf9 {i : Nat} {x : Str} {e : Expr} {te : TE} {op : Operator} {ti : TIp} {pos' : Pos} (hN : X.N.Nodup) (hi : X.N[i]? = some x) (hx : Loc X.env.scope x) (he : PE X e te) (ho : PIp X op ti) (hf : X.fn x = true ∨ X.env.scope.names.lookup x = some .local := by first | exact .inl rfl | exact .inr rfl | assumption) :
    PS X (.AugAssign (.Name x pos') op e pos) (qmS i te ti) := by
  intro pins s σ H D I h
  obtain ⟨v, e1, h⟩ := h
  obtain ⟨m, hn, hl⟩ := I.loc
  have vis : Vis X.env.scope x := by rcases hx with k | k; exact .inl k; exact .inr (.inl k)
  obtain ⟨u, r, l⟩ := hl i x v hi e1 vis
  refine wpAny_AugAssign_Name ?_
  have go : wpAny (model X.prog X.w) X.A (eval e X.env) (fun w s₂ => wpAny (model X.prog X.w) X.A (inplaceOp op u w) (fun r s₃ => wpAny (model X.prog X.w) X.A (storeName X.env x r) (fun _ => SP X pins D .next) X.xe s₃) X.xe s₂) X.xe s := by
    refine thn (he pins s σ H _ I h) fun w s1 ⟨y, H1, I1, r1, q1⟩ => ?_
    refine thn (ho pins s1 σ H1 v y u w _ I1 r r1 q1) fun z s2 ⟨zv, H2, I2, r2, q2⟩ => ?_
    exact qiF I2 hN hi hx r2 (fun s3 I3 => ⟨_, H2, I3, q2⟩) hf
  rcases l with ⟨hk, hm⟩ | ⟨hk, c, hc, hcell⟩
  · exact wpAny_loadName_local I.ok.kind hk hn hm go
  · rcases hk with hk | hk
    · exact wpAny_loadName_cell I.ok.kind hk hc hcell go
    · rcases hx with k | k
      · have : X.env.scope.names.lookup x = some .free := hk
        rw [k] at this; cases this
      · have : X.env.scope.names.lookup x = some .free := hk
        rw [k] at this; cases this
noncomputable def qkx (to ti te : TE) (tget : V → V → Hp → VK → Prop) (tip : TIp) (tset : TSet) : TS := fun D σ H => to σ H fun o H1 => ti σ H1 fun i H2 => tget o i H2 fun x H3 => te σ H3 fun y H4 => tip x y H4 fun z H5 => tset o i z H5 fun H6 => D.nx σ H6
noncomputable def PGet (X : Cx) (t : V → V → Hp → VK → Prop) : Prop :=
  ∀ (pins : List (Addr × Obj)) (s : Shared) (σ : St) (H : Hp) (o i : V) (ov iv : Value) (Q : VK), Inv X pins σ H s → RelV o ov → RelV i iv → t o i H Q →
    wpAny (model X.prog X.w) X.A (getItem ov iv) (EP X pins σ Q) X.xe s
theorem qiH {o i e : Expr} {to ti te : TE} {tget : V → V → Hp → VK → Prop} {tip : TIp} {tset : TSet} {op : Operator} {tpos : Pos} (ho : PE X o to) (hi : PE X i ti) (hg : PGet X tget) (he : PE X e te) (hp : PIp X op tip) (hs : PSet X tset)
    (ha : ∀ ov iv new, augStore i ov iv new = (do holding [new, ov, iv] (setItem ov iv new); release [new, ov, iv] []; pure .next) := by intros; rfl) : PS X (.AugAssign (.Subscript o i tpos) op e pos) (qkx to ti te tget tip tset) := by
  intro pins s σ H D I h
  refine wpAny_AugAssign_SubscriptAny (thn (ho pins s σ H _ I h) fun ov s1 ⟨x1, H1, I1, r1, q1⟩ => ?_) ha
  refine thn (hi pins s1 σ H1 _ I1 q1) fun iv s2 ⟨x2, H2, I2, r2, q2⟩ => ?_
  refine thn (hg pins s2 σ H2 x1 x2 ov iv _ I2 r1 r2 q2) fun old s3 ⟨x3, H3, I3, r3, q3⟩ => ?_
  refine thn (he pins s3 σ H3 _ I3 q3) fun v s4 ⟨x4, H4, I4, r4, q4⟩ => ?_
  refine thn (hp pins s4 σ H4 x3 x4 old v _ I4 r3 r4 q4) fun new s5 ⟨x5, H5, I5, r5, q5⟩ => ?_
  exact thn (hs pins s5 σ H5 x1 x2 x5 ov iv new _ I5 r1 r2 r5 q5) fun _ s6 ⟨H6, I6, q6⟩ => ⟨σ, H6, I6, q6⟩
end
section
variable {X : Cx} {pos : Pos}
noncomputable def qdZ (c : TT) (tb : TS) : TS := fun D σ H => ∃ W : Nat → St → Hp → Prop, (∃ m, W m σ H) ∧ ∀ m σ H, W m σ H →
  c σ H fun b H1 => if b = true then ∃ N : St → Hp → Prop, (∀ σ' H', N σ' H' → ∃ m', m' < m ∧ W m' σ' H') ∧ tb { D with nx := N, ct := N, bk := D.nx } σ H1 else D.nx σ H1
theorem qcF {c : Expr} {body : List Stmt} {tc : TT} {tb : TS} (hp : PassesOwn (model X.prog X.w) X.A X.env X.xe) (hc : PT X c tc) (hb : PSs X body tb) : PS X (.While c body [] pos) (qdZ tc tb) := by
  intro pins s σ H D I h
  obtain ⟨W, ⟨m0, w0⟩, turn⟩ := h
  refine wpAny_While (codeAny_whileLoop (fun n s' => ∃ σ' H', Inv X pins σ' H' s' ∧ W n σ' H') ?_ m0 ⟨σ, H, I, w0⟩)
  rintro n s1 ⟨σ1, H1, I1, w1⟩
  refine wpAny_passesOwn hp (thn (hc pins s1 σ1 H1 _ I1 (turn n σ1 H1 w1)) fun b s2 ⟨H2, I2, q2⟩ => ?_)
  cases b with
  | true =>
    obtain ⟨N, hN, q2⟩ := q2
    rw [if_pos rfl]
    refine wpAny_passesOwn hp (thn (hb pins s2 σ1 H2 _ I2 q2) fun f s3 q3 => ?_)
    cases f with
    | next =>
      obtain ⟨σ3, H3, I3, n3⟩ := q3
      obtain ⟨m', hm, w3⟩ := hN σ3 H3 n3
      exact ⟨m', hm, σ3, H3, I3, w3⟩
    | cont =>
      obtain ⟨σ3, H3, I3, n3⟩ := q3
      obtain ⟨m', hm, w3⟩ := hN σ3 H3 n3
      exact ⟨m', hm, σ3, H3, I3, w3⟩
    | brk => exact q3
    | ret v => exact q3
  | false =>
    rw [if_neg Bool.false_ne_true]
    exact wpAny_execs_nil ⟨σ1, H2, I2, q2⟩
end
structure It where
  go : Nat → Hp → Prop
  yld : Nat → Hp → V → Hp → Prop
  stop : Nat → Hp → Prop
noncomputable def qky (X : Cx) (pins : List (Addr × Obj)) (H : Hp) (b : Addr) : Prop :=
  H b = none ∧ b ≠ X.env.locals ∧ b ∉ X.fs ∧ (b ∈ X.ex ∨ X.s₀.heap.objs.size ≤ b) ∧ (∀ x c, X.env.cells.lookup x = some c → c ≠ b) ∧ ∀ p ∈ X.pn ++ pins, p.1 ≠ b
theorem Inv.fpOk {X : Cx} {pins : List (Addr × Obj)} {σ : St} {H H' : Hp} {s : Shared} {b : Addr} (I : Inv X pins σ H s) (hb : s.heap.objs.size ≤ b) (hn : H' b = none) : qky X pins H' b := by
  refine ⟨hn, Nat.ne_of_gt (Nat.lt_of_lt_of_le I.lt hb), I.nofs hb, .inr (Nat.le_trans I.sz hb), fun x c e z => ?_, fun p hp z => ?_⟩
  · obtain ⟨v, q⟩ := I.cell x c e
    exact absurd (Nat.lt_of_lt_of_le q.lt (by rw [z]; exact hb)) (Nat.lt_irrefl _)
  · exact absurd (Nat.lt_of_lt_of_le (Heap.lt_size (I.pin p hp).1) (by rw [z]; exact hb)) (Nat.lt_irrefl _)
structure Turn (P : Program) (w : World) (K : PySem.W.Frag) (tg : Expr) (J : It) (fp : List Addr) (it : Addr) (tn : Nat → Heap → Prop) : Prop where
  mem : it ∈ fp
  obj : ∀ i h, tn i h → ∀ b ∈ fp, ∃ o, h.get? b = some o ∧ ∀ v, o.data ≠ .cell v
  keep : ∀ i h h', tn i h → (∀ b ∈ fp, ∀ o, h.get? b = some o → h'.get? b = some o) → tn i h'
  item : ∀ (X : Cx), X.prog = P → X.w = w → X.K = K → X.calm = true → ∀ (i : Nat) (pins : List (Addr × Obj)) (s : Shared) (σ : St) (H : Hp) (E : Value → Shared → Prop), Inv X pins σ H s → (∀ b ∈ fp, qky X pins H b) → tn i s.heap → J.go i H →
    wpAny (model P w) X.A (pyNext (.ref it)) (fun r s1 => ∃ u, r = some u ∧
      wpAny (model P w) X.A (letOwnedTupleGo tg (.ref it) u) (fun _ s2 => ∃ x H', Inv X pins σ H' s2 ∧ RelV x u ∧ J.yld i H x H' ∧ tn (i + 1) s2.heap ∧ ∀ b ∈ fp, H' b = none) E s1) E s
  done : ∀ (X : Cx), X.prog = P → X.w = w → X.K = K → X.calm = true → ∀ (i : Nat) (pins : List (Addr × Obj)) (s : Shared) (σ : St) (H : Hp) (E : Value → Shared → Prop), Inv X pins σ H s → (∀ b ∈ fp, qky X pins H b) → tn i s.heap → J.stop i H →
    wpAny (model P w) X.A (pyNext (.ref it)) (fun r s1 => r = none ∧ Inv X pins σ H s1) E s
  self : ∀ (A : Around) (i : Nat) (s : Shared) (Q : Value → Shared → Prop) (E : Value → Shared → Prop), tn i s.heap → Q (.ref it) s → wpAny (model P w) A (pyIter (.ref it)) Q E s
noncomputable abbrev TI := St → Hp → (It → Hp → Prop) → Prop
noncomputable def PIE (X : Cx) (pins : List (Addr × Obj)) (σ : St) (tg : Expr) (R : It → Hp → Prop) (itv : Value) (s2 : Shared) : Prop :=
  ∃ (it : Addr) (fp : List Addr) (tn : Nat → Heap → Prop) (J : It) (H' : Hp), itv = .ref it ∧ Inv X pins σ H' s2 ∧ Turn X.prog X.w X.K tg J fp it tn ∧ tn 0 s2.heap ∧ (∀ b ∈ fp, qky X pins H' b) ∧ R J H'
noncomputable def PI (X : Cx) (tg iter : Expr) (wi : TI) : Prop :=
  ∀ (pins : List (Addr × Obj)) (s : Shared) (σ : St) (H : Hp) (R : It → Hp → Prop), Inv X pins σ H s → wi σ H R →
    wpAny (model X.prog X.w) X.A (eval iter X.env) (fun v s1 => wpAny (model X.prog X.w) X.A (pyIter v) (PIE X pins σ tg R) X.xe s1) X.xe s
theorem qoY {M : Model} {A : Around} {E : Value → Shared → Prop} {s : Shared} {tg : Expr} {it : Addr} {u : Value} {o : Obj} {n : String} {vs : Array Value} {Q : Unit → Shared → Prop} (ho : s.heap.get? it = some o) (hc : o.cls = .type n) (hd : o.data = .fields vs)
    (hn : ["enumerate", "zip", "dict_itemiterator", "dict_reverseitemiterator", "odict_iterator", "itertools.zip_longest", "itertools.pairwise"].contains n = false) (hQ : Q () s) : wpAny M A (letOwnedTupleGo tg (.ref it) u) Q E s := by
  unfold letOwnedTupleGo
  cases tg <;> first
    | exact wpAny_pure hQ
    | (cases u <;> first
        | exact wpAny_pure hQ
        | (refine wpAny_bind (wpAny_load ho ?_)
           rw [hc, hd]
           show wpAny M A (if (["enumerate", "zip", "dict_itemiterator", "dict_reverseitemiterator", "odict_iterator", "itertools.zip_longest", "itertools.pairwise"].contains n && vs[0]? == some (rawInt _)) = true then _ else _) Q E s
           rw [if_neg (by intro h; rw [hn, Bool.false_and] at h; cases h)]
           exact wpAny_pure hQ))
noncomputable def Itl (K : PySem.W.Frag) (a : Addr) : It :=
  ⟨fun i H => ∃ xs x, SqL K H a xs ∧ xs[i]? = some x, fun i H x H' => H' = H ∧ ∀ xs, SqL K H a xs → xs[i]? = some x, fun i H => ∃ xs, SqL K H a xs ∧ xs.length ≤ i⟩
noncomputable def Itt (K : PySem.W.Frag) (a : Addr) : It :=
  ⟨fun i H => ∃ xs x, SqT K H a xs ∧ xs[i]? = some x, fun i H x H' => H' = H ∧ ∀ xs, SqT K H a xs → xs[i]? = some x, fun i H => ∃ xs, SqT K H a xs ∧ xs.length ≤ i⟩
noncomputable def Itr (lo : Int) (n : Nat) : It := ⟨fun i _ => i < n, fun i H x H' => H' = H ∧ x = .int (lo + i), fun i _ => n ≤ i⟩
theorem qmT {P : Program} {w : World} {K : PySem.W.Frag} {tg : Expr} (a it : Addr) : Turn P w K tg (Itl K a) [it] it (fun i h => h.IsListIter it a i) where
  mem := by simp
  obj := fun i h st b hb => by
    have e : b = it := by simpa using hb
    subst e
    obtain ⟨o, e, c, d⟩ := st
    exact ⟨o, e, fun v z => by rw [d] at z; cases z⟩
  keep := fun i h h' st k => st.at fun o e => k it (by simp) o e
  item := by
    intro X hP hw hK hc i pins s σ H E I hf st hg
    subst hP hw hK
    obtain ⟨xs, x, hq, hx⟩ := hg
    obtain ⟨its, rv, p, hz⟩ := I.list hq
    obtain ⟨u, hu, ru⟩ := rv.get hx
    obtain ⟨f0, f1, f2, f3, f4, f5⟩ := hf it (by simp)
    refine wpAny_pyNext_list_item st p.isList (x := u) (by simpa using hu) fun h' st' sb => ?_
    have I1 : Inv X pins σ H { s with heap := h' } := I.turned (t' := s.toks) (fun b o hb e => (sb.2 b hb).trans e) f0 f1 f3 f4 f5
    obtain ⟨o, e, c, d⟩ := id st'
    exact ⟨u, rfl, qoY (s := { s with heap := h' }) e c d (by decide) ⟨x, H, I1, ru, ⟨rfl, fun ys hy => by rw [I.list_inj hy hq]; exact hx⟩, st', fun b hb => (hf b hb).1⟩⟩
  done := by
    intro X hP hw hK hc i pins s σ H E I hf st hg
    subst hP hw hK
    obtain ⟨xs, hq, hx⟩ := hg
    obtain ⟨its, rv, p, hz⟩ := I.list hq
    obtain ⟨f0, f1, f2, f3, f4, f5⟩ := hf it (by simp)
    have hl := rv.length
    exact wpAny_pyNext_list_end (I.ok.hd hc) st p.isList (by simp; omega) fun h' eb => ⟨rfl, I.turned (t' := s.toks) (fun b o hb e => eb b o hb e) f0 f1 f3 f4 f5⟩
  self := fun _ _ _ _ _ st h => wpAny_pyIter_listiter st h
theorem qmb {P : Program} {w : World} {K : PySem.W.Frag} {tg : Expr} (a it : Addr) : Turn P w K tg (Itt K a) [it] it (fun i h => h.IsTupleIter it a i) where
  mem := by simp
  obj := fun i h st b hb => by
    have e : b = it := by simpa using hb
    subst e
    obtain ⟨o, e, c, d⟩ := st
    exact ⟨o, e, fun v z => by rw [d] at z; cases z⟩
  keep := fun i h h' st k => st.at fun o e => k it (by simp) o e
  item := by
    intro X hP hw hK hc i pins s σ H E I hf st hg
    subst hP hw hK
    obtain ⟨xs, x, hq, hx⟩ := hg
    obtain ⟨its, rv, p, hz⟩ := I.tuple hq
    obtain ⟨u, hu, ru⟩ := rv.get hx
    obtain ⟨f0, f1, f2, f3, f4, f5⟩ := hf it (by simp)
    refine wpAny_pyNext_tuple_item st (show s.heap.IsTuple a its.toArray from p) (x := u) (by simpa using hu) fun h' st' sb => ?_
    have I1 : Inv X pins σ H { s with heap := h' } := I.turned (t' := s.toks) (fun b o hb e => (sb.2 b hb).trans e) f0 f1 f3 f4 f5
    obtain ⟨o, e, c, d⟩ := id st'
    exact ⟨u, rfl, qoY (s := { s with heap := h' }) e c d (by decide) ⟨x, H, I1, ru, ⟨rfl, fun ys hy => by rw [I.tuple_inj hy hq]; exact hx⟩, st', fun b hb => (hf b hb).1⟩⟩
  done := by
    intro X hP hw hK hc i pins s σ H E I hf st hg
    subst hP hw hK
    obtain ⟨xs, hq, hx⟩ := hg
    obtain ⟨its, rv, p, hz⟩ := I.tuple hq
    obtain ⟨f0, f1, f2, f3, f4, f5⟩ := hf it (by simp)
    have hl := rv.length
    exact wpAny_pyNext_tuple_end (I.ok.hd hc) st (show s.heap.IsTuple a its.toArray from p) (by simp; omega) fun h' eb => ⟨rfl, I.turned (t' := s.toks) (fun b o hb e => eb b o hb e) f0 f1 f3 f4 f5⟩
  self := fun _ _ _ _ _ st h => wpAny_pyIter_tupleiter st h
theorem qmc {P : Program} {w : World} {K : PySem.W.Frag} {tg : Expr} (it : Addr) (lo : Int) (n : Nat) : Turn P w K tg (Itr lo n) [it] it (fun i h => IsRangeIter h it (lo + (i : Nat) * 1) ((n : Int) - (i : Nat)) 1) where
  mem := by simp
  obj := fun i h st b hb => by
    have e : b = it := by simpa using hb
    subst e
    exact ⟨_, st, fun v z => by
      have z' : Data.fields _ = Data.cell v := z
      cases z'⟩
  keep := fun i h h' st k => k it (by simp) _ st
  item := by
    intro X hP hw hK hc i pins s σ H E I hf st hg
    subst hP hw hK
    obtain ⟨f0, f1, f2, f3, f4, f5⟩ := hf it (by simp)
    have W := Walks.range (prog := X.prog) (w := X.w) (I.ok.hd hc) it lo 1 n
    refine W.item i s _ _ hg st fun v h' tk hv st' kk => ?_
    obtain ⟨t, rfl⟩ := hv
    have I1 : Inv X pins σ H { s with heap := h', toks := tk } := I.turned (fun b o hb e => kk b o (by simpa using hb) e) f0 f1 f3 f4 f5
    refine ⟨_, rfl, qoY (s := { s with heap := h', toks := tk }) (n := "range_iterator") st' rfl rfl (by decide) ⟨.int (lo + i), H, I1, ⟨t, ?_⟩, ⟨rfl, rfl⟩, st', fun b hb => (hf b hb).1⟩⟩
    rw [Int.mul_one]
  done := by
    intro X hP hw hK hc i pins s σ H E I hf st hg
    subst hP hw hK
    obtain ⟨f0, f1, f2, f3, f4, f5⟩ := hf it (by simp)
    exact wpAny_pyNext_range_end (I.ok.hd hc) st (by have : n ≤ i := hg; omega) fun h' eb => ⟨rfl, I.turned (t' := s.toks) (fun b o hb e => eb b o hb e) f0 f1 f3 f4 f5⟩
  self := fun _ _ _ _ _ st h => wpAny_pyIter_rangeiter st h
end L2
namespace L2
open PySem PySem.Spec PyProof.Rows
section
variable {X : Cx} {tg : Expr}
noncomputable def qfl (K : PySem.W.Frag) (tl : TE) : TI := fun σ H R => tl σ H fun x H1 => ∃ a, x = .ref a ∧ (∃ xs, SqL K H1 a xs) ∧ R (Itl K a) H1
noncomputable def qqq (K : PySem.W.Frag) (tl : TE) : TI := fun σ H R => tl σ H fun x H1 => ∃ a, x = .ref a ∧ (∃ xs, SqT K H1 a xs) ∧ R (Itt K a) H1
theorem qdl {l : Expr} {tl : TE} (hl : PE X l tl) : PI X tg l (qfl X.K tl) := by
  intro pins s σ H R I h
  refine thn (hl pins s σ H _ I h) fun v s1 ⟨x, H1, I1, r1, q1⟩ => ?_
  obtain ⟨a, e, ⟨xs, hq⟩, q⟩ := q1
  subst e
  cases r1
  obtain ⟨its, rv, p, hz⟩ := I1.list hq
  refine wpAny_pyIter_list p.isList ?_
  refine ⟨s1.heap.objs.size, [s1.heap.objs.size], _, _, H1, rfl, I1.kept (t' := s1.toks) fun b o e => Heap.get?_push_of_some _ e, qmT a _, ⟨_, Heap.get?_push_size _ rfl, rfl, rfl⟩, fun b hb => ?_, q⟩
  have e : b = s1.heap.objs.size := by simpa using hb
  subst e
  exact I1.fpOk (Nat.le_refl _) (I1.hok.fresh (Nat.le_refl _))
theorem qlp {l : Expr} {tl : TE} (hl : PE X l tl) : PI X tg l (qqq X.K tl) := by
  intro pins s σ H R I h
  refine thn (hl pins s σ H _ I h) fun v s1 ⟨x, H1, I1, r1, q1⟩ => ?_
  obtain ⟨a, e, ⟨xs, hq⟩, q⟩ := q1
  subst e
  cases r1
  obtain ⟨its, rv, p, hz⟩ := I1.tuple hq
  refine wpAny_pyIter_tuple (show s1.heap.IsTuple a its.toArray from p) ?_
  refine ⟨s1.heap.objs.size, [s1.heap.objs.size], _, _, H1, rfl, I1.kept (t' := s1.toks) fun b o e => Heap.get?_push_of_some _ e, qmb a _, ⟨_, Heap.get?_push_size _ rfl, rfl, rfl⟩, fun b hb => ?_, q⟩
  have e : b = s1.heap.objs.size := by simpa using hb
  subst e
  exact I1.fpOk (Nat.le_refl _) (I1.hok.fresh (Nat.le_refl _))
theorem qlq {pins : List (Addr × Obj)} {σ : St} {H : Hp} {s : Shared} {R : It → Hp → Prop} {E : Value → Shared → Prop} {lo hi : Int} {t u v : Tok} {tk : Nat} (I : Inv X pins σ H s) (h1 : -(2 ^ 62) ≤ lo) (h2 : lo < 2 ^ 62) (h3 : -(2 ^ 62) ≤ hi) (h4 : hi < 2 ^ 62)
    (q : R (Itr lo (hi - lo).toNat) H) : wpAny (model X.prog X.w) X.A (pyIter (.ref s.heap.objs.size)) (PIE X pins σ tg R) E { s with heap := s.heap.push { cls := .type "range", data := .fields #[.int lo t, .int hi u, .int 1 v] }, toks := tk } := by
  refine wpAny_pyIter_range (IsRange.new ..) (small_one h1 h2 h3 h4) ?_
  have I1 : Inv X pins σ H { s with heap := s.heap.push { cls := .type "range", data := .fields #[.int lo t, .int hi u, .int 1 v] }, toks := tk } := I.kept fun b o e => Heap.get?_push_of_some _ e
  refine ⟨(s.heap.push { cls := .type "range", data := .fields #[.int lo t, .int hi u, .int 1 v] }).objs.size, [(s.heap.push { cls := .type "range", data := .fields #[.int lo t, .int hi u, .int 1 v] }).objs.size], _, _, H, rfl,
    I1.kept (t' := tk) fun b o e => Heap.get?_push_of_some _ e, qmc _ lo (hi - lo).toNat, ?_, fun b hb => ?_, q⟩
  · have e1 : lo + ((0 : Nat) : Int) * 1 = lo := by simp
    have e2 : (((hi - lo).toNat : Nat) : Int) - ((0 : Nat) : Int) = Builtin.Range.rangeSize lo hi 1 := by rw [rangeSize_one]; split <;> omega
    show IsRangeIter _ _ (lo + ((0 : Nat) : Int) * 1) ((((hi - lo).toNat : Nat) : Int) - ((0 : Nat) : Int)) 1
    rw [e1, e2]
    exact Heap.get?_push_size _ rfl
  · have e : b = (s.heap.push { cls := .type "range", data := .fields #[.int lo t, .int hi u, .int 1 v] }).objs.size := by simpa using hb
    subst e
    exact I1.fpOk (Nat.le_refl _) (I1.hok.fresh (Nat.le_refl _))
noncomputable def qhY (ta : TA) : TI := fun σ H R => ta σ H fun vs H1 => ∃ j : Int, vs = [.int j] ∧ -(2 ^ 62) ≤ j ∧ j < 2 ^ 62 ∧ R (Itr 0 j.toNat) H1
noncomputable def qoZ (ta : TA) : TI := fun σ H R => ta σ H fun vs H1 => ∃ i j : Int, vs = [.int i, .int j] ∧ (-(2 ^ 62) ≤ i ∧ i < 2 ^ 62 ∧ -(2 ^ 62) ≤ j ∧ j < 2 ^ 62) ∧ R (Itr i (j - i).toNat) H1
theorem qcM {a : Expr} {ta : TA} {p pos : Pos} (hg : Gl X "range") (hm : X.mg "range" = none) (ha : PA X [a] ta) (hs : starEach [a] X.env = [(false, eval a X.env)] := by rfl) : PI X tg (.Call (.Name "range" p) [a] [] pos) (qhY ta) := by
  intro pins s σ H R I h
  refine Call_ (qf8 I hg hm boot_range (PyProof.Rows.callWith_type1 (thn (ha pos pins s σ H _ I h) fun us s1 ⟨vs, H1, I1, r1, q1⟩ => ?_) hs rfl))
  obtain ⟨j, e, q1, q2, q⟩ := q1
  subst e
  cases r1 with
  | cons r rr =>
    cases rr
    obtain ⟨t, rfl⟩ := r
    exact call_range_1 (qlq I1 (by omega) (by omega) q1 q2 (by simpa using q))
theorem qmU {a b : Expr} {ta : TA} {p pos : Pos} (hg : Gl X "range") (hm : X.mg "range" = none) (ha : PA X [a, b] ta) (hs : starEach [a, b] X.env = [(false, eval a X.env), (false, eval b X.env)] := by rfl) (hs2 : starEach [b] X.env = [(false, eval b X.env)] := by rfl) :
    PI X tg (.Call (.Name "range" p) [a, b] [] pos) (qoZ ta) := by
  intro pins s σ H R I h
  refine Call_ (qf8 I hg hm boot_range (PyProof.Rows.callWith_type1 (thn (ha pos pins s σ H _ I h) fun us s1 ⟨vs, H1, I1, r1, q1⟩ => ?_) (by rw [hs, hs2]) (by rw [hs2]; rfl)))
  obtain ⟨i, j, e, ⟨q1, q2, q3, q4⟩, q⟩ := q1
  subst e
  cases r1 with
  | cons r rr =>
    cases rr with
    | cons r' rr =>
      cases rr
      obtain ⟨t, rfl⟩ := r
      obtain ⟨t', rfl⟩ := r'
      exact call_range_2 (qlq I1 q1 q2 q3 q4 q)
noncomputable def qhZ (wi : TI) (g : TG) (tb : TS) : TS := fun D σ H => wi σ H fun J H1 => ∃ W : Nat → Nat → St → Hp → Prop, (∃ m, W 0 m σ H1) ∧ ∀ i m σ H, W i m σ H →
  (J.stop i H ∧ D.nx σ H) ∨ (J.go i H ∧ ∃ N : St → Hp → Prop, (∀ σ' H', N σ' H' → ∃ m', m' < m ∧ W (i + 1) m' σ' H') ∧ ∀ x H', J.yld i H x H' → g x σ H' fun σ2 H2 => tb { D with nx := N, ct := N, bk := D.nx } σ2 H2)
noncomputable def qlr (fp : List Addr) (h : Heap) : List (Addr × Obj) := fp.filterMap fun b => (h.get? b).map fun o => (b, o)
theorem qdx {fp : List Addr} {h : Heap} {b : Addr} {o : Obj} (hb : b ∈ fp) (e : h.get? b = some o) : (b, o) ∈ qlr fp h := List.mem_filterMap.mpr ⟨b, hb, by rw [e]; rfl⟩
theorem qmV {fp : List Addr} {h : Heap} {p : Addr × Obj} (hp : p ∈ qlr fp h) : p.1 ∈ fp ∧ h.get? p.1 = some p.2 := by
  obtain ⟨b, hb, e⟩ := List.mem_filterMap.mp hp
  cases q : h.get? b with
  | none => rw [q] at e; cases e
  | some o =>
    rw [q] at e
    have e' : (b, o) = p := Option.some.inj e
    subst e'
    exact ⟨hb, q⟩
theorem Inv.pinned {pins : List (Addr × Obj)} {σ : St} {H : Hp} {s : Shared} {fp : List Addr} (I : Inv X pins σ H s) (hf : ∀ b ∈ fp, qky X pins H b) (ho : ∀ b ∈ fp, ∃ o, s.heap.get? b = some o ∧ ∀ v, o.data ≠ .cell v) : Inv X (pins ++ qlr fp s.heap) σ H s :=
  I.pins_of fun p hp => (List.mem_append.mp hp).elim (fun z => I.pin p (List.mem_append_right _ z)) fun z => by
    obtain ⟨hb, e⟩ := qmV z
    obtain ⟨f0, f1, f2, _⟩ := hf p.1 hb
    obtain ⟨o, e', d⟩ := ho p.1 hb
    rw [e] at e'; cases e'
    exact ⟨e, f0, f1, f2, d⟩
theorem Inv.unpinned {pins pl : List (Addr × Obj)} {σ : St} {H : Hp} {s : Shared} (I : Inv X (pins ++ pl) σ H s) : Inv X pins σ H s := I.pins_of fun p hp => I.pin p (List.mem_append_right _ (List.mem_append_left _ hp))
theorem qd0 {iter : Expr} {body : List Stmt} {wi : TI} {g : TG} {tb : TS} {pos : Pos} (hp : PassesOwn (model X.prog X.w) X.A X.env X.xe) (hc : X.calm = true) (hi : PI X tg iter wi) (hg : PG X tg g) (hb : PSs X body tb)
    (hs : ∀ x, foldedSetIterable iter X.env x = pure x := by intro _; rfl) : PS X (.For tg iter body [] pos) (qhZ wi g tb) := by
  intro pins s σ H D I h
  refine wpAny_For (thn (hi pins s σ H _ I h) fun v s1 h1 => thn h1 fun itv s2 h2 => ?_) hs
  obtain ⟨it, fp, tn, J, H2, e, I2, T, st2, f2, W, ⟨m0, w0⟩, turn⟩ := h2
  subst e
  have stat : ∀ {H' : Hp}, (∀ b ∈ fp, H' b = none) → ∀ b ∈ fp, qky X pins H' b := fun hn b hb => ⟨hn b hb, (f2 b hb).2⟩
  refine codeAny_forLoop_any (fun n s' => ∃ i σ' H', Inv X pins σ' H' s' ∧ tn i s'.heap ∧ (∀ b ∈ fp, H' b = none) ∧ W i n σ' H') ?_ m0 ⟨0, σ, H2, I2, st2, fun b hb => (f2 b hb).1, w0⟩
  rintro n s3 ⟨i, σ3, H3, I3, st3, fr3, w3⟩
  rcases turn i n σ3 H3 w3 with ⟨stop, qn⟩ | ⟨go, N, hN, step⟩
  · refine wpAny_passesOwn hp (thn (T.done X rfl rfl rfl hc i pins s3 σ3 H3 X.xe I3 (stat fr3) st3 stop) fun r s4 ⟨hr, I4⟩ => ?_)
    subst hr
    exact wpAny_execs_nil ⟨σ3, H3, I4, qn⟩
  · refine wpAny_passesOwn hp (thn (T.item X rfl rfl rfl hc i pins s3 σ3 H3 X.xe I3 (stat fr3) st3 go) fun r s4 ⟨u, hr, h4⟩ => ?_)
    subst hr
    refine wpAny_passesOwn hp (thn h4 fun _ s5 ⟨x, H5, I5, r5, y5, st5, fr5⟩ => ?_)
    have I5' := I5.pinned (stat fr5) (T.obj _ _ st5)
    refine wpAny_passesOwn hp (thn (hg _ s5 σ3 H5 x u _ I5' r5 (step x H5 y5)) fun _ s6 ⟨σ6, H6, I6, q6⟩ => ?_)
    refine wpAny_passesOwn hp (thn (hb _ s6 σ6 H6 _ I6 q6) fun f s7 q7 => ?_)
    have again : ∀ {σ7 : St} {H7 : Hp}, Inv X (pins ++ qlr fp s5.heap) σ7 H7 s7 → N σ7 H7 → ∃ m, m < n ∧ ∃ i σ' H', Inv X pins σ' H' s7 ∧ tn i s7.heap ∧ (∀ b ∈ fp, H' b = none) ∧ W i m σ' H' := fun {σ7 H7} I7 n7 => by
      obtain ⟨m', hm, w7⟩ := hN σ7 H7 n7
      refine ⟨m', hm, i + 1, σ7, H7, I7.unpinned, T.keep _ _ _ st5 fun b hb o e => (I7.pin (b, o) (List.mem_append_right _ (List.mem_append_right _ (qdx hb e)))).1, fun b hb => ?_, w7⟩
      obtain ⟨o, e, d⟩ := T.obj _ _ st5 b hb
      exact (I7.pin (b, o) (List.mem_append_right _ (List.mem_append_right _ (qdx hb e)))).2.1
    cases f with
    | next => obtain ⟨σ7, H7, I7, n7⟩ := q7; exact again I7 n7
    | cont => obtain ⟨σ7, H7, I7, n7⟩ := q7; exact again I7 n7
    | brk => obtain ⟨σ7, H7, I7, q7⟩ := q7; exact ⟨σ7, H7, I7.unpinned, q7⟩
    | ret v => obtain ⟨x7, σ7, H7, I7, r7, q7⟩ := q7; exact ⟨x7, σ7, H7, I7.unpinned, r7, q7⟩
end
theorem qo0 {K : PySem.W.Frag} {a : Addr} {xs : List V} {g : TG} {tb : TS} {D : Ends} {σ : St} {H : Hp} (Pv : Nat → St → Hp → Prop) (h0 : Pv 0 σ H) (hl : ∀ i σ H, i ≤ xs.length → Pv i σ H → SqL K H a xs)
    (hs : ∀ i x σ H, xs[i]? = some x → Pv i σ H → g x σ H fun σ2 H2 => tb { D with nx := Pv (i + 1), ct := Pv (i + 1), bk := D.nx } σ2 H2) (hd : ∀ σ H, Pv xs.length σ H → D.nx σ H) :
    ∃ W : Nat → Nat → St → Hp → Prop, (∃ m, W 0 m σ H) ∧ ∀ i m σ H, W i m σ H →
      ((Itl K a).stop i H ∧ D.nx σ H) ∨ ((Itl K a).go i H ∧ ∃ N : St → Hp → Prop, (∀ σ' H', N σ' H' → ∃ m', m' < m ∧ W (i + 1) m' σ' H') ∧ ∀ x H', (Itl K a).yld i H x H' → g x σ H' fun σ2 H2 => tb { D with nx := N, ct := N, bk := D.nx } σ2 H2) := by
  refine ⟨fun i m σ H => m = xs.length - i ∧ i ≤ xs.length ∧ Pv i σ H, ⟨xs.length, by simp, Nat.zero_le _, h0⟩, ?_⟩
  rintro i m σ H ⟨rfl, hi, p⟩
  have q := hl i σ H hi p
  by_cases hlt : i < xs.length
  · refine .inr ⟨⟨xs, xs[i], q, by simp [hlt]⟩, Pv (i + 1), fun σ' H' p' => ⟨xs.length - (i + 1), by omega, rfl, hlt, p'⟩, fun x H' y => ?_⟩
    obtain ⟨e, y⟩ := y
    subst e
    exact hs i x σ _ (y xs q) p
  · have e : i = xs.length := by omega
    subst e
    exact .inl ⟨⟨xs, q, Nat.le_refl _⟩, hd σ H p⟩
theorem qmW {K : PySem.W.Frag} {a : Addr} {xs : List V} {g : TG} {tb : TS} {D : Ends} {σ : St} {H : Hp} (Pv : Nat → St → Hp → Prop) (h0 : Pv 0 σ H) (hl : ∀ i σ H, i ≤ xs.length → Pv i σ H → SqT K H a xs)
    (hs : ∀ i x σ H, xs[i]? = some x → Pv i σ H → g x σ H fun σ2 H2 => tb { D with nx := Pv (i + 1), ct := Pv (i + 1), bk := D.nx } σ2 H2) (hd : ∀ σ H, Pv xs.length σ H → D.nx σ H) :
    ∃ W : Nat → Nat → St → Hp → Prop, (∃ m, W 0 m σ H) ∧ ∀ i m σ H, W i m σ H →
      ((Itt K a).stop i H ∧ D.nx σ H) ∨ ((Itt K a).go i H ∧ ∃ N : St → Hp → Prop, (∀ σ' H', N σ' H' → ∃ m', m' < m ∧ W (i + 1) m' σ' H') ∧ ∀ x H', (Itt K a).yld i H x H' → g x σ H' fun σ2 H2 => tb { D with nx := N, ct := N, bk := D.nx } σ2 H2) := by
  refine ⟨fun i m σ H => m = xs.length - i ∧ i ≤ xs.length ∧ Pv i σ H, ⟨xs.length, by simp, Nat.zero_le _, h0⟩, ?_⟩
  rintro i m σ H ⟨rfl, hi, p⟩
  have q := hl i σ H hi p
  by_cases hlt : i < xs.length
  · refine .inr ⟨⟨xs, xs[i], q, by simp [hlt]⟩, Pv (i + 1), fun σ' H' p' => ⟨xs.length - (i + 1), by omega, rfl, hlt, p'⟩, fun x H' y => ?_⟩
    obtain ⟨e, y⟩ := y
    subst e
    exact hs i x σ _ (y xs q) p
  · have e : i = xs.length := by omega
    subst e
    exact .inl ⟨⟨xs, q, Nat.le_refl _⟩, hd σ H p⟩
theorem qmX {lo : Int} {n : Nat} {g : TG} {tb : TS} {D : Ends} {σ : St} {H : Hp} (Pv : Nat → St → Hp → Prop) (h0 : Pv 0 σ H)
    (hs : ∀ i σ H, i < n → Pv i σ H → g (.int (lo + i)) σ H fun σ2 H2 => tb { D with nx := Pv (i + 1), ct := Pv (i + 1), bk := D.nx } σ2 H2) (hd : ∀ σ H, Pv n σ H → D.nx σ H) :
    ∃ W : Nat → Nat → St → Hp → Prop, (∃ m, W 0 m σ H) ∧ ∀ i m σ H, W i m σ H →
      ((Itr lo n).stop i H ∧ D.nx σ H) ∨ ((Itr lo n).go i H ∧ ∃ N : St → Hp → Prop, (∀ σ' H', N σ' H' → ∃ m', m' < m ∧ W (i + 1) m' σ' H') ∧ ∀ x H', (Itr lo n).yld i H x H' → g x σ H' fun σ2 H2 => tb { D with nx := N, ct := N, bk := D.nx } σ2 H2) := by
  refine ⟨fun i m σ H => m = n - i ∧ i ≤ n ∧ Pv i σ H, ⟨n, by simp, Nat.zero_le _, h0⟩, ?_⟩
  rintro i m σ H ⟨rfl, hi, p⟩
  by_cases hlt : i < n
  · refine .inr ⟨hlt, Pv (i + 1), fun σ' H' p' => ⟨n - (i + 1), by omega, rfl, hlt, p'⟩, fun x H' y => ?_⟩
    obtain ⟨e, y⟩ := y
    subst e y
    exact hs i σ _ hlt p
  · have e : i = n := by omega
    subst e
    exact .inl ⟨Nat.le_refl _, hd σ H p⟩
theorem while_by {c : TT} {tb : TS} {D : Ends} {σ : St} {H : Hp} (Pv : St → Hp → Prop) (μ : St → Hp → Nat) (h0 : Pv σ H)
    (hs : ∀ σ H, Pv σ H → c σ H fun b H1 => if b = true then tb { D with nx := fun σ' H' => Pv σ' H' ∧ μ σ' H' < μ σ H, ct := fun σ' H' => Pv σ' H' ∧ μ σ' H' < μ σ H, bk := D.nx } σ H1 else D.nx σ H1)
    (mono : ∀ σ H Q Q', (∀ b H1, Q b H1 → Q' b H1) → c σ H Q → c σ H Q') : qdZ c tb D σ H := by
  refine ⟨fun m σ H => m = μ σ H ∧ Pv σ H, ⟨_, rfl, h0⟩, ?_⟩
  rintro m σ H ⟨rfl, p⟩
  refine mono σ H _ _ (fun b H1 q => ?_) (hs σ H p)
  cases b with
  | true => exact ⟨_, fun σ' H' ⟨p', l⟩ => ⟨_, l, rfl, p'⟩, q⟩
  | false => exact q
end L2
namespace L2
open PySem PySem.Spec PyProof.Rows
noncomputable abbrev R2 := V → V → Hp → VK → Prop
noncomputable def OpR (X : Cx) (f : Value → Value → Sem Value) (r : R2) : Prop :=
  ∀ (pins : List (Addr × Obj)) (s : Shared) (σ : St) (H : Hp) (x y : V) (v u : Value) (Q : VK), Inv X pins σ H s → RelV x v → RelV y u → r x y H Q →
    wpAny (model X.prog X.w) X.A (f v u) (EP X pins σ Q) X.xe s
noncomputable def UnR (X : Cx) (f : Value → Sem Value) (r : V → Hp → VK → Prop) : Prop :=
  ∀ (pins : List (Addr × Obj)) (s : Shared) (σ : St) (H : Hp) (x : V) (v : Value) (Q : VK), Inv X pins σ H s → RelV x v → r x H Q →
    wpAny (model X.prog X.w) X.A (f v) (EP X pins σ Q) X.xe s
noncomputable def qd7 (X : Cx) (f : Value) (r : List V → Hp → VK → Prop) : Prop :=
  ∀ (pins : List (Addr × Obj)) (s : Shared) (σ : St) (H : Hp) (xs : List V) (us : List Value) (Q : VK), Inv X pins σ H s → Vals xs us → r xs H Q →
    wpAny (model X.prog X.w) X.A (call f us) (EP X pins σ Q) X.xe s
noncomputable def qtr (X : Cx) (r : V → Hp → (Bool → Hp → Prop) → Prop) : Prop :=
  ∀ (pins : List (Addr × Obj)) (s : Shared) (σ : St) (H : Hp) (x : V) (v : Value) (Q : Bool → Hp → Prop), Inv X pins σ H s → RelV x v → r x H Q →
    wpAny (model X.prog X.w) X.A (truthy v) (TP X pins σ Q) X.xe s
noncomputable def tOp (r : R2) (ta tb : TE) : TE := fun σ H Q => ta σ H fun x H1 => tb σ H1 fun y H2 => r x y H2 Q
noncomputable def tUn (r : V → Hp → VK → Prop) (ta : TE) : TE := fun σ H Q => ta σ H fun x H1 => r x H1 Q
noncomputable def rI (C : Int → Int → Prop) (g : Int → Int → V) : R2 := fun x y H Q => ∃ i j, x = .int i ∧ y = .int j ∧ C i j ∧ Q (g i j) H
noncomputable def rI0 (g : Int → Int → V) : R2 := fun x y H Q => ∃ i j, x = .int i ∧ y = .int j ∧ Q (g i j) H
noncomputable def rU (g : Int → V) : V → Hp → VK → Prop := fun x H Q => ∃ i, x = .int i ∧ Q (g i) H
section
variable {X : Cx} {a b c : Expr} {ta tb tc : TE} {pos : Pos}
theorem qsG (ha : PE X a ta) (hb : PE X b tb) {pins : List (Addr × Obj)} {s : Shared} {σ : St} {H : Hp} {R : V → V → Hp → Prop} (I : Inv X pins σ H s)
    (h : ta σ H fun x H1 => tb σ H1 fun y H2 => R x y H2) {Q : Value → Shared → Prop} {f : Value → Value → Sem Value}
    (hf : ∀ v u s2 x y H2, Inv X pins σ H2 s2 → RelV x v → RelV y u → R x y H2 → wpAny (model X.prog X.w) X.A (f v u) Q X.xe s2) :
    wpAny (model X.prog X.w) X.A (eval a X.env) (fun v s₁ => wpAny (model X.prog X.w) X.A (eval b X.env) (fun u s₂ => wpAny (model X.prog X.w) X.A (f v u) Q X.xe s₂) X.xe s₁) X.xe s := by
  refine thn (ha pins s σ H _ I h) fun v s1 ⟨x, H1, I1, r1, q1⟩ => ?_
  refine thn (hb pins s1 σ H1 _ I1 q1) fun u s2 ⟨y, H2, I2, r2, q2⟩ => ?_
  exact hf v u s2 x y H2 I2 r1 r2 q2
theorem qax {op : Operator} {r : R2} (ho : OpR X (binaryOp op) r) (ha : PE X a ta) (hb : PE X b tb) : PE X (.BinOp a op b pos) (tOp r ta tb) := by
  intro pins s σ H Q I h
  exact wpAny_BinOp (qsG ha hb I h fun v u s2 x y H2 I2 rx ry q => ho pins s2 σ H2 x y v u Q I2 rx ry q)
theorem qc4 {op : UnaryOp} {r : V → Hp → VK → Prop} (ho : UnR X (unaryOp op) r) (ha : PE X a ta) : PE X (.UnaryOp op a pos) (tUn r ta) := by
  intro pins s σ H Q I h
  exact UnaryOp_ (thn (ha pins s σ H _ I h) fun v s1 ⟨x, H1, I1, r1, q1⟩ => ho pins s1 σ H1 x v Q I1 r1 q1)
theorem opI {f : Value → Value → Sem Value} {C : Int → Int → Prop} {g : Int → Int → Int}
    (rule : ∀ (i j : Int) (t u : Tok) (s : Shared) (Q : Value → Shared → Prop) (E : Value → Shared → Prop), C i j → Q (.int (g i j) s.toks) { s with toks := s.toks + 1 } → wpAny (model X.prog X.w) X.A (f (.int i t) (.int j u)) Q E s) :
    OpR X f (rI C fun i j => .int (g i j)) := by
  intro pins s σ H x y v u Q I rx ry h
  obtain ⟨i, j, rfl, rfl, hc, q⟩ := h
  obtain ⟨t, rfl⟩ := rx
  obtain ⟨t', rfl⟩ := ry
  exact rule i j t t' s _ _ hc ⟨.int (g i j), H, I.tok _, ⟨_, rfl⟩, q⟩
theorem qsw {f : Value → Value → Sem Value} {g : Int → Int → Int}
    (rule : ∀ (i j : Int) (t u : Tok) (s : Shared) (Q : Value → Shared → Prop) (E : Value → Shared → Prop), Q (.int (g i j) s.toks) { s with toks := s.toks + 1 } → wpAny (model X.prog X.w) X.A (f (.int i t) (.int j u)) Q E s) :
    OpR X f (rI0 fun i j => .int (g i j)) := by
  intro pins s σ H x y v u Q I rx ry h
  obtain ⟨i, j, rfl, rfl, q⟩ := h
  obtain ⟨t, rfl⟩ := rx
  obtain ⟨t', rfl⟩ := ry
  exact rule i j t t' s _ _ ⟨.int (g i j), H, I.tok _, ⟨_, rfl⟩, q⟩
theorem qsH {f : Value → Value → Sem Value} {g : Int → Int → Bool}
    (rule : ∀ (i j : Int) (t u : Tok) (s : Shared) (Q : Value → Shared → Prop) (E : Value → Shared → Prop), Q (.bool (g i j)) s → wpAny (model X.prog X.w) X.A (f (.int i t) (.int j u)) Q E s) :
    OpR X f (rI0 fun i j => .bl (g i j)) := by
  intro pins s σ H x y v u Q I rx ry h
  obtain ⟨i, j, rfl, rfl, q⟩ := h
  obtain ⟨t, rfl⟩ := rx
  obtain ⟨t', rfl⟩ := ry
  exact rule i j t t' s _ _ ⟨.bl (g i j), H, I, rfl, q⟩
noncomputable def CMul (i j : Int) : Prop := (-(2 ^ 64) < i ∧ i < 2 ^ 64) ∨ (-(2 ^ 64) < j ∧ j < 2 ^ 64)
theorem CMul.ok {i j : Int} (h : CMul i j) : IntMulOk i j := by
  rcases h with ⟨h1, h2⟩ | ⟨h1, h2⟩
  · exact .of_left (intBits_le_64 h1 h2)
  · exact .of_right (intBits_le_64 h1 h2)
theorem qbX : OpR X (binaryOp .Add) (rI0 fun i j => .int (i + j)) := qsw fun _ _ _ _ _ _ _ q => add_int q
theorem qbB : OpR X (binaryOp .Sub) (rI0 fun i j => .int (i - j)) := qsw fun _ _ _ _ _ _ _ q => sub_int q
theorem qdy : OpR X (binaryOp .Mod) (rI (fun _ j => 0 < j) fun i j => .int (i % j)) := opI fun i j _ _ _ _ _ hc q => by
  have h1 : (0 : Int) < j := hc
  exact mod_int' (by omega) (by rw [Int.fmod_eq_emod_of_nonneg i (by omega)]; exact q)
theorem qqr : OpR X (binaryOp .Mod) (rI (fun _ j => j ≠ 0) fun i j => .int (i.fmod j)) := opI fun _ _ _ _ _ _ _ hc q => mod_int' hc q
theorem qqs : OpR X (inplaceOp .Add) (rI0 fun i j => .int (i + j)) := qsw fun _ _ _ _ _ _ _ q => iadd_int q
theorem qgL : OpR X (inplaceOp .Sub) (rI0 fun i j => .int (i - j)) := qsw fun _ _ _ _ _ _ _ q => isub_int q
theorem unI {f : Value → Sem Value} {g : Int → Int}
    (rule : ∀ (i : Int) (t : Tok) (s : Shared) (Q : Value → Shared → Prop) (E : Value → Shared → Prop), Q (.int (g i) s.toks) { s with toks := s.toks + 1 } → wpAny (model X.prog X.w) X.A (f (.int i t)) Q E s) :
    UnR X f (rU fun i => .int (g i)) := by
  intro pins s σ H x v Q I rx h
  obtain ⟨i, rfl, q⟩ := h
  obtain ⟨t, rfl⟩ := rx
  exact rule i t s _ _ ⟨.int (g i), H, I.tok _, ⟨_, rfl⟩, q⟩
theorem qbU : UnR X (unaryOp .USub) (rU fun i => .int (-i)) := unI fun _ _ _ _ _ q => neg_int q
end
noncomputable def scal : V → V → Bool
  | .non, .non => true | .non, .int _ => true | .int _, .non => true | .non, .bl _ => true | .bl _, .non => true | .non, .str _ => true | .str _, .non => true
  | .int _, .int _ => true | .bl _, .bl _ => true | .str _, .str _ => true | .byt _, .byt _ => true
  | .int _, .str _ => true | .str _, .int _ => true | .bl _, .str _ => true | .str _, .bl _ => true
  | _, _ => false
noncomputable def rEq : R2 := fun x y H Q => scal x y = true ∧ Q (.bl (decide (x = y))) H
noncomputable def rNe : R2 := fun x y H Q => scal x y = true ∧ Q (.bl (!decide (x = y))) H
theorem qmY {i j : Int} : decide (V.int i = V.int j) = (i == j) := by
  rw [Bool.eq_iff_iff]
  simp
theorem qpS {i j : Bool} : decide (V.bl i = V.bl j) = (i == j) := by
  rw [Bool.eq_iff_iff]
  simp
theorem qmZ {i j : Str} : decide (V.str i = V.str j) = (i == j) := by
  rw [Bool.eq_iff_iff]
  simp
theorem qm0 {i j : Array UInt8} : decide (V.byt i = V.byt j) = (i.toList == j.toList) := by
  rw [Bool.eq_iff_iff]
  cases i
  cases j
  simp
section
variable {X : Cx} {a b c : Expr} {ta tb tc : TE} {pos : Pos}
theorem qbn {pins : List (Addr × Obj)} {σ : St} {H : Hp} {s : Shared} {Q : VK} {k k' : Bool} (I : Inv X pins σ H s) (q : Q (.bl k) H) (e : k = k') : EP X pins σ Q (.bool k') s := by
  subst e
  exact ⟨.bl k, H, I, rfl, q⟩
theorem qiI : OpR X (compareOp .Eq) rEq := by
  intro pins s σ H x y v u Q I rx ry h
  obtain ⟨hs, q⟩ := h
  cases x with
  | non =>
    cases rx
    cases y with
    | non => cases ry; exact PySem.EqNone.eq_none_none (qbn I q (by simp))
    | bl j => cases ry; exact PySem.EqNone.eq_none_bool (qbn I q (by simp))
    | int j => obtain ⟨t', rfl⟩ := ry; exact PySem.EqNone.eq_none_int (qbn I q (by simp))
    | str j => obtain ⟨t', rfl⟩ := ry; exact PySem.EqNone.eq_none_str (qbn I q (by simp))
    | _ => exact absurd (show false = true from hs) Bool.false_ne_true
  | bl i =>
    cases rx
    cases y with
    | non => cases ry; exact PySem.EqNone.eq_bool_none (qbn I q (by simp))
    | bl j => cases ry; exact eq_bool (qbn I q qpS)
    | str j => obtain ⟨t', rfl⟩ := ry; exact PySem.EqMixed.eq_bool_str (qbn I q (by simp))
    | _ => exact absurd (show false = true from hs) Bool.false_ne_true
  | int i =>
    obtain ⟨t, rfl⟩ := rx
    cases y with
    | non => cases ry; exact PySem.EqNone.eq_int_none (qbn I q (by simp))
    | int j => obtain ⟨t', rfl⟩ := ry; exact eq_int (qbn I q qmY)
    | str j => obtain ⟨t', rfl⟩ := ry; exact PySem.EqMixed.eq_int_str (qbn I q (by simp))
    | _ => exact absurd (show false = true from hs) Bool.false_ne_true
  | str i =>
    obtain ⟨t, rfl⟩ := rx
    cases y with
    | non => cases ry; exact PySem.EqNone.eq_str_none (qbn I q (by simp))
    | bl j => cases ry; exact PySem.EqMixed.eq_str_bool (qbn I q (by simp))
    | int j => obtain ⟨t', rfl⟩ := ry; exact PySem.EqMixed.eq_str_int (qbn I q (by simp))
    | str j => obtain ⟨t', rfl⟩ := ry; exact eq_str (qbn I q qmZ)
    | _ => exact absurd (show false = true from hs) Bool.false_ne_true
  | byt i =>
    obtain ⟨t, rfl⟩ := rx
    cases y with
    | byt j => obtain ⟨t', rfl⟩ := ry; exact PySem.W.eq_bytes (qbn I q qm0)
    | _ => exact absurd (show false = true from hs) Bool.false_ne_true
  | _ => cases y <;> exact absurd (show false = true from hs) Bool.false_ne_true
theorem qkz : OpR X (compareOp .NotEq) rNe := by
  intro pins s σ H x y v u Q I rx ry h
  obtain ⟨hs, q⟩ := h
  cases x with
  | non =>
    cases rx
    cases y with
    | non => cases ry; exact PySem.EqNone.ne_none_none (qbn I q (by simp))
    | bl j => cases ry; exact PySem.EqNone.ne_none_bool (qbn I q (by simp))
    | int j => obtain ⟨t', rfl⟩ := ry; exact PySem.EqNone.ne_none_int (qbn I q (by simp))
    | str j => obtain ⟨t', rfl⟩ := ry; exact PySem.EqNone.ne_none_str (qbn I q (by simp))
    | _ => exact absurd (show false = true from hs) Bool.false_ne_true
  | bl i =>
    cases rx
    cases y with
    | non => cases ry; exact PySem.EqNone.ne_bool_none (qbn I q (by simp))
    | bl j => cases ry; exact ne_bool (qbn I q (congrArg not qpS))
    | str j => obtain ⟨t', rfl⟩ := ry; exact PySem.EqMixed.ne_bool_str (qbn I q (by simp))
    | _ => exact absurd (show false = true from hs) Bool.false_ne_true
  | int i =>
    obtain ⟨t, rfl⟩ := rx
    cases y with
    | non => cases ry; exact PySem.EqNone.ne_int_none (qbn I q (by simp))
    | int j => obtain ⟨t', rfl⟩ := ry; exact ne_int (qbn I q (congrArg not qmY))
    | str j => obtain ⟨t', rfl⟩ := ry; exact PySem.EqMixed.ne_int_str (qbn I q (by simp))
    | _ => exact absurd (show false = true from hs) Bool.false_ne_true
  | str i =>
    obtain ⟨t, rfl⟩ := rx
    cases y with
    | non => cases ry; exact PySem.EqNone.ne_str_none (qbn I q (by simp))
    | bl j => cases ry; exact PySem.EqMixed.ne_str_bool (qbn I q (by simp))
    | int j => obtain ⟨t', rfl⟩ := ry; exact PySem.EqMixed.ne_str_int (qbn I q (by simp))
    | str j => obtain ⟨t', rfl⟩ := ry; exact ne_str (qbn I q (congrArg not qmZ))
    | _ => exact absurd (show false = true from hs) Bool.false_ne_true
  | byt i =>
    obtain ⟨t, rfl⟩ := rx
    cases y with
    | byt j => obtain ⟨t', rfl⟩ := ry; exact PySem.W.ne_bytes (qbn I q (congrArg not qm0))
    | _ => exact absurd (show false = true from hs) Bool.false_ne_true
  | _ => cases y <;> exact absurd (show false = true from hs) Bool.false_ne_true
theorem qqt : OpR X (compareOp .Lt) (rI0 fun i j => .bl (decide (i < j))) := qsH fun _ _ _ _ _ _ _ q => lt_int q
theorem qmd : OpR X (compareOp .Gt) (rI0 fun i j => .bl (decide (j < i))) := qsH fun _ _ _ _ _ _ _ q => gt_int q
theorem qqu : OpR X (compareOp .GtE) (rI0 fun i j => .bl (decide (j ≤ i))) := qsH fun _ _ _ _ _ _ _ q => ge_int q
theorem qpT : OpR X (compareOp .Is) (fun x y H Q => y = .non ∧ Q (.bl (decide (x = .non))) H) := by
  intro pins s σ H x y v u Q I rx ry h
  obtain ⟨rfl, q⟩ := h
  cases ry
  refine is_none_gen (qbn I q ?_)
  cases x <;> first
    | (cases rx; rfl)
    | (obtain ⟨t, rfl⟩ := rx; rfl)
theorem qqv : OpR X (compareOp .IsNot) (fun x y H Q => y = .non ∧ Q (.bl (!decide (x = .non))) H) := by
  intro pins s σ H x y v u Q I rx ry h
  obtain ⟨rfl, q⟩ := h
  cases ry
  refine isnot_none_gen (qbn I q ?_)
  cases x <;> first
    | (cases rx; rfl)
    | (obtain ⟨t, rfl⟩ := rx; rfl)
theorem nomark (b : Expr) {op : CmpOp} (h : op ≠ .In := by decide) (h2 : op ≠ .NotIn := by decide) : behindInMarks op b = false := by
  have e1 : (op == CmpOp.In) = false := by cases op <;> first | rfl | exact absurd rfl h
  have e2 : (op == CmpOp.NotIn) = false := by cases op <;> first | rfl | exact absurd rfl h2
  cases b <;> simp [behindInMarks, e1, e2]
theorem qkA {op : CmpOp} {r : R2} (ho : OpR X (compareOp op) r) (ha : PE X a ta) (hb : PE X b tb) (hm : behindInMarks op b = false) : PE X (.Compare a [op] [b] pos) (tOp r ta tb) := by
  intro pins s σ H Q I h
  exact wpAny_Compare1 (qsG ha hb I h fun v u s2 x y H2 I2 rx ry q => ho pins s2 σ H2 x y v u Q I2 rx ry q) hm
noncomputable def qbo (t : TE) : TT := fun σ H Q => t σ H fun x H' => ∃ k, x = .bl k ∧ Q k H'
theorem qaE {op : CmpOp} {r : R2} (ho : OpR X (compareOp op) r) (ha : PE X a ta) (hb : PE X b tb) (hm : behindInMarks op b = false) : PT X (.Compare a [op] [b] pos) (qbo (tOp r ta tb)) := by
  intro pins s σ H Q I h
  refine wpAny_isTrue_Compare1 (thn (ha pins s σ H _ I h) fun v s1 ⟨x, H1, I1, r1, q1⟩ => thn (hb pins s1 σ H1 _ I1 q1) fun u s2 ⟨y, H2, I2, r2, q2⟩ =>
    thn (ho pins s2 σ H2 x y v u _ I2 r1 r2 q2) fun c s3 ⟨z, H3, I3, r3, k, e, q3⟩ => ?_) hm
  subst e
  cases r3
  exact wpAny_truthy_bool ⟨H3, I3, q3⟩
noncomputable def qpU (r r' : R2) (ta tb tc : TE) : TE := fun σ H Q => ta σ H fun x H1 => tb σ H1 fun y H2 => r x y H2 fun z H3 => ∃ k, z = .bl k ∧
  (if k = true then tc σ H3 fun w' H4 => r' y w' H4 Q else Q (.bl false) H3)
noncomputable def qts (K : PySem.W.Frag) (x : V) (H : Hp) (k : Bool) : Prop :=
  match x with
  | .non => k = false
  | .bl b => k = b
  | .int i => k = (i != 0)
  | .str y => y.length ≤ sizeLine ∧ k = ((y.length : Int) != 0)
  | .byt y => y.size ≤ sizeLine ∧ k = ((y.size : Int) != 0)
  | .ref p => (∃ xs, SqL K H p xs ∧ k = !xs.isEmpty) ∨ (∃ xs, SqT K H p xs ∧ k = !xs.isEmpty) ∨ ∃ kvs, H p = some (.dK kvs) ∧ k = !kvs.isEmpty
  | _ => False
theorem qme {κ : Type} {kvs : List (κ × V)} {vs : List (κ × Value)} (r : KV kvs vs) : (!vs.isEmpty) = !kvs.isEmpty := by
  cases r <;> rfl
theorem qif {xs : List V} {its : List Value} (r : Vals xs its) : (!its.toArray.isEmpty) = !xs.isEmpty := by
  cases r <;> simp
theorem qig : (sizeLine : Nat) < 2 ^ 63 := by rw [sizeLine_eq]; decide
theorem qrD : qtr X (fun x H Q => ∃ k, qts X.K x H k ∧ Q k H) := by
  intro pins s σ H x v Q I rx h
  obtain ⟨k, e, q⟩ := h
  have hl := qig
  have hs : sizeLine = 16777216 := sizeLine_eq
  cases x with
  | non =>
    cases rx
    have e' : k = false := e
    subst e'
    exact truthy_none ⟨H, I, q⟩
  | bl b =>
    cases rx
    have e' : k = b := e
    subst e'
    exact wpAny_truthy_bool ⟨H, I, q⟩
  | int i =>
    obtain ⟨t, rfl⟩ := rx
    have e' : k = (i != 0) := e
    subst e'
    exact PySem.P.truthy_int ⟨H, I, q⟩
  | str y =>
    obtain ⟨t, rfl⟩ := rx
    obtain ⟨hy, e'⟩ : y.length ≤ sizeLine ∧ k = ((y.length : Int) != 0) := e
    subst e'
    exact PySem.P.truthy_str (by omega) ⟨H, I.tok _, q⟩
  | byt y =>
    obtain ⟨t, rfl⟩ := rx
    obtain ⟨hy, e'⟩ : y.size ≤ sizeLine ∧ k = ((y.size : Int) != 0) := e
    subst e'
    exact PySem.W.truthy_bytes (by omega) ⟨H, I.tok _, q⟩
  | ref p =>
    cases rx
    have e' : (∃ xs, SqL X.K H p xs ∧ k = !xs.isEmpty) ∨ (∃ xs, SqT X.K H p xs ∧ k = !xs.isEmpty) ∨ ∃ kvs, H p = some (.dK kvs) ∧ k = !kvs.isEmpty := e
    rcases e' with ⟨xs, hx, e'⟩ | ⟨xs, hx, e'⟩ | ⟨kvs, hx, e'⟩
    · subst e'
      obtain ⟨its, r, pl, hz⟩ := I.list hx
      have hlen := r.length
      exact wpAny_truthy_list pl.isList (by simp only [List.size_toArray]; omega) ⟨H, I.tok _, by rw [qif r]; exact q⟩
    · subst e'
      obtain ⟨its, r, pl, hz⟩ := I.tuple hx
      have hlen := r.length
      exact truthy_tuple pl (by simp only [List.size_toArray]; omega) ⟨H, I.tok _, by rw [qif r]; exact q⟩
    · subst e'
      obtain ⟨hz, hS, vs, r, m⟩ : kvs.length ≤ sizeLine ∧ (p == sysModules) = false ∧ ∃ vs, KV kvs vs ∧ s.heap.DictOf (qkw X.prog X.w) p vs := I.hok p _ hx
      have hlen : kvs.length = vs.length := Paired.length r
      exact wpAny_truthy_dict hS m (by omega) ⟨H, I.tok _, by rw [qme r]; exact q⟩
  | _ => exact (show False from e).elim
theorem qiJ {x : V} {us : List Value} (r : Vals [x] us) : ∃ u, us = [u] ∧ RelV x u := by
  cases r with
  | cons r1 r2 => cases r2; exact ⟨_, rfl, r1⟩
theorem vals2 {x y : V} {us : List Value} (r : Vals [x, y] us) : ∃ u w', us = [u, w'] ∧ RelV x u ∧ RelV y w' := by
  cases r with
  | cons r1 r2 =>
    cases r2 with
    | cons r3 r4 => cases r4; exact ⟨_, _, rfl, r1, r3⟩
theorem qo1 : qd7 X (.builtin "abs") (fun xs H Q => ∃ i, xs = [.int i] ∧ Q (.int (if i < 0 then -i else i)) H) := by
  intro pins s σ H xs us Q I r h
  obtain ⟨i, rfl, q⟩ := h
  obtain ⟨u, rfl, t, rfl⟩ := qiJ r
  exact call_abs_int fun u tk => ⟨.int (if i < 0 then -i else i), H, I.tok _, ⟨_, rfl⟩, q⟩
theorem qm1 (hc : X.calm = true) : qd7 X (.builtin "max") (fun xs H Q => ∃ i j, xs = [.int i, .int j] ∧ Q (.int (if j > i then j else i)) H) := by
  intro pins s σ H xs us Q I r h
  obtain ⟨i, j, rfl, q⟩ := h
  obtain ⟨u, w', rfl, ⟨t, rfl⟩, ⟨t', rfl⟩⟩ := vals2 r
  refine max_two_ints (I.ok.hd hc) fun h' tk k => ⟨_, H, I.kept k, ?_, q⟩
  by_cases hj : j > i
  · rw [if_pos hj, if_pos hj]; exact ⟨_, rfl⟩
  · rw [if_neg hj, if_neg hj]; exact ⟨_, rfl⟩
theorem qm2 : qd7 X (.type "int") (fun xs H Q => (∃ i, xs = [.int i] ∧ Q (.int i) H) ∨ ∃ k, xs = [.bl k] ∧ Q (.int (if k then 1 else 0)) H) := by
  intro pins s σ H xs us Q I r h
  rcases h with ⟨i, rfl, q⟩ | ⟨k, rfl, q⟩
  · obtain ⟨u, rfl, t, rfl⟩ := qiJ r
    exact call_int_int ⟨.int i, H, I, ⟨_, rfl⟩, q⟩
  · obtain ⟨u, rfl, r1⟩ := qiJ r
    cases r1
    exact call_int_bool ⟨.int (if k then 1 else 0), H, I.tok _, ⟨_, rfl⟩, q⟩
end
end L2
namespace L2
open PySem PySem.Spec PyProof.Rows
structure ObjM (h : Heap) (x dx C : Addr) (mA : Str → Option Value) : Prop where
  obj : h.get? x = some (PySem.W.instObj C dx)
  ns : h.Ns1 dx mA
  ne : dx ≠ x
section
variable {prog : Program} {w : World} {A : Around} {E : Value → Shared → Prop} {s : Shared} {K : PySem.W.Frag} {x dx C f : Addr} {mA : Str → Option Value} {name : Str} {v : Value}
end
section
variable {P : Program} {w : World} {H H' : Hp} {h h' : Heap} {a C dx : Addr} {fs fs' : List (Str × V)}
end
structure Cls (K : PySem.W.Frag) (C : Addr) : Prop where
  pg : PySem.W.plainGet K C Str.empty = true
  hd : PySem.W.hasDictIn K C = true
  po : PySem.W.plainOver K C = true
  sa : PySem.W.findIn K (.ref C) "__setattr__" = some (some (.builtin "object.__setattr__"))
theorem Cls.get {K : PySem.W.Frag} {C : Addr} (c : Cls K C) (f : Str) : PySem.W.plainGet K C f = true := c.pg
structure Con (K : PySem.W.Frag) (C : Addr) (f : Str) (v : V) (u : Value) : Prop where
  at_ : PySem.W.findIn K (.ref C) f = some (some u)
  rel : RelV v u
  get : PySem.W.specialIn K u "__get__" = some none
  cp : PySem.W.copiedNames.contains f = false
structure Meth (K : PySem.W.Frag) (C : Addr) (m : Str) (f : Addr) : Prop where
  at_ : PySem.W.findIn K (.ref C) m = some (some (.ref f))
  fn : PySem.W.isFn K (.ref f) = true
  kp : PySem.W.keepIn K (.ref f) = true
section
variable {X : Cx} {pins : List (Addr × Obj)} {σ : St} {H : Hp} {s : Shared} {a C dx : Addr} {fs : List (Str × V)} {f : Str} {v : V} {A : Around} {E : Value → Shared → Prop}
end
section
variable {X : Cx} {o e value : Expr} {f : Str} {pos pos' tpos : Pos} {ta tv : TE}
end
section
variable {X : Cx} {pins : List (Addr × Obj)} {σ : St} {H : Hp} {s : Shared} {A : Around} {E : Value → Shared → Prop} {Q : Value → Shared → Prop} {c : Value} {b : Bool}
inductive TyOf (K : PySem.W.Frag) (H : Hp) : V → Value → Prop where
  | non : TyOf K H .non (.type "NoneType")
  | bl (x : Bool) : TyOf K H (.bl x) (.type "bool")
  | int (i : Int) : TyOf K H (.int i) (.type "int")
  | str (x : Str) : TyOf K H (.str x) (.type "str")
  | flt (x : UInt64) : TyOf K H (.flt x) (.type "float")
  | lst {a : Addr} {xs : List V} (e : H a = some (.lst xs)) : TyOf K H (.ref a) (.type "list")
  | frz {a : Addr} {o : Obj} {xs : List V} (e : H a = some (.frz o (.lst xs))) : TyOf K H (.ref a) (.type "list")
  | tup {a : Addr} {xs : List V} (e : H a = some (.tup xs)) : TyOf K H (.ref a) (.type "tuple")
  | dK {a : Addr} {kvs : List (Key × V)} (e : H a = some (.dK kvs)) : TyOf K H (.ref a) (.type "dict")
  | dT {a : Addr} {kvs : List (List Key × V)} (e : H a = some (.dT kvs)) : TyOf K H (.ref a) (.type "dict")
  | ins {a C dx : Addr} {fs : List (Str × V)} (e : H a = some (.ins C dx fs)) (cl : Cls K C) (ha : PySem.W.findIn K (.ref C) "__class__" = some (some (.builtin "object.__class__")))
      (hn : PySem.W.specialIn K (.builtin "object.__class__") "__get__" = some (some (.builtin "getset_descriptor.__get__"))) (htk : PySem.W.takesIn K (.builtin "object.__class__") = some true)
      (hm : PySem.W.mroIn K C (.type "object") = some true) : TyOf K H (.ref a) (.ref C)
end
end L2
namespace L2
open PySem PySem.Spec PyProof.Rows
structure Room (k : Nat) (A : Around) : Prop where
  hd : A.handled = none
  dp : A.depth + 3 * k + 105 < recursionLimit
  un : A.units + 16 * k + 200 < cLine
theorem Room.mono {j k : Nat} {A : Around} (r : Room k A) (h : j ≤ k) : Room j A := ⟨r.hd, by have := r.dp; omega, by have := r.un; omega⟩
theorem Room.deeper {k : Nat} {A : Around} (r : Room (k + 1) A) (env : Env) : Room k (A.deeper env) :=
  ⟨r.hd, by have := r.dp; show A.depth + 1 + 3 * k + 105 < _; omega, by have := r.un; show A.units + 3 + 16 * k + 200 < _; omega⟩
theorem Room.in1 {k : Nat} {A : Around} (r : Room (k + 1) A) : Room k A.in1 :=
  ⟨r.hd, by have := r.dp; show A.depth + 3 * k + 105 < _; omega, by have := r.un; show A.units + 1 + 16 * k + 200 < _; omega⟩
theorem Room.depth {k : Nat} {A : Around} (r : Room k A) : A.depth < recursionLimit := by have := r.dp; omega
theorem Room.units {k : Nat} {A : Around} (r : Room k A) : A.units + 64 < cLine := by have := r.un; omega
theorem Room.units0 {k : Nat} {A : Around} (r : Room k A) : A.units < cLine := by have := r.un; omega
noncomputable def qam : TA := fun _ H Q => Q [] H
noncomputable def qab (ta : TE) (tr : TA) : TA := fun σ H Q => ta σ H fun x H1 => tr σ H1 fun xs H2 => Q (x :: xs) H2
section
variable {X : Cx} {e : Expr} {es : List Expr} {te : TE} {t : TA} {pos : Pos}
theorem qac : PA X [] qam := fun _ _ _ _ H Q I h => Calls.spliced_nil ⟨[], H, I, .nil, h⟩
theorem qaa (ha : PE X e te) (hr : PA X es t) (hs : starEach (e :: es) X.env = (false, eval e X.env) :: starEach es X.env := by rfl) : PA X (e :: es) (qab te t) := by
  intro pos pins s σ H Q I h
  rw [hs]
  show wpAny _ _ (spliced ((false, eval e X.env) :: backTo pos (starEach es X.env))) _ _ s
  refine Calls.spliced_cons (thn (ha pins s σ H _ I h) fun u s1 ⟨x, H1, I1, r1, q1⟩ => ?_)
  exact thn (hr pos pins s1 σ H1 _ I1 q1) fun us s2 ⟨xs, H2, I2, r2, q2⟩ => ⟨x :: xs, H2, I2, .cons r1 r2, q2⟩
noncomputable def qd6 (t : TA) : TE := fun σ H Q => t σ H fun xs H1 => xs.length ≤ sizeLine ∧ ∀ p, H1 p = none → Q (.ref p) (upd H1 p (.tup xs))
noncomputable def qih (t : TA) : TE := fun σ H Q => t σ H fun xs H1 => xs.length ≤ sizeLine ∧ ∀ p, H1 p = none → Q (.ref p) (upd H1 p (.lst xs))
theorem qbh {x1} (h : PA X es t) : PE X (.Tuple es x1 pos) (qd6 t) := by
  intro pins s σ H Q I hq
  refine wpAny_Tuple_spliced (thn (h pos pins s σ H _ I hq) fun us s1 ⟨xs, H1, I1, r, z, q⟩ => ⟨by rw [← r.length]; exact z, ?_⟩)
  have hf : H1 s1.heap.objs.size = none := I1.hok.fresh (Nat.le_refl _)
  refine ⟨.ref s1.heap.objs.size, upd H1 s1.heap.objs.size (.tup xs), I1.laid (t' := s1.toks) (fun b u e => Heap.get?_push_of_some _ e) (Nat.le_refl _) ?_, rfl, q _ hf⟩
  exact ⟨z, us, r, ⟨_, Heap.get?_push_size _ rfl, rfl, _, rfl⟩⟩
theorem qcN (h : PA X es t) : PE X (.List es pos) (qih t) := by
  intro pins s σ H Q I hq
  refine wpAny_List_spliced (thn (h pos pins s σ H _ I hq) fun us s1 ⟨xs, H1, I1, r, z, q⟩ => ⟨by rw [← r.length]; exact z, ?_⟩)
  have hf : H1 s1.heap.objs.size = none := I1.hok.fresh (Nat.le_refl _)
  refine ⟨.ref s1.heap.objs.size, upd H1 s1.heap.objs.size (.lst xs), I1.laid (t' := s1.toks) (fun b u e => Heap.get?_push_of_some _ e) (Nat.le_refl _) ?_, rfl, q _ hf⟩
  exact ⟨z, us, 0, r, Heap.get?_push_size _ rfl⟩
end
noncomputable abbrev Sp := List V → Hp → VK → XK → Prop
noncomputable abbrev CXT := List Env → Hp → Shared → XK → Value → Shared → Prop
structure Env0 (P : Program) (w : World) (K : PySem.W.Frag) (mg : Str → Option Value) (base : Heap) (A : Around) (outer : List Env) (s : Shared) (H : Hp) : Prop where
  frames : A.frames = some outer
  mod : Mod K mg base
  bs : ∀ b o, base.get? b = some o → s.heap.get? b = some o ∧ H b = none
  bsz : base.objs.size ≤ s.heap.objs.size
  funs : s.heap.FunFrames base outer
  frf : ∀ b ∈ frs outer, H b = none
  hok : HOk P w H s.heap
  bare : AllBare s.gens
  seer : base.NoSeer
  tree : (model P w).prog.given.tree = none
noncomputable def CE (outer : List Env) (P : Program) (w : World) (H : Hp) (s : Shared) (Q : VK) (u : Value) (s' : Shared) : Prop :=
  ∃ v H', s'.os = s.os ∧ AllBare s'.gens ∧ Un (frs outer) [] H H' s.heap s'.heap ∧ HOk P w H' s'.heap ∧ RelV v u ∧ Q v H'
noncomputable def CR (CX : CXT) (outer : List Env) (P : Program) (w : World) (H : Hp) (s : Shared) (Q : VK) (E : XK) (r : Result) (s' : Shared) : Prop :=
  match r with
  | .ok (.ret u) => CE outer P w H s Q u s'
  | .ok _ => False
  | .error e => CX outer H s E e s'
structure FnOk (P : Program) (w : World) (K : PySem.W.Frag) (mg : Str → Option Value) (base : Heap) (CX : CXT) (k : Nat) (f : Addr) (fd : FuncData) (ps : List Str) (sp : Sp) : Prop where
  len : ∀ vs H Q E, sp vs H Q E → vs.length = ps.length
  run : ∀ (A : Around) (outer : List Env) (s : Shared) (H : Hp) (args : Args) (us : List Value) (vs : List V) (Q : VK) (E : XK), Room k A → Env0 P w K mg base A outer s H → BindsTo s fd args (ps.zip us) → Vals vs us → sp vs H Q E →
    codeAny (model P w) A (.call (.ref f) args) (CR CX outer P w H s Q E) s
theorem FnOk.mono {P : Program} {w : World} {K : PySem.W.Frag} {mg : Str → Option Value} {base : Heap} {CX : CXT} {j k : Nat} {f : Addr} {fd : FuncData} {ps : List Str} {sp : Sp} (F : FnOk P w K mg base CX j f fd ps sp) (h : j ≤ k) :
    FnOk P w K mg base CX k f fd ps sp := ⟨F.len, fun A outer s H args us vs Q E hr => F.run A outer s H args us vs Q E (hr.mono h)⟩
theorem FnOk.imp {P : Program} {w : World} {K : PySem.W.Frag} {mg : Str → Option Value} {base : Heap} {CX : CXT} {k : Nat} {f : Addr} {fd : FuncData} {ps : List Str} {sp sp' : Sp} (F : FnOk P w K mg base CX k f fd ps sp)
    (h : ∀ vs H Q E, sp' vs H Q E → sp vs H Q E) : FnOk P w K mg base CX k f fd ps sp' :=
  ⟨fun vs H Q E q => F.len vs H Q E (h _ _ _ _ q), fun A outer s H args us vs Q E hr he hb hv hs => F.run A outer s H args us vs Q E hr he hb hv (h _ _ _ _ hs)⟩
theorem Env0.in1 {P : Program} {w : World} {K : PySem.W.Frag} {mg : Str → Option Value} {base : Heap} {A : Around} {outer : List Env} {s : Shared} {H : Hp} (e : Env0 P w K mg base A outer s H) :
    Env0 P w K mg base A.in1 outer s H := ⟨e.frames, e.mod, e.bs, e.bsz, e.funs, e.frf, e.hok, e.bare, e.seer, e.tree⟩
section
variable {X : Cx} {pins : List (Addr × Obj)} {σ : St} {H : Hp} {s s' : Shared}
theorem Inv.env0 (I : Inv X pins σ H s) : Env0 X.prog X.w X.K X.mg X.base X.A X.stack s H :=
  ⟨I.ok.frames, I.ok.mod, I.bs, Nat.le_trans I.ok.bsz I.sz, I.stack, I.stkFree, I.hok, I.bare, I.ok.seer, I.ok.tree⟩
theorem Inv.after {Q : VK} {u : Value} (I : Inv X pins σ H s) (h : CE X.stack X.prog X.w H s Q u s') : EP X pins σ Q u s' := by
  obtain ⟨v, H', os, bare, un, hok, r, q⟩ := h
  obtain ⟨hh, g, d, t, os'⟩ := s'
  obtain rfl : os' = s.os := os
  exact ⟨v, H', I.call (h' := hh) (g' := g) (d' := d) (t' := t) (ch := []) un hok bare (fun b z => absurd z (by simp)), r, q⟩
end
noncomputable def qaj (sp : Sp) (dvs : List V) (E : XK) (t : TA) : TE := fun σ H Q => t σ H fun vs H1 => sp (vs ++ dvs) H1 Q E
noncomputable def Binds (K : PySem.W.Frag) (fd : FuncData) (ps : List Str) (ds : List Value) : Prop :=
  ∀ (s : Shared) (us : List Value), K.In s.heap → (us ++ ds).length = ps.length → BindsTo s fd ⟨us, []⟩ (ps.zip (us ++ ds))
theorem Binds.all {K : PySem.W.Frag} {fd : FuncData} {ps : List Str} (h : ∀ us : List Value, us.length = ps.length → bindArgs fd ⟨us, []⟩ = pure (ps.zip us)) : Binds K fd ps [] := fun s us _ hl => by
  rw [List.append_nil] at hl ⊢
  exact .of_eq (h us hl)
noncomputable def Passes (CX : CXT) (X : Cx) (E : XK) : Prop := ∀ (pins : List (Addr × Obj)) (σ : St) (H : Hp) (s : Shared) (e : Value) (s' : Shared), Inv X pins σ H s → CX X.stack H s E e s' → X.xe e s'
section
variable {X : Cx} {CX : CXT} {k : Nat} {f C : Addr} {fd : FuncData} {ps : List Str} {sp : Sp} {dvs : List V} {ds : List Value} {E : XK} {x m : Str} {p pos apos : Pos} {e o : Expr} {es : List Expr} {ta : TE} {t : TA}
theorem qrE {pins : List (Addr × Obj)} {σ : St} {H : Hp} {s : Shared} {Q : VK} {us : List Value} {vs : List V} (F : FnOk X.prog X.w X.K X.mg X.base CX k f fd ps sp) (hr : Room k X.A) (hb : Binds X.K fd ps ds) (hd : Vals dvs ds) (hx : Passes CX X E)
    (I : Inv X pins σ H s) (r : Vals vs us) (h : sp (vs ++ dvs) H Q E) : wpAny (model X.prog X.w) X.A (call (.ref f) us) (EP X pins σ Q) X.xe s := by
  have r2 : Vals (vs ++ dvs) (us ++ ds) := r.append hd
  have hl : (us ++ ds).length = ps.length := by rw [← r2.length]; exact F.len _ _ _ _ h
  refine wpAny_call (codeAny_mono (F.run X.A X.stack s H ⟨us, []⟩ (us ++ ds) (vs ++ dvs) Q E hr I.env0 (hb s us I.kIn hl) r2 h) fun r s' hq => ?_)
  cases r with
  | error e => exact hx pins σ H s e s' I hq
  | ok fl =>
    cases fl with
    | ret u => exact I.after hq
    | next => exact False.elim hq
    | brk => exact False.elim hq
    | cont => exact False.elim hq
theorem qqw (F : FnOk X.prog X.w X.K X.mg X.base CX k f fd ps sp) (hr : Room k X.A) (hg : Gl X x) (hm : X.mg x = some (.ref f)) (hk : PySem.W.keepIn X.K (.ref f) = true) (hb : Binds X.K fd ps ds) (hd : Vals dvs ds) (hx : Passes CX X E)
    (ha : PA X (e :: es) t) (hdb : (x == ("__debug__" : Str)) = false := by decide) (he : starEach (e :: es) X.env = (false, eval e X.env) :: starEach es X.env := by rfl) (hpl : (backTo pos (starEach es X.env)).any (·.1) = false := by rfl) :
    PE X (.Call (.Name x p) (e :: es) [] pos) (qaj sp dvs E t) := by
  intro pins s σ H Q I h
  refine wpAny_Call_Name_kw (qmQ I hg hm ?_ hdb)
  refine PySem.W.callWith_K (h₀ := X.base) I.ok.mod.kin hk (thn (ha pos pins s σ H _ I h) fun us s1 ⟨vs, H1, I1, r, q⟩ => ⟨I1.kIn, ?_⟩) he hpl
  exact qrE F hr hb hd hx I1 r q
structure Mk (K : PySem.W.Frag) (C f : Addr) : Prop where
  makes : PySem.W.makesIn K C = true
  init : PySem.W.findIn K (.ref C) "__init__" = some (some (.ref f))
  fn : PySem.W.isFn K (.ref f) = true
  kp : PySem.W.keepIn K (.ref C) = true
end
noncomputable def PK (X : Cx) (kws : List Keyword) (t : TA) : Prop :=
  ∀ (pos : Pos) (pins : List (Addr × Obj)) (s : Shared) (σ : St) (H : Hp) (Q : List V → Hp → Prop), Inv X pins σ H s → t σ H Q → wpAny (model X.prog X.w) X.A (evalAll ((backToKw pos (keywordEach kws X.env)).map (·.2))) (AP X pins σ Q) X.xe s
section
variable {X : Cx} {CX : CXT} {k : Nat} {f C : Addr} {fd : FuncData} {ps ks : List Str} {sp : Sp} {E : XK} {x m : Str} {p pos apos kpos : Pos} {e o : Expr} {es : List Expr} {kws : List Keyword} {te ta : TE} {t tk : TA} {nm : Option Str}
theorem qrF : PK X [] qam := fun _ _ _ _ H Q I h => wpAny_evalAll_nil ⟨[], H, I, .nil, h⟩
theorem qqx (ha : PE X e te) (hr : PK X kws t) : PK X (⟨nm, e, kpos⟩ :: kws) (qab te t) := by
  intro pos pins s σ H Q I h
  show wpAny _ _ (evalAll ((do let v ← eval e X.env; standAt pos; pure v) :: (backToKw pos (keywordEach kws X.env)).map (·.2))) _ _ s
  refine wpAny_evalAll_cons (wpAny_bind (thn (ha pins s σ H _ I h) fun u s1 ⟨x, H1, I1, r1, q1⟩ => wpAny_bind (wpAny_standAt (wpAny_pure ?_))))
  exact thn (hr pos pins s1 σ H1 _ I1 q1) fun us s2 ⟨xs, H2, I2, r2, q2⟩ => ⟨x :: xs, H2, I2, .cons r1 r2, q2⟩
structure KBinds (K : PySem.W.Frag) (fd : FuncData) (ps ks : List Str) (g : List Value → List Value → List Value) (gV : List V → List V → List V) : Prop where
  to : ∀ (s : Shared) (us ws : List Value), K.In s.heap → (g us ws).length = ps.length → BindsTo s fd ⟨us, ks.zip ws⟩ (ps.zip (g us ws))
  rel : ∀ {vs : List V} {us : List Value} {zs : List V} {ws : List Value}, Vals vs us → Vals zs ws → Vals (gV vs zs) (g us ws)
variable {g : List Value → List Value → List Value} {gV : List V → List V → List V}
end
structure FnScope (N P : List Str) (sc : Scope) : Prop where
  kind : sc.kind = .function
  co : sc.isCoroutine = false
  gen : sc.isGenerator = false
  nd : N.Nodup
  pre : N.take P.length = P
  par : ∀ x ∈ P, sc.names.lookup x = some .local ∨ sc.names.lookup x = some .cell
  nofree : ∀ y ∈ sc.names, y.2 ≠ .free
theorem qjH {kindOf : Str → Option NameKind} {x : Str} : ∀ {binds : List (Str × Value)} {m : Str → Option Value}, (∀ v, (x, v) ∉ binds) → bindL kindOf binds m x = m x
  | [], _, _ => rfl
  | (n, v) :: r, m, h => by
    unfold bindL
    rw [qjH fun w hw => h w (List.mem_cons_of_mem _ hw)]
    split
    · have : x ≠ n := by rintro rfl; exact h v List.mem_cons_self
      simp [this]
    · rfl
theorem qjI {kindOf : Str → Option NameKind} {x : Str} : ∀ {binds : List (Str × Value)} {m : Str → Option Value}, (∀ v, (x, v) ∉ binds) → bindC kindOf binds m x = m x
  | [], _, _ => rfl
  | (n, v) :: r, m, h => by
    unfold bindC
    rw [qjI fun w hw => h w (List.mem_cons_of_mem _ hw)]
    split
    · rfl
    · have : x ≠ n := by rintro rfl; exact h v List.mem_cons_self
      simp [this]
theorem qjJ {kindOf : Str → Option NameKind} {x : Str} {v : Value} : ∀ {P : List Str} {vs : List Value} {i : Nat} {m : Str → Option Value}, P.Nodup → P[i]? = some x → vs[i]? = some v → kindOf x = some .local →
    bindL kindOf (P.zip vs) m x = some v
  | [], _, _, _, _, h, _, _ => by simp at h
  | _ :: _, [], _, _, _, _, h, _ => by simp at h
  | p :: P, w :: vs, 0, m, nd, h1, h2, hk => by
    simp at h1 h2; subst h1; subst h2
    show bindL kindOf ((p, w) :: P.zip vs) m p = _
    unfold bindL
    rw [qjH fun v hv => (List.nodup_cons.mp nd).1 (List.of_mem_zip hv).1, if_pos hk]
    simp
  | p :: P, w :: vs, i + 1, m, nd, h1, h2, hk => by
    show bindL kindOf ((p, w) :: P.zip vs) m x = _
    unfold bindL
    exact qjJ (i := i) (List.nodup_cons.mp nd).2 (by simpa using h1) (by simpa using h2) hk
theorem qjK {kindOf : Str → Option NameKind} {x : Str} {v : Value} : ∀ {P : List Str} {vs : List Value} {i : Nat} {m : Str → Option Value}, P.Nodup → P[i]? = some x → vs[i]? = some v → kindOf x ≠ some .local →
    bindC kindOf (P.zip vs) m x = some v
  | [], _, _, _, _, h, _, _ => by simp at h
  | _ :: _, [], _, _, _, _, h, _ => by simp at h
  | p :: P, w :: vs, 0, m, nd, h1, h2, hk => by
    simp at h1 h2; subst h1; subst h2
    show bindC kindOf ((p, w) :: P.zip vs) m p = _
    unfold bindC
    rw [qjI fun v hv => (List.nodup_cons.mp nd).1 (List.of_mem_zip hv).1, if_neg hk]
    simp
  | p :: P, w :: vs, i + 1, m, nd, h1, h2, hk => by
    show bindC kindOf ((p, w) :: P.zip vs) m x = _
    unfold bindC
    exact qjK (i := i) (List.nodup_cons.mp nd).2 (by simpa using h1) (by simpa using h2) hk
noncomputable def start (N : List Str) (vs : List V) : St := vs.map some ++ List.replicate (N.length - vs.length) none
noncomputable def qrq (CX : CXT) (P : Program) (w : World) (K : PySem.W.Frag) (mg : Str → Option Value) (base : Heap) (N : List Str) (qual : Str) (scope : Scope) (f : Addr) (cd : Value) (A : Around) (outer : List Env) (s : Shared) (H : Hp) (E : XK) : Cx where
  prog := P
  w := w
  K := K
  mg := mg
  base := base
  A := A.deeper (envOfC qual scope s.heap.objs.size f cd)
  N := N
  s₀ := s
  H₀ := H
  env := envOfC qual scope s.heap.objs.size f cd
  outer := outer
  stack := envOfC qual scope s.heap.objs.size f cd :: outer
  ex := []
  calm := true
  fn := fun _ => true
  pn := []
  xe := fun e s' => wpAny (model P w) (A.deeper (envOfC qual scope s.heap.objs.size f cd)) (leaving (envOfC qual scope s.heap.objs.size f cd) e) (fun _ s'' => CX outer H s E e s'') (fun e' s'' => CX outer H s E e' s'') s'
theorem qls {sc : Scope} {n : Nat} {x : Str} (h : sc.names.lookup x = some .cell) : ∃ c, (cellsFrom n sc.names []).lookup x = some c := by
  have q := PySem.W.cellsFrom_some sc.names n [] (.inl h)
  exact Option.isSome_iff_exists.mp q
theorem qm3 {CX : CXT} {P : Program} {w : World} {K : PySem.W.Frag} {mg : Str → Option Value} {base : Heap} {N ps : List Str} {qual : Str} {scope : Scope} {f : Addr} {cd : Value} {A : Around} {outer : List Env} {s s1 : Shared} {H : Hp} {E : XK} {us : List Value} {vs : List V}
    (S : FnScope N ps scope) (hd : A.handled = none) (hdp : (A.deeper (envOfC qual scope s.heap.objs.size f cd)).depth + Builtin.pylongFrames < recursionLimit) (e0 : Env0 P w K mg base A outer s H) (hl : vs.length = ps.length) (r : Vals vs us)
    (x : InCallC s s.heap.objs.size (bindL (envOfC qual scope s.heap.objs.size f cd).kindOf (ps.zip us) fun _ => none) (cellsFrom (s.heap.objs.size + 1) scope.names []) (bindC (envOfC qual scope s.heap.objs.size f cd).kindOf (ps.zip us) fun _ => none) s1) :
    Inv (qrq CX P w K mg base N qual scope f cd A outer s H E) [] (start N vs) H s1 := by
  have hpl : ps.length ≤ N.length := by have := congrArg List.length S.pre; rw [List.length_take] at this; omega
  obtain ⟨h1, tk, rfl, hk⟩ := x.done
  have noA : ∀ b : Addr, b ∉ (qrq CX P w K mg base N qual scope f cd A outer s H E).ex := fun b z => absurd (show b ∈ ([] : List Addr) from z) (by simp)
  refine ⟨⟨e0.mod, S.kind, rfl, rfl, Nat.le_refl _, fun y z c h1 h2 => ?_, fun y hy => ?_, fun y c _ h => ?_, fun _ => hd, Around.frames_deeper e0.frames, .inr ⟨rfl, rfl⟩, fun b z => absurd z (noA b), e0.bs, e0.bsz, fun b _ _ => noA b, fun b z => absurd z (noA b), e0.funs, e0.frf, e0.seer, e0.tree, fun s' hk' => PySem.PylongRoom.of (e0.mod.nolimit.keeps hk') hdp (PySem.SeerAt.of (e0.seer.keeps hk') e0.tree (Around.frames_deeper e0.frames) S.gen S.co rfl rfl)⟩,
    rfl, e0.bare, Un.kept hk, ⟨_, x.toInCall.ns, fun i y v h1 h2 h3 => ?_⟩, fun y c h => ⟨_, x.cell y c h⟩, e0.hok.fresh (Nat.le_refl _), fun y c h => ?_, fun p hp => absurd (show p ∈ ([] : List (Addr × Obj)) from hp) (by simp), e0.hok.kept hk, ?_⟩
  · exact name_of_addr x.apart (PySem.mem_of_lookup h1) (PySem.mem_of_lookup h2)
  · have hy : scope.names.lookup y = some .cell ∨ scope.names.lookup y = some .free := hy
    rcases hy with hy | hy
    · exact qls hy
    · exact absurd rfl (S.nofree _ (PySem.mem_of_lookup hy))
  · exact Nat.le_of_lt (x.above y c (PySem.mem_of_lookup h))
  · have hi : i < vs.length := by
      unfold start at h2
      by_cases hi : i < vs.length
      · exact hi
      · rw [List.getElem?_append_right (by simpa using hi)] at h2
        rw [List.getElem?_replicate] at h2
        split at h2 <;> cases h2
    have ha : vs[i]? = some v := by
      unfold start at h2
      rw [List.getElem?_append_left (by simpa using hi), List.getElem?_map] at h2
      cases e : vs[i]? with
      | none => rw [e] at h2; cases h2
      | some a => rw [e] at h2; cases h2; rfl
    obtain ⟨u, hu, rv⟩ := r.get ha
    have hp : ps[i]? = some y := by
      rw [← S.pre, List.getElem?_take_of_lt (by omega)]; exact h1
    have ndP : ps.Nodup := by rw [← S.pre]; exact S.nd.sublist (List.take_sublist _ _)
    refine ⟨u, rv, ?_⟩
    rcases S.par y (List.mem_of_getElem? hp) with k | k
    · exact .inl ⟨k, qjJ ndP hp hu k⟩
    · obtain ⟨c, e⟩ := qls (n := s.heap.objs.size + 1) k
      refine .inr ⟨.inl k, c, e, ?_⟩
      have q := x.cell y c e
      rw [qjK ndP hp hu (by show scope.names.lookup y ≠ _; rw [k]; decide)] at q
      exact q
  · exact e0.hok.fresh (Nat.le_of_lt (x.above y c (PySem.mem_of_lookup h)))
  · unfold start
    show _ = N.length
    rw [List.length_append, List.length_map, List.length_replicate]
    omega
theorem qsI {CX : CXT} {P : Program} {w : World} {K : PySem.W.Frag} {mg : Str → Option Value} {base : Heap} {k : Nat} {f : Addr} {name qual : Str} {params : Arguments} {body : List Stmt} {scope : Scope} {dV kV doc pm cdv ct oc : Value} {an od : Option Addr}
    {osl : Array (Option Value)} {N ps : List Str} {sp : Sp} (lk : K.lookup f = some ⟨oc, od, .func (PySem.W.fnOf name qual params body scope dV kV doc pm an cdv ct), osl⟩) (hcd : PySem.W.codeIn K cdv qual = true) (S : FnScope N ps scope)
    (len : ∀ vs H Q E, sp vs H Q E → vs.length = ps.length)
    (hbody : ∀ (A : Around) (outer : List Env) (s : Shared) (H : Hp) (vs : List V) (Q : VK) (E : XK), Room k (A.deeper (envOfC qual scope s.heap.objs.size f cdv)) → sp vs H Q E →
      ∃ t, PSs (qrq CX P w K mg base N qual scope f cdv A outer s H E) body t ∧ t { nx := fun _ H' => Q .non H', rt := Q } (start N vs) H) :
    FnOk P w K mg base CX (k + 1) f (PySem.W.fnOf name qual params body scope dV kV doc pm an cdv ct) ps sp := by
  refine ⟨len, fun A outer s H args us vs Q E hr e0 hb r hsp => ?_⟩
  have hl := len _ _ _ _ hsp
  have KX : K.In s.heap := e0.mod.kin.keeps fun b o e => (e0.bs b o e).1
  have lim : s.heap.NoLimit := e0.mod.nolimit.keeps fun b o e => (e0.bs b o e).1
  have hkind : ∀ y ∈ ps.zip us, scope.names.lookup y.1 = some .local ∨ (scope.names.lookup y.1 = some .cell ∧ ((cellsFrom (s.heap.objs.size + 1) scope.names []).lookup y.1).isSome = true) := fun ⟨n, v⟩ hy => by
    rcases S.par n (List.of_mem_zip hy).1 with q | q
    · exact .inl q
    · exact .inr ⟨q, PySem.W.cellsFrom_some _ _ _ (.inl q)⟩
  refine codeAny_call_function hr.depth (KX _ _ lk) rfl S.co S.gen rfl (PySem.W.codeRec_of KX hcd) (hb _ _ _ _ ?_)
  refine wpAny_newFunctionEnv_cells S.kind hkind fun env he s1 x => ?_
  subst he
  refine ⟨lim.keeps x.toInCall.keep, codeAny_func ?_⟩
  obtain ⟨t, ht, hq⟩ := hbody A outer s H vs Q E (hr.deeper _) hsp
  have I : Inv (qrq CX P w K mg base N qual scope f cdv A outer s H E) [] (start N vs) H s1 := qm3 S hr.hd (by have := (hr.deeper (envOfC qual scope s.heap.objs.size f cdv)).dp; show _ + 100 < _; omega) e0 hl r x
  refine wpAny_mono (ht [] s1 (start N vs) H _ I hq) (fun fl s' hs => ?_) fun e s' hs => hs
  have fin : ∀ {σ' : St} {H' : Hp} {v : V} {u : Value}, Inv (qrq CX P w K mg base N qual scope f cdv A outer s H E) [] σ' H' s' → RelV v u → Q v H' → CE outer P w H s Q u s' :=
    fun {σ' H' v u} J rv q => ⟨v, H', J.os, J.bare, J.base, J.hok, rv, q⟩
  cases fl with
  | ret u =>
    obtain ⟨v, σ', H', J, rv, q⟩ := hs
    exact fin J rv q
  | next =>
    obtain ⟨σ', H', J, q⟩ := hs
    exact fin (v := V.non) (u := Value.none) J rfl q
  | brk =>
    obtain ⟨_, _, _, q⟩ := hs
    exact False.elim q
  | cont =>
    obtain ⟨_, _, _, q⟩ := hs
    exact False.elim q
end L2
namespace L2
open PySem PySem.Spec PyProof.Rows
section
variable {X : Cx} {x : Str} {p pos : Pos} {e : Expr} {es : List Expr} {t : TA} {id T : String} {r : List V → Hp → VK → Prop}
noncomputable def tCB (r : List V → Hp → VK → Prop) (t : TA) : TE := fun σ H Q => t σ H fun vs H1 => r vs H1 Q
theorem qaC (hc : qd7 X (.builtin id) r) (hg : Gl X x) (hm : X.mg x = none) (hv : bootBuiltins x = some (.builtin id)) (ha : PA X (e :: es) t) (hn : x ≠ "__name__" := by decide) (hdb : (x == ("__debug__" : Str)) = false := by decide)
    (he : starEach (e :: es) X.env = (false, eval e X.env) :: starEach es X.env := by rfl) (hpl : (backTo pos (starEach es X.env)).any (·.1) = false := by rfl) : PE X (.Call (.Name x p) (e :: es) [] pos) (tCB r t) := by
  intro pins s σ H Q I h
  refine wpAny_Call_Name_kw (qf8 I hg hm hv ?_ hn hdb)
  exact PyProof.Rows.callWith_builtin1 (thn (ha pos pins s σ H _ I h) fun us s1 ⟨vs, H1, I1, r1, q1⟩ => hc pins s1 σ H1 vs us Q I1 r1 q1) he hpl
theorem qd8 (hc : qd7 X (.type T) r) (hg : Gl X x) (hm : X.mg x = none) (hv : bootBuiltins x = some (.type T)) (ha : PA X (e :: es) t) (hn : x ≠ "__name__" := by decide) (hdb : (x == ("__debug__" : Str)) = false := by decide)
    (he : starEach (e :: es) X.env = (false, eval e X.env) :: starEach es X.env := by rfl) (hpl : (backTo pos (starEach es X.env)).any (·.1) = false := by rfl) : PE X (.Call (.Name x p) (e :: es) [] pos) (tCB r t) := by
  intro pins s σ H Q I h
  refine wpAny_Call_Name_kw (qf8 I hg hm hv ?_ hn hdb)
  exact PyProof.Rows.callWith_type1 (thn (ha pos pins s σ H _ I h) fun us s1 ⟨vs, H1, I1, r1, q1⟩ => hc pins s1 σ H1 vs us Q I1 r1 q1) he hpl
end
end L2
namespace HT
open PySem PyProof.Rows
section
open PySem.SeqAt
open PySem.AutoSeq1 (wpAny_loadPart')
open PySem.MeetsSeq PySem.MeetsSeq2 PySem.MeetsSeq3
end
section
variable {prog : Program} {w : World} {A : Around} {E : Value → Shared → Prop} {s : Shared}
noncomputable def sIx (n d : Nat) : Option Int → Nat
  | none => d
  | some v => if v < 0 then (v + (n : Int)).toNat else min v.toNat n
end
end HT
namespace L2
open PySem PySem.Spec PyProof.Rows
noncomputable abbrev TO := St → Hp → (Option Int → Hp → Prop) → Prop
noncomputable def PO (X : Cx) (e : Option Expr) (t : TO) : Prop :=
  ∀ (pins : List (Addr × Obj)) (s : Shared) (σ : St) (H : Hp) (Q : Option Int → Hp → Prop), Inv X pins σ H s → t σ H Q →
    wpAny (model X.prog X.w) X.A (evalPart e X.env) (fun u s' => ∃ o H', Inv X pins σ H' s' ∧ IsPart u o ∧ Q o H') X.xe s
noncomputable def qe0 : TO := fun _ H Q => Q none H
noncomputable def qkB (t : TE) : TO := fun σ H Q => t σ H fun x H1 => ∃ i, x = .int i ∧ Q (some i) H1
section
variable {X : Cx} {e : Expr} {te : TE} {lo hi : Option Expr} {tl th : TO} {pos p2 : Pos}
theorem qiK : PO X none qe0 := by
  intro pins s σ H Q I h
  rw [evalPart_none]
  exact wpAny_pure ⟨none, H, I, .none, h⟩
theorem qiL (h : PE X e te) : PO X (some e) (qkB te) := by
  intro pins s σ H Q I hw
  rw [evalPart_some]
  refine thn (h pins s σ H _ I hw) fun u s1 ⟨x, H1, I1, r1, q1⟩ => ?_
  obtain ⟨i, rfl, q⟩ := q1
  obtain ⟨t, rfl⟩ := r1
  exact ⟨some i, H1, I1, .int i t, q⟩
noncomputable def SlR (X : Cx) (r : V → Option Int → Option Int → Hp → VK → Prop) : Prop :=
  ∀ (pins : List (Addr × Obj)) (s : Shared) (σ : St) (H : Hp) (x : V) (v vl vu : Value) (lo hi : Option Int) (sl : Addr) (Q : VK), Inv X pins σ H s → RelV x v → s.heap.IsSliceOf sl vl vu .none → IsPart vl lo → IsPart vu hi → r x lo hi H Q →
    ∃ T id, typeLookup (.type T) "__getitem__" = pure (some (.builtin id)) ∧ s.TypeIs v T ∧ wpAny (model X.prog X.w) X.A (getItem v (.ref sl)) (EP X pins σ Q) X.xe s
noncomputable def tSl (r : V → Option Int → Option Int → Hp → VK → Prop) (te : TE) (tl th : TO) : TE := fun σ H Q => te σ H fun x H1 => tl σ H1 fun l H2 => th σ H2 fun u H3 => r x l u H3 Q
theorem qgw {r : V → Option Int → Option Int → Hp → VK → Prop} (hr : SlR X r) (he : PE X e te) (hl : PO X lo tl) (hu : PO X hi th) : PE X (.Subscript e (.Slice lo hi none p2) pos) (tSl r te tl th) := by
  intro pins s σ H Q I h
  refine Subscript_ (thn (he pins s σ H _ I h) fun v s1 ⟨x, H1, I1, r1, q1⟩ => ?_)
  refine wpAny_Slice (thn (hl pins s1 σ H1 _ I1 q1) fun vl s2 ⟨l, H2, I2, pl, q2⟩ => thn (hu pins s2 σ H2 _ I2 q2) fun vu s3 ⟨u, H3, I3, pu, q3⟩ => ?_)
  rw [evalPart_none]
  refine wpAny_pure ?_
  have I4 : Inv X pins σ H3 { s3 with heap := s3.heap.push { cls := .type "slice", data := .fields #[vl, vu, .none] } } := I3.kept (t' := s3.toks) fun b ob q => Heap.get?_push_of_some _ q
  obtain ⟨T, id, hT, ht, hg⟩ := hr pins { s3 with heap := s3.heap.push { cls := .type "slice", data := .fields #[vl, vu, .none] } } σ H3 x v vl vu l u s3.heap.objs.size Q I4 r1 (Heap.IsSliceOf.new ..) pl pu q3
  show wpAny (model X.prog X.w) X.A (subscriptTail e (.Slice lo hi none p2) v (.ref s3.heap.objs.size)) (EP X pins σ Q) X.xe { s3 with heap := s3.heap.push { cls := .type "slice", data := .fields #[vl, vu, .none] } }
  exact tail_any (ops := [.ref s3.heap.objs.size, v]) ht hT hg (by with_unfolding_all rfl)
noncomputable def qjE (xs : List V) (lo hi : Option Int) : List V := (xs.drop (HT.sIx xs.length 0 lo)).take (HT.sIx xs.length xs.length hi - HT.sIx xs.length 0 lo)
theorem qkC (xs : List V) (lo hi : Option Int) : (qjE xs lo hi).length ≤ xs.length := by
  unfold qjE
  rw [List.length_take, List.length_drop]
  omega
end
end L2
namespace L2
open PySem PySem.Spec PyProof.Rows
noncomputable def ixN (n : Nat) (i : Int) : Option Nat := if 0 ≤ i then (if i < n then some i.toNat else none) else if -(n : Int) ≤ i then some (i + n).toNat else none
noncomputable def atI {α : Type} (xs : List α) (i : Int) : Option α := (ixN xs.length i).bind fun j => xs[j]?
theorem qm4 {n : Nat} {i : Int} {j : Nat} (h : ixN n i = some j) : seqIndex? i n = some j ∧ j < n ∧ -(n : Int) ≤ i ∧ i < n := by
  unfold ixN at h
  by_cases h0 : 0 ≤ i
  · rw [if_pos h0] at h
    by_cases h1 : i < n
    · rw [if_pos h1] at h
      have e : i.toNat = j := Option.some.inj h
      exact ⟨by rw [seqIndex_of h0 h1, e], by omega, by omega, h1⟩
    · rw [if_neg h1] at h; cases h
  · rw [if_neg h0] at h
    by_cases h1 : -(n : Int) ≤ i
    · rw [if_pos h1] at h
      have e : (i + n).toNat = j := Option.some.inj h
      exact ⟨by rw [seqIndex_neg (by omega) h1, e], by omega, h1, by omega⟩
    · rw [if_neg h1] at h; cases h
theorem qkD {α : Type} {xs : List α} {i : Int} {v : α} (h : atI xs i = some v) : ∃ j, seqIndex? i xs.length = some j ∧ xs[j]? = some v ∧ j < xs.length ∧ -(xs.length : Int) ≤ i ∧ i < xs.length := by
  unfold atI at h
  cases e : ixN xs.length i with
  | none => rw [e] at h; cases h
  | some j =>
    rw [e] at h
    obtain ⟨h1, h2, h3, h4⟩ := qm4 e
    exact ⟨j, h1, h, h2, h3, h4⟩
theorem qkE {α : Type} {xs : List α} {j : Nat} {v : α} (h : xs[j]? = some v) : atI xs (j : Int) = some v := by
  have hj : j < xs.length := (List.getElem?_eq_some_iff.mp h).1
  have e : ixN xs.length (j : Int) = some j := by
    unfold ixN
    rw [if_pos (by omega), if_pos (by omega)]; simp
  unfold atI; rw [e]; exact h
theorem atI_last {α : Type} (xs : List α) (v : α) : atI (xs ++ [v]) (-1) = some v := by
  have hl : (xs ++ [v]).length = xs.length + 1 := by simp
  have e : ixN (xs ++ [v]).length (-1) = some xs.length := by
    unfold ixN
    rw [hl, if_neg (by decide), if_pos (by omega)]
    congr 1
    omega
  unfold atI
  rw [e]
  show (xs ++ [v])[xs.length]? = some v
  simp
noncomputable def qqy (b : Expr) : Prop := ∀ o i, subscripted b false o i = operate [o, i] (getItem o i)
noncomputable def IxR (X : Cx) (r : R2) : Prop :=
  ∀ (value slice : Expr) (pins : List (Addr × Obj)) (s : Shared) (σ : St) (H : Hp) (x y : V) (v u : Value) (Q : VK), Inv X pins σ H s → RelV x v → RelV y u → r x y H Q →
    subscripted slice false v u = operate [v, u] (getItem v u) → wpAny (model X.prog X.w) X.A (subscriptTail value slice v u) (EP X pins σ Q) X.xe s
noncomputable def MtR (X : Cx) (id : String) (r : V → List V → Hp → VK → Prop) : Prop :=
  ∀ (pins : List (Addr × Obj)) (s : Shared) (σ : St) (H : Hp) (x : V) (xs : List V) (v : Value) (us : List Value) (Q : VK), Inv X pins σ H s → RelV x v → Vals xs us → r x xs H Q →
    wpAny (model X.prog X.w) X.A (call (.builtin id) (v :: us)) (EP X pins σ Q) X.xe s
section
variable {X : Cx} {a b : Expr} {ta tb : TE} {pos : Pos}
theorem qaB {r : R2} (hr : IxR X r) (ha : PE X a ta) (hb : PE X b tb) (hs : qqy b) : PE X (.Subscript a b pos) (tOp r ta tb) := by
  intro pins s σ H Q I h
  exact Subscript_ (qsG ha hb I h fun v u s2 x y H2 I2 rx ry q => hr a b pins s2 σ H2 x y v u Q I2 rx ry q (hs _ _))
noncomputable def qtt (K : PySem.W.Frag) : R2 := fun x y H Q => ∃ p xs i v, x = .ref p ∧ y = .int i ∧ SqL K H p xs ∧ atI xs i = some v ∧ Q v H
noncomputable def qtu (K : PySem.W.Frag) : R2 := fun x y H Q => ∃ p xs i v, x = .ref p ∧ y = .int i ∧ SqT K H p xs ∧ atI xs i = some v ∧ Q v H
theorem qm5 : IxR X (qtt X.K) := by
  intro value slice pins s σ H x y v u Q I rx ry h hs
  obtain ⟨p, xs, i, z, rfl, rfl, hq, he, q⟩ := h
  cases rx
  obtain ⟨t, rfl⟩ := ry
  obtain ⟨its, r, pl, hz⟩ := I.list hq
  obtain ⟨j, h1, h2, h3, h4, h5⟩ := qkD he
  obtain ⟨w, ew, rw'⟩ := r.get h2
  have hl := r.length
  have hn := qig
  have fin : EP X pins σ Q w s := ⟨z, H, I, rw', q⟩
  by_cases h0 : 0 ≤ i
  · have hj : i.toNat = j := by
      rw [seqIndex_of h0 h5] at h1
      exact Option.some.inj h1
    exact item_listR pl.isList h0 (by omega) (by rw [hj]; simpa using ew) fin hs
  · have hj : (i + (its.toArray.size : Int)).toNat = j := by
      rw [seqIndex_neg (by omega) h4] at h1
      rw [List.size_toArray, ← hl]
      exact Option.some.inj h1
    exact subscriptTail_builtinR (x := w) pl.isList.typeIs slot_list_getitem.lookup
      (wpAny_getItem_list_neg (Q := fun r s' => r = w ∧ EP X pins σ Q r s') pl.isList (by omega) (by rw [List.size_toArray] <;> omega) (by omega) (by rw [hj]; simpa using ew) ⟨rfl, fin⟩) hs
theorem qrG : IxR X (qtu X.K) := by
  intro value slice pins s σ H x y v u Q I rx ry h hs
  obtain ⟨p, xs, i, z, rfl, rfl, hq, he, q⟩ := h
  cases rx
  obtain ⟨t, rfl⟩ := ry
  obtain ⟨its, r, pl, hz⟩ := I.tuple hq
  obtain ⟨j, h1, h2, h3, h4, h5⟩ := qkD he
  obtain ⟨w, ew, rw'⟩ := r.get h2
  have hl := r.length
  have hn := qig
  have fin : EP X pins σ Q w s := ⟨z, H, I, rw', q⟩
  exact subscriptTail_builtinR (x := w) pl.typeIs slot_tuple_getitem.lookup
    (getItem_tuple (j := j) (Q := fun r s' => r = w ∧ EP X pins σ Q r s') pl (by omega) (by omega) (by rw [List.size_toArray, ← hl]; exact h1) (by simpa using ew) ⟨rfl, fin⟩) hs
theorem qmf (its : List Value) (n j : Nat) (u : Value) : Obj.mapSeq (·.setIfInBounds j u) { cls := .type "list", data := .seq its.toArray n } = { cls := .type "list", data := .seq (its.set j u).toArray n } := by
  simp [Obj.mapSeq]
theorem Inv.lst {pins : List (Addr × Obj)} {σ : St} {H : Hp} {s : Shared} {p : Addr} {xs : List V} (I : Inv X pins σ H s) (h : H p = some (.lst xs)) :
    ∃ (its : List Value) (n : Nat), Vals xs its ∧ s.heap.get? p = some { cls := .type "list", data := .seq its.toArray n } ∧ xs.length ≤ sizeLine := by
  obtain ⟨z, its, n, r, e⟩ := I.hok p _ h
  exact ⟨its, n, r, e, z⟩
theorem Inv.lstUpd {pins : List (Addr × Obj)} {σ : St} {H : Hp} {s : Shared} {p : Addr} {xs ys : List V} {its its' : List Value} {n n' : Nat} {f : Obj → Obj} (I : Inv X pins σ H s) (h : H p = some (.lst xs))
    (ho : s.heap.get? p = some { cls := .type "list", data := .seq its.toArray n }) (hf : f { cls := .type "list", data := .seq its.toArray n } = { cls := .type "list", data := .seq its'.toArray n' }) (r : Vals ys its') (hz : ys.length ≤ sizeLine) (t : Nat) :
    Inv X pins σ (upd H p (.lst ys)) { s with heap := s.heap.update p f, toks := t } := by
  have e : (s.heap.update p f).get? p = some { cls := .type "list", data := .seq its'.toArray n' } := by
    rw [Heap.get?_update_self f ho (by rw [hf] <;> rfl), hf]
  refine I.write (x := p) (e := p) (by rw [h]; trivial) (.inl rfl) (fun b u hb q => (Heap.get?_update_other _ _ (Ne.symm hb)).trans q) ⟨_, e⟩ ?_
  exact ⟨hz, its', n', r, e⟩
noncomputable def qgM : V → V → V → Hp → (Hp → Prop) → Prop := fun o i v H Q => ∃ p xs k j, o = .ref p ∧ i = .int k ∧ H p = some (.lst xs) ∧ ixN xs.length k = some j ∧ Q (upd H p (.lst (xs.set j v)))
theorem qc9 : PSet X qgM := by
  intro pins s σ H o i v ov iv u Q I ro ri rv h
  obtain ⟨p, xs, k, j, rfl, rfl, hp, hj, q⟩ := h
  cases ro
  obtain ⟨t, rfl⟩ := ri
  obtain ⟨its, n, r, ho, hz⟩ := I.lst hp
  obtain ⟨h1, h2, h3, h4⟩ := qm4 hj
  have hl := r.length
  have hn := qig
  have I' : Inv X pins σ (upd H p (.lst (xs.set j v))) { s with heap := s.heap.update p (Obj.mapSeq (·.setIfInBounds j u)) } :=
    I.lstUpd hp ho (qmf its n j u) (r.set rv j) (by rw [List.length_set]; exact hz) s.toks
  by_cases h0 : 0 ≤ k
  · have hk : k.toNat = j := by
      rw [seqIndex_of h0 h4] at h1
      exact Option.some.inj h1
    exact PySem.W.ki_setAt ho h0 (by omega) (by rw [List.size_toArray, ← hl]; exact h4) (by rw [hk]; exact ⟨_, I', q⟩)
  · have hk : (k + (its.toArray.size : Int)).toNat = j := by
      rw [seqIndex_neg (by omega) h3] at h1
      rw [List.size_toArray, ← hl]
      exact Option.some.inj h1
    exact PySem.W.ki_setBack ho (by omega) (by rw [List.size_toArray, ← hl]; exact h3) (by omega) (by rw [hk]; exact ⟨_, I', q⟩)
theorem qjL (lo hi : Option Int) (n : Nat) : (sliceBounds lo hi none n).1 = ((HT.sIx n 0 lo : Nat) : Int) ∧ (sliceBounds lo hi none n).2.1 = ((HT.sIx n n hi : Nat) : Int) ∧ (sliceBounds lo hi none n).2.2 = 1 := by
  refine ⟨?_, ?_, rfl⟩
  · cases lo with
    | none => simp [sliceBounds, HT.sIx]
    | some i =>
      simp only [sliceBounds, HT.sIx, Option.getD_none, show (1 : Int) > 0 by decide, if_true]
      by_cases h : i < 0
      · simp only [h, if_true] <;> omega
      · simp only [h, if_false] <;> omega
  · cases hi with
    | none => simp [sliceBounds, HT.sIx]
    | some i =>
      simp only [sliceBounds, HT.sIx, Option.getD_none, show (1 : Int) > 0 by decide, if_true]
      by_cases h : i < 0
      · simp only [h, if_true] <;> omega
      · simp only [h, if_false] <;> omega
theorem qiM (its : List Value) (lo hi : Option Int) : slicePick its.toArray lo hi none = ((its.drop (HT.sIx its.length 0 lo)).take (HT.sIx its.length its.length hi - HT.sIx its.length 0 lo)).toArray := by
  obtain ⟨h1, h2, h3⟩ := qjL lo hi its.toArray.size
  unfold slicePick
  rw [h1, h2, h3]
  simp only [sliceRange_one, pick_run, List.size_toArray] <;> rfl
noncomputable def qtv (K : PySem.W.Frag) : V → Option Int → Option Int → Hp → VK → Prop := fun x lo hi H Q => ∃ a xs, x = .ref a ∧ SqL K H a xs ∧ ∀ p, H p = none → Q (.ref p) (upd H p (.lst (qjE xs lo hi)))
theorem qqz : SlR X (qtv X.K) := by
  intro pins s σ H x v vl vu lo hi sl Q I rx hs pl pu h
  obtain ⟨a, xs, rfl, hx, q⟩ := h
  cases rx
  obtain ⟨its, r, ht, hz⟩ := I.list hx
  have hlen := r.length
  refine ⟨"list", _, slot_list_getitem.lookup, ht.isList.typeIs, ?_⟩
  refine wpAny_getItem_list_slice ht.isList hs pl pu .none (by simp) ?_ (by rw [List.size_toArray] <;> omega)
  rw [qiM, ← hlen]
  refine ⟨.ref s.heap.objs.size, _, I.laid (t' := s.toks) (o := .lst (qjE xs lo hi)) (fun b ob q => Heap.get?_push_of_some _ q) (Nat.le_refl _) ?_, rfl, q _ (I.hok.fresh (Nat.le_refl _))⟩
  exact ⟨Nat.le_trans (qkC xs lo hi) hz, _, 0, (r.drop (HT.sIx xs.length 0 lo)).take (HT.sIx xs.length xs.length hi - HT.sIx xs.length 0 lo), Heap.get?_push_size _ rfl⟩
theorem qd9 : qd7 X (.builtin "len") (fun xs H Q => ∃ p ys, xs = [.ref p] ∧ (SqL X.K H p ys ∨ SqT X.K H p ys) ∧ Q (.int ys.length) H) := by
  intro pins s σ H xs us Q I r h
  obtain ⟨p, ys, rfl, hq, q⟩ := h
  obtain ⟨u, rfl, rx⟩ := qiJ r
  cases rx
  have hn := qig
  rcases hq with hq | hq
  · obtain ⟨its, r', pl, hz⟩ := I.list hq
    have hlen := r'.length
    exact Calls.call_len_list pl.isList (by simp only [List.size_toArray] <;> omega) ⟨.int ys.length, H, I.tok _, ⟨s.toks + 1, by rw [List.size_toArray, hlen]⟩, q⟩
  · obtain ⟨its, r', pl, hz⟩ := I.tuple hq
    have hlen := r'.length
    exact len_tuple pl (by simp only [List.size_toArray] <;> omega) ⟨.int ys.length, H, I.tok _, ⟨s.toks + 1, by rw [List.size_toArray, hlen]⟩, q⟩
theorem qjM : qd7 X (.type "list") (fun xs H Q => ∃ p ys, xs = [.ref p] ∧ (SqL X.K H p ys ∨ SqT X.K H p ys) ∧ ∀ l, H l = none → Q (.ref l) (upd H l (.lst ys))) := by
  intro pins s σ H xs us Q I r h
  obtain ⟨p, ys, rfl, hq, q⟩ := h
  obtain ⟨u, rfl, rx⟩ := qiJ r
  cases rx
  have fin : ∀ (its : List Value), Vals ys its → ys.length ≤ sizeLine → ∀ (h' : Heap) (c' : Nat), (∀ b o', s.heap.get? b = some o' → h'.get? b = some o') →
      h'.get? s.heap.objs.size = some { cls := .type "list", dict := none, data := .seq its.toArray c', slots := #[] } → EP X pins σ Q (.ref s.heap.objs.size) { s with heap := h' } := fun its r' hz h' c' kp e =>
    ⟨.ref s.heap.objs.size, _, I.laid (t' := s.toks) kp (Nat.le_refl _) (show ObjOk X.prog X.w _ h' _ (.lst ys) from ⟨hz, its, c', r', e⟩), rfl, q _ (I.hok.fresh (Nat.le_refl _))⟩
  rcases hq with hq | hq
  · obtain ⟨its, r', pl, hz⟩ := I.list hq
    have hlen := r'.length
    obtain ⟨o, ho, hc, n, hd⟩ := pl.isList
    exact call_list_seq p (.inl rfl) ho hc hd (fun h' c' kp e => fin its r' hz h' c' kp e) (by simp only [List.size_toArray] <;> omega)
  · obtain ⟨its, r', pl, hz⟩ := I.tuple hq
    have hlen := r'.length
    obtain ⟨o, ho, hc, n, hd⟩ := pl
    exact call_list_seq p (.inr rfl) ho hc hd (fun h' c' kp e => fin its r' hz h' c' kp e) (by simp only [List.size_toArray] <;> omega)
theorem qiN : qd7 X (.type "tuple") (fun xs H Q => ∃ p ys, xs = [.ref p] ∧ ((SqL X.K H p ys ∧ ∀ l, H l = none → Q (.ref l) (upd H l (.tup ys))) ∨ (SqT X.K H p ys ∧ Q (.ref p) H))) := by
  intro pins s σ H xs us Q I r h
  obtain ⟨p, ys, rfl, h⟩ := h
  obtain ⟨u, rfl, rx⟩ := qiJ r
  cases rx
  rcases h with ⟨hq, q⟩ | ⟨hq, q⟩
  · obtain ⟨its, r', pl, hz⟩ := I.list hq
    have hlen := r'.length
    refine call_tuple_list pl.isList (fun h' kp => ?_) (by simp only [List.size_toArray] <;> omega)
    have I1 : Inv X pins σ H { s with heap := h' } := I.kept (t' := s.toks) kp
    have I2 : Inv X pins σ (upd H h'.objs.size (.tup ys)) { s with heap := h'.push { cls := .type "tuple", data := .seq its.toArray } } :=
      I1.laid (t' := s.toks) (fun b o e => Heap.get?_push_of_some _ e) (Nat.le_refl _) (show ObjOk X.prog X.w _ _ _ (.tup ys) from ⟨hz, its, r', IsTup.new _ _⟩)
    exact ⟨.ref h'.objs.size, _, I2, rfl, q _ (I1.hok.fresh (Nat.le_refl _))⟩
  · obtain ⟨its, r', pl, hz⟩ := I.tuple hq
    exact call_tuple_same pl ⟨.ref p, H, I, rfl, q⟩
noncomputable def tyV (K : PySem.W.Frag) (T : String) (x : V) (H : Hp) : Prop := match x with
  | .str _ => T = "str"
  | .int _ => T = "int"
  | .ref p => (T = "list" ∧ ∃ xs, SqL K H p xs) ∨ (T = "tuple" ∧ ∃ o, K.lookup p = some o ∧ o.cls = .type "tuple" ∧ o.dict = none) ∨
      (T = "dict" ∧ ((∃ kvs, H p = some (.dK kvs)) ∨ ∃ kvs, H p = some (.dT kvs))) ∨ (T = "set" ∧ ∃ S n, H p = some (.set S n))
  | _ => False
theorem qrH {pins : List (Addr × Obj)} {σ : St} {H : Hp} {s : Shared} {T : String} {x : V} {v : Value} (I : Inv X pins σ H s) (r : RelV x v) (ty : tyV X.K T x H) :
    s.TypeIs v T ∧ ∀ a, v = .ref a → ∃ ob, s.heap.get? a = some ob ∧ ob.dict = none := by
  cases x with
  | str z =>
    obtain ⟨t, rfl⟩ := r
    cases (show T = "str" from ty)
    exact ⟨typeIs_str s z t, fun _ e => nomatch e⟩
  | int i =>
    obtain ⟨t, rfl⟩ := r
    cases (show T = "int" from ty)
    exact ⟨typeIs_int s i t, fun _ e => nomatch e⟩
  | ref p =>
    cases r
    rcases ty with ⟨rfl, xs, hq⟩ | ⟨rfl, o, hk, hc, hd⟩ | ⟨rfl, hk⟩ | ⟨rfl, S, n, hk⟩
    · obtain ⟨its, _, pl, _⟩ := I.list hq
      refine ⟨pl.isList.typeIs, fun a e => ?_⟩
      cases e
      obtain ⟨o, n, e, c, hd, _⟩ := pl
      exact ⟨o, e, hd⟩
    · refine ⟨⟨o, I.kIn p o hk, hc⟩, fun a e => ?_⟩
      cases e
      exact ⟨o, I.kIn _ o hk, hd⟩
    · have z : ∃ o, s.heap.get? p = some o ∧ o.ExactDict := by
        rcases hk with ⟨kvs, hk⟩ | ⟨kvs, hk⟩
        · obtain ⟨_, _, _, _, o, _, _, e, ex, _⟩ := I.hok p _ hk
          exact ⟨o, e, ex⟩
        · obtain ⟨_, _, _, _, o, _, _, e, ex, _⟩ := I.hok p _ hk
          exact ⟨o, e, ex⟩
      obtain ⟨o, e, ex⟩ := z
      refine ⟨⟨o, e, ex.1⟩, fun a e2 => ?_⟩
      cases e2
      exact ⟨o, e, ex.2.1⟩
    · obtain ⟨o, _, _, _, e, ex, _⟩ := I.hok p _ hk
      refine ⟨⟨o, e, ex.1⟩, fun a e2 => ?_⟩
      cases e2
      exact ⟨o, e, ex.2.1⟩
  | _ => exact False.elim ty
noncomputable def qs9 (K : PySem.W.Frag) (T : String) (r : V → List V → Hp → VK → Prop) (to : TE) : TE := fun σ H Q => to σ H fun x H1 => tyV K T x H1 ∧ r x [] H1 Q
noncomputable def tBM (K : PySem.W.Frag) (T : String) (r : V → List V → Hp → VK → Prop) (to : TE) (t : TA) : TE := fun σ H Q => to σ H fun x H1 => tyV K T x H1 ∧ t σ H1 fun xs H2 => r x xs H2 Q
variable {o e : Expr} {es : List Expr} {to : TE} {t : TA} {name : Str} {apos cpos : Pos} {T id : String} {r : V → List V → Hp → VK → Prop}
theorem qsJ (pa : PlainAttrs T) (slot : Slot T name id) (hty : typeOf (.builtin id) = pure (.type "method_descriptor")) (hm : MtR X id r) (ho : PE X o to) (ha : PA X (e :: es) t)
    (hbase : attributeBase o name X.env (eval o X.env) = eval o X.env := by rfl)
    (hfew : ((backTo cpos (starEach (e :: es) X.env)).all (fun x => !x.1) && (backToKw cpos (keywordEach [] X.env)).all (fun x => x.1.isSome)
      && decide ((e :: es).length + ([] : List Keyword).length + (if ([] : List Keyword).isEmpty then 0 else 1) < 30)) = true := by rfl)
    (hline : (apos.endLine == cpos.line) = true := by rfl) (hs : starEach (e :: es) X.env = (false, eval e X.env) :: starEach es X.env := by rfl) (hplain : (backTo cpos (starEach es X.env)).any (·.1) = false := by rfl) :
    PE X (.Call (.Attribute o name apos) (e :: es) [] cpos) (tBM X.K T r to t) := by
  intro pins s σ H Q I h
  refine wpAny_Call_method_late hbase hfew hline rfl (thn (ho pins s σ H _ I h) fun v s1 ⟨x, H1, I1, r1, ty, q1⟩ => ?_)
  obtain ⟨h1, h2⟩ := qrH I1 r1 ty
  refine ⟨T, id, pa, slot, hty, h1, h2, ?_⟩
  have hA := ha cpos pins s1 σ H1 _ I1 q1
  rw [hs] at hA ⊢
  refine Calls.callWith_builtin (by show (false || (backTo cpos (starEach es X.env)).any (·.1)) = false; rw [hplain] <;> rfl) (Calls.evalArgs_plain ?_)
  exact thn hA fun us s2 ⟨vs, H2, I2, r2, q2⟩ => hm pins s2 σ H2 x vs v us Q I2 r1 r2 q2
end
end L2
namespace L2
open PySem PySem.Spec PyProof.Rows
noncomputable def MtM (X : Cx) (id : String) (r : V → List V → Hp → VK → Prop) : Prop :=
  ∀ (pins : List (Addr × Obj)) (s : Shared) (σ : St) (H : Hp) (x : V) (xs : List V) (v : Value) (us : List Value) (Q : VK), Inv X pins σ H s → RelV x v → Vals xs us → r x xs H Q →
    wpAny (model X.prog X.w) X.A (call (.builtin id) (v :: us)) (EP X pins σ Q) X.xe s
theorem Vals.one : ∀ {x : V} {us : List Value}, Vals [x] us → ∃ u, us = [u] ∧ RelV x u
  | _, _, .cons r .nil => ⟨_, rfl, r⟩
theorem Vals.two : ∀ {x y : V} {us : List Value}, Vals [x, y] us → ∃ u v, us = [u, v] ∧ RelV x u ∧ RelV y v
  | _, _, _, .cons r (.cons q .nil) => ⟨_, _, rfl, r, q⟩
theorem Vals.zero : ∀ {us : List Value}, Vals [] us → us = []
  | _, .nil => rfl
theorem Vals.dropLast {xs : List V} {us : List Value} (h : Vals xs us) : Vals xs.dropLast us.dropLast := by
  induction h with
  | nil => exact .nil
  | cons r t ih =>
    cases t with
    | nil => exact .nil
    | cons q t' => exact .cons r ih
theorem Vals.rep {xs : List V} {us : List Value} (h : Vals xs us) : ∀ k : Nat, Vals (List.replicate k xs).flatten (List.replicate k us).flatten
  | 0 => .nil
  | k + 1 => by
    rw [List.replicate_succ, List.replicate_succ, List.flatten_cons, List.flatten_cons]
    exact Vals.append h (Vals.rep h k)
theorem qjN (its : List Value) : ∀ (k : Nat) (acc : List Value),
    List.foldl (fun x1 x2 => x1 ++ x2) acc.toArray (List.replicate k its.toArray) = (acc ++ (List.replicate k its).flatten).toArray
  | 0, acc => by simp
  | k + 1, acc => by
    have e : acc.toArray ++ its.toArray = (acc ++ its).toArray := by simp
    have e2 : (acc ++ its) ++ (List.replicate k its).flatten = acc ++ (List.replicate (k + 1) its).flatten := by
      rw [List.replicate_succ, List.flatten_cons, List.append_assoc]
    rw [← e2, ← qjN its k (acc ++ its), ← e, List.replicate_succ, List.foldl_cons]
section
variable {X : Cx} {pins : List (Addr × Obj)} {σ : St} {H : Hp} {s : Shared} {l b : Addr} {xs ys zs : List V}
theorem Inv.lset {its its' : List Value} {n : Nat} {f : Array Value → Array Value} {t' : Nat} (I : Inv X pins σ H s) (hH : H l = some (.lst xs))
    (e : s.heap.get? l = some { cls := .type "list", data := .seq its.toArray n }) (hf : f its.toArray = its'.toArray) (hv : Vals ys its') (hz : ys.length ≤ sizeLine) :
    Inv X pins σ (upd H l (.lst ys)) { s with heap := s.heap.update l (Obj.mapSeq f), toks := t' } := by
  have q := PySem.IsL.update e f
  rw [hf] at q
  refine I.write (x := l) (e := l) (by rw [hH]; exact trivial) (.inl rfl) (fun b' u hb hu => (Heap.get?_update_other s.heap (Obj.mapSeq f) (Ne.symm hb)).trans hu) ⟨_, q⟩ ?_
  exact ⟨hz, its', _, hv, q⟩
theorem Inv.lnew {its : List Value} {t' : Nat} (I : Inv X pins σ H s) (hv : Vals ys its) (hz : ys.length ≤ sizeLine) :
    Inv X pins σ (upd H s.heap.objs.size (.lst ys)) { s with heap := s.heap.push { cls := .type "list", data := .seq its.toArray }, toks := t' } :=
  I.laid (fun _ _ q => Heap.get?_push_of_some _ q) (Nat.le_refl _) ⟨hz, its, 0, hv, Heap.get?_push_size _ rfl⟩
theorem Inv.fresh (I : Inv X pins σ H s) : H s.heap.objs.size = none := I.hok.fresh (Nat.le_refl _)
theorem Inv.lstM (I : Inv X pins σ H s) (hH : H l = some (.lst xs)) : xs.length ≤ sizeLine ∧ ∃ (its : List Value) (n : Nat), Vals xs its ∧ xs.length = its.length ∧ s.heap.get? l = some { cls := .type "list", data := .seq its.toArray n } := by
  obtain ⟨z, its, n, r, e⟩ := I.hok l _ hH
  exact ⟨z, its, n, r, r.length, e⟩
theorem qlt {n : Nat} (h : n ≤ sizeLine) : Builtin.List.listTooLong n = false := by
  unfold Builtin.List.listTooLong
  exact decide_eq_false (by omega)
end
section
variable {X : Cx}
noncomputable def qm6 : V → List V → Hp → VK → Prop := fun x vs H Q => ∃ l xs y, x = .ref l ∧ vs = [y] ∧ H l = some (.lst xs) ∧ xs.length < sizeLine ∧ Q .non (upd H l (.lst (xs ++ [y])))
noncomputable def qiO : V → List V → Hp → VK → Prop := fun x vs H Q => ∃ l b xs zs, x = .ref l ∧ vs = [.ref b] ∧ H l = some (.lst xs) ∧ H b = some (.lst zs) ∧ xs.length + zs.length ≤ sizeLine ∧ Q .non (upd H l (.lst (xs ++ zs)))
theorem qm7 : MtM X "list.extend" qiO := by
  intro pins s σ H x vs v us Q I rx rv h
  obtain ⟨l, b, xs, zs, rfl, rfl, hH, hB, hz, q⟩ := h
  cases rx
  obtain ⟨u, rfl, ru⟩ := rv.one
  cases ru
  obtain ⟨z, its, n, r, hl, e⟩ := I.lstM hH
  obtain ⟨z2, its2, n2, r2, hl2, e2⟩ := I.lstM hB
  have hsz : its.toArray.size + its2.toArray.size ≤ sizeLine := by rw [List.size_toArray, List.size_toArray]; omega
  have hlong : ¬ (!its.toArray.isEmpty && Builtin.List.listTooLong (its.toArray.size + its2.toArray.size)) = true := by
    rw [qlt hsz, Bool.and_false]
    exact Bool.false_ne_true
  refine call_meets F.slot_list_extend ⟨_, e, rfl⟩ F.entry_list_extend (F.args_list_extend_2 _ _)
    (AutoSeq1.list_extend_list_list_0 l its.toArray n b its2.toArray n2 hlong (by rw [List.size_toArray]; omega) (by omega)) ⟨e, e2, ?_⟩
  refine ⟨.non, _, I.lset (its' := its ++ its2) hH e (by simp) (r.append r2) ?_, rfl, q⟩
  rw [List.length_append]
  omega
noncomputable def qta : V → List V → Hp → VK → Prop := fun x vs H Q => ∃ l xs y, x = .ref l ∧ vs = [] ∧ H l = some (.lst xs) ∧ xs[xs.length - 1]? = some y ∧ Q y (upd H l (.lst xs.dropLast))
noncomputable def qsx : R2 := fun x y H Q => ∃ l b xs zs, x = .ref l ∧ y = .ref b ∧ H l = some (.lst xs) ∧ H b = some (.lst zs) ∧ xs.length + zs.length ≤ sizeLine ∧ ∀ p, H p = none → Q (.ref p) (upd H p (.lst (xs ++ zs)))
theorem qrI : OpR X (binaryOp .Add) qsx := by
  intro pins s σ H x y v u Q I rx ry h
  obtain ⟨l, b, xs, zs, rfl, rfl, hH, hB, hz, q⟩ := h
  cases rx
  cases ry
  obtain ⟨z, its, n, r, hl, e⟩ := I.lstM hH
  obtain ⟨z2, its2, n2, r2, hl2, e2⟩ := I.lstM hB
  refine PySem.P.add_list e e2 ?_ (by rw [List.size_toArray, List.size_toArray]; omega)
  have ea : its.toArray ++ its2.toArray = (its ++ its2).toArray := by simp
  rw [ea]
  exact ⟨.ref _, _, I.lnew (t' := s.toks) (r.append r2) (by rw [List.length_append]; omega), rfl, q _ I.fresh⟩
noncomputable def qpV : R2 := fun x y H Q => ∃ l k xs, x = .ref l ∧ y = .int k ∧ H l = some (.lst xs) ∧ -(2 ^ 63) ≤ k ∧ k < 2 ^ 63 ∧ xs.length * k.toNat ≤ sizeLine ∧
  ∀ p, H p = none → Q (.ref p) (upd H p (.lst (List.replicate k.toNat xs).flatten))
theorem qqA {α : Type} (xs : List α) (k : Nat) : (List.replicate k xs).flatten.length = k * xs.length := by
  induction k with
  | zero => simp
  | succ k ih => rw [List.replicate_succ, List.flatten_cons, List.length_append, ih, Nat.succ_mul, Nat.add_comm]
theorem qjO : OpR X (binaryOp .Mult) qpV := by
  intro pins s σ H x y v u Q I rx ry h
  obtain ⟨l, k, xs, rfl, rfl, hH, h1, h2, hz, q⟩ := h
  cases rx
  obtain ⟨t, rfl⟩ := ry
  obtain ⟨z, its, n, r, hl, e⟩ := I.lstM hH
  have hlen : its.toArray.size * k.toNat ≤ sizeLine := by rw [List.size_toArray, ← hl]; exact hz
  have hcap : ¬ its.toArray.size * k.toNat > (2 ^ 63 - 1) / 8 := by
    have : (sizeLine : Nat) ≤ (2 ^ 63 - 1) / 8 := by decide
    omega
  have hfit : ¬ (!Builtin.List.listFitsIndex k) = true := by
    rw [fitsIndex_both h1 h2]
    exact Bool.false_ne_true
  have hlong : ¬ Builtin.List.listTooLong (its.toArray.size * k.toNat) = true := by
    rw [qlt hlen]
    exact Bool.false_ne_true
  have hnew : List.foldl (fun x1 x2 => x1 ++ x2) #[] (List.replicate (if its.toArray.isEmpty = true then 0 else k.toNat) its.toArray) = (List.replicate k.toNat its).flatten.toArray := by
    have f0 : ∀ m : Nat, List.foldl (fun x1 x2 => x1 ++ x2) #[] (List.replicate m its.toArray) = (List.replicate m its).flatten.toArray := fun m => by
      have := qjN its m []
      rw [List.nil_append] at this
      exact this
    rw [f0]
    cases its with
    | nil => simp
    | cons a r' => rw [if_neg (by simp)]
  refine wpAny_binaryOp_repeat_ref (T := "list") (U := "int") (by decide) ⟨_, e, rfl⟩ (fun s' => typeIs_int s' k t) noFill_list_mul F.fills_int_mul F.slot_int_rmul repeat_list F.slot_int_index.lookup
    (call_meets F.slot_int_rmul (typeIs_int s k t) F.entry_int_rmul (F.args_int_rmul_2 _ _) (int___rmul___int_list k t l its.toArray n)
      ⟨e, rfl, ⟨_, e, rfl⟩, call_meets F.slot_list_mul ⟨_, e, rfl⟩ F.entry_list_mul (F.args_list_mul_2 _ _) (AutoListH.list___mul___list_int_3 l its.toArray n k t hfit hcap hlong) ⟨e, ?_⟩⟩)
  rw [hnew]
  exact ⟨.ref _, _, I.lnew (t' := s.toks) (r.rep k.toNat) (by rw [qqA, Nat.mul_comm]; exact hz), rfl, q _ I.fresh⟩
end
section
variable {prog : Program} {w : World} {A : Around} {E : Value → Shared → Prop} {s : Shared}
end
section
variable {X : Cx}
end
end L2
namespace Att
open PySem PySem.W PySem.Calls PyProof.Rows
theorem qgN {P : Params} {h : Heap} : ∀ (ns : List Int) (vs : List Value), WellAll P h vs (ns.map WData.int) → IntsAre vs ns := by
  intro ns
  induction ns with
  | nil =>
    intro vs w
    rw [List.map_nil] at w
    cases w
    exact .nil
  | cons n ns ih =>
    intro vs w
    rw [List.map_cons] at w
    cases w with
    | cons a b =>
      cases a
      exact .cons _ _ (ih _ b)
theorem qm8 {l : OpenLaw} {n : Nat} (hn : l.most = some n) {P : Params} {h : Heap} {args : List WData} {vals : List Value}
    (hpre : l.row.toRowW.claim.pre args = true) (hwl : WellAll P h vals args) :
    ∃ a vs ns, vals = [Value.ref a] ∧ args = [WData.list (ns.map WData.int)] ∧ h.get? a = some { cls := .type "list", data := .seq vs.toArray } ∧ IntsAre vs ns ∧ ns.length ≤ n := by
  have hsh : WShape.hasAll [] args [.list .int] = true := (pre_splitW hpre).1
  have hc : l.pre.holds [] { args := args } = true := (pre_splitW hpre).2
  obtain ⟨d, r, rfl, h1, h2⟩ := hasAllW_cons hsh
  obtain rfl := hasAllW_nil h2
  obtain ⟨xs, rfl, h3⟩ := hasW_list h1
  obtain ⟨ns, rfl⟩ := items_int h3
  have hlen : ns.length ≤ n := by
    unfold OpenLaw.pre at hc
    have h4 : (WTm.not (.lt (.lit (.int (n : Int))) (.len (.arg 0)))).holds [] { args := [.list (ns.map .int)] } = true := by
      have h4 := (holds_andW hc).1
      rw [hn] at h4
      exact h4
    have h5 := condW_of h4 (w_not (w_lt w_lit (w_len_list (w_arg rfl))))
    rw [List.length_map] at h5
    refine Nat.le_of_not_lt fun q => ?_
    have q' : (n : Int) < ((ns.length : Nat) : Int) := by omega
    first
      | (rw [decide_eq_true q'] at h5; exact absurd h5 (by decide))
      | (simp at h5; omega)
  cases hwl with
  | cons w1 w2 =>
    cases w2
    cases w1 with
    | list ho hall => exact ⟨_, _, ns, rfl, rfl, ho, qgN ns _ hall, hlen⟩
theorem qm9 (l : OpenLaw) (args : List WData) : l.row.toRowW.claim.post args (.bool true) args = true :=
  postW_of (r := l.row.toRowW) (X := (true == true))
    (show WShape.has [] (.bool true) .bool = true by first | rfl | decide | simp [WShape.has, WShape.arms, WShape.armsAll])
    (show (WTm.eq .res (.lit (.bool true))).value [] { args := args, res := some (.bool true), after := args } = some (.bool (true == true)) from w_eq_bool (w_res rfl) w_lit) rfl
theorem attach_call {l : OpenLaw} {n : Nat} {q : Program} {loose : List Str} {XP : (Str → Option Value) → Heap → Prop} {YP : World → Heap → Prop} {d : DefRec}
    (hn : l.most = some n) (hdf : d.params.defaults = [])
    (call : ∀ (w : World) (s₀ s₁ : Shared) (mg mb : Str → Option Value) (fa : Addr) (o : Obj) (pm cd doc : Value) (a : Addr) (vs : List Value) (ns : List Int),
      Ground q loose [] XP w s₀ mg mb s₁.heap → YP w s₁.heap →
      s₁.heap.get? fa = some o → o.data = .func (docDef d.name d.params d.body d.scope pm cd doc) → s₁.heap.CodeRec cd d.name → mg d.name = some (.ref fa) →
      s₁.heap.get? a = some { cls := .type "list", data := .seq vs.toArray } → IntsAre vs ns → ns.length ≤ n → s₁.gens = #[] →
      codeAny (model l.prog w) callerA (.call (.ref fa) ⟨[.ref a], []⟩) (fun r s' => r = .ok (.ret (.bool true)) ∧ OldK s₁.heap s'.heap ∧ s'.os = s₁.os ∧ AllBare s'.gens) s₁) :
    WalkO q loose XP YP l.row.toRowW d [] (fun f vs => PySem.call f vs) := by
  intro w s₀ s₁ mg mb G Y fa o pm cd doc dV kV ho hd hcd hD hmg hg args vals as hpre hlay hrd hwl hlo
  obtain rfl : dV = .none := Dflts.none hD hdf
  obtain rfl : kV = .none := Dflts.noKw hD
  obtain ⟨a, vs, ns, rfl, rfl, hobj, hints, hlen⟩ := qm8 hn hpre hwl
  refine enter_call (codeAny_mono (call w s₀ s₁ mg mb fa o pm cd doc a vs ns G Y ho (fd_plain hd) hcd hmg hobj hints hlen hg) fun r s' hq => ?_)
  obtain ⟨rfl, h2, h3, h4⟩ := hq
  exact ⟨.inl ⟨.bool true, .bool true, [], rfl, fun _ => rfl, .bool true, qm9 l _, fun _ => ⟨List.Pairwise.nil, fun _ hm => (nomatch hm)⟩⟩, h2, h3, h4⟩
section
variable {prog : Program} {w : World} {A : Around} {E : Value → Shared → Prop} {s : Shared} {K : Frag}
end
end Att
namespace L2
open PySem PySem.Spec PyProof.Rows
theorem qjP : ∀ {vs : List Value} {ns : List Int}, IntsAre vs ns → Vals (ns.map V.int) vs
  | _, _, .nil => .nil
  | _, _, .cons n t h => .cons ⟨t, rfl⟩ (qjP h)
noncomputable def Only (H : Hp) : Prop := ∀ b, H b = none ∨ ∃ o xs, H b = some (.frz o (.lst xs))
theorem qo2 {P : Program} {w : World} {K : PySem.W.Frag} {mg mb : Str → Option Value} {CX : CXT} {k : Nat} {fa a : Addr} {fd : FuncData} {x : Str} {sp : Sp} {s₁ : Shared} {vs : List Value} {ns : List Int}
    (KX : K.In s₁.heap) (hns : s₁.heap.Ns mainGlobals mg) (hb : s₁.heap.Ns builtinsNs mb) (hbb : ∀ x : Str, x ≠ "__name__" → mb x = bootBuiltins x) (hlim : s₁.heap.NoLimit) (hseer : s₁.heap.NoSeer) (htree : (model P w).prog.given.tree = none) (hg : s₁.gens = #[])
    (ha : s₁.heap.get? a = some { cls := .type "list", data := .seq vs.toArray }) (hi : IntsAre vs ns) (hl : ns.length ≤ sizeLine) (hr : Room k callerA)
    (F : ∀ base : Heap, K.In base → base.Ns mainGlobals mg → FnOk P w K mg base CX k fa fd [x] sp) (hbind : ∀ (s : Shared) (u : Value), BindsTo s fd ⟨[u], []⟩ [(x, u)])
    (hsp : ∀ H : Hp, Only H → SqL K H a (ns.map V.int) → sp [.ref a] H (fun v _ => v = .bl true) fun _ _ _ => False)
    (hCX : ∀ H e s', CX [] H s₁ (fun _ _ _ => False) e s' → False) :
    codeAny (model P w) callerA (.call (.ref fa) ⟨[.ref a], []⟩) (fun r s' => r = .ok (.ret (.bool true)) ∧ OldK s₁.heap s'.heap ∧ s'.os = s₁.os ∧ AllBare s'.gens) s₁ := by
  have rv := qjP hi
  have lenV := hi.length
  have core : ∀ H : Hp, Only H → SqL K H a (ns.map V.int) → HOk P w H s₁.heap → (∀ b, H b ≠ none → b = a) → (H a ≠ none → K.lookup a = none) →
      codeAny (model P w) callerA (.call (.ref fa) ⟨[.ref a], []⟩) (fun r s' => r = .ok (.ret (.bool true)) ∧ OldK s₁.heap s'.heap ∧ s'.os = s₁.os ∧ AllBare s'.gens) s₁ := by
    intro H hO hS hok hA hK
    have base_of : ∀ {b : Addr} {o : Obj}, s₁.heap.get? b = some o → H b = none → (qoV s₁.heap H).get? b = some o := fun e n => qoW e n
    have noA : ∀ {b : Addr} {o : Obj} {es : Array DictEntry} {ep : Nat}, s₁.heap.get? b = some o → o.data = .dict es ep → H b = none := fun {b o es ep} e d => by
      cases q : H b with
      | none => rfl
      | some u =>
        have e' : b = a := hA b (by rw [q]; simp)
        subst e'
        rw [ha] at e; cases e
        have d' : Data.seq vs.toArray _ = Data.dict es ep := d
        cases d'
    have nsK : ∀ {b : Addr} {m : Str → Option Value}, s₁.heap.Ns b m → (qoV s₁.heap H).Ns b m := fun {b m} ⟨o, es, ep, e, d, r⟩ => ⟨o, es, ep, base_of e (noA e d), d, r⟩
    have hKb : K.In (qoV s₁.heap H) := fun b o e => base_of (KX b o e) (by
      cases q : H b with
      | none => rfl
      | some u =>
        have e' : b = a := hA b (by rw [q]; simp)
        subst e'
        rw [hK (by rw [q]; simp)] at e; cases e)
    have hM : Mod K mg (qoV s₁.heap H) := ⟨hKb, nsK hns, ⟨mb, nsK hb, hbb⟩, let ⟨mc, h1, h2⟩ := hlim; ⟨mc, nsK h1, h2⟩⟩
    have hSe : (qoV s₁.heap H).NoSeer := ⟨let ⟨mc, a, b⟩ := hseer.statics; ⟨mc, nsK a, b⟩, let ⟨mc, a, b⟩ := hseer.mods; ⟨mc, nsK a, b⟩, let ⟨mc, a, b⟩ := hseer.imp; ⟨mc, nsK a, b⟩,
      let ⟨mg', bm, ob, a', b', c', d', e'⟩ := hseer.main; ⟨mg', bm, ob, nsK a', b', base_of c' (by
        cases q : H bm with
        | none => rfl
        | some u =>
          have z : bm = a := hA bm (by rw [q]; simp)
          subst z
          rw [ha] at c'; cases c'
          simp at d'), d', e'⟩⟩
    have e0 : Env0 P w K mg (qoV s₁.heap H) callerA [] s₁ H := ⟨rfl, hM, fun b o e => qqk e, Nat.le_of_eq (qmP _ _), trivial, fun b hb => absurd (show b ∈ ([] : List Addr) from hb) (by simp), hok, .of_eq hg, hSe, htree⟩
    refine codeAny_mono ((F _ hKb (nsK hns)).run callerA [] s₁ H ⟨[.ref a], []⟩ [.ref a] [.ref a] _ _ hr e0 (hbind s₁ (.ref a)) (.cons rfl .nil) (hsp H hO hS)) fun r s' h => ?_
    cases r with
    | error e => exact (hCX H e s' h).elim
    | ok fl =>
      cases fl with
      | next => exact False.elim h
      | brk => exact False.elim h
      | cont => exact False.elim h
      | ret u =>
        obtain ⟨v, H', os, bare, un, hok', r', q⟩ := h
        have q' : v = .bl true := q
        subst q'
        obtain rfl : u = Value.bool true := r'
        refine ⟨rfl, OldK.of_keep fun b o e => ?_, os, bare⟩
        cases q : H b with
        | none => exact un.keep b o e q (by intro z; exact absurd (show b ∈ ([] : List Addr) from z) (by simp)) (by simp)
        | some u =>
          rcases hO b with z | ⟨ob, xs, z⟩
          · rw [q] at z; cases z
          · have z2 := un.frzs b ob _ z
            obtain ⟨e1, _⟩ := hok b _ z
            obtain ⟨e2, _⟩ := hok' b _ z2
            rw [e] at e1; cases e1
            exact e2
  cases hk : K.lookup a with
  | some o =>
    have e := KX a o hk
    rw [ha] at e
    cases e
    refine core (fun _ => none) (fun _ => .inl rfl) (.inr ⟨_, vs.toArray, _, hk, rfl, rfl, rfl, by rw [List.size_toArray, lenV]; exact hl, by simpa using rv⟩) (fun b u z => by have z' : (none : Option HO) = some u := z; cases z') (fun b z => absurd rfl z) fun z => absurd rfl z
  | none =>
    refine core (fun b => if b = a then some (.frz { cls := .type "list", data := .seq vs.toArray } (.lst (ns.map V.int))) else none) (fun b => ?_) (.inl (.inr ⟨{ cls := .type "list", data := .seq vs.toArray }, if_pos rfl⟩)) (fun b u z => ?_) (fun b z => ?_) fun _ => hk
    · by_cases hb : b = a
      · exact .inr ⟨_, _, if_pos hb⟩
      · exact .inl (if_neg hb)
    · by_cases hb : b = a
      · have z' := (if_pos hb).symm.trans z
        cases z'
        subst hb
        exact ⟨ha, by rw [List.length_map]; exact hl, vs, _, rv, ha⟩
      · have z' := (if_neg hb).symm.trans z
        cases z'
    · by_cases hb : b = a
      · exact hb
      · exact absurd (if_neg hb) z
end L2
namespace L2
open PySem PySem.Spec PyProof.Rows
theorem walk_of {l : PySem.W.OpenLaw} {n k : Nat} {q : Program} {loose : List Str} {XP : (Str → Option Value) → Heap → Prop} {YP : World → Heap → Prop} {d : DefRec} {K : Params → PySem.W.Frag} {CX : World → CXT} {sp : World → Sp} {x : Str}
    (hn : l.most = some n) (hn2 : n ≤ sizeLine) (hdf : d.params.defaults = []) (hq : importsNone q = true) (htree : ∀ w, (model l.prog w).prog.given.tree = none) (hr : Room k callerA)
    (hY : ∀ (w : World) (h : Heap), YP w h → (K w.params).In h)
    (F : ∀ (w : World) (mg : Str → Option Value) (fa : Addr) (h : Heap), (K w.params).In h → h.Ns mainGlobals mg → mg d.name = some (.ref fa) →
      ∃ fd : FuncData, (∀ (s : Shared) (u : Value), BindsTo s fd ⟨[u], []⟩ [(x, u)]) ∧
        ∀ base : Heap, (K w.params).In base → base.Ns mainGlobals mg → FnOk l.prog w (K w.params) mg base (CX w) k fa fd [x] (sp w))
    (hsp : ∀ (w : World) (H : Hp) (a : Addr) (ns : List Int), ns.length ≤ n → Only H → SqL (K w.params) H a (ns.map V.int) → sp w [.ref a] H (fun v _ => v = .bl true) fun _ _ _ => False)
    (hCX : ∀ (w : World) (H : Hp) (s : Shared) (e : Value) (s' : Shared), CX w [] H s (fun _ _ _ => False) e s' → False) :
    PySem.W.WalkO q loose XP YP l.row.toRowW d [] (fun f vs => PySem.call f vs) := by
  refine Att.attach_call hn hdf fun w s₀ s₁ mg mb fa o pm cd doc a vs ns G Y ho hd hcd hmg hobj hints hlen hg => ?_
  have KX := hY w _ Y
  obtain ⟨fd, hb, hF⟩ := F w mg fa _ KX G.T.g hmg
  exact qo2 KX G.T.g G.T.b G.T.builtins G.T.nolimit (G.T.seer hq) (htree w) hg hobj hints (Nat.le_trans hlen hn2) hr hF hb (fun H hO hS => hsp w H a ns hlen hO hS) fun H e s' => hCX w H s₁ e s'
end L2
namespace L2
open PySem PySem.Spec PyProof.Rows
noncomputable def qe1 (s : Stmt) : Arguments := match s with
  | .FunctionDef _ a _ _ _ _ _ _ _ _ => a
  | _ => { posonlyargs := [], args := [], vararg := none, kwonlyargs := [], kw_defaults := [], kwarg := none, defaults := [] }
noncomputable def qea (s : Stmt) : List Stmt := match s with
  | .FunctionDef _ _ b _ _ _ _ _ _ _ => b
  | _ => []
noncomputable def qak (s : Stmt) : Scope := match s with
  | .FunctionDef _ _ _ _ _ _ sc _ _ _ => sc
  | _ => { kind := .function, names := [], isGenerator := false, isCoroutine := false }
noncomputable abbrev CX0 : CXT := fun _ _ _ _ _ _ => False
noncomputable abbrev E0 : XK := fun _ _ _ => False
theorem qsK {X : Cx} : Passes CX0 X E0 := fun _ _ _ _ _ _ _ h => h.elim
structure Fun (K : PySem.W.Frag) (x qual : Str) (st : Stmt) (f : Addr) (fd : FuncData) : Prop where
  ex : ∃ (oc : Value) (od : Option Addr) (kV doc pm : Value) (an : Option Addr) (cdv ct : Value) (osl : Array (Option Value)),
    fd = PySem.W.fnOf x qual (qe1 st) (qea st) (qak st) .none kV doc pm an cdv ct ∧ K.lookup f = some ⟨oc, od, .func fd, osl⟩ ∧ PySem.W.codeIn K cdv qual = true
  kp : PySem.W.keepIn K (.ref f) = true
section
variable {P : Program} {w : World} {K : PySem.W.Frag} {mg : Str → Option Value} {base : Heap}
theorem Fun.ok {x qual : Str} {st : Stmt} {f : Addr} {fd : FuncData} {N ps : List Str} {k : Nat} {sp : Sp} (F : Fun K x qual st f fd) (S : FnScope N ps (qak st)) (len : ∀ vs H Q E, sp vs H Q E → vs.length = ps.length)
    (hbody : ∀ (cdv : Value) (A : Around) (outer : List Env) (s : Shared) (H : Hp) (vs : List V) (Q : VK) (E : XK), Room k (A.deeper (envOfC qual (qak st) s.heap.objs.size f cdv)) → sp vs H Q E →
      ∃ t, PSs (qrq CX0 P w K mg base N qual (qak st) f cdv A outer s H E).nox (qea st) t ∧ t { nx := fun _ H' => Q .non H', rt := Q } (start N vs) H) : FnOk P w K mg base CX0 (k + 1) f fd ps sp := by
  obtain ⟨oc, od, kV, doc, pm, an, cdv, ct, osl, rfl, lk, hcd⟩ := F.ex
  refine qsI lk hcd S len fun A outer s H vs Q E hr hsp => ?_
  obtain ⟨t, h, q⟩ := hbody cdv A outer s H vs Q E hr hsp
  exact ⟨t, h.nox, q⟩
theorem Fun.binds {x qual : Str} {st : Stmt} {f : Addr} {fd : FuncData} {ps : List Str} (F : Fun K x qual st f fd)
    (h : ∀ (kV doc pm : Value) (an : Option Addr) (cdv ct : Value) (us : List Value), us.length = ps.length → bindArgs (PySem.W.fnOf x qual (qe1 st) (qea st) (qak st) .none kV doc pm an cdv ct) ⟨us, []⟩ = pure (ps.zip us)) : Binds K fd ps [] := by
  obtain ⟨oc, od, kV, doc, pm, an, cdv, ct, osl, rfl, lk, hcd⟩ := F.ex
  exact .all (h kV doc pm an cdv ct)
theorem qrJ {x qual : Str} {st : Stmt} {f : Addr} {oc : Value} {od an : Option Addr} {osl : Array (Option Value)} {kV doc pm cdv ct : Value} (l : K.lookup f = some ⟨oc, od, .func (PySem.W.fnOf x qual (qe1 st) (qea st) (qak st) .none kV doc pm an cdv ct), osl⟩)
    (c : PySem.W.codeIn K cdv qual = true) (k : PySem.W.keepIn K (.ref f) = true) : Fun K x qual st f (PySem.W.fnOf x qual (qe1 st) (qea st) (qak st) .none kV doc pm an cdv ct) := ⟨⟨oc, od, kV, doc, pm, an, cdv, ct, osl, rfl, l, c⟩, k⟩
end
section
variable {X : Cx}
theorem pv (i : Nat) {x : Str} {pos : Pos} (hN : X.N[i]? = some x := by rfl) (hv : Vis X.env.scope x := by first | exact Or.inl rfl | exact Or.inr (Or.inl rfl) | exact Or.inr (Or.inr rfl)) (hd : (x == ("__debug__" : Str)) = false := by decide)
    (hcd : (x == ("__classdict__" : Str)) = false := by decide) : PE X (.Name x pos) (qaf i) := qrz hN hv hd hcd
end
theorem qc5 {c A B : Prop} [Decidable c] (h1 : c → A) (h2 : ¬ c → B) : if c then A else B := by
  by_cases h : c
  · rw [if_pos h]
    exact h1 h
  · rw [if_neg h]
    exact h2 h
noncomputable def Same (H H' : Hp) : Prop := ∀ b o, H b = some o → H' b = some o
theorem Same.refl (H : Hp) : Same H H := fun _ _ h => h
theorem Same.trans {H H1 H2 : Hp} (a : Same H H1) (b : Same H1 H2) : Same H H2 := fun c o h => b c o (a c o h)
theorem Same.free {H H' : Hp} (e : Same H H') {l : Addr} (h : H' l = Option.none) : H l = Option.none := by
  cases q : H l with
  | none => rfl
  | some o =>
    rw [e l o q] at h
    cases h
theorem Same.seq {K : PySem.W.Frag} {H H' : Hp} {a : Addr} {xs : List V} (e : Same H H') (h : SqL K H a xs) : SqL K H' a xs := by
  rcases h with (h | ⟨o, h⟩) | h
  · exact .inl (.inl (e _ _ h))
  · exact .inl (.inr ⟨o, e _ _ h⟩)
  · exact .inr h
end L2
local macro_rules | `(tactic| omega) => `(tactic| lia)
namespace Bs.Hd
open PySem PySem.Spec PyProof.Rows L2
set_option maxRecDepth 100000
set_option maxHeartbeats 4000000
noncomputable def top (i:Nat):Stmt:=PySem.Challenge.pw_backslope_k23_whole_a_field.main.body.getD i (.Pass ⟨0,0,0,0⟩)
noncomputable abbrev qcw:Stmt:=top 2
noncomputable abbrev qiP:Stmt:=top 3
noncomputable abbrev qgO:Stmt:=top 4
noncomputable abbrev qdI:Stmt:=top 5
noncomputable abbrev qeb:Stmt:=top 6
noncomputable abbrev qe2:Stmt:=top 7
noncomputable abbrev qfI:Stmt:=top 8
noncomputable abbrev qfJ:Stmt:=top 9
noncomputable abbrev qdJ:Stmt:=top 10
noncomputable abbrev qb6:Stmt:=top 11
noncomputable abbrev qcO:Stmt:=top 12
noncomputable abbrev qcP:Stmt:=top 13
noncomputable abbrev qcx:Stmt:=top 14
noncomputable abbrev qdm:Stmt:=top 15
noncomputable abbrev qec:Stmt:=top 16
noncomputable abbrev qdn:Stmt:=top 17
noncomputable abbrev qdo:Stmt:=top 18
noncomputable abbrev qdK:Stmt:=top 19
noncomputable abbrev qcQ:Stmt:=top 20
noncomputable abbrev qgP:Stmt:=top 21
noncomputable abbrev qcc:Stmt:=top 22
noncomputable abbrev qed:Stmt:=top 23
noncomputable abbrev qkF:Stmt:=top 25
noncomputable abbrev qna:Stmt:=top 26
noncomputable abbrev qkG:Stmt:=top 27
noncomputable abbrev qkH:Stmt:=top 28
noncomputable abbrev qnb:Stmt:=top 29
noncomputable abbrev qnc:Stmt:=top 31
noncomputable abbrev qgQ:Stmt:=top 32
noncomputable abbrev qe3:Stmt:=top 33
noncomputable abbrev qe4:Stmt:=top 34
noncomputable abbrev qiQ:Stmt:=top 35
noncomputable abbrev qgR:Stmt:=top 36
noncomputable abbrev qgS:Stmt:=top 37
noncomputable abbrev qfK:Stmt:=top 38
noncomputable abbrev qgT:Stmt:=top 39
noncomputable abbrev qiR:Stmt:=top 40
noncomputable abbrev qgU:Stmt:=top 41
noncomputable abbrev qfL:Stmt:=top 43
noncomputable abbrev qiS:Stmt:=top 44
noncomputable abbrev qfM:Stmt:=top 45
noncomputable abbrev qiT:Stmt:=top 46
noncomputable abbrev qgV:Stmt:=top 47
noncomputable abbrev qgW:Stmt:=top 48
noncomputable abbrev qiU:Stmt:=top 49
noncomputable abbrev qgX:Stmt:=top 50
noncomputable abbrev qnd:Stmt:=top 52
noncomputable abbrev qiV:Stmt:=top 53
noncomputable abbrev qgY:Stmt:=top 54
noncomputable abbrev qdL:Stmt:=top 55
noncomputable abbrev qe5:Stmt:=top 56
noncomputable abbrev qcR:Stmt:=top 57
noncomputable abbrev qe6:Stmt:=top 58
noncomputable abbrev qdM:Stmt:=top 59
noncomputable abbrev qgZ:Stmt:=top 60
noncomputable abbrev qmg:Stmt:=top 61
noncomputable abbrev N:Value:=.none
noncomputable abbrev S (x:Str) (t:Tok):Value:=.str x t
noncomputable abbrev I (i:Int):Value:=.int i 0
noncomputable abbrev R (a:Addr):Value:=.ref a
noncomputable def en (P:Params) (k:Str) (t:Tok) (v:Value):DictEntry:=⟨PyData.keyHash P k,.str k t,v⟩
noncomputable def cdO (n:Str) (t:Tok) (l c u:Int) (a:Addr) (b g d e f:Value) (x:Int) (y:Tok):Obj:=⟨.type "code", none,.fields #[S n t,S n (t+1),S "/claim/cut.py" (t+2),I l,I c,I 0,I 0,I u,R a,.bool true,I 181,b,g,d,e,f,I x,I l,S "/claim/cut.py" y],#[]⟩
noncomputable def fnO (n:Str) (s:Stmt) (pm:Value) (c:Addr):Obj:=⟨.type "function", none,.func (PySem.W.fnOf n n (qe1 s) (qea s) (qak s) .none .none .none pm none (.ref c) .none),#[]⟩
noncomputable abbrev mo0:Value:=S "backslope.wholes" 187
noncomputable abbrev mo1:Value:=S "backslope.numbers" 393
noncomputable abbrev mo2:Value:=S "backslope.polys" 436
noncomputable abbrev mo3:Value:=S "backslope.fractions" 526
noncomputable abbrev mo4:Value:=S "law_backslope_k23_whole_a_field" 603
noncomputable def hp (P:Params):W.Frag:=[
  (3,⟨.type "dict", none,.dict #[en P "__name__" 165 (S "law_backslope_k23_whole_a_field" 603),en P "__doc__" 166 N,en P "__package__" 167 N,en P "__loader__" 168 (.builtin "__main__.__loader__#opaque"),en P "__spec__" 169 N,en P "__annotations__" 170 (R 6),en P "__builtins__" 171 (R 4),en P "__file__" 173 (S "/claim/cut.py" 172),en P "__cached__" 174 N,en P "EXPONENTS" 197 (R 15),en P "common_divisor" 206 (R 22),en P "raised" 216 (R 29),en P "content" 222 (R 34),en P "row_trimmed" 230 (R 41),en P "row_parted" 236 (R 46),en P "row_times" 249 (R 53),en P "row_over" 263 (R 60),en P "row_less" 269 (R 65),en P "strand_rest" 275 (R 70),en P "strand_shortened" 281 (R 75),en P "row_shortened" 288 (R 82),en P "strand_euclid" 297 (R 89),en P "inverse_modulo" 311 (R 96),en P "rests_modulo" 317 (R 101),en P "row_modulo" 325 (R 108),en P "monic_modulo" 331 (R 113),en P "split_modulo" 346 (R 120),en P "rest_modulo" 355 (R 127),en P "euclid_modulo" 365 (R 134),en P "nearest" 374 (R 141),en P "common_by_prime" 380 (R 146),en P "row_common" 392 (R 153),en P "ratio" 403 (R 160),en P "plus" 411 (R 167),en P "minus" 419 (R 174),en P "times" 427 (R 181),en P "over" 435 (R 188),en P "poly" 445 (R 195),en P "cleared" 451 (R 200),en P "uncleared" 457 (R 205),en P "number_of" 465 (R 212),en P "p_plus" 471 (R 217),en P "p_minus" 477 (R 222),en P "p_times" 487 (R 229),en P "p_scaled" 493 (R 234),en P "p_split" 510 (R 241),en P "common" 519 (R 248),en P "p_slope" 525 (R 253),en P "fraction" 536 (R 260),en P "evened" 545 (R 267),en P "quotient" 553 (R 274),en P "f_plus" 565 (R 281),en P "f_minus" 573 (R 288),en P "f_times" 583 (R 295),en P "f_over" 591 (R 302),en P "f_slope" 602 (R 309),en P "_law_at" 612 (R 316),en P "_law_rest" 624 (R 323),en P "_law_digit" 633 (R 330),en P "_law_number_by" 643 (R 337),en P "_law_poly_by" 649 (R 342),en P "_law_fraction_by" 660 (R 349),en P "_law_long_by" 666 (R 354),en P "_law_by_slopes" 675 (R 361),en P "_law_right" 684 (R 368),en P "law" 695 (R 375)] 66,#[]⟩),
  (15,⟨.type "tuple", none,.seq #[(.int 61 189),(.int 127 190),(.int 521 191),(.int 1279 192),(.int 4423 193),(.int 9941 194),(.int 21701 195),(.int 44497 196)] 0,#[]⟩),
  (21,cdO "common_divisor" 198 3 2 3 16 (R 17) N (R 18) (R 19) (R 20) 204 205),
  (22,fnO "common_divisor" (top 2) mo0 21),
  (28,cdO "raised" 207 9 2 3 23 (R 24) N (R 25) (R 26) (R 27) 214 215),
  (29,fnO "raised" (top 3) mo0 28),
  (33,cdO "content" 217 19 2 3 30 (R 31) N N N (R 32) 220 221),
  (34,fnO "content" (top 4) mo0 33),
  (40,cdO "row_trimmed" 223 26 1 3 35 (R 36) N (R 37) (R 38) (R 39) 228 229),
  (41,fnO "row_trimmed" (top 5) mo0 40),
  (45,cdO "row_parted" 231 31 2 3 42 (R 43) N N N (R 44) 234 235),
  (46,fnO "row_parted" (top 6) mo0 45),
  (52,cdO "row_times" 237 33 2 3 47 (R 48) N (R 49) (R 50) (R 51) 247 248),
  (53,fnO "row_times" (top 7) mo0 52),
  (59,cdO "row_over" 250 42 2 3 54 (R 55) N (R 56) (R 57) (R 58) 261 262),
  (60,fnO "row_over" (top 8) mo0 59),
  (64,cdO "row_less" 264 55 5 3 61 (R 62) N N N (R 63) 267 268),
  (65,fnO "row_less" (top 9) mo0 64),
  (69,cdO "strand_rest" 270 61 2 3 66 (R 67) N N N (R 68) 273 274),
  (70,fnO "strand_rest" (top 10) mo0 69),
  (74,cdO "strand_shortened" 276 71 1 3 71 (R 72) N N N (R 73) 279 280),
  (75,fnO "strand_shortened" (top 11) mo0 74),
  (81,cdO "row_shortened" 282 76 1 3 76 (R 77) N (R 78) (R 79) (R 80) 286 287),
  (82,fnO "row_shortened" (top 12) mo0 81),
  (88,cdO "strand_euclid" 289 78 2 3 83 (R 84) N (R 85) (R 86) (R 87) 295 296),
  (89,fnO "strand_euclid" (top 13) mo0 88),
  (95,cdO "inverse_modulo" 298 86 2 3 90 (R 91) N (R 92) (R 93) (R 94) 309 310),
  (96,fnO "inverse_modulo" (top 14) mo0 95),
  (100,cdO "rests_modulo" 312 100 2 3 97 (R 98) N N N (R 99) 315 316),
  (101,fnO "rests_modulo" (top 15) mo0 100),
  (107,cdO "row_modulo" 318 102 2 3 102 (R 103) N (R 104) (R 105) (R 106) 323 324),
  (108,fnO "row_modulo" (top 16) mo0 107),
  (112,cdO "monic_modulo" 326 104 2 3 109 (R 110) N N N (R 111) 329 330),
  (113,fnO "monic_modulo" (top 17) mo0 112),
  (119,cdO "split_modulo" 332 109 3 3 114 (R 115) N (R 116) (R 117) (R 118) 344 345),
  (120,fnO "split_modulo" (top 18) mo0 119),
  (126,cdO "rest_modulo" 347 120 3 3 121 (R 122) N (R 123) (R 124) (R 125) 353 354),
  (127,fnO "rest_modulo" (top 19) mo0 126),
  (133,cdO "euclid_modulo" 356 122 3 3 128 (R 129) N (R 130) (R 131) (R 132) 363 364),
  (134,fnO "euclid_modulo" (top 20) mo0 133),
  (140,cdO "nearest" 366 130 2 3 135 (R 136) N (R 137) (R 138) (R 139) 372 373),
  (141,fnO "nearest" (top 21) mo0 140),
  (145,cdO "common_by_prime" 375 133 3 3 142 (R 143) N N N (R 144) 378 379),
  (146,fnO "common_by_prime" (top 22) mo0 145),
  (152,cdO "row_common" 381 142 2 3 147 (R 148) N (R 149) (R 150) (R 151) 390 391),
  (153,fnO "row_common" (top 23) mo0 152),
  (159,cdO "ratio" 395 152 2 3 154 (R 155) N (R 156) (R 157) (R 158) 401 402),
  (160,fnO "ratio" (top 25) mo1 159),
  (166,cdO "plus" 404 157 2 3 161 (R 162) N (R 163) (R 164) (R 165) 409 410),
  (167,fnO "plus" (top 26) mo1 166),
  (173,cdO "minus" 412 159 2 3 168 (R 169) N (R 170) (R 171) (R 172) 417 418),
  (174,fnO "minus" (top 27) mo1 173),
  (180,cdO "times" 420 161 2 3 175 (R 176) N (R 177) (R 178) (R 179) 425 426),
  (181,fnO "times" (top 28) mo1 180),
  (187,cdO "over" 428 163 2 3 182 (R 183) N (R 184) (R 185) (R 186) 433 434),
  (188,fnO "over" (top 29) mo1 187),
  (194,cdO "poly" 438 166 1 3 189 (R 190) N (R 191) (R 192) (R 193) 443 444),
  (195,fnO "poly" (top 31) mo2 194),
  (199,cdO "cleared" 446 171 1 3 196 (R 197) N N N (R 198) 449 450),
  (200,fnO "cleared" (top 32) mo2 199),
  (204,cdO "uncleared" 452 176 2 3 201 (R 202) N N N (R 203) 455 456),
  (205,fnO "uncleared" (top 33) mo2 204),
  (211,cdO "number_of" 458 178 2 3 206 (R 207) N (R 208) (R 209) (R 210) 463 464),
  (212,fnO "number_of" (top 34) mo2 211),
  (216,cdO "p_plus" 466 180 2 3 213 (R 214) N N N (R 215) 469 470),
  (217,fnO "p_plus" (top 35) mo2 216),
  (221,cdO "p_minus" 472 182 2 3 218 (R 219) N N N (R 220) 475 476),
  (222,fnO "p_minus" (top 36) mo2 221),
  (228,cdO "p_times" 478 184 2 3 223 (R 224) N (R 225) (R 226) (R 227) 485 486),
  (229,fnO "p_times" (top 37) mo2 228),
  (233,cdO "p_scaled" 488 188 2 3 230 (R 231) N N N (R 232) 491 492),
  (234,fnO "p_scaled" (top 38) mo2 233),
  (240,cdO "p_split" 494 190 2 3 235 (R 236) N (R 237) (R 238) (R 239) 508 509),
  (241,fnO "p_split" (top 39) mo2 240),
  (247,cdO "common" 511 207 2 3 242 (R 243) N (R 244) (R 245) (R 246) 517 518),
  (248,fnO "common" (top 40) mo2 247),
  (252,cdO "p_slope" 520 210 1 3 249 (R 250) N N N (R 251) 523 524),
  (253,fnO "p_slope" (top 41) mo2 252),
  (259,cdO "fraction" 528 213 2 3 254 (R 255) N (R 256) (R 257) (R 258) 534 535),
  (260,fnO "fraction" (top 43) mo3 259),
  (266,cdO "evened" 537 216 2 3 261 (R 262) N (R 263) (R 264) (R 265) 543 544),
  (267,fnO "evened" (top 44) mo3 266),
  (273,cdO "quotient" 546 219 2 3 268 (R 269) N (R 270) (R 271) (R 272) 551 552),
  (274,fnO "quotient" (top 45) mo3 273),
  (280,cdO "f_plus" 554 221 2 3 275 (R 276) N (R 277) (R 278) (R 279) 563 564),
  (281,fnO "f_plus" (top 46) mo3 280),
  (287,cdO "f_minus" 566 227 2 3 282 (R 283) N (R 284) (R 285) (R 286) 571 572),
  (288,fnO "f_minus" (top 47) mo3 287),
  (294,cdO "f_times" 574 229 2 3 289 (R 290) N (R 291) (R 292) (R 293) 581 582),
  (295,fnO "f_times" (top 48) mo3 294),
  (301,cdO "f_over" 584 233 2 3 296 (R 297) N (R 298) (R 299) (R 300) 589 590),
  (302,fnO "f_over" (top 49) mo3 301),
  (308,cdO "f_slope" 592 235 1 3 303 (R 304) N (R 305) (R 306) (R 307) 600 601),
  (309,fnO "f_slope" (top 50) mo3 308),
  (315,cdO "_law_at" 605 242 2 3 310 (R 311) N (R 312) (R 313) (R 314) 610 611),
  (316,fnO "_law_at" (top 52) mo4 315),
  (322,cdO "_law_rest" 613 246 2 3 317 (R 318) N (R 319) (R 320) (R 321) 622 623),
  (323,fnO "_law_rest" (top 53) mo4 322),
  (329,cdO "_law_digit" 625 256 2 3 324 (R 325) N (R 326) (R 327) (R 328) 631 632),
  (330,fnO "_law_digit" (top 54) mo4 329),
  (336,cdO "_law_number_by" 634 260 2 3 331 (R 332) N (R 333) (R 334) (R 335) 641 642),
  (337,fnO "_law_number_by" (top 55) mo4 336),
  (341,cdO "_law_poly_by" 644 266 3 3 338 (R 339) N N N (R 340) 647 648),
  (342,fnO "_law_poly_by" (top 56) mo4 341),
  (348,cdO "_law_fraction_by" 650 268 3 3 343 (R 344) N (R 345) (R 346) (R 347) 658 659),
  (349,fnO "_law_fraction_by" (top 57) mo4 348),
  (353,cdO "_law_long_by" 661 274 2 3 350 (R 351) N N N (R 352) 664 665),
  (354,fnO "_law_long_by" (top 58) mo4 353),
  (360,cdO "_law_by_slopes" 667 277 2 3 355 (R 356) N (R 357) (R 358) (R 359) 673 674),
  (361,fnO "_law_by_slopes" (top 59) mo4 360),
  (367,cdO "_law_right" 676 285 3 3 362 (R 363) N (R 364) (R 365) (R 366) 682 683),
  (368,fnO "_law_right" (top 60) mo4 367),
  (374,cdO "law" 685 300 1 3 369 (R 370) N (R 371) (R 372) (R 373) 693 694),
  (375,fnO "law" (top 61) mo4 374)]
noncomputable def as:List Addr:=[3,15,21,22,28,29,33,34,40,41,45,46,52,53,59,60,64,65,69,70,74,75,81,82,88,89,95,96,100,101,107,108,112,113,119,120,126,127,133,134,140,141,145,146,152,153,159,160,166,167,173,174,180,181,187,188,194,195,199,200,204,205,211,212,216,217,221,222,228,229,233,234,240,241,247,248,252,253,259,260,266,267,273,274,280,281,287,288,294,295,301,302,308,309,315,316,322,323,329,330,336,337,341,342,348,349,353,354,360,361,367,368,374,375]
noncomputable def vw:Program:=PySem.W.view PySem.Challenge.pw_backslope_k23_whole_a_field [1,2,3,4,5,6,7,8,9,10,11,12,13,14,15,16,17,18,19,20,21,22,23,25,26,27,28,29,31,32,33,34,35,36,37,38,39,40,41,43,44,45,46,47,48,49,50,52,53,54,55,56,57,58,59,60,61]
noncomputable def hk:PySem.W.Hook:=PySem.W.kHook hp as (fun _=>by kernel_rfl)
theorem left:PySem.W.LeftO PySem.Challenge.pw_backslope_k23_whole_a_field vw [] (fun s=>PySem.W.xlAt vw [] s && PySem.W.recOk (PySem.W.RowW.records (PySem.W.OpenRow.toRowW (PySem.W.OpenLaw.row PySem.Challenge.rw_backslope_k23_whole_a_field))) s) hk.obs hk.val 3632:=fun w=>by kernel_rfl
end Bs.Hd
namespace Bs
noncomputable def Bd (n:Nat) (x:Int):Prop:=x.natAbs<2 ^ n
theorem Bd.mono {m n:Nat} {x:Int} (h:Bd m x) (hn:m≤n):Bd n x:=Nat.lt_of_lt_of_le h (Nat.pow_le_pow_right (by decide) hn)
theorem Bd.le {n:Nat} {x y:Int} (h:Bd n x) (hy:y.natAbs≤x.natAbs):Bd n y:=Nat.lt_of_le_of_lt hy h
theorem Bd.neg {n:Nat} {x:Int} (h:Bd n x):Bd n (-x):=by unfold Bd at *;rw [Int.natAbs_neg];exact h
theorem Bd.add {n:Nat} {x y:Int} (h:Bd n x) (h':Bd n y):Bd (n+1) (x+y):=by
  unfold Bd at *
  have:=Int.natAbs_add_le x y
  rw [Nat.pow_succ]
  omega
theorem Bd.sub {n:Nat} {x y:Int} (h:Bd n x) (h':Bd n y):Bd (n+1) (x - y):=by
  rw [Int.sub_eq_add_neg];exact h.add h'.neg
theorem Bd.mul {m n:Nat} {x y:Int} (h:Bd m x) (h':Bd n y):Bd (m+n) (x*y):=by
  unfold Bd at *
  rw [Int.natAbs_mul,Nat.pow_add]
  exact Nat.mul_lt_mul'' h h'
theorem qtw {x:Int} (h1:-18446744073709551616<x) (h2:x<18446744073709551616):Bd 64 x:=by
  unfold Bd
  have:(2:Nat) ^ 64=18446744073709551616:=by decide
  rw [this];omega
theorem Bd.log2 {n:Nat} {x:Int} (h:Bd n x) (hn:0<n):x.natAbs.log2<n:=by
  unfold Bd at h
  rcases Nat.eq_zero_or_pos x.natAbs with h0 | hp
  · rw [h0];simpa using hn
  · exact (Nat.log2_lt (Nat.ne_of_gt hp)).mpr h
structure Low (t d:Int):Prop where
  pos:0<d
  one:Int.gcd t d=1
theorem qlu (a b:Int):Int.gcd b (a.fmod b)=Int.gcd a b:=by
  have e:a.fmod b=a - b*a.fdiv b:=Int.fmod_def a b
  rw [e]
  apply Nat.dvd_antisymm
  · apply Int.dvd_gcd
    · have h1:=Int.gcd_dvd_left b (a - b*a.fdiv b)
      have h2:=Int.gcd_dvd_right b (a - b*a.fdiv b)
      have h3:=Int.dvd_add h2 (Int.dvd_mul_of_dvd_left (c:=a.fdiv b) h1)
      rw [Int.sub_add_cancel] at h3
      exact h3
    · exact Int.gcd_dvd_left b _
  · apply Int.dvd_gcd
    · exact Int.gcd_dvd_right a b
    · exact Int.dvd_sub (Int.gcd_dvd_left a b) (Int.dvd_mul_of_dvd_left (Int.gcd_dvd_right a b))
theorem qlv (a:Int) {b:Int} (h:0≤b):Int.gcd b (a % b)=Int.gcd a b:=by
  rw [← Int.fmod_eq_emod_of_nonneg a h,qlu]
theorem qnf (a:Int) {b:Int} (h:b≠0):(a.fmod b).natAbs<b.natAbs:=by
  rcases Int.lt_or_gt_of_ne h with hb | hb
  · rw [Int.fmod_eq_emod]
    have h1:=Int.emod_nonneg a h
    have h2:=Int.emod_lt a h
    split
    · rename_i h'
      rcases h' with h' | h'
      · omega
      · have:a % b=0:=Int.emod_eq_zero_of_dvd h'
        omega
    · rename_i h'
      have:a % b≠0:=fun z=>h' (.inr (Int.dvd_of_emod_eq_zero z))
      omega
  · rw [Int.fmod_eq_emod_of_nonneg a (Int.le_of_lt hb)]
    have h1:=Int.emod_nonneg a h
    have h2:=Int.emod_lt_of_pos a hb
    omega
theorem qfN {a b s:Int} (hb:b≠0) (hs:s=if b<0 then -((Int.gcd a b:Nat):Int) else ((Int.gcd a b:Nat):Int)) :
    s≠0∧s.natAbs≤b.natAbs∧Low (a.fdiv s) (b.fdiv s)∧a.fdiv s*b=a*b.fdiv s∧(a.fdiv s).natAbs≤a.natAbs∧(b.fdiv s).natAbs≤b.natAbs:=by
  have g0:0<Int.gcd a b:=Int.gcd_pos_of_ne_zero_right a hb
  have sn:s.natAbs=Int.gcd a b:=by rw [hs];split <;> simp
  have s0:s≠0:=by intro z;rw [z] at sn;simp at sn;omega
  have da:s∣a:=by
    rw [← Int.natAbs_dvd,sn];exact Int.gcd_dvd_left a b
  have db:s∣b:=by
    rw [← Int.natAbs_dvd,sn];exact Int.gcd_dvd_right a b
  obtain ⟨t,rfl⟩:=da
  obtain ⟨d,rfl⟩:=db
  rw [Int.mul_fdiv_cancel_left _ s0,Int.mul_fdiv_cancel_left _ s0]
  have d0:d≠0:=by rintro rfl;simp at hb
  have sp:1≤s.natAbs:=by omega
  have gd:Int.gcd t d=1:=by
    rw [Int.gcd_mul_left] at sn
    have h2:s.natAbs*Int.gcd t d=s.natAbs*1:=by omega
    exact Nat.eq_of_mul_eq_mul_left sp h2
  have dp:0<d:=by
    by_cases h:s*d<0
    · rw [if_pos h] at hs
      have sneg:s<0:=by omega
      rcases Int.lt_or_gt_of_ne d0 with h' | h'
      · have:=Int.mul_pos_of_neg_of_neg sneg h';omega
      · exact h'
    · rw [if_neg h] at hs
      have spos:0<s:=by omega
      rcases Int.lt_or_gt_of_ne d0 with h' | h'
      · have:=Int.mul_neg_of_pos_of_neg spos h';omega
      · exact h'
  have le1:∀ y:Int,y.natAbs≤(s*y).natAbs:=fun y=>by
    rw [Int.natAbs_mul];exact Nat.le_mul_of_pos_left _ sp
  refine ⟨s0,?_,⟨dp,gd⟩,?_,le1 t,le1 d⟩
  · rw [Int.natAbs_mul];exact Nat.le_mul_of_pos_right _ (by omega)
  · grind
theorem qdN {a b:Int} (hb:0<b):Low (a / ((Int.gcd a b:Nat):Int)) (b / ((Int.gcd a b:Nat):Int))∧(a / ((Int.gcd a b:Nat):Int)).natAbs≤a.natAbs∧(b / ((Int.gcd a b:Nat):Int)).natAbs≤b.natAbs∧0<((Int.gcd a b:Nat):Int)∧((Int.gcd a b:Nat):Int)≤b:=by
  have g0:0<Int.gcd a b:=Int.gcd_pos_of_ne_zero_right a (by omega)
  obtain ⟨_,h1,h2,h3,h4,h5⟩:=qfN (a:=a) (b:=b) (s:=((Int.gcd a b:Nat):Int)) (by omega) (by rw [if_neg (by omega)])
  rw [Int.fdiv_eq_ediv_of_nonneg _ (by omega),Int.fdiv_eq_ediv_of_nonneg _ (by omega)] at h2
  rw [Int.fdiv_eq_ediv_of_nonneg _ (by omega)] at h4 h5
  exact ⟨h2,h4,h5,by omega,by omega⟩
end Bs
namespace Bs
open PySem L2
noncomputable def qsL (_ j:Int):Prop:=0<j∧Bd 9000 j
noncomputable def qtx (_ j:Int):Prop:=j≠0∧Bd 9000 j
noncomputable def qrK (i j:Int):Prop:=0≤j∧j≤1000000∧i.natAbs<2 ^ 64
noncomputable abbrev qgx:R2:=rI0 fun i j=>.int (i+j)
noncomputable abbrev qeH:R2:=rI0 fun i j=>.int (i - j)
noncomputable abbrev qdG:R2:=rI IntMulOk fun i j=>.int (i*j)
noncomputable abbrev qo3:R2:=rI qsL fun i j=>.int (i / j)
noncomputable abbrev qrL:R2:=rI qtx fun i j=>.int (i.fdiv j)
noncomputable abbrev qkI:R2:=rI (fun _ j=>0<j) fun i j=>.int (i % j)
noncomputable abbrev qqB:R2:=rI (fun _ j=>j≠0) fun i j=>.int (i.fmod j)
noncomputable abbrev qqC:R2:=rI qrK fun i j=>.int (i ^ j.toNat)
noncomputable abbrev iLt:R2:=rI0 fun i j=>.bl (decide (i<j))
noncomputable abbrev iLe:R2:=rI0 fun i j=>.bl (decide (i≤j))
noncomputable abbrev iGt:R2:=rI0 fun i j=>.bl (decide (j<i))
noncomputable abbrev iGe:R2:=rI0 fun i j=>.bl (decide (j≤i))
noncomputable abbrev qgy:V→Hp→VK→Prop:=rU fun i=>.int (-i)
noncomputable def gT:R2:=fun x y H Q=>∃ p i xs v,x=.ref p∧y=.int i∧H p=some (.tup xs)∧atI xs i=some v∧Q v H
noncomputable def gL:R2:=fun x y H Q=>∃ p i xs v,x=.ref p∧y=.int i∧H p=some (.lst xs)∧atI xs i=some v∧Q v H
noncomputable def gS (K:W.Frag):R2:=fun x y H Q=>∃ p i xs v,x=.ref p∧y=.int i∧SqL K H p xs∧atI xs i=some v∧Q v H
noncomputable def qrr:List V→Hp→VK→Prop:=fun xs H Q=>∃ i,xs=[.int i]∧Q (.int (if i<0 then -i else i)) H
noncomputable def qpW:List V→Hp→VK→Prop:=fun xs H Q=>∃ i j,xs=[.int i,.int j]∧Q (.int (if j > i then j else i)) H
noncomputable def qtb:List V→Hp→VK→Prop:=fun xs H Q=>∃ i j,xs=[.int i,.int j]∧Q (.int (if j<i then j else i)) H
noncomputable def qo4:List V→Hp→VK→Prop:=fun xs H Q=>∃ k,xs=[.bl k]∧Q (.int (if k=true then 1 else 0)) H
noncomputable def qfO:List V→Hp→VK→Prop:=fun xs H Q=>∃ p ys,xs=[.ref p]∧H p=some (.tup ys)∧Q (.int ys.length) H
noncomputable def qc6:List V→Hp→VK→Prop:=fun xs H Q=>∃ p ys,xs=[.ref p]∧H p=some (.lst ys)∧Q (.int ys.length) H
noncomputable def qo5 (K:W.Frag):List V→Hp→VK→Prop:=fun xs H Q=>∃ p ys,xs=[.ref p]∧SqL K H p ys∧Q (.int ys.length) H
noncomputable def qty:Option HO→String→Option Bool
  | some (.tup _),n=>if n = "tuple" then some true else if n = "bool" ∨ n = "int" ∨ n = "list" then some false else none
  | some (.lst _),n=>if n = "list" then some true else if n = "bool" ∨ n = "int" ∨ n = "tuple" then some false else none
  | _,_=>none
noncomputable def qsy (H:Hp):V→String→Option Bool
  | .int _,n=>if n = "int" then some true else if n = "bool" ∨ n = "tuple" ∨ n = "list" then some false else none
  | .bl _,n=>if n = "int" ∨ n = "bool" then some true else if n = "tuple" ∨ n = "list" then some false else none
  | .ref p,n=>qty (H p) n
  | _,_=>none
noncomputable def qtc:List V→Hp→VK→Prop:=fun xs H Q=>∃ x n b,xs=[x,.ty n]∧qsy H x n=some b∧Q (.bl b) H
theorem qng (H:Hp) (i:Int):qsy H (.int i) "int" = some true:=rfl
theorem qga (H:Hp) (i:Int):qsy H (.int i) "bool" = some false:=rfl
theorem qpX (H:Hp) (b:Bool):qsy H (.bl b) "bool" = some true:=rfl
noncomputable def qtd:V→Bool
  | .int _=>true
  | _=>false
noncomputable def eqT:R2:=fun x y H Q=>∃ a b xs ys,x=.ref a∧y=.ref b∧H a=some (.tup xs)∧H b=some (.tup ys)∧xs.all qtd=true∧ys.all qtd=true∧Q (.bl (decide (xs=ys))) H
noncomputable def ForR (lo:Int) (n:Nat) (g:TG) (tb:TS) (D:Ends) (σ:St) (H:Hp):Prop:=∃ W:Nat→Nat→St→Hp→Prop,(∃ m,W 0 m σ H)∧∀ i m σ H,W i m σ H→
  ((Itr lo n).stop i H∧D.nx σ H)∨((Itr lo n).go i H∧∃ N:St→Hp→Prop,(∀ σ' H',N σ' H'→∃ m',m'<m∧W (i+1) m' σ' H')∧∀ x H',(Itr lo n).yld i H x H'→g x σ H' fun σ2 H2=>tb { D with nx:=N,ct:=N,bk:=D.nx } σ2 H2)
theorem qnh {ta:TA} {g:TG} {tb:TS} {D:Ends} {σ:St} {H:Hp}:qhZ (qhY ta) g tb D σ H=ta σ H (fun vs H1=>∃ j:Int,vs=[.int j]∧-(2 ^ 62)≤j∧j<2 ^ 62∧ForR 0 j.toNat g tb D σ H1):=rfl
theorem qni {ta:TA} {g:TG} {tb:TS} {D:Ends} {σ:St} {H:Hp}:qhZ (qoZ ta) g tb D σ H=ta σ H (fun vs H1=>∃ i j:Int,vs=[.int i,.int j]∧(-(2 ^ 62)≤i∧i<2 ^ 62∧-(2 ^ 62)≤j∧j<2 ^ 62)∧ForR i (j - i).toNat g tb D σ H1):=rfl
theorem ForR.by {lo:Int} {n:Nat} {g:TG} {tb:TS} {D:Ends} {σ:St} {H:Hp} (Pv:Nat→St→Hp→Prop) (h0:Pv 0 σ H)
    (hs:∀ i σ H,i<n→Pv i σ H→g (.int (lo+i)) σ H fun σ2 H2=>tb { D with nx:=Pv (i+1),ct:=Pv (i+1),bk:=D.nx } σ2 H2) (hd:∀ σ H,Pv n σ H→D.nx σ H):ForR lo n g tb D σ H:=qmX Pv h0 hs hd
noncomputable def ForT (K:W.Frag) (a:Addr) (g:TG) (tb:TS) (D:Ends) (σ:St) (H:Hp):Prop:=∃ W:Nat→Nat→St→Hp→Prop,(∃ m,W 0 m σ H)∧∀ i m σ H,W i m σ H→
  ((Itt K a).stop i H∧D.nx σ H)∨((Itt K a).go i H∧∃ N:St→Hp→Prop,(∀ σ' H',N σ' H'→∃ m',m'<m∧W (i+1) m' σ' H')∧∀ x H',(Itt K a).yld i H x H'→g x σ H' fun σ2 H2=>tb { D with nx:=N,ct:=N,bk:=D.nx } σ2 H2)
noncomputable def ForL (K:W.Frag) (a:Addr) (g:TG) (tb:TS) (D:Ends) (σ:St) (H:Hp):Prop:=∃ W:Nat→Nat→St→Hp→Prop,(∃ m,W 0 m σ H)∧∀ i m σ H,W i m σ H→
  ((Itl K a).stop i H∧D.nx σ H)∨((Itl K a).go i H∧∃ N:St→Hp→Prop,(∀ σ' H',N σ' H'→∃ m',m'<m∧W (i+1) m' σ' H')∧∀ x H',(Itl K a).yld i H x H'→g x σ H' fun σ2 H2=>tb { D with nx:=N,ct:=N,bk:=D.nx } σ2 H2)
theorem qpY {K:W.Frag} {tl:TE} {g:TG} {tb:TS} {D:Ends} {σ:St} {H:Hp}:qhZ (qqq K tl) g tb D σ H=tl σ H (fun x H1=>∃ a,x=.ref a∧(∃ xs,SqT K H1 a xs)∧ForT K a g tb D σ H1):=rfl
theorem qpZ {K:W.Frag} {tl:TE} {g:TG} {tb:TS} {D:Ends} {σ:St} {H:Hp}:qhZ (qfl K tl) g tb D σ H=tl σ H (fun x H1=>∃ a,x=.ref a∧(∃ xs,SqL K H1 a xs)∧ForL K a g tb D σ H1):=rfl
theorem ForT.by {K:W.Frag} {a:Addr} {xs:List V} {g:TG} {tb:TS} {D:Ends} {σ:St} {H:Hp} (Pv:Nat→St→Hp→Prop) (h0:Pv 0 σ H) (hl:∀ i σ H,i≤xs.length→Pv i σ H→H a=some (.tup xs))
    (hs:∀ i x σ H,xs[i]?=some x→Pv i σ H→g x σ H fun σ2 H2=>tb { D with nx:=Pv (i+1),ct:=Pv (i+1),bk:=D.nx } σ2 H2) (hd:∀ σ H,Pv xs.length σ H→D.nx σ H):ForT K a g tb D σ H:=
  qmW Pv h0 (fun i σ H h p=>SqT.of (hl i σ H h p)) hs hd
theorem ForL.by {K:W.Frag} {a:Addr} {xs:List V} {g:TG} {tb:TS} {D:Ends} {σ:St} {H:Hp} (Pv:Nat→St→Hp→Prop) (h0:Pv 0 σ H) (hl:∀ i σ H,i≤xs.length→Pv i σ H→SqL K H a xs)
    (hs:∀ i x σ H,xs[i]?=some x→Pv i σ H→g x σ H fun σ2 H2=>tb { D with nx:=Pv (i+1),ct:=Pv (i+1),bk:=D.nx } σ2 H2) (hd:∀ σ H,Pv xs.length σ H→D.nx σ H):ForL K a g tb D σ H:=
  qo0 Pv h0 hl hs hd
theorem while_by {c:TT} {tb:TS} {D:Ends} {σ:St} {H:Hp} (W:Nat→St→Hp→Prop) (m:Nat) (h0:W m σ H)
    (hs:∀ m σ H,W m σ H→c σ H fun b H1=>if b=true then ∃ N:St→Hp→Prop,(∀ σ' H',N σ' H'→∃ m',m'<m∧W m' σ' H')∧tb { D with nx:=N,ct:=N,bk:=D.nx } σ H1 else D.nx σ H1):qdZ c tb D σ H:=⟨W,⟨m,h0⟩,hs⟩
noncomputable def Kp (p:Addr) (H H':Hp):Prop:=∀ b o,b≠p→H b=some o→H' b=some o
theorem Kp.trans {p:Addr} {H H1 H2:Hp} (a:Kp p H H1) (b:Kp p H1 H2):Kp p H H2:=fun c o n h=>b c o n (a c o n h)
theorem Kp.same {p:Addr} {H H1 H2:Hp} (a:Kp p H H1) (b:Same H1 H2):Kp p H H2:=fun c o n h=>b c o (a c o n h)
theorem Kp.upd {p:Addr} {H:Hp} {o:HO}:Kp p H (upd H p o):=fun b u n h=>by rw [qaJ n];exact h
theorem qag {H:Hp} {p:Addr} (h:H p=none) (o:HO):Same H (upd H p o):=fun b u q=>by rw [qaJ (qaH q h)];exact q
theorem Kp.new {p:Addr} {H H1:Hp} (a:Kp p H H1) (h:H p=none):Same H H1:=fun b o q=>a b o (qaH q h) q
theorem Kp.seq {K:W.Frag} {p:Addr} {H H':Hp} {a:Addr} {xs:List V} (e:Kp p H H') (n:a≠p) (h:SqL K H a xs):SqL K H' a xs:=by
  rcases h with (h | ⟨o,h⟩) | h
  · exact .inl (.inl (e _ _ n h))
  · exact .inl (.inr ⟨o,e _ _ n h⟩)
  · exact .inr h
theorem sz {n:Nat} (h:n≤1000000):n≤sizeLine:=by rw [sizeLine_eq];omega
end Bs
namespace Bs
open PySem L2
theorem qlw {α:Type} (a b:α):atI [a,b] 0=some a:=rfl
theorem qlx {α:Type} (a b:α):atI [a,b] 1=some b:=rfl
theorem qii {α:Type} (a b c:α):atI [a,b,c] 0=some a:=rfl
theorem qij {α:Type} (a b c:α):atI [a,b,c] 1=some b:=rfl
theorem qik {α:Type} (a b c:α):atI [a,b,c] 2=some c:=rfl
theorem qnj (a b:Int):scal (.int a) (.int b)=true:=rfl
theorem qnk (a b:Bool):scal (.bl a) (.bl b)=true:=rfl
theorem qil:ixN 3 0=some 0:=rfl
theorem qim:ixN 3 2=some 2:=rfl
end Bs
namespace Bs
open PySem PySem.Spec PyProof.Rows L2
theorem qnl:bootBuiltins "abs" = some (.builtin "abs"):=by decide +kernel
theorem qbr:bootBuiltins "len" = some (.builtin "len"):=by decide +kernel
theorem qjQ:bootBuiltins "max" = some (.builtin "max"):=by decide +kernel
theorem qrM:bootBuiltins "min" = some (.builtin "min"):=by decide +kernel
theorem qrN:bootBuiltins "int" = some (.type "int"):=by decide +kernel
theorem qly:bootBuiltins "tuple" = some (.type "tuple"):=by decide +kernel
theorem qnm:bootBuiltins "list" = some (.type "list"):=by decide +kernel
theorem qjR:bootBuiltins "enumerate" = some (.type "enumerate"):=by decide +kernel
theorem qrO:bootBuiltins "zip" = some (.type "zip"):=by decide +kernel
section
variable {X:Cx}
theorem qnn {n:Nat} {x:Int} (h:Bd n x):Builtin.Int.intBits x≤n:=by
  unfold Builtin.Int.intBits
  split
  · exact Nat.zero_le _
  · rename_i h0
    have hn:x.natAbs≠0:=fun z=>h0 (by have e:x=0:=by omega
                                      subst e;rfl)
    have:=(Nat.log2_lt hn).mpr h
    omega
theorem qaU:OpR X (binaryOp .Mult) qdG:=opI fun _ _ _ _ _ _ _ hc q=>mul_int q hc
theorem qgz:OpR X (inplaceOp .Mult) qdG:=opI fun _ _ _ _ _ _ _ hc q=>imul_int q hc
theorem qiW:OpR X (binaryOp .Pow) qqC:=opI fun _ _ _ _ _ _ _ hc q=>pow_int_small hc.1 hc.2.1 hc.2.2 q
theorem qar:IxR X gT:=by
  intro value slice pins s σ H x y v u Q I rx ry h hs
  obtain ⟨p,i,xs,w,e1,e2,hp,ha,q⟩:=h
  exact qrG value slice pins s σ H x y v u Q I rx ry ⟨p,xs,i,w,e1,e2,SqT.of hp,ha,q⟩ hs
theorem qaX:IxR X gL:=by
  intro value slice pins s σ H x y v u Q I rx ry h hs
  obtain ⟨p,i,xs,w,e1,e2,hp,ha,q⟩:=h
  exact qm5 value slice pins s σ H x y v u Q I rx ry ⟨p,xs,i,w,e1,e2,SqL.of hp,ha,q⟩ hs
theorem qno:IxR X (gS X.K):=by
  intro value slice pins s σ H x y v u Q I rx ry h hs
  obtain ⟨p,i,xs,w,e1,e2,hp,ha,q⟩:=h
  exact qm5 value slice pins s σ H x y v u Q I rx ry ⟨p,xs,i,w,e1,e2,hp,ha,q⟩ hs
theorem qg0:qd7 X (.builtin "abs") qrr:=qo1
theorem qee (hc:X.calm=true):qd7 X (.builtin "max") qpW:=qm1 hc
theorem qnp:qd7 X (.type "int") qo4:=fun pins s σ H xs us Q I r h=>qm2 pins s σ H xs us Q I r (.inr h)
theorem qbY:qd7 X (.builtin "len") qfO:=fun pins s σ H xs us Q I r h=>by
  obtain ⟨p,ys,e,hp,q⟩:=h
  exact qd9 pins s σ H xs us Q I r ⟨p,ys,e,.inr (SqT.of hp),q⟩
theorem qa1:qd7 X (.builtin "len") qc6:=fun pins s σ H xs us Q I r h=>by
  obtain ⟨p,ys,e,hp,q⟩:=h
  exact qd9 pins s σ H xs us Q I r ⟨p,ys,e,.inl (SqL.of hp),q⟩
theorem qnq:qd7 X (.builtin "len") (qo5 X.K):=fun pins s σ H xs us Q I r h=>by
  obtain ⟨p,ys,e,hp,q⟩:=h
  exact qd9 pins s σ H xs us Q I r ⟨p,ys,e,.inl hp,q⟩
end
structure Cal (P:Program) (w:World) (K:W.Frag) (mg:Str→Option Value) (base:Heap) (n:Nat) (x:Str) (ps:List Str) (sp:Sp):Prop where
  ex:∃ (f:Addr) (fd:FuncData),FnOk P w K mg base CX0 n f fd ps sp∧Binds K fd ps []∧PySem.W.keepIn K (.ref f)=true∧mg x=some (.ref f)
theorem Cal.pe {X:Cx} {n m:Nat} {x:Str} {ps:List Str} {sp:Sp} {e:Expr} {es:List Expr} {t:TA} {p pos:Pos} (C:Cal X.prog X.w X.K X.mg X.base n x ps sp) (hr:Room m X.A) (hn:n≤m) (hg:Gl X x) (ha:PA X (e::es) t)
    (hdb:(x == ("__debug__" : Str))=false:=by decide) (he:starEach (e::es) X.env=(false,eval e X.env)::starEach es X.env:=by rfl) (hpl:(backTo pos (starEach es X.env)).any (·.1)=false:=by rfl) :
    PE X (.Call (.Name x p) (e::es) [] pos) (qaj sp [] E0 t):=by
  obtain ⟨f,fd,F,b,k,m⟩:=C.ex
  exact qqw F (hr.mono hn) hg m k b .nil qsK ha hdb he hpl
end Bs
namespace Bs
open PySem L2
noncomputable def qc7 (capt:List (Option Nat)) (σ:L2.St):L2.St:=capt.map fun o=>o.bind fun j=>(σ[j]?).join
noncomputable def qcG (wi:TI) (capt:List (Option Nat)) (g:TG) (te:TE):TE:=fun σ H Q=>wi σ H fun J H1=>∃ (n:Nat) (W:Nat→List V→Hp→Prop),W 0 [] H1∧∀ i ys H,W i ys H→i≤n∧ys.length≤sizeLine∧
  ((J.stop i H∧∀ p,H p=none→Q (.ref p) (upd H p (.lst ys)))∨(i<n∧J.go i H∧∀ x H',J.yld i H x H'→g x (qc7 capt σ) H' fun σ2 H2=>te σ2 H2 fun y H3=>W (i+1) (ys++[y]) H3))
noncomputable def CompJ (J:It) (capt:List (Option Nat)) (g:TG) (te:TE) (σ:L2.St) (Q:VK) (H1:Hp):Prop:=∃ (n:Nat) (W:Nat→List V→Hp→Prop),W 0 [] H1∧∀ i ys H,W i ys H→i≤n∧ys.length≤sizeLine∧
  ((J.stop i H∧∀ p,H p=none→Q (.ref p) (upd H p (.lst ys)))∨(i<n∧J.go i H∧∀ x H',J.yld i H x H'→g x (qc7 capt σ) H' fun σ2 H2=>te σ2 H2 fun y H3=>W (i+1) (ys++[y]) H3))
section
variable {K:W.Frag} {ta:TA} {tl:TE} {capt:List (Option Nat)} {g:TG} {te:TE} {σ:L2.St} {H:Hp} {Q:VK}
theorem qlz:qcG (qhY ta) capt g te σ H Q=ta σ H (fun vs H1=>∃ j:Int,vs=[.int j]∧-(2 ^ 62)≤j∧j<2 ^ 62∧CompJ (Itr 0 j.toNat) capt g te σ Q H1):=rfl
theorem qlA:qcG (qoZ ta) capt g te σ H Q=ta σ H (fun vs H1=>∃ i j:Int,vs=[.int i,.int j]∧(-(2 ^ 62)≤i∧i<2 ^ 62∧-(2 ^ 62)≤j∧j<2 ^ 62)∧CompJ (Itr i (j - i).toNat) capt g te σ Q H1):=rfl
theorem qnr:qcG (qqq K tl) capt g te σ H Q=tl σ H (fun x H1=>∃ a,x=.ref a∧(∃ xs,SqT K H1 a xs)∧CompJ (Itt K a) capt g te σ Q H1):=rfl
theorem qns:qcG (qfl K tl) capt g te σ H Q=tl σ H (fun x H1=>∃ a,x=.ref a∧(∃ xs,SqL K H1 a xs)∧CompJ (Itl K a) capt g te σ Q H1):=rfl
theorem CompJ.range {lo:Int} {n:Nat} (W:Nat→List V→Hp→Prop) (h0:W 0 [] H) (hb:∀ i ys H,W i ys H→i≤n∧ys.length≤sizeLine)
    (hs:∀ i ys H,i<n→W i ys H→g (.int (lo+i)) (qc7 capt σ) H fun σ2 H2=>te σ2 H2 fun y H3=>W (i+1) (ys++[y]) H3) (hd:∀ ys H,W n ys H→∀ p,H p=none→Q (.ref p) (upd H p (.lst ys))):CompJ (Itr lo n) capt g te σ Q H:=by
  refine ⟨n,W,h0,fun i ys H w=>⟨(hb i ys H w).1,(hb i ys H w).2,?_⟩⟩
  by_cases h:i<n
  · refine .inr ⟨h,h,fun x H' y=>?_⟩
    obtain ⟨e,y⟩:=y
    subst e y
    exact hs i ys _ h w
  · have e:i=n:=Nat.le_antisymm (hb i ys H w).1 (Nat.not_lt.mp h)
    subst e
    exact .inl ⟨Nat.le_refl _,hd ys H w⟩
theorem CompJ.tup {a:Addr} {xs:List V} (W:Nat→List V→Hp→Prop) (h0:W 0 [] H) (hb:∀ i ys H,W i ys H→i≤xs.length∧ys.length≤sizeLine∧H a=some (.tup xs))
    (hs:∀ i x ys H,xs[i]?=some x→W i ys H→g x (qc7 capt σ) H fun σ2 H2=>te σ2 H2 fun y H3=>W (i+1) (ys++[y]) H3) (hd:∀ ys H,W xs.length ys H→∀ p,H p=none→Q (.ref p) (upd H p (.lst ys))):CompJ (Itt K a) capt g te σ Q H:=by
  refine ⟨xs.length,W,h0,fun i ys H w=>⟨(hb i ys H w).1,(hb i ys H w).2.1,?_⟩⟩
  have q:SqT K H a xs:=SqT.of (hb i ys H w).2.2
  by_cases h:i<xs.length
  · refine .inr ⟨h,⟨xs,xs[i],q,by simp [h]⟩,fun x H' y=>?_⟩
    obtain ⟨e,y⟩:=y
    subst e
    exact hs i x ys _ (y xs q) w
  · have e:i=xs.length:=Nat.le_antisymm (hb i ys H w).1 (Nat.not_lt.mp h)
    subst e
    exact .inl ⟨⟨xs,q,Nat.le_refl _⟩,hd ys H w⟩
theorem CompJ.lst {a:Addr} {xs:List V} (W:Nat→List V→Hp→Prop) (h0:W 0 [] H) (hb:∀ i ys H,W i ys H→i≤xs.length∧ys.length≤sizeLine∧SqL K H a xs)
    (hs:∀ i x ys H,xs[i]?=some x→W i ys H→g x (qc7 capt σ) H fun σ2 H2=>te σ2 H2 fun y H3=>W (i+1) (ys++[y]) H3) (hd:∀ ys H,W xs.length ys H→∀ p,H p=none→Q (.ref p) (upd H p (.lst ys))):CompJ (Itl K a) capt g te σ Q H:=by
  refine ⟨xs.length,W,h0,fun i ys H w=>⟨(hb i ys H w).1,(hb i ys H w).2.1,?_⟩⟩
  have q:SqL K H a xs:=(hb i ys H w).2.2
  by_cases h:i<xs.length
  · refine .inr ⟨h,⟨xs,xs[i],q,by simp [h]⟩,fun x H' y=>?_⟩
    obtain ⟨e,y⟩:=y
    subst e
    exact hs i x ys _ (y xs q) w
  · have e:i=xs.length:=Nat.le_antisymm (hb i ys H w).1 (Nat.not_lt.mp h)
    subst e
    exact .inl ⟨⟨xs,q,Nat.le_refl _⟩,hd ys H w⟩
end
noncomputable def qrs (K:W.Frag) (a:Addr):It:=
  ⟨fun i H=>∃ xs x,SqL K H a xs∧xs[i]?=some x,fun i H v H'=>∃ p x,H p=none∧v=.ref p∧H'=upd H p (.tup [.int i,x])∧∀ xs,SqL K H a xs→xs[i]?=some x,fun i H=>∃ xs,SqL K H a xs∧xs.length≤i⟩
noncomputable def qte (K:W.Frag) (a:Addr):It:=
  ⟨fun i H=>∃ xs x,SqT K H a xs∧xs[i]?=some x,fun i H v H'=>∃ p x,H p=none∧v=.ref p∧H'=upd H p (.tup [.int i,x])∧∀ xs,SqT K H a xs→xs[i]?=some x,fun i H=>∃ xs,SqT K H a xs∧xs.length≤i⟩
noncomputable def qin (K:W.Frag) (ta:TA):TI:=fun σ H R=>ta σ H fun vs H1=>∃ a,vs=[.ref a]∧(∃ xs,SqL K H1 a xs)∧R (qrs K a) H1
noncomputable def qrP (K:W.Frag) (ta:TA):TI:=fun σ H R=>ta σ H fun vs H1=>∃ a,vs=[.ref a]∧(∃ xs,SqT K H1 a xs)∧R (qte K a) H1
noncomputable def ForJ (J:It) (g:TG) (tb:TS) (D:Ends) (σ:L2.St) (H:Hp):Prop:=∃ W:Nat→Nat→L2.St→Hp→Prop,(∃ m,W 0 m σ H)∧∀ i m σ H,W i m σ H→
  (J.stop i H∧D.nx σ H)∨(J.go i H∧∃ N:L2.St→Hp→Prop,(∀ σ' H',N σ' H'→∃ m',m'<m∧W (i+1) m' σ' H')∧∀ x H',J.yld i H x H'→g x σ H' fun σ2 H2=>tb { D with nx:=N,ct:=N,bk:=D.nx } σ2 H2)
section
variable {K:W.Frag} {ta:TA} {g:TG} {tb:TS} {D:Ends} {σ:L2.St} {H:Hp} {a:Addr} {xs:List V}
theorem qnt:qhZ (qin K ta) g tb D σ H=ta σ H (fun vs H1=>∃ a,vs=[.ref a]∧(∃ xs,SqL K H1 a xs)∧ForJ (qrs K a) g tb D σ H1):=rfl
theorem qnu:qhZ (qrP K ta) g tb D σ H=ta σ H (fun vs H1=>∃ a,vs=[.ref a]∧(∃ xs,SqT K H1 a xs)∧ForJ (qte K a) g tb D σ H1):=rfl
theorem qlB {capt:List (Option Nat)} {te:TE} {Q:VK}:qcG (qin K ta) capt g te σ H Q=ta σ H (fun vs H1=>∃ a,vs=[.ref a]∧(∃ xs,SqL K H1 a xs)∧CompJ (qrs K a) capt g te σ Q H1):=rfl
theorem ForJ.enumL (Pv:Nat→L2.St→Hp→Prop) (h0:Pv 0 σ H) (hl:∀ i σ H,i≤xs.length→Pv i σ H→SqL K H a xs)
    (hs:∀ i x p σ H,xs[i]?=some x→Pv i σ H→H p=none→g (.ref p) σ (upd H p (.tup [.int i,x])) fun σ2 H2=>tb { D with nx:=Pv (i+1),ct:=Pv (i+1),bk:=D.nx } σ2 H2) (hd:∀ σ H,Pv xs.length σ H→D.nx σ H):ForJ (qrs K a) g tb D σ H:=by
  refine ⟨fun i m σ H=>m=xs.length - i∧i≤xs.length∧Pv i σ H,⟨xs.length,by simp,Nat.zero_le _,h0⟩,?_⟩
  rintro i m σ H ⟨rfl,hi,pv⟩
  have q:=hl i σ H hi pv
  by_cases lt:i<xs.length
  · refine .inr ⟨⟨xs,xs[i],q,by simp [lt]⟩,Pv (i+1),fun σ' H' p'=>⟨xs.length - (i+1),by omega,rfl,lt,p'⟩,fun x H' y=>?_⟩
    obtain ⟨p,x',hp,rfl,rfl,y⟩:=y
    exact hs i x' p σ _ (y xs q) pv hp
  · have e:i=xs.length:=by omega
    subst e
    exact .inl ⟨⟨xs,q,Nat.le_refl _⟩,hd σ H pv⟩
end
end Bs
namespace Bs
open PySem PySem.Spec PyProof.Rows L2
noncomputable def blk (X:Cx) (N:List Str) (scope:Scope) (cl:List (Str×Addr)) (C:Addr) (s:Shared) (H:Hp) (fp:List Addr):Cx:=
  { X with N:=N,s₀:=s,H₀:=H,env:=compEnvC scope cl C X.env,outer:=X.stack,stack:=X.stack,ex:=fp,fn:=fun _=>false,pn:=[],xe:=fun _ _=>False }
structure BlkOk (X:Cx) (N:List Str) (capt:List (Option Nat)) (scope:Scope) (cl:List (Str×Addr)):Prop where
  kind:scope.kind=.function
  clos:closureFor scope X.env=pure cl
  nocell:∀ y∈scope.names,y.2≠.cell
  names:∀ y∈scope.names,y.2=.local→scope.names.lookup y.1=some .local
  cells:∀ y c,cl.lookup y=some c→X.env.cells.lookup y=some c
  has:∀ y,((relabel scope X.env).names.lookup y=some .cell∨(relabel scope X.env).names.lookup y=some .free)→∃ c,cl.lookup y=some c
  cap:∀ (i:Nat) (x:Str) (j:Nat),N[i]?=some x→capt[i]?=some (some j)→X.N[j]?=some x∧Vis X.env.scope x∧X.env.kindOf x≠some .local∧((relabel scope X.env).names.lookup x=some .cell∨(relabel scope X.env).names.lookup x=some .free)
  len:capt.length=N.length
section
variable {X:Cx} {pins:List (Addr×Obj)} {σ:L2.St} {H:Hp} {s:Shared} {N:List Str} {capt:List (Option Nat)} {scope:Scope} {cl:List (Str×Addr)} {C:Addr} {fp:List Addr}
theorem qnv (B:BlkOk X N capt scope cl) (I:Inv X pins σ H s) (fo:∀ b∈fp,qky X pins H b) (fl:∀ b∈fp,b<s.heap.objs.size) (hC:s.heap.objs.size≤C):(blk X N scope cl C s H fp).Ok where
  mod:=I.ok.mod
  kind:=B.kind
  glob:=I.ok.glob
  blt:=I.ok.blt
  above:=hC
  inj:=fun x y c h1 h2=>I.ok.inj x y c (B.cells x c h1) (B.cells y c h2)
  has:=fun x h=>B.has x h
  cab:=fun _ _ h=>nomatch h
  hd:=I.ok.hd
  frames:=I.ok.frames
  stk:=.inl rfl
  exf:=fun b hb=>⟨fun e=>absurd (Nat.lt_of_lt_of_le (fl b hb) hC) (by rw [show b=C from e];exact Nat.lt_irrefl _),fun x c e=>(fo b hb).2.2.2.2.1 x c (B.cells x c e)⟩
  bs:=I.bs
  bsz:=Nat.le_trans I.ok.bsz I.sz
  noex:=fun b o e hb=>by
    rcases (fo b hb).2.2.2.1 with z | z
    · exact I.ok.noex b o e z
    · exact absurd (Nat.lt_of_lt_of_le (Heap.lt_size e) (Nat.le_trans I.ok.bsz z)) (Nat.lt_irrefl _)
  exfs:=fun b hb hf=>by
    rcases List.mem_cons.mp (I.stkSub b hf) with z | z
    · exact (fo b hb).2.1 z
    · exact (fo b hb).2.2.1 z
  funs:=I.stack
  frf:=I.stkFree
  seer:=I.ok.seer
  tree:=I.ok.tree
  plr:=I.ok.plr
theorem qnw (B:BlkOk X N capt scope cl) (I:Inv X pins σ H s) (fo:∀ b∈fp,qky X pins H b) (fl:∀ b∈fp,b<s.heap.objs.size) (hC:s.heap.objs.size≤C) {h1:Heap} {m:Str→Option Value} {tk:Nat}
    (hn:h1.Ns C m) (hk:∀ b o,s.heap.get? b=some o→h1.get? b=some o):Inv (blk X N scope cl C s H fp) [] (qc7 capt σ) H { s with heap:=h1,toks:=tk } where
  ok:=qnv B I fo fl hC
  os:=rfl
  bare:=I.bare
  base:=Un.kept hk
  loc:=by
    refine ⟨m,hn,fun i x v e1 e2 e3=>?_⟩
    have e2':(capt.map fun o=>o.bind fun j=>(σ[j]?).join)[i]?=some (some v):=e2
    rw [List.getElem?_map] at e2'
    cases ec:capt[i]? with
    | none=>rw [ec] at e2';cases e2'
    | some o=>
      rw [ec] at e2'
      cases o with
      | none=>cases e2'
      | some j=>
        have e4:(σ[j]?).join=some v:=Option.some.inj e2'
        obtain ⟨c1,c2,c3,c4⟩:=B.cap i x j e1 ec
        have e5:σ[j]?=some (some v):=by
          cases q:σ[j]? with
          | none=>rw [q] at e4;cases e4
          | some w=>rw [q] at e4;exact congrArg some e4
        obtain ⟨m',_,hl⟩:=I.loc
        obtain ⟨u,r,l⟩:=hl j x v c1 e5 c2
        refine ⟨u,r,.inr ⟨c4,?_⟩⟩
        rcases l with ⟨l,_⟩ | ⟨_,c,lc,ic⟩
        · exact absurd l c3
        · obtain ⟨c',hc'⟩:=B.has x c4
          have:=B.cells x c' hc'
          rw [lc] at this
          cases this
          obtain ⟨o,ho,hd⟩:=ic
          exact ⟨c,hc',o,hk c o ho,hd⟩
  cell:=fun x c e=>by
    obtain ⟨v,o,ho,hd⟩:=I.cell x c (B.cells x c e)
    exact ⟨v,o,hk c o ho,hd⟩
  free:=I.hok.fresh hC
  freeC:=fun x c e=>I.freeC x c (B.cells x c e)
  pin:=fun p hp=>nomatch hp
  hok:=I.hok.kept hk
  len:=by show (capt.map _).length=N.length;rw [List.length_map];exact B.len
theorem qg1 {σ6:L2.St} {H7:Hp} {s7:Shared} {pins':List (Addr×Obj)} (B:BlkOk X N capt scope cl) (I:Inv X pins σ H s) (fo:∀ b∈fp,qky X pins H b) (I7:Inv (blk X N scope cl C s H fp) pins' σ6 H7 s7):Inv (blk X N scope cl C s H fp) pins' (qc7 capt σ) H7 s7:=
  ⟨I7.ok,I7.os,I7.bare,I7.base,by
    obtain ⟨m,hn,_⟩:=I7.loc
    refine ⟨m,hn,fun i x v e1 e2 e3=>?_⟩
    have e2':(capt.map fun o=>o.bind fun j=>(σ[j]?).join)[i]?=some (some v):=e2
    rw [List.getElem?_map] at e2'
    cases ec:capt[i]? with
    | none=>rw [ec] at e2';cases e2'
    | some o=>
      rw [ec] at e2'
      cases o with
      | none=>cases e2'
      | some j=>
        have e4:(σ[j]?).join=some v:=Option.some.inj e2'
        obtain ⟨c1,c2,c3,c4⟩:=B.cap i x j e1 ec
        have e5:σ[j]?=some (some v):=by
          cases q:σ[j]? with
          | none=>rw [q] at e4;cases e4
          | some w=>rw [q] at e4;exact congrArg some e4
        obtain ⟨m',_,hl⟩:=I.loc
        obtain ⟨u,r,l⟩:=hl j x v c1 e5 c2
        refine ⟨u,r,.inr ⟨c4,?_⟩⟩
        rcases l with ⟨l,_⟩ | ⟨_,c,lc,ic⟩
        · exact absurd l c3
        · obtain ⟨c',hc'⟩:=B.has x c4
          have:=B.cells x c' hc'
          rw [lc] at this
          cases this
          obtain ⟨o,ho,hd⟩:=ic
          obtain ⟨sl,hk⟩:=I7.base.any ho (I.freeC x c lc) fun hb=>(fo c hb).2.2.2.2.1 x c lc rfl
          exact ⟨c,hc',_,hk,hd⟩,I7.cell,I7.free,I7.freeC,I7.pin,I7.hok,by show (capt.map _).length=N.length;rw [List.length_map];exact B.len⟩
theorem qeI {κ β:Type} [BEq κ] [LawfulBEq κ]:∀ {l:List (κ×β)} {y:κ} {c:β},l.lookup y=some c→(y,c)∈l
  | (k,v)::l,y,c,h=>by
    rw [List.lookup_cons] at h
    cases e:y == k with
    | true=>
      rw [e] at h
      cases h
      rw [eq_of_beq e]
      exact List.mem_cons_self ..
    | false=>
      rw [e] at h
      exact List.mem_cons_of_mem _ (qeI h)
theorem BlkOk.of (k:scope.kind=.function) (c:closureFor scope X.env=pure cl) (n1:(scope.names.all fun y=>y.2 != .cell)=true) (n2:(scope.names.all fun y=>y.2 != .local || scope.names.lookup y.1 == some .local)=true)
    (cs:∀ pr∈cl,X.env.cells.lookup pr.1=some pr.2) (hs:((relabel scope X.env).names.all fun pr=>(pr.2 != .cell && pr.2 != .free) || (cl.lookup pr.1).isSome)=true)
    (cp:((List.range N.length).all fun i=>match N[i]?,capt[i]? with
      | some x,some (some j)=>X.N[j]? == some x && (X.env.scope.names.lookup x == some .cell || X.env.scope.names.lookup x == some .free) && ((relabel scope X.env).names.lookup x == some .cell || (relabel scope X.env).names.lookup x == some .free)
      | _,_=>true)=true) (ln:capt.length=N.length):BlkOk X N capt scope cl where
  kind:=k
  clos:=c
  nocell:=fun y hy e=>by
    have z:=List.all_eq_true.mp n1 y hy
    rw [e] at z
    exact absurd z (by decide)
  names:=fun y hy e=>by
    have z:=List.all_eq_true.mp n2 y hy
    rw [e] at z
    simpa using z
  cells:=fun y c h=>cs (y,c) (qeI h)
  has:=fun y h=>by
    have m:∃ kd,(y,kd)∈(relabel scope X.env).names∧(kd=.cell∨kd=.free):=by
      rcases h with h | h
      · exact ⟨_,qeI h,.inl rfl⟩
      · exact ⟨_,qeI h,.inr rfl⟩
    obtain ⟨kd,m,e⟩:=m
    have z:=List.all_eq_true.mp hs _ m
    have z2:(cl.lookup y).isSome=true:=by
      rcases e with rfl | rfl
      · simpa using z
      · simpa using z
    exact Option.isSome_iff_exists.mp z2
  cap:=fun i x j e1 e2=>by
    have li:i<N.length:=(List.getElem?_eq_some_iff.mp e1).1
    have z:=List.all_eq_true.mp cp i (List.mem_range.mpr li)
    rw [e1,e2] at z
    simp only [Bool.and_eq_true,Bool.or_eq_true,beq_iff_eq] at z
    obtain ⟨⟨z1,z2⟩,z3⟩:=z
    refine ⟨z1,.inr z2,fun q=>?_,z3⟩
    have q':X.env.scope.names.lookup x=some .local:=q
    rcases z2 with z2 | z2 <;> (rw [z2] at q';cases q')
  len:=ln
theorem qkJ {prog:Program} {w:World} {A:Around} {R:Result→Shared→Prop} {s:Shared} {elt target iter:Expr} {scope:Scope} {pos:Pos} {it acc:Value} {env:Env} (I:Nat→Shared→Prop)
    (turn:∀ n s,I n s→wpAny (model prog w) A (pyNext it) (fun r s₁=>match r with
      | none=>R (.ok .next) s₁
      | some v=>wpAny (model prog w) A (letOwnedTupleGo target it v) (fun _ s₂=>wpAny (model prog w) A (assign target env v) (fun _ s₃=>wpAny (model prog w) A (eval elt env) (fun x s₄=>
          wpAny (model prog w) A (call (.builtin "list.append") [acc,x]) (fun _ s₅=>∃ m,m<n∧I m s₅) (fun _ _=>False) s₄) (fun _ _=>False) s₃) (fun _ _=>False) s₂) (fun _ _=>False) s₁) (fun _ _=>False) s)
    (n:Nat) (h:I n s):codeAny (model prog w) A (.compLoop (.ListComp elt [⟨target,iter,[],0⟩] scope pos) 0 it acc env) R s:=by
  refine codeAny_loop rfl I (fun n s hI=>?_) n h
  show wpAny _ A ((compTurn (.ListComp elt [⟨target,iter,[],0⟩] scope pos) 0 it acc env).onRaise (fun x=>do noteFrame x env;theTreesLotGoes x)) _ _ s
  refine wpAny_noted ?_
  rw [compTurn_list]
  have no:∀ {E':Value→Shared→Prop} (e:Value) (s':Shared),(fun (_:Value) (_:Shared)=>False) e s'→E' e s':=fun _ _ f=>f.elim
  refine wpAny_bind (wpAny_standAt (wpAny_bind (wpAny_mono (turn n s hI) (fun r s₁ h₁=>?_) no)))
  cases r with
  | none=>exact wpAny_pure h₁
  | some v=>
    refine wpAny_bind (wpAny_mono h₁ (fun _ s₂ h₂=>?_) no)
    refine wpAny_bind (wpAny_mono h₂ (fun _ s₃ h₃=>wpAny_bind (wpAny_tests_nil ?_)) no)
    exact wpAny_bind (wpAny_bind (wpAny_mono h₃ (fun x s₄ h₄=>wpAny_bind (wpAny_mono h₄ (fun _ s₅ h₅=>wpAny_pure (wpAny_pure ⟨rfl,h₅⟩)) no)) no))
theorem qjS {elt iter tg:Expr} {pos:Pos} {wi:TI} {g:TG} {te:TE} {pins:List (Addr×Obj)} {s:Shared} {σ:L2.St} {H:Hp} {Q:VK} (RR:Value→Addr→Result→Shared→Prop) (hc:X.calm=true) (B:BlkOk X N capt scope cl) (hi:PI X tg iter wi)
    (hg:∀ C s H fp,PG (blk X N scope cl C s H fp) tg g) (he:∀ C s H fp,PE (blk X N scope cl C s H fp) elt te) (I:Inv X pins σ H s) (h:qcG wi capt g te σ H Q)
    (fin:∀ (D C:Addr) (s4:Shared) (Hq:Hp) (m:Str→Option Value),Inv X pins σ Hq s4→Q (.ref D) Hq→s4.heap.Ns C m→Hq C=none→C≠X.env.locals→X.s₀.heap.objs.size≤C→(∀ x c,X.env.cells.lookup x=some c→c≠C)→(∀ p∈X.pn++pins,p.1≠C)→RR (.ref D) C (.ok .next) s4) :
    wpAny (model X.prog X.w) X.A (eval iter X.env) (fun x s₁=>wpAny (model X.prog X.w) X.A (pyIter x) (fun it s₂=>wpAny (model X.prog X.w) X.A (newList []) (fun acc s₃=>
      wpAny (model X.prog X.w) X.A (newFunctionEnv scope X.env.globals cl [] X.env.qual none .none (some X.env)) (fun cenv s₄=>
        codeAny (model X.prog X.w) X.A (.compStart (.ListComp elt [⟨tg,iter,[],0⟩] scope pos) 0 it acc { cenv with scope:=relabel scope X.env }) (RR acc cenv.locals) s₄) X.xe s₃) X.xe s₂) X.xe s₁) X.xe s:=by
  refine thn (hi pins s σ H _ I h) fun v s1 h1=>thn h1 fun itv s2 h2=>?_
  obtain ⟨it,fp,tn,J,H2,e,I2,T,st2,f2,n0,W,w0,turn⟩:=h2
  subst e
  have fl:∀ b∈fp,b<s2.heap.objs.size:=fun b hb=>by obtain ⟨o,e,_⟩:=T.obj _ _ st2 b hb;exact Heap.lt_size e
  refine wpAny_newObj_type (wpAny_newFunctionEnv B.nocell (by intro y hy;simp at hy) (fun h₁ hns₁ hsb₁=>?_) B.kind)
  dsimp only at hns₁ hsb₁ ⊢
  generalize hG:s2.heap.push { cls:=.type "list", dict:=none,data:=.seq ([]:List Value).toArray }=G at hns₁ hsb₁ ⊢
  have hC:G.objs.size=s2.heap.objs.size+1:=by rw [← hG,Heap.size_push]
  have hCle:s2.heap.objs.size≤G.objs.size:=by rw [hC];exact Nat.le_succ _
  have hDC:s2.heap.objs.size≠G.objs.size:=by rw [hC];exact Nat.ne_of_lt (Nat.lt_succ_self _)
  have old:∀ b o,s2.heap.get? b=some o→h₁.get? b=some o:=fun b o e=>hsb₁.extBut b o (by rw [hC];exact Nat.ne_of_lt (Nat.lt_succ_of_lt (Heap.lt_size e))) (Heap.get?_push_of_some _ (hG ▸ Heap.get?_push_of_some _ e))
  have hacc:h₁.get? s2.heap.objs.size=some { cls:=.type "list", data:=.seq ([]:List Value).toArray }:=hsb₁.extBut _ _ hDC (Heap.get?_push_of_some _ (hG ▸ Heap.get?_push_size _ rfl))
  have ok':=qnv B I2 f2 fl hCle
  have nsD:s2.heap.objs.size∉frs X.stack:=fun hb=>by
    rcases List.mem_cons.mp (I2.stkSub _ hb) with z | z
    · exact absurd I2.lt (by rw [← z];exact Nat.lt_irrefl _)
    · exact I2.nofs (Nat.le_refl _) z
  have ncD:∀ x c,cl.lookup x=some c→c≠s2.heap.objs.size:=fun x c e z=>by
    obtain ⟨v,q⟩:=I2.cell x c (B.cells x c e)
    exact absurd q.lt (by rw [z];exact Nat.lt_irrefl _)
  have nfD:∀ b∈fp,s2.heap.objs.size≠b:=fun b hb z=>absurd (fl b hb) (by rw [← z];exact Nat.lt_irrefl _)
  have I₁:Inv (blk X N scope cl G.objs.size s2 H2 fp) [] (qc7 capt σ) H2 { s2 with heap:=h₁,toks:=s2.toks+([]:List (Str×Value)).length }:=qnw B I2 f2 fl hCle hns₁ old
  have loop:codeAny (model X.prog X.w) X.A (.compLoop (.ListComp elt [⟨tg,iter,[],0⟩] scope pos) 0 (.ref it) (.ref s2.heap.objs.size) (compEnvC scope cl G.objs.size X.env))
      (RR (.ref s2.heap.objs.size) G.objs.size) { s2 with heap:=h₁,toks:=s2.toks+([]:List (Str×Value)).length }:=by
    refine qkJ (fun n s'=>∃ (i:Nat) (ys:List V) (its:List Value) (k:Nat) (Hc:Hp),Inv (blk X N scope cl G.objs.size s2 H2 fp) [] (qc7 capt σ) Hc s'∧s'.heap.get? s2.heap.objs.size=some { cls:=.type "list", data:=.seq its.toArray k }∧Vals ys its∧
      Hc s2.heap.objs.size=none∧tn i s'.heap∧(∀ b∈fp,Hc b=none)∧W i ys Hc∧n=n0 - i) ?_ n0 ⟨0,[],[],0,H2,I₁,hacc,.nil,I2.hok.fresh (Nat.le_refl _),T.keep _ _ _ st2 (fun b _ o e=>old b o e),fun b hb=>(f2 b hb).1,w0,rfl⟩
    rintro n s3 ⟨i,ys,its,k,Hc,I3,hD,hv,nD,st3,fr3,w3,en⟩
    obtain ⟨_,hl,step⟩:=turn i ys Hc w3
    have hz:its.toArray.size≤sizeLine:=by rw [List.size_toArray,← hv.length];exact hl
    have I3p:Inv (blk X N scope cl G.objs.size s2 H2 fp) [(s2.heap.objs.size,{ cls:=.type "list", data:=.seq its.toArray k })] (qc7 capt σ) Hc s3:=I3.pins_of fun p hp=>by
      rw [List.mem_singleton] at hp
      subst hp
      exact ⟨hD,nD,hDC,nsD,fun v z=>nomatch z⟩
    have fo3:∀ {Hx:Hp} (_:∀ b∈fp,Hx b=none),∀ b∈fp,qky (blk X N scope cl G.objs.size s2 H2 fp) [(s2.heap.objs.size,{ cls:=.type "list", data:=.seq its.toArray k })] Hx b:=fun hx b hb=>
      ⟨hx b hb,(ok'.exf b hb).1,ok'.exfs b hb,.inl hb,(ok'.exf b hb).2,fun p hp=>by
        have hp':p∈[((s2.heap.objs.size,{ cls:=.type "list", data:=.seq its.toArray k }):Addr×Obj)]:=hp
        rw [List.mem_singleton] at hp'
        subst hp'
        exact nfD b hb⟩
    rcases step with ⟨stop,q⟩ | ⟨ltn,go,nxt⟩
    · refine thn (T.done (blk X N scope cl G.objs.size s2 H2 fp) rfl rfl rfl hc i _ s3 _ Hc _ I3p (fo3 fr3) st3 stop) fun r s4 ⟨hr,I4⟩=>?_
      subst hr
      have hD4:=(I4.pin (s2.heap.objs.size,{ cls:=.type "list", data:=.seq its.toArray k }) (List.mem_append_right _ (List.mem_singleton.mpr rfl))).1
      obtain ⟨m,hn,_⟩:=I4.loc
      have nDt:∀ b u,Hc b=some u→b≠s2.heap.objs.size:=fun b u e z=>by rw [z,nD] at e;cases e
      have oldC:∀ b o,s2.heap.get? b=some o→b≠s2.heap.objs.size:=fun b o e=>Nat.ne_of_lt (Heap.lt_size e)
      have ub:Un (frs X.stack) fp H2 Hc s2.heap s4.heap:=I4.base
      have cC:∀ b,b<s2.heap.objs.size→b≠G.objs.size:=fun b hb z=>absurd (Nat.lt_of_lt_of_le hb hCle) (by rw [z];exact Nat.lt_irrefl _)
      refine fin _ G.objs.size s4 (upd Hc s2.heap.objs.size (.lst ys)) m ?_ (q _ nD) hn (by rw [qaJ (fun z=>hDC z.symm)];exact I4.free) (fun z=>cC _ I2.lt z.symm) (Nat.le_trans I2.sz hCle)
        (fun x c e=>by obtain ⟨v,q⟩:=I2.cell x c e;exact cC _ q.lt) fun p hp=>cC _ (Heap.lt_size (I2.pin p hp).1)
      refine I2.call' (ch:=fp) (s':=s4) I4.os ?_ ?_ I4.bare fun b hb=>⟨(f2 b hb).2.2.2.1,(f2 b hb).2.1,(f2 b hb).2.2.2.2.1,(f2 b hb).2.2.2.2.2⟩
      · refine ⟨ub.keep,ub.slot,fun b o e n hx=>?_,ub.there,fun b xs e=>?_,fun b o u e=>?_,fun b ps e=>?_⟩
        · rw [qaJ (oldC b o e)];exact ub.free b o e n hx
        · have z:=ub.tups b xs e
          rw [qaJ (nDt b _ z)];exact z
        · have z:=ub.frzs b o u e
          rw [qaJ (nDt b _ z)];exact z
        · obtain ⟨more,z⟩:=ub.tbls b ps e
          exact ⟨more,by rw [qaJ (nDt b _ z)];exact z⟩
      · intro b u e
        by_cases hb:b=s2.heap.objs.size
        · subst hb
          rw [qai] at e
          cases e
          exact ⟨hl,its,k,hv,hD4⟩
        · rw [qaJ hb] at e
          exact (I4.hok b u e).stay (fun c v _ q=>q) (fun c q=>by rw [qaJ (nDt c _ q)];exact q) fun c xs q=>by rw [qaJ (nDt c _ q)];exact q
    · refine thn (T.item (blk X N scope cl G.objs.size s2 H2 fp) rfl rfl rfl hc i _ s3 _ Hc _ I3p (fo3 fr3) st3 go) fun r s4 ⟨u,hr,h4⟩=>?_
      subst hr
      refine thn h4 fun _ s5 ⟨x,H5,I5,r5,y5,st5,fr5⟩=>?_
      have I5':=I5.pinned (fo3 fr5) (T.obj _ _ st5)
      refine thn (hg _ _ _ _ _ s5 _ H5 x u _ I5' r5 (nxt x H5 y5)) fun _ s6 ⟨σ6,H6,I6,q6⟩=>?_
      refine thn (he _ _ _ _ _ s6 σ6 H6 _ I6 q6) fun uy s7 ⟨y,H7,I7,r7,w7⟩=>?_
      have pD:=I7.pin (s2.heap.objs.size,{ cls:=.type "list", data:=.seq its.toArray k }) (List.mem_append_right _ (List.mem_append_left _ (List.mem_singleton.mpr rfl)))
      have pF:∀ b∈fp,∀ o,s5.heap.get? b=some o→s7.heap.get? b=some o∧H7 b=none:=fun b hb o e=>by
        have z:=I7.pin (b,o) (List.mem_append_right _ (List.mem_append_right _ (qdx hb e)))
        exact ⟨z.1,z.2.1⟩
      refine append_at (hsz:=hz) pD.1 fun h8 sb8 hD8=>?_
      have I7n:Inv (blk X N scope cl G.objs.size s2 H2 fp) [] σ6 H7 s7:=I7.pins_of fun p hp=>nomatch hp
      have I8:Inv (blk X N scope cl G.objs.size s2 H2 fp) [] σ6 H7 { s7 with heap:=h8,toks:=s7.toks }:=I7n.turned (fun b o hb e=>sb8.extBut b o hb e) pD.2.1 hDC (.inr (Nat.le_refl _)) ncD (fun p hp=>nomatch hp)
      refine ⟨n0 - (i+1),by omega,i+1,ys++[y],its++[uy],k+1,H7,qg1 B I2 f2 I8,?_,Paired.snoc hv r7,pD.2.1,T.keep _ _ _ st5 (fun b hb o e=>sb8.extBut b o (nfD b hb).symm (pF b hb o e).1),fun b hb=>?_,w7,rfl⟩
      · show h8.get? _=_
        rw [hD8,List.push_toArray]
      · obtain ⟨o,e,_⟩:=T.obj _ _ st5 b hb
        exact (pF b hb o e).2
  exact codeAny_compStart_list loop (T.self X.A 0 _ _ _ (T.keep _ _ _ st2 (fun b _ o e=>old b o e)) loop)
theorem qcy {elt iter tg:Expr} {pos:Pos} {wi:TI} {g:TG} {te:TE} (hc:X.calm=true) (B:BlkOk X N capt scope cl) (hi:PI X tg iter wi)
    (hg:∀ C s H fp,PG (blk X N scope cl C s H fp) tg g) (he:∀ C s H fp,PE (blk X N scope cl C s H fp) elt te)
    (hs:∀ x,foldedSetIterable iter X.env x=pure x:=by intro _;rfl):PE X (.ListComp elt [⟨tg,iter,[],0⟩] scope pos) (qcG wi capt g te):=by
  intro pins s σ H Q I h
  rw [eval_ListComp]
  refine wpAny_comprehension_free (use:=none) rfl hs B.clos B.kind B.names (qjS (fun acc C=>compPost (model X.prog X.w) X.A X.xe none (EP X pins σ Q) acc C) hc B hi hg he I h fun D C s4 Hq m I4 q hn hf h1 h2 h3 h4=>?_)
  exact ⟨m,hn,fun h' sb=>⟨.ref D,Hq,I4.turned (fun b o hb e=>sb.extBut b o hb e) hf h1 (.inr h2) h3 h4,rfl,q⟩⟩
theorem qkK {i:Nat} {x:Str} {pos' spos:Pos} {elt iter tg:Expr} {pos:Pos} {wi:TI} {g:TG} {te:TE} (hN:X.N.Nodup) (hi':X.N[i]?=some x) (hx:Loc X.env.scope x) (hc:X.calm=true) (B:BlkOk X N capt scope cl) (hi:PI X tg iter wi)
    (hg:∀ C s H fp,PG (blk X N scope cl C s H fp) tg g) (he:∀ C s H fp,PE (blk X N scope cl C s H fp) elt te)
    (hsw:swapsWith (.ListComp elt [⟨tg,iter,[],0⟩] scope pos) (some (.Name x pos')) spos.line X.env=pure true:=by rfl)
    (hs:∀ x,foldedSetIterable iter X.env x=pure x:=by intro _;rfl) (hf:X.fn x=true∨X.env.scope.names.lookup x=some .local:=by first | exact .inl rfl | exact .inr rfl | assumption) :
    PS X (.Assign [.Name x pos'] (.ListComp elt [⟨tg,iter,[],0⟩] scope pos) spos) (qa7 (qcG wi capt g te) (qaq i)):=by
  intro pins s σ H D I h
  rw [exec_Assign_Name_used _ _ _ _ hsw]
  refine wpAny_bind (wpAny_standAt (wpAny_bind ?_))
  show wpAny _ X.A (do let _ ← comprehension (.ListComp elt [⟨tg,iter,[],0⟩] scope pos) scope X.env _ (newList []) false (eval iter X.env) (some (assign (.Name x pos') X.env))) _ _ s
  refine wpAny_bind (wpAny_mono (wpAny_comprehension_free (use:=some (assign (.Name x pos') X.env)) (Q:=fun _ s'=>SP X pins D .next s') rfl hs B.clos B.kind B.names
    (qjS (fun acc C=>compPost (model X.prog X.w) X.A X.xe (some (assign (.Name x pos') X.env)) (fun _ s'=>SP X pins D .next s') acc C) hc B hi hg he I h fun Da C s4 Hq m I4 q hn hfr h1 h2 h3 h4=>?_)) (fun _ s' hq=>wpAny_pure (wpAny_pure hq)) fun _ _ e=>e)
  show wpAny _ X.A (assign (.Name x pos') X.env (.ref Da)) _ _ _
  refine wpAny_assign_Name (qjF I4 hN hi' hx (v:=.ref Da) rfl (fun s5 I5 ⟨a,sb5,ha⟩=>⟨m,hn.sameBut sb5 ?_,fun h' sb=>⟨_,_,I5.turned (fun b o hb e=>sb.extBut b o hb e) hfr h1 (.inr h2) h3 h4,q⟩⟩) hf)
  rcases ha with z | z
  · rw [z];exact h1
  · exact fun e=>h3 x a z e.symm
end
end Bs
namespace Bs
open PySem PySem.Spec PyProof.Rows L2
open PySem.AutoSeq1 (wpAny_loadPart')
section
variable {prog:Program} {w:World} {A:Around} {E:Value→Shared→Prop} {s:Shared} {e it t:Addr} {i:Nat} {zs:Array Value}
end
section
variable {X:Cx} {pins:List (Addr×Obj)} {σ:L2.St} {H:Hp} {s:Shared}
theorem qo6 {e it:Addr} {g:Heap} {tk:Nat} {xs:List V} {its:List Value} (I:Inv X pins σ H s) (fe:qky X pins H e) (fi:qky X pins H it) (k:∀ b o,b≠e→b≠it→s.heap.get? b=some o→g.get? b=some o)
    (hz:xs.length≤sizeLine) (rv:Vals xs its) (ht:g.get? s.heap.objs.size=some { cls:=.type "tuple", data:=.seq its.toArray }):Inv X pins σ (upd H s.heap.objs.size (.tup xs)) { s with heap:=g,toks:=tk }:=by
  have nT:H s.heap.objs.size=none:=I.hok.fresh (Nat.le_refl _)
  have old:∀ b o,s.heap.get? b=some o→b≠s.heap.objs.size:=fun b o q=>Nat.ne_of_lt (Heap.lt_size q)
  have tr:∀ b u,H b=some u→b≠s.heap.objs.size∧b≠e∧b≠it:=fun b u q=>⟨qaH q nT,qaH q fe.1,qaH q fi.1⟩
  have off:∀ b,b∉[e,it]→b≠e∧b≠it:=fun b hb=>⟨fun z=>hb (by simp [z]),fun z=>hb (by simp [z])⟩
  refine I.step (g':=s.gens) (d':=s.drawn) (ch:=[e,it]) (fun b hb=>?_) (fun b o _ _ hc q _=>k b o (off b hc).1 (off b hc).2 q) (fun b o _ _ hc q _=>⟨o.slots,k b o (off b hc).1 (off b hc).2 q⟩) (fun b o _ q n=>?_) (fun b o hc q=>⟨o,k b o (off b hc).1 (off b hc).2 q⟩)
    (fun b ys q=>?_) (fun b o u q=>?_) (fun b ps q=>⟨#[],?_⟩) (fun m hm=>?_) (fun b u q=>?_) I.bare
  · have z:b=e∨b=it:=by simpa using hb
    rcases z with rfl | rfl
    · exact ⟨fe.2.2.2.1,fe.2.1,fe.2.2.2.2.1,fe.2.2.2.2.2⟩
    · exact ⟨fi.2.2.2.1,fi.2.1,fi.2.2.2.2.1,fi.2.2.2.2.2⟩
  · rw [qaJ (old b o q)];exact n
  · rw [qaJ (tr b _ q).1];exact q
  · rw [qaJ (tr b _ q).1];exact q
  · rw [qaJ (tr b _ q).1,q];simp
  · obtain ⟨o,es,ep,ho,hr⟩:=hm
    exact ⟨o,es,ep,k _ o fe.2.1.symm fi.2.1.symm ho,hr⟩
  · by_cases hb:b=s.heap.objs.size
    · subst hb
      rw [qai] at q
      cases q
      exact ⟨hz,its,rv,⟨_,ht,rfl,_,rfl⟩⟩
    · rw [qaJ hb] at q
      refine (I.hok b u q).stay (fun c v hc z=>?_) (fun c z=>by rw [qaJ (tr c _ z).1];exact z) fun c ys z=>by rw [qaJ (tr c _ z).1];exact z
      rcases hc with y | y
      · subst y;exact k _ v (tr _ u q).2.1 (tr _ u q).2.2 z
      · exact k c v (tr c _ y).2.1 (tr c _ y).2.2 z
end
theorem qmh {P:Program} {w:World} {K:W.Frag} {elts:List Expr} {k:Nat} {pos:Pos} (a e it:Addr) (ne:e≠it):Turn P w K (.Tuple elts k pos) (qrs K a) [e,it] e (fun i h=>(∃ old,IsEnum h e it i old)∧h.IsListIter it a i) where
  mem:=by simp
  obj:=fun i h st b hb=>by
    obtain ⟨⟨old,se⟩,o,ho,c,d⟩:=st
    have z:b=e∨b=it:=by simpa using hb
    rcases z with rfl | rfl
    · exact ⟨_,se,fun v z=>nomatch z⟩
    · exact ⟨o,ho,fun v z=>by rw [d] at z;cases z⟩
  keep:=fun i h h' st kk=>⟨let ⟨old,se⟩:=st.1;⟨old,kk e (by simp) _ se⟩,st.2.at fun o q=>kk it (by simp) o q⟩
  item:=by
    intro X hP hw hK hc i pins s σ H E I hf st hg
    subst hP hw hK
    obtain ⟨xs,x,hq,hx⟩:=hg
    obtain ⟨⟨old,se⟩,si⟩:=st
    obtain ⟨its,rv,p,hz⟩:=I.list hq
    obtain ⟨u,hu,ru⟩:=rv.get hx
    refine wpAny_pyNext_enum_item se si p.isList (x:=u) (by simpa using hu) ne fun g eo gi gt _ gk=>?_
    refine ⟨_,rfl,wpAny_letOwnedTupleGo_enum eo fun g' se' sb=>?_⟩
    have I1:=qo6 (g:=g') (tk:=s.toks+1) (xs:=[.int i,x]) (its:=[.int i s.toks,u]) I (hf e (by simp)) (hf it (by simp)) (fun b o h1 h2 q=>sb.extBut b o h1 (gk b o h1 h2 q)) (sz (by simp)) (.cons ⟨_,rfl⟩ (.cons ru .nil)) (sb.extBut _ _ (Nat.ne_of_gt (Heap.lt_size se)) gt)
    refine ⟨.ref s.heap.objs.size,_,I1,rfl,⟨_,x,I.hok.fresh (Nat.le_refl _),rfl,rfl,fun ys hy=>by rw [I.list_inj hy hq];exact hx⟩,⟨⟨_,by simpa using se'⟩,gi.at fun o q=>sb.extBut it o ne.symm q⟩,fun b hb=>?_⟩
    rw [qaJ]
    · exact (hf b hb).1
    · have z:b=e∨b=it:=by simpa using hb
      rcases z with rfl | rfl
      · exact Nat.ne_of_lt (Heap.lt_size se)
      · obtain ⟨o,ho,_⟩:=si;exact Nat.ne_of_lt (Heap.lt_size ho)
  done:=by
    intro X hP hw hK hc i pins s σ H E I hf st hg
    subst hP hw hK
    obtain ⟨xs,hq,hx⟩:=hg
    obtain ⟨⟨old,se⟩,si⟩:=st
    obtain ⟨its,rv,p,hz⟩:=I.list hq
    obtain ⟨f0,f1,f2,f3,f4,f5⟩:=hf it (by simp)
    have hl:=rv.length
    exact wpAny_pyNext_enum_end (I.ok.hd hc) se si p.isList (by simp;omega) fun g eb=>⟨rfl,I.turned (t':=s.toks) (fun b o hb q=>eb b o hb q) f0 f1 f3 f4 f5⟩
  self:=fun _ _ _ _ _ st h=>let ⟨_,se⟩:=st.1;wpAny_pyIter_enum se h
section
variable {X:Cx} {elts:List Expr} {k:Nat} {tpos:Pos} {a:Expr} {ta:TA} {p pos:Pos}
theorem qiX (hg:Gl X "enumerate") (hm:X.mg "enumerate" = none) (ha:PA X [a] ta) (hs:starEach [a] X.env=[(false,eval a X.env)]:=by rfl):PI X (.Tuple elts k tpos) (.Call (.Name "enumerate" p) [a] [] pos) (qin X.K ta):=by
  intro pins s σ H R I h
  refine Call_ (qf8 I hg hm qjR (PyProof.Rows.callWith_type1 (thn (ha pos pins s σ H _ I h) fun us s1 ⟨vs,H1,I1,r1,q1⟩=>?_) hs rfl))
  obtain ⟨b,rfl,⟨xs,hq⟩,q⟩:=q1
  obtain ⟨u,rfl,ru⟩:=qiJ r1
  cases ru
  obtain ⟨its,rv,pl,hz⟩:=I1.list hq
  refine call_enumerate_list pl.isList fun g se si _ gk=>?_
  have I2:Inv X pins σ H1 { s1 with heap:=g }:=I1.kept (t':=s1.toks) gk
  refine wpAny_pyIter_enum se ⟨_,[s1.heap.objs.size+1,s1.heap.objs.size],_,_,H1,rfl,I2,qmh b _ _ (Nat.succ_ne_self _),⟨⟨_,se⟩,si⟩,fun c hc=>?_,q⟩
  have z:c=s1.heap.objs.size+1∨c=s1.heap.objs.size:=by simpa using hc
  rcases z with rfl | rfl
  · exact I1.fpOk (Nat.le_succ _) (I1.hok.fresh (Nat.le_succ _))
  · exact I1.fpOk (Nat.le_refl _) (I1.hok.fresh (Nat.le_refl _))
end
end Bs
namespace Bs
open PySem L2
mutual
inductive RepD (H:Hp):V→PySem.W.Dat→Prop
  | non:RepD H .non .none
  | int (i:Int):RepD H (.int i) (.int i)
  | tup {p:Addr} {xs:List V} {ds:List PySem.W.Dat} (h:H p=some (.tup xs)) (r:RepA H xs ds):RepD H (.ref p) (.tuple ds)
  | lst {p:Addr} {xs:List V} {ds:List PySem.W.Dat} (h:H p=some (.lst xs)) (r:RepA H xs ds):RepD H (.ref p) (.list ds)
inductive RepA (H:Hp):List V→List PySem.W.Dat→Prop
  | nil:RepA H [] []
  | cons {x:V} {xs:List V} {d:PySem.W.Dat} {ds:List PySem.W.Dat} (h:RepD H x d) (r:RepA H xs ds):RepA H (x::xs) (d::ds)
end
noncomputable def eqD:R2:=fun x y H Q=>∃ (d e:PySem.W.Dat) (b:Bool),RepD H x d∧RepD H y e∧PySem.W.kqdOk 8 d=true∧PySem.W.kqdOk 8 e=true∧(b=true↔d=e)∧Q (.bl b) H
noncomputable def neD:R2:=fun x y H Q=>∃ (d e:PySem.W.Dat) (b:Bool),RepD H x d∧RepD H y e∧PySem.W.kqdOk 8 d=true∧PySem.W.kqdOk 8 e=true∧(b=true↔d=e)∧Q (.bl (!b)) H
noncomputable def qg2 (te:TE):TT:=fun σ H Q=>te σ H fun x H'=>∃ p xs,x=.ref p∧H' p=some (.lst xs)∧Q (!xs.isEmpty) H'
noncomputable def qrQ (te:TE):TT:=fun σ H Q=>te σ H fun x H'=>∃ p xs,x=.ref p∧H' p=some (.tup xs)∧Q (!xs.isEmpty) H'
noncomputable def sL:V→Option Int→Option Int→Hp→VK→Prop:=fun x lo hi H Q=>∃ a xs,x=.ref a∧H a=some (.lst xs)∧∀ p,H p=none→Q (.ref p) (upd H p (.lst (qjE xs lo hi)))
noncomputable def qnx:List V→Hp→VK→Prop:=fun xs H Q=>∃ p ys,xs=[.ref p]∧H p=some (.lst ys)∧∀ l,H l=none→Q (.ref l) (upd H l (.tup ys))
noncomputable def qp0:List V→Hp→VK→Prop:=fun xs H Q=>∃ p ys,xs=[.ref p]∧H p=some (.tup ys)∧∀ l,H l=none→Q (.ref l) (upd H l (.lst ys))
noncomputable def qjT:List V→Hp→VK→Prop:=fun xs H Q=>∃ p ys,xs=[.ref p]∧H p=some (.lst ys)∧∀ l,H l=none→Q (.ref l) (upd H l (.lst ys))
end Bs
namespace Bs
open PySem PySem.Spec PyProof.Rows L2
section
variable {X:Cx} {pins:List (Addr×Obj)} {σ:L2.St} {H:Hp} {s:Shared}
mutual
theorem qef (I:Inv X pins σ H s):∀ {x:V} {d:PySem.W.Dat} {u:Value},RepD H x d→RelV x u→∃ as,Reads s.heap u (PySem.W.kqdP d) as
  | _,_,_,.non,e=>by cases e;rw [PySem.W.kqdP];exact ⟨_,Reads.none⟩
  | _,_,_,.int i,⟨t,e⟩=>by subst e;rw [PySem.W.kqdP];exact ⟨_,Reads.int i t⟩
  | _,_,_,.tup h r,e=>by
    cases e
    obtain ⟨its,rv,p,_⟩:=I.tuple (SqT.of h)
    obtain ⟨as,q⟩:=qkL I r rv
    obtain ⟨o,ho,hc,n,hd⟩:=p
    rw [PySem.W.kqdP]
    exact ⟨as,reads_tuple_at ho hc hd (by simpa using q)⟩
  | _,_,_,.lst h r,e=>by
    cases e
    obtain ⟨its,rv,p,_⟩:=I.list (SqL.of h)
    obtain ⟨as,q⟩:=qkL I r rv
    obtain ⟨o,n,ho,hc,_,hd⟩:=p
    rw [PySem.W.kqdP]
    exact ⟨_,reads_list_at ho hc hd (by simpa using q)⟩
theorem qkL (I:Inv X pins σ H s):∀ {xs:List V} {ds:List PySem.W.Dat} {us:List Value},RepA H xs ds→Vals xs us→∃ as,ReadsAll s.heap us (PySem.W.kqdPs ds) as
  | _,_,_,.nil,.nil=>by rw [PySem.W.kqdPs];exact ⟨_,ReadsAll.nil⟩
  | _,_,_,.cons h r,.cons e es=>by
    obtain ⟨as,q⟩:=qef I h e
    obtain ⟨bs,q2⟩:=qkL I r es
    rw [PySem.W.kqdPs]
    exact ⟨_,ReadsAll.cons q q2⟩
end
theorem qfm {d:PySem.W.Dat} (h:PySem.W.kqdOk 8 d=true):SeqAt.shaped (PySem.W.kqdP d)=true:=by
  have z:=PySem.W.kqd_lay 8 d h
  unfold SeqAt.shaped
  rw [z.1,Bool.true_and]
  exact decide_eq_true (Nat.le_trans z.2 (by decide))
theorem qp1 {d e:PySem.W.Dat} {b:Bool} (h1:PySem.W.kqdOk 8 d=true) (h2:PySem.W.kqdOk 8 e=true) (hb:b=true↔d=e):PyData.eqv (PySem.W.kqdP d) (PySem.W.kqdP e)=b:=by
  rw [Bool.eq_iff_iff,hb]
  exact PySem.W.kqd_eqv 8 d e 8 h1 h2
theorem qlC (hu:X.A.units+64<cLine):OpR X (compareOp .Eq) eqD:=by
  intro pins s σ H x y v u Q I rx ry h
  obtain ⟨d,e,b,r1,r2,k1,k2,hb,q⟩:=h
  obtain ⟨as,q1⟩:=qef I r1 rx
  obtain ⟨bs,q2⟩:=qef I r2 ry
  exact eq_dataH q1 q2 (qfm k1) (qfm k2) hu (by rw [qp1 k1 k2 hb];exact ⟨.bl b,H,I,rfl,q⟩)
theorem qd1 (hu:X.A.units+64<cLine):OpR X (compareOp .NotEq) neD:=by
  intro pins s σ H x y v u Q I rx ry h
  obtain ⟨d,e,b,r1,r2,k1,k2,hb,q⟩:=h
  obtain ⟨as,q1⟩:=qef I r1 rx
  obtain ⟨bs,q2⟩:=qef I r2 ry
  exact ne_dataH q1 q2 (qfm k1) (qfm k2) hu (by rw [qp1 k1 k2 hb];exact ⟨.bl (!b),H,I,rfl,q⟩)
theorem qeg {a:Expr} {ta:TE} (ha:PE X a ta) (he:∀ whole,isTrue a X.env whole=(do let v ← whole;standAt a.pos;holding [v] (truthy v))):PT X a (qg2 ta):=fun pins s σ H Q I h=>
  isTrue_plain (thn (ha pins s σ H _ I h) fun v s1 ⟨x,H1,I1,r1,q1⟩=>by
    obtain ⟨p,xs,e,hp,q⟩:=q1
    subst e
    exact qrD pins s1 σ H1 _ v Q I1 r1 ⟨_,.inl ⟨xs,SqL.of hp,rfl⟩,q⟩) (he _)
theorem qiY:SlR X sL:=by
  intro pins s σ H x v vl vu lo hi sl Q I rx hs pl pu h
  obtain ⟨a,xs,e,ha,q⟩:=h
  exact qqz pins s σ H x v vl vu lo hi sl Q I rx hs pl pu ⟨a,xs,e,SqL.of ha,q⟩
theorem qjU:qd7 X (.type "tuple") qnx:=fun pins s σ H xs us Q I r h=>by
  obtain ⟨p,ys,e,hp,q⟩:=h
  exact qiN pins s σ H xs us Q I r ⟨p,ys,e,.inl ⟨SqL.of hp,q⟩⟩
theorem qio:qd7 X (.type "list") qjT:=fun pins s σ H xs us Q I r h=>by
  obtain ⟨p,ys,e,hp,q⟩:=h
  exact qjM pins s σ H xs us Q I r ⟨p,ys,e,.inl (SqL.of hp),q⟩
theorem qgA:PGet X gL:=by
  intro pins s σ H o i ov iv Q I ro ri h
  obtain ⟨p,k,xs,v,rfl,rfl,hp,ha,q⟩:=h
  cases ro
  obtain ⟨t,rfl⟩:=ri
  obtain ⟨its,r,pl,hz⟩:=I.list (SqL.of hp)
  obtain ⟨j,h1,h2,h3,h4,h5⟩:=qkD ha
  obtain ⟨w,ew,rw'⟩:=r.get h2
  have hl:=r.length
  have hn:=qig
  have fin:EP X pins σ Q w s:=⟨v,H,I,rw',q⟩
  by_cases h0:0≤k
  · have hj:k.toNat=j:=by
      rw [seqIndex_of h0 h5] at h1
      exact Option.some.inj h1
    exact wpAny_getItem_list pl.isList h0 (by omega) (by rw [hj];simpa using ew) fin
  · have hj:(k+(its.toArray.size:Int)).toNat=j:=by
      rw [seqIndex_neg (by omega) h4] at h1
      rw [List.size_toArray,← hl]
      exact Option.some.inj h1
    exact wpAny_getItem_list_neg pl.isList (by omega) (by rw [List.size_toArray] <;> omega) (by omega) (by rw [hj];simpa using ew) fin
theorem qqD {K:W.Frag} {p:Addr} {xs:List V} (h:H p=some (.lst xs)):tyV K "list" (.ref p) H:=.inl ⟨rfl,xs,SqL.of h⟩
end
end Bs
namespace Bs
open PySem L2
noncomputable def qkM (n:Nat) (t:TGs):TG:=fun v σ H Q=>∃ a xs,v=.ref a∧H a=some (.tup xs)∧xs.length=n∧t xs σ H Q
end Bs
namespace Bs
open PySem PySem.Spec PyProof.Rows L2
theorem qiZ {X:Cx} {es:List Expr} {k:Nat} {pos:Pos} {t:TGs} {n:Nat} (hc:X.calm=true) (h:PGs X es t)
    (hn:(assignEach es X.env).length=n:=by rfl) (hst:(assignEach es X.env).findIdx? (·.1)=none:=by rfl):PG X (.Tuple es k pos) (qkM n t):=fun pins s σ H v u Q I r q=>by
  obtain ⟨a,xs,e,ha,hl,q⟩:=q
  exact qrC hc h hn hst pins s σ H v u Q I r ⟨a,xs,e,SqT.of ha,hl,q⟩
theorem qny {X:Cx}:OpR X (inplaceOp .FloorDiv) qo3:=opI fun i j _ _ _ _ _ hc q=>by
  refine ifloordiv_int (Int.ne_of_gt hc.1) ?_ (.inl (PyProof.noPylong_of_log2 (hc.2.log2 (by decide))))
  rw [Int.fdiv_eq_ediv_of_nonneg i (Int.le_of_lt hc.1)]
  exact q
end Bs
namespace Bs
open PySem L2
noncomputable def sT:V→Option Int→Option Int→Hp→VK→Prop:=fun x lo hi H Q=>∃ a xs,x=.ref a∧H a=some (.tup xs)∧∀ p H',(H'=H∧p=a∧qjE xs lo hi=xs)∨(H p=none∧H'=upd H p (.tup (qjE xs lo hi)))→Q (.ref p) H'
end Bs
namespace HT
open PySem PySem.Spec PyProof.Rows
end HT
namespace Bs
open PySem PySem.Spec PyProof.Rows L2
end Bs
namespace Bs
open PySem L2
noncomputable def Itd (lo:Int) (n:Nat):It:=⟨fun i _=>i<n,fun i H x H'=>H'=H∧x=.int (lo - i),fun i _=>n≤i⟩
noncomputable def Itv (K:W.Frag) (a:Addr) (n:Nat):It:=⟨fun i H=>i<n∧∃ xs,SqL K H a xs∧xs.length=n,fun i H x H'=>H'=H∧∀ xs,SqL K H a xs→xs[n - 1 - i]?=some x,fun i _=>n=i⟩
noncomputable def qo7 (ta:TA):TI:=fun σ H R=>ta σ H fun vs H1=>∃ i j:Int,vs=[.int i,.int j,.int (-1)]∧(-(2 ^ 62)≤i∧i<2 ^ 62∧-(2 ^ 62)≤j∧j<2 ^ 62)∧R (Itd i (i - j).toNat) H1
noncomputable def qtz (K:W.Frag) (ta:TA):TI:=fun σ H R=>ta σ H fun vs H1=>∃ a xs,vs=[.ref a]∧SqL K H1 a xs∧R (Itv K a xs.length) H1
section
variable {K:W.Frag} {ta:TA} {g:TG} {tb:TS} {D:Ends} {σ:L2.St} {H:Hp} {a:Addr} {xs:List V}
theorem qnz:qhZ (qo7 ta) g tb D σ H=ta σ H (fun vs H1=>∃ i j:Int,vs=[.int i,.int j,.int (-1)]∧(-(2 ^ 62)≤i∧i<2 ^ 62∧-(2 ^ 62)≤j∧j<2 ^ 62)∧ForJ (Itd i (i - j).toNat) g tb D σ H1):=rfl
theorem qnA:qhZ (qtz K ta) g tb D σ H=ta σ H (fun vs H1=>∃ a xs,vs=[.ref a]∧SqL K H1 a xs∧ForJ (Itv K a xs.length) g tb D σ H1):=rfl
theorem ForJ.down {lo:Int} {n:Nat} (Pv:Nat→L2.St→Hp→Prop) (h0:Pv 0 σ H)
    (hs:∀ i σ H,i<n→Pv i σ H→g (.int (lo - i)) σ H fun σ2 H2=>tb { D with nx:=Pv (i+1),ct:=Pv (i+1),bk:=D.nx } σ2 H2) (hd:∀ σ H,Pv n σ H→D.nx σ H):ForJ (Itd lo n) g tb D σ H:=by
  refine ⟨fun i m σ H=>m=n - i∧i≤n∧Pv i σ H,⟨n,by simp,Nat.zero_le _,h0⟩,?_⟩
  rintro i m σ H ⟨rfl,hi,pv⟩
  by_cases lt:i<n
  · refine .inr ⟨lt,Pv (i+1),fun σ' H' p'=>⟨n - (i+1),by omega,rfl,lt,p'⟩,fun x H' y=>?_⟩
    obtain ⟨e,y⟩:=y
    subst e y
    exact hs i σ _ lt pv
  · have e:i=n:=by omega
    subst e
    exact .inl ⟨Nat.le_refl _,hd σ H pv⟩
end
end Bs
namespace Bs
open PySem PySem.Spec PyProof.Rows L2
theorem qnB {P:Program} {w:World} {K:W.Frag} {tg:Expr} (it:Addr) (lo:Int) (n:Nat):Turn P w K tg (Itd lo n) [it] it (fun i h=>IsRangeIter h it (lo+(i:Nat)*(-1)) ((n:Int) - (i:Nat)) (-1)) where
  mem:=by simp
  obj:=fun i h st b hb=>by
    have e:b=it:=by simpa using hb
    subst e
    exact ⟨_,st,fun v z=>by
      have z':Data.fields _=Data.cell v:=z
      cases z'⟩
  keep:=fun i h h' st k=>k it (by simp) _ st
  item:=by
    intro X hP hw hK hc i pins s σ H E I hf st hg
    subst hP hw hK
    obtain ⟨f0,f1,f2,f3,f4,f5⟩:=hf it (by simp)
    have W:=Walks.range (prog:=X.prog) (w:=X.w) (I.ok.hd hc) it lo (-1) n
    refine W.item i s _ _ hg st fun v h' tk hv st' kk=>?_
    obtain ⟨t,rfl⟩:=hv
    have I1:Inv X pins σ H { s with heap:=h',toks:=tk }:=I.turned (fun b o hb e=>kk b o (by simpa using hb) e) f0 f1 f3 f4 f5
    refine ⟨_,rfl,qoY (s:={ s with heap:=h',toks:=tk }) (n := "range_iterator") st' rfl rfl (by decide) ⟨.int (lo - i),H,I1,⟨t,?_⟩,⟨rfl,rfl⟩,st',fun b hb=>(hf b hb).1⟩⟩
    rw [show lo+(i:Int)*(-1)=lo - i by omega]
  done:=by
    intro X hP hw hK hc i pins s σ H E I hf st hg
    subst hP hw hK
    obtain ⟨f0,f1,f2,f3,f4,f5⟩:=hf it (by simp)
    exact wpAny_pyNext_range_end (I.ok.hd hc) st (by have:n≤i:=hg;omega) fun h' eb=>⟨rfl,I.turned (t':=s.toks) (fun b o hb e=>eb b o hb e) f0 f1 f3 f4 f5⟩
  self:=fun _ _ _ _ _ st h=>wpAny_pyIter_rangeiter st h
theorem qjV (a b:Int):Builtin.Range.rangeSize a b (-1)=if b<a then a - b else 0:=by
  unfold Builtin.Range.rangeSize
  simp only [show ¬ ((-1:Int) > 0) by decide,if_false,Int.neg_neg,Int.ediv_one]
  split <;> omega
theorem qmi {a b:Int} (ha:-(2 ^ 62)≤a) (ha':a<2 ^ 62) (hb:-(2 ^ 62)≤b) (hb':b<2 ^ 62):Builtin.Range.small a b (-1)=true:=by
  unfold Builtin.Range.small
  rw [qjV]
  simp only [Builtin.Range.rangeFitsLong,Bool.and_eq_true,Bool.or_eq_true,decide_eq_true_eq,beq_iff_eq,show ¬ ((-1:Int) > 0) by decide,if_false]
  split <;> omega
theorem qjW {X:Cx} {tg:Expr} {a b c:Expr} {ta:TA} {p pos:Pos} (hg:Gl X "range") (hm:X.mg "range" = none) (ha:PA X [a,b,c] ta) (hs:starEach [a,b,c] X.env=[(false,eval a X.env),(false,eval b X.env),(false,eval c X.env)]:=by rfl) (hs2:starEach [b,c] X.env=[(false,eval b X.env),(false,eval c X.env)]:=by rfl) :
    PI X tg (.Call (.Name "range" p) [a,b,c] [] pos) (qo7 ta):=by
  intro pins s σ H R I h
  refine Call_ (qf8 I hg hm boot_range (PyProof.Rows.callWith_type1 (thn (ha pos pins s σ H _ I h) fun us s1 ⟨vs,H1,I1,r1,q1⟩=>?_) (by rw [hs,hs2]) (by rw [hs2];rfl)))
  obtain ⟨i,j,e,⟨q1,q2,q3,q4⟩,q⟩:=q1
  subst e
  cases r1 with
  | cons r rr=>
    cases rr with
    | cons r' rr=>
      cases rr with
      | cons r'' rr=>
        cases rr
        obtain ⟨t,rfl⟩:=r
        obtain ⟨t',rfl⟩:=r'
        obtain ⟨t'',rfl⟩:=r''
        refine call_range_3 (by decide) ?_ (.inl (PyProof.noPylong_small (by decide)))
        refine wpAny_pyIter_range (IsRange.new ..) (qmi q1 q2 q3 q4) ?_
        have I2:Inv X pins σ H1 { s1 with heap:=s1.heap.push { cls:=.type "range", data:=.fields #[.int i t,.int j t',.int (-1) t''] },toks:=s1.toks }:=I1.kept fun b o e=>Heap.get?_push_of_some _ e
        refine ⟨(s1.heap.push { cls:=.type "range", data:=.fields #[.int i t,.int j t',.int (-1) t''] }).objs.size,[(s1.heap.push { cls:=.type "range", data:=.fields #[.int i t,.int j t',.int (-1) t''] }).objs.size],_,_,H1,rfl,
          I2.kept (t':=s1.toks) fun b o e=>Heap.get?_push_of_some _ e,qnB _ i (i - j).toNat,?_,fun b hb=>?_,q⟩
        · have e1:i+((0:Nat):Int)*(-1)=i:=by simp
          have e2:(((i - j).toNat:Nat):Int) - ((0:Nat):Int)=Builtin.Range.rangeSize i j (-1):=by rw [qjV];split <;> omega
          show IsRangeIter _ _ (i+((0:Nat):Int)*(-1)) ((((i - j).toNat:Nat):Int) - ((0:Nat):Int)) (-1)
          rw [e1,e2]
          exact Heap.get?_push_size _ rfl
        · have e:b=(s1.heap.push { cls:=.type "range", data:=.fields #[.int i t,.int j t',.int (-1) t''] }).objs.size:=by simpa using hb
          subst e
          exact I2.fpOk (Nat.le_refl _) (I2.hok.fresh (Nat.le_refl _))
end Bs
namespace Bs
open PySem L2
noncomputable def qsz:R2:=fun x y H Q=>y=.non∧Q (.bl (decide (x=.non))) H
noncomputable def qqE:R2:=fun x y H Q=>y=.non∧Q (.bl (!decide (x=.non))) H
noncomputable def qsM (_ j:Int):Prop:=0<j
noncomputable def qrR (_ j:Int):Prop:=j≠0
noncomputable abbrev qh0:R2:=rI qsM fun i j=>.int (i / j)
noncomputable abbrev qgj:R2:=rI qrR fun i j=>.int (i.fdiv j)
noncomputable def Itz (K:W.Frag) (a b:Addr):It:=
  ⟨fun i H=>∃ xs ys x y,SqL K H a xs∧SqL K H b ys∧xs[i]?=some x∧ys[i]?=some y,fun i H v H'=>∃ p x y,H p=none∧v=.ref p∧H'=upd H p (.tup [x,y])∧(∀ xs,SqL K H a xs→xs[i]?=some x)∧∀ ys,SqL K H b ys→ys[i]?=some y,fun i H=>∃ xs ys,SqL K H a xs∧SqL K H b ys∧xs.length≤i⟩
noncomputable def qsN (K:W.Frag) (ta:TA):TI:=fun σ H R=>ta σ H fun vs H1=>∃ a b,vs=[.ref a,.ref b]∧(∃ xs,SqL K H1 a xs)∧(∃ ys,SqL K H1 b ys)∧R (Itz K a b) H1
noncomputable def qlD (wi:TI) (capt:List (Option Nat)) (g:TG) (tc:TT) (te:TE):TE:=fun σ H Q=>wi σ H fun J H1=>∃ (n:Nat) (W:Nat→List V→Hp→Prop),W 0 [] H1∧∀ i ys H,W i ys H→i≤n∧ys.length≤sizeLine∧
  ((J.stop i H∧∀ p,H p=none→Q (.ref p) (upd H p (.lst ys)))∨(i<n∧J.go i H∧∀ x H',J.yld i H x H'→g x (qc7 capt σ) H' fun σ2 H2=>tc σ2 H2 fun b H3=>if b=true then te σ2 H3 fun y H4=>W (i+1) (ys++[y]) H4 else W (i+1) ys H3))
noncomputable def CompF (J:It) (capt:List (Option Nat)) (g:TG) (tc:TT) (te:TE) (σ:L2.St) (Q:VK) (H1:Hp):Prop:=∃ (n:Nat) (W:Nat→List V→Hp→Prop),W 0 [] H1∧∀ i ys H,W i ys H→i≤n∧ys.length≤sizeLine∧
  ((J.stop i H∧∀ p,H p=none→Q (.ref p) (upd H p (.lst ys)))∨(i<n∧J.go i H∧∀ x H',J.yld i H x H'→g x (qc7 capt σ) H' fun σ2 H2=>tc σ2 H2 fun b H3=>if b=true then te σ2 H3 fun y H4=>W (i+1) (ys++[y]) H4 else W (i+1) ys H3))
section
variable {K:W.Frag} {ta:TA} {tl:TE} {capt:List (Option Nat)} {g:TG} {tc:TT} {te:TE} {tb:TS} {D:Ends} {σ:L2.St} {H:Hp} {Q:VK} {a b:Addr} {xs ys:List V}
theorem qlE:qlD (qfl K tl) capt g tc te σ H Q=tl σ H (fun x H1=>∃ a,x=.ref a∧(∃ xs,SqL K H1 a xs)∧CompF (Itl K a) capt g tc te σ Q H1):=rfl
theorem qnC:qcG (qsN K ta) capt g te σ H Q=ta σ H (fun vs H1=>∃ a b,vs=[.ref a,.ref b]∧(∃ xs,SqL K H1 a xs)∧(∃ ys,SqL K H1 b ys)∧CompJ (Itz K a b) capt g te σ Q H1):=rfl
theorem CompF.lst (W:Nat→List V→Hp→Prop) (h0:W 0 [] H) (hb:∀ i ys H,W i ys H→i≤xs.length∧ys.length≤sizeLine∧SqL K H a xs)
    (hs:∀ i x ys H,xs[i]?=some x→W i ys H→g x (qc7 capt σ) H fun σ2 H2=>tc σ2 H2 fun b H3=>if b=true then te σ2 H3 fun y H4=>W (i+1) (ys++[y]) H4 else W (i+1) ys H3) (hd:∀ ys H,W xs.length ys H→∀ p,H p=none→Q (.ref p) (upd H p (.lst ys))):CompF (Itl K a) capt g tc te σ Q H:=by
  refine ⟨xs.length,W,h0,fun i ys H w=>⟨(hb i ys H w).1,(hb i ys H w).2.1,?_⟩⟩
  have q:SqL K H a xs:=(hb i ys H w).2.2
  by_cases h:i<xs.length
  · refine .inr ⟨h,⟨xs,xs[i],q,by simp [h]⟩,fun x H' y=>?_⟩
    obtain ⟨e,y⟩:=y
    subst e
    exact hs i x ys _ (y xs q) w
  · have e:i=xs.length:=Nat.le_antisymm (hb i ys H w).1 (Nat.not_lt.mp h)
    subst e
    exact .inl ⟨⟨xs,q,Nat.le_refl _⟩,hd ys H w⟩
theorem CompJ.zip (hl:xs.length=ys.length) (W:Nat→List V→Hp→Prop) (h0:W 0 [] H) (hb:∀ i zs H,W i zs H→i≤xs.length∧zs.length≤sizeLine∧SqL K H a xs∧SqL K H b ys)
    (hs:∀ i x y zs H p,xs[i]?=some x→ys[i]?=some y→W i zs H→H p=none→g (.ref p) (qc7 capt σ) (upd H p (.tup [x,y])) fun σ2 H2=>te σ2 H2 fun z H3=>W (i+1) (zs++[z]) H3) (hd:∀ zs H,W xs.length zs H→∀ p,H p=none→Q (.ref p) (upd H p (.lst zs))):CompJ (Itz K a b) capt g te σ Q H:=by
  refine ⟨xs.length,W,h0,fun i zs H w=>⟨(hb i zs H w).1,(hb i zs H w).2.1,?_⟩⟩
  obtain ⟨_,_,q,q2⟩:=hb i zs H w
  by_cases h:i<xs.length
  · refine .inr ⟨h,⟨xs,ys,xs[i],ys[i],q,q2,by simp [h],by simp [hl ▸ h]⟩,fun v H' y=>?_⟩
    obtain ⟨p,x,y,hp,e1,e2,h1,h2⟩:=y
    subst e1 e2
    exact hs i x y zs _ p (h1 xs q) (h2 ys q2) w hp
  · have e:i=xs.length:=Nat.le_antisymm (hb i zs H w).1 (Nat.not_lt.mp h)
    subst e
    exact .inl ⟨⟨xs,ys,q,q2,Nat.le_refl _⟩,hd zs H w⟩
end
noncomputable def qqF:V→Hp→VK→Prop:=fun x H Q=>∃ (p:Addr) (ns:List Int),x=.ref p∧H p=some (.lst (ns.map V.int))∧∀ m:Int,(ns=[]∧m=0∨m∈ns)→Q (.int m) H
noncomputable def qo8 (te:TE):TE:=fun σ H Q=>te σ H fun x H1=>qqF x H1 Q
noncomputable def qo9:List V→Hp→VK→Prop:=fun xs H Q=>∃ (p:Addr) (ns:List Int),xs=[.ref p]∧H p=some (.lst (ns.map V.int))∧Q (.bl (ns.any fun z=>!decide (z=0))) H
end Bs
namespace Bs
open PySem PySem.Spec PyProof.Rows L2
section
variable {X:Cx} {pins:List (Addr×Obj)} {σ:L2.St} {H:Hp} {s:Shared}
theorem qcH:OpR X (binaryOp .FloorDiv) qgj:=by
  intro pins s σ H x y v u Q I rx ry ⟨i,j,ex,ey,hc,q⟩
  subst ex ey
  obtain ⟨t,rfl⟩:=rx
  obtain ⟨t2,rfl⟩:=ry
  exact floordiv_int hc ⟨.int (i.fdiv j),H,I.tok _,⟨_,rfl⟩,q⟩ (Or.inr (I.ok.plr s I.bk))
theorem qfn:OpR X (binaryOp .FloorDiv) qh0:=by
  intro pins s σ H x y v u Q I rx ry ⟨i,j,ex,ey,hc,q⟩
  have hc':0<j:=hc
  replace q:Q (.int (i / j)) H:=q
  rw [← Int.fdiv_eq_ediv_of_nonneg i (Int.le_of_lt hc')] at q
  exact qcH pins s σ H x y v u Q I rx ry ⟨i,j,ex,ey,Int.ne_of_gt hc',q⟩
theorem qnD {fp:List Addr} {g:Heap} {tk:Nat} (I:Inv X pins σ H s) (ff:∀ b∈fp,qky X pins H b) (k:∀ b o,b∉fp→s.heap.get? b=some o→g.get? b=some o):Inv X pins σ H { s with heap:=g,toks:=tk }:=by
  have tr:∀ b u,H b=some u→b∉fp:=fun b u q hb=>by rw [(ff b hb).1] at q;cases q
  refine I.step (g':=s.gens) (d':=s.drawn) (ch:=fp) (fun b hb=>⟨(ff b hb).2.2.2.1,(ff b hb).2.1,(ff b hb).2.2.2.2.1,(ff b hb).2.2.2.2.2⟩) (fun b o _ _ hc q _=>k b o hc q) (fun b o _ _ hc q _=>⟨o.slots,k b o hc q⟩) (fun _ _ _ _ n=>n)
    (fun b o hc q=>⟨o,k b o hc q⟩) (fun _ _ q=>q) (fun _ _ _ q=>q) (fun b ps q=>⟨#[],by rw [q];simp⟩) (fun m hm=>?_) (fun b u q=>?_) I.bare
  · obtain ⟨o,es,ep,ho,hr⟩:=hm
    exact ⟨o,es,ep,k _ o (fun hb=>(ff _ hb).2.1 rfl) ho,hr⟩
  · refine (I.hok b u q).stay (fun c v hc z=>?_) (fun _ z=>z) fun _ _ z=>z
    rcases hc with y | y
    · subst y;exact k _ v (tr _ u q) z
    · exact k c v (tr c _ y) z
theorem qnE {fp:List Addr} {g:Heap} {tk:Nat} {xs:List V} {its:List Value} (I:Inv X pins σ H s) (ff:∀ b∈fp,qky X pins H b) (k:∀ b o,b∉fp→s.heap.get? b=some o→g.get? b=some o)
    (hz:xs.length≤sizeLine) (rv:Vals xs its) (ht:g.get? s.heap.objs.size=some { cls:=.type "tuple", data:=.seq its.toArray }):Inv X pins σ (upd H s.heap.objs.size (.tup xs)) { s with heap:=g,toks:=tk }:=by
  have nT:H s.heap.objs.size=none:=I.hok.fresh (Nat.le_refl _)
  have tn:∀ b u,H b=some u→b≠s.heap.objs.size:=fun b u q=>qaH q nT
  have tr:∀ b u,H b=some u→b∉fp:=fun b u q hb=>by rw [(ff b hb).1] at q;cases q
  refine I.step (g':=s.gens) (d':=s.drawn) (ch:=fp) (fun b hb=>⟨(ff b hb).2.2.2.1,(ff b hb).2.1,(ff b hb).2.2.2.2.1,(ff b hb).2.2.2.2.2⟩) (fun b o _ _ hc q _=>k b o hc q) (fun b o _ _ hc q _=>⟨o.slots,k b o hc q⟩) (fun b o _ q n=>?_)
    (fun b o hc q=>⟨o,k b o hc q⟩) (fun b ys q=>?_) (fun b o u q=>?_) (fun b ps q=>⟨#[],?_⟩) (fun m hm=>?_) (fun b u q=>?_) I.bare
  · rw [qaJ (Nat.ne_of_lt (Heap.lt_size q))];exact n
  · rw [qaJ (tn b _ q)];exact q
  · rw [qaJ (tn b _ q)];exact q
  · rw [qaJ (tn b _ q),q];simp
  · obtain ⟨o,es,ep,ho,hr⟩:=hm
    exact ⟨o,es,ep,k _ o (fun hb=>(ff _ hb).2.1 rfl) ho,hr⟩
  · by_cases hb:b=s.heap.objs.size
    · subst hb
      rw [qai] at q
      cases q
      exact ⟨hz,its,rv,⟨_,ht,rfl,_,rfl⟩⟩
    · rw [qaJ hb] at q
      refine (I.hok b u q).stay (fun c v hc z=>?_) (fun c z=>by rw [qaJ (tn c _ z)];exact z) fun c ys z=>by rw [qaJ (tn c _ z)];exact z
      rcases hc with y | y
      · subst y;exact k _ v (tr _ u q) z
      · exact k c v (tr c _ y) z
end
noncomputable def qsO (a b z ti to i1 i2:Addr) (i:Nat) (h:Heap):Prop:=IsZip h z ti to .none∧IsPair h ti (.ref i1) (.ref i2)∧(∃ u v,IsPair h to u v)∧h.IsListIter i1 a i∧h.IsListIter i2 b i
theorem qpa {P:Program} {w:World} {K:W.Frag} {elts:List Expr} {k:Nat} {pos:Pos} {a b z ti to i1 i2:Addr} (D:ZipApart z ti to i1 i2 a b):Turn P w K (.Tuple elts k pos) (Itz K a b) [z,ti,to,i1,i2] z (qsO a b z ti to i1 i2) where
  mem:=by simp
  obj:=fun i h st c hc=>by
    obtain ⟨s1,s2,⟨u,v,s3⟩,⟨o4,s4,_,d4⟩,⟨o5,s5,_,d5⟩⟩:=st
    have hc':c=z∨c=ti∨c=to∨c=i1∨c=i2:=by simpa using hc
    rcases hc' with rfl | rfl | rfl | rfl | rfl
    · exact ⟨_,s1,fun v q=>nomatch q⟩
    · exact ⟨_,s2,fun v q=>nomatch q⟩
    · exact ⟨_,s3,fun v q=>nomatch q⟩
    · exact ⟨_,s4,fun v q=>by rw [d4] at q;cases q⟩
    · exact ⟨_,s5,fun v q=>by rw [d5] at q;cases q⟩
  keep:=fun i h h' st kk=>⟨kk z (by simp) _ st.1,kk ti (by simp) _ st.2.1,let ⟨u,v,q⟩:=st.2.2.1;⟨u,v,kk to (by simp) _ q⟩,st.2.2.2.1.at fun o q=>kk i1 (by simp) o q,st.2.2.2.2.at fun o q=>kk i2 (by simp) o q⟩
  item:=by
    intro X hP hw hK hc i pins s σ H E I hf st hg
    subst hP hw hK
    obtain ⟨xs,ys,x,y,hq,hq2,hx,hy⟩:=hg
    obtain ⟨s1,s2,⟨u0,v0,s3⟩,s4,s5⟩:=st
    obtain ⟨its,rv,p1,_⟩:=I.list hq
    obtain ⟨jts,rw',p2,_⟩:=I.list hq2
    obtain ⟨u,hu,ru⟩:=rv.get hx
    obtain ⟨v,hv,rw2⟩:=rw'.get hy
    refine wpAny_pyNext_zip_item D s1 s2 s3 s4 s5 p1.isList p2.isList (x:=u) (y:=v) (by simpa using hu) (by simpa using hv) fun g g1 g2 g3 g4 g5 _ gk=>?_
    refine ⟨_,rfl,wpAny_letOwnedTupleGo_zip g1 fun g' z1 sb=>?_⟩
    have lz:z<s.heap.objs.size:=Heap.lt_size s1
    have kept:∀ c o,c∉[z,ti,to,i1,i2]→s.heap.get? c=some o→g'.get? c=some o:=fun c o hc q=>by
      have hc':¬ (c=z∨c=ti∨c=to∨c=i1∨c=i2):=by simpa using hc
      exact sb.extBut c o (fun e=>hc' (.inl e)) (gk c o (fun e=>hc' (.inl e)) (fun e=>hc' (.inr (.inr (.inl e)))) (fun e=>hc' (.inr (.inr (.inr (.inl e))))) (fun e=>hc' (.inr (.inr (.inr (.inr e))))) q)
    have I1:=qnE (g:=g') (tk:=s.toks) (xs:=[x,y]) (its:=[u,v]) I hf kept (sz (by simp)) (.cons ru (.cons rw2 .nil)) (sb.extBut _ _ (Nat.ne_of_gt lz) g5)
    refine ⟨.ref s.heap.objs.size,_,I1,rfl,⟨_,x,y,I.hok.fresh (Nat.le_refl _),rfl,rfl,fun zs hz=>by rw [I.list_inj hz hq];exact hx,fun zs hz=>by rw [I.list_inj hz hq2];exact hy⟩,⟨z1,?_,⟨u,v,sb.extBut _ _ D.TOz g2⟩,g3.at fun o q=>sb.extBut i1 o D.i1z q,g4.at fun o q=>sb.extBut i2 o D.i2z q⟩,fun c hc=>?_⟩
    · exact sb.extBut _ _ D.TIz (gk _ _ D.TIz D.TITO D.TIi1 D.TIi2 s2)
    · rw [qaJ]
      · exact (hf c hc).1
      · have hc':c=z∨c=ti∨c=to∨c=i1∨c=i2:=by simpa using hc
        obtain ⟨o4,s4,_⟩:=s4
        obtain ⟨o5,s5,_⟩:=s5
        rcases hc' with rfl | rfl | rfl | rfl | rfl
        · exact Nat.ne_of_lt lz
        · exact Nat.ne_of_lt (Heap.lt_size s2)
        · exact Nat.ne_of_lt (Heap.lt_size s3)
        · exact Nat.ne_of_lt (Heap.lt_size s4)
        · exact Nat.ne_of_lt (Heap.lt_size s5)
  done:=by
    intro X hP hw hK hc i pins s σ H E I hf st hg
    subst hP hw hK
    obtain ⟨xs,ys,hq,hq2,hx⟩:=hg
    obtain ⟨s1,s2,⟨u0,v0,s3⟩,s4,s5⟩:=st
    obtain ⟨its,rv,p1,_⟩:=I.list hq
    obtain ⟨jts,_,p2,_⟩:=I.list hq2
    have hl:=rv.length
    refine wpAny_pyNext_zip_end (I.ok.hd hc) D s1 s2 s3 s4 s5 p1.isList p2.isList (.inl (by simp;omega)) fun g gk=>⟨rfl,qnD (tk:=s.toks) I hf fun c o hc q=>?_⟩
    have hc':¬ (c=z∨c=ti∨c=to∨c=i1∨c=i2):=by simpa using hc
    exact gk c o (fun e=>hc' (.inl e)) (fun e=>hc' (.inr (.inr (.inl e)))) (fun e=>hc' (.inr (.inr (.inr (.inl e))))) (fun e=>hc' (.inr (.inr (.inr (.inr e))))) q
  self:=fun _ _ _ _ _ st h=>wpAny_pyIter_zip st.1 h
section
variable {X:Cx} {elts:List Expr} {k:Nat} {tpos:Pos} {a b:Expr} {ta:TA} {p pos:Pos}
theorem vals2 {x y:V} {us:List Value} (r:Vals [x,y] us):∃ u v,us=[u,v]∧RelV x u∧RelV y v:=r.two
theorem qrS (hg:Gl X "zip") (hm:X.mg "zip" = none) (ha:PA X [a,b] ta) (hs:starEach [a,b] X.env=(false,eval a X.env)::starEach [b] X.env:=by rfl) (hpl:(backTo pos (starEach [b] X.env)).any (·.1)=false:=by rfl):PI X (.Tuple elts k tpos) (.Call (.Name "zip" p) [a,b] [] pos) (qsN X.K ta):=by
  intro pins s σ H R I h
  refine Call_ (qf8 I hg hm qrO (PyProof.Rows.callWith_type1 (thn (ha pos pins s σ H _ I h) fun us s1 ⟨vs,H1,I1,r1,q1⟩=>?_) hs hpl))
  obtain ⟨l1,l2,rfl,⟨xs,hq⟩,⟨ys,hq2⟩,q⟩:=q1
  obtain ⟨u,v,rfl,ru,rv⟩:=vals2 r1
  cases ru
  cases rv
  obtain ⟨its,_,p1,_⟩:=I1.list hq
  obtain ⟨jts,_,p2,_⟩:=I1.list hq2
  refine call_zip_2 p1.isList p2.isList fun g z1 z2 z3 z4 z5 _ gk=>?_
  have I2:Inv X pins σ H1 { s1 with heap:=g }:=I1.kept (t':=s1.toks) gk
  have n1:@LT.lt Nat _ l1 s1.heap.objs.size:=p1.lt
  have n2:@LT.lt Nat _ l2 s1.heap.objs.size:=p2.lt
  have D:ZipApart (s1.heap.objs.size+4) (s1.heap.objs.size+2) (s1.heap.objs.size+3) s1.heap.objs.size (s1.heap.objs.size+1) l1 l2:=by
    constructor <;> (show (_:Nat)≠_;omega)
  refine wpAny_pyIter_zip z1 ⟨_,[s1.heap.objs.size+4,s1.heap.objs.size+2,s1.heap.objs.size+3,s1.heap.objs.size,s1.heap.objs.size+1],_,_,H1,rfl,I2,qpa D,⟨z1,z2,⟨_,_,z3⟩,z4,z5⟩,fun c hc=>?_,q⟩
  have hc':s1.heap.objs.size≤c:=by
    have z:c=s1.heap.objs.size+4∨c=s1.heap.objs.size+2∨c=s1.heap.objs.size+3∨c=s1.heap.objs.size∨c=s1.heap.objs.size+1:=by simpa using hc
    rcases z with z | z | z | z | z <;> rw [z] <;> first | exact Nat.le_add_right _ _ | exact Nat.le_refl _
  exact I1.fpOk hc' (I1.hok.fresh hc')
end
theorem qrT:bootBuiltins "any" = some (.builtin "any"):=by decide +kernel
theorem qgB:∀ {ns:List Int} {us:List Value} {i:Nat} {u:Value},Vals (ns.map V.int) us→us[i]?=some u→∃ n t,ns[i]?=some n∧u=Value.int n t
  | [],_,_,_,.nil,e=>by simp at e
  | n::ns,_,0,_,.cons r _,e=>by
    simp at e;subst e
    obtain ⟨t,rfl⟩:=r
    exact ⟨n,t,rfl,rfl⟩
  | _::ns,_,i+1,u,.cons _ r,e=>by
    obtain ⟨n,t,h1,h2⟩:=qgB (i:=i) (u:=u) r (by simpa using e)
    exact ⟨n,t,by simpa using h1,h2⟩
section
variable {X:Cx}
theorem qnF (hc:X.calm=true):qd7 X (.builtin "any") qo9:=fun pins s σ H xs us Q I r ⟨p,ns,e,hp,q⟩=>by
  subst e
  obtain ⟨u,rfl,ru⟩:=qiJ r
  cases ru
  obtain ⟨its,rv,pl,hz⟩:=I.list (SqL.of hp)
  have hl:ns.length=its.length:=by have:=rv.length;simpa using this
  refine call_any_walk (wpAny_pyIter_list pl.isList ⟨s.heap.objs.size,[s.heap.objs.size,p],[s.heap.objs.size],its.toArray.size,_,_,fun i=>!decide (ns.getD i 0=0),rfl,Walks.list (A:=X.A.in1) (show X.A.in1.handled=none from I.ok.hd hc) s.heap.objs.size p (Nat.ne_of_lt pl.lt) _,⟨⟨_,Heap.get?_push_size _ rfl,rfl,rfl⟩,pl.isList.push _⟩,?_,fun g tk gk=>?_⟩)
  · intro i v s' Q' E' hP hQ
    obtain ⟨n,t,h1,rfl⟩:=qgB rv (show its[i]?=some v by simpa using hP)
    have e:ns.getD i 0=n:=by rw [List.getD_eq_getElem?_getD,h1];rfl
    replace hQ:Q' (!decide (ns.getD i 0=0)) s':=hQ
    rw [e] at hQ
    refine PySem.P.truthy_int ?_
    have e2:(n != 0)=!decide (n=0):=by rw [Bool.eq_iff_iff];simp
    rw [e2]
    exact hQ
  · have kk:∀ b o,s.heap.get? b=some o→g.get? b=some o:=fun b o e=>gk b o (fun z=>absurd (Heap.lt_size e) (by rw [List.mem_singleton.mp z];exact Nat.lt_irrefl _)) (Heap.get?_push_of_some _ e)
    refine ⟨_,H,I.kept kk,?_,q⟩
    show Value.bool _=Value.bool _
    congr 1
    rw [Bool.eq_iff_iff]
    simp only [List.any_eq_true,List.mem_range,List.size_toArray]
    constructor
    · rintro ⟨i,hi,h⟩
      have hi2:i<ns.length:=by omega
      rw [List.getD_eq_getElem?_getD,List.getElem?_eq_getElem hi2] at h
      exact ⟨ns[i],List.getElem_mem hi2,h⟩
    · rintro ⟨x,hx,h⟩
      obtain ⟨i,hi,rfl⟩:=List.getElem_of_mem hx
      refine ⟨i,by omega,?_⟩
      rw [List.getD_eq_getElem?_getD,List.getElem?_eq_getElem hi]
      exact h
end
section
variable {prog:Program} {w:World} {A:Around} {R:Result→Shared→Prop} {I:Addr} {fp wr:List Addr} {n:Nat} {P:Nat→Value→Prop} {St:Nat→Heap→Prop} {d:Value}
theorem qg3 (W:Walks prog w A.in1 I fp wr n P St) (bt:Nat→Nat→Bool) (hcmp:CmpOf prog w A.in1 .Lt P bt) (S:Addr) (hSf:S∉fp):∀ (k j q:Nat) (s:Shared) (vb:Value) (c:Nat),n - j=k→j≤n→St j s.heap→q<n→P q vb→
    s.heap.get? S=some { cls:=.type "list", dict:=none,data:=.seq #[vb,vb] c,slots:=#[] }→
    (∀ q v h' tk,q<n→P q v→(∀ b o,b∉wr→b≠S→s.heap.get? b=some o→h'.get? b=some o)→R (.ok (.ret v)) { s with heap:=h',toks:=tk })→
    codeAny (model prog w) A (.builtin "min.loop" ⟨[.ref I,.none,.ref S],[("default", d)]⟩) R s
  | 0,j,q,s,vb,c,hk,hj,hst,hq,hPb,hS,hR=>by
    have jn:j=n:=by omega
    refine codeAny_builtin F.entry_min_loop ?_
    rw [Around.under_plainId F.plain_min_loop _]
    refine wpAny_bind (m:=seqItems? (.ref S)) (wpAny_seqItems hS rfl ?_)
    refine wpAny_bind (m:=tryCatch (pyNext (.ref I)) _) (wpAny_tryCatch (W.done s _ _ (jn ▸ hst) fun h' tk kp=>?_))
    have hS2:=kp S _ (fun z=>hSf (W.sub _ z)) hS
    refine wpAny_bind (m:=updateSeq S (fun _=>#[])) (wpAny_updateSeq hS2 rfl (wpAny_bind (wpAny_letGo (wpAny_pure ?_))))
    exact hR q vb _ tk hq hPb fun b o h1 h2 e=>(Heap.get?_update_other _ _ h2.symm).trans (kp b o h1 e)
  | k+1,j,q,s,vb,c,hk,hj,hst,hq,hPb,hS,hR=>by
    have jn:j<n:=by omega
    refine codeAny_builtin F.entry_min_loop ?_
    rw [Around.under_plainId F.plain_min_loop _]
    refine wpAny_bind (m:=seqItems? (.ref S)) (wpAny_seqItems hS rfl ?_)
    refine wpAny_bind (m:=tryCatch (pyNext (.ref I)) _) (wpAny_tryCatch (W.item j s _ _ jn hst fun v h' tk hP hst' kp=>?_))
    have hS2:=kp S _ (fun z=>hSf (W.sub _ z)) hS
    refine wpAny_bind (m:=tryCatch (holding [v,v] (richCompare .Lt v vb >>= _)) _) (wpAny_tryCatch (wpAny_holding (wpAny_bind (hcmp j q v vb _ _ _ hP hPb ?_))))
    refine wpAny_bind (wpAny_holding (wpAny_truthy_bool (wpAny_bind (wpAny_letGo (wpAny_pure ?_)))))
    have nm:(toString "min" ++ toString ".loop" : String) = "min.loop" := by decide
    cases bt j q with
    | true=>
      simp only [if_true]
      refine wpAny_bind (wpAny_updateSeq hS2 rfl (wpAny_bind (wpAny_letGo ?_)))
      rw [nm]
      refine wpAny_pure ⟨plainId_quiet F.plain_min_loop _,qg3 W bt hcmp S hSf k (j+1) j _ v _ (by omega) (by omega) (W.frame _ _ _ hst' fun b hb o e=>(Heap.get?_update_other _ _ (fun z:S=b=>hSf (by rw [z];exact hb))).trans e) jn hP (Heap.get?_update_self _ hS2 rfl) fun q' v' h2 tk2 hq' hP' kp2=>?_⟩
      exact hR q' v' h2 tk2 hq' hP' fun b o h1 h3 e=>kp2 b o h1 h3 ((Heap.get?_update_other _ _ h3.symm).trans (kp b o h1 e))
    | false=>
      simp only [Bool.false_eq_true,if_false]
      refine wpAny_bind (wpAny_letGo ?_)
      rw [nm]
      exact wpAny_pure ⟨plainId_quiet F.plain_min_loop _,qg3 W bt hcmp S hSf k (j+1) q _ vb c (by omega) (by omega) hst' hq hPb hS2 fun q' v' h2 tk2 hq' hP' kp2=>hR q' v' h2 tk2 hq' hP' fun b o h1 h3 e=>kp2 b o h1 h3 (kp b o h1 e)⟩
theorem qmj (W:Walks prog w A.in1 I fp wr n P St) (bt:Nat→Nat→Bool) (hcmp:CmpOf prog w A.in1 .Lt P bt) (S:Addr) (hSf:S∉fp) {s:Shared} {c:Nat} (hst:St 0 s.heap)
    (hS:s.heap.get? S=some { cls:=.type "list", dict:=none,data:=.seq #[] c,slots:=#[] })
    (hR:∀ v h' tk,(n=0∧v=d∨∃ q,q<n∧P q v)→(∀ b o,b∉wr→b≠S→s.heap.get? b=some o→h'.get? b=some o)→R (.ok (.ret v)) { s with heap:=h',toks:=tk }) :
    codeAny (model prog w) A (.builtin "min.loop" ⟨[.ref I,.none,.ref S],[("default", d)]⟩) R s:=by
  refine codeAny_builtin F.entry_min_loop ?_
  rw [Around.under_plainId F.plain_min_loop _]
  refine wpAny_bind (m:=seqItems? (.ref S)) (wpAny_seqItems hS rfl ?_)
  rcases Nat.eq_zero_or_pos n with z | z
  · refine wpAny_bind (m:=tryCatch (pyNext (.ref I)) _) (wpAny_tryCatch (W.done s _ _ (z ▸ hst) fun h' tk kp=>?_))
    refine wpAny_bind (wpAny_rule (wpAny_pure ?_))
    exact hR d h' tk (.inl ⟨z,rfl⟩) fun b o h1 _ e=>kp b o h1 e
  · refine wpAny_bind (m:=tryCatch (pyNext (.ref I)) _) (wpAny_tryCatch (W.item 0 s _ _ z hst fun v h' tk hP hst' kp=>?_))
    have hS2:=kp S _ (fun z=>hSf (W.sub _ z)) hS
    have nm:(toString "min" ++ toString ".loop" : String) = "min.loop" := by decide
    refine wpAny_bind (m:=updateSeq S (fun _=>#[v,v])) (wpAny_updateSeq hS2 rfl ?_)
    rw [nm]
    refine wpAny_pure ⟨plainId_quiet F.plain_min_loop _,qg3 W bt hcmp S hSf _ 1 0 _ v _ rfl z (W.frame _ _ _ hst' fun b hb o e=>(Heap.get?_update_other _ _ (fun z:S=b=>hSf (by rw [z];exact hb))).trans e) z hP (Heap.get?_update_self _ hS2 rfl) fun q' v' h2 tk2 hq' hP' kp2=>?_⟩
    exact hR v' h2 tk2 (.inr ⟨q',hq',hP'⟩) fun b o h1 h3 e=>kp2 b o h1 h3 ((Heap.get?_update_other _ _ h3.symm).trans (kp b o h1 e))
end
theorem qnG (a v:Value):argsOk "min" ⟨[a],[("default", v)]⟩:=by unfold argsOk;kernel_rfl
section
variable {X:Cx} {e:Expr} {te:TE} {p pos kp1 kp2:Pos} {kk:Nat}
theorem qqG (hc:X.calm=true) (hm:X.mg "min" = none) (hv:bootBuiltins "min" = some (.builtin "min")) (ha:PE X e te) (hg:Gl X "min" := by rfl)
    (hs:starEach [e] X.env=(false,eval e X.env)::starEach [] X.env:=by rfl) (hb:backTo pos (starEach [e] X.env)=(false,eval e X.env)::backTo pos (starEach [] X.env):=by rfl):PE X (.Call (.Name "min" p) [e] [⟨some "default", .Constant (.int 0) kk kp1,kp2⟩] pos) (qo8 te):=by
  intro pins s σ H Q I h
  refine wpAny_Call_Name_kw (qf8 I hg hm hv ?_ (by decide) (by decide))
  refine PyProof.Rows.callWith_kw ?_ hb (by rw [hb];rfl)
  rw [hb]
  refine Calls.spliced_cons (thn (ha pins s σ H _ I h) fun u s1 ⟨x,H1,I1,r1,q1⟩=>Calls.spliced_nil ?_)
  have kw:PK X [⟨some "default", .Constant (.int 0) kk kp1,kp2⟩] (qab (tC (.int 0)) qam):=qqx qad qrF
  refine thn (kw pos pins s1 σ H1 (fun vs H2=>vs=[.int 0]∧H2=H1) I1 ⟨rfl,rfl⟩) fun ws s2 ⟨zs,H2,I2,rz,ez,eh⟩=>?_
  subst ez eh
  obtain ⟨z,rfl,t,rfl⟩:=qiJ rz
  obtain ⟨l,ns,rfl,hl,q⟩:=q1
  cases r1
  obtain ⟨its,rv,pl,hz⟩:=I2.list (SqL.of hl)
  have hle:ns.length=its.length:=by have:=rv.length;simpa using this
  have nm:(toString "min" ++ toString ".loop" : String) = "min.loop" := by decide
  refine kmb_tree F.kind_min F.plain_min F.entry_min (qnG _ _) ?_
  refine wpAny_bind (m:=Builtin.Builtins.bindParams "min" ["key", "default"] 0 ⟨[],[("default", Value.int 0 t)]⟩) (wpAny_of_eq (a:=[none,some (Value.int 0 t)]) rfl ?_)
  refine wpAny_bind (wpAny_pure (wpAny_bind (wpAny_pyIter_list pl.isList ?_)))
  refine wpAny_bind (wpAny_newObj_type ?_)
  rw [nm]
  have lp:l<s2.heap.objs.size:=pl.lt
  have nS:(s2.heap.push { cls:=.type "list_iterator", data:=.fields #[.ref l,.int 0 0] }).objs.size=s2.heap.objs.size+1:=Heap.size_push ..
  have W:=Walks.list (prog:=X.prog) (w:=X.w) (A:=X.A.in1) (show X.A.in1.handled=none from I2.ok.hd hc) s2.heap.objs.size l (Nat.ne_of_lt lp) its.toArray
  refine wpAny_pure ⟨plainId_quiet F.plain_min_loop _,qmj W _ (CmpOf.ints_lt (fun i=>ns.getD i 0) fun i v hP=>?_) _ ?_ ⟨⟨_,Heap.get?_push_of_some _ (Heap.get?_push_size _ rfl),rfl,rfl⟩,(pl.isList.push _).push _⟩ (Heap.get?_push_size _ rfl) fun v g tk hv2 gk=>?_⟩
  · obtain ⟨n,t2,h1,rfl⟩:=qgB rv (show its[i]?=some v by simpa using hP)
    exact ⟨t2,by rw [List.getD_eq_getElem?_getD,h1];rfl⟩
  · rw [nS]
    have:¬ (s2.heap.objs.size+1=s2.heap.objs.size∨s2.heap.objs.size+1=l):=fun z=>by
      rcases z with z | z
      · exact absurd z (Nat.succ_ne_self _)
      · rw [← z] at lp;exact absurd lp (Nat.not_lt.mpr (Nat.le_succ _))
    simpa using this
  · have kk2:∀ b o,s2.heap.get? b=some o→g.get? b=some o:=fun b o e=>by
      have lb:b<s2.heap.objs.size:=Heap.lt_size e
      refine gk b o (fun z=>?_) (fun z=>?_) (Heap.get?_push_of_some _ (Heap.get?_push_of_some _ e))
      · rw [List.mem_singleton.mp z] at lb;exact absurd lb (Nat.lt_irrefl _)
      · rw [z,nS] at lb;exact absurd lb (Nat.not_lt.mpr (Nat.le_succ _))
    have I3:=I2.kept (t':=tk) kk2
    rcases hv2 with ⟨z,rfl⟩ | ⟨i,hi,hP⟩
    · exact ⟨.int 0,_,I3,⟨t,rfl⟩,q 0 (.inl ⟨List.length_eq_zero_iff.mp (by rw [List.size_toArray] at z;omega),rfl⟩)⟩
    · obtain ⟨n,t2,h1,rfl⟩:=qgB rv (show its[i]?=some v by simpa using hP)
      exact ⟨.int n,_,I3,⟨t2,rfl⟩,q n (.inr (List.mem_of_getElem? h1))⟩
end
end Bs
namespace Bs
open PySem PySem.Spec PyProof.Rows L2
section
variable {X:Cx} {pins:List (Addr×Obj)} {σ:L2.St} {H:Hp} {s:Shared} {N:List Str} {capt:List (Option Nat)} {scope:Scope} {cl:List (Str×Addr)} {C:Addr} {fp:List Addr}
theorem qjX {prog:Program} {w:World} {A:Around} {R:Result→Shared→Prop} {s:Shared} {elt target iter c:Expr} {scope:Scope} {pos:Pos} {it acc:Value} {env:Env} (I:Nat→Shared→Prop)
    (turn:∀ n s,I n s→wpAny (model prog w) A (pyNext it) (fun r s₁=>match r with
      | none=>R (.ok .next) s₁
      | some v=>wpAny (model prog w) A (letOwnedTupleGo target it v) (fun _ s₂=>wpAny (model prog w) A (assign target env v) (fun _ s₃=>wpAny (model prog w) A (isTrue c env (eval c env)) (fun okb s₆=>if okb=true then wpAny (model prog w) A (eval elt env) (fun x s₄=>
          wpAny (model prog w) A (call (.builtin "list.append") [acc,x]) (fun _ s₅=>∃ m,m<n∧I m s₅) (fun _ _=>False) s₄) (fun _ _=>False) s₆ else ∃ m,m<n∧I m s₆) (fun _ _=>False) s₃) (fun _ _=>False) s₂) (fun _ _=>False) s₁) (fun _ _=>False) s)
    (n:Nat) (h:I n s):codeAny (model prog w) A (.compLoop (.ListComp elt [⟨target,iter,[c],0⟩] scope pos) 0 it acc env) R s:=by
  refine codeAny_loop rfl I (fun n s hI=>?_) n h
  show wpAny _ A ((compTurn (.ListComp elt [⟨target,iter,[c],0⟩] scope pos) 0 it acc env).onRaise (fun x=>do noteFrame x env;theTreesLotGoes x)) _ _ s
  refine wpAny_noted ?_
  rw [compTurn_list]
  have no:∀ {E':Value→Shared→Prop} (e:Value) (s':Shared),(fun (_:Value) (_:Shared)=>False) e s'→E' e s':=fun _ _ f=>f.elim
  refine wpAny_bind (wpAny_standAt (wpAny_bind (wpAny_mono (turn n s hI) (fun r s₁ h₁=>?_) no)))
  cases r with
  | none=>exact wpAny_pure h₁
  | some v=>
    refine wpAny_bind (wpAny_mono h₁ (fun _ s₂ h₂=>?_) no)
    refine wpAny_bind (wpAny_mono h₂ (fun _ s₆ h₆=>wpAny_bind (wpAny_tests_one (wpAny_mono h₆ (fun okb s₃ h₃=>?_) no))) no)
    cases okb with
    | false=>exact wpAny_pure ⟨rfl,h₃⟩
    | true=>exact wpAny_bind (wpAny_bind (wpAny_mono h₃ (fun x s₄ h₄=>wpAny_bind (wpAny_mono h₄ (fun _ s₅ h₅=>wpAny_pure (wpAny_pure ⟨rfl,h₅⟩)) no)) no))
theorem qmk {elt iter tg c:Expr} {tc:TT} {pos:Pos} {wi:TI} {g:TG} {te:TE} {pins:List (Addr×Obj)} {s:Shared} {σ:L2.St} {H:Hp} {Q:VK} (RR:Value→Addr→Result→Shared→Prop) (hc:X.calm=true) (B:BlkOk X N capt scope cl) (hi:PI X tg iter wi)
    (hg:∀ C s H fp,PG (blk X N scope cl C s H fp) tg g) (ht:∀ C s H fp,PT (blk X N scope cl C s H fp) c tc) (he:∀ C s H fp,PE (blk X N scope cl C s H fp) elt te) (I:Inv X pins σ H s) (h:qlD wi capt g tc te σ H Q)
    (fin:∀ (D C:Addr) (s4:Shared) (Hq:Hp) (m:Str→Option Value),Inv X pins σ Hq s4→Q (.ref D) Hq→s4.heap.Ns C m→Hq C=none→C≠X.env.locals→X.s₀.heap.objs.size≤C→(∀ x c,X.env.cells.lookup x=some c→c≠C)→(∀ p∈X.pn++pins,p.1≠C)→RR (.ref D) C (.ok .next) s4) :
    wpAny (model X.prog X.w) X.A (eval iter X.env) (fun x s₁=>wpAny (model X.prog X.w) X.A (pyIter x) (fun it s₂=>wpAny (model X.prog X.w) X.A (newList []) (fun acc s₃=>
      wpAny (model X.prog X.w) X.A (newFunctionEnv scope X.env.globals cl [] X.env.qual none .none (some X.env)) (fun cenv s₄=>
        codeAny (model X.prog X.w) X.A (.compStart (.ListComp elt [⟨tg,iter,[c],0⟩] scope pos) 0 it acc { cenv with scope:=relabel scope X.env }) (RR acc cenv.locals) s₄) X.xe s₃) X.xe s₂) X.xe s₁) X.xe s:=by
  refine thn (hi pins s σ H _ I h) fun v s1 h1=>thn h1 fun itv s2 h2=>?_
  obtain ⟨it,fp,tn,J,H2,e,I2,T,st2,f2,n0,W,w0,turn⟩:=h2
  subst e
  have fl:∀ b∈fp,b<s2.heap.objs.size:=fun b hb=>by obtain ⟨o,e,_⟩:=T.obj _ _ st2 b hb;exact Heap.lt_size e
  refine wpAny_newObj_type (wpAny_newFunctionEnv B.nocell (by intro y hy;simp at hy) (fun h₁ hns₁ hsb₁=>?_) B.kind)
  dsimp only at hns₁ hsb₁ ⊢
  generalize hG:s2.heap.push { cls:=.type "list", dict:=none,data:=.seq ([]:List Value).toArray }=G at hns₁ hsb₁ ⊢
  have hC:G.objs.size=s2.heap.objs.size+1:=by rw [← hG,Heap.size_push]
  have hCle:s2.heap.objs.size≤G.objs.size:=by rw [hC];exact Nat.le_succ _
  have hDC:s2.heap.objs.size≠G.objs.size:=by rw [hC];exact Nat.ne_of_lt (Nat.lt_succ_self _)
  have old:∀ b o,s2.heap.get? b=some o→h₁.get? b=some o:=fun b o e=>hsb₁.extBut b o (by rw [hC];exact Nat.ne_of_lt (Nat.lt_succ_of_lt (Heap.lt_size e))) (Heap.get?_push_of_some _ (hG ▸ Heap.get?_push_of_some _ e))
  have hacc:h₁.get? s2.heap.objs.size=some { cls:=.type "list", data:=.seq ([]:List Value).toArray }:=hsb₁.extBut _ _ hDC (Heap.get?_push_of_some _ (hG ▸ Heap.get?_push_size _ rfl))
  have ok':=qnv B I2 f2 fl hCle
  have nsD:s2.heap.objs.size∉frs X.stack:=fun hb=>by
    rcases List.mem_cons.mp (I2.stkSub _ hb) with z | z
    · exact absurd I2.lt (by rw [← z];exact Nat.lt_irrefl _)
    · exact I2.nofs (Nat.le_refl _) z
  have ncD:∀ x c,cl.lookup x=some c→c≠s2.heap.objs.size:=fun x c e z=>by
    obtain ⟨v,q⟩:=I2.cell x c (B.cells x c e)
    exact absurd q.lt (by rw [z];exact Nat.lt_irrefl _)
  have nfD:∀ b∈fp,s2.heap.objs.size≠b:=fun b hb z=>absurd (fl b hb) (by rw [← z];exact Nat.lt_irrefl _)
  have I₁:Inv (blk X N scope cl G.objs.size s2 H2 fp) [] (qc7 capt σ) H2 { s2 with heap:=h₁,toks:=s2.toks+([]:List (Str×Value)).length }:=qnw B I2 f2 fl hCle hns₁ old
  have loop:codeAny (model X.prog X.w) X.A (.compLoop (.ListComp elt [⟨tg,iter,[c],0⟩] scope pos) 0 (.ref it) (.ref s2.heap.objs.size) (compEnvC scope cl G.objs.size X.env))
      (RR (.ref s2.heap.objs.size) G.objs.size) { s2 with heap:=h₁,toks:=s2.toks+([]:List (Str×Value)).length }:=by
    refine qjX (fun n s'=>∃ (i:Nat) (ys:List V) (its:List Value) (k:Nat) (Hc:Hp),Inv (blk X N scope cl G.objs.size s2 H2 fp) [] (qc7 capt σ) Hc s'∧s'.heap.get? s2.heap.objs.size=some { cls:=.type "list", data:=.seq its.toArray k }∧Vals ys its∧
      Hc s2.heap.objs.size=none∧tn i s'.heap∧(∀ b∈fp,Hc b=none)∧W i ys Hc∧n=n0 - i) ?_ n0 ⟨0,[],[],0,H2,I₁,hacc,.nil,I2.hok.fresh (Nat.le_refl _),T.keep _ _ _ st2 (fun b _ o e=>old b o e),fun b hb=>(f2 b hb).1,w0,rfl⟩
    rintro n s3 ⟨i,ys,its,k,Hc,I3,hD,hv,nD,st3,fr3,w3,en⟩
    obtain ⟨_,hl,step⟩:=turn i ys Hc w3
    have hz:its.toArray.size≤sizeLine:=by rw [List.size_toArray,← hv.length];exact hl
    have I3p:Inv (blk X N scope cl G.objs.size s2 H2 fp) [(s2.heap.objs.size,{ cls:=.type "list", data:=.seq its.toArray k })] (qc7 capt σ) Hc s3:=I3.pins_of fun p hp=>by
      rw [List.mem_singleton] at hp
      subst hp
      exact ⟨hD,nD,hDC,nsD,fun v z=>nomatch z⟩
    have fo3:∀ {Hx:Hp} (_:∀ b∈fp,Hx b=none),∀ b∈fp,qky (blk X N scope cl G.objs.size s2 H2 fp) [(s2.heap.objs.size,{ cls:=.type "list", data:=.seq its.toArray k })] Hx b:=fun hx b hb=>
      ⟨hx b hb,(ok'.exf b hb).1,ok'.exfs b hb,.inl hb,(ok'.exf b hb).2,fun p hp=>by
        have hp':p∈[((s2.heap.objs.size,{ cls:=.type "list", data:=.seq its.toArray k }):Addr×Obj)]:=hp
        rw [List.mem_singleton] at hp'
        subst hp'
        exact nfD b hb⟩
    rcases step with ⟨stop,q⟩ | ⟨ltn,go,nxt⟩
    · refine thn (T.done (blk X N scope cl G.objs.size s2 H2 fp) rfl rfl rfl hc i _ s3 _ Hc _ I3p (fo3 fr3) st3 stop) fun r s4 ⟨hr,I4⟩=>?_
      subst hr
      have hD4:=(I4.pin (s2.heap.objs.size,{ cls:=.type "list", data:=.seq its.toArray k }) (List.mem_append_right _ (List.mem_singleton.mpr rfl))).1
      obtain ⟨m,hn,_⟩:=I4.loc
      have nDt:∀ b u,Hc b=some u→b≠s2.heap.objs.size:=fun b u e z=>by rw [z,nD] at e;cases e
      have oldC:∀ b o,s2.heap.get? b=some o→b≠s2.heap.objs.size:=fun b o e=>Nat.ne_of_lt (Heap.lt_size e)
      have ub:Un (frs X.stack) fp H2 Hc s2.heap s4.heap:=I4.base
      have cC:∀ b,b<s2.heap.objs.size→b≠G.objs.size:=fun b hb z=>absurd (Nat.lt_of_lt_of_le hb hCle) (by rw [z];exact Nat.lt_irrefl _)
      refine fin _ G.objs.size s4 (upd Hc s2.heap.objs.size (.lst ys)) m ?_ (q _ nD) hn (by rw [qaJ (fun z=>hDC z.symm)];exact I4.free) (fun z=>cC _ I2.lt z.symm) (Nat.le_trans I2.sz hCle)
        (fun x c e=>by obtain ⟨v,q⟩:=I2.cell x c e;exact cC _ q.lt) fun p hp=>cC _ (Heap.lt_size (I2.pin p hp).1)
      refine I2.call' (ch:=fp) (s':=s4) I4.os ?_ ?_ I4.bare fun b hb=>⟨(f2 b hb).2.2.2.1,(f2 b hb).2.1,(f2 b hb).2.2.2.2.1,(f2 b hb).2.2.2.2.2⟩
      · refine ⟨ub.keep,ub.slot,fun b o e n hx=>?_,ub.there,fun b xs e=>?_,fun b o u e=>?_,fun b ps e=>?_⟩
        · rw [qaJ (oldC b o e)];exact ub.free b o e n hx
        · have z:=ub.tups b xs e
          rw [qaJ (nDt b _ z)];exact z
        · have z:=ub.frzs b o u e
          rw [qaJ (nDt b _ z)];exact z
        · obtain ⟨more,z⟩:=ub.tbls b ps e
          exact ⟨more,by rw [qaJ (nDt b _ z)];exact z⟩
      · intro b u e
        by_cases hb:b=s2.heap.objs.size
        · subst hb
          rw [qai] at e
          cases e
          exact ⟨hl,its,k,hv,hD4⟩
        · rw [qaJ hb] at e
          exact (I4.hok b u e).stay (fun c v _ q=>q) (fun c q=>by rw [qaJ (nDt c _ q)];exact q) fun c xs q=>by rw [qaJ (nDt c _ q)];exact q
    · refine thn (T.item (blk X N scope cl G.objs.size s2 H2 fp) rfl rfl rfl hc i _ s3 _ Hc _ I3p (fo3 fr3) st3 go) fun r s4 ⟨u,hr,h4⟩=>?_
      subst hr
      refine thn h4 fun _ s5 ⟨x,H5,I5,r5,y5,st5,fr5⟩=>?_
      have I5':=I5.pinned (fo3 fr5) (T.obj _ _ st5)
      refine thn (hg _ _ _ _ _ s5 _ H5 x u _ I5' r5 (nxt x H5 y5)) fun _ s6 ⟨σ6,H6,I6,q6⟩=>?_
      refine thn (ht _ _ _ _ _ s6 σ6 H6 _ I6 q6) fun okb s9 ⟨H9,I9,q9⟩=>?_
      have pF9:∀ b∈fp,∀ o,s5.heap.get? b=some o→s9.heap.get? b=some o∧H9 b=none:=fun b hb o e=>by
        have z:=I9.pin (b,o) (List.mem_append_right _ (List.mem_append_right _ (qdx hb e)))
        exact ⟨z.1,z.2.1⟩
      cases okb with
      | false=>
        have w9:W (i+1) ys H9:=q9
        have pD9:=I9.pin (s2.heap.objs.size,{ cls:=.type "list", data:=.seq its.toArray k }) (List.mem_append_right _ (List.mem_append_left _ (List.mem_singleton.mpr rfl)))
        have I9n:Inv (blk X N scope cl G.objs.size s2 H2 fp) [] σ6 H9 s9:=I9.pins_of fun p hp=>nomatch hp
        exact ⟨n0 - (i+1),by omega,i+1,ys,its,k,H9,qg1 B I2 f2 I9n,pD9.1,hv,pD9.2.1,T.keep _ _ _ st5 (fun b hb o e=>(pF9 b hb o e).1),(fun b hb=>by
          obtain ⟨o,e,_⟩:=T.obj _ _ st5 b hb
          exact (pF9 b hb o e).2),w9,rfl⟩
      | true=>
      replace q9:te σ6 H9 fun y H4=>W (i+1) (ys++[y]) H4:=q9
      refine thn (he _ _ _ _ _ s9 σ6 H9 _ I9 q9) fun uy s7 ⟨y,H7,I7,r7,w7⟩=>?_
      have pD:=I7.pin (s2.heap.objs.size,{ cls:=.type "list", data:=.seq its.toArray k }) (List.mem_append_right _ (List.mem_append_left _ (List.mem_singleton.mpr rfl)))
      have pF:∀ b∈fp,∀ o,s5.heap.get? b=some o→s7.heap.get? b=some o∧H7 b=none:=fun b hb o e=>by
        have z:=I7.pin (b,o) (List.mem_append_right _ (List.mem_append_right _ (qdx hb e)))
        exact ⟨z.1,z.2.1⟩
      refine append_at (hsz:=hz) pD.1 fun h8 sb8 hD8=>?_
      have I7n:Inv (blk X N scope cl G.objs.size s2 H2 fp) [] σ6 H7 s7:=I7.pins_of fun p hp=>nomatch hp
      have I8:Inv (blk X N scope cl G.objs.size s2 H2 fp) [] σ6 H7 { s7 with heap:=h8,toks:=s7.toks }:=I7n.turned (fun b o hb e=>sb8.extBut b o hb e) pD.2.1 hDC (.inr (Nat.le_refl _)) ncD (fun p hp=>nomatch hp)
      refine ⟨n0 - (i+1),by omega,i+1,ys++[y],its++[uy],k+1,H7,qg1 B I2 f2 I8,?_,Paired.snoc hv r7,pD.2.1,T.keep _ _ _ st5 (fun b hb o e=>sb8.extBut b o (nfD b hb).symm (pF b hb o e).1),fun b hb=>?_,w7,rfl⟩
      · show h8.get? _=_
        rw [hD8,List.push_toArray]
      · obtain ⟨o,e,_⟩:=T.obj _ _ st5 b hb
        exact (pF b hb o e).2
  exact codeAny_compStart_list loop (T.self X.A 0 _ _ _ (T.keep _ _ _ st2 (fun b _ o e=>old b o e)) loop)
theorem qpb {elt iter tg c:Expr} {tc:TT} {pos:Pos} {wi:TI} {g:TG} {te:TE} (hc:X.calm=true) (B:BlkOk X N capt scope cl) (hi:PI X tg iter wi)
    (hg:∀ C s H fp,PG (blk X N scope cl C s H fp) tg g) (ht:∀ C s H fp,PT (blk X N scope cl C s H fp) c tc) (he:∀ C s H fp,PE (blk X N scope cl C s H fp) elt te)
    (hs:∀ x,foldedSetIterable iter X.env x=pure x:=by intro _;rfl):PE X (.ListComp elt [⟨tg,iter,[c],0⟩] scope pos) (qlD wi capt g tc te):=by
  intro pins s σ H Q I h
  rw [eval_ListComp]
  refine wpAny_comprehension_free (use:=none) rfl hs B.clos B.kind B.names (qmk (fun acc C=>compPost (model X.prog X.w) X.A X.xe none (EP X pins σ Q) acc C) hc B hi hg ht he I h fun D C s4 Hq m I4 q hn hf h1 h2 h3 h4=>?_)
  exact ⟨m,hn,fun h' sb=>⟨.ref D,Hq,I4.turned (fun b o hb e=>sb.extBut b o hb e) hf h1 (.inr h2) h3 h4,rfl,q⟩⟩
end
end Bs
namespace Bs
open PySem L2
noncomputable def sS (K:W.Frag):V→Option Int→Option Int→Hp→VK→Prop:=fun x lo hi H Q=>∃ a xs,x=.ref a∧SqL K H a xs∧∀ p,H p=none→Q (.ref p) (upd H p (.lst (qjE xs lo hi)))
end Bs
namespace Bs
open PySem PySem.Spec PyProof.Rows L2
section
variable {X:Cx}
theorem qnH:OpR X (inplaceOp .FloorDiv) qgj:=by
  intro pins s σ H x y v u Q I rx ry ⟨i,j,ex,ey,hc,q⟩
  subst ex ey
  obtain ⟨t,rfl⟩:=rx
  obtain ⟨t2,rfl⟩:=ry
  exact ifloordiv_int hc ⟨.int (i.fdiv j),H,I.tok _,⟨_,rfl⟩,q⟩ (Or.inr (I.ok.plr s I.bk))
theorem qnI:OpR X (inplaceOp .FloorDiv) qh0:=by
  intro pins s σ H x y v u Q I rx ry ⟨i,j,ex,ey,hc,q⟩
  have hc':0<j:=hc
  replace q:Q (.int (i / j)) H:=q
  rw [← Int.fdiv_eq_ediv_of_nonneg i (Int.le_of_lt hc')] at q
  exact qnH pins s σ H x y v u Q I rx ry ⟨i,j,ex,ey,Int.ne_of_gt hc',q⟩
end
end Bs
namespace Bs
open PySem L2
noncomputable def qrU (n:Nat) (t:TGs):TG:=fun v σ H Q=>∃ a xs,v=.ref a∧H a=some (.lst xs)∧xs.length=n∧t xs σ H Q
end Bs
namespace Bs
open PySem PySem.Spec PyProof.Rows L2
theorem qrV {m n:Nat} {a b:Int} (ha:Bd m a) (hb:Bd n b) (h:m+n≤134217728):IntMulOk a b:=IntMulOk.of_le (qnn ha) (qnn hb) h
end Bs
namespace Bs
open PySem L2
noncomputable def qrW (i j k:Nat) (ta:TA):TS:=fun D σ H=>ta σ H fun vs H1=>∃ u v w,vs=[u,v,w]∧D.nx (((σ.set i (some u)).set j (some v)).set k (some w)) H1
end Bs
namespace Bs
open PySem PySem.Spec PyProof.Rows L2
end Bs
namespace Bs
theorem Bd.one:Bd 1 1:=by unfold Bd;decide
theorem Bd.pow {b:Nat} {x:Int} (h:Bd b x) (k:Nat):Bd (b*k+1) (x ^ k):=by
  induction k with
  | zero=>rw [Int.pow_zero,Nat.mul_zero];exact Bd.one
  | succ k ih=>
    have e:b*(k+1)+1=(b*k+1)+b:=by rw [Nat.mul_add,Nat.mul_one];omega
    rw [Int.pow_succ,e]
    exact ih.mul h
end Bs
namespace Bs
noncomputable abbrev Nu:=Int×Int
noncomputable def red (n m:Int):Nu:=(n / ((Int.gcd n m:Nat):Int),m / ((Int.gcd n m:Nat):Int))
noncomputable def nadd (q r:Nu):Nu:=red (q.1*r.2+r.1*q.2) (q.2*r.2)
noncomputable def nsub (q r:Nu):Nu:=red (q.1*r.2 - r.1*q.2) (q.2*r.2)
noncomputable def nmul (q r:Nu):Nu:=red (q.1*r.1) (q.2*r.2)
noncomputable def Wo (q:Nu) (n m:Int):Prop:=q.1*m=n*q.2
theorem qdp {n m:Int} (hm:0<m):Low (red n m).1 (red n m).2:=(qdN (a:=n) hm).1
theorem qlF {n m:Int} (hm:0<m):Wo (red n m) n m:=by
  have h:=(qfN (a:=n) (b:=m) (s:=((Int.gcd n m:Nat):Int)) (by omega) (by rw [if_neg (by omega)])).2.2.2.1
  rw [Int.fdiv_eq_ediv_of_nonneg _ (by omega),Int.fdiv_eq_ediv_of_nonneg _ (by omega)] at h
  exact h
theorem qfP {a b d:Int} (h:Low a b) (hd:b∣a*d):b∣d:=by
  have c:Nat.Coprime b.natAbs a.natAbs:=by
    have:Nat.Coprime a.natAbs b.natAbs:=h.one
    exact this.symm
  have z:=Int.natAbs_dvd_natAbs.mpr hd
  rw [Int.natAbs_mul] at z
  exact Int.natAbs_dvd_natAbs.mp (c.dvd_of_dvd_mul_left z)
theorem qip {a b c d:Int} (h1:Low a b) (h2:Low c d) (h:a*d=c*b):a=c∧b=d:=by
  have d1:b∣d:=qfP h1 ⟨c,by rw [h,Int.mul_comm]⟩
  have d2:d∣b:=qfP h2 ⟨a,by rw [← h,Int.mul_comm]⟩
  have e:b=d:=Int.dvd_antisymm (Int.le_of_lt h1.pos) (Int.le_of_lt h2.pos) d1 d2
  subst e
  exact ⟨Int.eq_of_mul_eq_mul_right (Int.ne_of_gt h1.pos) h,rfl⟩
theorem qjY {q r:Nu} {n m:Int} (h1:Low q.1 q.2) (h2:Low r.1 r.2) (hm:m≠0) (w1:Wo q n m) (w2:Wo r n m):q=r:=by
  unfold Wo at w1 w2
  have e:q.1*r.2=r.1*q.2:=by
    have z:m*(q.1*r.2)=m*(r.1*q.2):=by grind
    exact Int.eq_of_mul_eq_mul_left hm z
  obtain ⟨a,b⟩:=qip h1 h2 e
  exact Prod.ext a b
theorem qsP {q:Nu} {n m:Int} (h1:Low q.1 q.2) (hm:0<m) (w:Wo q n m):q.1.natAbs≤n.natAbs∧q.2.natAbs≤m.natAbs:=by
  have e:q=red n m:=qjY h1 (qdp hm) (Int.ne_of_gt hm) w (qlF hm)
  subst e
  exact ⟨(qdN (a:=n) hm).2.1,(qdN (a:=n) hm).2.2.1⟩
theorem qlG {q r:Nu} (h1:0<q.2) (h2:0<r.2):Low (nadd q r).1 (nadd q r).2:=qdp (Int.mul_pos h1 h2)
theorem qpc {q r:Nu} (h1:0<q.2) (h2:0<r.2):Low (nsub q r).1 (nsub q r).2:=qdp (Int.mul_pos h1 h2)
theorem qfo {q r:Nu} (h1:0<q.2) (h2:0<r.2):Low (nmul q r).1 (nmul q r).2:=qdp (Int.mul_pos h1 h2)
theorem qlH {m:Int} (hm:0<m):red 0 m=(0,1):=qjY (qdp hm) ⟨by decide,by decide⟩ (Int.ne_of_gt hm) (qlF hm) (by unfold Wo;omega)
noncomputable def qcd (l:List Nu):Nat→Nat
  | 0=>0
  | m+1=>if (l.getD m (1,1)).1=0 then qcd l m else m+1
noncomputable def trim (l:List Nu):List Nu:=l.take (qcd l l.length)
theorem qi0 (l:List Nu):∀ m,qcd l m≤m
  | 0=>Nat.le_refl 0
  | m+1=>by
    unfold qcd
    split
    · exact Nat.le_succ_of_le (qi0 l m)
    · exact Nat.le_refl _
theorem qiq (l:List Nu):∀ m,qcd l m=0∨(l.getD (qcd l m - 1) (1,1)).1≠0
  | 0=>.inl rfl
  | m+1=>by
    unfold qcd
    split
    · exact qiq l m
    · rename_i h;exact .inr h
noncomputable def Nz (l:List Nu):Prop:=∀ q,l.getLast?=some q→q.1≠0
theorem qi1 {l:List Nu} (h:Nz l):trim l=l:=by
  unfold trim
  have e:qcd l l.length=l.length:=by
    cases hl:l.length with
    | zero=>rfl
    | succ m=>
      unfold qcd
      have hm:m<l.length:=by omega
      have z:(l.getD m (1,1)).1≠0:=by
        have q:=h l[m] (by rw [List.getLast?_eq_getElem?,hl];simp [hm])
        rw [List.getD_eq_getElem?_getD,List.getElem?_eq_getElem hm]
        exact q
      rw [if_neg z]
  rw [e,List.take_length]
theorem qeh (l:List Nu):Nz (trim l):=by
  intro q hq
  unfold trim at hq
  have hle:=qi0 l l.length
  rw [List.getLast?_eq_getElem?,List.length_take,Nat.min_eq_left hle] at hq
  rcases qiq l l.length with z | z
  · rw [z] at hq;simp at hq
  · by_cases h0:qcd l l.length=0
    · rw [h0] at hq;simp at hq
    · rw [List.getElem?_take_of_lt (by omega)] at hq
      rw [List.getD_eq_getElem?_getD,hq] at z
      exact z
theorem qb1 {l:List Nu} {q:Nu} (h:q∈trim l):q∈l:=List.mem_of_mem_take h
theorem qda (l:List Nu):(trim l).length≤l.length:=by
  unfold trim;rw [List.length_take];omega
noncomputable def qap (l:List Nu):Prop:=∀ q∈l,Low q.1 q.2
noncomputable def qpd (n:Nat) (l:List Nu):Prop:=∀ q∈l,Bd n q.1∧Bd n q.2
noncomputable def qa9 (l:List Nu) (i:Nat):Nu:=l.getD i (0,1)
noncomputable def qpe (f:Nu→Nu→Nu) (l m:List Nu):List Nu:=(List.range (max l.length m.length)).map fun i=>f (qa9 l i) (qa9 m i)
theorem qqH:Low 0 1:=⟨by decide,by decide⟩
theorem qaM {l:List Nu} (h:qap l) (i:Nat):Low (qa9 l i).1 (qa9 l i).2:=by
  unfold qa9
  rw [List.getD_eq_getElem?_getD]
  cases e:l[i]? with
  | none=>exact qqH
  | some q=>exact h q (List.mem_of_getElem? e)
end Bs
namespace Bs
noncomputable def qbv (l:List Nu):Int:=l.foldl (fun B q=>B*(q.2 / ((Int.gcd B q.2:Nat):Int))) 1
noncomputable def qa6 (l:List Nu):List Int:=l.map fun q=>q.1*(qbv l / q.2)
theorem qi2 {B d:Int} (hB:0<B) (hd:0<d):0<B*(d / ((Int.gcd B d:Nat):Int))∧B∣B*(d / ((Int.gcd B d:Nat):Int))∧d∣B*(d / ((Int.gcd B d:Nat):Int))∧(d / ((Int.gcd B d:Nat):Int)).natAbs≤d.natAbs∧0<((Int.gcd B d:Nat):Int)∧((Int.gcd B d:Nat):Int)≤d:=by
  have g0:0<Int.gcd B d:=Int.gcd_pos_of_ne_zero_right B (by omega)
  obtain ⟨k,hk⟩:((Int.gcd B d:Nat):Int)∣d:=Int.gcd_dvd_right B d
  obtain ⟨m,hm⟩:((Int.gcd B d:Nat):Int)∣B:=Int.gcd_dvd_left B d
  have gp:(0:Int)<((Int.gcd B d:Nat):Int):=by omega
  have e:d / ((Int.gcd B d:Nat):Int)=k:=by
    have z:d / ((Int.gcd B d:Nat):Int)=(((Int.gcd B d:Nat):Int)*k) / ((Int.gcd B d:Nat):Int):=by rw [← hk]
    rw [z,Int.mul_ediv_cancel_left _ (Int.ne_of_gt gp)]
  have kp:0<k:=by
    rcases Int.lt_or_le 0 k with h | h
    · exact h
    · exfalso
      have:=Int.mul_nonneg (Int.le_of_lt gp) (show 0≤-k by omega)
      rw [Int.mul_neg] at this
      omega
  have le:((Int.gcd B d:Nat):Int)≤d:=Int.le_of_dvd hd (Int.gcd_dvd_right B d)
  refine ⟨by rw [e];exact Int.mul_pos hB kp,Int.dvd_mul_right ..,?_,?_,gp,le⟩
  · rw [e]
    refine ⟨m,?_⟩
    have z:d*m=((Int.gcd B d:Nat):Int)*k*m:=by rw [← hk]
    have z2:B*k=((Int.gcd B d:Nat):Int)*m*k:=by rw [← hm]
    rw [z,z2];grind
  · rw [e]
    have z:d.natAbs=(Int.gcd B d)*k.natAbs:=by
      have:d.natAbs=(((Int.gcd B d:Nat):Int)*k).natAbs:=by rw [← hk]
      rw [this,Int.natAbs_mul];simp
    rw [z]
    exact Nat.le_mul_of_pos_left _ g0
theorem qjZ {b:Nat}:∀ (l:List Nu) (B:Int) (c:Nat),(∀ q∈l,0<q.2∧Bd b q.2)→0<B→Bd c B→
    0<l.foldl (fun B q=>B*(q.2 / ((Int.gcd B q.2:Nat):Int))) B∧B∣l.foldl (fun B q=>B*(q.2 / ((Int.gcd B q.2:Nat):Int))) B∧(∀ q∈l,q.2∣l.foldl (fun B q=>B*(q.2 / ((Int.gcd B q.2:Nat):Int))) B)∧Bd (c+b*l.length) (l.foldl (fun B q=>B*(q.2 / ((Int.gcd B q.2:Nat):Int))) B)
  | [],B,c,_,hB,bB=>⟨hB,Int.dvd_refl B,(fun _ h=>nomatch h),by simpa using bB⟩
  | q::l,B,c,h,hB,bB=>by
    obtain ⟨q0,qb⟩:=h q (List.mem_cons_self ..)
    obtain ⟨s1,s2,s3,s4,_,_⟩:=qi2 hB q0
    obtain ⟨r1,r2,r3,r4⟩:=qjZ l (B*(q.2 / ((Int.gcd B q.2:Nat):Int))) (c+b) (fun r hr=>h r (List.mem_cons_of_mem _ hr)) s1 (bB.mul (qb.le s4))
    rw [List.foldl_cons]
    refine ⟨r1,Int.dvd_trans s2 r2,fun r hr=>?_,r4.mono (by rw [List.length_cons,Nat.mul_add,Nat.mul_one];omega)⟩
    rcases List.mem_cons.mp hr with rfl | hr
    · exact Int.dvd_trans s3 r2
    · exact r3 r hr
theorem qi3 {b:Nat} {l:List Nu} (h1:qap l) (h2:qpd b l):0<qbv l∧(∀ q∈l,q.2∣qbv l)∧Bd (1+b*l.length) (qbv l):=by
  obtain ⟨r1,_,r3,r4⟩:=qjZ (b:=b) l 1 1 (fun q hq=>⟨(h1 q hq).pos,(h2 q hq).2⟩) (by decide) Bd.one
  exact ⟨r1,r3,r4⟩
theorem qeQ {B d:Int} (hB:0<B) (hd:0<d):(B / d).natAbs≤B.natAbs:=by
  have h1:0≤B / d:=Int.ediv_nonneg (Int.le_of_lt hB) (Int.le_of_lt hd)
  have h2:B / d≤B:=Int.ediv_le_self d (Int.le_of_lt hB)
  omega
theorem qrX {q:Nu} {B:Int} (hd:q.2∣B):Wo q (q.1*(B / q.2)) B:=by
  unfold Wo
  rw [Int.mul_assoc,Int.ediv_mul_cancel hd]
theorem qqI {b:Nat} {l:List Nu} (h1:qap l) (h2:qpd b l):∀ z∈qa6 l,Bd (b+(1+b*l.length)) z:=by
  intro z hz
  obtain ⟨q,hq,e⟩:=List.mem_map.mp hz
  subst e
  exact (h2 q hq).1.mul ((qi3 h1 h2).2.2.le (qeQ (qi3 h1 h2).1 (h1 q hq).pos))
noncomputable def ps (ns ms:List Int):Nat→Nat→Int
  | 0,_=>0
  | i+1,k=>ps ns ms i k+(if i≤k∧k - i<ms.length then ns.getD i 0*ms.getD (k - i) 0 else 0)
noncomputable def in2 (ns ms:List Int) (i j k:Nat):Int:=ps ns ms i k+(if i≤k∧k - i<j then ns.getD i 0*ms.getD (k - i) 0 else 0)
theorem qpf (ns ms:List Int) (i k:Nat):in2 ns ms i 0 k=ps ns ms i k:=by
  unfold in2;rw [if_neg (by omega)];omega
theorem qlI (ns ms:List Int) (i j k:Nat):in2 ns ms i (j+1) k=if k=i+j then in2 ns ms i j k+ns.getD i 0*ms.getD j 0 else in2 ns ms i j k:=by
  unfold in2
  by_cases h:k=i+j
  · subst h
    rw [if_pos rfl,if_pos ⟨by omega,by omega⟩,if_neg (by omega),show i+j - i=j by omega];omega
  · rw [if_neg h]
    congr 1
    by_cases h2:i≤k∧k - i<j
    · rw [if_pos h2,if_pos ⟨h2.1,by omega⟩]
    · rw [if_neg h2,if_neg (by omega)]
theorem qcz {c:Nat} {ns:List Int} (h:∀ z∈ns,Bd c z) (i:Nat):Bd c (ns.getD i 0):=by
  rw [List.getD_eq_getElem?_getD]
  cases e:ns[i]? with
  | none=>exact Nat.pow_pos (by decide)
  | some z=>exact h z (List.mem_of_getElem? e)
theorem qbV (c:Nat):Bd c 0:=Nat.pow_pos (by decide)
theorem qrY {c d:Nat} {ns ms:List Int} (h1:∀ z∈ns,Bd c z) (h2:∀ z∈ms,Bd d z):∀ i k,Bd (c+d+i) (ps ns ms i k)
  | 0,_=>qbV _
  | i+1,k=>by
    unfold ps
    refine (qrY h1 h2 i k).add ?_
    split
    · exact ((qcz h1 i).mul (qcz h2 (k - i))).mono (by omega)
    · exact qbV _
theorem qkN {ns ms:List Int}:∀ i k,i+ms.length≤k+1→ps ns ms i k=0
  | 0,_,_=>rfl
  | i+1,k,h=>by
    unfold ps
    rw [qkN i k (by omega),if_neg (by omega)];rfl
noncomputable def qp2 (l m:List Nu) (n:Nat):List Nu:=(List.range n).map fun k=>red (ps (qa6 l) (qa6 m) l.length k) (qbv l*qbv m)
theorem qir {l m:List Nu}:∀ {n:Nat},(∀ i,i<n→l.getD i (1,1)=m.getD i (1,1))→qcd l n=qcd m n
  | 0,_=>rfl
  | n+1,h=>by
    unfold qcd
    rw [h n (Nat.lt_succ_self n),qir fun i hi=>h i (Nat.lt_succ_of_lt hi)]
theorem qj0 (l:List Nu):trim (l++[(0,1)])=trim l:=by
  unfold trim
  rw [List.length_append,List.length_singleton]
  have e:qcd (l++[(0,1)]) (l.length+1)=qcd l l.length:=by
    rw [show qcd (l++[(0,1)]) (l.length+1)=if ((l++[((0,1):Nu)]).getD l.length (1,1)).1=0 then qcd (l++[(0,1)]) l.length else l.length+1 from rfl]
    rw [if_pos (by simp [List.getD_eq_getElem?_getD])]
    exact qir fun i hi=>by rw [List.getD_eq_getElem?_getD,List.getD_eq_getElem?_getD,List.getElem?_append_left hi]
  rw [e,List.take_append_of_le_length (qi0 l l.length)]
theorem qj1 (l m:List Nu) (n:Nat):qp2 l m (n+1)=qp2 l m n++[red (ps (qa6 l) (qa6 m) l.length n) (qbv l*qbv m)]:=by
  unfold qp2
  rw [List.range_succ,List.map_append]
  rfl
theorem qfQ (l m:List Nu) (hB:0<qbv l*qbv m):∀ n,(∀ k,k<n→ps (qa6 l) (qa6 m) l.length k=0)→trim (qp2 l m n)=[]
  | 0,_=>rfl
  | n+1,h=>by
    rw [qj1,h n (Nat.lt_succ_self n),qlH hB,qj0]
    exact qfQ l m hB n fun k hk=>h k (Nat.lt_succ_of_lt hk)
theorem qnJ {ns ms:List Int} (h:ms.length=0):∀ i k,ps ns ms i k=0
  | 0,_=>rfl
  | i+1,k=>by unfold ps;rw [qnJ h i k,if_neg (by omega)];rfl
theorem qnK {l m:List Nu} (hB:0<qbv l*qbv m) (n2:(qa6 m).length=m.length) :
    trim (qp2 l m (l.length+m.length))=trim (List.map (fun n=>red n (qbv l*qbv m)) (if l.length=0∨m.length=0 then [] else List.map (fun k=>ps (qa6 l) (qa6 m) l.length k) (List.range (l.length+m.length - 1)))):=by
  by_cases h1:l.length=0
  · rw [if_pos (.inl h1)]
    refine qfQ l m hB _ fun k _=>?_
    rw [h1];rfl
  · by_cases h2:m.length=0
    · rw [if_pos (.inr h2)]
      exact qfQ l m hB _ fun k _=>qnJ (by rw [n2];exact h2) _ _
    · rw [if_neg (by omega)]
      obtain ⟨n,hn⟩:∃ n,l.length+m.length=n+1:=⟨l.length+m.length - 1,by omega⟩
      rw [hn,qj1,qkN l.length n (by rw [n2];omega),qlH hB,qj0,Nat.add_sub_cancel,List.map_map]
      rfl
end Bs
namespace Bs
noncomputable def val (q:Nu):Rat:=(q.1:Rat) / (q.2:Rat)
theorem zdiv (x:Rat):0 / x=0:=by rw [Rat.div_def,Rat.zero_mul]
theorem qaG {z:Int} (h:z≠0):(z:Rat)≠0:=by exact_mod_cast h
theorem qg4 {q:Nu} {n m:Int} (hq:q.2≠0) (hm:m≠0) (w:Wo q n m):val q=(n:Rat) / (m:Rat):=by
  have h1:=qaG hq
  have h2:=qaG hm
  have w':(q.1:Rat)*m=n*q.2:=by unfold Wo at w;exact_mod_cast w
  unfold val
  grind
theorem qei {q r:Nu} (h1:Low q.1 q.2) (h2:Low r.1 r.2) (h:val q=val r):q=r:=by
  have a:=qaG (Int.ne_of_gt h1.pos)
  have b:=qaG (Int.ne_of_gt h2.pos)
  unfold val at h
  have z:(q.1:Rat)*r.2=r.1*q.2:=by grind
  have z':q.1*r.2=r.1*q.2:=by exact_mod_cast z
  obtain ⟨x,y⟩:=qip h1 h2 z'
  exact Prod.ext x y
theorem qg5 {n m:Int} (hm:0<m):val (red n m)=(n:Rat) / (m:Rat):=qg4 (Int.ne_of_gt (qdp hm).pos) (Int.ne_of_gt hm) (qlF hm)
theorem qi4 {q r:Nu} (h1:0<q.2) (h2:0<r.2):val (nadd q r)=val q+val r:=by
  unfold nadd
  rw [qg5 (Int.mul_pos h1 h2)]
  have a:=qaG (Int.ne_of_gt h1)
  have b:=qaG (Int.ne_of_gt h2)
  unfold val
  push_cast
  grind
theorem qfp {q r:Nu} (h1:0<q.2) (h2:0<r.2):val (nmul q r)=val q*val r:=by
  unfold nmul
  rw [qg5 (Int.mul_pos h1 h2)]
  have a:=qaG (Int.ne_of_gt h1)
  have b:=qaG (Int.ne_of_gt h2)
  unfold val
  push_cast
  grind
noncomputable def qb7 (n m:Int):Nu:=if m<0 then red (-n) (-m) else red n m
theorem qdb {n m:Int} (hm:m≠0):Low (qb7 n m).1 (qb7 n m).2:=by
  unfold qb7
  split
  · exact qdp (by omega)
  · exact qdp (by omega)
theorem qdO {n m:Int} (hm:m≠0):val (qb7 n m)=(n:Rat) / (m:Rat):=by
  unfold qb7
  split
  · rw [qg5 (by omega)]
    have:=qaG hm
    push_cast
    grind
  · exact qg5 (by omega)
theorem qlJ {n m N:Int} (hm:m≠0) (h:m∣N):(qb7 n m).2∣N:=by
  have aux:∀ {n m:Int},0<m→(red n m).2∣m:=fun {n m} h0=>by
    unfold red
    exact Int.ediv_dvd_of_dvd (Int.gcd_dvd_right n m)
  unfold qb7
  split
  · exact Int.dvd_trans (aux (by omega)) (Int.dvd_trans (Int.neg_dvd.mpr (Int.dvd_refl m)) h)
  · exact Int.dvd_trans (aux (by omega)) h
theorem qkO {c d:Nat} {n m:Int} (hm:m≠0) (h1:Bd c n) (h2:Bd d m):Bd c (qb7 n m).1∧Bd d (qb7 n m).2:=by
  have aux:∀ {n m:Int},0<m→Bd c n→Bd d m→Bd c (red n m).1∧Bd d (red n m).2:=fun {n m} h0 h1 h2=>by
    have w:=qsP (qdp h0) h0 (qlF (n:=n) h0)
    exact ⟨h1.le w.1,h2.le w.2⟩
  unfold qb7
  split
  · exact aux (by omega) h1.neg h2.neg
  · exact aux (by omega) h1 h2
noncomputable def pwo (l:List Nu) (k:Nat):Rat:=val (qa9 l k)
theorem qtA {q:Nu} (h:Low q.1 q.2) (z:q.1=0):q=(0,1):=qei h qqH (by unfold val;rw [z];show ((0:Int):Rat) / _=((0:Int):Rat) / _;rw [show ((0:Int):Rat)=0 from rfl,zdiv,zdiv])
theorem qnL {l:List Nu} (hl:qap l) (k:Nat):qa9 (trim l) k=qa9 l k:=by
  have key:∀ (m:Nat),m≤l.length→(∀ j,m≤j→j<l.length→(qa9 l j).1=0)→∀ j,qcd l m≤j→j<l.length→(qa9 l j).1=0:=by
    intro m
    induction m with
    | zero=>intro _ h j hj1 hj2;exact h j (by omega) hj2
    | succ m ih=>
      intro hm h j h1 h2
      rw [show qcd l (m+1)=if (l.getD m (1,1)).1=0 then qcd l m else m+1 from rfl] at h1
      split at h1
      · rename_i z
        refine ih (by omega) (fun j hj1 hj2=>?_) j h1 h2
        by_cases e:j=m
        · subst e
          unfold qa9
          rw [List.getD_eq_getElem?_getD,List.getElem?_eq_getElem hj2] at z ⊢
          exact z
        · exact h j (by omega) hj2
      · exact h j h1 h2
  unfold trim
  by_cases h1:k<qcd l l.length
  · unfold qa9
    rw [List.getD_eq_getElem?_getD,List.getD_eq_getElem?_getD,List.getElem?_take_of_lt h1]
  · have e:qa9 (l.take (qcd l l.length)) k=(0,1):=by
      unfold qa9
      rw [List.getD_eq_getElem?_getD,List.getElem?_eq_none (by rw [List.length_take];omega)]
      rfl
    rw [e]
    by_cases h2:k<l.length
    · exact (qtA (qaM hl k) (key l.length (Nat.le_refl _) (fun j a b=>absurd b (by omega)) k (by omega) h2)).symm
    · unfold qa9
      rw [List.getD_eq_getElem?_getD,List.getElem?_eq_none (by omega)]
      rfl
theorem qfR {l:List Nu} (hl:qap l) (k:Nat):pwo (trim l) k=pwo l k:=by unfold pwo;rw [qnL hl]
theorem qi5 {l:List Nu} {k:Nat} (h:l.length≤k):qa9 l k=(0,1):=by
  unfold qa9
  rw [List.getD_eq_getElem?_getD,List.getElem?_eq_none h]
  rfl
theorem qbd {l:List Nu} {k:Nat} (h:l.length≤k):pwo l k=0:=by
  unfold pwo
  rw [qi5 h]
  exact zdiv _
theorem qp3 {a b:List Nu} (nb:Nz b) (h:∀ k,qa9 a k=qa9 b k):b.length≤a.length:=by
  rcases Nat.lt_or_ge a.length b.length with hlt | hge
  · exfalso
    have hb:b.length - 1<b.length:=by omega
    have q:=nb b[b.length - 1] (by rw [List.getLast?_eq_getElem?];exact List.getElem?_eq_getElem hb)
    have e:=h (b.length - 1)
    rw [qi5 (by omega)] at e
    unfold qa9 at e
    rw [List.getD_eq_getElem?_getD,List.getElem?_eq_getElem hb] at e
    have e':((0,1):Nu)=b[b.length - 1]:=e
    rw [← e'] at q
    exact q rfl
  · exact hge
theorem qlK {a b:List Nu} (ha:qap a) (hb:qap b) (na:Nz a) (nb:Nz b) (h:∀ k,pwo a k=pwo b k):a=b:=by
  have g:∀ k,qa9 a k=qa9 b k:=fun k=>qei (qaM ha k) (qaM hb k) (h k)
  have e:a.length=b.length:=Nat.le_antisymm (qp3 na fun k=>(g k).symm) (qp3 nb g)
  refine List.ext_getElem e fun i h1 h2=>?_
  have z:=g i
  unfold qa9 at z
  rw [List.getD_eq_getElem?_getD,List.getD_eq_getElem?_getD,List.getElem?_eq_getElem h1,List.getElem?_eq_getElem h2] at z
  exact z
noncomputable def cv (f g:Nat→Rat):Nat→Nat→Rat
  | 0,_=>0
  | n+1,k=>cv f g n k+(if n≤k then f n*g (k - n) else 0)
theorem qp4 {f f' g:Nat→Rat} {s:Nat} {x:Rat} (h0:f s=0) (h1:f' s=x) (h2:∀ i,i≠s→f' i=f i):∀ n k,cv f' g n k=cv f g n k+(if s<n∧s≤k then x*g (k - s) else 0)
  | 0,k=>by unfold cv;rw [if_neg (by omega)];exact (Rat.add_zero 0).symm
  | n+1,k=>by
    unfold cv
    rw [qp4 h0 h1 h2 n k]
    by_cases e:n=s
    · subst e
      rw [h0,h1]
      by_cases hk:n≤k
      · rw [if_pos hk,if_pos hk,if_neg (by omega),if_pos ⟨by omega,hk⟩]
        grind
      · rw [if_neg hk,if_neg hk,if_neg (by omega),if_neg (by omega)]
    · rw [h2 n e]
      have e1:(s<n+1∧s≤k)↔(s<n∧s≤k):=by omega
      simp only [e1]
      grind
theorem qnM {f g:Nat→Rat}:∀ n k,(∀ i,i<n→f i=0)→cv f g n k=0
  | 0,_,_=>rfl
  | n+1,k,h=>by
    unfold cv
    rw [qnM n k fun i hi=>h i (by omega),h n (by omega)]
    split <;> grind
theorem qnN {f g:Nat→Rat} {n:Nat} (h:∀ i,n≤i→f i=0):∀ d k,cv f g (n+d) k=cv f g n k
  | 0,_=>rfl
  | d+1,k=>by
    show cv f g (n+d) k+(if n+d≤k then f (n+d)*g (k - (n+d)) else 0)=_
    rw [qnN h d k,h (n+d) (by omega)]
    split <;> grind
theorem qlL {f f' g:Nat→Rat} (h:∀ i,f i=f' i):∀ n k,cv f g n k=cv f' g n k
  | 0,_=>rfl
  | n+1,k=>by unfold cv;rw [qlL h n k,h n]
noncomputable def ovN (l:List Nu) (M:Int):List Int:=l.map fun q=>q.1*(M / q.2)
noncomputable def Ov (l:List Nu) (M:Int):Prop:=0<M∧∀ q∈l,q.2∣M
theorem qnO {l:List Nu} {M:Int} (i:Nat):(ovN l M).getD i 0=(qa9 l i).1*(M / (qa9 l i).2):=by
  unfold ovN qa9
  rw [List.getD_eq_getElem?_getD,List.getD_eq_getElem?_getD,List.getElem?_map]
  cases l[i]? with
  | none=>simp
  | some q=>rfl
theorem Ov.get {l:List Nu} {M:Int} (h:Ov l M) (i:Nat):(qa9 l i).2∣M:=by
  unfold qa9
  rw [List.getD_eq_getElem?_getD]
  cases e:l[i]? with
  | none=>exact Int.one_dvd M
  | some q=>exact h.2 q (List.mem_of_getElem? e)
theorem qrZ {l:List Nu} {M:Int} (h:Ov l M) (i:Nat):Wo (qa9 l i) ((ovN l M).getD i 0) M:=by
  rw [qnO]
  exact qrX (h.get i)
theorem qgk {l:List Nu} {M:Int} (hl:qap l) (h:Ov l M) (i:Nat):pwo l i=((ovN l M).getD i 0:Rat) / (M:Rat):=qg4 (Int.ne_of_gt (qaM hl i).pos) (Int.ne_of_gt h.1) (qrZ h i)
noncomputable def qr0 (l m:List Nu) (M1 M2:Int) (n:Nat):List Nu:=(List.range n).map fun k=>red (ps (ovN l M1) (ovN m M2) l.length k) (M1*M2)
theorem qqJ {l m:List Nu} {M1 M2:Int} (hl:qap l) (hm:qap m) (h1:Ov l M1) (h2:Ov m M2):∀ n k,(ps (ovN l M1) (ovN m M2) n k:Rat) / ((M1*M2:Int):Rat)=cv (pwo l) (pwo m) n k
  | 0,k=>zdiv _
  | n+1,k=>by
    have a:=qaG (Int.ne_of_gt h1.1)
    have b:=qaG (Int.ne_of_gt h2.1)
    have ih:=qqJ hl hm h1 h2 n k
    unfold ps cv
    rw [← ih]
    by_cases hk:n≤k
    · rw [if_pos hk,qgk hl h1,qgk hm h2]
      by_cases h3:k - n<(ovN m M2).length
      · rw [if_pos ⟨hk,h3⟩]
        push_cast
        grind
      · rw [if_neg (by omega),show (ovN m M2).getD (k - n) 0=0 by rw [List.getD_eq_getElem?_getD,List.getElem?_eq_none (by omega)];rfl]
        push_cast
        grind
    · rw [if_neg hk,if_neg (by omega)]
      push_cast
      grind
theorem qpg {l m:List Nu} {M1 M2:Int} {n:Nat} (h1:Ov l M1) (h2:Ov m M2):qap (qr0 l m M1 M2 n):=by
  intro q hq
  obtain ⟨k,_,rfl⟩:=List.mem_map.mp hq
  exact qdp (Int.mul_pos h1.1 h2.1)
theorem qr1 {l m:List Nu} {M1 M2:Int} (hl:qap l) (hm:qap m) (h1:Ov l M1) (h2:Ov m M2) (k:Nat):pwo (qr0 l m M1 M2 (l.length+m.length)) k=cv (pwo l) (pwo m) l.length k:=by
  rw [← qqJ hl hm h1 h2]
  have b0:=Int.mul_pos h1.1 h2.1
  by_cases h:k<l.length+m.length
  · have e:qa9 (qr0 l m M1 M2 (l.length+m.length)) k=red (ps (ovN l M1) (ovN m M2) l.length k) (M1*M2):=by
      unfold qr0 qa9
      rw [List.getD_eq_getElem?_getD,List.getElem?_map,List.getElem?_range h]
      rfl
    unfold pwo
    rw [e,qg5 b0]
  · rw [qbd (by unfold qr0;rw [List.length_map,List.length_range];omega),qkN l.length k (by unfold ovN;rw [List.length_map];omega)]
    exact (zdiv _).symm
theorem lcm_dvd {B d M:Int} (hB:0<B) (hd:0<d) (h1:B∣M) (h2:d∣M):B*(d / ((Int.gcd B d:Nat):Int))∣M:=by
  have z:((Nat.lcm B.natAbs d.natAbs:Nat):Int)∣M:=Int.natAbs_dvd_natAbs.mp (by rw [Int.natAbs_natCast];exact Nat.lcm_dvd (Int.natAbs_dvd_natAbs.mpr h1) (Int.natAbs_dvd_natAbs.mpr h2))
  have e:((Nat.lcm B.natAbs d.natAbs:Nat):Int)=B*(d / ((Int.gcd B d:Nat):Int)):=by
    unfold Nat.lcm
    rw [Nat.mul_div_assoc _ (Nat.gcd_dvd_right _ _)]
    push_cast
    rw [show ((B.natAbs:Nat):Int)=B by omega,show ((d.natAbs:Nat):Int)=d by omega]
    rfl
  rw [← e]
  exact z
theorem qi6 {M:Int}:∀ (l:List Nu) (B:Int),(∀ q∈l,0<q.2∧q.2∣M)→0<B→B∣M→0<l.foldl (fun B q=>B*(q.2 / ((Int.gcd B q.2:Nat):Int))) B∧l.foldl (fun B q=>B*(q.2 / ((Int.gcd B q.2:Nat):Int))) B∣M
  | [],B,_,hB,h=>⟨hB,h⟩
  | q::l,B,hq,hB,h=>by
    obtain ⟨q0,qd⟩:=hq q (List.mem_cons_self ..)
    obtain ⟨s1,_⟩:=qi2 hB q0
    exact qi6 l _ (fun r hr=>hq r (List.mem_cons_of_mem _ hr)) s1 (lcm_dvd hB q0 h qd)
theorem qdz {n:Nat} {a b:Int} (hb:b≠0) (h:a∣b) (bd:Bd n b):Bd n a:=bd.le (Nat.le_of_dvd (by omega) (Int.natAbs_dvd_natAbs.mpr h))
theorem qbe {l:List Nu} (hl:qap l):Ov l (qbv l):=by
  obtain ⟨a,b,_⟩:=qi3 (b:=(l.foldl (fun n q=>n+q.1.natAbs+q.2.natAbs) 1)) hl (fun q hq=>by
    have big:∀ (l:List Nu) (n:Nat),n≤l.foldl (fun n q=>n+q.1.natAbs+q.2.natAbs) n∧∀ q∈l,q.1.natAbs+q.2.natAbs≤l.foldl (fun n q=>n+q.1.natAbs+q.2.natAbs) n:=by
      intro l
      induction l with
      | nil=>intro n;exact ⟨Nat.le_refl _,fun _ h=>nomatch h⟩
      | cons r l ih=>
        intro n
        obtain ⟨i1,i2⟩:=ih (n+r.1.natAbs+r.2.natAbs)
        rw [List.foldl_cons]
        refine ⟨by omega,fun q hq=>?_⟩
        rcases List.mem_cons.mp hq with rfl | hq
        · omega
        · exact i2 q hq
    have z:=(big l 1).2 q hq
    exact ⟨Nat.lt_of_le_of_lt (by omega) (Nat.lt_two_pow_self),Nat.lt_of_le_of_lt (by omega) (Nat.lt_two_pow_self)⟩)
  exact ⟨a,b⟩
theorem qlM {l:List Nu} {M:Int} (hl:qap l) (h:Ov l M):qbv l∣M:=(qi6 l 1 (fun q hq=>⟨(hl q hq).pos,h.2 q hq⟩) (by decide) (Int.one_dvd M)).2
theorem qi7 (l:List Nu):qa6 l=ovN l (qbv l):=rfl
end Bs
namespace Bs
section
variable {α:Type} [Lean.Grind.CommRing α]
noncomputable def cvL:List α→(Nat→α)→Nat→α
  | [],_,_=>0
  | x::a,b,k=>x*b k+(match k with | 0=>0 | k+1=>cvL a b k)
theorem qaD (b:Nat→α) (k:Nat):cvL [] b k=0:=rfl
theorem qat (x:α) (a:List α) (b:Nat→α):cvL (x::a) b 0=x*b 0+0:=rfl
theorem qao (x:α) (a:List α) (b:Nat→α) (k:Nat):cvL (x::a) b (k+1)=x*b (k+1)+cvL a b k:=rfl
theorem qas {b c:Nat→α} (h:∀ k,b k=c k):∀ (a:List α) (k:Nat),cvL a b k=cvL a c k
  | [],_=>rfl
  | x::a,0=>by rw [qat,qat,h 0]
  | x::a,k+1=>by rw [qao,qao,h (k+1),qas h a k]
theorem qdP (b c:Nat→α):∀ (a:List α) (k:Nat),cvL a (fun k=>b k+c k) k=cvL a b k+cvL a c k
  | [],_=>by rw [qaD,qaD,qaD];grind
  | x::a,0=>by rw [qat,qat,qat];grind
  | x::a,k+1=>by rw [qao,qao,qao,qdP b c a k];grind
theorem qbl (s:α) (b:Nat→α):∀ (a:List α) (k:Nat),cvL a (fun k=>s*b k) k=s*cvL a b k
  | [],_=>by rw [qaD,qaD];grind
  | x::a,0=>by rw [qat,qat];grind
  | x::a,k+1=>by rw [qao,qao,qbl s b a k];grind
noncomputable def up1 (b:Nat→α):Nat→α
  | 0=>0
  | k+1=>b k
theorem qnP (b:Nat→α):∀ (a:List α) (k:Nat),cvL a (up1 b) k=up1 (cvL a b) k
  | [],0=>rfl
  | [],k+1=>rfl
  | x::a,0=>by rw [qat];show x*0+0=0;grind
  | x::a,1=>by
    rw [qao]
    have h:=qnP b a 0
    rw [h]
    show x*b 0+0=cvL (x::a) b 0
    rw [qat]
  | x::a,k+2=>by
    rw [qao,qnP b a (k+1)]
    show x*b (k+1)+cvL a b k=cvL (x::a) b (k+1)
    rw [qao]
theorem qdc (x:α) (a:List α) (b:Nat→α) (k:Nat):cvL (x::a) b k=x*b k+up1 (cvL a b) k:=by
  cases k with
  | zero=>exact qat x a b
  | succ k=>exact qao x a b k
theorem qeJ (c:Nat→α):∀ (a b:List α) (k:Nat),cvL a (cvL b c) k=cvL b (cvL a c) k
  | [],b,k=>by
    rw [qaD]
    have e:cvL b (cvL [] c) k=cvL b (fun k=>0*c k) k:=qas (fun k=>by rw [qaD];grind) b k
    rw [e,qbl]
    grind
  | x::a,b,k=>by
    rw [qdc]
    have e:cvL b (cvL (x::a) c) k=cvL b (fun k=>x*c k+up1 (cvL a c) k) k:=qas (fun k=>qdc x a c k) b k
    rw [e,qdP,qbl,qnP]
    have e2:up1 (cvL a (cvL b c)) k=up1 (cvL b (cvL a c)) k:=by
      cases k with
      | zero=>rfl
      | succ k=>exact qeJ c a b k
    rw [e2]
noncomputable def qcb:Nat→α
  | 0=>1
  | _+1=>0
theorem qce:∀ (a:List α) (k:Nat),cvL a qcb k=a.getD k 0
  | [],k=>by rw [qaD];simp
  | x::a,0=>by rw [qat];show x*1+0=x;grind
  | x::a,k+1=>by
    rw [qao,qce a k]
    show x*0+a.getD k 0=(x::a).getD (k+1) 0
    rw [List.getD_cons_succ]
    grind
end
end Bs
namespace Bs
theorem qkP {n k:Nat}:k∣2 ^ n↔∃ a,a≤n∧k=2 ^ a:=by
  constructor
  · induction n generalizing k with
    | zero=>intro h;exact ⟨0,Nat.le_refl 0,by simpa using h⟩
    | succ n ih=>
      intro h
      by_cases h2:2∣k
      · obtain ⟨j,rfl⟩:=h2
        rw [Nat.pow_succ,Nat.mul_comm (2 ^ n) 2] at h
        obtain ⟨a,ha,e⟩:=ih (Nat.dvd_of_mul_dvd_mul_left (by decide) h)
        exact ⟨a+1,by omega,by rw [e,Nat.pow_succ,Nat.mul_comm]⟩
      · have c:Nat.Coprime k 2:=by
          have:Nat.gcd k 2∣2:=Nat.gcd_dvd_right k 2
          have h3:=Nat.le_of_dvd (by decide) this
          have h4:Nat.gcd k 2≠2:=fun z=>h2 (by rw [← z];exact Nat.gcd_dvd_left k 2)
          have h5:Nat.gcd k 2≠0:=fun z=>by have:=Nat.eq_zero_of_gcd_eq_zero_right z;omega
          show Nat.gcd k 2=1
          omega
        rw [Nat.pow_succ] at h
        obtain ⟨a,ha,e⟩:=ih (c.dvd_of_dvd_mul_right h)
        exact ⟨a,by omega,e⟩
  · rintro ⟨a,ha,rfl⟩
    exact Nat.pow_dvd_pow 2 ha
structure Pr (p:Nat):Prop where
  two:2≤p
  div:∀ d,d∣p→d=1∨d=p
theorem Pr.cop {p:Nat} (h:Pr p) {a:Nat} (ha:¬ p∣a):Nat.gcd a p=1:=by
  rcases h.div _ (Nat.gcd_dvd_right a p) with e | e
  · exact e
  · exact absurd (e ▸ Nat.gcd_dvd_left a p) ha
theorem Pr.mul {p:Nat} (h:Pr p) {a b:Nat} (hd:p∣a*b):p∣a∨p∣b:=by
  by_cases ha:p∣a
  · exact .inl ha
  · refine .inr (Nat.Coprime.dvd_of_dvd_mul_left (k:=p) (m:=a) ?_ hd)
    have:=h.cop ha
    rw [Nat.gcd_comm] at this
    exact this
theorem Pr.mulI {p:Nat} (h:Pr p) {a b:Int} (hd:(p:Int)∣a*b):(p:Int)∣a∨(p:Int)∣b:=by
  have z:=Int.natAbs_dvd_natAbs.mpr hd
  rw [Int.natAbs_mul,Int.natAbs_natCast] at z
  rcases h.mul z with e | e
  · exact .inl (Int.natAbs_dvd_natAbs.mp (by rw [Int.natAbs_natCast];exact e))
  · exact .inr (Int.natAbs_dvd_natAbs.mp (by rw [Int.natAbs_natCast];exact e))
theorem qj2 {m:Nat} (hm:2≤m):∃ q,Pr q∧q∣m∧(q=m∨q*q≤m):=by
  have key:∀ n d,2≤d→(∀ e,2≤e→e<d→¬ e∣m)→m=d+n→∃ q,2≤q∧q∣m∧∀ e,2≤e→e<q→¬ e∣m:=by
    intro n
    induction n with
    | zero=>intro d hd h e;exact ⟨d,hd,by rw [e];exact Nat.dvd_refl _,h⟩
    | succ n ih=>
      intro d hd h e
      by_cases hdm:d∣m
      · exact ⟨d,hd,hdm,h⟩
      · refine ih (d+1) (by omega) (fun x hx hx2=>?_) (by omega)
        by_cases hxd:x=d
        · rw [hxd];exact hdm
        · exact h x hx (by omega)
  obtain ⟨q,q2,qm,ql⟩:=key (m - 2) 2 (Nat.le_refl 2) (fun e h1 h2=>absurd h2 (by omega)) (by omega)
  refine ⟨q,⟨q2,fun d hd=>?_⟩,qm,?_⟩
  · by_cases h2:2≤d
    · right
      rcases Nat.lt_or_ge d q with h | h
      · exact absurd (Nat.dvd_trans hd qm) (ql d h2 h)
      · exact Nat.le_antisymm (Nat.le_of_dvd (by omega) hd) h
    · left
      have:d≠0:=fun z=>by rw [z] at hd;have:=Nat.eq_zero_of_zero_dvd hd;omega
      omega
  · obtain ⟨k,hk⟩:=qm
    by_cases k1:k≤1
    · left
      have:k=1:=by
        rcases Nat.eq_zero_or_pos k with z | z
        · rw [z] at hk;omega
        · omega
      rw [hk,this,Nat.mul_one]
    · right
      rcases Nat.lt_or_ge k q with h | h
      · exact absurd ⟨q,by rw [hk,Nat.mul_comm]⟩ (ql k (by omega) h)
      · rw [hk];exact Nat.mul_le_mul_left q h
theorem pigeon:∀ (n m:Nat) (f:Nat→Nat),(∀ i,i<m→f i<n)→(∀ i j,i<m→j<m→f i=f j→i=j)→m≤n
  | 0,m,f,h,_=>by
    rcases Nat.eq_zero_or_pos m with z | z
    · omega
    · exact absurd (h 0 z) (by omega)
  | n+1,0,_,_,_=>by omega
  | n+1,m+1,f,h,inj=>by
    have:=pigeon n m (fun i=>if f i=n then f m else f i) (fun i hi=>by
      show (if f i=n then f m else f i)<n
      by_cases e:f i=n
      · rw [if_pos e]
        have h1:=h m (Nat.lt_succ_self m)
        have:f m≠n:=fun z=>absurd (inj i m (by omega) (by omega) (by rw [e,z])) (by omega)
        omega
      · rw [if_neg e]
        have h1:=h i (by omega)
        omega) (fun i j hi hj e=>by
      have e:(if f i=n then f m else f i)=(if f j=n then f m else f j):=e
      by_cases ei:f i=n
      · rw [if_pos ei] at e
        by_cases ej:f j=n
        · exact inj i j (by omega) (by omega) (by rw [ei,ej])
        · rw [if_neg ej] at e
          exact absurd (inj m j (by omega) (by omega) e) (by omega)
      · rw [if_neg ei] at e
        by_cases ej:f j=n
        · rw [if_pos ej] at e
          exact absurd (inj i m (by omega) (by omega) e) (by omega)
        · rw [if_neg ej] at e
          exact inj i j (by omega) (by omega) e)
    omega
noncomputable abbrev Rt:=Int×Int
noncomputable def rmul (q:Int) (x y:Rt):Rt:=((x.1*y.1+3*(x.2*y.2)) % q,(x.1*y.2+x.2*y.1) % q)
noncomputable def rpow (q:Int):Nat→Rt
  | 0=>(1 % q,0 % q)
  | n+1=>rmul q (2,1) (rpow q n)
theorem qb2 {q a b c:Int} (h:a - b=q*c):a % q=b % q:=by
  have:a=b+q*c:=by omega
  rw [this,Int.add_mul_emod_self_left]
theorem em {a q:Int}:∃ c,a % q=a - q*c:=⟨a / q,by have:=Int.emod_add_mul_ediv a q;omega⟩
theorem qcL (q:Int) (x y z:Rt):rmul q (rmul q x y) z=rmul q x (rmul q y z):=by
  obtain ⟨a,b⟩:=x
  obtain ⟨c,d⟩:=y
  obtain ⟨e,f⟩:=z
  obtain ⟨c1,h1⟩:=em (a:=a*c+3*(b*d)) (q:=q)
  obtain ⟨c2,h2⟩:=em (a:=a*d+b*c) (q:=q)
  obtain ⟨c3,h3⟩:=em (a:=c*e+3*(d*f)) (q:=q)
  obtain ⟨c4,h4⟩:=em (a:=c*f+d*e) (q:=q)
  refine Prod.ext ?_ ?_
  · show ((a*c+3*(b*d)) % q*e+3*((a*d+b*c) % q*f)) % q=(a*((c*e+3*(d*f)) % q)+3*(b*((c*f+d*e) % q))) % q
    rw [h1,h2,h3,h4]
    exact qb2 (c:=a*c3+3*b*c4 - c1*e - 3*c2*f) (by grind)
  · show ((a*c+3*(b*d)) % q*f+((a*d+b*c) % q*e)) % q=(a*((c*f+d*e) % q)+(b*((c*e+3*(d*f)) % q))) % q
    rw [h1,h2,h3,h4]
    exact qb2 (c:=a*c4+b*c3 - c1*f - c2*e) (by grind)
theorem qnQ (q:Int) (x y:Rt):rmul q x y=rmul q y x:=by
  refine Prod.ext ?_ ?_
  · show (x.1*y.1+3*(x.2*y.2)) % q=(y.1*x.1+3*(y.2*x.2)) % q
    congr 1;grind
  · show (x.1*y.2+x.2*y.1) % q=(y.1*x.2+y.2*x.1) % q
    congr 1;grind
noncomputable def rn (q:Int) (x:Rt):Prop:=x.1 % q=x.1∧x.2 % q=x.2
theorem qqK (q:Int) (x y:Rt):rn q (rmul q x y):=⟨Int.emod_emod ..,Int.emod_emod ..⟩
theorem qe7 (q:Int):∀ n,rn q (rpow q n)
  | 0=>⟨Int.emod_emod ..,Int.emod_emod ..⟩
  | _+1=>qqK q _ _
theorem rone (q:Int) {x:Rt} (h:rn q x):rmul q (rpow q 0) x=x:=by
  obtain ⟨c1,h1⟩:=em (a:=1) (q:=q)
  obtain ⟨c2,h2⟩:=em (a:=0) (q:=q)
  refine Prod.ext ?_ ?_
  · show (1 % q*x.1+3*(0 % q*x.2)) % q=x.1
    rw [h1,h2,← h.1]
    rw [qb2 (b:=x.1 % q) (c:=- c1*(x.1 % q) - 3*c2*x.2) (by grind),Int.emod_emod]
  · show (1 % q*x.2+0 % q*x.1) % q=x.2
    rw [h1,h2,← h.2]
    rw [qb2 (b:=x.2 % q) (c:=- c1*(x.2 % q) - c2*x.1) (by grind),Int.emod_emod]
theorem qdQ (q:Int):∀ m n,rpow q (m+n)=rmul q (rpow q m) (rpow q n)
  | 0,n=>by rw [Nat.zero_add,rone q (qe7 q n)]
  | m+1,n=>by
    rw [Nat.succ_add]
    show rmul q (2,1) (rpow q (m+n))=rmul q (rmul q (2,1) (rpow q m)) (rpow q n)
    rw [qdQ q m n,qcL]
noncomputable def rinv (q:Int):Nat→Rt
  | 0=>(1 % q,0 % q)
  | n+1=>rmul q (2,-1) (rinv q n)
theorem r21 (q:Int):rmul q (2,-1) (2,1)=rpow q 0:=by
  refine Prod.ext ?_ ?_
  · show (2*2+3*(-1*1)) % q=1 % q;rfl
  · show (2*1 + -1*2) % q=0 % q;rfl
theorem qlN (q:Int):∀ n,rmul q (rinv q n) (rpow q n)=rpow q 0
  | 0=>rone q (qe7 q 0)
  | n+1=>by
    show rmul q (rmul q (2,-1) (rinv q n)) (rmul q (2,1) (rpow q n))=_
    rw [qcL,← qcL q (rinv q n),qnQ q (rinv q n) (2,1),qcL q (2,1),qlN q n,← qcL,r21,rone q (qe7 q 0)]
theorem qi8 (q:Int) {m:Nat} (h:rpow q m=rpow q 0):∀ k,rpow q (m*k)=rpow q 0
  | 0=>rfl
  | k+1=>by rw [Nat.mul_succ,qdQ,qi8 q h k,h,rone q (qe7 q 0)]
theorem rord (q:Int) {n:Nat} (h1:rpow q (2 ^ (n+1))=rpow q 0) (h2:rpow q (2 ^ n)≠rpow q 0):∀ d,0<d→d<2 ^ (n+1)→rpow q d≠rpow q 0:=by
  intro d
  induction d using Nat.strongRecOn with
  | _ d ih=>
  intro d0 hd e
  have hr:=Nat.mod_lt (2 ^ (n+1)) d0
  have er:rpow q (2 ^ (n+1) % d)=rpow q 0:=by
    have e1:=Nat.div_add_mod (2 ^ (n+1)) d
    rw [← e1,qdQ,qi8 q e,rone q (qe7 q _)] at h1
    exact h1
  rcases Nat.eq_zero_or_pos (2 ^ (n+1) % d) with z | z
  · obtain ⟨k,hk⟩:=Nat.dvd_of_mod_eq_zero z
    obtain ⟨a,ha,hka⟩:=(qkP (n:=n+1) (k:=d)).mp ⟨k,hk⟩
    have hlt:a≤n:=by
      rcases Nat.lt_or_ge n a with h | h
      · exfalso
        have:a=n+1:=by omega
        rw [this] at hka
        omega
      · exact h
    apply h2
    have e2:2 ^ n=d*2 ^ (n - a):=by rw [hka,← Nat.pow_add];congr 1;omega
    rw [e2]
    exact qi8 q e _
  · exact ih _ hr z (by omega) er
theorem rnorm (q:Int):∀ n,∃ c,(rpow q n).1*(rpow q n).1 - 3*((rpow q n).2*(rpow q n).2) - 1=q*c
  | 0=>by
    obtain ⟨c1,h1⟩:=em (a:=1) (q:=q)
    obtain ⟨c2,h2⟩:=em (a:=0) (q:=q)
    refine ⟨-2*c1+q*c1*c1 - 3*q*c2*c2,?_⟩
    show (1 % q)*(1 % q) - 3*((0 % q)*(0 % q)) - 1=_
    rw [h1,h2];grind
  | n+1=>by
    obtain ⟨c,hc⟩:=rnorm q n
    obtain ⟨c1,h1⟩:=em (a:=2*(rpow q n).1+3*(1*(rpow q n).2)) (q:=q)
    obtain ⟨c2,h2⟩:=em (a:=2*(rpow q n).2+1*(rpow q n).1) (q:=q)
    have e1:(rpow q (n+1)).1=2*(rpow q n).1+3*(1*(rpow q n).2) - q*c1:=h1
    have e2:(rpow q (n+1)).2=2*(rpow q n).2+1*(rpow q n).1 - q*c2:=h2
    rw [e1,e2]
    generalize (rpow q n).1=a at *
    generalize (rpow q n).2=b at *
    exact ⟨c - 2*c1*(2*a+3*b)+q*c1*c1+6*c2*(2*b+a) - 3*q*c2*c2,by grind⟩
theorem qqL (q:Int) (n:Nat):∃ c,2*(rpow q (n+n)).1=(2*(rpow q n).1)*(2*(rpow q n).1) - 2+q*c:=by
  obtain ⟨c,hc⟩:=rnorm q n
  rw [qdQ]
  obtain ⟨c1,h1⟩:=em (a:=(rpow q n).1*(rpow q n).1+3*((rpow q n).2*(rpow q n).2)) (q:=q)
  refine ⟨-2*c1 - 2*c,?_⟩
  show 2*(((rpow q n).1*(rpow q n).1+3*((rpow q n).2*(rpow q n).2)) % q)=_
  rw [h1];grind
noncomputable def ll (M:Nat):Nat→Nat→Nat
  | 0,s=>s
  | k+1,s=>ll M k ((s*s+(M - 2)) % M)
theorem qnR {q:Int} {M:Nat} (hM:2≤M) (hq:q∣(M:Int)):∀ (k t s:Nat),q∣2*(rpow q (2 ^ t)).1 - (s:Int)→q∣2*(rpow q (2 ^ (t+k))).1 - (ll M k s:Int)
  | 0,t,s,h=>h
  | k+1,t,s,h=>by
    have:=qnR hM hq k (t+1) ((s*s+(M - 2)) % M) (by
      obtain ⟨c,hc⟩:=qqL q (2 ^ t)
      obtain ⟨d,hd⟩:=h
      obtain ⟨m,hm⟩:=hq
      have e:(2:Nat) ^ (t+1)=2 ^ t+2 ^ t:=by rw [Nat.pow_succ];omega
      rw [e,hc]
      have z:(((s*s+(M - 2)) % M:Nat):Int)=(s:Int)*s+(M - 2) - M*(((s*s+(M - 2)) / M:Nat):Int):=by
        have:=Nat.mod_add_div (s*s+(M - 2)) M
        have z2:(((s*s+(M - 2)) % M:Nat):Int)+(M:Int)*(((s*s+(M - 2)) / M:Nat):Int)=(s:Int)*s+(M - 2):=by
          have:=congrArg (fun x:Nat=>(x:Int)) this
          simp only [Int.natCast_add,Int.natCast_mul] at this
          rw [this,Int.natCast_sub hM]
          rfl
        omega
      rw [z]
      generalize (((s*s+(M - 2)) / M:Nat):Int)=w
      generalize (rpow q (2 ^ t)).1=a at hd
      have hd':2*a=s+q*d:=by omega
      rw [hd',hm]
      exact ⟨2*s*d+q*d*d+c - m+m*w,by grind⟩)
    rw [show t+(k+1)=t+1+k by omega]
    exact this
theorem qph {n:Nat} (h:ll (2 ^ (n+2) - 1) n 4 % (2 ^ (n+2) - 1)=0):Pr (2 ^ (n+2) - 1):=by
  have big:4≤2 ^ (n+2):=by rw [Nat.pow_add];have:=Nat.one_le_two_pow (n:=n);omega
  generalize hM:2 ^ (n+2) - 1=M at h ⊢
  obtain ⟨q,pq,qM,hq⟩:=qj2 (m:=M) (by omega)
  rcases hq with e | hq
  · rw [← e];exact pq
  exfalso
  have qI:(q:Int)∣(M:Int):=Int.natCast_dvd_natCast.mpr qM
  have q2:=pq.two
  have odd:q≠2:=fun z=>by
    rw [z] at qM
    have:2 ^ (n+2)=2*2 ^ (n+1):=by rw [Nat.pow_succ 2 (n+1)];omega
    omega
  have s0:(q:Int)∣2*(rpow q (2 ^ (0+n))).1 - (ll M n 4:Int):=qnR (by omega) qI n 0 4 (by
    show (q:Int)∣2*(rmul q (2,1) (rpow q 0)).1 - 4
    obtain ⟨c1,h1⟩:=em (a:=1) (q:=(q:Int))
    obtain ⟨c2,h2⟩:=em (a:=0) (q:=(q:Int))
    show (q:Int)∣2*((2*(1 % (q:Int))+3*(1*(0 % (q:Int)))) % (q:Int)) - 4
    obtain ⟨c3,h3⟩:=em (a:=2*(1 % (q:Int))+3*(1*(0 % (q:Int)))) (q:=(q:Int))
    rw [h3,h1,h2]
    exact ⟨-4*c1 - 6*c2 - 2*c3,by grind⟩)
  have s1:(q:Int)∣(ll M n 4:Int):=Int.natCast_dvd_natCast.mpr (Nat.dvd_trans qM (Nat.dvd_of_mod_eq_zero h))
  have s2:(q:Int)∣2*(rpow q (2 ^ n)).1:=by
    have:=Int.dvd_add s0 s1
    rw [Nat.zero_add] at this
    rw [Int.sub_add_cancel] at this
    exact this
  have s3:(q:Int)∣(rpow q (2 ^ n)).1:=by
    rcases pq.mulI s2 with z | z
    · exfalso
      have z2:=Int.natCast_dvd_natCast.mp (show (q:Int)∣((2:Nat):Int) from z)
      have:=Nat.le_of_dvd (by decide) z2
      omega
    · exact z
  have qne:(q:Int)≠0:=by omega
  have m1:rpow q (2 ^ (n+1))=((-1) % (q:Int),0 % (q:Int)):=by
    have e:(2:Nat) ^ (n+1)=2 ^ n+2 ^ n:=by rw [Nat.pow_succ];omega
    rw [e,qdQ]
    obtain ⟨c,hc⟩:=rnorm q (2 ^ n)
    obtain ⟨d,hd⟩:=s3
    refine Prod.ext ?_ ?_
    · show ((rpow q (2 ^ n)).1*(rpow q (2 ^ n)).1+3*((rpow q (2 ^ n)).2*(rpow q (2 ^ n)).2)) % (q:Int)=(-1) % (q:Int)
      refine qb2 (c:=2*q*d*d - c) ?_
      generalize (rpow q (2 ^ n)).2=b at *
      rw [hd] at hc ⊢
      grind
    · show ((rpow q (2 ^ n)).1*(rpow q (2 ^ n)).2+(rpow q (2 ^ n)).2*(rpow q (2 ^ n)).1) % (q:Int)=0 % (q:Int)
      refine qb2 (c:=2*d*(rpow q (2 ^ n)).2) ?_
      rw [hd];grind
  have h2:rpow q (2 ^ (n+1))≠rpow q 0:=fun z=>by
    rw [m1] at z
    have z1:(-1) % (q:Int)=1 % (q:Int):=congrArg Prod.fst z
    have z2:(q:Int)∣-1 - 1:=Int.dvd_of_emod_eq_zero ((Int.emod_eq_emod_iff_emod_sub_eq_zero).mp z1)
    have z3:=Int.natAbs_dvd_natAbs.mpr z2
    have:=Nat.le_of_dvd (by decide) z3
    rw [Int.natAbs_natCast] at this
    have:(-1 - 1:Int).natAbs=2:=by decide
    omega
  have h1:rpow q (2 ^ (n+1+1))=rpow q 0:=by
    have e:(2:Nat) ^ (n+1+1)=2 ^ (n+1)+2 ^ (n+1):=by rw [Nat.pow_succ 2 (n+1)];omega
    rw [e,qdQ,m1]
    obtain ⟨c1,e1⟩:=em (a:=-1) (q:=(q:Int))
    obtain ⟨c2,e2⟩:=em (a:=0) (q:=(q:Int))
    refine Prod.ext ?_ ?_
    · show ((-1) % (q:Int)*((-1) % (q:Int))+3*(0 % (q:Int)*(0 % (q:Int)))) % (q:Int)=1 % (q:Int)
      refine qb2 (c:=2*c1+q*c1*c1+3*q*c2*c2) ?_
      rw [e1,e2];grind
    · show ((-1) % (q:Int)*(0 % (q:Int))+0 % (q:Int)*((-1) % (q:Int))) % (q:Int)=0 % (q:Int)
      refine qb2 (c:=2*c2+2*q*c1*c2) ?_
      rw [e1,e2];grind
  have ord:=rord (q:Int) h1 h2
  have ne:∀ i d,0<d→i+d<2 ^ (n+2)→rpow q i≠rpow q (i+d):=fun i d d0 hd z=>by
    have e:rpow q d=rpow q 0:=by
      have a:=qlN (q:Int) i
      have b:rmul q (rinv q i) (rpow q (i+d))=rpow q d:=by
        rw [qdQ,← qcL,a,rone _ (qe7 _ _)]
      rw [← b,← z,a]
    exact ord d d0 (by have:(2:Nat) ^ (n+1+1)=2 ^ (n+2):=rfl;omega) e
  have lt:∀ i,0≤(rpow q i).1∧(rpow q i).1<q∧0≤(rpow q i).2∧(rpow q i).2<q:=fun i=>by
    obtain ⟨a,b⟩:=qe7 (q:Int) i
    have p0:(0:Int)<q:=by omega
    have u1:=Int.emod_nonneg (rpow q i).1 qne
    have u2:=Int.emod_lt_of_pos (rpow q i).1 p0
    have u3:=Int.emod_nonneg (rpow q i).2 qne
    have u4:=Int.emod_lt_of_pos (rpow q i).2 p0
    rw [a] at u1 u2
    rw [b] at u3 u4
    exact ⟨u1,u2,u3,u4⟩
  have pg:=pigeon (q*q) (2 ^ (n+2)) (fun i=>(rpow q i).1.toNat*q+(rpow q i).2.toNat) (fun i _=>by
    obtain ⟨a,b,c,d⟩:=lt i
    have a':(rpow q i).1.toNat+1≤q:=by omega
    have d':(rpow q i).2.toNat<q:=by omega
    have:=Nat.mul_le_mul_right q a'
    rw [Nat.add_mul,Nat.one_mul] at this
    show (rpow q i).1.toNat*q+(rpow q i).2.toNat<q*q
    omega) (fun i j hi hj e=>by
    have e:(rpow q i).1.toNat*q+(rpow q i).2.toNat=(rpow q j).1.toNat*q+(rpow q j).2.toNat:=e
    obtain ⟨a,b,c,d⟩:=lt i
    obtain ⟨a',b',c',d'⟩:=lt j
    have m1:=congrArg (· % q) e
    have m2:=congrArg (· / q) e
    simp only [Nat.mul_comm _ q,Nat.mul_add_mod,Nat.mul_add_div (show 0<q by omega)] at m1 m2
    rw [Nat.mod_eq_of_lt (by omega),Nat.mod_eq_of_lt (by omega)] at m1
    rw [Nat.div_eq_of_lt (by omega),Nat.div_eq_of_lt (by omega)] at m2
    have ee:rpow q i=rpow q j:=Prod.ext (by omega) (by omega)
    rcases Nat.lt_trichotomy i j with h | h | h
    · exact absurd ee (by have:=ne i (j - i) (by omega) (by omega);rw [show i+(j - i)=j by omega] at this;exact this)
    · exact h
    · exact absurd ee.symm (by have:=ne j (i - j) (by omega) (by omega);rw [show j+(i - j)=i by omega] at this;exact this))
  omega
end Bs
namespace Bs
noncomputable def llk (M k s:Nat):Nat:=Nat.rec (motive:=fun _=>Nat→Nat) (fun s=>s) (fun _ ih s=>ih ((s*s+(M - 2)) % M)) k s
noncomputable def llf (x:Nat) (f:Nat→Nat):Nat:=Nat.rec (motive:=fun _=>Nat) (f 0) (fun n _=>f (n+1)) x
noncomputable def llo (M k j s:Nat):Nat:=Nat.rec (motive:=fun _=>Nat→Nat) (fun s=>s) (fun _ ih s=>llf (llk M k s) ih) j s
theorem qnS (M:Nat):∀ k s,llk M k s=ll M k s
  | 0,_=>rfl
  | k+1,s=>qnS M k _
theorem qp5 (x:Nat) (f:Nat→Nat):llf x f=f x:=by cases x <;> rfl
theorem qnT (M:Nat):∀ a b s,ll M (a+b) s=ll M b (ll M a s)
  | 0,b,s=>by rw [Nat.zero_add];rfl
  | a+1,b,s=>by rw [Nat.succ_add];exact qnT M a b _
theorem qp6 (M k:Nat):∀ j s,llo M k j s=ll M (k*j) s
  | 0,_=>rfl
  | j+1,s=>by
    show llf (llk M k s) (llo M k j)=_
    rw [qp5,qnS,qp6 M k j,← qnT]
    congr 1
    rw [Nat.mul_succ,Nat.add_comm]
noncomputable def mers (e:Nat):Nat:=2 ^ e - 1
theorem qdd {n r k j:Nat} (e:n=k*j+r) (h:Nat.beq (llf (llo (mers (n+2)) k j 4) (fun s=>llk (mers (n+2)) r s % mers (n+2))) 0=true):Pr (mers (n+2)):=by
  refine qph ?_
  replace h:=Nat.eq_of_beq_eq_true h
  rw [qp5,qp6,qnS,← qnT,← e] at h
  exact h
theorem qtB:Pr (mers 61):=qdd (n:=59) (r:=9) (k:=10) (j:=5) rfl (by decide +kernel)
theorem qsQ:Pr (mers 127):=qdd (n:=125) (r:=5) (k:=20) (j:=6) rfl (by decide +kernel)
theorem qsR:Pr (mers 521):=qdd (n:=519) (r:=19) (k:=50) (j:=10) rfl (by decide +kernel)
theorem qr2:Pr (mers 1279):=qdd (n:=1277) (r:=77) (k:=100) (j:=12) rfl (by decide +kernel)
theorem qr3:Pr (mers 4423):=qdd (n:=4421) (r:=21) (k:=100) (j:=44) rfl (by decide +kernel)
theorem qr4:Pr (mers 9941):=qdd (n:=9939) (r:=39) (k:=100) (j:=99) rfl (by decide +kernel)
theorem qqM:Pr (mers 21701):=qdd (n:=21699) (r:=99) (k:=150) (j:=144) rfl (by decide +kernel)
theorem qqN:Pr (mers 44497):=qdd (n:=44495) (r:=95) (k:=200) (j:=222) rfl (by decide +kernel)
end Bs
namespace Bs
noncomputable def co (ns:List Int) (k:Nat):Int:=ns.getD k 0
section
variable {α:Type} [Lean.Grind.CommRing α]
noncomputable def qbj:List α→List α→List α
  | [],b=>b
  | a,[]=>a
  | x::a,y::b=>(x+y)::qbj a b
theorem qg6 (a:List α):qbj a []=a:=by cases a <;> rfl
theorem qaz (g:Nat→α):∀ (a b:List α) (k:Nat),cvL (qbj a b) g k=cvL a g k+cvL b g k
  | [],b,k=>by show cvL b g k=0+cvL b g k;grind
  | x::a,[],k=>by rw [qg6,qaD];grind
  | x::a,y::b,0=>by show cvL ((x+y)::qbj a b) g 0=_;rw [qat,qat,qat];grind
  | x::a,y::b,k+1=>by show cvL ((x+y)::qbj a b) g (k+1)=_;rw [qao,qao,qao,qaz g a b k];grind
theorem qav (c:α) (g:Nat→α):∀ (a:List α) (k:Nat),cvL (a.map (c*·)) g k=c*cvL a g k
  | [],k=>by show (0:α)=c*0;grind
  | x::a,0=>by rw [List.map_cons,qat,qat];grind
  | x::a,k+1=>by rw [List.map_cons,qao,qao,qav c g a k];grind
noncomputable def upS (s:Nat) (f:Nat→α) (k:Nat):α:=if s≤k then f (k - s) else 0
theorem qcS (g:Nat→α):∀ (s:Nat) (a:List α) (k:Nat),cvL (List.replicate s 0++a) g k=upS s (cvL a g) k
  | 0,a,k=>by unfold upS;rw [if_pos (Nat.zero_le k)];rfl
  | s+1,a,0=>by unfold upS;rw [if_neg (by omega)];show cvL (0::(List.replicate s 0++a)) g 0=0;rw [qat];grind
  | s+1,a,k+1=>by
    show cvL (0::(List.replicate s 0++a)) g (k+1)=_
    rw [qao,qcS g s a k]
    unfold upS
    by_cases h:s≤k
    · rw [if_pos h,if_pos (by omega),show k+1 - (s+1)=k - s by omega];grind
    · rw [if_neg h,if_neg (by omega)];grind
noncomputable def qaQ:List α→List α→List α
  | [],_=>[]
  | x::a,b=>qbj (b.map (x*·)) (0::qaQ a b)
theorem qaw (g:Nat→α):∀ (a b:List α) (k:Nat),cvL (qaQ a b) g k=cvL a (cvL b g) k
  | [],b,k=>rfl
  | x::a,b,k=>by
    show cvL (qbj (b.map (x*·)) (0::qaQ a b)) g k=_
    rw [qaz,qav,qdc,qdc]
    have e:up1 (cvL (qaQ a b) g) k=up1 (cvL a (cvL b g)) k:=by
      cases k with
      | zero=>rfl
      | succ k=>exact qaw g a b k
    rw [e]
    grind
theorem qbu (g:Nat→α) (s:α):∀ (a:List α) (k:Nat),cvL (a++[s]) g k=cvL a g k+s*upS a.length g k
  | [],0=>by show cvL [s] g 0=0+s*g 0;rw [qat];grind
  | [],k+1=>by show cvL [s] g (k+1)=0+s*g (k+1);rw [qao,qaD];grind
  | x::a,0=>by show cvL (x::(a++[s])) g 0=_;rw [qat,qat];unfold upS;rw [if_neg (by simp)];grind
  | x::a,k+1=>by
    show cvL (x::(a++[s])) g (k+1)=_
    rw [qao,qao,qbu g s a k]
    have e:upS (x::a).length g (k+1)=upS a.length g k:=by
      unfold upS
      rw [List.length_cons]
      by_cases h:a.length≤k
      · rw [if_pos h,if_pos (by omega),show k+1 - (a.length+1)=k - a.length by omega]
      · rw [if_neg h,if_neg (by omega)]
    rw [e];grind
theorem qcn (a:List α) {g:Nat→α} (h:∀ k,g k=0) (k:Nat):cvL a g k=0:=by
  rw [qas (c:=fun k=>0*g k) (fun j=>by rw [h j];grind) a k,qbl]
  grind
end
theorem qco (a:List Int) (k:Nat):co a k=cvL a qcb k:=(qce a k).symm
theorem qbC (a b:List Int) (k:Nat):cvL a (co b) k=cvL b (co a) k:=by
  rw [qas (qco b) a k,qeJ,qas (fun j=>(qco a j).symm) b k]
theorem qaA {a:List Int} {k:Nat} (h:a.length≤k):co a k=0:=by
  unfold co;rw [List.getD_eq_getElem?_getD,List.getElem?_eq_none h];rfl
theorem qb8 {g:Nat→Int} {n:Nat} (h:∀ i,n≤i→g i=0):∀ (a:List Int) (k:Nat),a.length+n≤k+1→cvL a g k=0
  | [],_,_=>rfl
  | x::a,0,hk=>by
    rw [List.length_cons] at hk
    rw [qat,h 0 (by omega)];omega
  | x::a,k+1,hk=>by
    rw [List.length_cons] at hk
    rw [qao,h (k+1) (by omega),qb8 h a k (by omega)];omega
theorem qi9 {p:Int} {g:Nat→Int} {n:Nat} (h:∀ i,n<i→p∣g i):∀ (a:List Int) (k:Nat),a.length+n≤k→p∣cvL a g k
  | [],_,_=>Int.dvd_zero p
  | x::a,0,hk=>absurd hk (by rw [List.length_cons];omega)
  | x::a,k+1,hk=>by
    rw [List.length_cons] at hk
    rw [qao]
    exact Int.dvd_add (Int.dvd_mul_of_dvd_right (h (k+1) (by omega))) (qi9 h a k (by omega))
theorem qfq {p:Nat} (hp:Pr p) {g:Nat→Int} {n:Nat} (h0:¬ (p:Int)∣g n) (h:∀ i,n<i→(p:Int)∣g i) (S:List Int) :
    (∀ k,n≤k→(p:Int)∣cvL S g k)→∀ s∈S,(p:Int)∣s:=by
  induction hl:S.length generalizing S with
  | zero=>intro _ s hs;rw [List.length_eq_zero_iff.mp hl] at hs;exact nomatch hs
  | succ m ih=>
    intro hk
    have ne:S≠[]:=fun z=>by rw [z] at hl;simp at hl
    obtain ⟨T,t,rfl⟩:∃ T t,S=T++[t]:=⟨S.dropLast,S.getLast ne,(List.dropLast_concat_getLast ne).symm⟩
    have hT:T.length=m:=by simpa using hl
    have ht:(p:Int)∣t:=by
      have a:=hk (T.length+n) (by omega)
      rw [qbu] at a
      have b:=qi9 h T (T.length+n) (Nat.le_refl _)
      have c:(p:Int)∣t*upS T.length g (T.length+n):=by
        have:=Int.dvd_sub a b
        rwa [show ∀ x y:Int,x+y - x=y by intro x y;omega] at this
      unfold upS at c
      rw [if_pos (by omega),show T.length+n - T.length=n by omega] at c
      rcases hp.mulI c with z | z
      · exact z
      · exact absurd z h0
    have hT2:=ih T hT (fun k hk2=>by
      have a:=hk k hk2
      rw [qbu] at a
      have:=Int.dvd_sub a (Int.dvd_mul_of_dvd_left (c:=upS T.length g k) ht)
      rwa [show ∀ x y:Int,x+y - y=x by intro x y;omega] at this)
    intro s hs
    rcases List.mem_append.mp hs with h | h
    · exact hT2 s h
    · rw [List.mem_singleton.mp h];exact ht
noncomputable def Lz (g:List Int):Prop:=0<g.length∧co g (g.length - 1)≠0
noncomputable def QI (r o f:Nat→Int):Prop:=∃ d:Int,d≠0∧∃ U V:List Int,∀ k,d*f k=cvL U r k+cvL V o k
noncomputable def MQ (g f:Nat→Int):Prop:=∃ c:Int,c≠0∧∃ A:List Int,∀ k,c*f k=cvL A g k
theorem QI.congr {r o f h:Nat→Int} (q:QI r o f) (e:∀ k,h k=f k):QI r o h:=by
  obtain ⟨d,d0,U,V,hU⟩:=q
  exact ⟨d,d0,U,V,fun k=>by rw [e k];exact hU k⟩
theorem QI.left (r o:Nat→Int):QI r o r:=⟨1,by decide,[1],[],fun k=>by
  rw [qaD]
  cases k with
  | zero=>rw [qat];omega
  | succ k=>rw [qao,qaD];omega⟩
theorem QI.right (r o:Nat→Int):QI r o o:=⟨1,by decide,[],[1],fun k=>by
  rw [qaD]
  cases k with
  | zero=>rw [qat];omega
  | succ k=>rw [qao,qaD];omega⟩
theorem QI.less {r o f h:Nat→Int} (q:QI r o f) (q':QI r o h) (a w:Int) (s:Nat):QI r o (fun k=>a*f k - w*upS s h k):=by
  obtain ⟨d,d0,U,V,hU⟩:=q
  obtain ⟨d',d0',U',V',hU'⟩:=q'
  refine ⟨d*d',Int.mul_ne_zero d0 d0',qbj (U.map (d'*a*·)) (List.replicate s 0++U'.map (-(d*w)*·)),qbj (V.map (d'*a*·)) (List.replicate s 0++V'.map (-(d*w)*·)),fun k=>?_⟩
  show d*d'*(a*f k - w*upS s h k)=_
  rw [qaz,qaz,qav,qav,qcS,qcS]
  unfold upS
  have e1:=hU k
  by_cases hs:s≤k
  · rw [if_pos hs,if_pos hs,if_pos hs,qav,qav]
    have e2:=hU' (k - s)
    grind
  · rw [if_neg hs,if_neg hs,if_neg hs]
    grind
theorem QI.scal {r o f:Nat→Int} {c:Int} (c0:c≠0) (q:QI r o (fun k=>c*f k)):QI r o f:=by
  obtain ⟨d,d0,U,V,hU⟩:=q
  exact ⟨d*c,Int.mul_ne_zero d0 c0,U,V,fun k=>by rw [← hU k];grind⟩
theorem QI.trans {r o a b f:Nat→Int} (qa:QI r o a) (qb:QI r o b) (q:QI a b f):QI r o f:=by
  obtain ⟨d,d0,U,V,hU⟩:=q
  obtain ⟨d1,d10,U1,V1,h1⟩:=qa
  obtain ⟨d2,d20,U2,V2,h2⟩:=qb
  refine ⟨d1*d2*d,Int.mul_ne_zero (Int.mul_ne_zero d10 d20) d0,qbj ((qaQ U U1).map (d2*·)) ((qaQ V U2).map (d1*·)),qbj ((qaQ U V1).map (d2*·)) ((qaQ V V2).map (d1*·)),fun k=>?_⟩
  rw [qaz,qaz,qav,qav,qav,qav,qaw,qaw,qaw,qaw]
  have e1:d1*cvL U a k=cvL U (cvL U1 r) k+cvL U (cvL V1 o) k:=by
    rw [← qbl,← qdP];exact qas h1 U k
  have e2:d2*cvL V b k=cvL V (cvL U2 r) k+cvL V (cvL V2 o) k:=by
    rw [← qbl,← qdP];exact qas h2 V k
  have e3:=hU k
  grind
theorem MQ.refl (g:Nat→Int):MQ g g:=⟨1,by decide,[1],fun k=>by
  cases k with
  | zero=>rw [qat];omega
  | succ k=>rw [qao,qaD];omega⟩
theorem MQ.zero (g:Nat→Int) {f:Nat→Int} (h:∀ k,f k=0):MQ g f:=⟨1,by decide,[],fun k=>by rw [qaD,h k];rfl⟩
theorem MQ.congr {g f h:Nat→Int} (m:MQ g f) (e:∀ k,h k=f k):MQ g h:=by
  obtain ⟨c,c0,A,hA⟩:=m
  exact ⟨c,c0,A,fun k=>by rw [e k];exact hA k⟩
theorem MQ.less {g f h:Nat→Int} (m:MQ g f) (m':MQ g h) (a w:Int) (s:Nat):MQ g (fun k=>a*f k - w*upS s h k):=by
  obtain ⟨d,d0,U,hU⟩:=m
  obtain ⟨d',d0',U',hU'⟩:=m'
  refine ⟨d*d',Int.mul_ne_zero d0 d0',qbj (U.map (d'*a*·)) (List.replicate s 0++U'.map (-(d*w)*·)),fun k=>?_⟩
  show d*d'*(a*f k - w*upS s h k)=_
  rw [qaz,qav,qcS]
  unfold upS
  have e1:=hU k
  by_cases hs:s≤k
  · rw [if_pos hs,if_pos hs,qav]
    have e2:=hU' (k - s)
    grind
  · rw [if_neg hs,if_neg hs]
    grind
theorem MQ.scal {g f:Nat→Int} {c:Int} (c0:c≠0) (m:MQ g (fun k=>c*f k)):MQ g f:=by
  obtain ⟨d,d0,A,hA⟩:=m
  exact ⟨d*c,Int.mul_ne_zero d0 c0,A,fun k=>by rw [← hA k];grind⟩
theorem MQ.trans {g f h:Nat→Int} (m:MQ g f) (m':MQ f h):MQ g h:=by
  obtain ⟨c,c0,A,hA⟩:=m
  obtain ⟨d,d0,B,hB⟩:=m'
  refine ⟨c*d,Int.mul_ne_zero c0 d0,qaQ B A,fun k=>?_⟩
  rw [qaw]
  have e:c*cvL B f k=cvL B (cvL A g) k:=by rw [← qbl];exact qas hA B k
  rw [← e,← hB k];grind
theorem MQ.of_QI {r o f g:Nat→Int} (m1:MQ g r) (m2:MQ g o) (q:QI r o f):MQ g f:=by
  obtain ⟨d,d0,U,V,hU⟩:=q
  obtain ⟨c,c0,A,hA⟩:=m1
  obtain ⟨e,e0,B,hB⟩:=m2
  refine ⟨c*e*d,Int.mul_ne_zero (Int.mul_ne_zero c0 e0) d0,qbj ((qaQ U A).map (e*·)) ((qaQ V B).map (c*·)),fun k=>?_⟩
  rw [qaz,qav,qav,qaw,qaw]
  have e1:c*cvL U r k=cvL U (cvL A g) k:=by rw [← qbl];exact qas hA U k
  have e2:e*cvL V o k=cvL V (cvL B g) k:=by rw [← qbl];exact qas hB V k
  have e3:=hU k
  grind
theorem QI.of_MQ {r o f h:Nat→Int} (q:QI r o f) (m:MQ f h):QI r o h:=by
  obtain ⟨c,c0,A,hA⟩:=m
  obtain ⟨d,d0,U,V,hU⟩:=q
  refine ⟨d*c,Int.mul_ne_zero d0 c0,qaQ A U,qaQ A V,fun k=>?_⟩
  rw [qaw,qaw]
  have e:d*cvL A f k=cvL A (cvL U r) k+cvL A (cvL V o) k:=by rw [← qbl,← qdP];exact qas hU A k
  rw [← e,← hA k];grind
end Bs
namespace Bs
theorem qe8 {f:List Int} (h:co f (f.length - 1)=0) (k:Nat):co f.dropLast k=co f k:=by
  unfold co at *
  rw [List.getD_eq_getElem?_getD,List.getD_eq_getElem?_getD]
  rw [List.getElem?_dropLast]
  by_cases hk:k<f.length - 1
  · rw [if_pos hk]
  · rw [if_neg hk]
    by_cases e:k=f.length - 1
    · subst e
      rw [List.getD_eq_getElem?_getD] at h
      rw [h];rfl
    · rw [List.getElem?_eq_none (by omega)]
theorem qgl (f:List Int):(∀ k,co f k=0)∨∃ g,Lz g∧g.length≤f.length∧∀ k,co g k=co f k:=by
  induction hn:f.length generalizing f with
  | zero=>exact .inl fun k=>qaA (by omega)
  | succ n ih=>
    by_cases h:co f (f.length - 1)=0
    · rcases ih f.dropLast (by rw [List.length_dropLast];omega) with z | ⟨g,g1,g2,g3⟩
      · exact .inl fun k=>by rw [← qe8 h];exact z k
      · exact .inr ⟨g,g1,by omega,fun k=>by rw [g3,qe8 h]⟩
    · exact .inr ⟨f,⟨by omega,h⟩,by omega,fun _=>rfl⟩
theorem qgC (n:Nat) (F:Nat→Int) (k:Nat):co ((List.range n).map F) k=if k<n then F k else 0:=by
  unfold co
  rw [List.getD_eq_getElem?_getD,List.getElem?_map]
  by_cases h:k<n
  · rw [if_pos h,List.getElem?_range h];rfl
  · rw [if_neg h,List.getElem?_eq_none (by rw [List.length_range];omega)];rfl
structure Gen (r o:Nat→Int) (g:List Int):Prop where
  lz:Lz g
  qi:QI r o (co g)
  len:∀ h,Lz h→QI r o (co h)→g.length≤h.length
  last:∀ h,Lz h→QI r o (co h)→h.length=g.length→(co g (g.length - 1)).natAbs≤(co h (h.length - 1)).natAbs
theorem qr5 {r o:Nat→Int} {f:List Int} (lf:Lz f) (q:QI r o (co f)):∃ g,Gen r o g:=by
  have L:∀ n,(∃ f,f.length=n∧Lz f∧QI r o (co f))→∃ m,(∃ f,f.length=m∧Lz f∧QI r o (co f))∧∀ h,Lz h→QI r o (co h)→m≤h.length:=by
    intro n
    induction n using Nat.strongRecOn with
    | _ n ih=>
      intro hf
      by_cases hx:∃ m,m<n∧∃ f,f.length=m∧Lz f∧QI r o (co f)
      · obtain ⟨m,hm,hx⟩:=hx
        exact ih m hm hx
      · refine ⟨n,hf,fun h lh qh=>?_⟩
        rcases Nat.lt_or_ge h.length n with z | z
        · exact absurd ⟨h.length,z,h,rfl,lh,qh⟩ hx
        · exact z
  obtain ⟨m,⟨f1,e1,l1,q1⟩,hm⟩:=L f.length ⟨f,rfl,lf,q⟩
  have M:∀ n,(∃ f,f.length=m∧Lz f∧QI r o (co f)∧(co f (f.length - 1)).natAbs=n)→∃ g,Gen r o g:=by
    intro n
    induction n using Nat.strongRecOn with
    | _ n ih=>
      rintro ⟨f,fm,lf,qf,fn⟩
      by_cases hx:∃ j,j<n∧∃ f,f.length=m∧Lz f∧QI r o (co f)∧(co f (f.length - 1)).natAbs=j
      · obtain ⟨j,hj,hx⟩:=hx
        exact ih j hj hx
      · refine ⟨f,lf,qf,fun h lh qh=>by rw [fm];exact hm h lh qh,fun h lh qh hl=>?_⟩
        rcases Nat.lt_or_ge (co h (h.length - 1)).natAbs (co f (f.length - 1)).natAbs with z | z
        · exact absurd ⟨_,by omega,h,by omega,lh,qh,rfl⟩ hx
        · exact z
  exact M _ ⟨f1,e1,l1,q1,rfl⟩
theorem Gen.mq {r o:Nat→Int} {g:List Int} (G:Gen r o g):∀ (n:Nat) (f:List Int),f.length≤n→QI r o (co f)→MQ (co g) (co f)
  | 0,f,h,_=>MQ.zero _ fun k=>qaA (by omega)
  | n+1,f,h,q=>by
    rcases qgl f with z | ⟨f1,l1,h1,e1⟩
    · exact MQ.zero _ z
    have q1:QI r o (co f1):=q.congr e1
    have gl:=G.len f1 l1 q1
    refine MQ.congr (f:=co f1) ?_ fun k=>(e1 k).symm
    generalize hs:f1.length - g.length=s
    have g0:=G.lz.1
    let F:List Int:=(List.range (f1.length - 1)).map fun k=>co g (g.length - 1)*co f1 k - co f1 (f1.length - 1)*upS s (co g) k
    have eF:∀ k,co F k=co g (g.length - 1)*co f1 k - co f1 (f1.length - 1)*upS s (co g) k:=fun k=>by
      rw [qgC]
      by_cases hk:k<f1.length - 1
      · rw [if_pos hk]
      · rw [if_neg hk]
        unfold upS
        by_cases hk2:k=f1.length - 1
        · rw [if_pos (by omega),hk2,show f1.length - 1 - s=g.length - 1 by omega];grind
        · rw [qaA (a:=f1) (by omega)]
          by_cases hk3:s≤k
          · rw [if_pos hk3,qaA (a:=g) (k:=k - s) (by omega)];omega
          · rw [if_neg hk3];omega
    have qF:QI r o (co F):=QI.congr (q1.less G.qi (co g (g.length - 1)) (co f1 (f1.length - 1)) s) eF
    have lF:F.length≤n:=by
      have:F.length=f1.length - 1:=by show ((List.range (f1.length - 1)).map _).length=_;rw [List.length_map,List.length_range]
      omega
    have m:=Gen.mq G n F lF qF
    have m2:=MQ.less (MQ.congr m fun k=>(eF k).symm) (MQ.refl (co g)) 1 (-(co f1 (f1.length - 1))) s
    refine MQ.scal (c:=co g (g.length - 1)) G.lz.2 (MQ.congr m2 fun k=>?_)
    show _=1*_ - _*upS s (co g) k
    generalize upS s (co g) k=y
    grind
theorem Gen.prim {r o:Nat→Int} {g:List Int} (G:Gen r o g) {p:Nat} (hp:2≤p):∃ n,¬ (p:Int)∣co g n∧∀ i,n<i→(p:Int)∣co g i:=by
  have key:∀ n,(∀ i,n≤i→(p:Int)∣co g i)→(∀ i,(p:Int)∣co g i)∨∃ n,¬ (p:Int)∣co g n∧∀ i,n<i→(p:Int)∣co g i:=by
    intro n
    induction n with
    | zero=>intro h;exact .inl fun i=>h i (Nat.zero_le i)
    | succ n ih=>
      intro h
      by_cases hd:(p:Int)∣co g n
      · exact ih fun i hi=>by
          by_cases e:i=n
          · rw [e];exact hd
          · exact h i (by omega)
      · exact .inr ⟨n,hd,fun i hi=>h i (by omega)⟩
  rcases key g.length (fun i hi=>by rw [qaA hi];exact Int.dvd_zero _) with h | h
  · exfalso
    let h1:List Int:=g.map (· / (p:Int))
    have e1:∀ k,(p:Int)*co h1 k=co g k:=fun k=>by
      have:co h1 k=co g k / (p:Int):=by
        show (g.map (· / (p:Int))).getD k 0=g.getD k 0 / (p:Int)
        rw [List.getD_eq_getElem?_getD,List.getD_eq_getElem?_getD,List.getElem?_map]
        cases g[k]? with
        | none=>exact (Int.zero_ediv _).symm
        | some z=>rfl
      rw [this,Int.mul_ediv_cancel' (h k)]
    have p0:(p:Int)≠0:=by omega
    have len1:h1.length=g.length:=List.length_map ..
    have ne:co h1 (h1.length - 1)≠0:=fun z=>G.lz.2 (by rw [← e1,← len1,z];omega)
    have l1:Lz h1:=⟨by rw [len1];exact G.lz.1,ne⟩
    have q1:QI r o (co h1):=QI.scal (c:=(p:Int)) p0 (QI.congr G.qi e1)
    have lt:=G.last h1 l1 q1 len1
    have e2:=e1 (g.length - 1)
    rw [← len1] at e2
    rw [len1] at e2 lt
    rw [← e2,Int.natAbs_mul,Int.natAbs_natCast] at lt
    rw [len1] at ne
    have pos:0<(co h1 (g.length - 1)).natAbs:=by omega
    have:=Nat.mul_le_mul_right (co h1 (g.length - 1)).natAbs hp
    omega
  · exact h
theorem Gen.loc {r o:Nat→Int} {g:List Int} (G:Gen r o g) {p:Nat} (hp:Pr p) {f:Nat→Int} (m:MQ (co g) f) :
    ∃ (c:Int) (A:List Int),¬ (p:Int)∣c∧∀ k,c*f k=cvL A (co g) k:=by
  obtain ⟨n,n0,n1⟩:=G.prim hp.two
  obtain ⟨c,c0,A,hA⟩:=m
  have key:∀ (m:Nat) (c:Int) (A:List Int),c.natAbs≤m→c≠0→(∀ k,c*f k=cvL A (co g) k)→∃ (c:Int) (A:List Int),¬ (p:Int)∣c∧∀ k,c*f k=cvL A (co g) k:=by
    intro m
    induction m with
    | zero=>intro c A h h0;omega
    | succ m ih=>
      intro c A h h0 hA
      by_cases hd:(p:Int)∣c
      · have dA:∀ a∈A,(p:Int)∣a:=qfq hp n0 n1 A fun k _=>by rw [← hA k];exact Int.dvd_mul_of_dvd_left hd
        obtain ⟨c',rfl⟩:=hd
        have p2:=hp.two
        have c0':c'≠0:=fun z=>h0 (by rw [z];omega)
        have eA:A=(A.map (· / (p:Int))).map ((p:Int)*·):=by
          rw [List.map_map]
          conv=>lhs;rw [← List.map_id A]
          refine List.map_congr_left fun a ha=>?_
          show a=(p:Int)*(a / (p:Int))
          rw [Int.mul_ediv_cancel' (dA a ha)]
        refine ih c' (A.map (· / (p:Int))) ?_ c0' fun k=>?_
        · rw [Int.natAbs_mul,Int.natAbs_natCast] at h
          have pos:0<c'.natAbs:=by omega
          have:=Nat.mul_le_mul_right c'.natAbs p2
          omega
        · have e:=hA k
          rw [eA,qav,Int.mul_assoc] at e
          exact Int.eq_of_mul_eq_mul_left (by omega) e
      · exact ⟨c,A,hd,hA⟩
  exact key _ c A (Nat.le_refl _) c0 hA
theorem qtC (a b:Nat):∃ x y:Int,x*a+y*b=(Nat.gcd a b:Int):=by
  induction a,b using Nat.gcd.induction with
  | H0 n=>exact ⟨0,1,by simp⟩
  | H1 m n hm ih=>
    obtain ⟨x,y,h⟩:=ih
    refine ⟨y - x*((n / m:Nat):Int),x,?_⟩
    rw [Nat.gcd_rec,← h]
    have e:(n:Int)=(m:Int)*((n / m:Nat):Int)+((n % m:Nat):Int):=by
      have:=Nat.div_add_mod n m
      exact_mod_cast this.symm
    generalize ((n / m:Nat):Int)=q at *
    generalize ((n % m:Nat):Int)=w at *
    rw [e];grind
theorem qtD (a b:Int):∃ x y:Int,x*a+y*b=(Int.gcd a b:Int):=by
  obtain ⟨x,y,h⟩:=qtC a.natAbs b.natAbs
  have s:∀ z:Int,∃ e:Int,(z.natAbs:Int)=e*z:=fun z=>by
    rcases Int.natAbs_eq z with h | h
    · exact ⟨1,by omega⟩
    · exact ⟨-1,by omega⟩
  obtain ⟨e,he⟩:=s a
  obtain ⟨f,hf⟩:=s b
  refine ⟨x*e,y*f,?_⟩
  show _=((Nat.gcd a.natAbs b.natAbs:Nat):Int)
  rw [← h,he,hf];grind
noncomputable def Dm (p:Int) (g f:Nat→Int):Prop:=∃ S:List Int,∀ k,p∣f k - cvL S g k
theorem Gen.dm {r o:Nat→Int} {g:List Int} (G:Gen r o g) {p:Nat} (hp:Pr p) {f:Nat→Int} (m:MQ (co g) f):Dm (p:Int) (co g) f:=by
  obtain ⟨c,A,hc,hA⟩:=G.loc hp m
  have cop:Int.gcd c (p:Int)=1:=by
    have:=hp.cop (a:=c.natAbs) fun z=>hc (Int.natAbs_dvd_natAbs.mp (by rw [Int.natAbs_natCast];exact z))
    exact this
  obtain ⟨x,y,hxy⟩:∃ x y:Int,x*c+y*(p:Int)=1:=by
    obtain ⟨x,y,h⟩:=qtD c (p:Int)
    exact ⟨x,y,by rw [h,cop];rfl⟩
  refine ⟨A.map (x*·),fun k=>⟨f k*y,?_⟩⟩
  rw [qav,← hA k]
  grind
theorem Dm.less {p:Int} {g f h:Nat→Int} (m:Dm p g f) (m':Dm p g h) (a w:Int) (s:Nat):Dm p g (fun k=>a*f k - w*upS s h k):=by
  obtain ⟨S,hS⟩:=m
  obtain ⟨S',hS'⟩:=m'
  refine ⟨qbj (S.map (a*·)) (List.replicate s 0++S'.map (-w*·)),fun k=>?_⟩
  show p∣a*f k - w*upS s h k - _
  rw [qaz,qav,qcS]
  unfold upS
  obtain ⟨x,hx⟩:=hS k
  by_cases hs:s≤k
  · rw [if_pos hs,if_pos hs,qav]
    obtain ⟨y,hy⟩:=hS' (k - s)
    exact ⟨a*x - w*y,by grind⟩
  · rw [if_neg hs,if_neg hs]
    exact ⟨a*x,by grind⟩
theorem Dm.congr {p:Int} {g f h:Nat→Int} (m:Dm p g f) (e:∀ k,p∣h k - f k):Dm p g h:=by
  obtain ⟨S,hS⟩:=m
  exact ⟨S,fun k=>by have:=Int.dvd_add (e k) (hS k);rwa [show ∀ x y z:Int,x - y+(y - z)=x - z by intro x y z;omega] at this⟩
theorem Dm.zero (p:Int) (g:Nat→Int) {f:Nat→Int} (h:∀ k,p∣f k):Dm p g f:=⟨[],fun k=>by rw [qaD];simpa using h k⟩
theorem Gen.lead {r o:Nat→Int} {g R:List Int} (G:Gen r o g) {p:Nat} (hp:Pr p) (lR:Lz R) (m:MQ (co g) (co R)) (h:¬ (p:Int)∣co R (R.length - 1)):¬ (p:Int)∣co g (g.length - 1):=by
  intro hd
  obtain ⟨n,n0,n1⟩:=G.prim hp.two
  obtain ⟨c,A,hc,hA⟩:=G.loc hp m
  have nl:n+1<g.length:=by
    rcases Nat.lt_or_ge n g.length with z | z
    · rcases Nat.lt_or_ge (n+1) g.length with y | y
      · exact y
      · exact absurd hd (by rw [show g.length - 1=n by omega];exact n0)
    · exact absurd (by rw [qaA z];exact Int.dvd_zero _) n0
  rcases qgl A with z | ⟨B,lB,_,eB⟩
  · have:c*co R (R.length - 1)=0:=by
      rw [hA,qbC,qcn g z]
    rcases Int.mul_eq_zero.mp this with e | e
    · exact hc (by rw [e];exact Int.dvd_zero _)
    · exact lR.2 e
  · have hB:∀ k,c*co R k=cvL B (co g) k:=fun k=>by rw [hA,qbC,qas (fun j=>(eB j).symm) g k,← qbC]
    have bl:B.length+g.length≤R.length+1:=by
      rcases Nat.lt_or_ge (R.length+1) (B.length+g.length) with z | z
      · exfalso
        have b0:=lB.1
        have g0:=G.lz.1
        have e:=hB (B.length - 1+(g.length - 1))
        rw [qaA (by omega)] at e
        have ne:B≠[]:=fun z=>by rw [z] at b0;simp at b0
        obtain ⟨T,t,hT⟩:∃ T t,B=T++[t]:=⟨B.dropLast,B.getLast ne,(List.dropLast_concat_getLast ne).symm⟩
        have tl:T.length=B.length - 1:=by rw [hT];simp
        have tc:co B (B.length - 1)=t:=by rw [← tl,hT];unfold co;simp [List.getD_eq_getElem?_getD]
        rw [hT,qbu,← hT,qb8 (n:=g.length) (fun i hi=>qaA hi) T _ (by omega)] at e
        unfold upS at e
        rw [if_pos (by omega),show B.length - 1+(g.length - 1) - T.length=g.length - 1 by omega] at e
        have e2:t*co g (g.length - 1)=0:=by omega
        rcases Int.mul_eq_zero.mp e2 with x | x
        · exact lB.2 (tc.trans x)
        · exact G.lz.2 x
      · exact z
    have hh:=qi9 n1 B (R.length - 1) (by omega)
    rw [← hB] at hh
    rcases hp.mulI hh with x | x
    · exact hc x
    · exact h x
theorem Dm.len {p:Nat} (hp:Pr p) {g f:List Int} (lg:0<g.length) (hl:¬ (p:Int)∣co g (g.length - 1)) (d:Dm (p:Int) (co g) (co f)) (h0:∃ k,¬ (p:Int)∣co f k):g.length≤f.length:=by
  rcases Nat.lt_or_ge f.length g.length with z | z
  · exfalso
    obtain ⟨S,hS⟩:=d
    have sS:=qfq hp hl (fun i hi=>by rw [qaA (by omega)];exact Int.dvd_zero _) S fun k hk=>by
      have:=hS k
      rw [qaA (by omega)] at this
      have e:=Int.dvd_neg.mpr this
      rwa [show ∀ x:Int,-(0 - x)=x by intro x;omega] at e
    obtain ⟨k,hk⟩:=h0
    apply hk
    have c:∀ (S:List Int),(∀ s∈S,(p:Int)∣s)→∀ k,(p:Int)∣cvL S (co g) k:=by
      intro S
      induction S with
      | nil=>intro _ k;exact Int.dvd_zero _
      | cons x S ih=>
        intro h k
        rw [qdc]
        refine Int.dvd_add (Int.dvd_mul_of_dvd_left (h x (List.mem_cons_self ..))) ?_
        cases k with
        | zero=>exact Int.dvd_zero _
        | succ k=>exact ih (fun s hs=>h s (List.mem_cons_of_mem _ hs)) k
    have:=Int.dvd_add (hS k) (c S sS k)
    rwa [Int.sub_add_cancel] at this
  · exact z
structure RC (r o:Nat→Int) (g:List Int):Prop where
  lz:Lz g
  left:MQ (co g) r
  right:MQ (co g) o
  qi:QI r o (co g)
theorem Gen.rc {R O g:List Int} (G:Gen (co R) (co O) g):RC (co R) (co O) g:=
  ⟨G.lz,G.mq _ R (Nat.le_refl _) (QI.left _ _),G.mq _ O (Nat.le_refl _) (QI.right _ _),G.qi⟩
theorem qnU {r o:Nat→Int} {g h:List Int} (G:RC r o g) (lh:Lz h) (m1:MQ (co h) r) (m2:MQ (co h) o) (hl:g.length≤h.length):RC r o h:=by
  refine ⟨lh,m1,m2,G.qi.of_MQ ?_⟩
  obtain ⟨d,d0,T,hT⟩:=MQ.of_QI m1 m2 G.qi
  rcases qgl T with z | ⟨B,lB,_,eB⟩
  · exfalso
    have:d*co g (g.length - 1)=0:=by rw [hT,qbC,qcn h z]
    rcases Int.mul_eq_zero.mp this with e | e
    · exact d0 e
    · exact G.lz.2 e
  · have hB:∀ k,d*co g k=cvL B (co h) k:=fun k=>by rw [hT,qbC,qas (fun j=>(eB j).symm) h k,← qbC]
    have b0:=lB.1
    have g0:=lh.1
    have ne:B≠[]:=fun z=>by rw [z] at b0;simp at b0
    obtain ⟨X,t,hX⟩:∃ X t,B=X++[t]:=⟨B.dropLast,B.getLast ne,(List.dropLast_concat_getLast ne).symm⟩
    have tl:X.length=B.length - 1:=by rw [hX];simp
    have tc:co B (B.length - 1)=t:=by rw [← tl,hX];unfold co;simp [List.getD_eq_getElem?_getD]
    have one:B.length=1:=by
      rcases Nat.lt_or_ge 1 B.length with y | y
      · exfalso
        have e:=hB (B.length - 1+(h.length - 1))
        rw [qaA (by omega),hX,qbu,← hX,qb8 (n:=h.length) (fun i hi=>qaA hi) X _ (by omega)] at e
        unfold upS at e
        rw [if_pos (by omega),show B.length - 1+(h.length - 1) - X.length=h.length - 1 by omega] at e
        have e2:t*co h (h.length - 1)=0:=by omega
        rcases Int.mul_eq_zero.mp e2 with x | x
        · exact lB.2 (tc.trans x)
        · exact lh.2 x
      · omega
    have X0:X=[]:=List.length_eq_zero_iff.mp (by omega)
    have t0:t≠0:=fun z=>lB.2 (tc.trans z)
    refine ⟨t,t0,[d],fun k=>?_⟩
    have e:=hB k
    rw [hX,X0] at e
    cases k with
    | zero=>rw [qat];rw [show ([]++[t]:List Int)=[t] from rfl,qat] at e;omega
    | succ k=>rw [qao,qaD];rw [show ([]++[t]:List Int)=[t] from rfl,qao,qaD] at e;omega
end Bs
namespace Bs
noncomputable def Prim (g:List Int):Prop:=∀ c:Int,(∀ k,c∣co g k)→c.natAbs=1
theorem Prim.top {g:List Int} (P:Prim g) {p:Nat} (hp:2≤p):∃ n,¬ (p:Int)∣co g n∧∀ i,n<i→(p:Int)∣co g i:=by
  have key:∀ n,(∀ i,n≤i→(p:Int)∣co g i)→(∀ i,(p:Int)∣co g i)∨∃ n,¬ (p:Int)∣co g n∧∀ i,n<i→(p:Int)∣co g i:=by
    intro n
    induction n with
    | zero=>intro h;exact .inl fun i=>h i (Nat.zero_le i)
    | succ n ih=>
      intro h
      by_cases hd:(p:Int)∣co g n
      · exact ih fun i hi=>by
          by_cases e:i=n
          · rw [e];exact hd
          · exact h i (by omega)
      · exact .inr ⟨n,hd,fun i hi=>h i (by omega)⟩
  rcases key g.length (fun i hi=>by rw [qaA hi];exact Int.dvd_zero _) with h | h
  · have:=P (p:Int) h
    omega
  · exact h
theorem gauss {g:List Int} (P:Prim g) {f:Nat→Int} (m:MQ (co g) f):∃ A:List Int,∀ k,f k=cvL A (co g) k:=by
  obtain ⟨c,c0,A,hA⟩:=m
  have key:∀ (m:Nat) (c:Int) (A:List Int),c.natAbs≤m→c≠0→(∀ k,c*f k=cvL A (co g) k)→∃ A:List Int,∀ k,f k=cvL A (co g) k:=by
    intro m
    induction m with
    | zero=>intro c A h h0;omega
    | succ m ih=>
      intro c A h h0 hA
      by_cases h1:c.natAbs=1
      · rcases Int.natAbs_eq c with e | e
        · exact ⟨A,fun k=>by rw [← hA k,e,h1];omega⟩
        · exact ⟨A.map (-1*·),fun k=>by rw [qav,← hA k,e,h1];omega⟩
      · obtain ⟨p,hp,pd,_⟩:=qj2 (m:=c.natAbs) (by omega)
        have hd:(p:Int)∣c:=Int.natAbs_dvd_natAbs.mp (by rw [Int.natAbs_natCast];exact pd)
        obtain ⟨n,n0,n1⟩:=P.top hp.two
        have dA:∀ a∈A,(p:Int)∣a:=qfq hp n0 n1 A fun k _=>by rw [← hA k];exact Int.dvd_mul_of_dvd_left hd
        obtain ⟨c',rfl⟩:=hd
        have p2:=hp.two
        have c0':c'≠0:=fun z=>h0 (by rw [z];omega)
        have eA:A=(A.map (· / (p:Int))).map ((p:Int)*·):=by
          rw [List.map_map]
          conv=>lhs;rw [← List.map_id A]
          refine List.map_congr_left fun a ha=>?_
          show a=(p:Int)*(a / (p:Int))
          rw [Int.mul_ediv_cancel' (dA a ha)]
        refine ih c' (A.map (· / (p:Int))) ?_ c0' fun k=>?_
        · rw [Int.natAbs_mul,Int.natAbs_natCast] at h
          have pos:0<c'.natAbs:=by omega
          have:=Nat.mul_le_mul_right c'.natAbs p2
          omega
        · have e:=hA k
          rw [eA,qav,Int.mul_assoc] at e
          exact Int.eq_of_mul_eq_mul_left (by omega) e
  exact key _ c A (Nat.le_refl _) c0 hA
noncomputable def evI:List Int→Int→Int
  | [],_=>0
  | a::l,x=>a+x*evI l x
theorem qgD:∀ (l:List Int) (x:Int),(∀ k,co l k=0)→evI l x=0
  | [],_,_=>rfl
  | a::l,x,h=>by
    have h0:a=0:=h 0
    show a+x*evI l x=0
    rw [h0,qgD l x fun k=>h (k+1)];omega
theorem qg7:∀ (a b:List Int) (x:Int),(∀ k,co a k=co b k)→evI a x=evI b x
  | [],b,x,h=>(qgD b x fun k=>(h k).symm).symm
  | a::l,[],x,h=>qgD (a::l) x h
  | a::l,b::m,x,h=>by
    have h0:a=b:=h 0
    show a+x*evI l x=b+x*evI m x
    rw [h0,qg7 l m x fun k=>h (k+1)]
theorem qnV:∀ (a b:List Int) (x:Int),evI (qbj a b) x=evI a x+evI b x
  | [],b,x=>by show evI b x=0+evI b x;omega
  | a::l,[],x=>by rw [qg6];show _=_+0;omega
  | a::l,b::m,x=>by
    show (a+b)+x*evI (qbj l m) x=a+x*evI l x+(b+x*evI m x)
    rw [qnV l m x];grind
theorem qlO (c:Int):∀ (a:List Int) (x:Int),evI (a.map (c*·)) x=c*evI a x
  | [],x=>by show (0:Int)=c*0;omega
  | a::l,x=>by
    show c*a+x*evI (l.map (c*·)) x=c*(a+x*evI l x)
    rw [qlO c l x];grind
theorem qnW:∀ (a b:List Int) (x:Int),evI (qaQ a b) x=evI a x*evI b x
  | [],b,x=>by show (0:Int)=0*_;omega
  | a::l,b,x=>by
    show evI (qbj (b.map (a*·)) (0::qaQ l b)) x=(a+x*evI l x)*evI b x
    rw [qnV,qlO]
    show a*evI b x+(0+x*evI (qaQ l b) x)=_
    rw [qnW l b x];grind
theorem qej (a b:List Int) (k:Nat):co (qaQ a b) k=cvL a (co b) k:=by
  rw [qco,qaw]
  exact qas (fun j=>(qco b j).symm) a k
theorem qpi {r a g:List Int} (h:∀ k,co r k=cvL a (co g) k) (x:Int):evI r x=evI a x*evI g x:=by
  rw [← qnW]
  exact qg7 r (qaQ a g) x fun k=>by rw [qej];exact h k
theorem qp7 {b c:Nat} {x:Int} (hx:Bd c x):∀ (l:List Int),(∀ z∈l,Bd b z)→Bd (b+l.length*(c+1)) (evI l x)
  | [],_=>qbV _
  | a::l,hb=>by
    show Bd _ (a+x*evI l x)
    have h1:=hb a (List.mem_cons_self ..)
    have h2:=hx.mul (qp7 hx l fun z hz=>hb z (List.mem_cons_of_mem _ hz))
    have e:(l.length+1)*(c+1)=l.length*(c+1)+(c+1):=by rw [Nat.add_mul,Nat.one_mul]
    refine ((h1.mono (n:=c+(b+l.length*(c+1))) (by omega)).add h2).mono ?_
    rw [List.length_cons,e];omega
noncomputable def syn:List Int→Int→List Int
  | [],_=>[]
  | _::l,t=>evI l t::syn l t
theorem qja:∀ (l:List Int) (t:Int),(syn l t).length=l.length
  | [],_=>rfl
  | _::l,t=>congrArg (·+1) (qja l t)
theorem qnX:∀ (l:List Int) (t x:Int),evI l x - evI l t=(x - t)*evI (syn l t) x
  | [],t,x=>by show (0:Int) - 0=_*0;omega
  | a::l,t,x=>by
    show a+x*evI l x - (a+t*evI l t)=(x - t)*(evI l t+x*evI (syn l t) x)
    have:=qnX l t x
    grind
theorem qlP:∀ (l:List Int) (t:Int) (k:Nat),co l k=(if k=0 then evI l t else co (syn l t) (k - 1)) - t*co (syn l t) k
  | [],t,k=>by
    rw [show co (syn [] t) k=0 from qaA (Nat.zero_le _),show co (syn [] t) (k - 1)=0 from qaA (Nat.zero_le _),qaA (Nat.zero_le _)]
    show 0=(if k=0 then 0 else 0) - _
    split <;> omega
  | a::l,t,0=>by
    show a=a+t*evI l t - t*evI l t
    omega
  | a::l,t,k+1=>by
    have:=qlP l t k
    show co l k=(if k+1=0 then _ else co (evI l t::syn l t) (k+1 - 1)) - t*co (syn l t) k
    rw [if_neg (by omega),this]
    cases k with
    | zero=>rfl
    | succ k=>rw [if_neg (by omega)];rfl
theorem qpj (l:List Int) (t:Int):co (syn l t) (l.length - 1)=0:=by
  induction l with
  | nil=>exact qaA (Nat.zero_le _)
  | cons a l ih=>
    show co (evI l t::syn l t) l.length=0
    cases h:l.length with
    | zero=>rw [List.length_eq_zero_iff.mp h];rfl
    | succ m=>rw [h] at ih;exact ih
theorem interp {c:Nat}:∀ (d:Nat) (l:List Int) (y:Nat) (x:Nat→Int),(∀ k,d<k→co l k=0)→(∀ i,i≤d→Bd c (x i))→(∀ i j,i≤d→j≤d→i≠j→x i≠x j)→(∀ i,i≤d→Bd y (evI l (x i)))→∀ k,Bd (y+d*(c+3)) (co l k)
  | 0,l,y,x,h1,_,_,h4,k=>by
    cases k with
    | zero=>
      have e:evI l (x 0)=co l 0:=by
        cases l with
        | nil=>rfl
        | cons a l=>
          show a+x 0*evI l (x 0)=a
          rw [qgD l (x 0) fun k=>h1 (k+1) (by omega)];omega
      have:=h4 0 (Nat.le_refl 0)
      rw [e] at this
      exact this.mono (by omega)
    | succ k=>rw [h1 (k+1) (by omega)];exact qbV _
  | d+1,l,y,x,h1,h2,h3,h4,k=>by
    have hs:∀ j,d<j→co (syn l (x (d+1))) j=0:=by
      have step:∀ n,∀ j,d<j→l.length≤j+n→co (syn l (x (d+1))) j=0:=by
        intro n
        induction n with
        | zero=>intro j _ h;exact qaA (by rw [qja];omega)
        | succ n ih=>
          intro j hj h
          have e:=qlP l (x (d+1)) (j+1)
          rw [h1 (j+1) (by omega),if_neg (by omega),ih (j+1) (by omega) (by omega)] at e
          rw [show j+1 - 1=j by omega] at e
          omega
      intro j hj
      exact step l.length j hj (by omega)
    have ih:=interp d (syn l (x (d+1))) (y+1) x hs (fun i hi=>h2 i (by omega)) (fun i j hi hj=>h3 i j (by omega) (by omega)) (fun i hi=>by
      have e:=qnX l (x (d+1)) (x i)
      have ne:x i - x (d+1)≠0:=fun z=>h3 i (d+1) (by omega) (by omega) (by omega) (by omega)
      have b:=(h4 i (by omega)).sub (h4 (d+1) (by omega))
      rw [e] at b
      refine b.le ?_
      rw [Int.natAbs_mul]
      exact Nat.le_mul_of_pos_left _ (by omega))
    have e:=qlP l (x (d+1)) k
    rw [e]
    have hx:=h2 (d+1) (Nat.le_refl _)
    have b2:=hx.mul (ih k)
    have em:(d+1)*(c+3)=d*(c+3)+(c+3):=by rw [Nat.add_mul,Nat.one_mul]
    have b1:Bd (c+(y+1+d*(c+3))) (if k=0 then evI l (x (d+1)) else co (syn l (x (d+1))) (k - 1)):=by
      split
      · exact (h4 (d+1) (Nat.le_refl _)).mono (by omega)
      · exact (ih (k - 1)).mono (by omega)
    exact (b1.sub b2).mono (by omega)
end Bs
namespace Bs
open PySem L2
noncomputable def isN (H:Hp) (v:V) (q:Nu):Prop:=∃ p,v=.ref p∧H p=some (.tup [.int q.1,.int q.2])
noncomputable def Nums (H:Hp):List V→List Nu→Prop
  | [],[]=>True
  | x::xs,q::l=>isN H x q∧Nums H xs l
  | _,_=>False
noncomputable def Tp (H H':Hp):Prop:=∀ b xs,H b=some (.tup xs)→H' b=some (.tup xs)
theorem tpS {H H':Hp} (s:Same H H'):Tp H H':=fun b xs h=>s b _ h
theorem Tp.trans {H H1 H2:Hp} (a:Tp H H1) (b:Tp H1 H2):Tp H H2:=fun c xs h=>b c xs (a c xs h)
theorem Kp.tp {p:Addr} {H H':Hp} {xs:List V} (k:Kp p H H') (h:H p=some (.lst xs)):Tp H H':=fun b ys q=>k b _ (qsF q h (by intro z;cases z)) q
theorem Tp.updL {p:Addr} {H:Hp} {xs ys:List V} (h:H p=some (.lst xs)):Tp H (upd H p (.lst ys)):=Kp.tp Kp.upd h
theorem isN.tp {H H':Hp} {v:V} {q:Nu} (h:isN H v q) (t:Tp H H'):isN H' v q:=let ⟨p,e,z⟩:=h;⟨p,e,t _ _ z⟩
theorem Nums.tp {H H':Hp} (t:Tp H H'):∀ {xs:List V} {l:List Nu},Nums H xs l→Nums H' xs l
  | [],[],_=>trivial
  | _::_,_::_,h=>⟨h.1.tp t,Nums.tp t h.2⟩
  | [],_::_,h=>h.elim
  | _::_,[],h=>h.elim
theorem Nums.length {H:Hp}:∀ {xs:List V} {l:List Nu},Nums H xs l→xs.length=l.length
  | [],[],_=>rfl
  | _::_,_::_,h=>congrArg (·+1) (Nums.length h.2)
  | [],_::_,h=>h.elim
  | _::_,[],h=>h.elim
theorem Nums.get {H:Hp}:∀ {xs:List V} {l:List Nu} {i:Nat} {v:V},Nums H xs l→xs[i]?=some v→∃ q,l[i]?=some q∧isN H v q
  | [],[],_,_,_,e=>by simp at e
  | _::_,q::_,0,_,h,e=>by simp at e;subst e;exact ⟨q,rfl,h.1⟩
  | _::_,_::_,i+1,_,h,e=>by
    obtain ⟨q,h1,h2⟩:=Nums.get (i:=i) h.2 (by simpa using e)
    exact ⟨q,by simpa using h1,h2⟩
  | [],_::_,_,_,h,_=>h.elim
  | _::_,[],_,_,h,_=>h.elim
theorem Nums.at {H:Hp} {xs:List V} {l:List Nu} {i:Nat} (h:Nums H xs l) (hi:i<l.length) (d:Nu):∃ v,xs[i]?=some v∧isN H v (l.getD i d):=by
  have hx:i<xs.length:=by rw [h.length];exact hi
  obtain ⟨q,h1,h2⟩:=h.get (List.getElem?_eq_getElem hx)
  refine ⟨_,List.getElem?_eq_getElem hx,?_⟩
  rw [List.getD_eq_getElem?_getD,h1]
  exact h2
theorem Nums.append {H:Hp}:∀ {xs ys:List V} {l m:List Nu},Nums H xs l→Nums H ys m→Nums H (xs++ys) (l++m)
  | [],_,[],_,_,h=>h
  | _::_,_,_::_,_,h,h2=>⟨h.1,Nums.append h.2 h2⟩
  | [],_,_::_,_,h,_=>h.elim
  | _::_,_,[],_,h,_=>h.elim
theorem Nums.one {H:Hp} {v:V} {q:Nu} (h:isN H v q):Nums H [v] [q]:=⟨h,trivial⟩
theorem Nums.take {H:Hp}:∀ {xs:List V} {l:List Nu} (n:Nat),Nums H xs l→Nums H (xs.take n) (l.take n)
  | [],[],n,_=>by simp [Nums]
  | _::_,_::_,0,_=>trivial
  | _::_,_::_,n+1,h=>⟨h.1,Nums.take n h.2⟩
  | [],_::_,_,h=>h.elim
  | _::_,[],_,h=>h.elim
theorem Nums.set {H:Hp} {v:V} {q:Nu} (hv:isN H v q):∀ {xs:List V} {l:List Nu} (i:Nat),Nums H xs l→Nums H (xs.set i v) (l.set i q)
  | [],[],_,_=>trivial
  | _::_,_::_,0,h=>⟨hv,h.2⟩
  | _::_,_::_,i+1,h=>⟨h.1,Nums.set hv i h.2⟩
  | [],_::_,_,h=>h.elim
  | _::_,[],_,h=>h.elim
theorem Nums.rep {H:Hp} {v:V} {q:Nu} (hv:isN H v q):∀ n:Nat,Nums H (List.replicate n v) (List.replicate n q)
  | 0=>trivial
  | n+1=>⟨hv,Nums.rep hv n⟩
theorem qde {α:Type} (v:α):∀ n:Nat,(List.replicate n [v]).flatten=List.replicate n v
  | 0=>rfl
  | n+1=>by rw [List.replicate_succ,List.flatten_cons,qde v n];rfl
theorem qek {α:Type} {xs:List α} {i:Int} {j:Nat} {v:α} (e:i=(j:Int)) (h:xs[j]?=some v):atI xs i=some v:=by subst e;exact qkE h
theorem qfS {H:Hp} {p:Addr} {q:Nu}:isN (upd H p (.tup [.int q.1,.int q.2])) (.ref p) q:=⟨p,rfl,qai⟩
theorem qg8 {xs:List V} {m:Nat} (h:m≤xs.length):qjE xs none (some (m:Int))=xs.take m:=by
  unfold qjE HT.sIx
  simp only [List.drop_zero,Nat.sub_zero,Int.toNat_natCast]
  rw [if_neg (by omega),Nat.min_eq_left h]
noncomputable def qrt (H:Hp) (Q:VK) (l:List Nu):Prop:=∀ (r:Addr) (zs:List V) (H':Hp),Same H H'→H' r=some (.tup zs)→Nums H' zs l→Q (.ref r) H'
noncomputable def qp8 (q:Nu):PySem.W.Dat:=.tuple [.int q.1,.int q.2]
noncomputable def qpk (l:List Nu):PySem.W.Dat:=.tuple (l.map qp8)
theorem qtE {H:Hp} {v:V} {q:Nu} (h:isN H v q):RepD H v (qp8 q):=by
  obtain ⟨p,rfl,hp⟩:=h
  exact .tup hp (.cons (.int _) (.cons (.int _) .nil))
theorem qr6 {H:Hp}:∀ {xs:List V} {l:List Nu},Nums H xs l→RepA H xs (l.map qp8)
  | [],[],_=>.nil
  | _::_,_::_,h=>.cons (qtE h.1) (qr6 h.2)
  | [],_::_,h=>h.elim
  | _::_,[],h=>h.elim
theorem qqO {H:Hp} {p:Addr} {xs:List V} {l:List Nu} (hp:H p=some (.tup xs)) (h:Nums H xs l):RepD H (.ref p) (qpk l):=.tup hp (qr6 h)
theorem okN (q:Nu) (n:Nat):PySem.W.kqdOk (n+1) (qp8 q)=true:=by simp [qp8,PySem.W.kqdOk]
theorem okP (l:List Nu) (n:Nat):PySem.W.kqdOk (n+2) (qpk l)=true:=by
  simp only [qpk,PySem.W.kqdOk,List.all_map,List.all_eq_true,Function.comp]
  intro q _
  exact okN q n
end Bs
set_option maxHeartbeats 4000000
namespace Bs
open PySem L2
theorem qgE {g:Nat→Rat} {n:Nat} (h:∀ i,n<i→g i=0):∀ (a:List Rat) (k:Nat),a.length+n≤k→cvL a g k=0
  | [],_,_=>rfl
  | x::a,0,hk=>absurd hk (by rw [List.length_cons];omega)
  | x::a,k+1,hk=>by
    rw [List.length_cons] at hk
    rw [qao,h (k+1) (by omega),qgE h a k (by omega)];grind
theorem qkQ {g:Nat→Rat} {n:Nat} (h0:g n≠0) (h:∀ i,n<i→g i=0) (S:List Rat):(∀ k,n≤k→cvL S g k=0)→∀ s∈S,s=0:=by
  induction hl:S.length generalizing S with
  | zero=>intro _ s hs;rw [List.length_eq_zero_iff.mp hl] at hs;exact nomatch hs
  | succ m ih=>
    intro hk
    have ne:S≠[]:=fun z=>by rw [z] at hl;simp at hl
    obtain ⟨T,t,rfl⟩:∃ T t,S=T++[t]:=⟨S.dropLast,S.getLast ne,(List.dropLast_concat_getLast ne).symm⟩
    have ht:t=0:=by
      have a:=hk (T.length+n) (by omega)
      rw [qbu,qgE h T _ (Nat.le_refl _)] at a
      unfold upS at a
      rw [if_pos (by omega),show T.length+n - T.length=n by omega] at a
      have a':t*g n=0:=by grind
      rcases Rat.mul_eq_zero.mp a' with z | z
      · exact z
      · exact absurd z h0
    have hT2:=ih T (by simpa using hl) (fun k hk2=>by
      have a:=hk k hk2
      rw [qbu,ht] at a
      grind)
    intro s hs
    rcases List.mem_append.mp hs with h | h
    · exact hT2 s h
    · rw [List.mem_singleton.mp h];exact ht
theorem qgF {g:Nat→Rat}:∀ (S:List Rat),(∀ s∈S,s=0)→∀ k,cvL S g k=0
  | [],_,_=>rfl
  | x::S,h,0=>by rw [qat,h x (List.mem_cons_self ..)];grind
  | x::S,h,k+1=>by rw [qao,h x (List.mem_cons_self ..),qgF S (fun s hs=>h s (List.mem_cons_of_mem _ hs)) k];grind
theorem qkR {G:Nat→Rat} {n:Nat} (h0:G n≠0) (hG:∀ i,n<i→G i=0) {A B:List Rat} (h:∀ k,cvL A G k=cvL B G k) (g:Nat→Rat) (k:Nat):cvL A g k=cvL B g k:=by
  have z:=qgF (g:=g) (qbj A (B.map ((-1:Rat)*·))) (qkQ h0 hG _ fun k _=>by rw [qaz,qav,h k];grind) k
  rw [qaz,qav] at z
  grind
end Bs
namespace Bs
open PySem L2
structure Sr where
  c:Nat→Rat
theorem Sr.ext' {f g:Sr} (h:∀ k,f.c k=g.c k):f=g:=by
  cases f;cases g;congr;exact funext h
noncomputable def tr (n:Nat) (f:Nat→Rat):List Rat:=(List.range n).map f
theorem qg9 (n:Nat) (f:Nat→Rat) (k:Nat):(tr n f).getD k 0=if k<n then f k else 0:=by
  unfold tr
  rw [List.getD_eq_getElem?_getD,List.getElem?_map]
  by_cases h:k<n
  · rw [List.getElem?_range h,if_pos h];rfl
  · rw [if_neg h,List.getElem?_eq_none (by rw [List.length_range];omega)];rfl
theorem qel:∀ (a b:List Rat) (g h:Nat→Rat) (k:Nat),(∀ i,i≤k→a.getD i 0=b.getD i 0)→(∀ i,i≤k→g i=h i)→cvL a g k=cvL b h k:=by
  intro a
  induction a with
  | nil=>
    intro b
    induction b with
    | nil=>intro g h k _ _;rfl
    | cons y b ih=>
      intro g h k ab gh
      have y0:=ab 0 (Nat.zero_le _)
      simp at y0
      cases k with
      | zero=>rw [qaD,qat,← y0];grind
      | succ k=>
        rw [qaD,qao,← y0]
        have:=ih g h k (fun i hi=>by have:=ab (i+1) (by omega);simpa using this) (fun i hi=>gh i (by omega))
        rw [qaD] at this
        grind
  | cons x a ih=>
    intro b g h k ab gh
    cases b with
    | nil=>
      have x0:=ab 0 (Nat.zero_le _)
      simp at x0
      cases k with
      | zero=>rw [qaD,qat,x0];grind
      | succ k=>
        rw [qaD,qao,x0]
        have:=ih [] g h k (fun i hi=>by have:=ab (i+1) (by omega);simpa using this) (fun i hi=>gh i (by omega))
        rw [qaD] at this
        grind
    | cons y b=>
      have x0:=ab 0 (Nat.zero_le _)
      simp at x0
      cases k with
      | zero=>rw [qat,qat,x0,gh 0 (Nat.le_refl _)]
      | succ k=>
        rw [qao,qao,x0,gh _ (Nat.le_refl _),ih b g h k (fun i hi=>by have:=ab (i+1) (by omega);simpa using this) (fun i hi=>gh i (by omega))]
namespace Sr
noncomputable def zero:Sr:=⟨fun _=>0⟩
noncomputable def one:Sr:=⟨qcb⟩
noncomputable def add (f g:Sr):Sr:=⟨fun k=>f.c k+g.c k⟩
noncomputable def neg (f:Sr):Sr:=⟨fun k=>- f.c k⟩
noncomputable def mul (f g:Sr):Sr:=⟨fun k=>cvL (tr (k+1) f.c) g.c k⟩
noncomputable def num (x:Rat):Sr:=⟨fun k=>x*qcb k⟩
theorem qlQ (f g:Sr) {n k:Nat} (h:k<n):(mul f g).c k=cvL (tr n f.c) g.c k:=by
  refine qel _ _ _ _ _ (fun i hi=>?_) (fun _ _=>rfl)
  rw [qg9,qg9,if_pos (by omega),if_pos (by omega)]
theorem qkS (f g:Sr) {n m k:Nat} (h:k<n) (h':k<m):(mul f g).c k=cvL (tr n f.c) (cvL (tr m g.c) qcb) k:=by
  rw [qlQ f g h]
  refine qel _ _ _ _ _ (fun _ _=>rfl) (fun i hi=>?_)
  rw [qce,qg9,if_pos (by omega)]
theorem mul_comm (f g:Sr):mul f g=mul g f:=ext' fun k=>by
  rw [qkS f g (Nat.lt_succ_self k) (Nat.lt_succ_self k),qkS g f (Nat.lt_succ_self k) (Nat.lt_succ_self k),qeJ]
theorem mul_assoc (f g h:Sr):mul (mul f g) h=mul f (mul g h):=ext' fun k=>by
  rw [qlQ (mul f g) h (Nat.lt_succ_self k),qlQ f (mul g h) (Nat.lt_succ_self k)]
  have e1:cvL (tr (k+1) (mul f g).c) h.c k=cvL (qaQ (tr (k+1) f.c) (tr (k+1) g.c)) h.c k:=by
    refine qel _ _ _ _ _ (fun i hi=>?_) (fun _ _=>rfl)
    rw [qg9,if_pos (by omega),← qce,qaw,qkS f g (n:=k+1) (m:=k+1) (by omega) (by omega)]
  rw [e1,qaw]
  exact qel _ _ _ _ _ (fun _ _=>rfl) (fun i hi=>(qlQ g h (by omega)).symm)
theorem mul_add (f g h:Sr):mul f (add g h)=add (mul f g) (mul f h):=ext' fun k=>by
  show cvL (tr (k+1) f.c) (fun k=>g.c k+h.c k) k=_
  rw [qdP];rfl
theorem mul_one (f:Sr):mul f one=f:=ext' fun k=>by
  show cvL (tr (k+1) f.c) qcb k=_
  rw [qce,qg9,if_pos (Nat.lt_succ_self k)]
theorem mul_zero (f:Sr):mul f zero=zero:=ext' fun k=>by
  show cvL (tr (k+1) f.c) (fun _=>0) k=0
  have:=qbl (0:Rat) (fun _=>0) (tr (k+1) f.c) k
  rw [show (fun k:Nat=>(0:Rat)*(fun _=>(0:Rat)) k)=fun _=>0 from funext fun _=>by grind] at this
  rw [this];grind
noncomputable def npow (f:Sr):Nat→Sr
  | 0=>one
  | n+1=>mul (npow f n) f
noncomputable instance:Add Sr:=⟨add⟩
noncomputable instance:Mul Sr:=⟨mul⟩
noncomputable instance:Neg Sr:=⟨neg⟩
noncomputable instance:Sub Sr:=⟨fun f g=>add f (neg g)⟩
noncomputable instance:NatCast Sr:=⟨fun n=>num (n:Rat)⟩
noncomputable instance:IntCast Sr:=⟨fun n=>num (n:Rat)⟩
noncomputable instance (n:Nat):OfNat Sr n:=⟨num (n:Rat)⟩
noncomputable instance:Pow Sr Nat:=⟨npow⟩
noncomputable instance:SMul Nat Sr:=⟨fun n f=>mul (num (n:Rat)) f⟩
noncomputable instance:SMul Int Sr:=⟨fun n f=>mul (num (n:Rat)) f⟩
theorem num0:num 0=zero:=ext' fun k=>by show 0*qcb k=(0:Rat);grind
theorem num1:num 1=one:=ext' fun k=>by show 1*qcb k=(qcb k:Rat);grind
theorem qqP (x y:Rat):num (x+y)=add (num x) (num y):=ext' fun k=>by show (x+y)*qcb k=x*qcb k+y*qcb k;grind
theorem qkT (x:Rat):num (-x)=neg (num x):=ext' fun k=>by show (-x)*qcb k = -(x*qcb k);grind
theorem add_comm (f g:Sr):add f g=add g f:=ext' fun k=>by show f.c k+g.c k=g.c k+f.c k;grind
theorem add_assoc (f g h:Sr):add (add f g) h=add f (add g h):=ext' fun k=>by show f.c k+g.c k+h.c k=f.c k+(g.c k+h.c k);grind
theorem add_zero (f:Sr):add f zero=f:=ext' fun k=>by show f.c k+0=f.c k;grind
theorem qkU (f:Sr):add (neg f) f=zero:=ext' fun k=>by show -f.c k+f.c k=0;grind
theorem add_mul (f g h:Sr):mul (add f g) h=add (mul f h) (mul g h):=by rw [mul_comm,mul_add,mul_comm h f,mul_comm h g]
theorem neg_mul (f g:Sr):mul (neg f) g=neg (mul f g):=by
  have h:add (mul (neg f) g) (mul f g)=zero:=by rw [← add_mul,qkU,mul_comm,mul_zero]
  have h2:add (neg (mul f g)) (mul f g)=zero:=qkU _
  refine ext' fun k=>?_
  have a:=congrFun (congrArg Sr.c h) k
  have b:=congrFun (congrArg Sr.c h2) k
  have a:(mul (neg f) g).c k+(mul f g).c k=0:=a
  have b:(neg (mul f g)).c k+(mul f g).c k=0:=b
  grind
noncomputable instance:Lean.Grind.CommRing Sr where
  add_zero f:=(congrArg (add f) num0).trans (add_zero f)
  add_comm:=add_comm
  add_assoc:=add_assoc
  mul_assoc:=mul_assoc
  mul_comm:=mul_comm
  mul_one f:=(congrArg (mul f) num1).trans (mul_one f)
  one_mul f:=(congrArg (fun z=>mul z f) num1).trans ((mul_comm _ _).trans (mul_one f))
  left_distrib:=mul_add
  right_distrib:=add_mul
  zero_mul f:=by show mul (num 0) f=num 0;rw [num0,mul_comm,mul_zero]
  mul_zero f:=by show mul f (num 0)=num 0;rw [num0,mul_zero]
  pow_zero f:=num1.symm
  pow_succ f n:=rfl
  ofNat_succ n:=by
    show num ((n+1:Nat):Rat)=add (num (n:Rat)) (num 1)
    rw [← qqP];push_cast;rfl
  ofNat_eq_natCast n:=rfl
  nsmul_eq_natCast_mul n f:=rfl
  sub_eq_add_neg f g:=rfl
  neg_add_cancel f:=(qkU f).trans num0.symm
  intCast_neg n:=by show num ((-n:Int):Rat)=neg (num (n:Rat));rw [← qkT];push_cast;rfl
  intCast_ofNat n:=rfl
  neg_zsmul n f:=by show mul (num ((-n:Int):Rat)) f=neg (mul (num (n:Rat)) f);rw [show ((-n:Int):Rat) = -(n:Rat) by push_cast;rfl,qkT,neg_mul]
  zsmul_natCast_eq_nsmul n f:=rfl
end Sr
end Bs
namespace Bs
open PySem L2
namespace Sr
noncomputable def L (a:List Rat):Sr:=⟨cvL a qcb⟩
theorem L_mul (a:List Rat) (g:Sr):L a*g=⟨cvL a g.c⟩:=ext' fun k=>by
  refine qel _ _ _ _ _ (fun i hi=>?_) (fun _ _=>rfl)
  rw [qg9,if_pos (by omega)]
  exact qce a i
noncomputable def Bn (f:Sr) (n:Nat):Prop:=∀ k,n≤k→f.c k=0
theorem Bn.row {f:Sr} {n:Nat} (h:Bn f n):L (tr n f.c)=f:=ext' fun k=>by
  show cvL (tr n f.c) qcb k=f.c k
  rw [qce,qg9]
  by_cases hk:k<n
  · rw [if_pos hk]
  · rw [if_neg hk,h k (by omega)]
noncomputable def Pol (f:Sr):Prop:=∃ a,f=L a
theorem Pol.L (a:List Rat):Pol (L a):=⟨a,rfl⟩
theorem Bn.pol {f:Sr} {n:Nat} (h:Bn f n):Pol f:=⟨_,h.row.symm⟩
theorem qtf (a:List Rat):Bn (Sr.L a) a.length:=fun k hk=>by
  show cvL a qcb k=0
  rw [qce,List.getD_eq_getElem?_getD,List.getElem?_eq_none hk];rfl
theorem Pol.bn {f:Sr} (h:Pol f):∃ n,Bn f n:=let ⟨a,e⟩:=h;⟨a.length,e ▸ qtf a⟩
theorem Pol.add {f g:Sr} (h:Pol f) (h':Pol g):Pol (f+g):=by
  obtain ⟨a,rfl⟩:=h;obtain ⟨b,rfl⟩:=h'
  exact ⟨qbj a b,ext' fun k=>(qaz qcb a b k).symm⟩
theorem Pol.mul {f g:Sr} (h:Pol f) (h':Pol g):Pol (f*g):=by
  obtain ⟨a,rfl⟩:=h;obtain ⟨b,rfl⟩:=h'
  exact ⟨qaQ a b,by rw [L_mul];exact ext' fun k=>(qaw qcb a b k).symm⟩
theorem Pol.num (x:Rat):Pol (num x):=⟨[x],ext' fun k=>by
  show x*qcb k=cvL [x] qcb k
  cases k with
  | zero=>rw [qat];grind
  | succ k=>rw [qao,qaD];grind⟩
theorem Pol.nat (n:Nat):Pol (OfNat.ofNat n:Sr):=Pol.num (n:Rat)
theorem Pol.neg {f:Sr} (h:Pol f):Pol (-f):=by
  have e:-f=Sr.num (-1)*f:=by
    have:Sr.num (-1)=(-1:Sr):=qkT 1
    rw [this];grind
  rw [e];exact (Pol.num _).mul h
theorem Pol.sub {f g:Sr} (h:Pol f) (h':Pol g):Pol (f - g):=by
  have e:f - g=f + -g:=by grind
  rw [e];exact h.add h'.neg
theorem Pol.pow {f:Sr} (h:Pol f):∀ n:Nat,Pol (f ^ n)
  | 0=>(num1 ▸ Pol.num 1:Pol one)
  | n+1=>(h.pow n).mul h
theorem top_ex {f:Sr}:∀ n,Bn f n→f=0∨∃ m,m<n∧f.c m≠0∧Bn f (m+1)
  | 0,h=>.inl (ext' fun k=>by rw [h k (Nat.zero_le _)];show 0=((0:Nat):Rat)*qcb k;push_cast;grind)
  | n+1,h=>by
    by_cases z:f.c n=0
    · rcases top_ex n (fun k hk=>by rcases Nat.eq_or_lt_of_le hk with e | e;exact e ▸ z;exact h k e) with q | ⟨m,m1,m2,m3⟩
      · exact .inl q
      · exact .inr ⟨m,by omega,m2,m3⟩
    · exact .inr ⟨n,by omega,z,h⟩
theorem zero_c (k:Nat):(0:Sr).c k=0:=by show ((0:Nat):Rat)*qcb k=0;push_cast;grind
theorem cancel {f g h:Sr} (pf:Pol f) (pg:Pol g) (ph:Pol h) (h0:h≠0) (e:f*h=g*h):f=g:=by
  obtain ⟨a,rfl⟩:=pf;obtain ⟨b,rfl⟩:=pg
  obtain ⟨n,hn⟩:=ph.bn
  rcases top_ex n hn with z | ⟨m,_,m1,m2⟩
  · exact absurd z h0
  rw [L_mul,L_mul] at e
  exact ext' fun k=>qkR m1 (fun i hi=>m2 i hi) (fun k=>congrFun (congrArg Sr.c e) k) qcb k
theorem ne_mul {f g:Sr} (pf:Pol f) (pg:Pol g) (f0:f≠0) (g0:g≠0):f*g≠0:=fun e=>f0 (cancel pf (Pol.nat 0) pg g0 (by rw [e];grind))
noncomputable def X (n:Nat):Sr:=L (List.replicate n 0++[1])
theorem qpl (n:Nat) (g:Sr) (k:Nat):(X n*g).c k=if n≤k then g.c (k - n) else 0:=by
  unfold X
  rw [L_mul]
  show cvL (List.replicate n 0++[1]) g.c k=_
  rw [qcS]
  unfold upS
  by_cases h:n≤k
  · rw [if_pos h,if_pos h]
    cases k - n with
    | zero=>rw [qat];grind
    | succ k=>rw [qao,qaD];grind
  · rw [if_neg h,if_neg h]
theorem num_mul (x:Rat) (g:Sr) (k:Nat):(num x*g).c k=x*g.c k:=by
  have:num x=L [x]:=ext' fun k=>by
    show x*qcb k=cvL [x] qcb k
    cases k with
    | zero=>rw [qat];grind
    | succ k=>rw [qao,qaD];grind
  rw [this,L_mul]
  show cvL [x] g.c k=_
  cases k with
  | zero=>rw [qat];grind
  | succ k=>rw [qao,qaD];grind
theorem sub_c (f g:Sr) (k:Nat):(f - g).c k=f.c k - g.c k:=by show f.c k + - g.c k=_;grind
theorem divide {g:Sr} {m:Nat} (g0:g.c m≠0) (hg:Bn g (m+1)):∀ (n:Nat) (f:Sr),Bn f n→∃ q r,Pol q∧Bn r m∧f=q*g+r
  | 0,f,h=>⟨0,f,Pol.nat 0,fun k _=>h k (Nat.zero_le _),by grind⟩
  | n+1,f,h=>by
    by_cases c:n+1≤m
    · exact ⟨0,f,Pol.nat 0,fun k hk=>h k (by omega),by grind⟩
    · obtain ⟨q,r,pq,br,e⟩:=divide g0 hg n (f - num (f.c n*(g.c m)⁻¹)*(X (n - m)*g)) fun k hk=>by
        rw [sub_c,num_mul,qpl,if_pos (by omega)]
        rcases Nat.eq_or_lt_of_le hk with z | z
        · rw [← z,show n - (n - m)=m by omega]
          have:(g.c m)⁻¹*g.c m=1:=Rat.inv_mul_cancel _ g0
          grind
        · rw [h k z,hg (k - (n - m)) (by omega)];grind
      exact ⟨q+num (f.c n*(g.c m)⁻¹)*X (n - m),r,pq.add ((Pol.num _).mul (Pol.L _)),br,by grind⟩
theorem qr7:∀ (n:Nat) (S T:Sr),Pol S→Bn T n→(S≠0∨T≠0)→∃ g r e U W,Pol g∧Pol r∧Pol e∧Pol U∧Pol W∧g≠0∧S=g*r∧T=g*e∧U*r+W*e=1:=by
  intro n
  induction n using Nat.strongRecOn with
  | _ n ih=>
    intro S T pS bT h
    by_cases z:T=0
    · exact ⟨S,1,0,1,0,pS,Pol.nat 1,Pol.nat 0,Pol.nat 1,Pol.nat 0,by rcases h with h | h;exact h;exact absurd z h,by grind,by rw [z];grind,by grind⟩
    · rcases top_ex n bT with q | ⟨m,mn,m0,mb⟩
      · exact absurd q z
      obtain ⟨a,rfl⟩:=pS
      obtain ⟨q,r,pq,br,e⟩:=divide m0 mb _ _ (qtf a)
      obtain ⟨g,r1,e1,U,W,pg,pr,pe,pU,pW,g0,h1,h2,h3⟩:=ih m mn T r bT.pol br (.inl z)
      exact ⟨g,q*r1+e1,r1,W,U - W*q,pg,(pq.mul pr).add pe,pr,pW,pU.sub (pW.mul pq),g0,by rw [e,h1,h2];grind,h1,by grind⟩
noncomputable def D (f:Sr):Sr:=⟨fun k=>((k:Rat)+1)*f.c (k+1)⟩
theorem D_add (f g:Sr):D (f+g)=D f+D g:=ext' fun k=>by show ((k:Rat)+1)*(f.c (k+1)+g.c (k+1))=((k:Rat)+1)*f.c (k+1)+((k:Rat)+1)*g.c (k+1);grind
theorem D_num (x:Rat) (g:Sr):D (num x*g)=num x*D g:=ext' fun k=>by
  rw [num_mul]
  show ((k:Rat)+1)*(num x*g).c (k+1)=x*(((k:Rat)+1)*g.c (k+1))
  rw [num_mul];grind
theorem D_X (g:Sr):D (X 1*g)=g+X 1*D g:=ext' fun k=>by
  show ((k:Rat)+1)*(X 1*g).c (k+1)=g.c k+(X 1*D g).c k
  rw [qpl,qpl,if_pos (by omega)]
  cases k with
  | zero=>rw [if_neg (by omega)];push_cast;show ((0:Nat)+1)*g.c 0=_;push_cast;grind
  | succ k=>rw [if_pos (by omega)];show (((k+1:Nat):Rat)+1)*g.c (k+1)=g.c (k+1)+((k:Rat)+1)*g.c (k+1);push_cast;grind
theorem qp9 (x:Rat) (a:List Rat):L (x::a)=num x+X 1*L a:=ext' fun k=>by
  show cvL (x::a) qcb k=x*qcb k+(X 1*L a).c k
  rw [qpl,qdc]
  cases k with
  | zero=>rw [if_neg (by omega)];rfl
  | succ k=>rw [if_pos (by omega)];rfl
theorem qsS:D (L [])=0:=ext' fun k=>by show ((k:Rat)+1)*cvL [] qcb (k+1)=_;rw [qaD,zero_c];grind
theorem L_nil:L []=0:=ext' fun k=>by rw [zero_c];rfl
theorem qqQ (x:Rat):D (num x)=0:=ext' fun k=>by show ((k:Rat)+1)*(x*qcb (k+1))=_;rw [zero_c];show ((k:Rat)+1)*(x*0)=0;grind
theorem qqa (g:Sr):∀ a:List Rat,D (L a*g)=D (L a)*g+L a*D g
  | []=>by
    have z:(0:Sr)=num 0:=rfl
    rw [qsS,L_nil,z,D_num,← z]
    grind
  | x::a=>by
    have ih:=qqa g a
    have e:L (x::a)*g=num x*g+X 1*(L a*g):=by rw [qp9];grind
    rw [e,D_add,D_num,D_X,ih,qp9,D_add,D_X,qqQ]
    grind
theorem D_mul {f:Sr} (pf:Pol f) (g:Sr):D (f*g)=D f*g+f*D g:=by
  obtain ⟨a,rfl⟩:=pf
  exact qqa g a
theorem qsT {f:Sr} {n:Nat} (h:Bn f (n+1)):Bn (D f) n:=fun k hk=>by show ((k:Rat)+1)*f.c (k+1)=0;rw [h (k+1) (by omega)];grind
theorem qtF {f:Sr} {n:Nat} (h:f.c (n+1)≠0):D f≠0:=fun e=>by
  have:=congrFun (congrArg Sr.c e) n
  rw [zero_c] at this
  have this:((n:Rat)+1)*f.c (n+1)=0:=this
  rcases Rat.mul_eq_zero.mp this with z | z
  · have:((n:Rat)+1)=((n+1:Nat):Rat):=by push_cast;rfl
    rw [this] at z
    have:n+1=0:=by exact_mod_cast z
    omega
  · exact h z
theorem Pol.D {f:Sr} (h:Pol f):Pol (D f):=by
  obtain ⟨n,hn⟩:=h.bn
  exact Bn.pol (n:=n) (qsT (n:=n) fun k hk=>hn k (by omega))
theorem qqR:∀ (n:Nat) (S R c:Sr),Bn S n→S≠0→Pol R→Pol c→D S*R=c*S→∃ (m:Nat) (a:Sr),Pol a∧R ^ m=a*S:=by
  intro n
  induction n using Nat.strongRecOn with
  | _ n ih=>
    intro S R c bS S0 pR pc e
    rcases top_ex n bS with z | ⟨m,mn,m0,mb⟩
    · exact absurd z S0
    cases m with
    | zero=>
      refine ⟨0,num (S.c 0)⁻¹,Pol.num _,ext' fun k=>?_⟩
      rw [num_mul]
      have e1:(R ^ 0).c k=qcb k:=rfl
      rw [e1]
      cases k with
      | zero=>show 1=_;have:(S.c 0)⁻¹*S.c 0=1:=Rat.inv_mul_cancel _ m0;grind
      | succ k=>show 0=_;rw [mb (k+1) (by omega)];grind
    | succ m=>
      obtain ⟨g,r,e1,U,W,pg,pr,pe,pU,pW,g0,h1,h2,h3⟩:=qr7 _ S (D S) mb.pol (qsT mb) (.inl S0)
      have sR:e1*R=c*r:=cancel (pe.mul pR) (pc.mul pr) pg g0 (by rw [h2,h1] at e;grind)
      have hR:R=(U*R+W*c)*r:=by
        have:R=(U*r+W*e1)*R:=by rw [h3];grind
        grind
      have pt:Pol (U*R+W*c):=(pU.mul pR).add (pW.mul pc)
      have dS:D g*r=g*(e1 - D r):=by
        have:=D_mul pg r
        rw [← h1,h2] at this
        grind
      have gR:D g*R=(e1 - D r)*(U*R+W*c)*g:=by
        have:D g*R=D g*r*(U*R+W*c):=by generalize U*R+W*c=t at hR;rw [hR];grind
        rw [this,dS]
        grind
      obtain ⟨N,hN⟩:=pg.bn
      obtain ⟨t,_,t0,tb⟩:=(top_ex N hN).resolve_left g0
      have tm:t≤m:=by
        rcases Nat.lt_or_ge m t with q | q
        · exfalso
          obtain ⟨E,rfl⟩:=pe
          have h2':D S=L E*g:=by rw [h2];grind
          rw [L_mul] at h2'
          refine qtF m0 (ext' fun k=>?_)
          rw [h2',zero_c]
          exact qgF E (qkQ t0 (fun i hi=>tb i hi) E fun k hk=>by
            exact (congrFun (congrArg Sr.c h2') k).symm.trans (qsT mb k (by omega))) k
        · exact q
      obtain ⟨M,a,pa,ea⟩:=ih (t+1) (by omega) g R _ tb g0 pR ((pe.sub pr.D).mul pt) gR
      refine ⟨M+1,a*(U*R+W*c),pa.mul pt,?_⟩
      have:R ^ (M+1)=R ^ M*R:=rfl
      rw [this,ea,h1]
      have:a*(U*R+W*c)*(g*r)=a*g*((U*R+W*c)*r):=by grind
      rw [this,← hR]
noncomputable def Cs (f g:Sr):Prop:=∃ U W,Pol U∧Pol W∧U*f+W*g=1
theorem Cs.comm {f g:Sr} (h:Cs f g):Cs g f:=let ⟨U,W,a,b,e⟩:=h;⟨W,U,b,a,by grind⟩
theorem Cs.mul {f g h:Sr} (pf:Pol f) (pg:Pol g) (h1:Cs f g) (h2:Cs f h):Cs f (g*h):=by
  obtain ⟨U,W,pU,pW,e⟩:=h1
  obtain ⟨U',W',pU',pW',e'⟩:=h2
  refine ⟨U+W*U'*g,W*W',pU.add ((pW.mul pU').mul pg),pW.mul pW',?_⟩
  have:(U+W*U'*g)*f+W*W'*(g*h)=U*f+W*g*(U'*f+W'*h):=by grind
  rw [this,e',← e];grind
theorem Cs.dvd {f w g a:Sr} (h:Cs f w) (pa:Pol a) (e:w=a*g):Cs f g:=by
  obtain ⟨U,W,pU,pW,q⟩:=h
  exact ⟨U,W*a,pU,pW.mul pa,by rw [e] at q;grind⟩
theorem Cs.one {f:Sr}:Cs f 1:=⟨0,1,Pol.nat 0,Pol.nat 1,by grind⟩
theorem Cs.pow {f g:Sr} (pf:Pol f) (pg:Pol g) (h:Cs f g):∀ n:Nat,Cs f (g ^ n)
  | 0=>⟨0,1,Pol.nat 0,Pol.nat 1,by grind⟩
  | n+1=>Cs.mul pf (pg.pow n) (Cs.pow pf pg h n) h
theorem Cs.add {f g z c:Sr} (h:Cs f g) (pc:Pol c) (e:z=f+c*g):Cs z g:=by
  obtain ⟨U,W,pU,pW,q⟩:=h
  exact ⟨U,W - U*c,pU,pW.sub (pU.mul pc),by rw [e];grind⟩
theorem Cs.neg {f g:Sr} (h:Cs f g):Cs (-f) g:=by
  obtain ⟨U,W,pU,pW,q⟩:=h
  exact ⟨-U,W,pU.neg,pW,by grind⟩
theorem slope_cop {T B G R E:Sr} (pT:Pol T) (pB:Pol B) (pG:Pol G) (pR:Pol R) (pE:Pol E) (B0:B≠0) (h1:B=G*R) (h2:D B=G*E) (cRE:Cs R E) (cTB:Cs T B):Cs (D T*R - T*E) (B*R):=by
  obtain ⟨n,hn⟩:=pB.bn
  obtain ⟨m,a,pa,ea⟩:=qqR n B R E hn B0 pR pE (by rw [h2,h1];grind)
  have c1:Cs R T:=(cTB.dvd pG h1).comm
  have c2:Cs R (T*E):=Cs.mul pR pT c1 cRE
  have c3:Cs (D T*R - T*E) R:=c2.comm.neg.add pT.D (by grind)
  have pt:Pol (D T*R - T*E):=(pT.D.mul pR).sub (pT.mul pE)
  exact Cs.mul pt pB ((Cs.pow pt pR c3 m).dvd pa ea) c3
end Sr
end Bs
namespace Bs
open PySem L2
namespace Sr
theorem qqS (f:Sr) (n:Nat):f ^ (n+1)=f ^ n*f:=rfl
theorem qqT (f:Sr):f ^ 0=1:=num1.symm
theorem one_ne:(1:Sr)≠0:=fun h=>by
  have:=congrFun (congrArg Sr.c h) 0
  rw [zero_c] at this
  have this:((1:Nat):Rat)*qcb 0=0:=this
  have e:(qcb 0:Rat)=1:=rfl
  rw [e] at this
  push_cast at this
  grind
theorem qj3 {b:Nat→Rat} {d:Nat} (h:∀ k,d<k→b k=0):∀ (a:List Rat) (k:Nat),d+a.length≤k→cvL a b k=0
  | [],_,_=>rfl
  | x::a,0,hk=>by simp at hk
  | x::a,k+1,hk=>by
    rw [qao,qj3 h a k (by simp at hk;omega),h (k+1) (by simp at hk;omega)]
    grind
theorem top_mul {f g:Sr} {m n:Nat} (hf:Bn f (m+1)) (hg:Bn g (n+1)):(f*g).c (m+n)=f.c m*g.c n∧Bn (f*g) (m+n+1):=by
  have hi:∀ (a:List Rat) (k:Nat),n+a.length≤k→cvL a g.c k=0:=qj3 fun k hk=>hg k hk
  rw [← hf.row,L_mul]
  refine ⟨?_,fun k hk=>hi _ k (by unfold tr;rw [List.length_map,List.length_range];omega)⟩
  show cvL (tr (m+1) f.c) g.c (m+n)=_
  have e:tr (m+1) f.c=tr m f.c++[f.c m]:=by unfold tr;rw [List.range_succ,List.map_append];rfl
  have tl:(tr m f.c).length=m:=by unfold tr;rw [List.length_map,List.length_range]
  rw [e,qbu,hi (tr m f.c) _ (by rw [tl];omega),tl]
  unfold upS
  rw [if_pos (by omega),show m+n - m=n by omega]
  have z:(L (tr m f.c++[f.c m])).c m=f.c m:=by
    rw [← e]
    exact congrFun (congrArg Sr.c hf.row) m
  rw [z]
  grind
theorem Cs.of_unit {f g d U W:Sr} {x:Rat} (x0:x≠0) (e:d=num x) (pU:Pol U) (pW:Pol W) (h:U*f+W*g=d):Cs f g:=by
  refine ⟨num (x⁻¹)*U,num (x⁻¹)*W,(Pol.num _).mul pU,(Pol.num _).mul pW,?_⟩
  have i:num (x⁻¹)*num x=1:=ext' fun k=>by
    rw [num_mul]
    show x⁻¹*(x*qcb k)=_
    have:x⁻¹*x=1:=Rat.inv_mul_cancel _ x0
    show _=((1:Nat):Rat)*qcb k
    push_cast
    grind
  rw [e] at h
  grind
theorem Cs.parts {l p q r:Sr} (pl:Pol l) (pp:Pol p) (pq:Pol q) (pr:Pol r) (c:Cs l (D l)) (e:l=p*q*r):Cs p q:=by
  obtain ⟨U,W,pU,pW,h⟩:=c
  have d1:D l=D p*(q*r)+p*(D q*r+q*D r):=by
    rw [e,show p*q*r=p*(q*r) by grind,D_mul pp,D_mul pq]
  refine ⟨U*(q*r)+W*(D q*r+q*D r),W*(D p*r),(pU.mul (pq.mul pr)).add (pW.mul ((pq.D.mul pr).add (pq.mul pr.D))),pW.mul (pp.D.mul pr),?_⟩
  rw [d1,e] at h
  grind
end Sr
end Bs
namespace Bs
open PySem
noncomputable def qcf (K:W.Frag):Addr:=match PySem.W.nsIn K PySem.mainGlobals "EXPONENTS" with | some (some (.ref a))=>a | _=>0
end Bs
namespace Bs
open PySem L2
noncomputable abbrev Nm (H:Hp) (p:Addr) (t d:Int):Prop:=H p=some (.tup [.int t,.int d])
noncomputable def qau (_:W.Frag):Sp:=fun vs H Q _=>∃ a b:Int,vs=[.int a,.int b]∧Q (.int ((Int.gcd a b:Nat):Int)) H
noncomputable def qj4 (K:W.Frag):Sp:=fun vs H Q _=>∃ (a:Addr) (ns:List Int),vs=[.ref a]∧SqL K H a (ns.map V.int)∧ns.length≤63∧∀ H',Q (.bl true) H'
noncomputable def qcT (_:W.Frag):Sp:=fun vs H Q _=>∃ (x n:Int) (b:Nat),vs=[.int x,.int n]∧0≤n∧Bd b x∧b*n.toNat+1≤200000∧Q (.int (x ^ n.toNat)) H
noncomputable def qcI (n:Nat) (f:Nat→Int):List V:=((List.range n).map f).map V.int
noncomputable def qcD (ns:List Int):Nat→Nat
  | 0=>0
  | m+1=>if ns.getD m 1=0 then qcD ns m else m+1
noncomputable def qem (ns:List Int):List Int:=ns.take (qcD ns ns.length)
noncomputable def Pl (H:Hp) (r:Addr) (L:List Nu):Prop:=∃ zs,H r=some (.tup zs)∧Nums H zs L
noncomputable def qaV (_:W.Frag):Sp:=fun vs H Q _=>∃ (p:Addr) (ns:List Int),vs=[.ref p]∧H p=some (.lst (ns.map V.int))∧∀ r,H r=none→Q (.ref r) (upd H r (.lst ((qem ns).map V.int)))
noncomputable def Tz (ns:List Int):Prop:=ns=[]∨co ns (ns.length - 1)≠0
noncomputable def SDs (H:Hp):List V→List (List Int)→Prop
  | [],[]=>True
  | x::xs,r::rs=>(∃ p,x=.ref p∧H p=some (.lst (r.map V.int)))∧SDs H xs rs
  | _,_=>False
noncomputable def SD (H:Hp) (p:Addr) (rs:List (List Int)):Prop:=∃ xs,H p=some (.lst xs)∧SDs H xs rs
noncomputable def ZipR (R:List Int→List Int→List Int→Prop):List (List Int)→List (List Int)→List (List Int)→Prop
  | [],[],[]=>True
  | a::as,b::bs,c::cs=>R a b c∧ZipR R as bs cs
  | _,_,_=>False
noncomputable def qbQ (_:W.Frag):Sp:=fun vs H Q _=>∃ (p:Addr) (ns:List Int) (st:Int),vs=[.ref p,.int st]∧H p=some (.lst (ns.map V.int))∧ns.length≤1000∧∀ (g:Int) (H':Hp),Same H H'→0≤g→g∣st→(∀ z∈ns,g∣z)→(∀ d:Int,d∣st→(∀ z∈ns,d∣z)→d∣g)→Q (.int g) H'
noncomputable def qbm (_:W.Frag):Sp:=fun vs H Q _=>∃ (p:Addr) (ns:List Int) (g:Int),vs=[.ref p,.int g]∧H p=some (.lst (ns.map V.int))∧(0<g∨ns=[])∧ns.length≤1000∧∀ r,H r=none→Q (.ref r) (upd H r (.lst ((ns.map (· / g)).map V.int)))
noncomputable def qbI (_:W.Frag):Sp:=fun vs H Q _=>∃ (p q:Addr) (ns ms:List Int) (f w:Int) (s:Nat),vs=[.ref p,.int f,.ref q,.int w,.int (s:Int)]∧H p=some (.lst (ns.map V.int))∧H q=some (.lst (ms.map V.int))∧ns.length≤1000∧s+ms.length≤1000∧Bd 60000000 f∧Bd 60000000 w∧(∀ z∈ns,Bd 60000000 z)∧(∀ z∈ms,Bd 60000000 z)∧
  ∀ (r:Addr) (rs:List Int) (H':Hp),Same H H'→H' r=some (.lst (rs.map V.int))→Tz rs→(∀ k,co rs k=f*co ns k - w*upS s (co ms) k)→Q (.ref r) H'
noncomputable def qbN (_:W.Frag):Sp:=fun vs H Q _=>∃ (p q:Addr) (ns ms:List Int) (b d:Nat),vs=[.ref p,.ref q]∧H p=some (.lst (ns.map V.int))∧H q=some (.lst (ms.map V.int))∧Lz ms∧(∀ z∈ns,Bd b z)∧(∀ z∈ms,Bd d z)∧b+ns.length*(d+1)≤60000000∧d≤60000000∧ns.length≤1000∧ms.length≤1000∧((¬ ∃ A:List Int,∀ k,co ns k=cvL A (co ms) k)→∀ H',Same H H'→Q .non H')∧
  ∀ (r:Addr) (qs:List Int) (H':Hp),Same H H'→H' r=some (.lst (qs.map V.int))→(∀ k,co ns k=cvL qs (co ms) k)→Q (.ref r) H'
noncomputable def Sh (rows rows':List (List Int)):Prop:=∃ g:Int,0<g∧rows=rows'.map (·.map (g*·))
noncomputable def qsU (rows:List (List Int)):Prop:=(∀ r∈rows,r=[])∨∀ d:Int,(∀ r∈rows,∀ z∈r,d∣z)→d.natAbs=1
noncomputable def qaK (_:W.Frag):Sp:=fun vs H Q _=>∃ (p:Addr) (rows:List (List Int)),vs=[.ref p]∧SD H p rows∧rows.length≤1000∧(∀ r∈rows,r.length≤1000∧Tz r)∧
  ∀ (t:Addr) (rows':List (List Int)) (H':Hp),Same H H'→SD H' t rows'→Sh rows rows'→qsU rows'→Q (.ref t) H'
noncomputable def qaO (_:W.Frag):Sp:=fun vs H Q _=>∃ (p:Addr) (ns:List Int),vs=[.ref p]∧H p=some (.lst (ns.map V.int))∧ns.length≤1000∧Tz ns∧
  ∀ (t:Addr) (ms:List Int) (g:Int) (H':Hp),Same H H'→H' t=some (.lst (ms.map V.int))→0<g→ns=ms.map (g*·)→(ns=[]∨Prim ms)→Q (.ref t) H'
noncomputable def qbw (_:W.Frag):Sp:=fun vs H Q _=>∃ (p q:Addr) (o:List Int),vs=[.ref p,.ref q]∧SD H p [[]]∧SD H q [o]∧0<o.length∧∀ (t:Addr) (H':Hp),Same H H'→SD H' t [[]]→Q (.ref t) H'
noncomputable def qa5 (_:W.Frag):Sp:=fun vs H Q _=>∃ (p q:Addr) (s o:List Int),vs=[.ref p,.ref q]∧SD H p [s]∧SD H q [o]∧(s=[]∨o=[])∧∀ (t:Addr) (H':Hp),Same H H'→SD H' t [if o=[] then s else o]→Q (.ref t) H'
noncomputable def qba (_:W.Frag):Sp:=fun vs H Q _=>∃ a p:Int,vs=[.int a,.int p]∧2≤p∧Bd 45000 p∧∀ r:Int,0≤r→r<p→(Int.gcd a p=1→p∣r*a - 1)→Q (.int r) H
noncomputable def qbp (_:W.Frag):Sp:=fun vs H Q _=>∃ (p:Addr) (ns:List Int) (m:Int),vs=[.ref p,.int m]∧H p=some (.lst (ns.map V.int))∧0<m∧ns.length≤1000∧∀ r,H r=none→Q (.ref r) (upd H r (.lst ((ns.map (· % m)).map V.int)))
noncomputable def Md (m:Int) (rs:List Int) (f:Nat→Int):Prop:=(∀ z∈rs,0≤z∧z<m)∧∀ k,m∣co rs k - f k
noncomputable def qbc (_:W.Frag):Sp:=fun vs H Q _=>∃ (p:Addr) (ns:List Int) (m:Int),vs=[.ref p,.int m]∧H p=some (.lst (ns.map V.int))∧0<m∧ns.length≤1000∧∀ (r:Addr) (rs:List Int) (H':Hp),Same H H'→H' r=some (.lst (rs.map V.int))→Tz rs→rs.length≤ns.length→Md m rs (co ns)→Q (.ref r) H'
noncomputable def qa2 (_:W.Frag):Sp:=fun vs H Q _=>∃ (q:Addr) (ns:List Int) (p:Nat),vs=[.ref q,.int (p:Int)]∧H q=some (.lst (ns.map V.int))∧Pr p∧Bd 45000 (p:Int)∧ns.length≤1000∧Tz ns∧(∀ z∈ns,0≤z∧z<(p:Int))∧
  ∀ (r:Addr) (rs:List Int) (f:Int) (H':Hp),Same H H'→H' r=some (.lst (rs.map V.int))→rs.length=ns.length→(ns≠[]→co rs (rs.length - 1)=1)→Md (p:Int) rs (fun k=>f*co ns k)→Q (.ref r) H'
noncomputable def qbq (_:W.Frag):Sp:=fun vs H Q _=>∃ (p q:Addr) (ns ms:List Int) (m:Int) (b:Nat),vs=[.ref p,.ref q,.int m]∧H p=some (.lst (ns.map V.int))∧H q=some (.lst (ms.map V.int))∧0<ms.length∧co ms (ms.length - 1)=1∧0<m∧Bd b m∧(∀ z∈ms,Bd b z)∧b≤60000000∧ns.length≤1000∧ms.length≤1000∧
  ∀ (t r s:Addr) (qs rs:List Int) (H':Hp),Same H H'→H' t=some (.tup [.ref r,.ref s])→H' r=some (.lst (qs.map V.int))→H' s=some (.lst (rs.map V.int))→Tz qs→Tz rs→rs.length<ms.length→Md m rs (fun k=>co ns k - cvL qs (co ms) k)→(∀ z∈qs,0≤z∧z<m)→Q (.ref t) H'
noncomputable def qbx (_:W.Frag):Sp:=fun vs H Q _=>∃ (p q:Addr) (ns ms:List Int) (m:Int) (b:Nat),vs=[.ref p,.ref q,.int m]∧H p=some (.lst (ns.map V.int))∧H q=some (.lst (ms.map V.int))∧0<ms.length∧co ms (ms.length - 1)=1∧0<m∧Bd b m∧(∀ z∈ms,Bd b z)∧b≤60000000∧ns.length≤1000∧ms.length≤1000∧
  ∀ (s:Addr) (qs rs:List Int) (H':Hp),Same H H'→H' s=some (.lst (rs.map V.int))→Tz rs→rs.length<ms.length→Md m rs (fun k=>co ns k - cvL qs (co ms) k)→Q (.ref s) H'
noncomputable def qbk (_:W.Frag):Sp:=fun vs H Q _=>∃ (a b:Addr) (ns ms:List Int) (p:Nat),vs=[.ref a,.ref b,.int (p:Int)]∧H a=some (.lst (ns.map V.int))∧H b=some (.lst (ms.map V.int))∧Pr p∧Bd 45000 (p:Int)∧ns.length≤1000∧ms.length≤1000∧((∃ k,¬ (p:Int)∣co ns k)∨∃ k,¬ (p:Int)∣co ms k)∧
  ∀ (s:Addr) (rs:List Int) (H':Hp),Same H H'→H' s=some (.lst (rs.map V.int))→0<rs.length→rs.length≤1000→co rs (rs.length - 1)=1→(∀ z∈rs,0≤z∧z<(p:Int))→(∀ g:Nat→Int,Dm (p:Int) g (co ns)→Dm (p:Int) g (co ms)→Dm (p:Int) g (co rs))→Dm (p:Int) (co rs) (co ns)→Dm (p:Int) (co rs) (co ms)→Q (.ref s) H'
noncomputable def qcg (_:W.Frag):Sp:=fun vs H Q _=>∃ w p:Int,vs=[.int w,.int p]∧0<p∧∀ r:Int,p∣r - w→2*r.natAbs≤p.natAbs→Q (.int r) H
noncomputable def Fi (e:Nat) (ns:List Int):Prop:=∀ A g:List Int,(∀ k,co ns k=cvL A (co g) k)→∀ k,Bd e (co g k)
noncomputable def Fp (e:Nat) (ns:List Int):Prop:=∀ g:List Int,Lz g→Prim g→MQ (co g) (co ns)→∀ k,Bd e (co g k)
noncomputable def qtg (e c N p:Nat):Prop:=2 ^ ((e+c+2)*N)<p
noncomputable def qa3 (_:W.Frag):Sp:=fun vs H Q _=>∃ (a b:Addr) (ns ms:List Int) (p d e c N:Nat),vs=[.ref a,.ref b,.int (p:Int)]∧H a=some (.lst (ns.map V.int))∧H b=some (.lst (ms.map V.int))∧Pr p∧Bd 45000 (p:Int)∧Lz ns∧Lz ms∧(∀ z∈ns,Bd d z)∧(∀ z∈ms,Bd d z)∧d+ns.length*45001≤3000000∧d+ms.length*45001≤3000000∧Fi e ns∧Fi e ms∧ns.length+ms.length<2 ^ (c+1)∧ns.length+ms.length≤N+2∧2≤N∧(¬ qtg e c N p→∀ H',Same H H'→Q .non H')∧
  ∀ (s:Addr) (rs:List Int) (H':Hp),Same H H'→H' s=some (.lst (rs.map V.int))→RC (co ns) (co ms) rs→Prim rs→Q (.ref s) H'
noncomputable def qbJ (_:W.Frag):Sp:=fun vs H Q _=>∃ (a b:Addr) (ns ms:List Int) (d e c N:Nat),vs=[.ref a,.ref b]∧H a=some (.lst (ns.map V.int))∧H b=some (.lst (ms.map V.int))∧Tz ns∧Tz ms∧(∀ z∈ns,Bd d z)∧(∀ z∈ms,Bd d z)∧d≤200000∧ns.length≤60∧ms.length≤60∧(ns≠[]→ms≠[]→Fp e ns∧Fp e ms)∧ns.length+ms.length<2 ^ (c+1)∧ns.length+ms.length≤N+2∧2≤N∧(e+c+2)*N≤44490∧
  ∀ (s:Addr) (rs:List Int) (H':Hp),Same H H'→H' s=some (.lst (rs.map V.int))→((ns≠[]∨ms≠[])→RC (co ns) (co ms) rs∧Prim rs)→(ns=[]→ms=[]→rs=[])→Q (.ref s) H'
structure Gq (b c:Nat) (l:List Nu):Prop where
  low:qap l
  nz:Nz l
  ov:∃ M,Ov l M∧Bd c M∧∀ z∈ovN l M,Bd b z
noncomputable def mnc (g:List Int):List Nu:=g.map fun n=>qb7 n (co g (g.length - 1))
noncomputable def MR (g f:Nat→Rat):Prop:=∃ A:List Rat,∀ k,f k=cvL A g k
noncomputable def qaS (_:W.Frag):Sp:=fun vs H Q _=>∃ a b:Int,vs=[.int a,.int b]∧b≠0∧∀ (p:Addr),H p=none→Q (.ref p) (upd H p (.tup [.int (qb7 a b).1,.int (qb7 a b).2]))
noncomputable def qbs (_:W.Frag):Sp:=fun vs H Q _=>∃ (p:Addr) (xs:List V) (l:List Nu),vs=[.ref p]∧H p=some (.lst xs)∧Nums H xs l∧l.length≤1000∧qrt H Q (trim l)
noncomputable def qbi (_:W.Frag):Sp:=fun vs H Q _=>∃ (p:Addr) (xs:List V) (l:List Nu) (M:Int),vs=[.ref p]∧H p=some (.tup xs)∧Nums H xs l∧qap l∧Ov l M∧Bd 400000 M∧(∀ q∈l,Bd 60000000 q.1)∧l.length≤1000∧
  ∀ (r a:Addr) (H':Hp),Same H H'→H' r=some (.tup [.ref a,.int (qbv l)])→H' a=some (.lst ((qa6 l).map V.int))→Q (.ref r) H'
noncomputable def qbf (_:W.Frag):Sp:=fun vs H Q _=>∃ (p:Addr) (ns:List Int) (B:Int),vs=[.ref p,.int B]∧H p=some (.lst (ns.map V.int))∧B≠0∧ns.length≤1000∧qrt H Q (trim (ns.map fun n=>qb7 n B))
noncomputable def qbK (_:W.Frag):Sp:=fun vs H Q _=>∃ (p q:Addr) (xs ys:List V) (l m:List Nu) (b c e d N:Nat),vs=[.ref p,.ref q]∧H p=some (.tup xs)∧H q=some (.tup ys)∧Nums H xs l∧Nums H ys m∧Gq b c l∧Gq b c m∧b≤200000∧c≤200000∧l.length≤60∧m.length≤60∧(l≠[]→m≠[]→Fp e (qa6 l)∧Fp e (qa6 m))∧l.length+m.length<2 ^ (d+1)∧l.length+m.length≤N+2∧2≤N∧(e+d+2)*N≤44490∧
  (l=[]→m=[]→qrt H Q [])∧((l≠[]∨m≠[])→∀ g,RC (co (qa6 l)) (co (qa6 m)) g→Prim g→qrt H Q (mnc g))
noncomputable def qj5 (f:Nu→Nu→Nu) (_:W.Frag):Sp:=fun vs H Q _=>∃ (p q:Addr) (a b c d:Int),vs=[.ref p,.ref q]∧Nm H p a b∧Nm H q c d∧0<b∧0<d∧Bd 60000000 a∧Bd 60000000 b∧Bd 60000000 c∧Bd 60000000 d∧
  ∀ (r:Addr),H r=none→Q (.ref r) (upd H r (.tup [.int (f (a,b) (c,d)).1,.int (f (a,b) (c,d)).2]))
noncomputable def qch (_:W.Frag):Sp:=fun vs H Q _=>∃ (p q:Addr) (xs ys:List V) (l m:List Nu) (b c d e:Nat),vs=[.ref p,.ref q]∧H p=some (.tup xs)∧H q=some (.tup ys)∧Nums H xs l∧Nums H ys m∧Gq b c l∧Gq d e m∧m≠[]∧l.length≤100∧m.length≤100∧
  c+(l.length+1 - m.length)*d≤400000∧b+(l.length+1 - m.length)*(d+1)+e≤900000∧e≤400000∧d≤400000∧
  ∀ (t u v:Addr) (H':Hp) (qs rs:List Nu),Same H H'→H' t=some (.tup [.ref u,.ref v])→Pl H' u qs→Pl H' v rs→qap qs→Nz qs→qs.length≤l.length+1 - m.length→Gq (b+(l.length+1 - m.length)*(d+1)) (c+(l.length+1 - m.length)*d) rs→rs.length<m.length→
    (∀ k,pwo l k=cv (pwo qs) (pwo m) qs.length k+pwo rs k)→Q (.ref t) H'
noncomputable def Cop (T B:Nat→Rat):Prop:=∃ U W:List Rat,∀ k,(qcb k:Rat)=cvL U T k+cvL W B k
noncomputable abbrev qdR:=qj5 nmul
noncomputable def qe9 (_:W.Frag):Sp:=fun vs H Q _=>∃ (p q:Addr) (a b c d:Int),vs=[.ref p,.ref q]∧Nm H p a b∧Nm H q c d∧0<b∧c≠0∧Bd 60000000 a∧Bd 60000000 b∧Bd 60000000 c∧Bd 60000000 d∧
  ∀ (r:Addr),H r=none→Q (.ref r) (upd H r (.tup [.int (qb7 (a*d) (b*c)).1,.int (qb7 (a*d) (b*c)).2]))
noncomputable def qbO (_:W.Frag):Sp:=fun vs H Q _=>∃ (p q:Addr) (ns ms:List Int) (b d:Nat),vs=[.ref p,.ref q]∧H p=some (.lst (ns.map V.int))∧H q=some (.lst (ms.map V.int))∧(∀ z∈ns,Bd b z)∧(∀ z∈ms,Bd d z)∧b≤900000∧d≤900000∧ns.length≤100∧ms.length≤100∧
  ∀ (r:Addr) (H':Hp),Same H H'→H' r=some (.lst ((if ns.length=0∨ms.length=0 then [] else (List.range (ns.length+ms.length - 1)).map fun k=>ps ns ms ns.length k).map V.int))→Q (.ref r) H'
noncomputable def qa4 (_:W.Frag):Sp:=fun vs H Q _=>∃ (p q:Addr) (xs ys:List V) (l m:List Nu) (b c d e:Nat),vs=[.ref p,.ref q]∧H p=some (.tup xs)∧H q=some (.tup ys)∧Nums H xs l∧Nums H ys m∧Gq b c l∧Gq d e m∧l.length≤100∧m.length≤100∧b≤300000∧c≤300000∧d≤300000∧e≤300000∧
  ∀ (r:Addr) (R:List Nu) (H':Hp),Same H H'→Pl H' r R→Gq (b+d+l.length) (c+e) R→R.length≤l.length+m.length - 1→(∀ k,pwo R k=cv (pwo l) (pwo m) l.length k)→Q (.ref r) H'
noncomputable def qbP (_:W.Frag):Sp:=fun vs H Q _=>∃ (p c:Addr) (xs:List V) (l:List Nu) (a b:Int),vs=[.ref p,.ref c]∧H p=some (.tup xs)∧Nm H c a b∧Nums H xs l∧qap l∧0<b∧Bd 60000000 a∧Bd 60000000 b∧(∀ q∈l,Bd 60000000 q.1∧Bd 60000000 q.2)∧l.length≤1000∧qrt H Q (trim (l.map fun q=>nmul q (a,b)))
noncomputable def qaR (_:W.Frag):Sp:=fun vs H Q _=>∃ (p q:Addr) (xs ys:List V) (l m:List Nu) (b c d e:Nat),vs=[.ref p,.ref q]∧H p=some (.tup xs)∧H q=some (.tup ys)∧Nums H xs l∧Nums H ys m∧Gq b c l∧Gq d e m∧m≠[]∧l.length≤100∧m.length≤100∧
  c+(l.length+1 - m.length)*d≤400000∧b+(l.length+1 - m.length)*(d+1)+e≤900000∧e≤400000∧d≤400000∧MR (pwo m) (pwo l)∧
  ∀ (r:Addr) (R:List Nu) (H':Hp),Same H H'→Pl H' r R→qap R→Nz R→R.length≤l.length+1 - m.length→(∀ k,pwo l k=cv (pwo R) (pwo m) R.length k)→Q (.ref r) H'
noncomputable def Bx (H:Hp) (p:Addr):Prop:=∃ z:Int,H p=some (.lst [.int z])
noncomputable def qen (K:W.Frag):Sp:=fun vs H Q _=>∃ (s:Addr) (ns:List Int) (k:Int),vs=[.ref s,.int k]∧SqL K H s (ns.map V.int)∧0≤k∧∀ z:Int,Q (.int z) H
noncomputable def qb9 (K:W.Frag):Sp:=fun vs H Q _=>∃ (s:Addr) (ns:List Int) (k:Int),vs=[.ref s,.int k]∧SqL K H s (ns.map V.int)∧0≤k∧k≤1000∧∀ (r:Addr) (z:Int),H r=none→Q (.ref r) (upd H r (.lst [.int z]))
noncomputable def qaL (_:W.Frag):Sp:=fun vs H Q _=>∃ (p:Addr) (m:Int),vs=[.ref p,.int m]∧Bx H p∧0<m∧∀ (d:Int) (H':Hp),0≤d→d<m→Bx H' p→Kp p H H'→Q (.int d) H'
noncomputable abbrev qha:=qj5 nadd
noncomputable abbrev qfr:=qj5 nsub
noncomputable def qbg (_:W.Frag):Sp:=fun vs H Q _=>∃ (p:Addr) (xs:List V) (l:List Nu) (i:Nat),vs=[.ref p,.int (i:Int)]∧H p=some (.tup xs)∧Nums H xs l∧∀ (v:V) (H':Hp),Same H H'→isN H' v (qa9 l i)→Q v H'
noncomputable def qpm (f:Nu→Nu→Nu) (s:Rat) (_:W.Frag):Sp:=fun vs H Q _=>∃ (p q:Addr) (xs ys:List V) (l m:List Nu) (M:Int) (b c:Nat),vs=[.ref p,.ref q]∧H p=some (.tup xs)∧H q=some (.tup ys)∧Nums H xs l∧Nums H ys m∧qap l∧qap m∧Ov l M∧Ov m M∧Bd c M∧(∀ z∈ovN l M,Bd b z)∧(∀ z∈ovN m M,Bd b z)∧b≤300000∧c≤300000∧l.length≤100∧m.length≤100∧
  ∀ (r:Addr) (R:List Nu) (H':Hp),Same H H'→Pl H' r R→Gq (b+1) c R→R.length≤max l.length m.length→(∀ k,pwo R k=pwo l k+s*pwo m k)→Q (.ref r) H'
noncomputable abbrev qeo:=qpm nadd 1
noncomputable abbrev qci:=qpm nsub (-1)
noncomputable def qcU (_:W.Frag):Sp:=fun vs H Q _=>∃ (p q:Addr) (l m:List Nu),vs=[.ref p,.ref q]∧Pl H p l∧Pl H q m∧qap l∧qap m∧Nz m∧m≠[]∧(∀ q∈l,Bd 1000000 q.1∧Bd 1000000 q.2)∧(∀ q∈m,Bd 1000000 q.1∧Bd 1000000 q.2)∧l.length≤1000∧m.length≤1000∧
  ∀ fa:Nu,Low fa.1 fa.2→val fa*val (qa9 m (m.length - 1))=1→∀ (t u v:Addr) (H':Hp),Same H H'→H' t=some (.tup [.ref u,.ref v])→Pl H' u (trim (l.map fun q=>nmul q (fa.1,fa.2)))→Pl H' v (trim (m.map fun q=>nmul q (fa.1,fa.2)))→Q (.ref t) H'
noncomputable def rw' (l:List Nu):List Rat:=(List.range l.length).map (pwo l)
noncomputable def FF (H:Hp) (p:Addr) (T B:List Nu):Prop:=∃ u v,H p=some (.tup [.ref u,.ref v])∧Pl H u T∧Pl H v B
noncomputable def dv (f:Nat→Rat) (k:Nat):Rat:=((k:Rat)+1)*f (k+1)
noncomputable def qb3 (_:W.Frag):Sp:=fun vs H Q _=>∃ (p:Addr) (xs:List V) (l:List Nu) (b c:Nat),vs=[.ref p]∧H p=some (.tup xs)∧Nums H xs l∧Gq b c l∧l.length≤31∧b≤200000∧c≤200000∧
  ∀ (r:Addr) (R:List Nu) (H':Hp),Same H H'→Pl H' r R→Gq (b+5) c R→R.length=l.length - 1→(∀ k,pwo R k=dv (pwo l) k)→Q (.ref r) H'
end Bs
namespace Bs
open PySem L2
noncomputable def sr (l:List Nu):Sr:=⟨pwo l⟩
noncomputable def si (ns:List Int):Sr:=⟨fun k=>(co ns k:Rat)⟩
noncomputable def dI (ns:List Int):List Int:=(List.range (ns.length - 1)).map fun k=>((k+1:Nat):Int)*co ns (k+1)
structure Lw (T B:List Nu):Prop where
  lt:qap T
  lb:qap B
  nt:Nz T
  nb:Nz B
  ne:B≠[]
  one:qa9 B (B.length - 1)=(1,1)
  cs:Sr.Cs (sr T) (sr B)
structure Rp (b n m:Nat) (T B:List Nu):Prop where
  lw:Lw T B
  rp:∃ N D:List Int,Lz D∧Tz N∧(∀ z∈N,Bd b z)∧(∀ z∈D,Bd b z)∧N.length≤n∧D.length≤m∧sr T*si D=si N*sr B
structure C0 (x n m e:Nat):Prop where
  n1:1≤n
  m1:1≤m
  n60:n≤60
  m60:m≤60
  ne:n<2 ^ e
  me:m<2 ^ e
  e6:e≤6
  lu:(x+e+2)*(n+m)≤44490
noncomputable abbrev C1 (b n m e:Nat):Prop:=C0 (b+max n m*(2*e+4)) n m e
structure C2 (b n m e:Nat):Prop where
  a:C1 b m m e
  t:C1 (2*b+e+1) (n+m - 1) m e
  b9:b≤5000
  m50:m≤50
noncomputable def qaY (_:W.Frag):Sp:=fun vs H Q _=>∃ (p q:Addr) (l m:List Nu) (b x n k e:Nat),vs=[.ref p,.ref q]∧Pl H p l∧Pl H q m∧Gq b b l∧Gq b b m∧m≠[]∧l.length≤n∧m.length≤k∧(l≠[]→Fp x (qa6 l))∧Fp x (qa6 m)∧C0 x n k e∧b≤20000∧
  ∀ (t:Addr) (H':Hp) (T B:List Nu),Same H H'→FF H' t T B→Lw T B→sr T*sr m=sr l*sr B→Q (.ref t) H'
noncomputable def qjb (s:Rat) (_:W.Frag):Sp:=fun vs H Q _=>∃ (p q:Addr) (T B T' B':List Nu) (b n m e:Nat),vs=[.ref p,.ref q]∧FF H p T B∧FF H q T' B'∧Rp b n m T B∧Rp b n m T' B'∧C2 b n m e∧
  ∀ (t:Addr) (H':Hp) (X Y:List Nu),Same H H'→FF H' t X Y→Lw X Y→sr X*(sr B*sr B')=(sr T*sr B'+Sr.num s*sr T'*sr B)*sr Y→Q (.ref t) H'
noncomputable abbrev qaZ:=qjb 1
noncomputable abbrev qbR:=qjb (-1)
noncomputable def qaF (_:W.Frag):Sp:=fun vs H Q _=>∃ (p q:Addr) (T B T' B':List Nu) (b n m e:Nat),vs=[.ref p,.ref q]∧FF H p T B∧FF H q T' B'∧Rp b n m T B∧Rp b n m T' B'∧C1 b n m e∧b≤5000∧
  ∀ (t:Addr) (H':Hp) (X Y:List Nu),Same H H'→FF H' t X Y→Lw X Y→sr X*(sr B*sr B')=sr T*sr T'*sr Y→Q (.ref t) H'
noncomputable def qbZ (_:W.Frag):Sp:=fun vs H Q _=>∃ (p q:Addr) (T B T' B':List Nu) (b n m e:Nat),vs=[.ref p,.ref q]∧FF H p T B∧FF H q T' B'∧T'≠[]∧Rp b n m T B∧Rp b m n T' B'∧C1 b n m e∧b≤5000∧
  ∀ (t:Addr) (H':Hp) (X Y:List Nu),Same H H'→FF H' t X Y→Lw X Y→sr X*(sr B*sr T')=sr T*sr B'*sr Y→Q (.ref t) H'
noncomputable def qbb (_:W.Frag):Sp:=fun vs H Q _=>∃ (p:Addr) (T B:List Nu) (b n m e:Nat),vs=[.ref p]∧FF H p T B∧Rp b n m T B∧C1 b n m e∧C1 (b+m*(2*e+4)+6) m m e∧b≤5000∧n≤31∧m≤31∧
  ∀ (t:Addr) (H':Hp) (X Y:List Nu),Same H H'→FF H' t X Y→Lw X Y→sr X*(sr B*sr B)=(sr B*Sr.D (sr T) - sr T*Sr.D (sr B))*sr Y→Q (.ref t) H'
end Bs
namespace Bs
open PySem L2
noncomputable def qby (_:W.Frag):Sp:=fun vs H Q _=>∃ (p:Addr) (far:Bool),vs=[.ref p,.bl far]∧Bx H p∧∀ (r:Addr) (q:Nu) (H':Hp),isN H' (.ref r) q→Low q.1 q.2→Bd 40 q.1→Bd 40 q.2→(far=false→q.1.natAbs≤12∧q.2∣42)→Bx H' p→Kp p H H'→Q (.ref r) H'
noncomputable def qbE (_:W.Frag):Sp:=fun vs H Q _=>∃ (p:Addr) (m:Int) (far:Bool),vs=[.ref p,.int m,.bl far]∧Bx H p∧0≤m∧m≤2∧∀ (r:Addr) (l:List Nu) (H':Hp),Pl H' r l→Gq 161 121 l→(far=false→Gq 9 6 l)→(l.length:Int)≤m+1→Bx H' p→Kp p H H'→Q (.ref r) H'
noncomputable def qaW (_:W.Frag):Sp:=fun vs H Q _=>∃ (p:Addr) (m:Int) (far:Bool),vs=[.ref p,.int m,.bl far]∧Bx H p∧0≤m∧m≤2∧(far=true→m=1)∧∀ (r:Addr) (T B:List Nu) (H':Hp),FF H' r T B→(far=false→Rp 15 3 3 T B)→(far=true→Rp 180 2 2 T B)→Bx H' p→Kp p H H'→Q (.ref r) H'
noncomputable def qbF (_:W.Frag):Sp:=fun vs H Q _=>∃ (p:Addr) (m:Int),vs=[.ref p,.int m]∧Bx H p∧(m=5∨m=6)∧∀ (r:Addr) (l:List Nu) (H':Hp),Pl H' r l→Gq 3 1 l→l≠[]→(l.length:Int)≤m+1→Bx H' p→Kp p H H'→Q (.ref r) H'
noncomputable def qb0 (_:W.Frag):Sp:=fun vs H Q _=>∃ (p q:Addr) (T B T' B':List Nu),vs=[.ref p,.ref q]∧FF H p T B∧FF H q T' B'∧Rp 15 7 3 T B∧Rp 15 7 3 T' B'∧∀ H',Same H H'→Q (.bl true) H'
noncomputable def qdA (_:W.Frag):Sp:=fun vs H Q _=>∃ (p q r:Addr) (T B T' B' T2 B2:List Nu),vs=[.ref p,.ref q,.ref r]∧FF H p T B∧FF H q T' B'∧FF H r T2 B2∧Rp 15 7 3 T B∧Rp 15 7 3 T' B'∧Rp 180 2 2 T2 B2∧∀ H',Same H H'→Q (.bl true) H'
end Bs
namespace Bs
open PySem L2
set_option linter.unusedVariables false
noncomputable def qcA (K:W.Frag):TS:=
  (qaN (qdZ (qbo (tOp rNe (qaf 1) (tC (.int 0)))) (qaN (qa7 (tOp qqB (qaf 0) (qaf 1)) (qaq 2))
    (qaN (qa7 (qaf 1) (qaq 0))
    (qa7 (qaf 2) (qaq 1)))))
    (qbH (tCB qrr (qab (qaf 0) qam))))
noncomputable def qjc (K:W.Frag):TS:=
  (qaN (qa7 (tC (.int 1)) (qaq 2))
    (qaN (qa7 (qaf 0) (qaq 3))
    (qaN (qdZ (qbo (tOp iGt (qaf 1) (tC (.int 0)))) (qaN (qeP (qbo (tOp rEq (tOp qkI (qaf 1) (tC (.int 2))) (tC (.int 1)))) (qmS 2 (qaf 3) qdG) qbW)
    (qaN (qmS 1 (tC (.int 2)) qo3)
    (qeP (qbo (tOp iGt (qaf 1) (tC (.int 0)))) (qmS 3 (qaf 3) qdG) qbW))))
    (qbH (qaf 2)))))
noncomputable def qhb (K:W.Frag):TS:=
  (qaN (qa7 (qaj (qau K) [] E0 (qab (qo8 (qlD (qfl K (qaf 0)) [none] (qaq 0) (qbo (tOp rNe (qaf 0) (tC (.int 0)))) (tCB qrr (qab (qaf 0) qam)))) (qab (qaf 1) qam))) (qaq 2))
    (qaN (qhZ (qfl K (qaf 0)) (qaq 3) (qaN (qeP (qbo (tOp rEq (qaf 2) (tC (.int 1)))) (qbH (tC (.int 1))) qbW)
    (qa7 (qaj (qau K) [] E0 (qab (qaf 3) (qab (qaf 2) qam))) (qaq 2))))
    (qbH (qaf 2))))
noncomputable def qdS (K:W.Frag):TS:=
  (qaN (qa7 (tCB qc6 (qab (qaf 0) qam)) (qaq 1))
    (qaN (qdZ (qpR (qbo (tOp iGt (qaf 1) (tC (.int 0)))) (qbo (tOp rEq (tOp gL (qaf 0) (tOp qeH (qaf 1) (tC (.int 1)))) (tC (.int 0))))) (qmS 1 (tC (.int 1)) qeH))
    (qbH (tSl sL (qaf 0) qe0 (qkB (qaf 1))))))
noncomputable def qep (K:W.Frag):TS:=
  (qbH (qcG (qfl K (qaf 0)) [none,some 1] (qaq 0) (tOp qh0 (qaf 0) (qaf 1))))
noncomputable def qfa (K:W.Frag):TS:=
  (qaN (qeP (tOr (qrp (qg2 (qaf 0))) (qrp (qg2 (qaf 1)))) (qbH (qih qam)) qbW)
    (qaN (qa7 (tOp qpV (qih (qab (tC (.int 0)) qam)) (tOp qeH (tOp qgx (tCB qc6 (qab (qaf 0) qam)) (tCB qc6 (qab (qaf 1) qam))) (tC (.int 1)))) (qaq 2))
    (qaN (qhZ (qin K (qab (qaf 0) qam)) (qkM 2 (qgK (qaq 3) (qgK (qaq 4) qqo))) (qeP (qbo (tOp rNe (qaf 4) (tC (.int 0)))) (qhZ (qin K (qab (qaf 1) qam)) (qkM 2 (qgK (qaq 5) (qgK (qaq 6) qqo))) (qkx (qaf 2) (tOp qgx (qaf 3) (qaf 5)) (tOp qdG (qaf 4) (qaf 6)) gL qgx qgM)) qbW))
    (qbH (qaf 2)))))
noncomputable def qeq (K:W.Frag):TS:=
  (qeP (qbo (tOp rNe (qaf 6) (tC (.int 0)))) (qhZ (qhY (qab (qaf 3) qam)) (qaq 7) (qkx (qaf 2) (tOp qgx (qaf 5) (qaf 7)) (tOp qdG (qaf 6) (tOp gL (qaf 1) (qaf 7))) gL qeH qgM)) qbW)
noncomputable def qer (K:W.Frag):TS:=
  (qaN (qa7 (qaf 6) (qqp (qaf 4) (qaf 5) qgM))
    (qeq K))
noncomputable def qes (K:W.Frag):TS:=
  (qaN (qeP (qbo (tOp rNe (tOp qdG (qaf 6) (tOp gL (qaf 1) (tUn qgy (tC (.int 1))))) (tOp gL (qaf 2) (tOp qgx (qaf 5) (qaf 3))))) (qbH (tC .non)) qbW)
    (qer K))
noncomputable def qet (K:W.Frag):TS:=
  (qaN (qa7 (tOp qgj (tOp gL (qaf 2) (tOp qgx (qaf 5) (qaf 3))) (tOp gL (qaf 1) (tUn qgy (tC (.int 1))))) (qaq 6))
    (qes K))
noncomputable def qgb (K:W.Frag):TS:=
  (qbH (tIf (tB (tCB qo9 (qab (tSl sL (qaf 2) qe0 (qkB (qaf 3))) qam))) (tC .non) (qaf 4)))
noncomputable def qgc (K:W.Frag):TS:=
  (qaN (qhZ (qo7 (qab (tOp qeH (tOp qeH (tCB qc6 (qab (qaf 0) qam)) (qaf 3)) (tC (.int 1))) (qab (tUn qgy (tC (.int 1))) (qab (tUn qgy (tC (.int 1))) qam)))) (qaq 5) (qet K))
    (qgb K))
noncomputable def qgd (K:W.Frag):TS:=
  (qaN (qa7 (tOp qpV (qih (qab (tC (.int 0)) qam)) (tCB qpW (qab (tOp qeH (tCB qc6 (qab (qaf 0) qam)) (qaf 3)) (qab (tC (.int 0)) qam)))) (qaq 4))
    (qgc K))
noncomputable def qge (K:W.Frag):TS:=
  (qaN (qa7 (tOp qeH (tCB qc6 (qab (qaf 1) qam)) (tC (.int 1))) (qaq 3))
    (qgd K))
noncomputable def qfT (K:W.Frag):TS:=
  (qaN (qa7 (tCB qjT (qab (qaf 0) qam)) (qaq 2))
    (qge K))
noncomputable def qfU (K:W.Frag):TS:=
  (qaN (qa7 (qcG (qfl K (qaf 0)) [none,some 1] (qaq 0) (tOp qdG (qaf 1) (qaf 0))) (qaq 5))
    (qaN (qoX (tBM K "list" qiO (qaf 5) (qab (tOp qpV (qih (qab (tC (.int 0)) qam)) (tOp qeH (tOp qgx (tCB qc6 (qab (qaf 2) qam)) (qaf 4)) (tCB qc6 (qab (qaf 0) qam)))) qam)))
    (qaN (qhZ (qin K (qab (qaf 2) qam)) (qkM 2 (qgK (qaq 6) (qgK (qaq 7) qqo))) (qkx (qaf 5) (tOp qgx (qaf 6) (qaf 4)) (tOp qdG (qaf 3) (qaf 7)) gL qeH qgM))
    (qbH (qaj (qaV K) [] E0 (qab (qaf 5) qam))))))
noncomputable def qfs (K:W.Frag):TS:=
  (qa7 (qcG (qsN K (qab (qaf 0) (qab (qaf 1) qam))) [none,none,some 6,some 7,some 2] (qkM 2 (qgK (qaq 0) (qgK (qaq 1) qqo))) (qaj (qbI K) [] E0 (qab (qaf 0) (qab (qaf 2) (qab (qaf 1) (qab (qaf 3) (qab (qaf 4) qam))))))) (qaq 0))
noncomputable def qft (K:W.Frag):TS:=
  (qaN (qa7 (tOp qgj (qaf 3) (qaf 5)) (qaq 7))
    (qfs K))
noncomputable def qfu (K:W.Frag):TS:=
  (qaN (qa7 (tOp qgj (qaf 4) (qaf 5)) (qaq 6))
    (qft K))
noncomputable def qfv (K:W.Frag):TS:=
  (qaN (qa7 (qaj (qau K) [] E0 (qab (qaf 3) (qab (qaf 4) qam))) (qaq 5))
    (qfu K))
noncomputable def qfw (K:W.Frag):TS:=
  (qaN (qa7 (tOp gL (tOp gL (qaf 1) (tC (.int 0))) (tUn qgy (tC (.int 1)))) (qaq 4))
    (qfv K))
noncomputable def qfx (K:W.Frag):TS:=
  (qaN (qa7 (tOp gL (tOp gL (qaf 0) (tC (.int 0))) (tUn qgy (tC (.int 1)))) (qaq 3))
    (qfw K))
noncomputable def qfy (K:W.Frag):TS:=
  (qaN (qa7 (tOp qeH (tCB qc6 (qab (tOp gL (qaf 0) (tC (.int 0))) qam)) (tCB qc6 (qab (tOp gL (qaf 1) (tC (.int 0))) qam))) (qaq 2))
    (qfx K))
noncomputable def qeu (K:W.Frag):TS:=
  (qbH (qaj (qaK K) [] E0 (qab (qaf 0) qam)))
noncomputable def qdT (K:W.Frag):TS:=
  (qaN (qdZ (qbo (tOp iGe (tCB qc6 (qab (tOp gL (qaf 0) (tC (.int 0))) qam)) (tCB qc6 (qab (tOp gL (qaf 1) (tC (.int 0))) qam)))) (qfy K))
    (qeu K))
noncomputable def qca (K:W.Frag):TS:=
  (qaN (qa7 (tC (.int 0)) (qaq 1))
    (qaN (qhZ (qfl K (qaf 0)) (qaq 2) (qa7 (qaj (qbQ K) [] E0 (qab (qaf 2) (qab (qaf 1) qam))) (qaq 1)))
    (qbH (qcG (qfl K (qaf 0)) [none,some 1] (qaq 0) (qaj (qbm K) [] E0 (qab (qaf 0) (qab (qaf 1) qam)))))))
noncomputable def qcV (K:W.Frag):TS:=
  (qbH (tOp gL (qaj (qaK K) [] E0 (qab (qih (qab (qaf 0) qam)) qam)) (tC (.int 0))))
noncomputable def qcW (K:W.Frag):TS:=
  (qaN (qdZ (qg2 (tOp gL (qaf 1) (tC (.int 0)))) (qaN (qeP (qbo (tOp rEq (tCB qc6 (qab (tOp gL (qaf 1) (tC (.int 0))) qam)) (tC (.int 1)))) (qbH (qaf 1)) qbW)
    (qaN (qa7 (qaj (qbw K) [] E0 (qab (qaf 0) (qab (qaf 1) qam))) (qaq 2))
    (qaN (qa7 (qaf 1) (qaq 0))
    (qa7 (qaf 2) (qaq 1))))))
    (qbH (qaf 0)))
noncomputable def qcp (K:W.Frag):TS:=
  (qa7 (qaf 7) (qaq 5))
noncomputable def qcq (K:W.Frag):TS:=
  (qaN (qa7 (qaf 5) (qaq 4))
    (qcp K))
noncomputable def qcr (K:W.Frag):TS:=
  (qaN (qa7 (tOp qeH (qaf 4) (tOp qdG (qaf 6) (qaf 5))) (qaq 7))
    (qcq K))
noncomputable def qcs (K:W.Frag):TS:=
  (qaN (qa7 (qaf 7) (qaq 3))
    (qcr K))
noncomputable def qct (K:W.Frag):TS:=
  (qaN (qa7 (qaf 3) (qaq 2))
    (qcs K))
noncomputable def qcu (K:W.Frag):TS:=
  (qaN (qa7 (tOp qeH (qaf 2) (tOp qdG (qaf 6) (qaf 3))) (qaq 7))
    (qct K))
noncomputable def qcv (K:W.Frag):TS:=
  (qaN (qa7 (tOp qh0 (qaf 2) (qaf 3)) (qaq 6))
    (qcu K))
noncomputable def qdf (K:W.Frag):TS:=
  (qbH (tOp qkI (qaf 4) (qaf 1)))
noncomputable def qdg (K:W.Frag):TS:=
  (qaN (qdZ (qbo (tOp rNe (qaf 3) (tC (.int 0)))) (qcv K))
    (qdf K))
noncomputable def qdh (K:W.Frag):TS:=
  (qaN (qa7 (tC (.int 1)) (qaq 5))
    (qdg K))
noncomputable def qdi (K:W.Frag):TS:=
  (qaN (qa7 (tC (.int 0)) (qaq 4))
    (qdh K))
noncomputable def qdj (K:W.Frag):TS:=
  (qaN (qa7 (tOp qkI (qaf 0) (qaf 1)) (qaq 3))
    (qdi K))
noncomputable def qcB (K:W.Frag):TS:=
  (qaN (qa7 (qaf 1) (qaq 2))
    (qdj K))
noncomputable def qdq (K:W.Frag):TS:=
  (qbH (qcG (qfl K (qaf 0)) [none,some 1] (qaq 0) (tOp qkI (qaf 0) (qaf 1))))
noncomputable def qev (K:W.Frag):TS:=
  (qbH (qaj (qaV K) [] E0 (qab (qaj (qbp K) [] E0 (qab (qaf 0) (qab (qaf 1) qam))) qam)))
noncomputable def qdr (K:W.Frag):TS:=
  (qaN (qeP (qrp (qg2 (qaf 0))) (qbH (qih qam)) qbW)
    (qaN (qa7 (qaj (qba K) [] E0 (qab (tOp gL (qaf 0) (tUn qgy (tC (.int 1)))) (qab (qaf 1) qam))) (qaq 2))
    (qbH (qcG (qfl K (qaf 0)) [none,some 1,some 2] (qaq 0) (tOp qkI (tOp qdG (qaf 0) (qaf 2)) (qaf 1))))))
noncomputable def qcX (K:W.Frag):TS:=
  (qeP (qbo (tOp rNe (qaf 7) (tC (.int 0)))) (qhZ (qhY (qab (qaf 4) qam)) (qaq 8) (qkx (qaf 3) (tOp qgx (qaf 6) (qaf 8)) (tOp qdG (qaf 7) (tOp gL (qaf 1) (qaf 8))) gL qeH qgM)) qbW)
noncomputable def qcY (K:W.Frag):TS:=
  (qaN (qa7 (qaf 7) (qqp (qaf 5) (qaf 6) qgM))
    (qcX K))
noncomputable def qcZ (K:W.Frag):TS:=
  (qaN (qa7 (tOp qkI (tOp gL (qaf 3) (tOp qgx (qaf 6) (qaf 4))) (qaf 2)) (qaq 7))
    (qcY K))
noncomputable def qd2 (K:W.Frag):TS:=
  (qbH (qd6 (qab (qaj (qaV K) [] E0 (qab (qaf 5) qam)) (qab (qaj (qbc K) [] E0 (qab (tSl sL (qaf 3) qe0 (qkB (qaf 4))) (qab (qaf 2) qam))) qam))))
noncomputable def qd3 (K:W.Frag):TS:=
  (qaN (qhZ (qo7 (qab (tOp qeH (tOp qeH (tCB qc6 (qab (qaf 0) qam)) (qaf 4)) (tC (.int 1))) (qab (tUn qgy (tC (.int 1))) (qab (tUn qgy (tC (.int 1))) qam)))) (qaq 6) (qcZ K))
    (qd2 K))
noncomputable def qd4 (K:W.Frag):TS:=
  (qaN (qa7 (tOp qpV (qih (qab (tC (.int 0)) qam)) (tCB qpW (qab (tOp qeH (tCB qc6 (qab (qaf 0) qam)) (qaf 4)) (qab (tC (.int 0)) qam)))) (qaq 5))
    (qd3 K))
noncomputable def qd5 (K:W.Frag):TS:=
  (qaN (qa7 (tOp qeH (tCB qc6 (qab (qaf 1) qam)) (tC (.int 1))) (qaq 4))
    (qd4 K))
noncomputable def qds (K:W.Frag):TS:=
  (qaN (qa7 (tCB qjT (qab (qaf 0) qam)) (qaq 3))
    (qd5 K))
noncomputable def qdU (K:W.Frag):TS:=
  (qbH (tOp gT (qaj (qbq K) [] E0 (qab (qaf 0) (qab (qaf 1) (qab (qaf 2) qam)))) (tC (.int 1))))
noncomputable def qc0 (K:W.Frag):TS:=
  (qaN (qa7 (qaj (qa2 K) [] E0 (qab (qaj (qbc K) [] E0 (qab (qaf 0) (qab (qaf 2) qam))) (qab (qaf 2) qam))) (qaq 0))
    (qaN (qa7 (qaj (qa2 K) [] E0 (qab (qaj (qbc K) [] E0 (qab (qaf 1) (qab (qaf 2) qam))) (qab (qaf 2) qam))) (qaq 1))
    (qaN (qdZ (qg2 (qaf 1)) (qaN (qa7 (qaj (qbx K) [] E0 (qab (qaf 0) (qab (qaf 1) (qab (qaf 2) qam)))) (qaq 3))
    (qaN (qa7 (qaf 1) (qaq 0))
    (qa7 (qaj (qa2 K) [] E0 (qab (qaf 3) (qab (qaf 2) qam))) (qaq 1)))))
    (qbH (qaf 0)))))
noncomputable def qhc (K:W.Frag):TS:=
  (qaN (qa7 (tOp qkI (qaf 0) (qaf 1)) (qaq 2))
    (qbH (tIf (qbo (tOp iGt (tOp qdG (tC (.int 2)) (qaf 2)) (qaf 1))) (tOp qeH (qaf 2) (qaf 1)) (qaf 2))))
noncomputable def qcj (K:W.Frag):TS:=
  (qaN (qa7 (qaj (qau K) [] E0 (qab (tOp gL (qaf 0) (tUn qgy (tC (.int 1)))) (qab (tOp gL (qaf 1) (tUn qgy (tC (.int 1)))) qam))) (qaq 3))
    (qaN (qeP (qbo (tOp rEq (tOp qkI (qaf 3) (qaf 2)) (tC (.int 0)))) (qbH (tC .non)) qbW)
    (qaN (qa7 (qaj (qbk K) [] E0 (qab (qaf 0) (qab (qaf 1) (qab (qaf 2) qam)))) (qaq 4))
    (qaN (qa7 (qaj (qaO K) [] E0 (qab (qcG (qfl K (qaf 4)) [none,some 2,some 3] (qaq 0) (qaj (qcg K) [] E0 (qab (tOp qdG (qaf 2) (qaf 0)) (qab (qaf 1) qam)))) qam)) (qaq 5))
    (qaN (qeP (tOr (qbo (tOp qsz (qaj (qbN K) [] E0 (qab (qaf 0) (qab (qaf 5) qam))) (tC .non))) (qbo (tOp qsz (qaj (qbN K) [] E0 (qab (qaf 1) (qab (qaf 5) qam))) (tC .non)))) (qbH (tC .non)) qbW)
    (qbH (qaf 5)))))))
noncomputable def qew (K:W.Frag):TS:=
  (qaN (qa7 (qaj (qaO K) [] E0 (qab (qaf 0) qam)) (qaq 2))
    (qaN (qa7 (qaj (qaO K) [] E0 (qab (qaf 1) qam)) (qaq 3))
    (qaN (qeP (qpR (qg2 (qaf 0)) (qg2 (qaf 1))) (qhZ (qqq K (tC (.ref (qcf K)))) (qaq 4) (qaN (qa7 (qaj (qa3 K) [] E0 (qab (qaf 2) (qab (qaf 3) (qab (tOp qeH (qaj (qcT K) [] E0 (qab (tC (.int 2)) (qab (qaf 4) qam))) (tC (.int 1))) qam)))) (qaq 5))
    (qeP (qbo (tOp qqE (qaf 5) (tC .non))) (qbH (qaf 5)) qbW))) qbW)
    (qbH (tOp gL (qaj (qa5 K) [] E0 (qab (qih (qab (qaf 2) qam)) (qab (qih (qab (qaf 3) qam)) qam))) (tC (.int 0)))))))
noncomputable def qkV (K:W.Frag):TS:=
  (qaN (qa7 (qaj (qau K) [] E0 (qab (qaf 0) (qab (qaf 1) qam))) (qaq 2))
    (qaN (qeP (qbo (tOp iLt (qaf 1) (tC (.int 0)))) (qa7 (tUn qgy (qaf 2)) (qaq 2)) qbW)
    (qbH (qd6 (qab (tOp qgj (qaf 0) (qaf 2)) (qab (tOp qgj (qaf 1) (qaf 2)) qam))))))
noncomputable def qnY (K:W.Frag):TS:=
  (qbH (qaj (qaS K) [] E0 (qab (tOp qgx (tOp qdG (tOp gT (qaf 0) (tC (.int 0))) (tOp gT (qaf 1) (tC (.int 1)))) (tOp qdG (tOp gT (qaf 1) (tC (.int 0))) (tOp gT (qaf 0) (tC (.int 1))))) (qab (tOp qdG (tOp gT (qaf 0) (tC (.int 1))) (tOp gT (qaf 1) (tC (.int 1)))) qam))))
noncomputable def qkW (K:W.Frag):TS:=
  (qbH (qaj (qaS K) [] E0 (qab (tOp qeH (tOp qdG (tOp gT (qaf 0) (tC (.int 0))) (tOp gT (qaf 1) (tC (.int 1)))) (tOp qdG (tOp gT (qaf 1) (tC (.int 0))) (tOp gT (qaf 0) (tC (.int 1))))) (qab (tOp qdG (tOp gT (qaf 0) (tC (.int 1))) (tOp gT (qaf 1) (tC (.int 1)))) qam))))
noncomputable def qkX (K:W.Frag):TS:=
  (qbH (qaj (qaS K) [] E0 (qab (tOp qdG (tOp gT (qaf 0) (tC (.int 0))) (tOp gT (qaf 1) (tC (.int 0)))) (qab (tOp qdG (tOp gT (qaf 0) (tC (.int 1))) (tOp gT (qaf 1) (tC (.int 1)))) qam))))
noncomputable def qnZ (K:W.Frag):TS:=
  (qbH (qaj (qaS K) [] E0 (qab (tOp qdG (tOp gT (qaf 0) (tC (.int 0))) (tOp gT (qaf 1) (tC (.int 1)))) (qab (tOp qdG (tOp gT (qaf 0) (tC (.int 1))) (tOp gT (qaf 1) (tC (.int 0)))) qam))))
noncomputable def qn0 (K:W.Frag):TS:=
  (qaN (qa7 (tCB qc6 (qab (qaf 0) qam)) (qaq 1))
    (qaN (qdZ (qpR (qbo (tOp iGt (qaf 1) (tC (.int 0)))) (qbo (tOp rEq (tOp gT (tOp gL (qaf 0) (tOp qeH (qaf 1) (tC (.int 1)))) (tC (.int 0))) (tC (.int 0))))) (qmS 1 (tC (.int 1)) qeH))
    (qbH (tCB qnx (qab (tSl sL (qaf 0) qe0 (qkB (qaf 1))) qam)))))
noncomputable def qhd (K:W.Frag):TS:=
  (qaN (qa7 (tC (.int 1)) (qaq 1))
    (qaN (qhZ (qqq K (qaf 0)) (qaq 2) (qmS 1 (tOp qh0 (tOp gT (qaf 2) (tC (.int 1))) (qaj (qau K) [] E0 (qab (qaf 1) (qab (tOp gT (qaf 2) (tC (.int 1))) qam)))) qdG))
    (qbH (qd6 (qab (qcG (qqq K (qaf 0)) [none,some 1] (qaq 0) (tOp qdG (tOp gT (qaf 0) (tC (.int 0))) (tOp qh0 (qaf 1) (tOp gT (qaf 0) (tC (.int 1)))))) (qab (qaf 1) qam))))))
noncomputable def qfb (K:W.Frag):TS:=
  (qbH (qaj (qbs K) [] E0 (qab (qcG (qfl K (qaf 0)) [none,some 1] (qaq 0) (qaj (qaS K) [] E0 (qab (qaf 0) (qab (qaf 1) qam)))) qam)))
noncomputable def qfc (K:W.Frag):TS:=
  (qbH (tIf (qbo (tOp iLt (qaf 1) (tCB qfO (qab (qaf 0) qam)))) (tOp gT (qaf 0) (qaf 1)) (qd6 (qab (tC (.int 0)) (qab (tC (.int 1)) qam)))))
noncomputable def qjd (K:W.Frag):TS:=
  (qbH (qaj (qbs K) [] E0 (qab (qcG (qhY (qab (tCB qpW (qab (tCB qfO (qab (qaf 0) qam)) (qab (tCB qfO (qab (qaf 1) qam)) qam))) qam)) [none,some 0,some 1] (qaq 0) (qaj (qha K) [] E0 (qab (qaj (qbg K) [] E0 (qab (qaf 1) (qab (qaf 0) qam))) (qab (qaj (qbg K) [] E0 (qab (qaf 2) (qab (qaf 0) qam))) qam)))) qam)))
noncomputable def qhe (K:W.Frag):TS:=
  (qbH (qaj (qbs K) [] E0 (qab (qcG (qhY (qab (tCB qpW (qab (tCB qfO (qab (qaf 0) qam)) (qab (tCB qfO (qab (qaf 1) qam)) qam))) qam)) [none,some 0,some 1] (qaq 0) (qaj (qfr K) [] E0 (qab (qaj (qbg K) [] E0 (qab (qaf 1) (qab (qaf 0) qam))) (qab (qaj (qbg K) [] E0 (qab (qaf 2) (qab (qaf 0) qam))) qam)))) qam)))
noncomputable def qhf (K:W.Frag):TS:=
  (qaN (qa7 (qaj (qbi K) [] E0 (qab (qaf 0) qam)) (qaq 2))
    (qaN (qa7 (qaj (qbi K) [] E0 (qab (qaf 1) qam)) (qaq 3))
    (qbH (qaj (qbf K) [] E0 (qab (qaj (qbO K) [] E0 (qab (tOp gT (qaf 2) (tC (.int 0))) (qab (tOp gT (qaf 3) (tC (.int 0))) qam))) (qab (tOp qdG (tOp gT (qaf 2) (tC (.int 1))) (tOp gT (qaf 3) (tC (.int 1)))) qam))))))
noncomputable def qfV (K:W.Frag):TS:=
  (qbH (qaj (qbs K) [] E0 (qab (qcG (qqq K (qaf 0)) [none,some 1] (qaq 0) (qaj (qdR K) [] E0 (qab (qaf 0) (qab (qaf 1) qam)))) qam)))
noncomputable def qeR (K:W.Frag):TS:=
  (qmS 5 (qaf 10) qh0)
noncomputable def qeS (K:W.Frag):TS:=
  (qaN (qa7 (qaj (qbm K) [] E0 (qab (qaf 4) (qab (qaf 10) qam))) (qaq 4))
    (qeR K))
noncomputable def qeT (K:W.Frag):TS:=
  (qaN (qa7 (qaj (qbQ K) [] E0 (qab (qaf 4) (qab (qaf 5) qam))) (qaq 10))
    (qeS K))
noncomputable def qeU (K:W.Frag):TS:=
  (qaN (qmS 5 (tOp qgj (qaf 6) (qaf 9)) qdG)
    (qeT K))
noncomputable def qeV (K:W.Frag):TS:=
  (qaN (qa7 (qaj (qbI K) [] E0 (qab (qaf 4) (qab (tOp qgj (qaf 6) (qaf 9)) (qab (tOp gT (qaf 3) (tC (.int 0))) (qab (tOp qgj (tOp gL (qaf 4) (tUn qgy (tC (.int 1)))) (qaf 9)) (qab (qaf 8) qam)))))) (qaq 4))
    (qeU K))
noncomputable def qeW (K:W.Frag):TS:=
  (qaN (qa7 (qaj (qau K) [] E0 (qab (tOp gL (qaf 4) (tUn qgy (tC (.int 1)))) (qab (qaf 6) qam))) (qaq 9))
    (qeV K))
noncomputable def qeX (K:W.Frag):TS:=
  (qaN (qa7 (qaj (qaS K) [] E0 (qab (tOp qdG (tOp gL (qaf 4) (tUn qgy (tC (.int 1)))) (tOp gT (qaf 3) (tC (.int 1)))) (qab (tOp qdG (qaf 5) (qaf 6)) qam))) (qqp (qaf 7) (qaf 8) qgM))
    (qeW K))
noncomputable def qeY (K:W.Frag):TS:=
  (qaN (qa7 (tOp qeH (tCB qc6 (qab (qaf 4) qam)) (tCB qfO (qab (qaf 1) qam))) (qaq 8))
    (qeX K))
noncomputable def qhg (K:W.Frag):TS:=
  (qbH (qd6 (qab (qaj (qbs K) [] E0 (qab (qaf 7) qam)) (qab (qaj (qbf K) [] E0 (qab (qaf 4) (qab (qaf 5) qam))) qam))))
noncomputable def qhh (K:W.Frag):TS:=
  (qaN (qdZ (qbo (tOp iGe (tCB qc6 (qab (qaf 4) qam)) (tCB qfO (qab (qaf 1) qam)))) (qeY K))
    (qhg K))
noncomputable def qhi (K:W.Frag):TS:=
  (qaN (qa7 (tOp qpV (qih (qab (qd6 (qab (tC (.int 0)) (qab (tC (.int 1)) qam))) qam)) (tCB qpW (qab (tOp qgx (tOp qeH (tCB qfO (qab (qaf 0) qam)) (tCB qfO (qab (qaf 1) qam))) (tC (.int 1))) (qab (tC (.int 0)) qam)))) (qaq 7))
    (qhh K))
noncomputable def qhj (K:W.Frag):TS:=
  (qaN (qa7 (tOp gL (tOp gT (qaf 3) (tC (.int 0))) (tUn qgy (tC (.int 1)))) (qaq 6))
    (qhi K))
noncomputable def qhk (K:W.Frag):TS:=
  (qaN (qa7 (tOp gT (qaf 2) (tC (.int 1))) (qaq 5))
    (qhj K))
noncomputable def qhl (K:W.Frag):TS:=
  (qaN (qa7 (tOp gT (qaf 2) (tC (.int 0))) (qaq 4))
    (qhk K))
noncomputable def qhm (K:W.Frag):TS:=
  (qaN (qa7 (qaj (qbi K) [] E0 (qab (qaf 1) qam)) (qaq 3))
    (qhl K))
noncomputable def qhn (K:W.Frag):TS:=
  (qaN (qa7 (qaj (qbi K) [] E0 (qab (qaf 0) qam)) (qaq 2))
    (qhm K))
noncomputable def qje (K:W.Frag):TS:=
  (qaN (qa7 (qaj (qbJ K) [] E0 (qab (tOp gT (qaj (qbi K) [] E0 (qab (qaf 0) qam)) (tC (.int 0))) (qab (tOp gT (qaj (qbi K) [] E0 (qab (qaf 1) qam)) (tC (.int 0))) qam))) (qaq 2))
    (qbH (tIf (qg2 (qaf 2)) (qaj (qbf K) [] E0 (qab (qaf 2) (qab (tOp gL (qaf 2) (tUn qgy (tC (.int 1)))) qam))) (qd6 qam))))
noncomputable def qho (K:W.Frag):TS:=
  (qbH (tCB qnx (qab (qcG (qoZ (qab (tC (.int 1)) (qab (tCB qfO (qab (qaf 0) qam)) qam))) [none,some 0] (qaq 0) (qaj (qdR K) [] E0 (qab (tOp gT (qaf 1) (qaf 0)) (qab (qd6 (qab (qaf 0) (qab (tC (.int 1)) qam))) qam)))) qam)))
noncomputable def qfW (K:W.Frag):TS:=
  (qaN (qa7 (qaj (qbK K) [] E0 (qab (qaf 0) (qab (qaf 1) qam))) (qaq 2))
    (qbH (qaj (qcU K) [] E0 (qab (qaj (qaR K) [] E0 (qab (qaf 0) (qab (qaf 2) qam))) (qab (qaj (qaR K) [] E0 (qab (qaf 1) (qab (qaf 2) qam))) qam)))))
noncomputable def qjf (K:W.Frag):TS:=
  (qaN (qa7 (qaj (qe9 K) [] E0 (qab (qd6 (qab (tC (.int 1)) (qab (tC (.int 1)) qam))) (qab (tOp gT (qaf 1) (tUn qgy (tC (.int 1)))) qam))) (qaq 2))
    (qbH (qd6 (qab (qaj (qbP K) [] E0 (qab (qaf 0) (qab (qaf 2) qam))) (qab (qaj (qbP K) [] E0 (qab (qaf 1) (qab (qaf 2) qam))) qam)))))
noncomputable def qfX (K:W.Frag):TS:=
  (qbH (tOp gT (qaj (qch K) [] E0 (qab (qaf 0) (qab (qaf 1) qam))) (tC (.int 0))))
noncomputable def qis (K:W.Frag):TS:=
  (qbH (qd6 (qab (qaj (qaR K) [] E0 (qab (qaf 4) (qab (qaf 5) qam))) (qab (qaj (qaR K) [] E0 (qab (qaj (qa4 K) [] E0 (qab (tOp gT (qaf 0) (tC (.int 1))) (qab (qaf 3) qam))) (qab (qaf 5) qam))) qam))))
noncomputable def qit (K:W.Frag):TS:=
  (qaN (qa7 (qaj (qbK K) [] E0 (qab (qaf 4) (qab (qaf 2) qam))) (qaq 5))
    (qis K))
noncomputable def qiu (K:W.Frag):TS:=
  (qaN (qa7 (qaj (qeo K) [] E0 (qab (qaj (qa4 K) [] E0 (qab (tOp gT (qaf 0) (tC (.int 0))) (qab (qaf 3) qam))) (qab (qaj (qa4 K) [] E0 (qab (tOp gT (qaf 1) (tC (.int 0))) (qab (qaj (qaR K) [] E0 (qab (tOp gT (qaf 0) (tC (.int 1))) (qab (qaf 2) qam))) qam))) qam))) (qaq 4))
    (qit K))
noncomputable def qiv (K:W.Frag):TS:=
  (qaN (qa7 (qaj (qaR K) [] E0 (qab (tOp gT (qaf 1) (tC (.int 1))) (qab (qaf 2) qam))) (qaq 3))
    (qiu K))
noncomputable def qjg (K:W.Frag):TS:=
  (qaN (qa7 (qaj (qbK K) [] E0 (qab (tOp gT (qaf 0) (tC (.int 1))) (qab (tOp gT (qaf 1) (tC (.int 1))) qam))) (qaq 2))
    (qiv K))
noncomputable def qhp (K:W.Frag):TS:=
  (qbH (qaj (qaZ K) [] E0 (qab (qaf 0) (qab (qd6 (qab (qaj (qci K) [] E0 (qab (qd6 qam) (qab (tOp gT (qaf 1) (tC (.int 0))) qam))) (qab (tOp gT (qaf 1) (tC (.int 1))) qam))) qam))))
noncomputable def qhq (K:W.Frag):TS:=
  (qbH (qd6 (qab (qaj (qa4 K) [] E0 (qab (tOp gT (qaf 2) (tC (.int 0))) (qab (tOp gT (qaf 3) (tC (.int 0))) qam))) (qab (qaj (qa4 K) [] E0 (qab (tOp gT (qaf 2) (tC (.int 1))) (qab (tOp gT (qaf 3) (tC (.int 1))) qam))) qam))))
noncomputable def qhr (K:W.Frag):TS:=
  (qaN (qa7 (qaj (qaY K) [] E0 (qab (tOp gT (qaf 1) (tC (.int 0))) (qab (tOp gT (qaf 0) (tC (.int 1))) qam))) (qaq 3))
    (qhq K))
noncomputable def qhs (K:W.Frag):TS:=
  (qaN (qa7 (qaj (qaY K) [] E0 (qab (tOp gT (qaf 0) (tC (.int 0))) (qab (tOp gT (qaf 1) (tC (.int 1))) qam))) (qaq 2))
    (qhr K))
noncomputable def qjh (K:W.Frag):TS:=
  (qbH (qaj (qaF K) [] E0 (qab (qaf 0) (qab (qaj (qaY K) [] E0 (qab (tOp gT (qaf 1) (tC (.int 1))) (qab (tOp gT (qaf 1) (tC (.int 0))) qam))) qam))))
noncomputable def qht (K:W.Frag):TS:=
  (qbH (qd6 (qab (qaf 4) (qab (qaj (qa4 K) [] E0 (qab (tOp gT (qaf 0) (tC (.int 1))) (qab (qaf 3) qam))) qam))))
noncomputable def qhu (K:W.Frag):TS:=
  (qaN (qa7 (qaj (qci K) [] E0 (qab (qaj (qa4 K) [] E0 (qab (qaj (qb3 K) [] E0 (qab (tOp gT (qaf 0) (tC (.int 0))) qam)) (qab (qaf 3) qam))) (qab (qaj (qa4 K) [] E0 (qab (tOp gT (qaf 0) (tC (.int 0))) (qab (qaj (qaR K) [] E0 (qab (qaf 1) (qab (qaf 2) qam))) qam))) qam))) (qaq 4))
    (qht K))
noncomputable def qhv (K:W.Frag):TS:=
  (qaN (qa7 (qaj (qaR K) [] E0 (qab (tOp gT (qaf 0) (tC (.int 1))) (qab (qaf 2) qam))) (qaq 3))
    (qhu K))
noncomputable def qhw (K:W.Frag):TS:=
  (qaN (qa7 (qaj (qbK K) [] E0 (qab (tOp gT (qaf 0) (tC (.int 1))) (qab (qaf 1) qam))) (qaq 2))
    (qhv K))
noncomputable def qhx (K:W.Frag):TS:=
  (qaN (qa7 (qaj (qb3 K) [] E0 (qab (tOp gT (qaf 0) (tC (.int 1))) qam)) (qaq 1))
    (qhw K))
noncomputable def qn1 (K:W.Frag):TS:=
  (qaN (qeP (qbo (tOp iLt (qaf 1) (tCB (qo5 K) (qab (qaf 0) qam)))) (qbH (tOp (gS K) (qaf 0) (qaf 1))) qbW)
    (qbH (tC (.int 0))))
noncomputable def qfz (K:W.Frag):TS:=
  (qa7 (tOp qgx (tOp qdG (qaf 4) (tC (.int 1999999973))) (qaf 3)) (qaq 4))
noncomputable def qfA (K:W.Frag):TS:=
  (qaN (qa7 (tOp qkI (tOp qgx (tOp qgx (tOp qdG (qaf 3) (qaf 3)) (tOp qdG (tC (.int 69621)) (qaf 5))) (tC (.int 7))) (tC (.int 1999999973))) (qaq 3))
    (qfz K))
noncomputable def qiw (K:W.Frag):TS:=
  (qbH (qih (qab (qaf 4) qam)))
noncomputable def qix (K:W.Frag):TS:=
  (qaN (qhZ (qhY (qab (tC (.int 9)) qam)) (qaq 5) (qfA K))
    (qiw K))
noncomputable def qiy (K:W.Frag):TS:=
  (qaN (qa7 (tC (.int 0)) (qaq 4))
    (qix K))
noncomputable def qfY (K:W.Frag):TS:=
  (qaN (qa7 (tOp qkI (tOp qdG (tOp qgx (tOp qgx (tOp qkI (qaf 2) (tC (.int 2147483647))) (tOp qdG (tC (.int 7919)) (qaf 1))) (tC (.int 11))) (tC (.int 48271))) (tC (.int 2147483629))) (qaq 3))
    (qiy K))
noncomputable def qiz (K:W.Frag):TS:=
  (qaN (qeP (qpR (qbo (tOp rEq (tOp qkI (qaj (qen K) [] E0 (qab (qaf 0) (qab (tC (.int 0)) qam))) (tC (.int 2))) (tC (.int 1)))) (qbo (tOp iGe (tCB qrr (qab (qaf 2) qam)) (tOp qqC (tC (.int 10)) (tC (.int 18)))))) (qbH (qih (qab (qaf 2) qam))) qbW)
    (qfY K))
noncomputable def qji (K:W.Frag):TS:=
  (qaN (qa7 (qaj (qen K) [] E0 (qab (qaf 0) (qab (qaf 1) qam))) (qaq 2))
    (qiz K))
noncomputable def qhy (K:W.Frag):TS:=
  (qaN (qa7 (tOp qkI (tOp gL (qaf 0) (tC (.int 0))) (qaf 1)) (qaq 2))
    (qaN (qa7 (tOp qh0 (tOp gL (qaf 0) (tC (.int 0))) (qaf 1)) (qqp (qaf 0) (tC (.int 0)) qgM))
    (qbH (qaf 2))))
noncomputable def qex (K:W.Frag):TS:=
  (qbH (qaj (qaS K) [] E0 (qab (qaf 3) (qab (tOp gT (qd6 (qab (tC (.int 1)) (qab (tC (.int 1)) (qab (tC (.int 2)) (qab (tC (.int 3)) (qab (tC (.int 7)) qam)))))) (tOp qdG (qaj (qaL K) [] E0 (qab (qaf 0) (qab (tC (.int 5)) qam))) (tCB qo4 (qab (tOp iGt (qaf 2) (tC (.int 7))) qam)))) qam))))
noncomputable def qc1 (K:W.Frag):TS:=
  (qaN (qa7 (tOp gT (qd6 (qab (tC (.int 0)) (qab (tC (.int 1)) (qab (tUn qgy (tC (.int 1))) (qab (tC (.int 2)) (qab (tUn qgy (tC (.int 2))) (qab (tC (.int 3)) (qab (tUn qgy (tC (.int 3))) (qab (tC (.int 5)) (qab (tUn qgy (tC (.int 7))) (qab (tC (.int 12)) qam))))))))))) (qaj (qaL K) [] E0 (qab (qaf 0) (qab (tC (.int 10)) qam)))) (qaq 3))
    (qex K))
noncomputable def qey (K:W.Frag):TS:=
  (qaN (qeP (qpR (qbo (tOp rEq (qaf 2) (tC (.int 15)))) (tB (qaf 1))) (qbH (qaj (qaS K) [] E0 (qab (tOp qgx (tOp qeH (qaj (qaL K) [] E0 (qab (qaf 0) (qab (tOp qeH (tOp qdG (tC (.int 2)) (tOp qqC (tC (.int 10)) (tC (.int 12)))) (tC (.int 1))) qam))) (tOp qqC (tC (.int 10)) (tC (.int 12)))) (tC (.int 1))) (qab (tOp qgx (tC (.int 1)) (qaj (qaL K) [] E0 (qab (qaf 0) (qab (tOp qeH (tOp qqC (tC (.int 10)) (tC (.int 12))) (tC (.int 1))) qam)))) qam)))) qbW)
    (qc1 K))
noncomputable def qdV (K:W.Frag):TS:=
  (qaN (qa7 (qaj (qaL K) [] E0 (qab (qaf 0) (qab (tC (.int 16)) qam))) (qaq 2))
    (qey K))
noncomputable def qfd (K:W.Frag):TS:=
  (qbH (qaj (qbs K) [] E0 (qab (qcG (qhY (qab (qaj (qaL K) [] E0 (qab (qaf 0) (qab (tOp qgx (qaf 1) (tC (.int 2))) qam))) qam)) [none,some 0,some 2] (qaq 0) (qaj (qby K) [] E0 (qab (qaf 1) (qab (qaf 2) qam)))) qam)))
noncomputable def qck (K:W.Frag):TS:=
  (qbH (qaj (qaY K) [] E0 (qab (qaf 3) (qab (qaf 4) qam))))
noncomputable def qdB (K:W.Frag):TS:=
  (qaN (qeP (qbo (tOp eqD (qaf 4) (qd6 qam))) (qa7 (qd6 (qab (qd6 (qab (tC (.int 1)) (qab (tC (.int 1)) qam))) qam)) (qaq 4)) qbW)
    (qck K))
noncomputable def qdC (K:W.Frag):TS:=
  (qaN (qa7 (qaj (qbE K) [] E0 (qab (qaf 0) (qab (qaf 1) (qab (tC (.bl false)) qam)))) (qaq 4))
    (qdB K))
noncomputable def qc2 (K:W.Frag):TS:=
  (qaN (qa7 (qaj (qbE K) [] E0 (qab (qaf 0) (qab (qaf 1) (qab (qaf 2) qam)))) (qaq 3))
    (qdC K))
noncomputable def qfe (K:W.Frag):TS:=
  (qaN (qa7 (qcG (qhY (qab (tOp qgx (tC (.int 4)) (qaj (qaL K) [] E0 (qab (qaf 0) (qab (tOp qeH (qaf 1) (tC (.int 3))) qam)))) qam)) [none,some 0] (qaq 0) (qaj (qaS K) [] E0 (qab (tOp qeH (qaj (qaL K) [] E0 (qab (qaf 1) (qab (tC (.int 9)) qam))) (tC (.int 4))) (qab (tC (.int 1)) qam)))) (qaq 2))
    (qbH (qaj (qbs K) [] E0 (qab (tOp qsx (qaf 2) (qih (qab (qaj (qaS K) [] E0 (qab (tOp qgx (tC (.int 1)) (qaj (qaL K) [] E0 (qab (qaf 0) (qab (tC (.int 3)) qam)))) (qab (tC (.int 1)) qam))) qam))) qam))))
noncomputable def qez (K:W.Frag):TS:=
  (qbH (tOp eqD (qaj (qbb K) [] E0 (qab (qaj (qbZ K) [] E0 (qab (qaf 0) (qab (qaf 1) qam))) qam)) (qaj (qbZ K) [] E0 (qab (qaf 2) (qab (qaj (qaF K) [] E0 (qab (qaf 1) (qab (qaf 1) qam))) qam)))))
noncomputable def qeA (K:W.Frag):TS:=
  (qaN (qa7 (qaj (qbR K) [] E0 (qab (qaj (qaF K) [] E0 (qab (qaj (qbb K) [] E0 (qab (qaf 0) qam)) (qab (qaf 1) qam))) (qab (qaj (qaF K) [] E0 (qab (qaf 0) (qab (qaj (qbb K) [] E0 (qab (qaf 1) qam)) qam))) qam))) (qaq 2))
    (qez K))
noncomputable def qeB (K:W.Frag):TS:=
  (qaN (qeP (qbo (tOp eqD (tOp gT (qaf 1) (tC (.int 0))) (qd6 qam))) (qbH (tOp eqD (qaj (qbb K) [] E0 (qab (qaf 1) qam)) (qaf 1))) qbW)
    (qeA K))
noncomputable def qeC (K:W.Frag):TS:=
  (qaN (qeP (tOr (qbo (tOp neD (qaj (qbb K) [] E0 (qab (qaj (qaF K) [] E0 (qab (qaf 0) (qab (qaf 1) qam))) qam)) (qaf 2))) (qbo (tOp neD (qaj (qbb K) [] E0 (qab (qaj (qaZ K) [] E0 (qab (qaf 0) (qab (qaf 1) qam))) qam)) (qaj (qaZ K) [] E0 (qab (qaj (qbb K) [] E0 (qab (qaf 0) qam)) (qab (qaj (qbb K) [] E0 (qab (qaf 1) qam)) qam)))))) (qbH (tC (.bl false))) qbW)
    (qeB K))
noncomputable def qdW (K:W.Frag):TS:=
  (qaN (qa7 (qaj (qaZ K) [] E0 (qab (qaj (qaF K) [] E0 (qab (qaj (qbb K) [] E0 (qab (qaf 0) qam)) (qab (qaf 1) qam))) (qab (qaj (qaF K) [] E0 (qab (qaf 0) (qab (qaj (qbb K) [] E0 (qab (qaf 1) qam)) qam))) qam))) (qaq 2))
    (qeC K))
noncomputable def qff (K:W.Frag):TS:=
  (qbH (qaj (qb0 K) [] E0 (qab (qaf 0) (qab (qaf 1) qam))))
noncomputable def qhz (K:W.Frag):TS:=
  (qaN (qeP (qbo (tOp neD (tOp gT (qaf 1) (tC (.int 0))) (qd6 qam))) (qeP (tOr (qbo (tOp neD (qaj (qbZ K) [] E0 (qab (qaf 1) (qab (qaf 1) qam))) (qd6 (qab (qd6 (qab (qd6 (qab (tC (.int 1)) (qab (tC (.int 1)) qam))) qam)) (qab (qd6 (qab (qd6 (qab (tC (.int 1)) (qab (tC (.int 1)) qam))) qam)) qam))))) (qbo (tOp neD (qaj (qaF K) [] E0 (qab (qaj (qbZ K) [] E0 (qab (qaf 0) (qab (qaf 1) qam))) (qab (qaf 1) qam))) (qaf 0)))) (qbH (tC (.bl false))) qbW) qbW)
    (qff K))
noncomputable def qhA (K:W.Frag):TS:=
  (qaN (qeP (tOr (qbo (tOp neD (qaj (qbR K) [] E0 (qab (qaf 0) (qab (qaf 0) qam))) (qd6 (qab (qd6 qam) (qab (qd6 (qab (qd6 (qab (tC (.int 1)) (qab (tC (.int 1)) qam))) qam)) qam))))) (qbo (tOp neD (qaj (qaZ K) [] E0 (qab (qaj (qbR K) [] E0 (qab (qaf 0) (qab (qaf 1) qam))) (qab (qaf 1) qam))) (qaf 0)))) (qbH (tC (.bl false))) qbW)
    (qhz K))
noncomputable def qhB (K:W.Frag):TS:=
  (qaN (qeP (qbo (tOp neD (qaj (qaF K) [] E0 (qab (qaf 0) (qab (qaj (qaZ K) [] E0 (qab (qaf 1) (qab (qaf 2) qam))) qam))) (qaj (qaZ K) [] E0 (qab (qaj (qaF K) [] E0 (qab (qaf 0) (qab (qaf 1) qam))) (qab (qaj (qaF K) [] E0 (qab (qaf 0) (qab (qaf 2) qam))) qam))))) (qbH (tC (.bl false))) qbW)
    (qhA K))
noncomputable def qhC (K:W.Frag):TS:=
  (qaN (qeP (qbo (tOp neD (qaj (qaF K) [] E0 (qab (qaj (qaF K) [] E0 (qab (qaf 0) (qab (qaf 1) qam))) (qab (qaf 2) qam))) (qaj (qaF K) [] E0 (qab (qaf 0) (qab (qaj (qaF K) [] E0 (qab (qaf 1) (qab (qaf 2) qam))) qam))))) (qbH (tC (.bl false))) qbW)
    (qhB K))
noncomputable def qhD (K:W.Frag):TS:=
  (qaN (qeP (qbo (tOp neD (qaj (qaZ K) [] E0 (qab (qaj (qaZ K) [] E0 (qab (qaf 0) (qab (qaf 1) qam))) (qab (qaf 2) qam))) (qaj (qaZ K) [] E0 (qab (qaf 0) (qab (qaj (qaZ K) [] E0 (qab (qaf 1) (qab (qaf 2) qam))) qam))))) (qbH (tC (.bl false))) qbW)
    (qhC K))
noncomputable def qhE (K:W.Frag):TS:=
  (qaN (qeP (tOr (qbo (tOp neD (qaj (qaZ K) [] E0 (qab (qaf 0) (qab (qaf 1) qam))) (qaj (qaZ K) [] E0 (qab (qaf 1) (qab (qaf 0) qam))))) (qbo (tOp neD (qaj (qaF K) [] E0 (qab (qaf 0) (qab (qaf 1) qam))) (qaj (qaF K) [] E0 (qab (qaf 1) (qab (qaf 0) qam)))))) (qbH (tC (.bl false))) qbW)
    (qhD K))
noncomputable def qiA (K:W.Frag):TS:=
  (qa7 (qaj (qaY K) [] E0 (qab (qaj (qbF K) [] E0 (qab (qaf 1) (qab (tC (.int 5)) qam))) (qab (qaj (qbs K) [] E0 (qab (qih (qab (qaj (qaS K) [] E0 (qab (tOp qeH (qaj (qaL K) [] E0 (qab (qaf 1) (qab (tC (.int 9)) qam))) (tC (.int 4))) (qab (tC (.int 1)) qam))) (qab (qd6 (qab (tC (.int 0)) (qab (tC (.int 1)) qam))) (qab (qd6 (qab (tC (.int 1)) (qab (tC (.int 1)) qam))) qam)))) qam)) qam))) (qaq 3))
noncomputable def qiB (K:W.Frag):TS:=
  (qaN (qa7 (qaj (qaY K) [] E0 (qab (qaj (qbF K) [] E0 (qab (qaf 1) (qab (tC (.int 6)) qam))) (qab (qaj (qbs K) [] E0 (qab (qih (qab (qaj (qaS K) [] E0 (qab (tOp qeH (qaj (qaL K) [] E0 (qab (qaf 1) (qab (tC (.int 9)) qam))) (tC (.int 4))) (qab (tC (.int 1)) qam))) (qab (qd6 (qab (tC (.int 1)) (qab (tC (.int 1)) qam))) qam))) qam)) qam))) (qaq 2))
    (qiA K))
noncomputable def qkY (K:W.Frag):TS:=
  (qbH (qaj (qdA K) [] E0 (qab (qaf 2) (qab (qaf 3) (qab (qaf 4) qam)))))
noncomputable def qn2 (K:W.Frag):TS:=
  (qaN (qeP (qbo (tOp rEq (qaj (qaL K) [] E0 (qab (qaf 1) (qab (tC (.int 8)) qam))) (tC (.int 7)))) (qiB K) qbW)
    (qkY K))
noncomputable def qn3 (K:W.Frag):TS:=
  (qaN (qa7 (qaj (qaW K) [] E0 (qab (qaj (qb9 K) [] E0 (qab (qaf 0) (qab (tC (.int 3)) qam))) (qab (tC (.int 1)) (qab (tC (.bl true)) qam)))) (qaq 4))
    (qn2 K))
noncomputable def qn4 (K:W.Frag):TS:=
  (qaN (qa7 (qaj (qaW K) [] E0 (qab (qaj (qb9 K) [] E0 (qab (qaf 0) (qab (tC (.int 2)) qam))) (qab (tC (.int 2)) (qab (tC (.bl false)) qam)))) (qaq 3))
    (qn3 K))
noncomputable def qn5 (K:W.Frag):TS:=
  (qaN (qa7 (qaj (qaW K) [] E0 (qab (qaf 1) (qab (tC (.int 2)) (qab (tC (.bl false)) qam)))) (qaq 2))
    (qn4 K))
noncomputable def qqU (K:W.Frag):TS:=
  (qaN (qa7 (qaj (qb9 K) [] E0 (qab (qaf 0) (qab (tC (.int 1)) qam))) (qaq 1))
    (qn5 K))
end Bs
namespace Bs
open PySem L2
variable {K:W.Frag} {vs:List V} {H:Hp} {Q:VK} {E:XK}
local macro_rules | `(tactic| rwa [$[$t:term],*]) => do
  let l : Array Lean.Term := (("qaN qa7 qaj qab qaf qam qaq qqp L2.start qeP tIf qbo L2.tB tOp rI0 rI L2.tC tUn rU qbW qbH qd6 qih qs8 qmS qoX tCB qpU qpR tOr qrp qrA qs7 qrB rEq rNe qgM qgx qeH qdG qo3 qrL qkI qqB qqC iLt iLe iGt iGe qgy gT gL gS qrr qpW qtb qo4 qfO qc6 qo5 qtc qng qga qpX eqT qnh qni qpY qpZ List.map_cons List.map_nil List.length_cons List.length_nil List.replicate List.cons_append List.nil_append List.append_nil List.getElem?_cons_zero List.getElem?_cons_succ Option.some.injEq exists_eq_left' exists_eq_left V.int.injEq V.bl.injEq V.ref.injEq V.ty.injEq HO.tup.injEq HO.lst.injEq List.cons.injEq and_true true_and and_assoc exists_and_left List.set_cons_zero List.set_cons_succ decide_eq_true_eq decide_eq_false_iff_not Bool.not_eq_true' Bool.true_eq_false Bool.false_eq_true Bool.not_true Bool.not_false if_true if_false ite_true ite_false qnj qnk qlw qlx qii qij qik qil qim Nat.zero_add Nat.reduceAdd Nat.reduceSub qai Int.cast_ofNat_Int decide_true decide_false eq_self not_true_eq_false not_false_eq_true Int.natCast_add Int.natCast_zero reduceCtorEq Nm qkM qgK qqo qkx tSl qe0 qkB sL sT qnx qp0 qjT qg2 qrQ qpV qsx qm6 qiO qta tBM qs9 qlz qlA qnr qns qlB qnC qlE qnt qnu qnz qnA qo8 qqF qo9 qsz qqE qh0 qgj qsM qrR qc7 Option.bind_some Option.bind_none Option.bind Option.join id_eq sS qrU qrW qau qcT qaV qbQ qbm qbI qbN qaK qaO qbw qa5 qba qbp qbc qa2 qbq qbx qbk qcg qa3 qbJ qaS qbs qbi qbf qbK qj5 qch qe9 qbO qa4 qbP qaR qbg qpm qcU qb3 qaY qen qb9 qaL qby qbE qaW qbF".splitOn " ").map fun s => (⟨(Lean.mkIdent s.toName).raw⟩ : Lean.Term)).toArray
  `(tactic| simp only [$[$(l ++ t):term],*])
theorem qsA {x:Int} (h1:-1099511627776<x) (h2:x<1099511627776):Bd 40 x:=by
  show x.natAbs<1099511627776
  omega
theorem qeN {a b:Int} (ha:Bd 60000000 a) (hb:Bd 60000000 b):IntMulOk a b:=qrV ha hb (by decide)
theorem qth {a b:Int} (h1:-18446744073709551616<b) (h2:b<18446744073709551616):IntMulOk a b:=IntMulOk.of_right (intBits_le_64 (by omega) (by omega))
theorem qti {a b:Int} (h1:-18446744073709551616<a) (h2:a<18446744073709551616):IntMulOk a b:=IntMulOk.of_left (intBits_le_64 (by omega) (by omega))
theorem qfZ (h:qau K vs H Q E):qcA K { nx:=fun _ H'=>Q .non H',rt:=Q } (L2.start ["one", "other", "rest"] vs) H:=by
  obtain ⟨a,b,rfl,q⟩:=h
  unfold qcA
  rwa []
  refine while_by (fun m σ H'=>∃ (x y:Int) (r:Option V),σ=[some (.int x),some (.int y),r]∧H'=H∧Int.gcd x y=Int.gcd a b∧m=y.natAbs) b.natAbs ⟨a,b,none,rfl,rfl,rfl,rfl⟩ ?_
  rintro m σ H' ⟨x,y,r,rfl,rfl,hg,rfl⟩
  rwa []
  refine qc5 (fun c=>?_) (fun c=>?_)
  · refine ⟨fun σ' H''=>∃ m',m'<y.natAbs∧_,fun _ _ h=>h,?_⟩
    refine ⟨c,_,qnf x c,y,x.fmod y,_,rfl,rfl,?_,rfl⟩
    rw [qlu];exact hg
  · have y0:y=0:=Decidable.not_not.mp c
    subst y0
    have e:(if x<0 then -x else x)=((Int.gcd a b:Nat):Int):=by
      rw [← hg,Int.gcd_zero_right];split <;> omega
    rw [e];exact q
theorem qpn {ns:List Int} {k:Int} (h0:0≤k) (h:k<(ns.length:Int)):∃ v:Int,atI (ns.map V.int) k=some (.int v):=by
  have hk:k.toNat<ns.length:=by omega
  have ek:k=((k.toNat:Nat):Int):=by omega
  have q:atI (ns.map V.int) ((k.toNat:Nat):Int)=some (.int ns[k.toNat]):=qkE (by rw [List.getElem?_map,List.getElem?_eq_getElem hk] <;> rfl)
  rw [← ek] at q
  exact ⟨_,q⟩
theorem qn6 (h:qcT K vs H Q E):qjc K { nx:=fun _ H'=>Q .non H',rt:=Q } (L2.start ["whole", "n", "result", "square"] vs) H:=by
  obtain ⟨x,n,b,rfl,n0,bx,hb,q⟩:=h
  unfold qjc
  rwa []
  have BP:∀ k:Nat,k≤n.toNat→Bd 60000000 (x ^ k):=fun k hk=>(bx.pow k).mono (by
    have:=Nat.mul_le_mul_left b hk
    omega)
  refine while_by (fun m σ H'=>∃ r s:Nat,σ=[some (.int x),some (.int (m:Int)),some (.int (x ^ r)),some (.int (x ^ s))]∧H'=H∧r+s*m=n.toNat) n.toNat ⟨0,1,?_,rfl,by omega⟩ ?_
  · have e:((n.toNat:Nat):Int)=n:=by omega
    rw [e,Int.pow_zero,show x ^ 1=x by rw [Int.pow_succ,Int.pow_zero,Int.one_mul]]
  rintro m σ H' ⟨r,s,rfl,rfl,hm⟩
  rwa []
  refine qc5 (fun c=>?_) (fun c=>?_)
  · have m1:1≤m:=by omega
    have sl:s≤s*m:=Nat.le_mul_of_pos_right s m1
    have d2:qsL (m:Int) 2:=⟨by decide,(qtw (by decide) (by decide)).mono (by decide)⟩
    have hm2:s*m=(s+s)*(m / 2)+s*(m % 2):=by
      have e:m=2*(m / 2)+m % 2:=(Nat.div_add_mod m 2).symm
      generalize m / 2=u at e ⊢
      generalize m % 2=v at e ⊢
      subst e
      rw [Nat.mul_add]
      congr 1
      rw [← Nat.mul_assoc,Nat.mul_comm s 2]
      congr 1
      omega
    have ed:((m:Int) / 2)=((m / 2:Nat):Int):=by omega
    rw [ed]
    refine ⟨fun σ' H''=>∃ m',m'<m∧_,fun _ _ h=>h,?_⟩
    have fin:∀ r':Nat,r'+(s+s)*(m / 2)=n.toNat→qsL (m:Int) 2∧if 0<((m / 2:Nat):Int) then IntMulOk (x ^ s) (x ^ s)∧∃ m',m'<m∧∃ r s_1,[some (V.int x),some (V.int ((m / 2:Nat):Int)),some (V.int (x ^ r')),some (V.int (x ^ s*x ^ s))]=[some (V.int x),some (V.int (m':Int)),some (V.int (x ^ r)),some (V.int (x ^ s_1))]∧H'=H'∧r+s_1*m'=n.toNat
        else ∃ m',m'<m∧∃ r s_1,[some (V.int x),some (V.int ((m / 2:Nat):Int)),some (V.int (x ^ r')),some (V.int (x ^ s))]=[some (V.int x),some (V.int (m':Int)),some (V.int (x ^ r)),some (V.int (x ^ s_1))]∧H'=H'∧r+s_1*m'=n.toNat:=fun r' hr'=>by
      refine ⟨d2,qc5 (fun c2=>?_) (fun c2=>?_)⟩
      · exact ⟨qeN (BP s (by omega)) (BP s (by omega)),m / 2,by omega,r',s+s,by rw [Int.pow_add],rfl,hr'⟩
      · have z:m / 2=0:=by omega
        rw [z] at hr' ⊢
        exact ⟨0,by omega,r',s,rfl,rfl,by omega⟩
    refine ⟨by decide,qc5 (fun c2=>⟨qeN (BP r (by omega)) (BP s (by omega)),?_⟩) (fun c2=>?_)⟩
    · rw [← Int.pow_add]
      have e1:m % 2=1:=by omega
      rw [e1] at hm2
      exact fin (r+s) (by omega)
    · have e1:m % 2=0:=by omega
      rw [e1] at hm2
      exact fin r (by omega)
  · have z:m=0:=by omega
    subst z
    have e:r=n.toNat:=by omega
    subst e
    exact q
theorem qlR {H:Hp} {Q:VK} {xs:List V} {l:List Nu} {m:Nat} (hN:Nums H xs l) (hm:m≤l.length) (e:qcd l l.length=m) (q:qrt H Q (trim l)) :
    ∀ (p:Addr),H p=none→∀ (r:Addr),upd H p (HO.lst (qjE xs none (some (m:Int)))) r=none→Q (V.ref r) (upd (upd H p (HO.lst (qjE xs none (some (m:Int))))) r (HO.tup (qjE xs none (some (m:Int))))):=fun p hp r hr=>by
  have s:=(qag hp (HO.lst (qjE xs none (some (m:Int))))).trans (qag hr (HO.tup (qjE xs none (some (m:Int)))))
  refine q r _ _ s qai ?_
  rw [qg8 (by rw [hN.length];exact hm)]
  rw [qg8 (by rw [hN.length];exact hm)] at s
  unfold trim
  rw [e]
  exact (hN.take m).tp (tpS s)
theorem qml (l:List Nu) (m:Nat):qcd l (m+1)=if (l.getD m (1,1)).1=0 then qcd l m else m+1:=rfl
theorem qqV (h:qbs K vs H Q E):qn0 K { nx:=fun _ H'=>Q .non H',rt:=Q } (L2.start ["row", "many"] vs) H:=by
  obtain ⟨p,xs,l,rfl,hp,hN,hl,q⟩:=h
  unfold qn0
  rwa [hp]
  have lx:=hN.length
  refine while_by (fun m σ H'=>σ=[some (.ref p),some (.int (m:Int))]∧H'=H∧qcd l m=qcd l l.length∧m≤l.length) xs.length ⟨rfl,rfl,by rw [lx],by omega⟩ ?_
  rintro m σ H' ⟨rfl,rfl,ht,hm⟩
  rwa [hp]
  refine qc5 (fun c=>?_) (fun c=>?_)
  · obtain ⟨k,rfl⟩:∃ k,m=k+1:=⟨m - 1,by omega⟩
    obtain ⟨v,hv,p1,rfl,hp1⟩:=hN.at (i:=k) (by omega) (1,1)
    rw [qml] at ht
    refine ⟨_,qek (by omega) hv,p1,rfl,_,hp1,_,rfl,rfl,qc5 (fun c2=>?_) (fun c2=>?_)⟩
    · have z:(l.getD k (1,1)).1=0:=by injection c2
      rw [if_pos z] at ht
      exact ⟨fun σ' H''=>∃ m',m'<k+1∧_,fun _ _ h=>h,k,by omega,by rw [show ((k+1:Nat):Int) - 1=(k:Int) by omega],rfl,ht,by omega⟩
    · have z:(l.getD k (1,1)).1≠0:=fun z=>c2 (by rw [z])
      rw [if_neg z] at ht
      exact qlR hN hm ht.symm q
  · have z:m=0:=by omega
    subst z
    exact qlR hN hm ht.symm q
theorem qpo {l:List Nu} {i:Nat} {q:Nu} (h:l[i]?=some q):(l.take (i+1)).foldl (fun B q=>B*(q.2 / ((Int.gcd B q.2:Nat):Int))) 1=(l.take i).foldl (fun B q=>B*(q.2 / ((Int.gcd B q.2:Nat):Int))) 1*(q.2 / ((Int.gcd ((l.take i).foldl (fun B q=>B*(q.2 / ((Int.gcd B q.2:Nat):Int))) 1) q.2:Nat):Int)):=by
  rw [List.take_add_one,h,List.foldl_append]
  rfl
theorem qbS {α β:Type} {l:List α} {i:Nat} {q:α} (f:α→β) (h:l[i]?=some q):(l.take (i+1)).map f=(l.take i).map f++[f q]:=by
  rw [List.take_add_one,h,List.map_append]
  rfl
theorem qn7 (a b:Nat):(if (b:Int) > (a:Int) then (b:Int) else (a:Int)).toNat=max a b:=by split <;> omega
theorem qdt {β:Type} (f:Nat→β) (i:Nat):(List.range (i+1)).map f=(List.range i).map f++[f i]:=by rw [List.range_succ,List.map_append];rfl
theorem qbT (n:Nat) (f:Nat→Int):(qcI n f).length=n:=by unfold qcI;rw [List.length_map,List.length_map,List.length_range]
theorem qbL {n k:Nat} (f:Nat→Int) (h:k<n):(qcI n f)[k]?=some (.int (f k)):=by
  unfold qcI
  rw [List.getElem?_map,List.getElem?_map,List.getElem?_range h]
  rfl
theorem qeK {n k:Nat} {f g:Nat→Int} {z:Int} (h:k<n) (h1:g k=z) (h2:∀ i,i<n→i≠k→g i=f i):(qcI n f).set k (.int z)=qcI n g:=by
  apply List.ext_getElem?
  intro i
  by_cases hi:i<n
  · by_cases e:i=k
    · subst e
      rw [List.getElem?_set_self (by rw [qbT];exact hi),qbL g hi,h1]
    · rw [List.getElem?_set_ne (fun z=>e z.symm),qbL f hi,qbL g hi,h2 i hi e]
  · rw [List.getElem?_eq_none (by rw [List.length_set,qbT];omega),List.getElem?_eq_none (by rw [qbT];omega)]
theorem qdD {n:Nat} {f g:Nat→Int} (h:∀ i,i<n→g i=f i):qcI n f=qcI n g:=by
  apply List.ext_getElem?
  intro i
  by_cases hi:i<n
  · rw [qbL f hi,qbL g hi,h i hi]
  · rw [List.getElem?_eq_none (by rw [qbT];omega),List.getElem?_eq_none (by rw [qbT];omega)]
theorem qjj (n:Nat):(List.replicate n [V.int 0]).flatten=qcI n fun _=>0:=by
  rw [qde]
  apply List.ext_getElem?
  intro i
  by_cases hi:i<n
  · rw [qbL _ hi,List.getElem?_replicate,if_pos hi]
  · rw [List.getElem?_replicate,if_neg hi,List.getElem?_eq_none (by rw [qbT];omega)]
theorem qhF {n k:Nat} {i:Int} (e:i=(k:Int)) (h:k<n):ixN n i=some k:=by
  subst e
  unfold ixN
  rw [if_pos (by omega),if_pos (by omega)]
  simp
theorem qmm {α:Type} {n k:Nat} (f:Nat→α) (h:k<n):((List.range n).map f)[k]?=some (f k):=by
  rw [List.getElem?_map,List.getElem?_range h];rfl
theorem Pl.same {H H':Hp} {r:Addr} {L:List Nu} (h:Pl H r L) (s:Same H H'):Pl H' r L:=let ⟨zs,a,b⟩:=h;⟨zs,s _ _ a,b.tp (tpS s)⟩
theorem Pl.tp {H H':Hp} {r:Addr} {L:List Nu} (h:Pl H r L) (s:Tp H H'):Pl H' r L:=let ⟨zs,a,b⟩:=h;⟨zs,s _ _ a,b.tp s⟩
theorem Pl.rep {H:Hp} {r:Addr} {L:List Nu} (h:Pl H r L):RepD H (.ref r) (qpk L):=let ⟨_,a,b⟩:=h;qqO a b
theorem qtj {m n:Nat} {x y:Int} (hx:Bd m x) (hy:Bd n y) (hm:m≤60000000:=by decide) (hn:n≤60000000:=by decide):IntMulOk x y:=qeN (hx.mono hm) (hy.mono hn)
theorem qc3 (ns:List Int) (m:Nat):qcD ns (m+1)=if ns.getD m 1=0 then qcD ns m else m+1:=rfl
theorem qh1 (h:qaV K vs H Q E):qdS K { nx:=fun _ H'=>Q .non H',rt:=Q } (L2.start ["row", "many"] vs) H:=by
  obtain ⟨p,ns,rfl,hp,q⟩:=h
  unfold qdS
  rwa [hp]
  have fin:∀ m:Nat,m≤ns.length→qcD ns m=qcD ns ns.length→qcD ns m=m→∀ r,H r=none→Q (V.ref r) (upd H r (HO.lst (qjE (ns.map V.int) none (some (m:Int))))):=fun m h1 h2 h3 r hr=>by
    rw [qg8 (by rw [List.length_map];exact h1),← List.map_take,← h3,h2]
    exact q r hr
  refine while_by (fun m σ H'=>σ=[some (.ref p),some (.int (m:Int))]∧H'=H∧qcD ns m=qcD ns ns.length∧m≤ns.length) ns.length ⟨by rw [List.length_map],rfl,rfl,Nat.le_refl _⟩ ?_
  rintro m σ H' ⟨rfl,rfl,ht,hm⟩
  rwa [hp]
  refine qc5 (fun c=>?_) (fun c=>?_)
  · obtain ⟨k,rfl⟩:∃ k,m=k+1:=⟨m - 1,by omega⟩
    have hv:(ns.map V.int)[k]?=some (V.int (ns.getD k 1)):=by
      rw [List.getElem?_map,List.getElem?_eq_getElem (by omega),List.getD_eq_getElem?_getD,List.getElem?_eq_getElem (by omega)];rfl
    refine ⟨_,qek (by omega) hv,rfl,qc5 (fun c2=>?_) (fun c2=>?_)⟩
    · have z:ns.getD k 1=0:=by injection c2
      rw [qc3,if_pos z] at ht
      exact ⟨fun σ' H''=>∃ m',m'<k+1∧_,fun _ _ h=>h,k,by omega,by rw [show ((k+1:Nat):Int) - 1=(k:Int) by omega],rfl,ht,by omega⟩
    · have z:ns.getD k 1≠0:=fun z=>c2 (by rw [z])
      exact fin (k+1) hm ht (by rw [qc3,if_neg z])
  · have z:m=0:=by omega
    subst z
    exact fin 0 hm ht rfl
theorem qhG (ns:List Int):∀ m,qcD ns m≤m
  | 0=>Nat.le_refl 0
  | m+1=>by
    rw [qc3]
    split
    · exact Nat.le_succ_of_le (qhG ns m)
    · exact Nat.le_refl _
theorem qhH {ns:List Int}:(qem ns).length=qcD ns ns.length:=by
  unfold qem
  rw [List.length_take,Nat.min_eq_left (qhG ns ns.length)]
theorem qj6 {ns:List Int} (k:Nat):(qem ns).getD k 0=ns.getD k 0:=by
  have key:∀ (m:Nat),m≤ns.length→(∀ j,m≤j→j<ns.length→ns.getD j 0=0)→∀ j,qcD ns m≤j→j<ns.length→ns.getD j 0=0:=by
    intro m
    induction m with
    | zero=>intro _ h j hj1 hj2;exact h j (by omega) hj2
    | succ m ih=>
      intro hm h j h1 h2
      rw [qc3] at h1
      split at h1
      · rename_i z
        refine ih (by omega) (fun j hj1 hj2=>?_) j h1 h2
        by_cases e:j=m
        · subst e
          rw [List.getD_eq_getElem?_getD,List.getElem?_eq_getElem hj2] at z ⊢
          exact z
        · exact h j (by omega) hj2
      · exact h j h1 h2
  by_cases h1:k<qcD ns ns.length
  · unfold qem
    rw [List.getD_eq_getElem?_getD,List.getD_eq_getElem?_getD,List.getElem?_take_of_lt h1]
  · have e:(qem ns).getD k 0=0:=by
      rw [List.getD_eq_getElem?_getD,List.getElem?_eq_none (by rw [qhH];omega)]
      rfl
    rw [e]
    by_cases h2:k<ns.length
    · exact (key ns.length (Nat.le_refl _) (fun j a b=>absurd b (by omega)) k (by omega) h2).symm
    · rw [List.getD_eq_getElem?_getD,List.getElem?_eq_none (by omega)]
      rfl
theorem qn8 {n:Nat} {z g:Int} (h:g∣z) (b:Bd n z):Bd n (z / g):=by
  by_cases hz:z=0
  · rw [hz,Int.zero_ediv];exact qbV n
  · exact qdz hz (Int.ediv_dvd_of_dvd h) b
theorem qlS {z g:Int} (hg:g≠0) (h:g∣z):((z / g:Int):Rat)=(z:Rat) / (g:Rat):=by
  obtain ⟨y,rfl⟩:=h
  rw [Int.mul_ediv_cancel_left _ hg]
  have:=qaG hg
  push_cast
  grind
theorem qlT {ns:List Int} {g:Int} (h:∀ z∈ns,g∣z) (k:Nat):g∣ns.getD k 0:=by
  rw [List.getD_eq_getElem?_getD]
  cases e:ns[k]? with
  | none=>exact Int.dvd_zero g
  | some z=>exact h z (List.mem_of_getElem? e)
theorem qkZ {m:List Nu} (hm:qap m) (nm:Nz m) (h1:1≤m.length):(qa6 m).getD (m.length - 1) 0≠0:=by
  rw [qi7,qnO]
  have hb:m.length - 1<m.length:=by omega
  have q:=nm m[m.length - 1] (by rw [List.getLast?_eq_getElem?];exact List.getElem?_eq_getElem hb)
  have e:qa9 m (m.length - 1)=m[m.length - 1]:=by unfold qa9;rw [List.getD_eq_getElem?_getD,List.getElem?_eq_getElem hb];rfl
  rw [e]
  refine Int.mul_ne_zero q ?_
  have o:=qbe hm
  have d:=o.2 m[m.length - 1] (List.getElem_mem hb)
  obtain ⟨y,hy⟩:=d
  have p0:=(hm m[m.length - 1] (List.getElem_mem hb)).pos
  rw [hy,Int.mul_ediv_cancel_left _ (Int.ne_of_gt p0)]
  intro z
  rw [z,Int.mul_zero] at hy
  have:=o.1
  omega
theorem atI_last {xs:List V} {v:V} (h:1≤xs.length) (e:xs[xs.length - 1]?=some v):atI xs (-1)=some v:=by
  unfold atI ixN
  rw [if_neg (by decide),if_pos (by omega),show (-1+(xs.length:Int)).toNat=xs.length - 1 by omega]
  exact e
theorem qfB {n m:Int} (h:0<m):qb7 n m=red n m:=by unfold qb7;rw [if_neg (by omega)]
theorem qpp (h:qaS K vs H Q E):qkV K { nx:=fun _ H'=>Q .non H',rt:=Q } (L2.start ["top", "bottom", "shared"] vs) H:=by
  obtain ⟨a,b,rfl,hb,q⟩:=h
  unfold qkV
  rwa []
  have go:∀ s:Int,(s=if b<0 then -((Int.gcd a b:Nat):Int) else ((Int.gcd a b:Nat):Int))→qrR a s∧qrR b s∧2≤sizeLine∧∀ (p:Addr),H p=none→Q (V.ref p) (upd H p (HO.tup [V.int (a.fdiv s),V.int (b.fdiv s)])):=fun s hs=>by
    obtain ⟨h1,h2,h3,h4,h5,h6⟩:=qfN hb hs
    have e:qb7 a b=(a.fdiv s,b.fdiv s):=by
      refine qei (qdb hb) h3 ?_
      rw [qdO hb,qg4 (q:=(a.fdiv s,b.fdiv s)) (Int.ne_of_gt h3.pos) hb h4]
    rw [e] at q
    exact ⟨h1,h1,sz (by decide),q⟩
  refine qc5 (fun c=>?_) (fun c=>?_)
  · exact go _ (by rw [if_pos c])
  · exact go _ (by rw [if_neg c])
theorem qmn (h:qbi K vs H Q E):qhd K { nx:=fun _ H'=>Q .non H',rt:=Q } (L2.start ["P", "bottom", "number"] vs) H:=by
  obtain ⟨p,xs,l,M,rfl,hp,hN,hL,hO,bM,hB,hl,q⟩:=h
  unfold qhd
  rwa [hp]
  have lx:=hN.length
  have B0:=(qbe hL).1
  have BB:=qdz (Int.ne_of_gt hO.1) (qlM hL hO) bM
  have qb:∀ q∈l,Bd 400000 q.2:=fun q hq=>qdz (Int.ne_of_gt hO.1) (hO.2 q hq) bM
  refine ⟨⟨_,SqT.of hp⟩,ForT.by (xs:=xs) (fun i σ H'=>∃ x,σ=[some (.ref p),some (.int ((l.take i).foldl (fun B q=>B*(q.2 / ((Int.gcd B q.2:Nat):Int))) 1)),x]∧H'=H) ⟨none,rfl,rfl⟩ ?_ ?_ ?_⟩
  · rintro i σ H' _ ⟨x,rfl,rfl⟩
    exact hp
  · rintro i x σ H' hi ⟨y,rfl,rfl⟩
    obtain ⟨z,hz,p1,rfl,hp1⟩:=hN.get hi
    have zl:=hL z (List.mem_of_getElem? hz)
    have zb:=qb z (List.mem_of_getElem? hz)
    obtain ⟨f1,f3⟩:=qi6 (M:=M) (l.take i) 1 (fun q hq=>⟨(hL q (List.mem_of_mem_take hq)).pos,hO.2 q (List.mem_of_mem_take hq)⟩) (by decide) (Int.one_dvd M)
    have f4:=qdz (Int.ne_of_gt hO.1) f3 bM
    obtain ⟨s1,_,_,s4,s5,s6⟩:=qi2 f1 zl.pos
    rwa [hp1]
    refine ⟨s5,qtj f4 (zb.le s4),?_,_,rfl⟩
    rw [qpo hz]
  · rintro σ H' ⟨x,rfl,rfl⟩
    rw [lx,List.take_length]
    rwa [hp]
    refine ⟨⟨_,SqT.of hp⟩,CompJ.tup (xs:=xs) (fun i ys H''=>i≤xs.length∧ys=((qa6 l).take i).map V.int∧H''=H') ⟨Nat.zero_le _,rfl,rfl⟩ ?_ ?_ ?_⟩
    · rintro i ys H'' ⟨h1,rfl,rfl⟩
      refine ⟨h1,sz ?_,hp⟩
      rw [List.length_map,List.length_take];omega
    · rintro i x ys H'' hi ⟨h1,rfl,rfl⟩
      obtain ⟨z,hz,p1,rfl,hp1⟩:=hN.get hi
      have zl:=hL z (List.mem_of_getElem? hz)
      have zb:=qb z (List.mem_of_getElem? hz)
      have zn:=hB z (List.mem_of_getElem? hz)
      have hi2:i<xs.length:=(List.getElem?_eq_some_iff.mp hi).1
      rwa [hp1]
      have eB:l.foldl (fun B q=>B*(q.2 / ((Int.gcd B q.2:Nat):Int))) 1=qbv l:=rfl
      rw [eB]
      have cz:(qa6 l)[i]?=some (z.1*(qbv l / z.2)):=by unfold qa6;rw [List.getElem?_map,hz];rfl
      refine ⟨zl.pos,qtj zn (BB.le (qeQ B0 zl.pos)),by omega,?_⟩
      rw [qbS V.int cz]
    · rintro ys H'' ⟨_,rfl,rfl⟩ a ha
      refine ⟨sz (by decide),fun r hr=>?_⟩
      have e:(qa6 l).take xs.length=qa6 l:=by
        rw [lx,show l.length=(qa6 l).length by unfold qa6;rw [List.length_map],List.take_length]
      rw [e] at hr ⊢
      have s:=(qag ha (HO.lst ((qa6 l).map V.int))).trans (qag hr (HO.tup [V.ref a,V.int (qbv l)]))
      exact q r a _ s qai (qag hr _ _ _ qai)
theorem qj7 (h:qbf K vs H Q E):qfb K { nx:=fun _ H'=>Q .non H',rt:=Q } (L2.start ["row", "bottom"] vs) H:=by
  obtain ⟨p,ns,B,rfl,hp,hB,hl,q⟩:=h
  unfold qfb
  rwa [hp]
  refine ⟨⟨_,SqL.of hp⟩,CompJ.lst (xs:=ns.map V.int) (fun i ys H'=>i≤ns.length∧Same H H'∧Nums H' ys ((ns.take i).map fun n=>qb7 n B)) ⟨Nat.zero_le _,Same.refl H,trivial⟩ ?_ ?_ ?_⟩
  · rintro i ys H' ⟨h1,s1,hN⟩
    refine ⟨by rw [List.length_map];exact h1,sz ?_,SqL.of (s1 _ _ hp)⟩
    rw [hN.length,List.length_map,List.length_take];omega
  · rintro i x ys H' hi ⟨h1,s1,hN⟩
    rw [List.getElem?_map] at hi
    cases e:ns[i]? with
    | none=>rw [e] at hi;cases hi
    | some n=>
      rw [e] at hi
      obtain rfl:V.int n=x:=Option.some.inj hi
      have hi2:i<ns.length:=(List.getElem?_eq_some_iff.mp e).1
      rwa []
      refine ⟨hB,fun r hr=>⟨by omega,s1.trans (qag hr _),?_⟩⟩
      rw [qbS _ e]
      exact (hN.tp (tpS (qag hr _))).append (Nums.one qfS)
  · rintro ys H' ⟨_,s1,hN⟩ a ha
    rw [List.length_map,List.take_length] at hN
    have s2:=qag ha (HO.lst ys)
    rwa []
    refine ⟨_,hN.tp (tpS s2),by rw [List.length_map];exact hl,fun r zs H'' s3 hr hz=>q r zs H'' ((s1.trans s2).trans s3) hr hz⟩
theorem qqb {b:Nat} {l:List Nu} {M:Int} (hl:qap l) (h:Ov l M) (hb:∀ z∈ovN l M,Bd b z):∀ q∈l,Bd b q.1:=fun q hq=>by
  refine (hb (q.1*(M / q.2)) (List.mem_map.mpr ⟨q,hq,rfl⟩)).le ?_
  rw [Int.natAbs_mul]
  obtain ⟨y,hy⟩:=h.2 q hq
  have p0:=(hl q hq).pos
  have m0:=h.1
  have:M / q.2=y:=by rw [hy,Int.mul_ediv_cancel_left _ (Int.ne_of_gt p0)]
  rw [this]
  refine Nat.le_mul_of_pos_right _ ?_
  rcases Nat.eq_zero_or_pos y.natAbs with z | z
  · have y0:y=0:=by omega
    rw [y0] at hy;omega
  · exact z
theorem qhI {g f:List Int} (lg:Lz g) (lf:Lz f) (mq:MQ (co g) (co f)):g.length≤f.length:=by
  obtain ⟨c,c0,A,hA⟩:=mq
  rcases Nat.lt_or_ge f.length g.length with y | y
  · exfalso
    rcases qgl A with z | ⟨B,lB,_,eB⟩
    · have:c*co f (f.length - 1)=0:=by rw [hA,qbC,qcn g z]
      rcases Int.mul_eq_zero.mp this with e | e
      · exact c0 e
      · exact lf.2 e
    · have hB:∀ k,c*co f k=cvL B (co g) k:=fun k=>by rw [hA,qbC,qas (fun j=>(eB j).symm) g k,← qbC]
      have b0:=lB.1
      have g0:=lg.1
      have ne:B≠[]:=List.length_pos_iff.mp b0
      obtain ⟨X,t,hX⟩:∃ X t,B=X++[t]:=⟨B.dropLast,B.getLast ne,(List.dropLast_concat_getLast ne).symm⟩
      have tl:X.length=B.length - 1:=by rw [hX];simp
      have tc:co B (B.length - 1)=t:=by rw [← tl,hX];unfold co;simp [List.getD_eq_getElem?_getD]
      have e:=hB (B.length - 1+(g.length - 1))
      rw [qaA (by omega),hX,qbu,← hX,qb8 (n:=g.length) (fun i hi=>qaA hi) X _ (by omega)] at e
      unfold upS at e
      rw [if_pos (by omega),show B.length - 1+(g.length - 1) - X.length=g.length - 1 by omega] at e
      have e2:t*co g (g.length - 1)=0:=by omega
      rcases Int.mul_eq_zero.mp e2 with x | x
      · exact lB.2 (tc.trans x)
      · exact lg.2 x
  · exact y
theorem php:∀ (m n:Nat) (f:Nat→Nat),(∀ i,i<n→f i<m)→m<n→∃ i j,i<j∧j<n∧f i=f j
  | 0,n,f,h,hn=>absurd (h 0 hn) (Nat.not_lt_zero _)
  | m+1,n,f,h,hn=>by
    obtain ⟨n,rfl⟩:∃ k,n=k+1:=⟨n - 1,by omega⟩
    by_cases c:∃ i,i<n∧f i=f n
    · obtain ⟨i,hi,e⟩:=c
      exact ⟨i,n,hi,by omega,e⟩
    · have c:∀ i,i<n→f i≠f n:=fun i hi e=>c ⟨i,hi,e⟩
      have hv:=h n (by omega)
      obtain ⟨i,j,hij,hj,e⟩:=php m n (fun i=>if f n<f i then f i - 1 else f i) (fun i hi=>by
        have h1:=h i (by omega)
        have h2:=c i hi
        show (if f n<f i then f i - 1 else f i)<m
        split <;> omega) (by omega)
      refine ⟨i,j,hij,by omega,?_⟩
      have c1:=c i (by omega)
      have c2:=c j hj
      have e:(if f n<f i then f i - 1 else f i)=(if f n<f j then f j - 1 else f j):=e
      split at e <;> split at e <;> omega
noncomputable def enc (M:Nat):Nat→(Nat→Nat)→Nat
  | 0,_=>0
  | N+1,e=>e 0+M*enc M N (fun k=>e (k+1))
theorem qqc {M:Nat}:∀ (N:Nat) (e:Nat→Nat),(∀ k,k<N→e k<M)→enc M N e<M ^ N
  | 0,_,_=>Nat.one_pos
  | N+1,e,h=>by
    have h1:=qqc N (fun k=>e (k+1)) (fun k hk=>h (k+1) (by omega))
    have h0:=h 0 (by omega)
    show e 0+M*enc M N (fun k=>e (k+1))<M ^ (N+1)
    have h2:M*(enc M N (fun k=>e (k+1))+1)≤M*M ^ N:=Nat.mul_le_mul_left M h1
    rw [Nat.pow_succ,Nat.mul_comm (M ^ N)]
    rw [Nat.mul_add,Nat.mul_one] at h2
    omega
theorem qlU {M a b x y:Nat} (ha:a<M) (hb:b<M) (h:a+M*x=b+M*y):a=b∧x=y:=by
  have h1:(a+M*x) % M=a:=by rw [Nat.add_mul_mod_self_left,Nat.mod_eq_of_lt ha]
  have h2:(b+M*y) % M=b:=by rw [Nat.add_mul_mod_self_left,Nat.mod_eq_of_lt hb]
  have e:a=b:=by rw [← h1,h,h2]
  subst e
  exact ⟨rfl,Nat.eq_of_mul_eq_mul_left (by omega) (Nat.add_left_cancel h)⟩
theorem qn9 {M:Nat}:∀ (N:Nat) (e e':Nat→Nat),(∀ k,k<N→e k<M)→(∀ k,k<N→e' k<M)→enc M N e=enc M N e'→∀ k,k<N→e k=e' k
  | 0,_,_,_,_,_,k,hk=>absurd hk (Nat.not_lt_zero _)
  | N+1,e,e',h,h',q,k,hk=>by
    obtain ⟨q1,q2⟩:=qlU (h 0 (by omega)) (h' 0 (by omega)) q
    cases k with
    | zero=>exact q1
    | succ k=>exact qn9 N _ _ (fun k hk=>h (k+1) (by omega)) (fun k hk=>h' (k+1) (by omega)) q2 k (by omega)
noncomputable def digs (p:Nat):Nat→Nat→List Int
  | 0,_=>[]
  | N+1,t=>((t % p:Nat):Int)::digs p N (t / p)
theorem qjk (p:Nat):∀ (N t:Nat),(digs p N t).length=N
  | 0,_=>rfl
  | N+1,t=>by show (digs p N (t / p)).length+1=N+1;rw [qjk p N]
theorem qk0 {p:Nat} (p0:0<p):∀ (N t:Nat),∀ z∈digs p N t,0≤z∧z<(p:Int)
  | 0,_,z,h=>by cases h
  | N+1,t,z,h=>by
    rcases List.mem_cons.mp h with rfl | h
    · have:=Nat.mod_lt t p0;omega
    · exact qk0 p0 N _ z h
theorem qlV {p:Nat} (p0:0<p):∀ (N t s:Nat),t<p ^ N→s<p ^ N→digs p N t=digs p N s→t=s
  | 0,t,s,h1,h2,_=>by rw [Nat.pow_zero] at h1 h2;omega
  | N+1,t,s,h1,h2,h=>by
    injection h with a b
    rw [Nat.pow_succ,Nat.mul_comm] at h1 h2
    have:=qlV p0 N (t / p) (s / p) (Nat.div_lt_of_lt_mul h1) (Nat.div_lt_of_lt_mul h2) b
    have e1:=Nat.div_add_mod t p
    have e2:=Nat.div_add_mod s p
    have a:t % p=s % p:=by exact_mod_cast a
    rw [← e1,← e2,this,a]
theorem qlW {g:Nat→Int} {h q:Nat} (hg:∀ k,(g k).natAbs≤h):∀ (a:List Int),(∀ z∈a,z.natAbs≤q)→∀ k,(cvL a g k).natAbs≤a.length*(q*h)
  | [],_,k=>by show (0:Int).natAbs≤_;simp
  | x::a,ha,0=>by
    rw [qat]
    have h1:(x*g 0).natAbs≤q*h:=by rw [Int.natAbs_mul];exact Nat.mul_le_mul (ha x (List.mem_cons_self ..)) (hg 0)
    have:(x::a).length*(q*h)=a.length*(q*h)+q*h:=by rw [List.length_cons,Nat.add_mul,Nat.one_mul]
    omega
  | x::a,ha,k+1=>by
    rw [qao]
    have h1:(x*g (k+1)).natAbs≤q*h:=by rw [Int.natAbs_mul];exact Nat.mul_le_mul (ha x (List.mem_cons_self ..)) (hg (k+1))
    have h2:=qlW hg a (fun z hz=>ha z (List.mem_cons_of_mem _ hz)) k
    have:(x::a).length*(q*h)=a.length*(q*h)+q*h:=by rw [List.length_cons,Nat.add_mul,Nat.one_mul]
    omega
theorem qqW {A B u v:List Int} (lA:Lz A) (lB:Lz B) (q:QI (co A) (co B) qcb) (hu:u.length<B.length) (hv:v.length<A.length) (h:∀ k,cvL u (co A) k+cvL v (co B) k=0):(∀ k,co u k=0)∧∀ k,co v k=0:=by
  obtain ⟨d,d0,U,V,hd⟩:=q
  have half:∀ {A B u v U V:List Int},Lz B→(∀ k,d*qcb k=cvL U (co A) k+cvL V (co B) k)→u.length<B.length→(∀ k,cvL u (co A) k+cvL v (co B) k=0)→∀ k,co u k=0:=fun {A B u v U V} lB hd hu h=>by
    rcases qgl u with z | ⟨f,lf,fl,ef⟩
    · exact z
    · exfalso
      have mq:MQ (co B) (co f):=by
        refine ⟨d,d0,qbj (qaQ V u) ((qaQ U v).map ((-1)*·)),fun k=>?_⟩
        rw [qaz,qav,qaw,qaw,ef k,qco u k,← qbl,qas hd,qdP,qeJ (co A) u U,qeJ (co B) u V]
        have e:cvL U (cvL u (co A)) k = - cvL U (cvL v (co B)) k:=by
          have:cvL U (cvL u (co A)) k+cvL U (cvL v (co B)) k=0:=by rw [← qdP];exact qcn U h k
          omega
        rw [e];omega
      have:=qhI lB lf mq
      omega
  exact ⟨half lB hd hu h,half (A:=B) (B:=A) (u:=v) (v:=u) (U:=V) (V:=U) lA (fun k=>by rw [hd k];omega) hv (fun k=>by have:=h k;omega)⟩
theorem qpq {a b:Int} (h:a=b):a∣b:=by rw [h];exact Int.dvd_refl b
theorem cvD {p:Int} {f g:Nat→Int} {S:List Int} (h:∀ k,p∣f k - cvL S g k):∀ (a:List Int) (k:Nat),p∣cvL a f k - cvL a (cvL S g) k
  | [],k=>by show p∣(0:Int) - 0;simp
  | x::a,0=>by
    rw [qat,qat]
    have:=Int.dvd_trans (h 0) (Int.dvd_mul_left x _)
    rw [Int.mul_sub] at this
    refine Int.dvd_trans this (qpq ?_)
    omega
  | x::a,k+1=>by
    rw [qao,qao]
    have h1:=Int.dvd_trans (h (k+1)) (Int.dvd_mul_left x _)
    have h2:=cvD h a k
    rw [Int.mul_sub] at h1
    have:=Int.dvd_add h1 h2
    refine Int.dvd_trans this (qpq ?_)
    omega
theorem qj8:∀ (a b:List Int),(qbj a b).length=max a.length b.length
  | [],b=>by show b.length=max 0 b.length;omega
  | a,[]=>by rw [qg6];show a.length=max a.length 0;omega
  | x::a,y::b=>by
    show (qbj a b).length+1=max (a.length+1) (b.length+1)
    rw [qj8 a b];omega
theorem qqd {a b:List Int} (hl:a.length=b.length) (h:∀ k,co a k=co b k):a=b:=by
  refine List.ext_getElem hl fun i h1 h2=>?_
  have:=h i
  unfold co at this
  rwa [List.getD_eq_getElem?_getD,List.getD_eq_getElem?_getD,List.getElem?_eq_getElem h1,List.getElem?_eq_getElem h2] at this
theorem lucky {A B G:List Int} {p b:Nat} (hp:Pr p) (lA:Lz A) (lB:Lz B) (q:QI (co A) (co B) qcb) (hA:∀ k,Bd b (co A k)) (hB:∀ k,Bd b (co B k)) (n1:2≤A.length) (m1:2≤B.length) (g2:2≤G.length) (g1:¬ (p:Int)∣co G (G.length - 1)) (dA:Dm (p:Int) (co G) (co A)) (dB:Dm (p:Int) (co G) (co B))
    (big:(2*((A.length+B.length)*2 ^ b)) ^ (A.length+B.length - 2)<p):False:=by
  have p2:=hp.two
  have p0:0<p:=by omega
  generalize hn:A.length - 1=n at *
  generalize hm:B.length - 1=m at *
  generalize hE:(A.length+B.length)*2 ^ b=E at *
  have N1:A.length+B.length - 2=n+m:=by omega
  rw [N1] at big
  have hAn:∀ k,(co A k).natAbs≤2 ^ b:=fun k=>Nat.le_of_lt (hA k)
  have hBn:∀ k,(co B k).natAbs≤2 ^ b:=fun k=>Nat.le_of_lt (hB k)
  have E0:0<E:=by rw [← hE];exact Nat.mul_pos (by omega) (Nat.pow_pos (by decide))
  let u:Nat→List Int:=fun t=>(digs p (m+n) t).take m
  let v:Nat→List Int:=fun t=>(digs p (m+n) t).drop m
  let f:Nat→Nat→Int:=fun t k=>cvL (u t) (co A) k+cvL (v t) (co B) k
  have ul:∀ t,(u t).length=m:=fun t=>by show ((digs p (m+n) t).take m).length=m;rw [List.length_take,qjk];omega
  have vl:∀ t,(v t).length=n:=fun t=>by show ((digs p (m+n) t).drop m).length=n;rw [List.length_drop,qjk];omega
  have uz:∀ t,∀ z∈u t,0≤z∧z<(p:Int):=fun t z hz=>qk0 p0 _ t z (List.mem_of_mem_take hz)
  have vz:∀ t,∀ z∈v t,0≤z∧z<(p:Int):=fun t z hz=>qk0 p0 _ t z (List.mem_of_mem_drop hz)
  have fb:∀ t k,(f t k).natAbs<E*p:=fun t k=>by
    have h1:=qlW (q:=p - 1) hAn (u t) (fun z hz=>by have:=uz t z hz;omega) k
    have h2:=qlW (q:=p - 1) hBn (v t) (fun z hz=>by have:=vz t z hz;omega) k
    rw [ul] at h1
    rw [vl] at h2
    have h3:(f t k).natAbs≤(m+n)*((p - 1)*2 ^ b):=by
      rw [Nat.add_mul]
      show (cvL (u t) (co A) k+cvL (v t) (co B) k).natAbs≤_
      omega
    refine Nat.lt_of_le_of_lt h3 ?_
    rw [← hE]
    have e:(m+n)*((p - 1)*2 ^ b)=((m+n)*2 ^ b)*(p - 1):=by rw [Nat.mul_comm (p - 1),Nat.mul_assoc]
    rw [e]
    exact Nat.lt_of_lt_of_le (Nat.mul_lt_mul_of_pos_left (by omega) (Nat.mul_pos (by omega) (Nat.pow_pos (by decide)))) (Nat.mul_le_mul_right p (Nat.mul_le_mul_right _ (by omega)))
  let e0:Nat→Nat:=fun t=>(f t 0 / (p:Int)+(E:Int)).toNat
  let ek:Nat→Nat→Nat:=fun t k=>(f t (k+1)+((E*p:Nat):Int)).toNat
  have e0r:∀ t,0≤f t 0 / (p:Int)+(E:Int)∧f t 0 / (p:Int)+(E:Int)<2*(E:Int):=fun t=>by
    have h:=fb t 0
    have h1:-((E:Int)*(p:Int))≤f t 0:=by have:((E*p:Nat):Int)=(E:Int)*(p:Int):=by push_cast;rfl
                                         omega
    have h2:f t 0<(E:Int)*(p:Int):=by have:((E*p:Nat):Int)=(E:Int)*(p:Int):=by push_cast;rfl
                                      omega
    have q1:-(E:Int)≤f t 0 / (p:Int):=by
      refine (Int.le_ediv_iff_mul_le (by omega)).mpr ?_
      rw [Int.neg_mul];exact h1
    have q2:f t 0 / (p:Int)<(E:Int):=Int.ediv_lt_of_lt_mul (by omega) h2
    omega
  have ekr:∀ t k,0≤f t (k+1)+((E*p:Nat):Int)∧f t (k+1)+((E*p:Nat):Int)<2*((E*p:Nat):Int):=fun t k=>by
    have h:=fb t (k+1)
    omega
  have e0l:∀ t,e0 t<2*E:=fun t=>by have:=e0r t;show (f t 0 / (p:Int)+(E:Int)).toNat<2*E;omega
  have ekl:∀ t k,ek t k<2*(E*p):=fun t k=>by have:=ekr t k;show (f t (k+1)+((E*p:Nat):Int)).toNat<2*(E*p);omega
  have cl:∀ t,e0 t+2*E*enc (2*(E*p)) (m+n - 1) (ek t)<2*E*(2*(E*p)) ^ (m+n - 1):=fun t=>by
    have h1:=qqc (M:=2*(E*p)) (m+n - 1) (ek t) (fun k _=>ekl t k)
    have h2:2*E*(enc (2*(E*p)) (m+n - 1) (ek t)+1)≤2*E*(2*(E*p)) ^ (m+n - 1):=Nat.mul_le_mul_left _ h1
    have h3:=e0l t
    rw [Nat.mul_add,Nat.mul_one] at h2
    omega
  have room:2*E*(2*(E*p)) ^ (m+n - 1)<p ^ (m+n):=by
    obtain ⟨N,hN⟩:∃ N,m+n=N+1:=⟨m+n - 1,by omega⟩
    rw [hN,Nat.add_sub_cancel]
    rw [Nat.add_comm n m,hN] at big
    have e:2*E*(2*(E*p)) ^ N=(2*E) ^ (N+1)*p ^ N:=by
      rw [← Nat.mul_assoc 2 E p,Nat.mul_pow (2*E) p N,Nat.pow_succ,Nat.mul_comm ((2*E) ^ N) (2*E),Nat.mul_assoc (2*E)]
    rw [e,Nat.pow_succ p,Nat.mul_comm (p ^ N) p]
    exact Nat.mul_lt_mul_of_pos_right big (Nat.pow_pos p0)
  obtain ⟨s,t,st,ht,e⟩:=php _ _ _ (fun i _=>cl i) room
  obtain ⟨q0,q1⟩:=qlU (e0l s) (e0l t) e
  have qk:=qn9 (m+n - 1) _ _ (fun k _=>ekl s k) (fun k _=>ekl t k) q1
  have w0:∀ k,(co (u s) k - co (u t) k)=co (qbj (u s) ((u t).map ((-1)*·))) k:=fun k=>by rw [qco,qco,qco,qaz,qav];omega
  have df:∀ k,f s k - f t k=cvL (qbj (u s) ((u t).map ((-1)*·))) (co A) k+cvL (qbj (v s) ((v t).map ((-1)*·))) (co B) k:=fun k=>by
    rw [qaz,qaz,qav,qav]
    show cvL (u s) (co A) k+cvL (v s) (co B) k - (cvL (u t) (co A) k+cvL (v t) (co B) k)=_
    omega
  have hi:∀ k,0<k→f s k - f t k=0:=fun k hk=>by
    rcases Nat.lt_or_ge k (m+n) with c | c
    · have:=qk (k - 1) (by omega)
      have r1:=ekr s (k - 1)
      have r2:=ekr t (k - 1)
      have this:(f s (k - 1+1)+((E*p:Nat):Int)).toNat=(f t (k - 1+1)+((E*p:Nat):Int)).toNat:=this
      rw [show k - 1+1=k by omega] at *
      omega
    · have z:∀ t,f t k=0:=fun t=>by
        show cvL (u t) (co A) k+cvL (v t) (co B) k=0
        rw [qb8 (n:=A.length) (fun i hi=>qaA hi) (u t) k (by rw [ul];omega),qb8 (n:=B.length) (fun i hi=>qaA hi) (v t) k (by rw [vl];omega)];rfl
      rw [z,z];rfl
  have d0:(f s 0 - f t 0).natAbs<p:=by
    have r1:=e0r s
    have r2:=e0r t
    have q0:(f s 0 / (p:Int)+(E:Int)).toNat=(f t 0 / (p:Int)+(E:Int)).toNat:=q0
    have q0:f s 0 / (p:Int)=f t 0 / (p:Int):=by omega
    have m1:=Int.emod_add_mul_ediv (f s 0) p
    have m2:=Int.emod_add_mul_ediv (f t 0) p
    have b1:=Int.emod_nonneg (f s 0) (show (p:Int)≠0 by omega)
    have b2:=Int.emod_lt_of_pos (f s 0) (show (0:Int)<p by omega)
    have b3:=Int.emod_nonneg (f t 0) (show (p:Int)≠0 by omega)
    have b4:=Int.emod_lt_of_pos (f t 0) (show (0:Int)<p by omega)
    rw [q0] at m1
    omega
  have dm:Dm (p:Int) (co G) (co [f s 0 - f t 0]):=by
    obtain ⟨SA,hSA⟩:=dA
    obtain ⟨SB,hSB⟩:=dB
    refine ⟨qbj (qaQ (qbj (u s) ((u t).map ((-1)*·))) SA) (qaQ (qbj (v s) ((v t).map ((-1)*·))) SB),fun k=>?_⟩
    have e:co [f s 0 - f t 0] k=f s k - f t k:=by
      cases k with
      | zero=>rfl
      | succ k=>rw [hi (k+1) (by omega)];exact qaA (by simp)
    rw [e,df,qaz (co G),qaw,qaw]
    have h1:=cvD (p:=(p:Int)) hSA (qbj (u s) ((u t).map ((-1)*·))) k
    have h2:=cvD (p:=(p:Int)) hSB (qbj (v s) ((v t).map ((-1)*·))) k
    have:=Int.dvd_add h1 h2
    refine Int.dvd_trans this (qpq ?_)
    omega
  have z0:f s 0 - f t 0=0:=by
    by_cases c:(p:Int)∣f s 0 - f t 0
    · obtain ⟨y,hy⟩:=c
      rcases Int.lt_trichotomy y 0 with z | z | z
      · have:(p:Int)*y≤(p:Int)*(-1):=Int.mul_le_mul_of_nonneg_left (by omega) (by omega)
        omega
      · rw [hy,z];omega
      · have:(p:Int)*1≤(p:Int)*y:=Int.mul_le_mul_of_nonneg_left (by omega) (by omega)
        omega
    · exfalso
      have:=Dm.len hp (by omega) g1 dm ⟨0,c⟩
      simp at this
      omega
  have all:∀ k,cvL (qbj (u s) ((u t).map ((-1)*·))) (co A) k+cvL (qbj (v s) ((v t).map ((-1)*·))) (co B) k=0:=fun k=>by
    rw [← df]
    cases k with
    | zero=>exact z0
    | succ k=>exact hi (k+1) (by omega)
  have ll:∀ {a c:List Int} {x:Nat},a.length=x→c.length=x→(qbj a (c.map ((-1)*·))).length=x:=fun {a c x} h1 h2=>by
    rw [qj8,List.length_map,h1,h2];omega
  obtain ⟨c1,c2⟩:=qqW lA lB q (by rw [ll (ul s) (ul t)];omega) (by rw [ll (vl s) (vl t)];omega) all
  have eu:u s=u t:=qqd (by rw [ul,ul]) fun k=>by have:=c1 k;rw [← w0] at this;omega
  have ev:v s=v t:=qqd (by rw [vl,vl]) fun k=>by
    have:=c2 k
    rw [qco,qaz,qav,← qco,← qco] at this;omega
  have:digs p (m+n) s=digs p (m+n) t:=by
    rw [← List.take_append_drop m (digs p (m+n) s),← List.take_append_drop m (digs p (m+n) t)]
    exact congr (congrArg _ eu) ev
  have:=qlV p0 _ _ _ (by omega) (by omega) this
  omega
theorem qiC:∀ (ts l:List Int),ts.Nodup→(∀ t∈ts,evI l t=0)→l.length≤ts.length→∀ k,co l k=0
  | [],l,_,_,h,k=>qaA (by have:l.length=0:=by simpa using h
                          omega)
  | t::ts,l,nd,hr,hl,k=>by
    have nd':=List.nodup_cons.mp nd
    have e0:=hr t (List.mem_cons_self ..)
    have sd:co (syn l t) ((syn l t).length - 1)=0:=by rw [qja];exact qpj l t
    have cd:=qe8 sd
    have z:∀ k,co (syn l t) k=0:=fun k=>by
      rw [← cd k]
      refine qiC ts (syn l t).dropLast nd'.2 (fun x hx=>?_) (by rw [List.length_dropLast,qja];simp at hl;omega) k
      rw [qg7 _ _ x cd]
      have h1:=qnX l t x
      rw [hr x (List.mem_cons_of_mem _ hx),e0] at h1
      have ne:x - t≠0:=fun q=>nd'.1 (by have:x=t:=by omega
                                        rw [← this];exact hx)
      have h1:(x - t)*evI (syn l t) x=0:=by omega
      rcases Int.mul_eq_zero.mp h1 with q | q
      · exact absurd q ne
      · exact q
    rw [qlP l t k,z k]
    split
    · rw [e0];omega
    · rw [z (k - 1)];omega
theorem qoa (n:Nat):((List.range (2*n+1)).map fun i:Nat=>(i:Int) - (n:Int)).Nodup:=by
  unfold List.Nodup
  rw [List.pairwise_map]
  exact (List.nodup_range (n:=2*n+1)).imp fun h q=>h (by omega)
theorem qlX (f:Int→Bool):∀ P:List Int,(P.filter f).length+(P.filter fun x=>!f x).length=P.length
  | []=>rfl
  | x::P=>by
    have:=qlX f P
    rw [List.filter_cons,List.filter_cons,List.length_cons]
    cases f x
    · simp;omega
    · simp;omega
theorem qpr {r:List Int} {n:Nat} (r0:∃ k,co r k≠0) (rl:r.length≤n):∃ x:Nat→Int,(∀ i,i≤n→evI r (x i)≠0∧(x i).natAbs≤n)∧∀ i j,i≤n→j≤n→i≠j→x i≠x j:=by
  let P:List Int:=(List.range (2*n+1)).map fun i:Nat=>(i:Int) - (n:Int)
  have pl:P.length=2*n+1:=by show ((List.range (2*n+1)).map fun i:Nat=>(i:Int) - (n:Int)).length=_;rw [List.length_map,List.length_range]
  have pn:P.Nodup:=qoa n
  have pr:∀ x∈P,x.natAbs≤n:=fun x hx=>by
    obtain ⟨i,hi,rfl⟩:=List.mem_map.mp hx
    have:=List.mem_range.mp hi
    omega
  have parts:(P.filter fun x=>decide (evI r x=0)).length+(P.filter fun x=>!decide (evI r x=0)).length=P.length:=by
    exact qlX _ P
  have few:(P.filter fun x=>decide (evI r x=0)).length<r.length:=by
    rcases Nat.lt_or_ge (P.filter fun x=>decide (evI r x=0)).length r.length with c | c
    · exact c
    · exfalso
      obtain ⟨k,hk⟩:=r0
      exact hk (qiC _ r (pn.filter _) (fun t ht=>by simpa using (List.mem_filter.mp ht).2) c k)
  let Gd:=P.filter fun x=>!decide (evI r x=0)
  have gl:n+1≤Gd.length:=by
    show n+1≤(P.filter fun x=>!decide (evI r x=0)).length
    omega
  have gn:Gd.Nodup:=pn.filter _
  refine ⟨fun i=>Gd.getD i 0,fun i hi=>?_,fun i j hi hj hij e=>?_⟩
  · have hlt:i<Gd.length:=by omega
    have e:Gd.getD i 0=Gd[i]:=by rw [List.getD_eq_getElem?_getD,List.getElem?_eq_getElem hlt];rfl
    show evI r (Gd.getD i 0)≠0∧(Gd.getD i 0).natAbs≤n
    rw [e]
    have m:=List.mem_filter.mp (List.getElem_mem hlt)
    exact ⟨by simpa using m.2,pr _ m.1⟩
  · have h1:i<Gd.length:=by omega
    have h2:j<Gd.length:=by omega
    have e:Gd.getD i 0=Gd.getD j 0:=e
    rw [List.getD_eq_getElem?_getD,List.getD_eq_getElem?_getD,List.getElem?_eq_getElem h1,List.getElem?_eq_getElem h2] at e
    have e:Gd[i]=Gd[j]:=e
    have pw:=List.pairwise_iff_getElem.mp gn
    rcases Nat.lt_or_gt_of_ne hij with q | q
    · exact pw i j h1 h2 q e
    · exact pw j i h2 h1 q e.symm
theorem qdE {b n c:Nat} {r g A:List Int} (hr:∀ z∈r,Bd b z) (r0:∃ k,co r k≠0) (rl:r.length≤n) (gl:g.length≤n) (hn:n<2 ^ c) (hA:∀ k,co r k=cvL A (co g) k):∀ k,Bd (b+n*(2*c+4)) (co g k):=by
  by_cases g0:g.length=0
  · intro k;rw [qaA (by omega)];exact qbV _
  obtain ⟨x,hx,xi⟩:=qpr r0 rl
  have bx:∀ i,i≤n→Bd c (x i):=fun i hi=>by
    show (x i).natAbs<2 ^ c
    have:=(hx i hi).2
    omega
  intro k
  have:=interp (c:=c) (g.length - 1) g (b+n*(c+1)) x (fun k hk=>qaA (by omega)) (fun i hi=>bx i (by omega)) (fun i j hi hj hij=>xi i j (by omega) (by omega) hij) (fun i hi=>by
    have ne:=(hx i (by omega)).1
    have e:=qpi hA (x i)
    have bd:=qp7 (bx i (by omega)) r hr
    have le:(evI g (x i)).natAbs≤(evI r (x i)).natAbs:=by
      rw [e,Int.natAbs_mul]
      refine Nat.le_mul_of_pos_left _ ?_
      rcases Nat.eq_zero_or_pos (evI A (x i)).natAbs with z | z
      · exact absurd (by rw [e,Int.natAbs_eq_zero.mp z];omega) ne
      · exact z
    refine (bd.le le).mono ?_
    have:=Nat.mul_le_mul_right (c+1) rl
    omega) k
  refine this.mono ?_
  have h1:(g.length - 1)*(c+3)≤n*(c+3):=Nat.mul_le_mul_right (c+3) (by omega)
  have h2:n*(2*c+4)=n*(c+1)+n*(c+3):=by rw [← Nat.mul_add];congr 1;omega
  omega
theorem qfC {a g:List Int} (la:Lz a) (lg:Lz g):cvL a (co g) (a.length - 1+(g.length - 1))=co a (a.length - 1)*co g (g.length - 1):=by
  obtain ⟨i,s,rfl⟩:∃ i s,a=i++[s]:=⟨a.dropLast,a.getLast (List.length_pos_iff.mp la.1),(List.dropLast_concat_getLast _).symm⟩
  have e:(i++[s]).length - 1=i.length:=by rw [List.length_append];simp
  have hs:co (i++[s]) i.length=s:=by
    unfold co
    rw [List.getD_eq_getElem?_getD,List.getElem?_append_right (Nat.le_refl _),Nat.sub_self];rfl
  rw [e,hs,qbu,qb8 (n:=g.length) (fun i hi=>qaA hi) i _ (by have:=lg.1;omega)]
  unfold upS
  rw [if_pos (by omega),show i.length+(g.length - 1) - i.length=g.length - 1 by omega]
  omega
theorem qob {X ms:List Int} (lm:Lz ms) {T:Nat} (h:∀ k,T+(ms.length - 1)≤k→cvL X (co ms) k=0):(∀ j,T≤j→co X j=0)∧∀ s,T=s+1→cvL X (co ms) (s+(ms.length - 1))=co X s*co ms (ms.length - 1):=by
  rcases qgl X with z | ⟨Y,lY,_,eY⟩
  · refine ⟨fun j _=>z j,fun s _=>?_⟩
    rw [qbC,qcn ms z,z s];omega
  · have hY:∀ k,cvL X (co ms) k=cvL Y (co ms) k:=fun k=>by rw [qbC,qas (fun j=>(eY j).symm) ms k,← qbC]
    have tp:=qfC lY lm
    have ly:Y.length≤T:=by
      rcases Nat.lt_or_ge T Y.length with c | c
      · exfalso
        have:=h (Y.length - 1+(ms.length - 1)) (by omega)
        rw [hY,tp] at this
        exact Int.mul_ne_zero lY.2 lm.2 this
      · exact c
    refine ⟨fun j hj=>by rw [← eY];exact qaA (by omega),fun s hs=>?_⟩
    rw [hY,← eY]
    have y0:=lY.1
    rcases Nat.lt_or_ge Y.length T with c | c
    · rw [qaA (by omega),qb8 (n:=ms.length) (fun i hi=>qaA hi) Y _ (by have:=lm.1;omega)];omega
    · rw [show s=Y.length - 1 by omega];exact tp
theorem qmN {m n:Nat} {x y:Int} (hx:Bd m x) (hy:Bd n y) (hm:m≤60000000:=by omega) (hn:n≤60000000:=by omega):IntMulOk x y:=qeN (hx.mono hm) (hy.mono hn)
theorem qqX {ns:List Int} {m:Int} (ms:List Int) (hms:ms=(ns.filter (fun z=>!decide (z=0))).map fun z=>if z<0 then -z else z) (h:ms=[]∧m=0∨m∈ms) (d:Int):(∀ z∈ns,d∣z)→d∣m:=by
  intro hd
  rcases h with ⟨_,e⟩ | h
  · rw [e];exact Int.dvd_zero d
  · rw [hms] at h
    obtain ⟨z,hz,rfl⟩:=List.mem_map.mp h
    have:=hd z (List.mem_filter.mp hz).1
    show d∣if z<0 then -z else z
    split
    · exact Int.dvd_neg.mpr this
    · exact this
theorem qmo (h:qbQ K vs H Q E):qhb K { nx:=fun _ H'=>Q .non H',rt:=Q } (L2.start ["row", "start", "found", "whole"] vs) H:=by
  obtain ⟨p,ns,st,rfl,hp,hl,k⟩:=h
  unfold qhb
  rwa []
  refine ⟨⟨_,SqL.of hp⟩,CompF.lst (xs:=ns.map V.int) (fun i ys H'=>i≤ns.length∧H'=H∧ys=(((ns.take i).filter (fun z=>!decide (z=0))).map fun z=>if z<0 then -z else z).map V.int) ⟨Nat.zero_le _,rfl,rfl⟩ ?_ ?_ ?_⟩
  · rintro i ys H' ⟨h1,rfl,rfl⟩
    refine ⟨by rw [List.length_map];exact h1,sz ?_,SqL.of hp⟩
    rw [List.length_map,List.length_map]
    exact Nat.le_trans (List.length_filter_le _ _) (by rw [List.length_take];omega)
  · rintro i x ys H' hi ⟨h1,rfl,rfl⟩
    rw [List.getElem?_map] at hi
    cases e:ns[i]? with
    | none=>rw [e] at hi;cases hi
    | some n=>
      rw [e] at hi
      obtain rfl:V.int n=x:=Option.some.inj hi
      have hi2:i<ns.length:=(List.getElem?_eq_some_iff.mp e).1
      have et:ns.take (i+1)=ns.take i++[n]:=by rw [List.take_add_one,e];rfl
      rwa []
      refine qc5 (fun c=>?_) (fun c=>?_)
      · refine ⟨by omega,?_⟩
        have c0:¬ n=0:=by simpa using c
        simp [et,List.filter_append,c0]
      · refine ⟨by omega,?_⟩
        have c0:n=0:=by simpa using c
        simp [et,List.filter_append,c0]
  · rintro ys H' ⟨_,rfl,rfl⟩ a ha
    rw [List.length_map,List.take_length]
    have sa:=qag ha (HO.lst (((ns.filter (fun z=>!decide (z=0))).map fun z=>if z<0 then -z else z).map V.int))
    have hpa:=sa _ _ hp
    refine ⟨_,rfl,_,qai,fun m hm=>?_⟩
    have hg:=qqX _ rfl hm
    generalize hHa:upd H' a (HO.lst (((ns.filter (fun z=>!decide (z=0))).map fun z=>if z<0 then -z else z).map V.int))=Ha at sa hpa ⊢
    refine ⟨⟨_,SqL.of hpa⟩,ForL.by (xs:=ns.map V.int) (fun i σ H2=>∃ (g:Int) (x:Option V),σ=[some (.ref p),some (.int st),some (.int g),x]∧H2=Ha∧0≤g∧g∣st∧(∀ z∈ns.take i,g∣z)∧(∀ d:Int,d∣st→(∀ z∈ns,d∣z)→d∣g)) ⟨_,none,rfl,rfl,by omega,Int.gcd_dvd_right m st,fun z hz=>(by simp at hz),fun d h1 h2=>Int.dvd_coe_gcd (hg d h2) h1⟩ ?_ ?_ ?_⟩
    · rintro i σ H2 _ ⟨g,x,rfl,rfl,_⟩
      exact SqL.of hpa
    · rintro i x σ H2 hi ⟨g,y,rfl,rfl,g0,g1,g2,g3⟩
      rw [List.getElem?_map] at hi
      cases e:ns[i]? with
      | none=>rw [e] at hi;cases hi
      | some n=>
        rw [e] at hi
        obtain rfl:V.int n=x:=Option.some.inj hi
        rwa []
        refine qc5 (fun c=>?_) (fun c=>?_)
        · have c1:g=1:=by simpa using c
          subst c1
          exact k 1 _ sa (by decide) (Int.one_dvd _) (fun z _=>Int.one_dvd z) g3
        · refine ⟨by omega,Int.dvd_trans (Int.gcd_dvd_right n g) g1,fun z hz=>?_,fun d h1 h2=>Int.dvd_coe_gcd (h2 n (List.mem_of_getElem? e)) (g3 d h1 h2)⟩
          rw [List.take_add_one,e] at hz
          rcases List.mem_append.mp hz with z1 | z1
          · exact Int.dvd_trans (Int.gcd_dvd_right n g) (g2 z z1)
          · have z2:z=n:=by simpa using z1
            rw [z2];exact Int.gcd_dvd_left n g
    · rintro σ H2 ⟨g,x,rfl,rfl,g0,g1,g2,g3⟩
      rw [List.length_map,List.take_length] at g2
      rwa []
      exact k g _ sa g0 g1 g2 g3
theorem qjl (h:qbm K vs H Q E):qep K { nx:=fun _ H'=>Q .non H',rt:=Q } (L2.start ["row", "divisor"] vs) H:=by
  obtain ⟨p,ns,g,rfl,hp,g0,hl,q⟩:=h
  unfold qep
  rwa []
  refine ⟨⟨_,SqL.of hp⟩,CompJ.lst (xs:=ns.map V.int) (fun i ys H'=>i≤ns.length∧H'=H∧ys=((ns.map (· / g)).take i).map V.int) ⟨Nat.zero_le _,rfl,rfl⟩ ?_ ?_ ?_⟩
  · rintro i ys H' ⟨h1,rfl,rfl⟩
    refine ⟨by rw [List.length_map];exact h1,sz ?_,SqL.of hp⟩
    rw [List.length_map,List.length_take];omega
  · rintro i x ys H' hi ⟨h1,rfl,rfl⟩
    rw [List.getElem?_map] at hi
    cases e:ns[i]? with
    | none=>rw [e] at hi;cases hi
    | some n=>
      rw [e] at hi
      obtain rfl:V.int n=x:=Option.some.inj hi
      have hi2:i<ns.length:=(List.getElem?_eq_some_iff.mp e).1
      have gp:0<g:=by
        rcases g0 with h | h
        · exact h
        · rw [h] at hi2;exact absurd hi2 (by simp)
      rwa []
      refine ⟨gp,by omega,?_⟩
      rw [qbS V.int (q:=n / g) (by rw [List.getElem?_map,e];rfl)]
  · rintro ys H' ⟨_,rfl,rfl⟩ a ha
    have e:(ns.map (· / g)).take (ns.map V.int).length=ns.map (· / g):=by rw [List.length_map,show ns.length=(ns.map (· / g)).length by rw [List.length_map],List.take_length]
    rw [e]
    exact q a ha
theorem qqe {ns:List Int} {k:Nat}:co ns k=ns.getD k 0:=rfl
theorem qjm (ns:List Int):Tz (qem ns):=by
  have key:∀ m,m≤ns.length→qcD ns m=0∨co ns (qcD ns m - 1)≠0:=by
    intro m
    induction m with
    | zero=>intro _;exact .inl rfl
    | succ m ih=>
      intro hm
      rw [qc3]
      split
      · exact ih (by omega)
      · rename_i z
        right
        rw [show m+1 - 1=m by omega,qqe]
        rw [List.getD_eq_getElem?_getD,List.getElem?_eq_getElem (by omega)] at z ⊢
        exact z
  have hl:(qem ns).length=qcD ns ns.length:=qhH
  rcases key ns.length (Nat.le_refl _) with h | h
  · left
    exact List.length_eq_zero_iff.mp (hl.trans h)
  · right
    rw [hl]
    show (qem ns).getD _ 0≠0
    rw [qj6]
    exact h
theorem qjn (ns:List Int) (k:Nat):co (qem ns) k=co ns k:=qj6 k
theorem qfD (n:Nat) (F:Nat→Int):qcI n F=((List.range n).map F).map V.int:=rfl
theorem qsV (ns:List Int) (f:Int) (n:Nat) (h:ns.length≤n):List.map V.int (ns.map (f*·))++List.replicate (n - ns.length) (V.int 0)=qcI n fun k=>f*co ns k:=by
  rw [qfD]
  apply List.ext_getElem?
  intro i
  by_cases h1:i<ns.length
  · rw [List.getElem?_append_left (by rw [List.length_map,List.length_map];exact h1),List.getElem?_map,List.getElem?_map,List.getElem?_map,List.getElem?_map,List.getElem?_range (by omega),List.getElem?_eq_getElem h1]
    show _=some (V.int (f*ns.getD i 0))
    rw [List.getD_eq_getElem?_getD,List.getElem?_eq_getElem h1]
    rfl
  · rw [List.getElem?_append_right (by rw [List.length_map,List.length_map];omega),List.length_map,List.length_map,List.getElem?_map,List.getElem?_map]
    by_cases h2:i<n
    · rw [List.getElem?_replicate,if_pos (by omega),List.getElem?_range h2]
      show _=some (V.int (f*co ns i))
      rw [qaA (by omega),Int.mul_zero]
    · rw [List.getElem?_replicate,if_neg (by omega),List.getElem?_eq_none (by rw [List.length_range];omega)]
      rfl
theorem qk1 (h:qbI K vs H Q E):qfU K { nx:=fun _ H'=>Q .non H',rt:=Q } (L2.start ["row", "factor", "other", "weight", "shift", "result", "place", "whole"] vs) H:=by
  obtain ⟨p,q,ns,ms,f,w,s,rfl,hp,hq,hl,hls,bf,bw,bn,bm,k⟩:=h
  unfold qfU
  rwa []
  refine ⟨⟨_,SqL.of hp⟩,CompJ.lst (xs:=ns.map V.int) (fun i ys H'=>i≤ns.length∧H'=H∧ys=((ns.map (f*·)).take i).map V.int) ⟨Nat.zero_le _,rfl,rfl⟩ ?_ ?_ ?_⟩
  · rintro i ys H' ⟨h1,rfl,rfl⟩
    refine ⟨by rw [List.length_map];exact h1,sz ?_,SqL.of hp⟩
    rw [List.length_map,List.length_take];omega
  · rintro i x ys H' hi ⟨h1,rfl,rfl⟩
    rw [List.getElem?_map] at hi
    cases e:ns[i]? with
    | none=>rw [e] at hi;cases hi
    | some n=>
      rw [e] at hi
      obtain rfl:V.int n=x:=Option.some.inj hi
      have hi2:i<ns.length:=(List.getElem?_eq_some_iff.mp e).1
      rwa []
      refine ⟨qmN bf (bn n (List.mem_of_getElem? e)),by omega,?_⟩
      rw [qbS V.int (q:=f*n) (by rw [List.getElem?_map,e];rfl)]
  · rintro ys H' ⟨_,rfl,rfl⟩ a ha
    have e:(ns.map (f*·)).take (ns.map V.int).length=ns.map (f*·):=by rw [List.length_map,show ns.length=(ns.map (f*·)).length by rw [List.length_map],List.take_length]
    rw [e]
    generalize hL:max ns.length (s+ms.length)=L
    have sa:=qag ha (HO.lst (List.map V.int (ns.map (f*·))))
    have hpa:=sa _ _ hp
    have hqa:=sa _ _ hq
    rwa [hpa,hqa]
    refine ⟨qqD qai,sz (by decide),fun b hb=>?_⟩
    have sb:=qag hb (HO.lst [V.int 0])
    refine ⟨_,sb _ _ hqa,_,sb _ _ hpa,?_⟩
    have e0:(((ms.map V.int).length:Int)+(s:Int) - ((ns.map V.int).length:Int))=(ms.length:Int)+(s:Int) - (ns.length:Int):=by rw [List.length_map,List.length_map]
    rw [e0]
    have ek:((ms.length:Int)+(s:Int) - (ns.length:Int)).toNat=L - ns.length:=by omega
    refine ⟨by omega,by omega,sz (by rw [ek];simp;omega),fun c hc=>?_⟩
    rw [ek,qde]
    have sc:=qag hc (HO.lst (List.replicate (L - ns.length) (V.int 0)))
    have haa:upd H' a (HO.lst (List.map V.int (ns.map (f*·)))) a=some (HO.lst (List.map V.int (ns.map (f*·)))):=qai
    have hac:=sc _ _ (sb _ _ haa)
    refine ⟨_,hac,sz (by simp;omega),?_⟩
    rw [qsV ns f L (by omega)]
    generalize hX:upd (upd (upd H' a (HO.lst (List.map V.int (ns.map (f*·))))) b (HO.lst [V.int 0])) c (HO.lst (List.replicate (L - ns.length) (V.int 0)))=Hx at hac ⊢
    have sx:Same H' Hx:=fun x o h=>by rw [← hX];exact sc x o (sb x o (sa x o h))
    have sd:Same H' (upd Hx a (HO.lst (qcI L fun k=>f*co ns k))):=fun x o h=>Kp.upd x o (qaH h ha) (sx x o h)
    have had:(upd Hx a (HO.lst (qcI L fun k=>f*co ns k))) a=_:=qai
    generalize upd Hx a (HO.lst (qcI L fun k=>f*co ns k))=Hd at sd had ⊢
    refine ⟨⟨_,SqL.of (sd _ _ hq)⟩,ForJ.enumL (xs:=ms.map V.int) (fun j σ H2=>∃ x y:Option V,σ=[some (.ref p),some (.int f),some (.ref q),some (.int w),some (.int (s:Int)),some (.ref a),x,y]∧Same H' H2∧H2 a=some (.lst (qcI L fun k=>f*co ns k - (if s≤k∧k - s<j then w*co ms (k - s) else 0)))) ⟨none,none,rfl,sd,?_⟩ ?_ ?_ ?_⟩
    · rw [had]
      exact congrArg (fun l=>some (HO.lst l)) (qdD fun k _=>by rw [if_neg (by omega)];omega)
    · rintro j σ H2 _ ⟨_,_,_,s2,_⟩
      exact SqL.of (s2 _ _ hq)
    · rintro j y pq σ H2 hj ⟨y3,y4,rfl,s2,hw2⟩ hpq
      rw [List.getElem?_map] at hj
      cases em:ms[j]? with
      | none=>rw [em] at hj;cases hj
      | some u=>
        rw [em] at hj
        obtain rfl:V.int u=y:=Option.some.inj hj
        have jl:j<ms.length:=(List.getElem?_eq_some_iff.mp em).1
        have ud:co ms j=u:=by rw [qqe,List.getD_eq_getElem?_getD,em];rfl
        have sq:=qag hpq (HO.tup [V.int (j:Int),V.int u])
        have hw3:=sq _ _ hw2
        rwa [hw3]
        have kl:s+j<L:=by omega
        refine ⟨_,qek (by omega) (qbL _ kl),qmN bw (bm u (List.mem_of_getElem? em)),_,rfl,s+j,?_,fun b o h=>Kp.upd b o (qaH h ha) (sq b o (s2 b o h)),?_⟩
        · rw [qbT];exact qhF (by omega) kl
        · refine qeK kl ?_ fun k _ hk=>?_
          · rw [if_pos (by omega),if_neg (by omega),show s+j - s=j by omega,ud];omega
          · by_cases h:s≤k∧k - s<j
            · rw [if_pos h,if_pos (by omega)]
            · rw [if_neg h,if_neg (by omega)]
    · rintro σ H2 ⟨y3,y4,rfl,s2,hw2⟩
      rw [List.length_map,qfD] at hw2
      rwa [hw2]
      refine ⟨_,rfl,fun r hr=>k r _ _ (s2.trans (qag hr _)) qai (qjm _) fun i=>?_⟩
      rw [qjn,qgC]
      unfold upS
      by_cases hi:i<L
      · rw [if_pos hi]
        by_cases h:s≤i
        · rw [if_pos h]
          by_cases h2:i - s<ms.length
          · rw [if_pos ⟨h,h2⟩]
          · rw [if_neg (by omega),qaA (a:=ms) (by omega)];omega
        · rw [if_neg h,if_neg (by omega)];omega
      · rw [if_neg hi,qaA (a:=ns) (by omega)]
        by_cases h:s≤i
        · rw [if_pos h,qaA (a:=ms) (by omega)];omega
        · rw [if_neg h];omega
theorem qqY (a b:Int):(a.fdiv b).natAbs≤a.natAbs:=by
  rw [Int.fdiv_eq_ediv]
  split
  · rw [Int.sub_zero];exact Int.natAbs_ediv_le_natAbs a b
  · rename_i h
    have hb:b<0:=by omega
    have hd:¬ b∣a:=fun z=>h (.inr z)
    have e:=Int.mul_ediv_add_emod a b
    have r0:=Int.emod_nonneg a (show b≠0 by omega)
    have r1:=Int.emod_lt_of_neg a hb
    have rn:a % b≠0:=fun z=>hd (Int.dvd_of_emod_eq_zero z)
    generalize a / b=q at *
    generalize a % b=r at *
    rcases Int.lt_or_le q 1 with hq | hq
    · have h1:(-b)*(-q) ≥ 2*(-q):=Int.mul_le_mul_of_nonneg_right (by omega) (by omega)
      rw [Int.neg_mul_neg] at h1
      omega
    · have h1:(-b)*(q - 1) ≥ 1*(q - 1):=Int.mul_le_mul_of_nonneg_right (by omega) (by omega)
      rw [Int.neg_mul,Int.mul_sub] at h1
      omega
theorem qlY {n m:Nat} {F:Nat→Int}:qjE (qcI n F) none (some (m:Int))=((List.range (min m n)).map F).map V.int:=by
  unfold qjE HT.sIx
  simp only [List.drop_zero,Nat.sub_zero,Int.toNat_natCast]
  rw [if_neg (by omega),qbT]
  unfold qcI
  rw [← List.map_take,← List.map_take,List.take_range]
  congr 3
  omega
theorem qps {n:Nat} {F:Nat→Int} (h:((List.range n).map F).any (fun z=>!decide (z=0))=false):∀ k,k<n→F k=0:=by
  intro k hk
  have:=List.any_eq_false.mp h (F k) (List.mem_map.mpr ⟨k,List.mem_range.mpr hk,rfl⟩)
  simpa using this
theorem qoc {n s:Nat} {F:Nat→Int} {w:Int} (hs:s<n) (h0:F s=0) (g:Nat→Int) (k:Nat) :
    cvL ((List.range n).map fun j=>if j=s then w else F j) g k=cvL ((List.range n).map F) g k+w*upS s g k:=by
  have e:∀ m,m≤n→cvL ((List.range m).map fun j=>if j=s then w else F j) g k=cvL ((List.range m).map F) g k+(if s<m then w*upS s g k else 0):=by
    intro m
    induction m with
    | zero=>intro _;rw [if_neg (by omega)];rfl
    | succ m ih=>
      intro hm
      rw [List.range_succ,List.map_append,List.map_append,List.map_singleton,List.map_singleton,qbu,qbu,ih (by omega),List.length_map,List.length_map,List.length_range]
      by_cases e:m=s
      · subst e
        rw [if_pos rfl,if_neg (by omega),if_pos (by omega),h0]
        omega
      · rw [if_neg e]
        by_cases h:s<m
        · rw [if_pos h,if_pos (by omega)];omega
        · rw [if_neg h,if_neg (by omega)];omega
  rw [e n (Nat.le_refl n),if_pos hs]
theorem qbM {b:Nat} {ns:List Int} (h:∀ z∈ns,Bd b z) (k:Nat):Bd b (co ns k):=qcz h k
theorem qgG {n:Nat} {g:Nat→Int} (k:Nat):cvL ((List.range n).map fun _=>(0:Int)) g k=0:=by
  have e:((List.range n).map fun _=>(0:Int))=(List.replicate n (1:Int)).map (0*·):=by
    apply List.ext_getElem?
    intro i
    rw [List.getElem?_map,List.getElem?_map]
    by_cases h:i<n
    · rw [List.getElem?_range h,List.getElem?_replicate,if_pos h];rfl
    · rw [List.getElem?_eq_none (by rw [List.length_range];omega),List.getElem?_replicate,if_neg h];rfl
  rw [e,qav];omega
theorem qsB (ns:List Int):List.map V.int ns=qcI ns.length (co ns):=by
  rw [qfD]
  congr 1
  apply List.ext_getElem?
  intro i
  rw [List.getElem?_map]
  by_cases h:i<ns.length
  · rw [List.getElem?_range h,List.getElem?_eq_getElem h]
    show _=some (ns.getD i 0)
    rw [List.getD_eq_getElem?_getD,List.getElem?_eq_getElem h];rfl
  · rw [List.getElem?_eq_none (by omega),List.getElem?_eq_none (by rw [List.length_range];omega)];rfl
theorem qeD {ms:List Int} (h:0<ms.length):atI (ms.map V.int) (-1)=some (V.int (co ms (ms.length - 1))):=by
  refine atI_last (by rw [List.length_map];omega) ?_
  rw [List.length_map,List.getElem?_map,List.getElem?_eq_getElem (by omega)]
  show _=some (V.int (ms.getD (ms.length - 1) 0))
  rw [List.getD_eq_getElem?_getD,List.getElem?_eq_getElem (by omega)];rfl
theorem qk2 (h:qbN K vs H Q E):qfT K { nx:=fun _ H'=>Q .non H',rt:=Q } (L2.start ["row", "divisor", "rest", "last", "quotient", "shift", "weight", "place"] vs) H:=by
  obtain ⟨p,q,ns,ms,b,d,rfl,hp,hq,lm,bn,bm,bb,bd1,hn,hm,kN,kR⟩:=h
  have m0:=lm.1
  have lne:=lm.2
  obtain ⟨L,hL⟩:∃ L,ms.length=L+1:=⟨ms.length - 1,by omega⟩
  have hL1:ms.length - 1=L:=by omega
  rw [hL1] at lne
  generalize hlead:co ms L=lead at lne
  have aL:=qeD m0
  rw [hL1,hlead] at aL
  generalize hc:ns.length - L=c
  unfold qfT
  rwa [hp]
  refine fun a ha=>?_
  have sa:=qag ha (HO.lst (ns.map V.int))
  unfold qge
  have hpa:=sa _ _ hp
  have hqa:=sa _ _ hq
  rwa [hqa]
  unfold qgd
  rwa []
  refine ⟨sz (by decide),fun x hx=>?_⟩
  have sx:=qag hx (HO.lst [V.int 0])
  have hpx:=sx _ _ hpa
  rwa [hpx]
  have hmax:(if (0:Int) > ((List.map V.int ns).length:Int) - (((List.map V.int ms).length:Int) - 1) then (0:Int) else ((List.map V.int ns).length:Int) - (((List.map V.int ms).length:Int) - 1))=(c:Int):=by
    rw [List.length_map,List.length_map];split <;> omega
  rw [hmax]
  refine ⟨by omega,by omega,sz (by simp;omega),fun y hy=>?_⟩
  rw [Int.toNat_natCast,qde]
  have sy:=qag hy (HO.lst (List.replicate c (V.int 0)))
  have sA:Same (upd H a (HO.lst (ns.map V.int))) (upd (upd (upd H a (HO.lst (ns.map V.int))) x (HO.lst [V.int 0])) y (HO.lst (List.replicate c (V.int 0)))):=fun z o h=>sy z o (sx z o h)
  have hay:=sA _ _ (show upd H a (HO.lst (ns.map V.int)) a=_ from qai)
  have hyy:(upd (upd (upd H a (HO.lst (ns.map V.int))) x (HO.lst [V.int 0])) y (HO.lst (List.replicate c (V.int 0)))) y=_:=qai
  have sH:Same H (upd (upd (upd H a (HO.lst (ns.map V.int))) x (HO.lst [V.int 0])) y (HO.lst (List.replicate c (V.int 0)))):=fun z o h=>sA z o (sa z o h)
  have nay:a≠y:=qaH (sx _ _ (show upd H a (HO.lst (ns.map V.int)) a=_ from qai)) hy
  have nyH:H y=none:=by
    cases e:H y with
    | none=>rfl
    | some o=>have:=sx _ _ (sa _ _ e);rw [hy] at this;cases this
  generalize (upd (upd (upd H a (HO.lst (ns.map V.int))) x (HO.lst [V.int 0])) y (HO.lst (List.replicate c (V.int 0))))=H1 at hay hyy sH ⊢
  rw [qsB ns] at hay
  have e0:List.replicate c (V.int 0)=qcI c fun _=>0:=by rw [← qde,qjj]
  rw [e0] at hyy
  unfold qgc
  have hp1:=sH _ _ hp
  rwa [hp1]
  refine ⟨by rw [List.length_map,List.length_map];omega,?_⟩
  have elo:((List.map V.int ns).length:Int) - (((List.map V.int ms).length:Int) - 1) - 1=(ns.length:Int) - (L:Int) - 1:=by rw [List.length_map,List.length_map];omega
  have ela:((List.map V.int ms).length:Int) - 1=(L:Int):=by rw [List.length_map];omega
  rw [elo,ela]
  have ecn:((ns.length:Int) - (L:Int) - 1 - -1).toNat=c:=by omega
  rw [ecn]
  refine ⟨by omega,by decide,by decide,?_⟩
  let Iv:Nat→L2.St→Hp→Prop:=fun i σ H2=>i≤c∧∃ (F G:Nat→Int) (u v w:Option V),σ=[some (.ref p),some (.ref q),some (.ref a),some (.int (L:Int)),some (.ref y),u,v,w]∧Same H H2∧H2 a=some (.lst (qcI ns.length F))∧H2 y=some (.lst (qcI c G))∧
    (∀ j,j<c - i→G j=0)∧(∀ k,k<ns.length - i→F k=co ns k - cvL ((List.range c).map G) (co ms) k)∧(∀ k,ns.length - i≤k→co ns k=cvL ((List.range c).map G) (co ms) k)∧(∀ k,k<ns.length→Bd (b+i*(d+1)) (F k))
  refine ForJ.down Iv ⟨Nat.zero_le _,co ns,fun _=>0,none,none,none,rfl,sH,hay,hyy,fun _ _=>rfl,fun k _=>by rw [qgG];omega,fun k hk=>by rw [qgG,qaA (by omega)],fun k _=>(qbM bn k).mono (by omega)⟩ ?_ ?_
  · rintro i σ H2 hi ⟨_,F,G,u,v,w,rfl,s2,ha2,hy2,hG,hF,hF2,bF⟩
    have hq2:=s2 _ _ hq
    have ic:i<c:=hi
    have esh:((ns.length:Int) - (L:Int) - 1 - (i:Int))=((c - 1 - i:Nat):Int):=by omega
    rw [esh]
    generalize hs:c - 1 - i=s
    have hst:s+L=ns.length - 1 - i:=by omega
    have aT:atI (qcI ns.length F) ((s:Int)+(L:Int))=some (V.int (F (s+L))):=qek (j:=s+L) (by omega) (qbL F (by omega))
    unfold qet
    rwa [ha2,hq2,aL,aT]
    refine ⟨lne,?_⟩
    generalize hw:(F (s+L)).fdiv lead=wt
    have bFt:=bF (s+L) (by omega)
    have bwt:Bd (b+i*(d+1)) wt:=bFt.le (by rw [← hw];exact qqY _ _)
    have bi:b+i*(d+1)≤60000000:=by
      have:=Nat.mul_le_mul_right (d+1) (show i≤ns.length by omega)
      omega
    have bi1:b+(i+1)*(d+1)≤60000000:=by
      have:=Nat.mul_le_mul_right (d+1) (show i+1≤ns.length by omega)
      omega
    have bld:Bd d lead:=by rw [← hlead];exact qbM bm L
    unfold qes
    rwa [ha2,hq2,aL,aT]
    refine ⟨qmN bwt bld,?_⟩
    refine qc5 (fun ce=>?_) (fun ce=>?_)
    · refine kN (fun ⟨A,hA⟩=>?_) _ s2
      have ce':wt*lead≠F (s+L):=by simpa using ce
      have hX:∀ k,cvL (qbj A (((List.range c).map G).map ((-1)*·))) (co ms) k=co ns k - cvL ((List.range c).map G) (co ms) k:=fun k=>by rw [qaz,qav,← hA];omega
      have q:=(qob lm (X:=qbj A (((List.range c).map G).map ((-1)*·))) (T:=s+1) (fun k hk=>by rw [hX,hF2 k (by omega)];omega)).2 s rfl
      rw [hX,hL1,hlead,← hF (s+L) (by omega)] at q
      exact ce' (by rw [← hw,q,Int.mul_fdiv_cancel _ lne])
    have ex:wt*lead=F (s+L):=by simpa using ce
    unfold qer
    rwa [hy2]
    refine ⟨s,by rw [qbT];exact qhF rfl (by omega),?_⟩
    have hG':(qcI c G).set s (V.int wt)=qcI c (fun j=>if j=s then wt else G j):=qeK (by omega) (if_pos rfl) fun j _ hj=>if_neg hj
    rw [hG']
    have s3:Same H (upd H2 y (HO.lst (qcI c fun j=>if j=s then wt else G j))):=fun z o h=>Kp.upd z o (qaH h nyH) (s2 z o h)
    have ha3:(upd H2 y (HO.lst (qcI c fun j=>if j=s then wt else G j))) a=_:=(qaJ nay).trans ha2
    have hy3:(upd H2 y (HO.lst (qcI c fun j=>if j=s then wt else G j))) y=_:=qai
    generalize (upd H2 y (HO.lst (qcI c fun j=>if j=s then wt else G j)))=H3 at s3 ha3 hy3 ⊢
    have cvE:∀ k,cvL ((List.range c).map fun j=>if j=s then wt else G j) (co ms) k=cvL ((List.range c).map G) (co ms) k+wt*upS s (co ms) k:=fun k=>qoc (by omega) (hG s (by omega)) _ k
    have fin:∀ (F':Nat→Int) (u v w:Option V) (H4:Hp),Same H H4→H4 a=some (.lst (qcI ns.length F'))→H4 y=some (.lst (qcI c fun j=>if j=s then wt else G j))→(∀ k,k<ns.length→F' k=F k - (if s≤k∧k - s<L then wt*co ms (k - s) else 0))→
        Iv (i+1) [some (.ref p),some (.ref q),some (.ref a),some (.int (L:Int)),some (.ref y),u,v,w] H4:=fun F' u v w H4 s4 ha4 hy4 eF=>by
      refine ⟨by omega,F',_,u,v,w,rfl,s4,ha4,hy4,fun j hj=>?_,fun k hk=>?_,fun k hk=>?_,fun k hk=>?_⟩
      · show (if j=s then wt else G j)=0
        rw [if_neg (by omega)];exact hG j (by omega)
      · rw [eF k (by omega),cvE,hF k (by omega)]
        unfold upS
        by_cases h:s≤k
        · rw [if_pos h,if_pos ⟨h,by omega⟩];omega
        · rw [if_neg h,if_neg (by omega)];omega
      · rw [cvE]
        by_cases ek:k=s+L
        · have hf:=hF k (by omega)
          rw [ek] at hf ⊢
          unfold upS
          rw [if_pos (by omega),show s+L - s=L by omega,hlead,ex];omega
        · have h2:=hF2 k (by omega)
          rw [h2]
          unfold upS
          by_cases h:s≤k
          · rw [if_pos h,qaA (a:=ms) (by omega)];omega
          · rw [if_neg h];omega
      · rw [eF k hk]
        have e2:b+(i+1)*(d+1)=b+i*(d+1)+d+1:=by rw [Nat.add_mul];omega
        rw [e2]
        refine Bd.sub ((bF k hk).mono (by omega)) ?_
        split
        · exact bwt.mul (qbM bm _)
        · exact qbV _
    unfold qeq
    rwa []
    refine qc5 (fun cw=>?_) (fun cw=>?_)
    · refine ⟨by omega,by omega,?_⟩
      rw [Int.toNat_natCast]
      refine ForR.by (fun j σ H4=>∃ (u:Option V),σ=[some (.ref p),some (.ref q),some (.ref a),some (.int (L:Int)),some (.ref y),some (.int (s:Int)),some (.int wt),u]∧Same H H4∧H4 a=some (.lst (qcI ns.length fun k=>F k - (if s≤k∧k - s<j then wt*co ms (k - s) else 0)))∧H4 y=some (.lst (qcI c fun j=>if j=s then wt else G j))) ⟨w,rfl,s3,?_,hy3⟩ ?_ ?_
      · rw [ha3]
        exact congrArg (fun l=>some (HO.lst l)) (qdD fun k _=>by rw [if_neg (by omega)];omega)
      · rintro j σ H4 hj ⟨u',rfl,s4,ha4,hy4⟩
        have hq4:=s4 _ _ hq
        have aj:atI (ms.map V.int) (0+(j:Int))=some (V.int (co ms j)):=qek (j:=j) (by omega) (by rw [qsB];exact qbL _ (by omega))
        rwa [ha4,hq4,aj]
        refine ⟨_,qek (j:=s+j) (by omega) (qbL _ (by omega)),qmN bwt (qbM bm j),_,rfl,s+j,by rw [qbT];exact qhF (by omega) (by omega),?_,?_,?_⟩
        · intro z o h
          exact Kp.upd z o (qaH h ha) (s4 z o h)
        · refine qeK (by omega) ?_ fun k _ hk=>?_
          · rw [if_pos (by omega),if_neg (by omega),show s+j - s=j by omega];omega
          · by_cases h:s≤k∧k - s<j
            · rw [if_pos h,if_pos (by omega)]
            · rw [if_neg h,if_neg (by omega)]
        · rw [qaJ (Ne.symm nay)];exact hy4
      · rintro σ H4 ⟨u',rfl,s4,ha4,hy4⟩
        exact fin _ _ _ _ _ s4 ha4 hy4 fun k _=>rfl
    · have w0:wt=0:=by simpa using cw
      exact fin F _ _ _ _ s3 ha3 hy3 fun k _=>by rw [w0];split <;> omega
  · rintro σ H2 ⟨_,F,G,u,v,w,rfl,s2,ha2,hy2,hG,hF,hF2,bF⟩
    unfold qgb
    rwa [ha2]
    refine fun z hz=>?_
    rw [qlY]
    have sz2:=qag hz (HO.lst (((List.range (min L ns.length)).map F).map V.int))
    refine ⟨_,rfl,qc5 (fun ce=>?_) (fun ce=>?_)⟩
    · refine kN (fun ⟨A,hA⟩=>?_) _ (s2.trans sz2)
      have hX:∀ k,cvL (qbj A (((List.range c).map G).map ((-1)*·))) (co ms) k=co ns k - cvL ((List.range c).map G) (co ms) k:=fun k=>by rw [qaz,qav,← hA];omega
      have q:=(qob lm (X:=qbj A (((List.range c).map G).map ((-1)*·))) (T:=0) (fun k hk=>by rw [hX,hF2 k (by omega)];omega)).1
      have ce':((List.range (min L ns.length)).map F).any (fun z=>!decide (z=0))=true:=by simpa using ce
      obtain ⟨z,hz',hz0⟩:=List.any_eq_true.mp ce'
      obtain ⟨k,hk,rfl⟩:=List.mem_map.mp hz'
      have hk:=List.mem_range.mp hk
      have e:=hX k
      rw [qbC,qcn ms (fun j=>q j (Nat.zero_le j)),← hF k (by omega)] at e
      rw [← e] at hz0
      simp at hz0
    · have ce':((List.range (min L ns.length)).map F).any (fun z=>!decide (z=0))=false:=by simpa using ce
      have hy3:=sz2 _ _ hy2
      rw [qfD] at hy3
      refine kR y _ _ (s2.trans sz2) hy3 fun k=>?_
      by_cases hk:ns.length - c≤k
      · exact hF2 k hk
      · have:=hF k (by omega)
        rw [qps ce' k (by omega)] at this
        omega
theorem qlZ {K:W.Frag} {a:Addr} {capt:List (Option Nat)} {te:TE} {σ:L2.St} {Q:VK} {H:Hp} {ns:List Int} (F:Int→Int) (hp:H a=some (.lst (ns.map V.int))) (hl:ns.length≤1000)
    (hs:∀ n,n∈ns→∀ P:VK,P (.int (F n)) H→te ((qc7 capt σ).set 0 (some (.int n))) H P) (hd:∀ p,H p=none→Q (.ref p) (upd H p (.lst ((ns.map F).map V.int)))):CompJ (Itl K a) capt (qaq 0) te σ Q H:=by
  refine CompJ.lst (xs:=ns.map V.int) (fun i ys H'=>i≤ns.length∧H'=H∧ys=((ns.map F).take i).map V.int) ⟨Nat.zero_le _,rfl,rfl⟩ ?_ ?_ ?_
  · rintro i ys H' ⟨h1,rfl,rfl⟩
    refine ⟨by rw [List.length_map];exact h1,sz ?_,SqL.of hp⟩
    rw [List.length_map,List.length_take];omega
  · rintro i x ys H' hi ⟨h1,rfl,rfl⟩
    rw [List.getElem?_map] at hi
    cases e:ns[i]? with
    | none=>rw [e] at hi;cases hi
    | some n=>
      rw [e] at hi
      obtain rfl:V.int n=x:=Option.some.inj hi
      have hi2:i<ns.length:=(List.getElem?_eq_some_iff.mp e).1
      show te ((qc7 capt σ).set 0 (some (.int n))) H' _
      refine hs n (List.mem_of_getElem? e) _ ⟨by omega,rfl,?_⟩
      rw [qbS V.int (q:=F n) (by rw [List.getElem?_map,e];rfl)]
  · rintro ys H' ⟨_,rfl,rfl⟩ p hpn
    have e:(ns.map F).take (ns.map V.int).length=ns.map F:=by rw [List.length_map,show ns.length=(ns.map F).length by rw [List.length_map],List.take_length]
    rw [e]
    exact hd p hpn
theorem qhJ (h:qbp K vs H Q E):qdq K { nx:=fun _ H'=>Q .non H',rt:=Q } (L2.start ["row", "prime"] vs) H:=by
  obtain ⟨p,ns,m,rfl,hp,m0,hl,q⟩:=h
  unfold qdq
  rwa []
  refine ⟨⟨_,SqL.of hp⟩,qlZ (· % m) hp hl (fun n _ P hP=>?_) q⟩
  rwa []
  exact ⟨m0,hP⟩
theorem qj9 {F:Int→Int} (h0:F 0=0) (ns:List Int) (k:Nat):co (ns.map F) k=F (co ns k):=by
  unfold co
  rw [List.getD_eq_getElem?_getD,List.getD_eq_getElem?_getD,List.getElem?_map]
  cases ns[k]? with
  | none=>exact h0.symm
  | some z=>rfl
theorem qka {ns:List Int} {z:Int} (h:z∈qem ns):z∈ns:=List.mem_of_mem_take h
theorem qpt (ns:List Int):(qem ns).length≤ns.length:=by rw [qhH];exact qhG _ _
theorem qb4 (a m:Int):m∣a % m - a:=⟨-(a / m),by have:=Int.emod_add_mul_ediv a m;rw [Int.mul_neg];omega⟩
theorem qjo (h:qbc K vs H Q E):qev K { nx:=fun _ H'=>Q .non H',rt:=Q } (L2.start ["row", "prime"] vs) H:=by
  obtain ⟨p,ns,m,rfl,hp,m0,hl,q⟩:=h
  unfold qev
  rwa [hp]
  refine ⟨_,rfl,m0,hl,fun r hr=>?_⟩
  refine ⟨_,rfl,fun t ht=>?_⟩
  refine q t _ _ ((qag hr _).trans (qag ht _)) qai (qjm _) (Nat.le_trans (qpt _) (by rw [List.length_map];exact Nat.le_refl _)) ⟨fun z hz=>?_,fun k=>?_⟩
  · obtain ⟨y,_,rfl⟩:=List.mem_map.mp (qka hz)
    exact ⟨Int.emod_nonneg _ (by omega),Int.emod_lt_of_pos _ m0⟩
  · rw [qjn,qj9 (Int.zero_emod m)]
    exact qb4 _ _
theorem qf0 (h:qba K vs H Q E):qcB K { nx:=fun _ H'=>Q .non H',rt:=Q } (L2.start ["whole", "prime", "one", "other", "one_weight", "other_weight", "quotient", "rest"] vs) H:=by
  obtain ⟨a,p,rfl,p2,bp,q⟩:=h
  unfold qcB qdj qdi qdh qdg
  rwa []
  refine ⟨by omega,?_⟩
  have a0:=Int.emod_nonneg a (show p≠0 by omega)
  have a1:=Int.emod_lt_of_pos a (show 0<p by omega)
  refine while_by (fun n σ H'=>∃ (x y s t:Int) (u v:Option V),σ=[some (.int a),some (.int p),some (.int x),some (.int y),some (.int s),some (.int t),u,v]∧H'=H∧n=y.toNat∧0≤y∧y<x∧x≤p∧
    Int.gcd x y=Int.gcd a p∧p∣x - s*a∧p∣y - t*a∧(t.natAbs:Int)*x+(s.natAbs:Int)*y≤p∧(s.natAbs:Int)≤p) (a % p).toNat ⟨p,a % p,0,1,none,none,rfl,rfl,rfl,a0,a1,Int.le_refl _,?_,⟨1,by omega⟩,?_,by simp,by simp;omega⟩ ?_
  · rw [qlv a (by omega)]
  · rw [show a % p - 1*a=a % p - a by omega]
    exact qb4 a p
  · rintro n σ H' ⟨x,y,s,t,u,v,rfl,rfl,rfl,y0,yx,xp,hg,hs,ht,hb,hsp⟩
    have tx:(t.natAbs:Int)*1≤(t.natAbs:Int)*x:=Int.mul_le_mul_of_nonneg_left (by omega) (by omega)
    have sy:0≤(s.natAbs:Int)*y:=Int.mul_nonneg (by omega) y0
    have tp:(t.natAbs:Int)≤p:=by omega
    rwa []
    refine qc5 (fun c=>?_) (fun c=>?_)
    · have yp:0<y:=by
        have:y≠0:=by simpa using c
        omega
      unfold qcv qcu qct qcs qcr qcq qcp
      have q0:=Int.ediv_nonneg (show 0≤x by omega) y0
      have q1:x / y≤x:=Int.ediv_le_self y (by omega)
      have r0:=Int.emod_nonneg x (show y≠0 by omega)
      have r1:=Int.emod_lt_of_pos x yp
      have er:x - x / y*y=x % y:=by have:=Int.emod_add_mul_ediv x y;rw [Int.mul_comm] at this;omega
      have B:∀ {z:Int},z.natAbs≤p.natAbs→Bd 60000000 z:=fun h=>(bp.le h).mono (by decide)
      refine ⟨fun σ' H''=>∃ m',m'<y.toNat∧_,fun _ _ h=>h,?_⟩
      rwa []
      refine ⟨yp,qmN (B (by omega)) (B (by omega)),qmN (B (by omega)) (B (by omega)),?_⟩
      refine ⟨(x - x / y*y).toNat,by omega,rfl,by omega,by omega,by omega,?_,ht,?_,?_,tp⟩
      · rw [er,qlv x y0];exact hg
      · obtain ⟨α,hα⟩:=hs
        obtain ⟨β,hβ⟩:=ht
        exact ⟨α - x / y*β,by
          generalize x / y=qq at *
          have e1:x=s*a+p*α:=by omega
          have e2:y=t*a+p*β:=by omega
          rw [e1,e2];grind⟩
      · have n1:((s - x / y*t).natAbs:Int)≤(s.natAbs:Int)+x / y*(t.natAbs:Int):=by
          have h1:=Int.natAbs_sub_le s (x / y*t)
          rw [Int.natAbs_mul] at h1
          have h2:((x / y).natAbs:Int)=x / y:=by omega
          have h3:(((x / y).natAbs*t.natAbs:Nat):Int)=x / y*(t.natAbs:Int):=by rw [Int.natCast_mul,h2]
          omega
        have n2:=Int.mul_le_mul_of_nonneg_right n1 y0
        rw [er]
        have n3:(t.natAbs:Int)*(x % y)=(t.natAbs:Int)*x - (t.natAbs:Int)*(x / y*y):=by rw [← er,Int.mul_sub]
        rw [n3]
        generalize (t.natAbs:Int)=tt at *
        generalize (s.natAbs:Int)=ss at *
        generalize x / y=qq at *
        have n4:(ss+qq*tt)*y=ss*y+tt*(qq*y):=by grind
        omega
    · have yz:y=0:=by simpa using c
      unfold qdf
      rwa []
      refine ⟨by omega,q _ (Int.emod_nonneg _ (by omega)) (Int.emod_lt_of_pos _ (by omega)) fun hc=>?_⟩
      have x1:x=1:=by
        rw [yz] at hg
        rw [Int.gcd_zero_right,hc] at hg
        omega
      obtain ⟨α,hα⟩:=hs
      obtain ⟨γ,hγ⟩:=qb4 s p
      refine ⟨γ*a - α,?_⟩
      have e1:s % p=s+p*γ:=by omega
      rw [e1]
      have e2:s*a=1 - p*α:=by omega
      grind
theorem qhK (h:qa2 K vs H Q E):qdr K { nx:=fun _ H'=>Q .non H',rt:=Q } (L2.start ["row", "prime", "factor"] vs) H:=by
  obtain ⟨q,ns,p,rfl,hq,pp,bp,hl,tz,hz,k⟩:=h
  have p2:(2:Int)≤(p:Int):=by have:=pp.two;omega
  unfold qdr
  rwa [hq]
  by_cases hn:ns=[]
  · subst hn
    refine qc5 (fun _=>?_) (fun c=>absurd rfl c)
    refine ⟨sz (by decide),fun r hr=>k r [] 0 _ (qag hr _) qai rfl (fun z=>absurd rfl z) ⟨fun z hz=>(by cases hz),fun i=>?_⟩⟩
    show (p:Int)∣co [] i - 0*co [] i
    rw [qaA (Nat.zero_le _)];exact ⟨0,by omega⟩
  have l0:0<ns.length:=List.length_pos_iff.mpr hn
  refine qc5 (fun c=>absurd c (by simpa using hn)) (fun _=>?_)
  have aL:=qeD l0
  rwa [aL]
  refine ⟨p2,bp,fun f f0 f1 hf=>?_⟩
  have lne:co ns (ns.length - 1)≠0:=by
    rcases tz with h | h
    · exact absurd h hn
    · exact h
  have lz:0≤co ns (ns.length - 1)∧co ns (ns.length - 1)<(p:Int):=hz _ (by
    unfold co
    rw [List.getD_eq_getElem?_getD,List.getElem?_eq_getElem (by omega)]
    exact List.getElem_mem _)
  have gc:Int.gcd (co ns (ns.length - 1)) (p:Int)=1:=pp.cop fun z=>by
    have:=Nat.le_of_dvd (by omega) z
    omega
  have hf:=hf gc
  have B:∀ {z:Int},0≤z→z<(p:Int)→Bd 60000000 z:=fun h1 h2=>(bp.le (by omega)).mono (by decide)
  refine ⟨⟨_,SqL.of hq⟩,qlZ (fun n=>n*f % (p:Int)) hq hl (fun n hn P hP=>?_) fun r hr=>?_⟩
  · rwa []
    exact ⟨qmN (B (hz n hn).1 (hz n hn).2) (B f0 f1),by omega,hP⟩
  · have cm:∀ i,co (ns.map fun n=>n*f % (p:Int)) i=co ns i*f % (p:Int):=fun i=>qj9 (F:=fun n=>n*f % (p:Int)) (by simp) ns i
    refine k r _ f _ (qag hr _) qai (List.length_map ..) (fun _=>?_) ⟨fun z hz=>?_,fun i=>?_⟩
    · rw [List.length_map,cm]
      obtain ⟨c,hc⟩:=hf
      have e:co ns (ns.length - 1)*f=1+(p:Int)*c:=by rw [Int.mul_comm];omega
      rw [e,Int.add_mul_emod_self_left]
      exact Int.emod_eq_of_lt (by decide) (by omega)
    · obtain ⟨y,_,rfl⟩:=List.mem_map.mp hz
      exact ⟨Int.emod_nonneg _ (by omega),Int.emod_lt_of_pos _ (by omega)⟩
    · rw [cm]
      show (p:Int)∣co ns i*f % (p:Int) - f*co ns i
      rw [Int.mul_comm f]
      exact qb4 _ _
theorem qmp (h:qcg K vs H Q E):qhc K { nx:=fun _ H'=>Q .non H',rt:=Q } (L2.start ["whole", "prime", "rest"] vs) H:=by
  obtain ⟨w,p,rfl,p0,k⟩:=h
  unfold qhc
  rwa []
  have r0:=Int.emod_nonneg w (show p≠0 by omega)
  have r1:=Int.emod_lt_of_pos w p0
  have rd:=qb4 w p
  refine ⟨p0,IntMulOk.of_left (intBits_le_64 (by omega) (by omega)),qc5 (fun c=>?_) (fun c=>?_)⟩
  · refine k _ ?_ (by omega)
    obtain ⟨γ,hγ⟩:=rd
    exact ⟨γ - 1,by rw [Int.mul_sub];omega⟩
  · exact k _ rd (by omega)
theorem qh2 (h:qbx K vs H Q E):qdU K { nx:=fun _ H'=>Q .non H',rt:=Q } (L2.start ["row", "divisor", "modulus"] vs) H:=by
  obtain ⟨p,q,ns,ms,m,b,rfl,hp,hq,m0,ml,mp,bm,bms,bb,hn,hm,k⟩:=h
  unfold qdU
  rwa [hp,hq]
  refine ⟨ns,rfl,ms,rfl,m0,ml,mp,b,bm,bms,bb,hn,hm,fun t r s qs rs H' sH ht hr hs tq tr lr md _=>?_⟩
  refine ⟨_,ht,?_⟩
  rwa []
  exact k s qs rs H' sH hs tr lr md
theorem qgm (h:qbk K vs H Q E):qc0 K { nx:=fun _ H'=>Q .non H',rt:=Q } (L2.start ["row", "other", "prime", "rest"] vs) H:=by
  obtain ⟨a,b,ns,ms,p,rfl,ha,hb,pp,bp,hn,hm,h0,k⟩:=h
  have p2:(2:Int)≤(p:Int):=by have:=pp.two;omega
  unfold qc0
  rwa [ha]
  refine ⟨ns,rfl,by omega,hn,fun c r1 H1 s1 hc tz1 l1 md1=>?_⟩
  refine ⟨r1,p,rfl,hc,pp,bp,by omega,tz1,md1.1,fun d r2 f H2 s2 hd l2 o2 md2=>?_⟩
  have hb2:=s2 _ _ (s1 _ _ hb)
  rwa [hb2]
  refine ⟨ms,rfl,by omega,hm,fun c' r3 H3 s3 hc' tz3 l3 md3=>?_⟩
  refine ⟨r3,p,rfl,hc',pp,bp,by omega,tz3,md3.1,fun d' r4 f' H4 s4 hd' l4 o4 md4=>?_⟩
  have s04:Same H H4:=((s1.trans s2).trans s3).trans s4
  have hd4:=(s3.trans s4) _ _ hd
  have step:∀ {g h:Nat→Int} {rs:List Int} {f:Int},Dm (p:Int) g h→Md (p:Int) rs (fun k=>f*h k)→Dm (p:Int) g (co rs):=fun {g h rs f} d md=>by
    refine Dm.congr (Dm.less d d f 0 0) fun k=>?_
    have:=md.2 k
    show (p:Int)∣co rs k - (f*h k - 0*_)
    rw [Int.zero_mul,Int.sub_zero]
    exact this
  have nz:∀ {xs rs rs2:List Int} {f:Int},(∃ k,¬ (p:Int)∣co xs k)→Md (p:Int) rs (co xs)→rs2.length=rs.length→0<rs2.length:=fun {xs rs rs2 f} ⟨k,hk⟩ md e=>by
    rcases Nat.eq_zero_or_pos rs2.length with z | z
    · exfalso
      have:=md.2 k
      rw [qaA (by omega)] at this
      have t2:=Int.dvd_neg.mpr this
      rw [show ∀ x:Int,-(0 - x)=x by intro x;omega] at t2
      exact hk t2
    · exact z
  have M1:∀ {xs rs:List Int},Md (p:Int) rs (co xs)→∀ {g:Nat→Int},Dm (p:Int) g (co xs)→Dm (p:Int) g (co rs):=fun md g d=>Dm.congr d md.2
  have back1:∀ {g:Nat→Int} {r r2:List Int} {f:Int},Md (p:Int) r2 (fun k=>f*co r k)→r2.length=r.length→(r≠[]→co r2 (r2.length - 1)=1)→Dm (p:Int) g (co r2)→Dm (p:Int) g (co r):=fun {g r r2 f} md l o d=>by
    by_cases r0:r=[]
    · exact Dm.zero _ _ fun k=>by rw [r0,qaA (Nat.zero_le _)];exact Int.dvd_zero _
    · refine Dm.congr (Dm.less d d (co r (r.length - 1)) 0 0) fun k=>?_
      show (p:Int)∣co r k - (co r (r.length - 1)*co r2 k - 0*_)
      rw [Int.zero_mul,Int.sub_zero]
      have h1:=md.2 k
      have h2:=md.2 (r2.length - 1)
      rw [o r0,l] at h2
      have q1:(p:Int)∣co r (r.length - 1)*(co r2 k - f*co r k):=Int.dvd_mul_of_dvd_right h1
      have q2:(p:Int)∣co r k*(1 - f*co r (r.length - 1)):=Int.dvd_mul_of_dvd_right h2
      refine Int.dvd_trans (Int.dvd_sub q2 q1) (qpq ?_)
      grind
  have back:∀ {g:Nat→Int} {xs r r2:List Int} {f:Int},Md (p:Int) r (co xs)→Md (p:Int) r2 (fun k=>f*co r k)→r2.length=r.length→(r≠[]→co r2 (r2.length - 1)=1)→Dm (p:Int) g (co r2)→Dm (p:Int) g (co xs):=fun {g xs r r2 f} md1 md l o d=>Dm.congr (back1 md l o d) fun k=>by
    have:=Int.dvd_neg.mpr (md1.2 k)
    refine Int.dvd_trans this (qpq ?_)
    omega
  refine while_by (fun m σ H'=>∃ (x y:Addr) (xs ys:List Int) (u:Option V),σ=[some (.ref x),some (.ref y),some (.int (p:Int)),u]∧Same H H'∧H' x=some (.lst (xs.map V.int))∧H' y=some (.lst (ys.map V.int))∧m=ys.length∧xs.length≤1000∧ys.length≤1000∧(0<xs.length∨0<ys.length)∧(xs≠[]→co xs (xs.length - 1)=1)∧(ys≠[]→co ys (ys.length - 1)=1)∧(∀ z∈xs,0≤z∧z<(p:Int))∧(∀ z∈ys,0≤z∧z<(p:Int))∧
    (∀ g:Nat→Int,Dm (p:Int) g (co ns)→Dm (p:Int) g (co ms)→Dm (p:Int) g (co xs)∧Dm (p:Int) g (co ys))∧(∀ g:Nat→Int,Dm (p:Int) g (co xs)→Dm (p:Int) g (co ys)→Dm (p:Int) g (co ns)∧Dm (p:Int) g (co ms))) r4.length ⟨d,d',r2,r4,none,rfl,s04,hd4,hd',rfl,by omega,by omega,?_,?_,?_,md2.1,md4.1,fun g d1 d2=>⟨step (M1 md1 d1) md2,step (M1 md3 d2) md4⟩,fun g d1 d2=>⟨back md1 md2 l2 o2 d1,back md3 md4 l4 o4 d2⟩⟩ ?_
  · rcases h0 with h | h
    · exact .inl (nz (f:=f) h md1 l2)
    · exact .inr (nz (f:=f) h md3 l4)
  · intro z
    exact o2 fun e=>z (List.length_eq_zero_iff.mp (by rw [l2,e];rfl))
  · intro z
    exact o4 fun e=>z (List.length_eq_zero_iff.mp (by rw [l4,e];rfl))
  · rintro m σ H' ⟨x,y,xs,ys,u,rfl,sH,hx,hy,rfl,xl,yl,ne,ox,oy,bx,bY,hD,hE⟩
    rwa [hy]
    by_cases hys:ys=[]
    · subst hys
      refine qc5 (fun c=>absurd c (by simp)) (fun _=>?_)
      have x0:0<xs.length:=by simpa using ne
      have rfx:Dm (p:Int) (co xs) (co xs):=⟨[1],fun k=>by
        have e:cvL [1] (co xs) k=co xs k:=by
          cases k with
          | zero=>rw [qat];omega
          | succ k=>rw [qao,qaD];omega
        rw [e,Int.sub_self];exact Int.dvd_zero _⟩
      have zz:Dm (p:Int) (co xs) (co []):=Dm.zero _ _ fun k=>by rw [qaA (Nat.zero_le _)];exact Int.dvd_zero _
      exact k x xs H' sH hx x0 xl (ox (List.length_pos_iff.mp x0)) bx (fun g d1 d2=>(hD g d1 d2).1) (hE _ rfx zz).1 (hE _ rfx zz).2
    · have y0:0<ys.length:=List.length_pos_iff.mpr hys
      refine qc5 (fun _=>?_) (fun c=>absurd hys (by simpa using c))
      refine ⟨fun σ' H''=>∃ m',m'<ys.length∧_,fun _ _ h=>h,?_⟩
      rwa [hx,hy]
      have B:∀ z:Int,0≤z→z<(p:Int)→Bd 45000 z:=fun z h1 h2=>bp.le (by omega)
      refine ⟨xs,rfl,ys,rfl,y0,oy hys,by omega,45000,bp,fun z hz=>B z (bY z hz).1 (bY z hz).2,by decide,xl,yl,fun s qs rs H2 sH2 hs trs lrs md=>?_⟩
      have whole:∀ g:Nat→Int,Dm (p:Int) g (co ys)→Dm (p:Int) g (co rs)→Dm (p:Int) g (co xs):=fun g d1 d2=>by
        obtain ⟨S1,h1⟩:=d1
        obtain ⟨S2,h2⟩:=d2
        refine ⟨qbj S2 (qaQ qs S1),fun k=>?_⟩
        rw [qaz,qaw]
        have e1:=cvD h1 qs k
        have m2:(p:Int)∣co rs k - (co xs k - cvL qs (co ys) k):=md.2 k
        have:=Int.dvd_add (Int.dvd_sub (h2 k) m2) e1
        refine Int.dvd_trans this (qpq ?_)
        omega
      refine ⟨rs,p,rfl,hs,pp,bp,by omega,trs,md.1,fun t ts f H3 sH3 ht lt ot mdt=>?_⟩
      refine ⟨ts.length,by omega,(sH.trans sH2).trans sH3,ys,(sH2.trans sH3) _ _ hy,ts,ht,rfl,yl,by omega,.inl y0,oy,fun z=>ot fun e=>z (List.length_eq_zero_iff.mp (by rw [lt,e];rfl)),bY,mdt.1,fun g d1 d2=>⟨(hD g d1 d2).2,?_⟩,fun g d1 d2=>hE g (whole g d1 (back1 mdt lt ot d2)) d1⟩
      obtain ⟨dx,dy⟩:=hD g d1 d2
      have dr:Dm (p:Int) g (co rs):=by
        obtain ⟨S1,h1⟩:=dx
        obtain ⟨S2,h2⟩:=dy
        refine Dm.congr (f:=fun k=>co xs k - cvL qs (co ys) k) ⟨qbj S1 ((qaQ qs S2).map (-1*·)),fun k=>?_⟩ md.2
        rw [qaz,qav,qaw]
        have e:(p:Int)∣cvL qs (co ys) k - cvL qs (cvL S2 g) k:=by
          have lin:∀ (A:List Int) (k:Nat),(p:Int)∣cvL A (co ys) k - cvL A (cvL S2 g) k:=by
            intro A
            induction A with
            | nil=>intro k;rw [qaD,qaD];exact ⟨0,by omega⟩
            | cons a A ih=>
              intro k
              rw [qdc,qdc]
              have i2:(p:Int)∣up1 (cvL A (co ys)) k - up1 (cvL A (cvL S2 g)) k:=by
                cases k with
                | zero=>exact ⟨0,by show (0:Int) - 0=_;omega⟩
                | succ k=>exact ih k
              have i1:(p:Int)∣a*(co ys k - cvL S2 g k):=Int.dvd_mul_of_dvd_right (h2 k)
              have:=Int.dvd_add i1 i2
              rw [show a*(co ys k - cvL S2 g k)+(up1 (cvL A (co ys)) k - up1 (cvL A (cvL S2 g)) k)=a*co ys k+up1 (cvL A (co ys)) k - (a*cvL S2 g k+up1 (cvL A (cvL S2 g)) k) by rw [Int.mul_sub];omega] at this
              exact this
          exact lin qs k
        have:=Int.dvd_sub (h1 k) e
        rw [show co xs k - cvL S1 g k - (cvL qs (co ys) k - cvL qs (cvL S2 g) k)=co xs k - cvL qs (co ys) k - (cvL S1 g k + -1*cvL qs (cvL S2 g) k) by omega] at this
        exact this
      exact step dr mdt
theorem qhL (h:qbq K vs H Q E):qds K { nx:=fun _ H'=>Q .non H',rt:=Q } (L2.start ["row", "divisor", "modulus", "rest", "last", "quotient", "shift", "weight", "place"] vs) H:=by
  obtain ⟨p,q,ns,ms,m,b,rfl,hp,hq,m0,ml,mp,bm,bms,bb,hn,hm,kR⟩:=h
  obtain ⟨L,hL⟩:∃ L,ms.length=L+1:=⟨ms.length - 1,by omega⟩
  have hL1:ms.length - 1=L:=by omega
  rw [hL1] at ml
  generalize hc:ns.length - L=c
  unfold qds
  rwa [hp]
  refine fun a ha=>?_
  have sa:=qag ha (HO.lst (ns.map V.int))
  unfold qd5
  have hpa:=sa _ _ hp
  have hqa:=sa _ _ hq
  rwa [hqa]
  unfold qd4
  rwa []
  refine ⟨sz (by decide),fun x hx=>?_⟩
  have sx:=qag hx (HO.lst [V.int 0])
  have hpx:=sx _ _ hpa
  rwa [hpx]
  have hmax:(if (0:Int) > ((List.map V.int ns).length:Int) - (((List.map V.int ms).length:Int) - 1) then (0:Int) else ((List.map V.int ns).length:Int) - (((List.map V.int ms).length:Int) - 1))=(c:Int):=by
    rw [List.length_map,List.length_map];split <;> omega
  rw [hmax]
  refine ⟨by omega,by omega,sz (by simp;omega),fun y hy=>?_⟩
  rw [Int.toNat_natCast,qde]
  have sy:=qag hy (HO.lst (List.replicate c (V.int 0)))
  have sA:Same (upd H a (HO.lst (ns.map V.int))) (upd (upd (upd H a (HO.lst (ns.map V.int))) x (HO.lst [V.int 0])) y (HO.lst (List.replicate c (V.int 0)))):=fun z o h=>sy z o (sx z o h)
  have hay:=sA _ _ (show upd H a (HO.lst (ns.map V.int)) a=_ from qai)
  have hyy:(upd (upd (upd H a (HO.lst (ns.map V.int))) x (HO.lst [V.int 0])) y (HO.lst (List.replicate c (V.int 0)))) y=_:=qai
  have sH:Same H (upd (upd (upd H a (HO.lst (ns.map V.int))) x (HO.lst [V.int 0])) y (HO.lst (List.replicate c (V.int 0)))):=fun z o h=>sA z o (sa z o h)
  have nay:a≠y:=qaH (sx _ _ (show upd H a (HO.lst (ns.map V.int)) a=_ from qai)) hy
  have nyH:H y=none:=by
    cases e:H y with
    | none=>rfl
    | some o=>have:=sx _ _ (sa _ _ e);rw [hy] at this;cases this
  generalize (upd (upd (upd H a (HO.lst (ns.map V.int))) x (HO.lst [V.int 0])) y (HO.lst (List.replicate c (V.int 0))))=H1 at hay hyy sH ⊢
  rw [qsB ns] at hay
  have e0:List.replicate c (V.int 0)=qcI c fun _=>0:=by rw [← qde,qjj]
  rw [e0] at hyy
  unfold qd3
  have hp1:=sH _ _ hp
  rwa [hp1]
  refine ⟨by rw [List.length_map,List.length_map];omega,?_⟩
  have elo:((List.map V.int ns).length:Int) - (((List.map V.int ms).length:Int) - 1) - 1=(ns.length:Int) - (L:Int) - 1:=by rw [List.length_map,List.length_map];omega
  have ela:((List.map V.int ms).length:Int) - 1=(L:Int):=by rw [List.length_map];omega
  rw [elo,ela]
  have ecn:((ns.length:Int) - (L:Int) - 1 - -1).toNat=c:=by omega
  rw [ecn]
  refine ⟨by omega,by decide,by decide,?_⟩
  let Iv:Nat→L2.St→Hp→Prop:=fun i σ H2=>i≤c∧∃ (F G:Nat→Int) (u v w:Option V),σ=[some (.ref p),some (.ref q),some (.int m),some (.ref a),some (.int (L:Int)),some (.ref y),u,v,w]∧Same H H2∧H2 a=some (.lst (qcI ns.length F))∧H2 y=some (.lst (qcI c G))∧
    (∀ j,j<c - i→G j=0)∧(∀ k,k<ns.length - i→m∣F k - (co ns k - cvL ((List.range c).map G) (co ms) k))∧(∀ k,ns.length - i≤k→m∣co ns k - cvL ((List.range c).map G) (co ms) k)∧(∀ j,j<c→0≤G j∧G j<m)
  refine ForJ.down Iv ⟨Nat.zero_le _,co ns,fun _=>0,none,none,none,rfl,sH,hay,hyy,fun _ _=>rfl,fun k _=>by rw [qgG];exact ⟨0,by omega⟩,fun k hk=>by rw [qgG,qaA (by omega)];exact ⟨0,by omega⟩,fun k _=>⟨Int.le_refl 0,mp⟩⟩ ?_ ?_
  · rintro i σ H2 hi ⟨_,F,G,u,v,w,rfl,s2,ha2,hy2,hG,hF,hF2,bG⟩
    have hq2:=s2 _ _ hq
    have ic:i<c:=hi
    have esh:((ns.length:Int) - (L:Int) - 1 - (i:Int))=((c - 1 - i:Nat):Int):=by omega
    rw [esh]
    generalize hs:c - 1 - i=s
    have hst:s+L=ns.length - 1 - i:=by omega
    have aT:atI (qcI ns.length F) ((s:Int)+(L:Int))=some (V.int (F (s+L))):=qek (j:=s+L) (by omega) (qbL F (by omega))
    unfold qcZ
    rwa [ha2,hq2,aT]
    refine ⟨mp,?_⟩
    have w0:=Int.emod_nonneg (F (s+L)) (show m≠0 by omega)
    have w1:=Int.emod_lt_of_pos (F (s+L)) mp
    have wd:=qb4 (F (s+L)) m
    generalize hw:F (s+L) % m=wt at w0 w1 wd
    have bwt:Bd b wt:=bm.le (by omega)
    unfold qcY
    rwa [hy2]
    refine ⟨s,by rw [qbT];exact qhF rfl (by omega),?_⟩
    have hG':(qcI c G).set s (V.int wt)=qcI c (fun j=>if j=s then wt else G j):=qeK (by omega) (if_pos rfl) fun j _ hj=>if_neg hj
    rw [hG']
    have s3:Same H (upd H2 y (HO.lst (qcI c fun j=>if j=s then wt else G j))):=fun z o h=>Kp.upd z o (qaH h nyH) (s2 z o h)
    have ha3:(upd H2 y (HO.lst (qcI c fun j=>if j=s then wt else G j))) a=_:=(qaJ nay).trans ha2
    have hy3:(upd H2 y (HO.lst (qcI c fun j=>if j=s then wt else G j))) y=_:=qai
    generalize (upd H2 y (HO.lst (qcI c fun j=>if j=s then wt else G j)))=H3 at s3 ha3 hy3 ⊢
    have cvE:∀ k,cvL ((List.range c).map fun j=>if j=s then wt else G j) (co ms) k=cvL ((List.range c).map G) (co ms) k+wt*upS s (co ms) k:=fun k=>qoc (by omega) (hG s (by omega)) _ k
    have fin:∀ (F':Nat→Int) (u v w:Option V) (H4:Hp),Same H H4→H4 a=some (.lst (qcI ns.length F'))→H4 y=some (.lst (qcI c fun j=>if j=s then wt else G j))→(∀ k,k<ns.length→F' k=F k - (if s≤k∧k - s<L then wt*co ms (k - s) else 0))→
        Iv (i+1) [some (.ref p),some (.ref q),some (.int m),some (.ref a),some (.int (L:Int)),some (.ref y),u,v,w] H4:=fun F' u v w H4 s4 ha4 hy4 eF=>by
      refine ⟨by omega,F',_,u,v,w,rfl,s4,ha4,hy4,fun j hj=>?_,fun k hk=>?_,fun k hk=>?_,fun j hj=>?_⟩
      · show (if j=s then wt else G j)=0
        rw [if_neg (by omega)];exact hG j (by omega)
      · have hf:=hF k (by omega)
        rw [eF k (by omega),cvE]
        unfold upS
        by_cases h:s≤k
        · rw [if_pos h,if_pos ⟨h,by omega⟩]
          rw [show ∀ x y z w:Int,x - y - (z - (w+y))=x - (z - w) by intro x y z w;omega]
          exact hf
        · rw [if_neg h,if_neg (by omega)]
          rw [show ∀ x z w:Int,x - 0 - (z - (w+wt*0))=x - (z - w) by intro x z w;omega]
          exact hf
      · rw [cvE]
        by_cases ek:k=s+L
        · have hf:=hF k (by omega)
          rw [ek] at hf ⊢
          unfold upS
          rw [if_pos (by omega),show s+L - s=L by omega,ml]
          obtain ⟨α,hα⟩:=hf
          obtain ⟨β,hβ⟩:=wd
          exact ⟨-α - β,by rw [Int.mul_sub,Int.mul_neg];omega⟩
        · have h2:=hF2 k (by omega)
          unfold upS
          by_cases h:s≤k
          · rw [if_pos h,qaA (a:=ms) (by omega),Int.mul_zero,Int.add_zero];exact h2
          · rw [if_neg h,Int.mul_zero,Int.add_zero];exact h2
      · show 0≤(if j=s then wt else G j)∧(if j=s then wt else G j)<m
        split
        · exact ⟨w0,w1⟩
        · exact bG j hj
    unfold qcX
    rwa []
    refine qc5 (fun cw=>?_) (fun cw=>?_)
    · refine ⟨by omega,by omega,?_⟩
      rw [Int.toNat_natCast]
      refine ForR.by (fun j σ H4=>∃ (u:Option V),σ=[some (.ref p),some (.ref q),some (.int m),some (.ref a),some (.int (L:Int)),some (.ref y),some (.int (s:Int)),some (.int wt),u]∧Same H H4∧H4 a=some (.lst (qcI ns.length fun k=>F k - (if s≤k∧k - s<j then wt*co ms (k - s) else 0)))∧H4 y=some (.lst (qcI c fun j=>if j=s then wt else G j))) ⟨w,rfl,s3,?_,hy3⟩ ?_ ?_
      · rw [ha3]
        exact congrArg (fun l=>some (HO.lst l)) (qdD fun k _=>by rw [if_neg (by omega)];omega)
      · rintro j σ H4 hj ⟨u',rfl,s4,ha4,hy4⟩
        have hq4:=s4 _ _ hq
        have aj:atI (ms.map V.int) (0+(j:Int))=some (V.int (co ms j)):=qek (j:=j) (by omega) (by rw [qsB];exact qbL _ (by omega))
        rwa [ha4,hq4,aj]
        refine ⟨_,qek (j:=s+j) (by omega) (qbL _ (by omega)),qmN bwt (qbM bms j),_,rfl,s+j,by rw [qbT];exact qhF (by omega) (by omega),?_,?_,?_⟩
        · intro z o h
          exact Kp.upd z o (qaH h ha) (s4 z o h)
        · refine qeK (by omega) ?_ fun k _ hk=>?_
          · rw [if_pos (by omega),if_neg (by omega),show s+j - s=j by omega];omega
          · by_cases h:s≤k∧k - s<j
            · rw [if_pos h,if_pos (by omega)]
            · rw [if_neg h,if_neg (by omega)]
        · rw [qaJ (Ne.symm nay)];exact hy4
      · rintro σ H4 ⟨u',rfl,s4,ha4,hy4⟩
        exact fin _ _ _ _ _ s4 ha4 hy4 fun k _=>rfl
    · have w0':wt=0:=by simpa using cw
      exact fin F _ _ _ _ s3 ha3 hy3 fun k _=>by rw [w0'];split <;> omega
  · rintro σ H2 ⟨_,F,G,u,v,w,rfl,s2,ha2,hy2,hG,hF,hF2,bG⟩
    unfold qd2
    rw [qfD] at hy2
    rwa [ha2,hy2]
    refine ⟨_,rfl,fun t ht=>?_⟩
    have st:=qag ht (HO.lst (List.map V.int (qem (List.map G (List.range c)))))
    have ha3:=st _ _ ha2
    have htt:upd H2 t (HO.lst (List.map V.int (qem (List.map G (List.range c))))) t=_:=qai
    generalize upd H2 t (HO.lst (List.map V.int (qem (List.map G (List.range c)))))=H3 at st ha3 htt ⊢
    refine ⟨_,ha3,fun z hz=>?_⟩
    rw [qlY]
    have sz2:=qag hz (HO.lst (((List.range (min L ns.length)).map F).map V.int))
    refine ⟨_,rfl,mp,by rw [List.length_map,List.length_range];omega,fun r rs H4 s4 hr4 tr lr md=>?_⟩
    rw [List.length_map,List.length_range] at lr
    refine ⟨sz (by decide),fun e he=>?_⟩
    have se:=qag he (HO.tup [V.ref t,V.ref r])
    have cq:∀ k,cvL (qem ((List.range c).map G)) (co ms) k=cvL ((List.range c).map G) (co ms) k:=fun k=>by
      rw [qbC,qas (fun j=>qjn _ j) ms k,← qbC]
    refine kR e t r _ rs _ ((s2.trans st).trans ((sz2.trans s4).trans se)) qai (se _ _ (s4 _ _ (sz2 _ _ htt))) (se _ _ hr4) (qjm _) tr (by omega) ⟨md.1,fun k=>?_⟩ fun z hz=>?_
    · have:=md.2 k
      rw [qgC] at this
      show m∣co rs k - (co ns k - cvL (qem ((List.range c).map G)) (co ms) k)
      rw [cq]
      by_cases hk:k<min L ns.length
      · rw [if_pos hk] at this
        have h2:=Int.dvd_add this (hF k (by omega))
        rw [show ∀ x y z:Int,x - y+(y - z)=x - z by intro x y z;omega] at h2
        exact h2
      · rw [if_neg hk] at this
        have h2:=Int.dvd_sub this (hF2 k (by omega))
        rw [show ∀ x y:Int,x - 0 - y=x - y by intro x y;omega] at h2
        exact h2
    · obtain ⟨j,hj,rfl⟩:=List.mem_map.mp (qka hz)
      exact bG j (List.mem_range.mp hj)
theorem SDs.tp {H H':Hp} (s:Same H H'):∀ {xs:List V} {rs:List (List Int)},SDs H xs rs→SDs H' xs rs
  | [],[],_=>trivial
  | _::_,_::_,h=>⟨let ⟨p,e,q⟩:=h.1;⟨p,e,s _ _ q⟩,SDs.tp s h.2⟩
  | [],_::_,h=>h.elim
  | _::_,[],h=>h.elim
theorem SD.tp {H H':Hp} (s:Same H H') {p:Addr} {rs:List (List Int)} (h:SD H p rs):SD H' p rs:=let ⟨xs,e,q⟩:=h;⟨xs,s _ _ e,q.tp s⟩
theorem SDs.length {H:Hp}:∀ {xs:List V} {rs:List (List Int)},SDs H xs rs→xs.length=rs.length
  | [],[],_=>rfl
  | _::_,_::_,h=>congrArg (·+1) (SDs.length h.2)
  | [],_::_,h=>h.elim
  | _::_,[],h=>h.elim
theorem SDs.get {H:Hp}:∀ {xs:List V} {rs:List (List Int)} {i:Nat} {v:V},SDs H xs rs→xs[i]?=some v→∃ p r,v=.ref p∧rs[i]?=some r∧H p=some (.lst (r.map V.int))
  | [],[],_,_,_,e=>by simp at e
  | _::_,r::_,0,_,h,e=>by
    simp at e;subst e
    obtain ⟨p,e,q⟩:=h.1
    exact ⟨p,r,e,rfl,q⟩
  | _::_,_::_,i+1,_,h,e=>by
    obtain ⟨p,r,h1,h2,h3⟩:=SDs.get (i:=i) h.2 (by simpa using e)
    exact ⟨p,r,h1,by simpa using h2,h3⟩
  | [],_::_,_,_,h,_=>h.elim
  | _::_,[],_,_,h,_=>h.elim
theorem SDs.snoc {H:Hp} {p:Addr} {r:List Int} (hp:H p=some (.lst (r.map V.int))):∀ {xs:List V} {rs:List (List Int)},SDs H xs rs→SDs H (xs++[.ref p]) (rs++[r])
  | [],[],_=>⟨⟨p,rfl,hp⟩,trivial⟩
  | _::_,_::_,h=>⟨h.1,SDs.snoc hp h.2⟩
  | [],_::_,h=>h.elim
  | _::_,[],h=>h.elim
theorem SD.head {H:Hp} {p:Addr} {r:List Int} {rs:List (List Int)} (h:SD H p (r::rs)):∃ a xs,H p=some (.lst (.ref a::xs))∧H a=some (.lst (r.map V.int))∧SDs H (.ref a::xs) (r::rs):=by
  obtain ⟨xs,e,q⟩:=h
  match xs,q with
  | [],q=>exact q.elim
  | x::xs,q=>
    obtain ⟨a,e1,e2⟩:=q.1
    subst e1
    exact ⟨a,xs,e,e2,q⟩
theorem qeL {α:Type} (x:α) (xs:List α):atI (x::xs) 0=some x:=by
  unfold atI ixN
  rw [if_pos (by decide),if_pos (by rw [List.length_cons];omega)]
  rfl
theorem qfg (h:qaK K vs H Q E):qca K { nx:=fun _ H'=>Q .non H',rt:=Q } (L2.start ["strand", "shared", "row"] vs) H:=by
  obtain ⟨p,rows,rfl,⟨xs,hp,hS⟩,hl,hr,k⟩:=h
  have lx:=hS.length
  unfold qca
  rwa []
  refine ⟨⟨_,SqL.of hp⟩,ForL.by (xs:=xs) (fun i σ H'=>∃ (g:Int) (u:Option V),σ=[some (.ref p),some (.int g),u]∧Same H H'∧0≤g∧(∀ r∈rows.take i,∀ z∈r,g∣z)∧(∀ d:Int,(∀ r∈rows.take i,∀ z∈r,d∣z)→d∣g)) ⟨0,none,rfl,Same.refl H,Int.le_refl 0,fun r hr=>(by simp at hr),fun d _=>Int.dvd_zero d⟩ ?_ ?_ ?_⟩
  · rintro i σ H' _ ⟨g,u,rfl,s,_⟩
    exact SqL.of (s _ _ hp)
  · rintro i x σ H' hi ⟨g,u,rfl,s,g0,g1,g2⟩
    obtain ⟨a,r,rfl,hri,ha⟩:=hS.get hi
    have ha':=s _ _ ha
    have hrm:=hr r (List.mem_of_getElem? hri)
    rwa [ha']
    refine ⟨r,rfl,hrm.1,fun g' H2 s2 g0' d1 d2 d3=>?_⟩
    have et:rows.take (i+1)=rows.take i++[r]:=by rw [List.take_add_one,hri];rfl
    refine ⟨s.trans s2,g0',fun r' hr' z hz=>?_,fun d hd=>d3 d ?_ fun z hz=>?_⟩
    · rw [et] at hr'
      rcases List.mem_append.mp hr' with h | h
      · exact Int.dvd_trans d1 (g1 r' h z hz)
      · rw [List.mem_singleton.mp h] at hz;exact d2 z hz
    · exact g2 d fun r' hr' z hz=>hd r' (by rw [et];exact List.mem_append_left _ hr') z hz
    · exact hd r (by rw [et];exact List.mem_append_right _ (List.mem_singleton.mpr rfl)) z hz
  · rintro σ H' ⟨g,u,rfl,s,g0,g1,g2⟩
    rw [lx,List.take_length] at g1 g2
    have hp':=s _ _ hp
    have gz:∀ r∈rows,0<g∨r=[]:=fun r hrr=>by
      rcases Int.lt_or_le 0 g with h | h
      · exact .inl h
      · right
        have ge:g=0:=by omega
        rcases (hr r hrr).2 with h | h
        · exact h
        · exfalso
          by_cases hl0:r.length=0
          · rw [qaA (by omega)] at h;exact h rfl
          · have:=g1 r hrr (co r (r.length - 1)) (by
              unfold co
              rw [List.getD_eq_getElem?_getD,List.getElem?_eq_getElem (by omega)]
              exact List.getElem_mem _)
            rw [ge] at this
            exact h (Int.zero_dvd.mp this)
    rwa []
    refine ⟨⟨_,SqL.of hp'⟩,CompJ.lst (xs:=xs) (fun i ys H2=>i≤rows.length∧Same H H2∧SDs H2 ys ((rows.take i).map fun r=>r.map (· / g))) ⟨Nat.zero_le _,s,trivial⟩ ?_ ?_ ?_⟩
    · rintro i ys H2 ⟨h1,s2,hy⟩
      refine ⟨by omega,sz ?_,SqL.of (s2 _ _ hp)⟩
      rw [hy.length,List.length_map,List.length_take];omega
    · rintro i x ys H2 hi ⟨h1,s2,hy⟩
      obtain ⟨a,r,rfl,hri,ha⟩:=hS.get hi
      have ha':=s2 _ _ ha
      have hrm:=hr r (List.mem_of_getElem? hri)
      have hi2:i<rows.length:=(List.getElem?_eq_some_iff.mp hri).1
      rwa [ha']
      refine ⟨r,rfl,gz r (List.mem_of_getElem? hri),hrm.1,fun t ht=>?_⟩
      refine ⟨by omega,s2.trans (qag ht _),?_⟩
      have et:(rows.take (i+1)).map (fun r=>r.map (· / g))=(rows.take i).map (fun r=>r.map (· / g))++[r.map (· / g)]:=by rw [List.take_add_one,hri];simp
      rw [et]
      exact SDs.snoc qai (hy.tp (qag ht _))
    · rintro ys H2 ⟨_,s2,hy⟩ t ht
      rw [lx,List.take_length] at hy
      have st:=qag ht (HO.lst ys)
      by_cases gp:0<g
      · refine k t _ _ (s2.trans st) ⟨ys,qai,hy.tp st⟩ ⟨g,gp,?_⟩ (.inr fun d hd=>?_)
        · rw [List.map_map]
          conv=>lhs;rw [← List.map_id rows]
          refine List.map_congr_left fun r hrr=>?_
          show r=(r.map (· / g)).map (g*·)
          rw [List.map_map]
          conv=>lhs;rw [← List.map_id r]
          refine List.map_congr_left fun z hz=>?_
          show z=g*(z / g)
          rw [Int.mul_ediv_cancel' (g1 r hrr z hz)]
        · have hdg:d*g∣g:=g2 (d*g) fun r hrr z hz=>by
            have h1:=hd (r.map (· / g)) (List.mem_map.mpr ⟨r,hrr,rfl⟩) (z / g) (List.mem_map.mpr ⟨z,hz,rfl⟩)
            obtain ⟨c,hc⟩:=h1
            refine ⟨c,?_⟩
            have:=Int.mul_ediv_cancel' (g1 r hrr z hz)
            rw [← this,hc];grind
          obtain ⟨c,hc⟩:=hdg
          have e:g*(d*c)=g*1:=by rw [Int.mul_one];conv=>rhs;rw [hc]
                                 grind
          have e1:=Int.eq_of_mul_eq_mul_left (by omega) e
          have:d.natAbs*c.natAbs=1:=by rw [← Int.natAbs_mul,e1];rfl
          exact Nat.eq_one_of_mul_eq_one_right this
      · have ge:∀ r∈rows,r=[]:=fun r hrr=>by
          rcases gz r hrr with h | h
          · exact absurd h gp
          · exact h
        have em:rows.map (fun r=>r.map (· / g))=rows:=by
          conv=>rhs;rw [← List.map_id rows]
          refine List.map_congr_left fun r hrr=>?_
          rw [ge r hrr];rfl
        rw [em] at hy
        refine k t rows _ (s2.trans st) ⟨ys,qai,hy.tp st⟩ ⟨1,by decide,?_⟩ (.inl ge)
        conv=>lhs;rw [← List.map_id rows]
        refine List.map_congr_left fun r hrr=>?_
        rw [ge r hrr];rfl
theorem qqZ {r:List Int} (h:∀ d:Int,(∀ z∈r,d∣z)→d.natAbs=1):Prim r:=fun c hc=>h c fun z hz=>by
  obtain ⟨i,hi,rfl⟩:=List.getElem_of_mem hz
  have:=hc i
  unfold co at this
  rw [List.getD_eq_getElem?_getD,List.getElem?_eq_getElem hi] at this
  exact this
theorem qgn (h:qaO K vs H Q E):qcV K { nx:=fun _ H'=>Q .non H',rt:=Q } (L2.start ["row"] vs) H:=by
  obtain ⟨p,ns,rfl,hp,hl,tz,k⟩:=h
  unfold qcV
  rwa []
  refine ⟨sz (by decide),fun a ha=>?_⟩
  have sa:=qag ha (HO.lst [V.ref p])
  refine ⟨[ns],⟨[V.ref p],qai,⟨⟨p,rfl,sa _ _ hp⟩,trivial⟩⟩,by simp,?_,fun t rows' H' s' hSD hSh hP=>?_⟩
  · intro r hr
    rw [List.mem_singleton.mp hr]
    exact ⟨hl,tz⟩
  obtain ⟨g,g0,eg⟩:=hSh
  match rows',eg,hSD,hP with
  | [ms],eg,hSD,hP=>
    obtain ⟨b,xs,h1,h2,_⟩:=hSD.head
    have eg':ns=ms.map (g*·):=by simpa using eg
    refine ⟨_,h1,_,qeL _ _,k b ms g H' (sa.trans s') h2 g0 eg' ?_⟩
    rcases hP with h | h
    · left;rw [eg',h ms (List.mem_singleton.mpr rfl)];rfl
    · right
      exact qqZ fun d hd=>h d fun r hr z hz=>by rw [List.mem_singleton.mp hr] at hz;exact hd z hz
  | [],eg,_,_=>simp at eg
  | _::_::_,eg,_,_=>simp at eg
theorem qr8 {a b:List Int} (ha:Tz a) (n:Nat) (h:∀ k,n≤k→co a k=0):a.length≤n:=by
  rcases Nat.lt_or_ge n a.length with z | z
  · rcases ha with e | e
    · rw [e] at z;simp at z
    · exact absurd (h _ (by omega)) e
  · exact z
theorem qkb {n:Nat} {a:List Int} (h:∀ k,Bd n (co a k)):∀ z∈a,Bd n z:=fun z hz=>by
  obtain ⟨i,hi,rfl⟩:=List.getElem_of_mem hz
  have:=h i
  unfold co at this
  rw [List.getD_eq_getElem?_getD,List.getElem?_eq_getElem hi] at this
  exact this
theorem qdu (g:Int) (a:List Int) (k:Nat):co (a.map (g*·)) k=g*co a k:=qj9 (F:=(g*·)) (by omega) a k
theorem qk3 {g:Int} (g0:g≠0) {a:List Int} (h:Tz (a.map (g*·))):Tz a:=by
  rcases h with h | h
  · left;exact List.map_eq_nil_iff.mp h
  · right
    rw [qdu,List.length_map] at h
    exact fun z=>h (by rw [z];omega)
theorem qk4 {n:Nat} {g:Int} (g0:0<g) {a:List Int} (h:∀ z∈a.map (g*·),Bd n z):∀ z∈a,Bd n z:=fun z hz=>(h (g*z) (List.mem_map.mpr ⟨z,hz,rfl⟩)).le (by
  rw [Int.natAbs_mul]
  exact Nat.le_mul_of_pos_left _ (by omega))
theorem ZipR.mono {R R':List Int→List Int→List Int→Prop} (h:∀ a b c,R a b c→R' a b c):∀ {A B C:List (List Int)},ZipR R A B C→ZipR R' A B C
  | [],[],[],_=>trivial
  | _::_,_::_,_::_,z=>⟨h _ _ _ z.1,ZipR.mono h z.2⟩
  | [],[],_::_,z=>z.elim
  | [],_::_,_,z=>z.elim
  | _::_,[],_,z=>z.elim
  | _::_,_::_,[],z=>z.elim
theorem ZipR.len {R:List Int→List Int→List Int→Prop}:∀ {A B C:List (List Int)},ZipR R A B C→C.length=A.length∧B.length=A.length
  | [],[],[],_=>⟨rfl,rfl⟩
  | _::_,_::_,_::_,z=>⟨congrArg (·+1) (ZipR.len z.2).1,congrArg (·+1) (ZipR.len z.2).2⟩
  | [],[],_::_,z=>z.elim
  | [],_::_,_,z=>z.elim
  | _::_,[],_,z=>z.elim
  | _::_,_::_,[],z=>z.elim
theorem ZipR.snoc {R:List Int→List Int→List Int→Prop} {a b c:List Int} (h:R a b c):∀ {A B C:List (List Int)},ZipR R A B C→ZipR R (A++[a]) (B++[b]) (C++[c])
  | [],[],[],_=>⟨h,trivial⟩
  | _::_,_::_,_::_,z=>⟨z.1,ZipR.snoc h z.2⟩
  | [],[],_::_,z=>z.elim
  | [],_::_,_,z=>z.elim
  | _::_,[],_,z=>z.elim
  | _::_,_::_,[],z=>z.elim
theorem ZipR.right {R:List Int→List Int→List Int→Prop} (h:∀ a b,R a b b):∀ {A B:List (List Int)},A.length=B.length→ZipR R A B B
  | [],[],_=>trivial
  | _::_,_::_,e=>⟨h _ _,ZipR.right h (by simpa using e)⟩
  | [],_::_,e=>by simp at e
  | _::_,[],e=>by simp at e
theorem ZipR.map {R R':List Int→List Int→List Int→Prop} {F:List Int→List Int} (h:∀ a b c,R a b (F c)→R' a b c):∀ {A B C:List (List Int)},ZipR R A B (C.map F)→ZipR R' A B C
  | [],[],[],_=>trivial
  | _::_,_::_,_::_,z=>⟨h _ _ _ z.1,ZipR.map h z.2⟩
  | [],[],_::_,z=>z.elim
  | [],_::_,_,z=>z.elim
  | _::_,[],_,z=>z.elim
  | _::_,_::_,[],z=>z.elim
theorem qr9 {a b:Int} (hb:b≠0) (h:a∣b):a.natAbs≤b.natAbs:=Nat.le_of_dvd (by omega) (Int.natAbs_dvd_natAbs.mpr h)
theorem qh3 (h:qbw K vs H Q E):qdT K { nx:=fun _ H'=>Q .non H',rt:=Q } (L2.start ["strand", "other", "shift", "top", "lead", "shared", "factor", "weight"] vs) H:=by
  obtain ⟨p,q,o,rfl,hS,hO,o0,k⟩:=h
  obtain ⟨ac,xc,hp,hac,_⟩:=hS.head
  obtain ⟨ao,xo,hq,hao,_⟩:=hO.head
  have A1:atI (V.ref ac::xc) 0=some (V.ref ac):=qeL _ _
  have A2:atI (V.ref ao::xo) 0=some (V.ref ao):=qeL _ _
  unfold qdT
  rwa []
  refine while_by (fun n σ H'=>σ=[some (.ref p),some (.ref q),none,none,none,none,none,none]∧H'=H∧n=0) 0 ⟨rfl,rfl,rfl⟩ ?_
  rintro n σ H' ⟨rfl,rfl,rfl⟩
  rwa [hp,hq,hac,hao,A1,A2]
  refine qc5 (fun c=>by rw [List.length_map] at c;exfalso;omega) (fun _=>?_)
  unfold qeu
  rwa []
  refine ⟨[[]],hS,by decide,(fun r hr=>by rw [List.mem_singleton.mp hr];exact ⟨by decide,.inl rfl⟩),fun t rows H1 s1 hSD sh _=>k t H1 s1 ?_⟩
  obtain ⟨g,_,e⟩:=sh
  have l1:rows.length=1:=by have:=congrArg List.length e;simpa using this.symm
  obtain ⟨r,rfl⟩:∃ r,rows=[r]:=List.length_eq_one_iff.mp l1
  have e:[]=r.map (g*·):=List.head_eq_of_cons_eq e
  rw [List.map_eq_nil_iff.mp e.symm] at hSD
  exact hSD
theorem qeO {a:List Int} (h:Tz a) (ne:a≠[]):Lz a:=by
  refine ⟨List.length_pos_iff.mpr ne,?_⟩
  rcases h with e | e
  · exact absurd e ne
  · exact e
theorem qgo (h:qa5 K vs H Q E):qcW K { nx:=fun _ H'=>Q .non H',rt:=Q } (L2.start ["strand", "other", "rest"] vs) H:=by
  obtain ⟨p,q,s,o,rfl,hS,hO,em,k⟩:=h
  unfold qcW
  rwa []
  refine while_by (fun n σ H'=>(σ=[some (.ref p),some (.ref q),none]∧H'=H∧n=1)∨∃ (t:Addr) (u:Option V),σ=[some (.ref q),some (.ref t),u]∧Same H H'∧SD H' t [[]]∧o≠[]∧n=0) 1 (.inl ⟨rfl,rfl,rfl⟩) ?_
  rintro n σ H' (⟨rfl,rfl,rfl⟩ | ⟨t,u,rfl,sH,hT,o0,rfl⟩)
  · obtain ⟨ao,xo,hq,hao,_⟩:=hO.head
    have A2:atI (V.ref ao::xo) 0=some (V.ref ao):=qeL _ _
    rwa [hq,hao,A2]
    by_cases oe:o=[]
    · refine qc5 (fun c=>absurd oe (by simpa using c)) (fun _=>?_)
      rw [if_pos oe] at k
      exact k p _ (Same.refl _) hS
    · refine qc5 (fun _=>?_) (fun c=>absurd (by simpa using c) oe)
      have se:s=[]:=by
        rcases em with z | z
        · exact z
        · exact absurd z oe
      rw [if_neg oe] at k
      refine ⟨fun σ' H''=>∃ m',m'<1∧_,fun _ _ h=>h,?_⟩
      rwa [hq,hao,A2]
      refine qc5 (fun _=>k q _ (Same.refl _) hO) (fun _=>?_)
      refine ⟨by rw [← se];exact hS,o,hO,List.length_pos_iff.mpr oe,fun t H1 s1 hT=>?_⟩
      exact ⟨0,by decide,.inr ⟨s1,hT,oe,rfl⟩⟩
  · obtain ⟨at',xt,ht,hat,_⟩:=hT.head
    have A2:atI (V.ref at'::xt) 0=some (V.ref at'):=qeL _ _
    rwa [ht,hat,A2]
    refine qc5 (fun c=>absurd c (by simp)) (fun _=>?_)
    rw [if_neg o0] at k
    exact k q _ sH (hO.tp sH)
theorem qq0 {b n c:Nat} {r a g:List Int} (hr:∀ z∈r,Bd b z) (rl:r.length≤n) (hn:n<2 ^ c) (lg:Lz g) (h:∀ k,co r k=cvL a (co g) k):∀ k,Bd (b+n*(2*c+4)) (co a k):=by
  rcases qgl a with z | ⟨a',la,_,ea⟩
  · intro k;rw [z k];exact qbV _
  have h':∀ k,co r k=cvL g (co a') k:=fun k=>by rw [h k,qbC,qas (fun k=>(ea k).symm) g k]
  have t:co r (a'.length - 1+(g.length - 1))≠0:=by rw [h',qbC,qfC la lg];exact Int.mul_ne_zero la.2 lg.2
  have al:a'.length≤r.length:=by
    rcases Nat.lt_or_ge (a'.length - 1+(g.length - 1)) r.length with c | c
    · have:=la.1;omega
    · exact absurd (qaA c) t
  intro k
  rw [← ea k]
  exact qdE hr ⟨_,t⟩ rl (Nat.le_trans al rl) hn h' k
theorem qq1 {G S:List Int} (lG:Lz G) (h:∀ k,cvL S (co G) k=0) (k:Nat):co S k=0:=(qob lG (T:=0) fun k _=>h k).1 k (Nat.zero_le k)
theorem Gen.Prim {r o:Nat→Int} {g:List Int} (G:Gen r o g):Prim g:=fun c hc=>by
  rcases Nat.lt_or_ge c.natAbs 2 with h | h
  · rcases Nat.eq_zero_or_pos c.natAbs with z | z
    · exfalso
      have c0:c=0:=by omega
      have:=hc (g.length - 1)
      rw [c0] at this
      exact G.lz.2 (Int.zero_dvd.mp this)
    · omega
  · exfalso
    obtain ⟨n,hn,_⟩:=G.prim h
    exact hn (Int.natAbs_dvd.mpr (hc n))
theorem qq2 {R O A B G:List Int} (lG:Lz G) (hA:∀ k,co R k=cvL A (co G) k) (hB:∀ k,co O k=cvL B (co G) k) (q:QI (co R) (co O) (co G)):QI (co A) (co B) qcb:=by
  obtain ⟨d,d0,U,V,h⟩:=q
  refine ⟨d,d0,U,V,fun k=>?_⟩
  have z:=qq1 (S:=qbj (qbj (qaQ U A) (qaQ V B)) [-d]) lG (fun k=>by
    rw [qaz,qaz,qaw,qaw,← qas hA,← qas hB]
    have:=h k
    have e:cvL [-d] (co G) k = -d*co G k:=by
      cases k with
      | zero=>rw [qat];omega
      | succ k=>rw [qao,qaD];omega
    rw [e,Int.neg_mul,this];omega) k
  rw [qco,qaz,qaz,qaw,qaw,← qas (qco A),← qas (qco B)] at z
  have e:cvL [-d] qcb k = -d*qcb k:=by
    cases k with
    | zero=>rw [qat];omega
    | succ k=>rw [qao,qaD];omega
  rw [e,Int.neg_mul] at z
  omega
theorem qpu (p:Nat) (p0:0<p) (S:List Int):(∀ k,(p:Int)∣co S k)∨∃ T,Lz T∧(∀ k,(p:Int)∣co S k - co T k)∧¬ (p:Int)∣co T (T.length - 1):=by
  have cm:∀ k,co (S.map (· % (p:Int))) k=co S k % (p:Int):=fun k=>qj9 (F:=(· % (p:Int))) (Int.zero_emod _) S k
  rcases qgl (S.map (· % (p:Int))) with z | ⟨T,lT,_,eT⟩
  · exact .inl fun k=>Int.dvd_of_emod_eq_zero (by rw [← cm k];exact z k)
  · refine .inr ⟨T,lT,fun k=>?_,fun h=>?_⟩
    · rw [eT,cm]
      exact ⟨co S k / p,by have:=Int.emod_add_mul_ediv (co S k) p;omega⟩
    · have h1:=eT (T.length - 1)
      rw [cm] at h1
      have b1:=Int.emod_nonneg (co S (T.length - 1)) (show (p:Int)≠0 by omega)
      have b2:=Int.emod_lt_of_pos (co S (T.length - 1)) (show (0:Int)<p by omega)
      have:=lT.2
      have l:=Int.le_of_dvd (by omega) h
      omega
theorem cvT {p:Int} {S T:List Int} {g:Nat→Int} {n:Nat} (hg:∀ i,n≤i→g i=0) (h:∀ k,p∣co S k - co T k) (k:Nat):p∣cvL S g k - cvL T g k:=by
  have e:∀ k,g k=co ((List.range n).map g) k:=fun k=>by
    rw [qgC];split
    · rfl
    · exact hg k (by omega)
  rw [qas e,qas e,qbC,qbC T]
  have:=cvD (S:=[1]) (f:=co S) (g:=co T) (fun k=>by
    have e1:cvL [1] (co T) k=co T k:=by
      cases k with
      | zero=>rw [qat];omega
      | succ k=>rw [qao,qaD];omega
    rw [e1];exact h k) ((List.range n).map g) k
  rwa [qas (b:=cvL [1] (co T)) (c:=co T) (fun k=>by
    cases k with
    | zero=>rw [qat];omega
    | succ k=>rw [qao,qaD];omega)] at this
theorem qod {p:Nat} (hp:Pr p) {R A G rs T:List Int} (hA:∀ k,co R k=cvL A (co G) k) (lG:Lz G) (pG:¬ (p:Int)∣co G (G.length - 1)) (hT:∀ k,(p:Int)∣co rs k - cvL T (co G) k) (d:Dm (p:Int) (co rs) (co R)):Dm (p:Int) (co T) (co A):=by
  obtain ⟨X,hX⟩:=d
  refine ⟨X,fun k=>?_⟩
  have z:=qfq hp pG (fun i hi=>by rw [qaA (by omega)];exact Int.dvd_zero _) (qbj A ((qaQ X T).map ((-1)*·))) (fun k _=>by
    rw [qaz,qav,qaw,← hA]
    have h1:=hX k
    have h2:=cvD hT X k
    have:=Int.dvd_add h1 h2
    refine Int.dvd_trans this (qpq ?_)
    omega)
  have e:co A k - cvL X (co T) k=co (qbj A ((qaQ X T).map ((-1)*·))) k:=by
    rw [qco (qbj A _),qaz,qav,qaw,← qco,← qas (qco T)];omega
  rw [e]
  exact qlT z k
theorem qq3 {x e c M p N:Nat} (hx:x<2 ^ (c+1)) (hN:N≤M) (big:2 ^ ((e+c+2)*M)<p):(2*(x*2 ^ e)) ^ N<p:=by
  have h1:2*(x*2 ^ e)≤2 ^ (e+c+2):=by
    have:x*2 ^ e≤2 ^ (c+1)*2 ^ e:=Nat.mul_le_mul_right _ (Nat.le_of_lt hx)
    have e2:2 ^ (e+c+2)=2*(2 ^ (c+1)*2 ^ e):=by rw [← Nat.pow_add,show e+c+2=(c+1+e)+1 by omega,Nat.pow_succ];omega
    omega
  refine Nat.lt_of_le_of_lt ?_ big
  rw [Nat.pow_mul]
  exact Nat.le_trans (Nat.pow_le_pow_left h1 N) (Nat.pow_le_pow_right (Nat.pow_pos (by decide)) hN)
theorem qoe (g:Nat→Int):∀ k,cvL [1] g k=g k
  | 0=>by rw [qat];omega
  | k+1=>by rw [qao,qaD];omega
theorem qk5 {ns ms rs gs G:List Int} {p c e N:Nat} {lead:Int} (hp:Pr p) (ln:Lz ns) (lm:Lz ms) (fn:Fi e ns) (fm:Fi e ms) (hc:ns.length+ms.length<2 ^ (c+1)) (hN:ns.length+ms.length≤N+2) (n2:2≤N) (big:2 ^ ((e+c+2)*N)<p)
    (hld:((Int.gcd (co ns (ns.length - 1)) (co ms (ms.length - 1)):Nat):Int)=lead) (hG:Gen (co ns) (co ms) G) (r0:0<rs.length) (one:co rs (rs.length - 1)=1) (glen:G.length≤rs.length) (pG:¬ (p:Int)∣co G (G.length - 1)) (dG:Dm (p:Int) (co G) (co rs)) (dn:Dm (p:Int) (co rs) (co ns)) (dm:Dm (p:Int) (co rs) (co ms))
    (gl:gs.length=rs.length) (hg:∀ k,k<rs.length→(p:Int)∣co gs k - lead*co rs k) (hb:∀ z∈gs,2*z.natAbs≤p):MQ (co gs) (co ns)∧MQ (co gs) (co ms):=by
  have p2:=hp.two
  have P:=hG.Prim
  have lG:=hG.lz
  obtain ⟨A,hA⟩:=gauss P hG.rc.left
  obtain ⟨B,hB⟩:=gauss P hG.rc.right
  have bA:=fn G A (fun k=>by rw [hA k,qbC])
  have bB:=fm G B (fun k=>by rw [hB k,qbC])
  have bG:=fn A G hA
  have bnk:=fn [1] ns (fun k=>(qoe _ k).symm)
  have cop:=qq2 lG hA hB hG.qi
  obtain ⟨S,hS⟩:=dG
  have p0:0<p:=by omega
  have one':¬ (p:Int)∣(1:Int):=fun z=>by have:=Int.le_of_dvd (by decide) z;omega
  rcases qpu p p0 S with z | ⟨T,lT,hT,pT⟩
  · exfalso
    have h1:=hS (rs.length - 1)
    have h2:=cvT (p:=(p:Int)) (S:=S) (T:=[]) (g:=co G) (n:=G.length) (fun i hi=>qaA hi) (fun k=>by rw [qaA (a:=[]) (Nat.zero_le _),Int.sub_zero];exact z k) (rs.length - 1)
    rw [one] at h1
    rw [qaD,Int.sub_zero] at h2
    have:=Int.dvd_add h1 h2
    rw [Int.sub_add_cancel] at this
    exact one' this
  have hTr:∀ k,(p:Int)∣co rs k - cvL T (co G) k:=fun k=>by
    have:=Int.dvd_add (hS k) (cvT (fun i hi=>qaA hi) hT k (g:=co G) (n:=G.length))
    refine Int.dvd_trans this (qpq ?_)
    omega
  have t0:=lT.1
  have g0:=lG.1
  have tl:T.length+G.length=rs.length+1:=by
    have tp:=qfC lT lG
    have np:¬ (p:Int)∣co T (T.length - 1)*co G (G.length - 1):=fun z=>by
      rcases hp.mulI z with q | q
      · exact pT q
      · exact pG q
    have h1:=hTr (T.length - 1+(G.length - 1))
    rw [tp] at h1
    have c1:T.length - 1+(G.length - 1)<rs.length:=by
      rcases Nat.lt_or_ge (T.length - 1+(G.length - 1)) rs.length with c | c
      · exact c
      · exfalso
        rw [qaA c,Int.zero_sub] at h1
        exact np (Int.dvd_neg.mp h1)
    have h2:=hTr (rs.length - 1)
    rw [one] at h2
    rcases Nat.lt_or_ge (T.length - 1+(G.length - 1)) (rs.length - 1) with c | c
    · exfalso
      rw [qb8 (n:=G.length) (fun i hi=>qaA hi) T _ (by omega),Int.sub_zero] at h2
      exact one' h2
    · omega
  have dTA:=qod hp hA lG pG hTr dn
  have dTB:=qod hp hB lG pG hTr dm
  have trimmed:∀ {R A:List Int},Lz R→(∀ k,co R k=cvL A (co G) k)→(∀ k,Bd e (co A k))→∃ A',Lz A'∧A'.length≤R.length∧co A'=co A:=fun {R A} lR h _=>by
    rcases qgl A with z | ⟨A',la,_,ea⟩
    · exact absurd (by rw [h,qbC,qcn G z]) lR.2
    · refine ⟨A',la,?_,funext ea⟩
      have t:co R (A'.length - 1+(G.length - 1))≠0:=by
        rw [h,qbC,qas (fun k=>(ea k).symm) G,← qbC,qfC la lG];exact Int.mul_ne_zero la.2 lG.2
      rcases Nat.lt_or_ge (A'.length - 1+(G.length - 1)) R.length with c | c
      · have:=la.1;omega
      · exact absurd (qaA c) t
  obtain ⟨A',lA,An,eA⟩:=trimmed ln hA bA
  obtain ⟨B',lB,Bn,eB⟩:=trimmed lm hB bB
  have big1:2 ^ e<p:=Nat.lt_of_le_of_lt (Nat.pow_le_pow_right (by decide) (by
    have:(e+c+2)*1≤(e+c+2)*N:=Nat.mul_le_mul_left _ (by omega)
    omega)) big
  have T1:T.length=1:=by
    rcases Nat.lt_or_ge T.length 2 with cT | cT
    · omega
    · exfalso
      have short:∀ {A:List Int},Lz A→(∀ k,Bd e (co A k))→Dm (p:Int) (co T) (co A)→2≤A.length:=fun {A} lA bA dA=>by
        have:=Dm.len hp t0 pT dA ⟨A.length - 1,fun z=>by
          have h1:=bA (A.length - 1)
          have h2:=Int.natAbs_dvd_natAbs.mpr z
          have h3:=Nat.le_of_dvd (by have:=lA.2;omega) h2
          rw [Int.natAbs_natCast] at h3
          have:(co A (A.length - 1)).natAbs<2 ^ e:=h1
          omega⟩
        omega
      have a2:=short lA (fun k=>by rw [eA];exact bA k) (by rw [eA];exact dTA)
      have b2:=short lB (fun k=>by rw [eB];exact bB k) (by rw [eB];exact dTB)
      refine lucky hp lA lB (by rw [eA,eB];exact cop) (fun k=>by rw [eA];exact bA k) (fun k=>by rw [eB];exact bB k) a2 b2 cT pT (by rw [eA];exact dTA) (by rw [eB];exact dTB) (qq3 (x:=A'.length+B'.length) (c:=c) (M:=N) (by omega) (by omega) big)
  obtain ⟨s,rfl⟩:∃ s,T=[s]:=by
    match T,T1 with
    | [s],_=>exact ⟨s,rfl⟩
  have hrs:∀ k,(p:Int)∣co rs k - s*co G k:=fun k=>by
    have:=hTr k
    have e1:cvL [s] (co G) k=s*co G k:=by
      cases k with
      | zero=>rw [qat];omega
      | succ k=>rw [qao,qaD];omega
    rwa [e1] at this
  have lr:G.length=rs.length:=by simp at tl;omega
  have lcd:∀ {R A:List Int},(∀ k,co R k=cvL A (co G) k)→Lz R→co G (G.length - 1)∣co R (R.length - 1):=fun {R A} h lR=>by
    rcases qgl A with z | ⟨A',la,_,ea⟩
    · exact absurd (by rw [h,qbC,qcn G z]) lR.2
    · have hh:∀ k,co R k=cvL A' (co G) k:=fun k=>by rw [h,qbC,qas (fun k=>(ea k).symm) G,← qbC]
      have tp:=qfC la lG
      have a0:=la.1
      have rl:R.length - 1=A'.length - 1+(G.length - 1):=by
        rcases Nat.lt_trichotomy (R.length - 1) (A'.length - 1+(G.length - 1)) with c | c | c
        · exfalso
          have:=hh (A'.length - 1+(G.length - 1))
          rw [qaA (by have:=lR.1;omega),tp] at this
          exact Int.mul_ne_zero la.2 lG.2 this.symm
        · exact c
        · exfalso
          have:=hh (R.length - 1)
          rw [qb8 (n:=G.length) (fun i hi=>qaA hi) A' _ (by omega)] at this
          exact lR.2 this
      rw [rl,hh,tp]
      exact Int.dvd_mul_left _ _
  obtain ⟨t,ht⟩:co G (G.length - 1)∣lead:=by rw [← hld];exact Int.dvd_coe_gcd (lcd hA ln) (lcd hB lm)
  have lead0:lead≠0:=fun z=>by
    rw [← hld] at z
    have:Int.gcd (co ns (ns.length - 1)) (co ms (ms.length - 1))=0:=by omega
    exact ln.2 (Int.gcd_eq_zero_iff.mp this).1
  have t0':t≠0:=fun z=>lead0 (by rw [ht,z,Int.mul_zero])
  have bt:t.natAbs<2 ^ e:=by
    have h1:lead∣co ns (ns.length - 1):=by rw [← hld];exact Int.gcd_dvd_left ..
    have h2:=Int.dvd_trans (show t∣lead from ⟨co G (G.length - 1),by rw [ht,Int.mul_comm]⟩) h1
    have h3:=Nat.le_of_dvd (by have:=ln.2;omega) (Int.natAbs_dvd_natAbs.mpr h2)
    have h4:(co ns (ns.length - 1)).natAbs<2 ^ e:=bnk _
    omega
  have egs:∀ k,co gs k=t*co G k:=fun k=>by
    rcases Nat.lt_or_ge k rs.length with ck | ck
    · have h1:=hg k ck
      have h2:=hrs k
      have h3:=hrs (rs.length - 1)
      rw [one,← lr] at h3
      have dv:(p:Int)∣co gs k - t*co G k:=by
        have q1:(p:Int)∣lead*(co rs k - s*co G k):=Int.dvd_mul_of_dvd_right h2
        have q2:(p:Int)∣(t*co G k)*(1 - s*co G (G.length - 1)):=Int.dvd_mul_of_dvd_right h3
        have:=Int.dvd_sub (Int.dvd_add h1 q1) q2
        refine Int.dvd_trans this (qpq ?_)
        rw [ht]
        grind
      have b1:2*(co gs k).natAbs≤p:=by
        have:co gs k∈gs:=by
          unfold co
          rw [List.getD_eq_getElem?_getD,List.getElem?_eq_getElem (by omega)]
          exact List.getElem_mem _
        exact hb _ this
      have b2:2*(t*co G k).natAbs<p:=by
        rw [Int.natAbs_mul]
        have h5:t.natAbs*(co G k).natAbs≤2 ^ e*2 ^ e:=Nat.mul_le_mul (Nat.le_of_lt bt) (Nat.le_of_lt (bG k))
        have h6:2*(2 ^ e*2 ^ e)≤2 ^ ((e+c+2)*N):=by
          rw [← Nat.pow_add,show 2*2 ^ (e+e)=2 ^ (e+e+1) by rw [Nat.pow_succ];omega]
          refine Nat.pow_le_pow_right (by decide) ?_
          have:(e+c+2)*2≤(e+c+2)*N:=Nat.mul_le_mul_left _ (by omega)
          omega
        omega
      obtain ⟨y,hy⟩:=dv
      have ab:(co gs k - t*co G k).natAbs<p:=by omega
      rcases Int.lt_trichotomy y 0 with z | z | z
      · have:(p:Int)*y≤(p:Int)*(-1):=Int.mul_le_mul_of_nonneg_left (by omega) (by omega)
        omega
      · rw [z] at hy;omega
      · have:(p:Int)*1≤(p:Int)*y:=Int.mul_le_mul_of_nonneg_left (by omega) (by omega)
        omega
    · rw [qaA (by omega),qaA (a:=G) (by omega)];omega
  have fin:∀ {R A:List Int},(∀ k,co R k=cvL A (co G) k)→MQ (co gs) (co R):=fun {R A} h=>⟨t,t0',A,fun k=>by rw [qas egs,qbl,h k]⟩
  exact ⟨fin hA,fin hB⟩
theorem ql0 {g f:List Int} {A:List Int} (h:∀ k,co f k=cvL A (co g) k):MQ (co g) (co f):=⟨1,by decide,A,fun k=>by rw [← h k];omega⟩
theorem qfE (h:qa3 K vs H Q E):qcj K { nx:=fun _ H'=>Q .non H',rt:=Q } (L2.start ["row", "other", "prime", "lead", "found", "guess"] vs) H:=by
  obtain ⟨a,b,ns,ms,p,d,ee,cc,NN,rfl,ha,hb,pp,bp,ln,lm,bn,bm,dn,dm,fn,fm,nc,hN,nn0,kN,kR⟩:=h
  have p2:(2:Int)≤(p:Int):=by have:=pp.two;omega
  unfold qcj
  have an:=qeD ln.1
  have am:=qeD lm.1
  rwa [ha,hb,an,am]
  generalize hld:((Int.gcd (co ns (ns.length - 1)) (co ms (ms.length - 1)):Nat):Int)=lead
  have ld1:lead∣co ns (ns.length - 1):=by rw [← hld];exact Int.gcd_dvd_left ..
  have bl:Bd d lead:=(qbM bn (ns.length - 1)).le (qr9 ln.2 ld1)
  refine ⟨by omega,qc5 (fun c=>?_) (fun c=>?_)⟩
  · refine kN (fun bg=>?_) _ (Same.refl H)
    have bl':lead.natAbs<2 ^ ee:=(fn [1] ns (fun k=>(qoe _ k).symm) (ns.length - 1)).le (qr9 ln.2 ld1)
    have z:=Int.dvd_of_emod_eq_zero (show lead % (p:Int)=0 by simpa using c)
    have l0:lead≠0:=fun z=>by
      rw [← hld] at z
      have:Int.gcd (co ns (ns.length - 1)) (co ms (ms.length - 1))=0:=by omega
      exact ln.2 (Int.gcd_eq_zero_iff.mp this).1
    have h3:=Nat.le_of_dvd (by omega) (Int.natAbs_dvd_natAbs.mpr z)
    rw [Int.natAbs_natCast] at h3
    have:2 ^ ee≤2 ^ ((ee+cc+2)*NN):=by
      refine Nat.pow_le_pow_right (by decide) ?_
      have:(ee+cc+2)*1≤(ee+cc+2)*NN:=Nat.mul_le_mul_left _ (by omega)
      omega
    have bg:2 ^ ((ee+cc+2)*NN)<p:=bg
    omega
  have pl:¬ (p:Int)∣lead:=fun z=>c (by rw [Int.emod_eq_zero_of_dvd z])
  have hnl:¬ (p:Int)∣co ns (ns.length - 1)∨¬ (p:Int)∣co ms (ms.length - 1):=by
    by_cases h1:(p:Int)∣co ns (ns.length - 1)
    · right
      intro h2
      exact pl (by rw [← hld];exact Int.dvd_coe_gcd h1 h2)
    · exact .inl h1
  refine ⟨ns,ms,p,rfl,rfl,rfl,pp,bp,by omega,by omega,?_,fun s rs H1 s1 hs r0 rl one br hD dvn dvm=>?_⟩
  · rcases hnl with h | h
    · exact .inl ⟨_,h⟩
    · exact .inr ⟨_,h⟩
  refine ⟨⟨_,SqL.of hs⟩,CompJ.lst (xs:=rs.map V.int) (fun i ys H'=>i≤rs.length∧H'=H1∧∃ gs:List Int,ys=gs.map V.int∧gs.length=i∧(∀ k,k<i→(p:Int)∣co gs k - lead*co rs k)∧∀ z∈gs,Bd 45000 z∧2*z.natAbs≤p) ⟨Nat.zero_le _,rfl,[],rfl,rfl,fun k hk=>absurd hk (by omega),fun z hz=>nomatch hz⟩ ?_ ?_ ?_⟩
  · rintro i ys H' ⟨h1,rfl,gs,rfl,gl,_⟩
    exact ⟨by rw [List.length_map];exact h1,sz (by rw [List.length_map];omega),SqL.of hs⟩
  · rintro i x ys H' hi ⟨h1,rfl,gs,rfl,gl,hg,bg⟩
    rw [List.getElem?_map] at hi
    cases e:rs[i]? with
    | none=>rw [e] at hi;cases hi
    | some n=>
      rw [e] at hi
      obtain rfl:V.int n=x:=Option.some.inj hi
      have hi2:i<rs.length:=(List.getElem?_eq_some_iff.mp e).1
      have bnn:=br n (List.mem_of_getElem? e)
      have cn:co rs i=n:=by unfold co;rw [List.getD_eq_getElem?_getD,e];rfl
      rwa []
      refine ⟨qmN bl (bp.le (x:=(p:Int)) (y:=n) (by omega)),by omega,fun r hr1 hr2=>⟨by omega,gs++[r],by simp,by simp;omega,fun k hk=>?_,fun z hz=>?_⟩⟩
      · by_cases ek:k=i
        · subst ek
          have:co (gs++[r]) k=r:=by unfold co;rw [List.getD_eq_getElem?_getD,← gl];simp
          rw [this,cn];exact hr1
        · have:co (gs++[r]) k=co gs k:=by unfold co;rw [List.getD_eq_getElem?_getD,List.getD_eq_getElem?_getD,List.getElem?_append_left (by omega)]
          rw [this];exact hg k (by omega)
      · rcases List.mem_append.mp hz with z1 | z1
        · exact bg z z1
        · rw [List.mem_singleton.mp z1];exact ⟨bp.le (by omega),by rw [Int.natAbs_natCast] at hr2;exact hr2⟩
  · rintro ys H' ⟨_,rfl,gs,rfl,gl,hg,bg⟩ t ht
    rw [List.length_map] at gl hg
    have st:=qag ht (HO.lst (gs.map V.int))
    have htt:upd H' t (HO.lst (gs.map V.int)) t=_:=qai
    generalize upd H' t (HO.lst (gs.map V.int))=H2 at st htt ⊢
    have gl0:0<gs.length:=by omega
    have glast:co gs (gs.length - 1)≠0:=fun z=>by
      have:=hg (gs.length - 1) (by omega)
      rw [z,show gs.length - 1=rs.length - 1 by omega,one] at this
      exact pl (by have t2:=Int.dvd_neg.mpr this;rw [show -(0 - lead*1)=lead by omega] at t2;exact t2)
    rwa [htt]
    refine ⟨gs,rfl,by omega,.inr glast,fun u gu g H3 s3 hu g0 eg hp=>?_⟩
    have Pg:Prim gu:=by
      rcases hp with h | h
      · rw [h] at gl0;simp at gl0
      · exact h
    have lgu:gu.length=gs.length:=by rw [eg,List.length_map]
    have lzg:Lz gu:=qeO (qk3 (Int.ne_of_gt g0) (by rw [← eg];exact .inr glast)) (fun z=>by rw [z] at lgu;simp at lgu;omega)
    have bgu:∀ z∈gu,Bd 45000 z:=qk4 g0 (by rw [← eg];exact fun z hz=>(bg z hz).1)
    have s13:Same H H3:=(s1.trans st).trans s3
    have ha3:=s13 _ _ ha
    have hb3:=s13 _ _ hb
    obtain ⟨G,hG⟩:=qr5 ln (QI.left (co ns) (co ms))
    have mn:=hG.mq _ ns (Nat.le_refl _) (QI.left _ _)
    have mm:=hG.mq _ ms (Nat.le_refl _) (QI.right _ _)
    have lead':¬ (p:Int)∣co G (G.length - 1):=by
      rcases hnl with h | h
      · exact hG.lead pp ln mn h
      · exact hG.lead pp lm mm h
    have dG:=hD (co G) (hG.dm pp mn) (hG.dm pp mm)
    have glen:G.length≤rs.length:=Dm.len pp hG.lz.1 lead' dG ⟨rs.length - 1,by
      rw [one]
      intro z
      have:=Int.le_of_dvd (by decide) z
      omega⟩
    have tells:qtg ee cc NN p→(∃ A:List Int,∀ k,co ns k=cvL A (co gu) k)∧∃ A:List Int,∀ k,co ms k=cvL A (co gu) k:=fun bp'=>by
      obtain ⟨q1,q2⟩:=qk5 pp ln lm fn fm nc hN nn0 bp' hld hG r0 one glen lead' dG dvn dvm gl hg (fun z hz=>(bg z hz).2)
      have sc:∀ k,co gs k=g*co gu k:=fun k=>by rw [eg,qdu]
      have mg:MQ (co gu) (co gs):=⟨1,by decide,[g],fun k=>by
        have e:cvL [g] (co gu) k=g*co gu k:=by
          cases k with
          | zero=>rw [qat];omega
          | succ k=>rw [qao,qaD];omega
        rw [e,sc];omega⟩
      exact ⟨gauss Pg (mg.trans q1),gauss Pg (mg.trans q2)⟩
    rwa [ha3,hu]
    refine ⟨ns,rfl,gu,rfl,lzg,d,bn,45000,bgu,by omega,by decide,by omega,by omega,fun no=>kN (fun bg=>no (tells bg).1) |> fun f H4 s4=>f H4 (s13.trans s4),fun r qs H4 s4 hr hq=>?_⟩
    have hb4:=s4 _ _ hb3
    have hu4:=s4 _ _ hu
    rwa [hb4,hu4]
    refine ⟨ms,rfl,gu,rfl,lzg,d,bm,45000,bgu,by omega,by decide,by omega,by omega,fun no=>kN (fun bg=>no (tells bg).2) |> fun f H5 s5=>f H5 ((s13.trans s4).trans s5),fun r2 qs2 H5 s5 hr2 hq2=>?_⟩
    exact kR u gu H5 ((s13.trans s4).trans s5) (s5 _ _ hu4) (qnU hG.rc lzg (ql0 hq) (ql0 hq2) (by omega)) Pg
noncomputable def exps:List Nat:=[61,127,521,1279,4423,9941,21701,44497]
noncomputable def qtG (K:W.Frag):Prop:=∀ H:Hp,SqT K H (qcf K) (exps.map fun e:Nat=>V.int (e:Int))
theorem qq4:∀ e∈exps,Pr (mers e)∧e≤44497:=by
  intro e he
  have h:e=61∨e=127∨e=521∨e=1279∨e=4423∨e=9941∨e=21701∨e=44497:=by simpa [exps] using he
  rcases h with h | h | h | h | h | h | h | h <;> rw [h]
  · exact ⟨qtB,by decide⟩
  · exact ⟨qsQ,by decide⟩
  · exact ⟨qsR,by decide⟩
  · exact ⟨qr2,by decide⟩
  · exact ⟨qr3,by decide⟩
  · exact ⟨qr4,by decide⟩
  · exact ⟨qqM,by decide⟩
  · exact ⟨qqN,by decide⟩
theorem qpv (e:Nat):(2:Int) ^ (e:Int).toNat - 1=((mers e:Nat):Int):=by
  unfold mers
  have:=Nat.one_le_two_pow (n:=e)
  rw [Int.natCast_sub this,Int.toNat_natCast,Int.natCast_pow]
  rfl
theorem qq5 {e:Nat} (h:e≤44497):Bd 45000 ((mers e:Nat):Int):=by
  unfold Bd mers
  rw [Int.natAbs_natCast]
  have h1:=Nat.one_le_two_pow (n:=e)
  have h2:=Nat.pow_le_pow_right (n:=2) (by decide) (show e≤45000 by omega)
  omega
theorem qk6 {ns ms one two rs:List Int} {g h:Int} (g0:g≠0) (h0:h≠0) (e1:ns=one.map (g*·)) (e2:ms=two.map (h*·)) (R:RC (co one) (co two) rs):RC (co ns) (co ms) rs:=by
  have c1:∀ k,co ns k=g*co one k:=fun k=>by rw [e1,qdu]
  have c2:∀ k,co ms k=h*co two k:=fun k=>by rw [e2,qdu]
  refine ⟨R.lz,?_,?_,?_⟩
  · obtain ⟨c,c0,A,hA⟩:=R.left
    exact ⟨c,c0,A.map (g*·),fun k=>by rw [qav,← hA k,c1 k];grind⟩
  · obtain ⟨c,c0,A,hA⟩:=R.right
    exact ⟨c,c0,A.map (h*·),fun k=>by rw [qav,← hA k,c2 k];grind⟩
  · obtain ⟨d,d0,U,W,hU⟩:=R.qi
    refine ⟨g*h*d,Int.mul_ne_zero (Int.mul_ne_zero g0 h0) d0,U.map (h*·),W.map (g*·),fun k=>?_⟩
    rw [qav,qav,qas c1 U k,qas c2 W k,qbl,qbl]
    have:=hU k
    grind
theorem qof {e:Nat} {g1:Int} {one ns:List Int} (g0:g1≠0) (e1:ns=one.map (g1*·)) (h:Fp e ns):Fp e one:=fun g lg pg ⟨c,c0,A,hA⟩=>h g lg pg ⟨c,c0,A.map (g1*·),fun k=>by
  rw [qav,← hA k,e1,qdu];grind⟩
theorem qog {c:Int} {g:Nat→Int} (h:∀ k,c∣g k):∀ (A:List Int) (k:Nat),c∣cvL A g k
  | [],_=>by rw [qaD];exact Int.dvd_zero c
  | x::A,0=>by rw [qat];exact Int.dvd_add (Int.dvd_mul_of_dvd_right (h 0)) (Int.dvd_zero c)
  | x::A,k+1=>by rw [qao];exact Int.dvd_add (Int.dvd_mul_of_dvd_right (h _)) (qog h A k)
theorem qsa {e:Nat} {one:List Int} (p:Prim one) (h:Fp e one):Fi e one:=fun A g hg k=>by
  rcases qgl g with z | ⟨g',lg,_,eg⟩
  · rw [z k];exact qbV _
  · rw [← eg k]
    refine h g' lg (fun c hc=>p c fun k=>?_) ⟨1,by decide,A,fun k=>by rw [Int.one_mul,hg k];exact qas (fun k=>(eg k).symm) A k⟩ k
    rw [hg k]
    exact qog (fun k=>by rw [← eg k];exact hc k) A k
theorem qjp {K:W.Frag} (hK:qtG K) {vs:List V} {H:Hp} {Q:VK} {E:XK} (h:qbJ K vs H Q E):qew K { nx:=fun _ H'=>Q .non H',rt:=Q } (L2.start ["row", "other", "one", "two", "exponent", "found"] vs) H:=by
  obtain ⟨a,b,ns,ms,d,ee,cc,NN,rfl,ha,hb,tn,tm,bn,bm,d9,nN,mN,fpp,nc,hN,n2',sm,k⟩:=h
  unfold qew
  rwa [ha]
  refine ⟨ns,rfl,by omega,tn,fun a1 one g1 H1 s1 h1 g10 e1 p1=>?_⟩
  have hb1:=s1 _ _ hb
  rwa [hb1]
  refine ⟨ms,rfl,by omega,tm,fun a2 two g2 H2 s2 h2 g20 e2 p2=>?_⟩
  have s02:=s1.trans s2
  have ha2:=s02 _ _ ha
  have hb2:=s02 _ _ hb
  have h12:=s2 _ _ h1
  have l1:ns.length=one.length:=by rw [e1,List.length_map]
  have l2:ms.length=two.length:=by rw [e2,List.length_map]
  have t1:Tz one:=qk3 (Int.ne_of_gt g10) (by rw [← e1];exact tn)
  have t2:Tz two:=qk3 (Int.ne_of_gt g20) (by rw [← e2];exact tm)
  have b1:∀ z∈one,Bd d z:=qk4 g10 (by rw [← e1];exact bn)
  have b2:∀ z∈two,Bd d z:=qk4 g20 (by rw [← e2];exact bm)
  have n1:one=[]↔ns=[]:=by rw [← List.length_eq_zero_iff,← List.length_eq_zero_iff,l1]
  have n2:two=[]↔ms=[]:=by rw [← List.length_eq_zero_iff,← List.length_eq_zero_iff,l2]
  have last:(ns=[]∨ms=[])→∀ (H3:Hp) (u v:Option V),Same H2 H3→(qbH (tOp gL (qaj (qa5 K) [] E0 (qab (qih (qab (qaf 2) qam)) (qab (qih (qab (qaf 3) qam)) qam))) (tC (.int 0)))) { nx:=fun _ H'=>Q .non H',rt:=Q } [some (.ref a),some (.ref b),some (.ref a1),some (.ref a2),u,v] H3:=fun em H3 u v s3=>by
    have h13:=s3 _ _ h12
    have h23:=s3 _ _ h2
    rwa []
    refine ⟨sz (by decide),fun x hx=>?_⟩
    have sx:=qag hx (HO.lst [V.ref a1])
    refine ⟨sz (by decide),fun y hy=>?_⟩
    have sy:=qag hy (HO.lst [V.ref a2])
    have hxy:=sy _ _ (show upd H3 x (HO.lst [V.ref a1]) x=_ from qai)
    refine ⟨one,⟨[V.ref a1],hxy,⟨⟨a1,rfl,sy _ _ (sx _ _ h13)⟩,trivial⟩⟩,two,⟨[V.ref a2],qai,⟨⟨a2,rfl,sy _ _ (sx _ _ h23)⟩,trivial⟩⟩,em.imp (fun z=>n1.mpr z) (fun z=>n2.mpr z),fun t H4 s4 hSD=>?_⟩
    obtain ⟨ar,xr,ht,har,_⟩:=hSD.head
    refine ⟨_,ht,_,qeL _ _,?_⟩
    refine k ar _ H4 (s02.trans (s3.trans ((sx.trans sy).trans s4))) har (fun hne=>?_) fun h1 h2=>by rw [if_pos (n2.mpr h2)];exact n1.mpr h1
    have z0:∀ {x:List Int},x=[]→∀ k,co x k=0:=fun e k=>by rw [e];exact qaA (Nat.zero_le _)
    by_cases te:two=[]
    · rw [if_pos te]
      have oe:ns≠[]:=by
        rcases hne with h | h
        · exact h
        · exact absurd (n2.mp te) h
      have l1':Lz one:=qeO t1 fun z=>oe (n1.mp z)
      exact ⟨qk6 (Int.ne_of_gt g10) (Int.ne_of_gt g20) e1 e2 ⟨l1',MQ.refl _,MQ.zero _ (z0 te),QI.left _ _⟩,p1.resolve_left oe⟩
    · rw [if_neg te]
      have oe:one=[]:=n1.mpr (em.resolve_right fun z=>te (n2.mpr z))
      exact ⟨qk6 (Int.ne_of_gt g10) (Int.ne_of_gt g20) e1 e2 ⟨qeO t2 te,MQ.zero _ (z0 oe),MQ.refl _,QI.right _ _⟩,p2.resolve_left fun z=>te (n2.mpr z)⟩
  have l0:=fun em=>last em H2 none none (Same.refl H2)
  simp only [qaN,qa7,qaj,qab,qaf,qam,qaq,qqp,L2.start,qeP,tIf,qbo,tB,tOp,rI0,rI,tC,tUn,rU,qbW,qbH,qd6,qih,qs8,qmS,qoX,tCB,qpU,qpR,tOr,qrp,qrA,qs7,qrB,rEq,rNe,qgM,qgx,qeH,qdG,qo3,qrL,qkI,qqB,qqC,iLt,iLe,iGt,iGe,qgy,gT,gL,gS,qrr,qpW,qtb,qo4,qfO,qc6,qo5,qtc,qng,qga,qpX,eqT,qnh,qni,qpY,qpZ,List.map_cons,List.map_nil,List.length_cons,List.length_nil,List.replicate,List.cons_append,List.nil_append,List.append_nil,List.getElem?_cons_zero,List.getElem?_cons_succ,Option.some.injEq,exists_eq_left',exists_eq_left,V.int.injEq,V.bl.injEq,V.ref.injEq,V.ty.injEq,HO.tup.injEq,HO.lst.injEq,List.cons.injEq,and_true,true_and,and_assoc,exists_and_left,List.set_cons_zero,List.set_cons_succ,decide_eq_true_eq,decide_eq_false_iff_not,Bool.not_eq_true',Bool.true_eq_false,Bool.false_eq_true,Bool.not_true,Bool.not_false,if_true,if_false,ite_true,ite_false,qnj,qnk,qlw,qlx,qii,qij,qik,qil,qim,Nat.zero_add,Nat.reduceAdd,Nat.reduceSub,qai,Int.cast_ofNat_Int,decide_true,decide_false,eq_self,not_true_eq_false,not_false_eq_true,Int.natCast_add,Int.natCast_zero,reduceCtorEq,Nm,qkM,qgK,qqo,qkx,tSl,qe0,qkB,sL,sT,qnx,qp0,qjT,qg2,qrQ,qpV,qsx,qm6,qiO,qta,tBM,qs9,qlz,qlA,qnr,qns,qlB,qnC,qlE,qnt,qnu,qnz,qnA,qo8,qqF,qo9,qsz,qqE,qh0,qgj,qsM,qrR,qc7,Option.bind_some,Option.bind_none,Option.bind,Option.join,id_eq,sS,qrU,qrW,qau,qcT,qaV,qbQ,qbm,qbI,qbN,qaK,qaO,qbw,qa5,qba,qbp,qbc,qa2,qbq,qbx,qbk,qcg,qa3,qbJ,qaS,qbs,qbi,qbf,qbK,qj5,qch,qe9,qbO,qa4,qbP,qaR,qbg,qpm,qcU,qb3,qaY,qen,qb9,qaL,qby,qbE,qaW,qbF] at l0
  have lne:ns≠[]→ms≠[]→Lz one∧Lz two:=fun h1 h2=>⟨qeO t1 fun z=>h1 (n1.mp z),qeO t2 fun z=>h2 (n2.mp z)⟩
  refine ⟨_,ha2,qc5 (fun c1=>⟨_,hb2,qc5 (fun c2=>⟨⟨_,hK H2⟩,?_⟩) (fun c2=>l0 (.inr (by simpa using c2)))⟩) (fun c1=>l0 (.inl (by simpa using c1)))⟩
  have y1:ns≠[]:=by simpa using c1
  have y2:ms≠[]:=by simpa using c2
  obtain ⟨z1,z2⟩:=lne y1 y2
  have fi1:Fi ee one:=qsa (p1.resolve_left y1) (qof (Int.ne_of_gt g10) e1 (fpp y1 y2).1)
  have fi2:Fi ee two:=qsa (p2.resolve_left y2) (qof (Int.ne_of_gt g20) e2 (fpp y1 y2).2)
  refine qmW (xs:=exps.map fun e:Nat=>V.int (e:Int)) (fun i σ H'=>i<8∧∃ u v,σ=[some (.ref a),some (.ref b),some (.ref a1),some (.ref a2),u,v]∧Same H2 H') ⟨by decide,none,none,rfl,Same.refl H2⟩ (fun i σ H' _ _=>hK H') ?_ ?_
  · rintro i x σ H' hi ⟨i8,u,v,rfl,s3⟩
    rw [List.getElem?_map] at hi
    cases e:exps[i]? with
    | none=>rw [e] at hi;cases hi
    | some ex=>
      rw [e] at hi
      obtain rfl:V.int (ex:Int)=x:=Option.some.inj hi
      obtain ⟨pe,pl⟩:=qq4 ex (List.mem_of_getElem? e)
      have h13:=s3 _ _ h12
      have h23:=s3 _ _ h2
      rwa [h13,h23]
      refine ⟨by omega,2,by unfold Bd;decide,by omega,one,two,mers ex,qpv ex,rfl,rfl,pe,qq5 pl,z1,z2,d,b1,b2,by omega,by omega,ee,fi1,fi2,cc,by omega,NN,by omega,n2',fun nb H4 s4=>⟨?_,s3.trans s4⟩,fun t rs H4 s4 ht rc pr=>?_⟩
      · rcases Nat.lt_or_ge (i+1) 8 with c8 | c8
        · exact c8
        · exfalso
          have i7:i=7:=by omega
          rw [i7] at e
          obtain rfl:44497=ex:=Option.some.inj e
          refine nb ?_
          show 2 ^ ((ee+cc+2)*NN)<mers 44497
          have h1:2 ^ ((ee+cc+2)*NN)≤2 ^ 44490:=Nat.pow_le_pow_right (by decide) sm
          have h2:2 ^ 44490<mers 44497:=by
            unfold mers
            have e7:2 ^ 44497=2 ^ 44490*2 ^ 7:=by rw [← Nat.pow_add]
            rw [e7]
            have:1≤2 ^ 44490:=Nat.one_le_two_pow
            omega
          omega
      exact k t rs H4 (s02.trans (s3.trans s4)) ht (fun _=>⟨qk6 (Int.ne_of_gt g10) (Int.ne_of_gt g20) e1 e2 rc,pr⟩) fun h1 _=>absurd h1 (by simpa using c1)
  · rintro σ H' ⟨i8,_⟩
    exact absurd i8 (by simp [exps])
theorem qaP (l:List Nu):(qa6 l).length=l.length:=by unfold qa6;rw [List.length_map]
theorem qdv {l:List Nu} (hl:qap l) (nl:Nz l):Tz (qa6 l):=by
  by_cases h:l=[]
  · left;rw [h];rfl
  · right
    rw [qaP]
    exact qkZ hl nl (List.length_pos_iff.mpr h)
theorem qsW {l:List Nu} {M N:Int} (hl:qap l) (hM:Ov l M) (hN:Ov l N) (h:M∣N) {b:Nat} (hb:∀ z∈ovN l N,Bd b z):∀ z∈ovN l M,Bd b z:=fun z hz=>by
  obtain ⟨q,hq,rfl⟩:=List.mem_map.mp hz
  refine (hb (q.1*(N / q.2)) (List.mem_map.mpr ⟨q,hq,rfl⟩)).le ?_
  rw [Int.natAbs_mul,Int.natAbs_mul]
  refine Nat.mul_le_mul_left _ ?_
  have p0:=(hl q hq).pos
  obtain ⟨x,hx⟩:=hM.2 q hq
  obtain ⟨y,hy⟩:=h
  have e1:M / q.2=x:=by rw [hx,Int.mul_ediv_cancel_left _ (Int.ne_of_gt p0)]
  have e2:N / q.2=x*y:=by rw [hy,hx,Int.mul_assoc,Int.mul_ediv_cancel_left _ (Int.ne_of_gt p0)]
  rw [e1,e2,Int.natAbs_mul]
  refine Nat.le_mul_of_pos_right _ ?_
  rcases Nat.eq_zero_or_pos y.natAbs with z | z
  · have y0:y=0:=by omega
    have:=hN.1
    rw [hy,y0] at this;omega
  · exact z
theorem Gq.clr {b c:Nat} {l:List Nu} (G:Gq b c l):(∀ z∈qa6 l,Bd b z)∧Bd c (qbv l)∧(∀ q∈l,Bd b q.1):=by
  obtain ⟨M,hO,bM,hz⟩:=G.ov
  have hd:=qlM G.low hO
  exact ⟨qsW G.low (qbe G.low) hO hd hz,qdz (Int.ne_of_gt hO.1) hd bM,qqb G.low hO hz⟩
theorem qcl (g:List Int):(mnc g).length=g.length:=by unfold mnc;rw [List.length_map]
theorem qf1 {g:List Int} (lg:Lz g):qap (mnc g):=fun q hq=>by
  obtain ⟨z,_,rfl⟩:=List.mem_map.mp hq
  exact qdb lg.2
theorem qjq {g:List Int} (lg:Lz g) (k:Nat):pwo (mnc g) k=(co g k:Rat) / (co g (g.length - 1):Rat):=by
  unfold pwo qa9 mnc
  rw [List.getD_eq_getElem?_getD,List.getElem?_map]
  unfold co
  rw [List.getD_eq_getElem?_getD (l:=g) (i:=k)]
  cases e:g[k]? with
  | none=>
    show val (0,1)=((0:Int):Rat) / _
    unfold val
    show ((0:Int):Rat) / _=_
    rw [show ((0:Int):Rat)=0 from rfl,zdiv,zdiv]
  | some z=>exact qdO lg.2
theorem qjr {g:List Int} (lg:Lz g):qa9 (mnc g) (g.length - 1)=(1,1):=qei (qaM (qf1 lg) _) ⟨by decide,by decide⟩ (by
  have h:=qjq lg (g.length - 1)
  unfold pwo at h
  rw [h]
  have:=qaG lg.2
  have e1:val (1,1)=1:=by unfold val;show ((1:Int):Rat) / ((1:Int):Rat)=1;grind
  rw [e1];grind)
theorem qkc {g:List Int} (lg:Lz g):Nz (mnc g):=fun q hq=>by
  have h:=qjr lg
  rw [List.getLast?_eq_getElem?,qcl] at hq
  unfold qa9 at h
  rw [List.getD_eq_getElem?_getD,hq] at h
  have e1:q=(1,1):=h
  rw [e1];decide
theorem qoh (h:qbK K vs H Q E):qje K { nx:=fun _ H'=>Q .non H',rt:=Q } (L2.start ["P", "Q", "row"] vs) H:=by
  obtain ⟨p,q,xs,ys,l,m,b,c,ee,dd,NN,rfl,hp,hq,hN,hM,G1,G2,b9,c9,lN,mN,fpp,ne',hNN,n2',sm,k0,k1⟩:=h
  obtain ⟨cb1,cB1,ct1⟩:=G1.clr
  obtain ⟨cb2,cB2,ct2⟩:=G2.clr
  obtain ⟨M1,O1,bM1,_⟩:=G1.ov
  obtain ⟨M2,O2,bM2,_⟩:=G2.ov
  unfold qje
  rwa [hp]
  refine ⟨l,hN,G1.low,M1,O1,bM1.mono (by omega),fun q hq=>(ct1 q hq).mono (by omega),by omega,fun r a H1 s1 hr ha=>?_⟩
  have hq1:=s1 _ _ hq
  rwa [hr,hq1]
  refine ⟨m,hM.tp (tpS s1),G2.low,M2,O2,bM2.mono (by omega),fun q hq=>(ct2 q hq).mono (by omega),by omega,fun r2 a2 H2 s2 hr2 ha2=>?_⟩
  have ha':=s2 _ _ ha
  rwa [hr2,ha',ha2]
  have n1:qa6 l=[]↔l=[]:=by rw [← List.length_eq_zero_iff,← List.length_eq_zero_iff,qaP]
  have n2:qa6 m=[]↔m=[]:=by rw [← List.length_eq_zero_iff,← List.length_eq_zero_iff,qaP]
  refine ⟨qa6 l,rfl,qa6 m,rfl,qdv G1.low G1.nz,qdv G2.low G2.nz,b,cb1,cb2,b9,by rw [qaP];exact lN,by rw [qaP];exact mN,ee,fun h1 h2=>fpp (fun z=>h1 (n1.mpr z)) (fun z=>h2 (n2.mpr z)),dd,by rw [qaP,qaP];exact ne',NN,by rw [qaP,qaP];exact hNN,n2',sm,fun s rs H3 s3 hs rc r0=>?_⟩
  have s03:=(s1.trans s2).trans s3
  rwa [hs]
  by_cases hz:l=[]∧m=[]
  · have e:=r0 (n1.mpr hz.1) (n2.mpr hz.2)
    subst e
    refine qc5 (fun z=>absurd z (by simp)) (fun _=>?_)
    exact ⟨sz (by decide),fun t ht=>k0 hz.1 hz.2 t [] _ (s03.trans (qag ht _)) qai trivial⟩
  · have hne:l≠[]∨m≠[]:=by
      by_cases h1:l=[]
      · exact .inr fun h2=>hz ⟨h1,h2⟩
      · exact .inl h1
    obtain ⟨R,P⟩:=rc (hne.imp (fun h z=>h (n1.mp z)) (fun h z=>h (n2.mp z)))
    have rne:rs≠[]:=List.length_pos_iff.mp R.lz.1
    refine qc5 (fun _=>?_) (fun z=>absurd rne (by simpa using z))
    have al:=qeD R.lz.1
    have rl:rs.length≤1000:=by
      rcases hne with h | h
      · have:=qhI R.lz (qeO (qdv G1.low G1.nz) fun z=>h (n1.mp z)) R.left
        rw [qaP] at this;omega
      · have:=qhI R.lz (qeO (qdv G2.low G2.nz) fun z=>h (n2.mp z)) R.right
        rw [qaP] at this;omega
    rwa [hs,al]
    refine ⟨rs,rfl,R.lz.2,rl,fun t zs H4 s4 ht hz'=>?_⟩
    have e:trim (rs.map fun n=>qb7 n (co rs (rs.length - 1)))=mnc rs:=qi1 (qkc R.lz)
    rw [e] at hz'
    exact k1 hne rs R P t zs H4 (s03.trans s4) ht hz'
theorem MR.short {g f:Nat→Rat} {n:Nat} (h0:g n≠0) (h:∀ i,n<i→g i=0) (m:MR g f) (hf:∀ k,n≤k→f k=0) (k:Nat):f k=0:=by
  obtain ⟨A,hA⟩:=m
  rw [hA k]
  exact qgF A (qkQ h0 h A fun k hk=>by rw [← hA k];exact hf k hk) k
theorem MR.less {g f h:Nat→Rat} (m:MR g f) (γ:Rat) (s:Nat) (e:∀ k,h k=f k - γ*upS s g k):MR g h:=by
  obtain ⟨A,hA⟩:=m
  refine ⟨qbj A ((List.replicate s 0++[γ]).map ((-1:Rat)*·)),fun k=>?_⟩
  rw [qaz,qav,qcS,e k,hA k]
  have e2:upS s (cvL [γ] g) k=γ*upS s g k:=by
    unfold upS
    by_cases hk:s≤k
    · rw [if_pos hk,if_pos hk]
      cases hkk:k - s with
      | zero=>rw [qat];grind
      | succ j=>rw [qao,qaD];grind
    · rw [if_neg hk,if_neg hk];grind
  rw [e2];grind
theorem qhM {q:Nu} {n M:Int} (hq:q.2≠0) (hM:M≠0) (h:val q=(n:Rat) / (M:Rat)):Wo q n M:=by
  unfold Wo
  unfold val at h
  have a:=qaG hq
  have b:=qaG hM
  have e:(q.1:Rat)*(M:Rat)=(n:Rat)*(q.2:Rat):=by grind
  exact_mod_cast e
theorem qk7 {q:Nu} {n M:Int} (hl:Low q.1 q.2) (h:Wo q n M):q.2∣M∧q.1*(M / q.2)=n:=by
  unfold Wo at h
  have d:q.2∣M:=qfP hl ⟨n,by rw [h,Int.mul_comm]⟩
  refine ⟨d,?_⟩
  have p0:=hl.pos
  have e:q.2*(q.1*(M / q.2))=q.2*n:=by
    have:=Int.mul_ediv_cancel' d
    calc q.2*(q.1*(M / q.2))=q.1*(q.2*(M / q.2)):=by grind
      _=q.1*M:=by rw [this]
      _=q.2*n:=by rw [h,Int.mul_comm]
  exact Int.eq_of_mul_eq_mul_left (Int.ne_of_gt p0) e
structure RS (m:List Nu) (z:Nat→Rat) (b c d i:Nat) (L:List Nu):Prop where
  low:qap L
  ov:∃ D,Ov L D∧Bd (c+i*d) D∧∀ z∈ovN L D,Bd (b+i*(d+1)) z
  mr:MR (pwo m) (fun k=>pwo L k - z k)
noncomputable def rsL (L m:List Nu) (cc:Nu) (s j:Nat):List Nu:=(List.range L.length).map fun k=>if s≤k∧k - s<j then nadd (qa9 L k) (nmul (-cc.1,cc.2) (qa9 m (k - s))) else qa9 L k
theorem qoi (L m:List Nu) (cc:Nu) (s j:Nat):(rsL L m cc s j).length=L.length:=by unfold rsL;rw [List.length_map,List.length_range]
theorem qq6 {L m:List Nu} {cc:Nu} {s j k:Nat} (h:k<L.length):(rsL L m cc s j)[k]?=some (if s≤k∧k - s<j then nadd (qa9 L k) (nmul (-cc.1,cc.2) (qa9 m (k - s))) else qa9 L k):=by
  unfold rsL;rw [List.getElem?_map,List.getElem?_range h];rfl
theorem qoj (q:Nu):val (-q.1,q.2) = - val q:=by
  unfold val
  show ((-q.1:Int):Rat) / _=_
  push_cast
  grind
theorem qok {m:List Nu} (nm:Nz m) (m0:m≠[]):(qa9 m (m.length - 1)).1≠0:=by
  have hb:m.length - 1<m.length:=by have:=List.length_pos_iff.mpr m0;omega
  have q:=nm m[m.length - 1] (by rw [List.getLast?_eq_getElem?];exact List.getElem?_eq_getElem hb)
  have e:qa9 m (m.length - 1)=m[m.length - 1]:=by unfold qa9;rw [List.getD_eq_getElem?_getD,List.getElem?_eq_getElem hb];rfl
  rw [e];exact q
theorem qbz {m:List Nu} (hm:qap m) (nm:Nz m) (m0:m≠[]):pwo m (m.length - 1)≠0:=by
  have a:=qaG (qok nm m0)
  have b:=qaG (Int.ne_of_gt (qaM hm (m.length - 1)).pos)
  unfold pwo val
  grind
theorem qq7 {L m:List Nu} {cc:Nu} {s j:Nat} (hL:qap L) (hm:qap m) (hc:0<cc.2):qap (rsL L m cc s j):=fun q hq=>by
  obtain ⟨k,_,rfl⟩:=List.mem_map.mp hq
  show Low (if s≤k∧k - s<j then nadd (qa9 L k) (nmul (-cc.1,cc.2) (qa9 m (k - s))) else qa9 L k).1 _
  split
  · exact qlG (qaM hL k).pos (qfo (q:=(-cc.1,cc.2)) hc (qaM hm _).pos).pos
  · exact qaM hL k
theorem qq8 {L m:List Nu} {cc:Nu} {s:Nat} (hL:qap L) (hm:qap m) (hc:0<cc.2) (hs:L.length=s+m.length) (k:Nat):pwo (rsL L m cc s m.length) k=pwo L k - val cc*upS s (pwo m) k:=by
  by_cases h:k<L.length
  · have e:qa9 (rsL L m cc s m.length) k=if s≤k∧k - s<m.length then nadd (qa9 L k) (nmul (-cc.1,cc.2) (qa9 m (k - s))) else qa9 L k:=by
      unfold qa9
      rw [List.getD_eq_getElem?_getD,qq6 h];rfl
    unfold pwo
    rw [e]
    unfold upS
    by_cases hk:s≤k
    · rw [if_pos ⟨hk,by omega⟩,if_pos hk,qi4 (qaM hL k).pos (qfo (q:=(-cc.1,cc.2)) hc (qaM hm _).pos).pos,qfp (q:=(-cc.1,cc.2)) hc (qaM hm _).pos,qoj]
      show _=_ - _*val (qa9 m (k - s))
      grind
    · rw [if_neg (by omega),if_neg hk];grind
  · rw [qbd (by rw [qoi];omega),qbd (by omega)]
    unfold upS
    rw [if_pos (by omega),qbd (by omega)];grind
theorem RS.step {m:List Nu} {z:Nat→Rat} {b c d i:Nat} {L:List Nu} (S:RS m z b c d i L) (hm:qap m) (nm:Nz m) (m0:m≠[]) {M:Int} (OM:Ov m M) (bm:∀ z∈ovN m M,Bd d z) (hs:m.length≤L.length) {by':Nu} (lb:Low by'.1 by'.2) (vb:val by'*pwo m (m.length - 1)=1) :
    RS m z b c d (i+1) (rsL L m (nmul (qa9 L (L.length - 1)) by') (L.length - m.length) m.length).dropLast:=by
  have l0:=List.length_pos_iff.mpr m0
  have lL:=qaM S.low (L.length - 1)
  generalize hcc:nmul (qa9 L (L.length - 1)) by'=cc
  have ccl:Low cc.1 cc.2:=by rw [← hcc];exact qfo lL.pos lb.pos
  have vc:val cc=pwo L (L.length - 1)*val by':=by rw [← hcc];exact qfp lL.pos lb.pos
  generalize hsf:L.length - m.length=s
  have hls:L.length=s+m.length:=by omega
  have lowL':=qq7 (s:=s) (j:=m.length) S.low hm ccl.pos
  have pw:=fun k=>qq8 (cc:=cc) S.low hm ccl.pos hls k
  have lenL':=qoi L m cc s m.length
  have pwl:=qbz hm nm m0
  have top0:pwo (rsL L m cc s m.length) (L.length - 1)=0:=by
    rw [pw,vc]
    unfold upS
    rw [if_pos (by omega),show L.length - 1 - s=m.length - 1 by omega]
    grind
  have dl:∀ k,pwo (rsL L m cc s m.length).dropLast k=pwo L k - val cc*upS s (pwo m) k:=fun k=>by
    rw [← pw]
    by_cases h:k<L.length - 1
    · unfold pwo qa9
      rw [List.getD_eq_getElem?_getD,List.getD_eq_getElem?_getD,List.getElem?_dropLast,if_pos (by rw [lenL'];exact h)]
    · rw [qbd (by rw [List.length_dropLast,lenL'];omega)]
      by_cases e:k=L.length - 1
      · rw [e,top0]
      · rw [qbd (by rw [lenL'];omega)]
  have lowD:qap (rsL L m cc s m.length).dropLast:=fun q hq=>lowL' q (List.dropLast_subset _ hq)
  refine ⟨lowD,?_,S.mr.less (val cc) s fun k=>by rw [dl k];grind⟩
  obtain ⟨D,OD,bD,bz⟩:=S.ov
  generalize hμ:(ovN m M).getD (m.length - 1) 0=μ
  have pμ:pwo m (m.length - 1)=(μ:Rat) / (M:Rat):=by rw [qgk hm OM,hμ]
  have M0:=qaG (Int.ne_of_gt OM.1)
  have D0:=qaG (Int.ne_of_gt OD.1)
  have μ0:μ≠0:=fun z=>pwl (by rw [pμ,z];exact zdiv _)
  have bμ:Bd d μ:=by rw [← hμ];exact qcz bm _
  have aμ:0<(μ.natAbs:Int):=by omega
  have key:∀ k,∃ n:Int,pwo (rsL L m cc s m.length).dropLast k=(n:Rat) / ((D*(μ.natAbs:Int):Int):Rat)∧Bd (b+(i+1)*(d+1)) n:=fun k=>by
    have e2:b+(i+1)*(d+1)=(d+(b+i*(d+1)))+1:=by rw [Nat.add_mul];omega
    have b1:Bd (b+i*(d+1)) ((ovN L D).getD k 0):=qcz bz k
    have b2:Bd (b+i*(d+1)) ((ovN L D).getD (L.length - 1) 0):=qcz bz _
    have hv:val cc=((ovN L D).getD (L.length - 1) 0:Rat) / (D:Rat)*((M:Rat) / (μ:Rat)):=by
      rw [vc,qgk S.low OD]
      have:val by'=(M:Rat) / (μ:Rat):=by
        rw [pμ] at vb
        have:=qaG μ0
        grind
      rw [this]
    have up:∃ w:Int,upS s (pwo m) k=(w:Rat) / (M:Rat)∧Bd d w:=by
      unfold upS
      by_cases hk:s≤k
      · rw [if_pos hk,qgk hm OM];exact ⟨_,rfl,qcz bm _⟩
      · rw [if_neg hk];exact ⟨0,(zdiv _).symm,qbV _⟩
    obtain ⟨w,hw,bw⟩:=up
    rw [dl,hv,hw,qgk S.low OD,e2]
    have μR:=qaG μ0
    rcases Int.natAbs_eq μ with e | e
    · refine ⟨(μ.natAbs:Int)*(ovN L D).getD k 0 - w*(ovN L D).getD (L.length - 1) 0,?_,?_⟩
      · rw [← e]
        push_cast
        generalize ((ovN L D).getD k 0:Rat)=x at *
        generalize ((ovN L D).getD (L.length - 1) 0:Rat)=y at *
        grind
      · rw [← e];exact (bμ.mul b1).sub (bw.mul b2)
    · refine ⟨(μ.natAbs:Int)*(ovN L D).getD k 0+w*(ovN L D).getD (L.length - 1) 0,?_,?_⟩
      · have e':(μ.natAbs:Int) = -μ:=by omega
        rw [e']
        push_cast
        generalize ((ovN L D).getD k 0:Rat)=x at *
        generalize ((ovN L D).getD (L.length - 1) 0:Rat)=y at *
        grind
      · have e':(μ.natAbs:Int) = -μ:=by omega
        rw [e'];exact (bμ.neg.mul b1).add (bw.mul b2)
  have DP:0<D*(μ.natAbs:Int):=Int.mul_pos OD.1 aμ
  have elem:∀ q∈(rsL L m cc s m.length).dropLast,q.2∣D*(μ.natAbs:Int)∧Bd (b+(i+1)*(d+1)) (q.1*((D*(μ.natAbs:Int)) / q.2)):=fun q hq=>by
    obtain ⟨k,hk,e⟩:=List.getElem_of_mem hq
    obtain ⟨n,hn,bn⟩:=key k
    have lq:=lowD q hq
    have ek:qa9 (rsL L m cc s m.length).dropLast k=q:=by unfold qa9;rw [List.getD_eq_getElem?_getD,List.getElem?_eq_getElem hk,← e];rfl
    unfold pwo at hn
    rw [ek] at hn
    obtain ⟨h1,h2⟩:=qk7 lq (qhM (Int.ne_of_gt lq.pos) (Int.ne_of_gt DP) hn)
    exact ⟨h1,by rw [h2];exact bn⟩
  refine ⟨D*(μ.natAbs:Int),⟨DP,fun q hq=>(elem q hq).1⟩,?_,fun z hz=>?_⟩
  · refine (bD.mul (bμ.le (y:=(μ.natAbs:Int)) (by omega))).mono ?_
    rw [Nat.add_mul];omega
  · obtain ⟨q,hq,rfl⟩:=List.mem_map.mp hz
    exact (elem q hq).2
theorem qsb (f:Nat→Int):∀ (A:List Int) (k:Nat),cvL (A.map fun z:Int=>(z:Rat)) (fun k=>(f k:Rat)) k=((cvL A f k:Int):Rat)
  | [],_=>rfl
  | x::A,0=>by rw [List.map_cons,qat,qat];push_cast;grind
  | x::A,k+1=>by rw [List.map_cons,qao,qao,qsb f A k];push_cast;grind
theorem qiD {f:Nat→Int} {G:Nat→Rat} {β:Rat} (β0:β≠0) (hG:∀ k,G k=β*(f k:Rat)) (A:List Int) (k:Nat):((cvL A f k:Int):Rat)=β⁻¹*cvL (A.map fun z:Int=>(z:Rat)) G k:=by
  rw [qas hG,qbl,qsb]
  grind
theorem MR.of {f g:Nat→Int} {F G:Nat→Rat} {α β:Rat} (β0:β≠0) (hF:∀ k,F k=α*(f k:Rat)) (hG:∀ k,G k=β*(g k:Rat)) (m:MQ g f):MR G F:=by
  obtain ⟨c,c0,A,hA⟩:=m
  have c1:=qaG c0
  refine ⟨(A.map fun z:Int=>(z:Rat)).map (α*(c:Rat)⁻¹*β⁻¹*·),fun k=>?_⟩
  have e:(c:Rat)*(f k:Rat)=((cvL A g k:Int):Rat):=by exact_mod_cast hA k
  rw [qav,hF k]
  rw [qiD β0 hG] at e
  grind
theorem MR.qi {r o g:Nat→Int} {n L M G:Nat→Rat} {α β γ:Rat} (α0:α≠0) (β0:β≠0) (hL:∀ k,L k=α*(r k:Rat)) (hM:∀ k,M k=β*(o k:Rat)) (hG:∀ k,G k=γ*(g k:Rat)) (q:QI r o g) (m1:MR n L) (m2:MR n M):MR n G:=by
  obtain ⟨d,d0,U,W,hU⟩:=q
  obtain ⟨A,hA⟩:=m1
  obtain ⟨B,hB⟩:=m2
  have d1:=qaG d0
  refine ⟨qbj ((qaQ (U.map fun z:Int=>(z:Rat)) A).map (γ*(d:Rat)⁻¹*α⁻¹*·)) ((qaQ (W.map fun z:Int=>(z:Rat)) B).map (γ*(d:Rat)⁻¹*β⁻¹*·)),fun k=>?_⟩
  rw [qaz,qav,qav,qaw,qaw,← qas hA,← qas hB]
  have e:(d:Rat)*(g k:Rat)=((cvL U r k:Int):Rat)+((cvL W o k:Int):Rat):=by exact_mod_cast hU k
  rw [qiD α0 hL,qiD β0 hM] at e
  rw [hG k]
  grind
theorem qdw {l:List Nu} (hl:qap l) (k:Nat):pwo l k=((qbv l:Rat))⁻¹*(co (qa6 l) k:Rat):=by
  rw [qgk hl (qbe hl),← qi7]
  show (co (qa6 l) k:Rat) / _=_
  grind
theorem qol {l:List Nu} (hl:qap l):((qbv l:Rat))⁻¹≠0:=by
  have:=qaG (Int.ne_of_gt (qbe hl).1)
  grind
theorem qeZ {g:List Int} (lg:Lz g) (k:Nat):pwo (mnc g) k=((co g (g.length - 1):Rat))⁻¹*(co g k:Rat):=by
  rw [qjq lg];grind
theorem qfh {g:List Int} (lg:Lz g):((co g (g.length - 1):Rat))⁻¹≠0:=by
  have:=qaG lg.2
  grind
theorem RC.symm {r o:Nat→Int} {g:List Int} (G:RC r o g):RC o r g:=by
  obtain ⟨d,d0,U,W,h⟩:=G.qi
  exact ⟨G.lz,G.right,G.left,⟨d,d0,W,U,fun k=>by rw [h k];omega⟩⟩
theorem qkd {lead:Int} (h0:lead≠0) {B:Nat} {ns:List Int} (hb:∀ z∈ns,Bd B z):Ov (ns.map fun n=>qb7 n lead) (lead.natAbs:Int)∧∀ z∈ovN (ns.map fun n=>qb7 n lead) (lead.natAbs:Int),Bd B z:=by
  have A0:(0:Int)<(lead.natAbs:Int):=by omega
  have key:∀ n∈ns,(qb7 n lead).2∣(lead.natAbs:Int)∧Bd B ((qb7 n lead).1*((lead.natAbs:Int) / (qb7 n lead).2)):=fun n hn=>by
    have lq:=qdb (n:=n) h0
    have l1:=qaG h0
    have:∃ s:Int,val (qb7 n lead)=(s:Rat) / (((lead.natAbs:Int):Int):Rat)∧Bd B s:=by
      rw [qdO h0]
      rcases Int.natAbs_eq lead with e | e
      · exact ⟨n,by rw [← e],hb n hn⟩
      · refine ⟨-n,?_,(hb n hn).neg⟩
        have e':(lead.natAbs:Int) = -lead:=by omega
        rw [e'];push_cast;grind
    obtain ⟨s,hs,bs⟩:=this
    obtain ⟨d1,d2⟩:=qk7 lq (qhM (Int.ne_of_gt lq.pos) (Int.ne_of_gt A0) hs)
    exact ⟨d1,by rw [d2];exact bs⟩
  refine ⟨⟨A0,fun q hq=>?_⟩,fun z hz=>?_⟩
  · obtain ⟨n,hn,rfl⟩:=List.mem_map.mp hq
    exact (key n hn).1
  · obtain ⟨q,hq,rfl⟩:=List.mem_map.mp hz
    obtain ⟨n,hn,rfl⟩:=List.mem_map.mp hq
    exact (key n hn).2
theorem qq9 {l:List Nu} {M:Int} {B:Nat} (h:Ov l M) (hb:∀ z∈ovN l M,Bd B z):Ov (trim l) M∧∀ z∈ovN (trim l) M,Bd B z:=by
  refine ⟨⟨h.1,fun q hq=>h.2 q (qb1 hq)⟩,fun z hz=>?_⟩
  obtain ⟨q,hq,rfl⟩:=List.mem_map.mp hz
  exact hb _ (List.mem_map.mpr ⟨q,qb1 hq,rfl⟩)
theorem qsX {F G:Nat→Rat} {P:Nat→Rat} (n:Nat) (h:∀ k,P k=cv F G n k):MR G P:=by
  refine ⟨(List.range n).map F,fun k=>?_⟩
  rw [h k]
  clear h
  induction n with
  | zero=>rfl
  | succ n ih=>
    show cv F G n k+(if n≤k then F n*G (k - n) else 0)=_
    rw [ih,List.range_succ,List.map_append,List.map_singleton,qbu,List.length_map,List.length_range]
    unfold upS
    by_cases hk:n≤k
    · rw [if_pos hk,if_pos hk]
    · rw [if_neg hk,if_neg hk];grind
structure PS (l m:List Nu) (b c d e nq:Nat) (r:List Int) (B:Int) (qs:List Nu):Prop where
  len:r.length≤l.length
  tz:Tz r
  B0:B≠0
  N:∃ N,0<N∧B∣N∧Bd (c+(nq - (r.length+1 - m.length))*d) N∧∀ q∈qs,q.2∣N
  low:qap qs
  qb:∀ q∈qs,Bd (b+nq*(d+1)+e) q.1
  rb:∀ z∈r,Bd (b+(nq - (r.length+1 - m.length))*(d+1)) z
  ql:qs.length=nq
  zer:∀ j,j+m.length≤r.length→qa9 qs j=(0,1)
  idn:∀ k,pwo l k=cv (pwo qs) (pwo m) nq k+(co r k:Rat) / (B:Rat)
theorem qom {ns:List Int} {g:Int} (k:Nat):co (ns.map (· / g)) k=co ns k / g:=qj9 (F:=(· / g)) (Int.zero_ediv g) ns k
theorem qqf {ns:List Int} {g:Int} (h:∀ z∈ns,g∣z) (k:Nat):g∣co ns k:=qlT h k
theorem PS.step {l m:List Nu} {b c d e nq:Nat} {r:List Int} {B:Int} {qs:List Nu} (S:PS l m b c d e nq r B qs) (hm:qap m) (nm:Nz m) (m1:1≤m.length) (bC:∀ z∈qa6 m,Bd d z) (bE:Bd e (qbv m)) (hq:nq=l.length+1 - m.length) (hr:m.length≤r.length)
    {lead top sh f w g:Int} (hlead:lead=co (qa6 m) (m.length - 1)) (htop:top=co r (r.length - 1)) (hs0:0<sh) (hf:f*sh=lead) (hw:w*sh=top) {r1:List Int} (t1:Tz r1) (hr1:∀ k,co r1 k=f*co r k - w*upS (r.length - m.length) (co (qa6 m)) k) (g0:0<g) (gB:g∣B*f) (gr:∀ z∈r1,g∣z) :
    PS l m b c d e nq (r1.map (· / g)) (B*f / g) (qs.set (r.length - m.length) (qb7 (top*qbv m) (B*lead)))∧r1.length<r.length:=by
  have lne:lead≠0:=by rw [hlead];exact qkZ hm nm m1
  have cl:(qa6 m).length=m.length:=qaP m
  have fne:f≠0:=fun z=>lne (by rw [← hf,z,Int.zero_mul])
  have lt1:r1.length<r.length:=by
    have:r1.length≤r.length - 1:=qr8 (b:=[]) t1 _ fun k hk=>by
      rw [hr1 k]
      unfold upS
      rw [if_pos (by omega)]
      by_cases ek:k=r.length - 1
      · rw [ek,← htop,show r.length - 1 - (r.length - m.length)=m.length - 1 by omega,← hlead,← hw,← hf];grind
      · rw [qaA (a:=r) (by omega),qaA (a:=qa6 m) (k:=k - (r.length - m.length)) (by omega)];omega
    omega
  have len2:(r1.map (· / g)).length=r1.length:=List.length_map ..
  obtain ⟨N,N0,NB,Nb,Nq⟩:=S.N
  have hlen:=S.len
  have bl:Bd d lead:=by rw [hlead];exact qbM bC _
  have bt:Bd (b+(nq - (r.length+1 - m.length))*(d+1)) top:=by rw [htop];exact qbM S.rb _
  have bf:Bd d f:=qdz lne ⟨sh,by rw [hf]⟩ bl
  have bw:Bd (b+(nq - (r.length+1 - m.length))*(d+1)) w:=by
    by_cases z:top=0
    · have w0:w=0:=by
        rcases Int.mul_eq_zero.mp (hw.trans z) with h | h
        · exact h
        · omega
      rw [w0];exact qbV _
    · exact qdz z ⟨sh,by rw [hw]⟩ bt
  have sle:r.length - m.length<nq:=by omega
  have bne:B*lead≠0:=Int.mul_ne_zero S.B0 lne
  have nlow:=qdb (n:=top*qbv m) bne
  have mem_set:∀ {q:Nu},q∈qs.set (r.length - m.length) (qb7 (top*qbv m) (B*lead))→q∈qs∨q=qb7 (top*qbv m) (B*lead):=fun {q} h=>List.mem_or_eq_of_mem_set h
  have sget:∀ j,qa9 (qs.set (r.length - m.length) (qb7 (top*qbv m) (B*lead))) j=if j=r.length - m.length then qb7 (top*qbv m) (B*lead) else qa9 qs j:=fun j=>by
    unfold qa9
    rw [List.getD_eq_getElem?_getD,List.getD_eq_getElem?_getD]
    by_cases e:j=r.length - m.length
    · rw [if_pos e,e,List.getElem?_set_self (by rw [S.ql];exact sle)];rfl
    · rw [if_neg e,List.getElem?_set_ne (fun z=>e z.symm)]
  have grow:∀ x:Nat,(nq - (r.length+1 - m.length))*x+x≤(nq - (r1.length+1 - m.length))*x:=fun x=>by
    have:=Nat.mul_le_mul_right x (show nq - (r.length+1 - m.length)+1≤nq - (r1.length+1 - m.length) by omega)
    rw [Nat.add_mul,Nat.one_mul] at this
    exact this
  refine ⟨⟨by omega,?_,?_,⟨N*(lead.natAbs:Int),?_,?_,?_,?_⟩,?_,?_,?_,?_,?_,?_⟩,lt1⟩
  · rcases t1 with h | h
    · left;rw [h];rfl
    · right
      rw [len2,qom]
      intro z
      have:=Int.ediv_mul_cancel (qqf gr (r1.length - 1))
      rw [z,Int.zero_mul] at this
      exact h this.symm
  · intro z
    have d:=Int.ediv_mul_cancel gB
    rw [z,Int.zero_mul] at d
    exact Int.mul_ne_zero S.B0 fne d.symm
  · exact Int.mul_pos N0 (by omega)
  · refine Int.dvd_trans (Int.ediv_dvd_of_dvd gB) (Int.mul_dvd_mul NB ?_)
    exact Int.dvd_natAbs.mpr ⟨sh,by rw [hf]⟩
  · have bl':Bd d (lead.natAbs:Int):=bl.le (by rw [Int.natAbs_natCast];exact Nat.le_refl _)
    refine (Nb.mul bl').mono ?_
    rw [len2]
    have:=grow d
    omega
  · intro q hq
    rcases mem_set hq with h | h
    · exact Int.dvd_trans (Nq q h) (Int.dvd_mul_right ..)
    · rw [h]
      exact qlJ bne (Int.mul_dvd_mul NB (Int.dvd_natAbs.mpr (Int.dvd_refl _)))
  · intro q hq
    rcases mem_set hq with h | h
    · exact S.low q h
    · rw [h];exact nlow
  · intro q hq
    rcases mem_set hq with h | h
    · exact S.qb q h
    · rw [h]
      refine (qkO bne (bt.mul bE) (Nat.lt_two_pow_self:Bd _ (B*lead))).1.mono ?_
      have:=Nat.mul_le_mul_right (d+1) (show nq - (r.length+1 - m.length)≤nq by omega)
      omega
  · intro z hz
    obtain ⟨y,hy,rfl⟩:=List.mem_map.mp hz
    refine qn8 (gr y hy) ?_
    refine qkb (n:=b+(nq - ((r1.map (· / g)).length+1 - m.length))*(d+1)) (fun k=>?_) y hy
    rw [hr1 k,len2]
    have gw:=grow (d+1)
    refine Bd.mono (m:=(b+(nq - (r.length+1 - m.length))*(d+1)+d)+1) (Bd.sub ((bf.mul (qbM S.rb k)).mono (by omega)) ?_) (by omega)
    unfold upS
    split
    · exact bw.mul (qbM bC _)
    · rw [Int.mul_zero];exact qbV _
  · rw [List.length_set];exact S.ql
  · intro j hj
    rw [len2] at hj
    rw [sget,if_neg (by omega)]
    exact S.zer j (by omega)
  · intro k
    have hB:=qaG S.B0
    have hL:=qaG lne
    have hg:=qaG (Int.ne_of_gt g0)
    have hF:=qaG fne
    have hE:=qaG (Int.ne_of_gt (qbe hm).1)
    have c1:=qp4 (f:=pwo qs) (f':=pwo (qs.set (r.length - m.length) (qb7 (top*qbv m) (B*lead)))) (g:=pwo m) (s:=r.length - m.length) (x:=val (qb7 (top*qbv m) (B*lead)))
      (by unfold pwo;rw [S.zer _ (by omega)];exact zdiv _) (by unfold pwo;rw [sget,if_pos rfl]) (fun i hi=>by unfold pwo;rw [sget,if_neg hi]) nq k
    have gd:g∣f*co r k - w*upS (r.length - m.length) (co (qa6 m)) k:=by rw [← hr1 k];exact qqf gr k
    rw [c1,S.idn k,qom,hr1 k,qlS (Int.ne_of_gt g0) gd,qlS (Int.ne_of_gt g0) gB,qdO bne]
    have hf':(f:Rat)*sh=lead:=by exact_mod_cast hf
    have hw':(w:Rat)*sh=top:=by exact_mod_cast hw
    have hS:=qaG (Int.ne_of_gt hs0)
    unfold upS
    by_cases hk:r.length - m.length≤k
    · rw [if_pos hk,if_pos ⟨sle,hk⟩,qgk hm (qbe hm),← qi7]
      show _+(co r k:Rat) / _=_+_*((co (qa6 m) (k - (r.length - m.length)):Rat) / _)+_
      push_cast
      generalize (co (qa6 m) (k - (r.length - m.length)):Rat)=dk
      generalize cv (pwo qs) (pwo m) nq k=c
      generalize (co r k:Rat)=x
      grind
    · rw [if_neg hk,if_neg (by omega)]
      push_cast
      generalize cv (pwo qs) (pwo m) nq k=c
      generalize (co r k:Rat)=x
      grind
theorem qpw {a b:Nu} (h:qp8 a=qp8 b):a=b:=by
  unfold qp8 at h
  injection h with h
  injection h with h1 h2
  injection h2 with h2 _
  injection h1 with h1
  injection h2 with h2
  exact Prod.ext h1 h2
theorem ql1 {l m:List Nu} (h:qpk l=qpk m):l=m:=by
  unfold qpk at h
  injection h with h
  induction l generalizing m with
  | nil=>
    cases m with
    | nil=>rfl
    | cons b m=>simp at h
  | cons a l ih=>
    cases m with
    | nil=>simp at h
    | cons b m=>
      rw [List.map_cons,List.map_cons] at h
      injection h with h1 h2
      rw [qpw h1,ih h2]
theorem eqP {H:Hp} {p q:Addr} {xs ys:List V} {l m:List Nu} {Q:VK} (hp:H p=some (.tup xs)) (hN:Nums H xs l) (hq:H q=some (.tup ys)) (hM:Nums H ys m) (b:Bool) (hb:b=true↔l=m) (h:Q (.bl b) H):eqD (.ref p) (.ref q) H Q:=
  ⟨_,_,b,qqO hp hN,qqO hq hM,okP _ 6,okP _ 6,⟨fun z=>by rw [hb.mp z],fun z=>hb.mpr (ql1 z)⟩,h⟩
theorem neP {H:Hp} {p q:Addr} {xs ys:List V} {l m:List Nu} {Q:VK} (hp:H p=some (.tup xs)) (hN:Nums H xs l) (hq:H q=some (.tup ys)) (hM:Nums H ys m) (b:Bool) (hb:b=true↔l=m) (h:Q (.bl (!b)) H):neD (.ref p) (.ref q) H Q:=
  ⟨_,_,b,qqO hp hN,qqO hq hM,okP _ 6,okP _ 6,⟨fun z=>by rw [hb.mp z],fun z=>hb.mpr (ql1 z)⟩,h⟩
theorem qmq (h:qch K vs H Q E):qhn K { nx:=fun _ H'=>Q .non H',rt:=Q } (L2.start ["P", "Q", "row", "divisor", "rest", "bottom", "lead", "quotient", "shift", "shared", "spare"] vs) H:=by
  obtain ⟨p,q,xs,ys,l,m,b0,c0,d0,e0,rfl,hp,hq,hN,hM,GL,GM,m0,l10,m6,hc,hb,he,hd,k⟩:=h
  obtain ⟨cb1,cB1,ct1⟩:=GL.clr
  obtain ⟨cb2,cB2,ct2⟩:=GM.clr
  obtain ⟨M,hO,bM,bOv⟩:=GL.ov
  obtain ⟨M',hO',bM',_⟩:=GM.ov
  have hl:=GL.low
  have hm:=GM.low
  have nm:=GM.nz
  have m1:1≤m.length:=List.length_pos_iff.mpr m0
  have b9:b0≤900000:=by omega
  have c9:c0≤400000:=by omega
  have lx:=hN.length
  have ly:=hM.length
  have bmn:∀ q∈m,Bd 60000000 q.1:=fun q hq=>(ct2 q hq).mono (by omega)
  have bE:Bd e0 (qbv m):=cB2
  have OE:=qbe hm
  have OL:=qbe hl
  have bL:Bd c0 (qbv l):=cB1
  have cl:(qa6 m).length=m.length:=by unfold qa6;rw [List.length_map]
  have cll:(qa6 l).length=l.length:=by unfold qa6;rw [List.length_map]
  unfold qhn
  rwa [hp]
  refine ⟨l,hN,hl,M,hO,bM.mono (by omega),fun q hq=>(ct1 q hq).mono (by omega),by omega,fun ra a H1 s1 hr1 ha1=>?_⟩
  unfold qhm
  have hq1:=s1 _ _ hq
  rwa [hq1]
  refine ⟨m,hM.tp (tpS s1),hm,qbv m,OE,bE.mono (by omega),bmn,by omega,fun rb b H2 s2 hr2 ha2=>?_⟩
  have hr1:=s2 _ _ hr1
  have ha1:=s2 _ _ ha1
  have s12:=s1.trans s2
  have hp2:=s12 _ _ hp
  have hq2:=s12 _ _ hq
  unfold qhl qhk qhj qhi
  rwa [hr1,hr2,ha2,hp2,hq2]
  have lastI:∀ {r:List Int},1≤r.length→atI (r.map V.int) (-1)=some (V.int (r.getD (r.length - 1) 0)):=fun {r} h=>by
    unfold atI ixN
    rw [if_neg (by decide),if_pos (by rw [List.length_map];omega),List.length_map,show (-1+(r.length:Int)).toNat=r.length - 1 by omega]
    show (r.map V.int)[r.length - 1]?=_
    rw [List.getElem?_map,List.getD_eq_getElem?_getD,List.getElem?_eq_getElem (by omega)]
    rfl
  have el:=lastI (r:=qa6 m) (by omega)
  rw [cl] at el
  generalize hlead:(qa6 m).getD (m.length - 1) 0=lead at el
  have lne:lead≠0:=by rw [← hlead];exact qkZ hm nm m1
  have bld:Bd d0 lead:=by rw [← hlead];exact qcz cb2 _
  refine ⟨_,el,sz (by decide),fun e1 he1=>⟨sz (by simp),fun e2 he2=>?_⟩⟩
  have se1:=qag he1 (HO.tup [V.int 0,V.int 1])
  have se2:=qag he2 (HO.lst [V.ref e1])
  have u:=se1.trans se2
  refine ⟨_,u _ _ hp2,_,u _ _ hq2,?_⟩
  have en:(if (0:Int) > (xs.length:Int) - (ys.length:Int)+1 then 0 else (xs.length:Int) - (ys.length:Int)+1)=((l.length+1 - m.length:Nat):Int):=by split <;> omega
  rw [en]
  refine ⟨by omega,by omega,sz (by omega),fun w hw=>?_⟩
  rw [Int.toNat_natCast,qde]
  have sw:=qag hw (HO.lst (List.replicate (l.length+1 - m.length) (V.ref e1)))
  have u:=u.trans sw
  have w2:H2 w=none:=by
    cases e:H2 w with
    | none=>rfl
    | some o=>have z:=se2 _ _ (se1 _ _ e);rw [hw] at z;cases z
  have hwz:upd (upd (upd H2 e1 (HO.tup [V.int 0,V.int 1])) e2 (HO.lst [V.ref e1])) w (HO.lst (List.replicate (l.length+1 - m.length) (V.ref e1))) w=some (HO.lst (List.replicate (l.length+1 - m.length) (V.ref e1))):=qai
  have N0:Nums _ (List.replicate (l.length+1 - m.length) (V.ref e1)) (List.replicate (l.length+1 - m.length) (0,1)):=Nums.rep ⟨e1,rfl,sw _ _ (se2 _ _ qai)⟩ _
  generalize upd (upd (upd H2 e1 (HO.tup [V.int 0,V.int 1])) e2 (HO.lst [V.ref e1])) w (HO.lst (List.replicate (l.length+1 - m.length) (V.ref e1)))=H3 at u hwz N0 ⊢
  have gz:∀ n j:Nat,qa9 (List.replicate n ((0,1):Nu)) j=(0,1):=fun n j=>by
    unfold qa9
    rw [List.getD_eq_getElem?_getD,List.getElem?_replicate]
    split <;> rfl
  unfold qhh
  rwa []
  refine while_by (fun n σ H'=>∃ (c:Addr) (r:List Int) (B:Int) (zs:List V) (qs:List Nu) (x8 x9 x10:Option V),σ=[some (.ref p),some (.ref q),some (.ref ra),some (.ref rb),some (.ref c),some (.int B),some (.int lead),some (.ref w),x8,x9,x10]∧Same H2 H'∧H' c=some (.lst (r.map V.int))∧c≠w∧H' w=some (.lst zs)∧Nums H' zs qs∧PS l m b0 c0 d0 e0 (l.length+1 - m.length) r B qs∧n=r.length) l.length
    ⟨a,qa6 l,qbv l,_,_,none,none,none,rfl,u,u _ _ ha1,qaH ha1 w2,hwz,N0,⟨by omega,qdv hl GL.nz,Int.ne_of_gt OL.1,⟨qbv l,OL.1,Int.dvd_refl _,bL.mono (by omega),fun q hq=>?_⟩,fun q hq=>?_,fun q hq=>?_,fun z hz=>?_,List.length_replicate ..,fun j _=>gz _ j,fun k=>?_⟩,cll.symm⟩ ?_
  · rw [(List.mem_replicate.mp hq).2];exact Int.one_dvd _
  · rw [(List.mem_replicate.mp hq).2];exact qqH
  · rw [(List.mem_replicate.mp hq).2];exact qbV _
  · exact (cb1 z hz).mono (by omega)
  · rw [qnM _ _ (fun i _=>by unfold pwo;rw [gz];exact zdiv _),qgk hl OL,qi7]
    exact (Rat.zero_add _).symm
  rintro n σ H4 ⟨c,r,B,zs,qs,x8,x9,x10,rfl,s4,hc4,cw,hw4,N4,S4,rfl⟩
  have hq4:=s4 _ _ hq2
  rwa [hc4,hq4]
  refine qc5 (fun cc=>?_) (fun cc=>?_)
  · have hrl:m.length≤r.length:=by rw [List.length_map] at cc;omega
    refine ⟨_,fun _ _ h=>h,?_⟩
    have es:((r.map V.int).length:Int) - (ys.length:Int)=((r.length - m.length:Nat):Int):=by rw [List.length_map];omega
    have lt:=lastI (r:=r) (by omega)
    generalize htop:r.getD (r.length - 1) 0=top at lt
    have hr24:=s4 _ _ hr2
    have ha24:=s4 _ _ ha2
    obtain ⟨N,NN0,NB,Nb,Nq⟩:=S4.N
    have BBd:Bd 400000 B:=(qdz (Int.ne_of_gt NN0) NB Nb).mono (Nat.le_trans (Nat.add_le_add_left (Nat.mul_le_mul_right _ (Nat.sub_le _ _)) _) hc)
    have rsm:b0+(l.length+1 - m.length - (r.length+1 - m.length))*(d0+1)≤900000:=by
      have:=Nat.mul_le_mul_right (d0+1) (Nat.sub_le (l.length+1 - m.length) (r.length+1 - m.length))
      omega
    have btop:Bd 900000 top:=by rw [← htop];exact (qcz S4.rb _).mono rsm
    have rb4:∀ z∈r,Bd 60000000 z:=fun z hz=>(S4.rb z hz).mono (by omega)
    unfold qeY qeX
    rwa [hc4,hq4,es,lt,hr24]
    have bne:B*lead≠0:=Int.mul_ne_zero S4.B0 lne
    refine ⟨qmN btop bE,qmN BBd bld,bne,fun t1 ht1=>?_⟩
    have st1:=qag ht1 (HO.tup [V.int (qb7 (top*qbv m) (B*lead)).1,V.int (qb7 (top*qbv m) (B*lead)).2])
    have lzs:zs.length=l.length+1 - m.length:=by rw [N4.length,S4.ql]
    have rlen:=S4.len
    refine ⟨zs,st1 _ _ hw4,r.length - m.length,qhF rfl (by omega),?_⟩
    have hn:Nums _ (zs.set (r.length - m.length) (V.ref t1)) (qs.set (r.length - m.length) (qb7 (top*qbv m) (B*lead))):=(Nums.set ⟨t1,rfl,qai⟩ (r.length - m.length) (N4.tp (tpS st1))).tp (Tp.updL (ys:=zs.set (r.length - m.length) (V.ref t1)) (st1 _ _ hw4))
    have s5:Same H2 (upd (upd H4 t1 (HO.tup [V.int (qb7 (top*qbv m) (B*lead)).1,V.int (qb7 (top*qbv m) (B*lead)).2])) w (HO.lst (zs.set (r.length - m.length) (V.ref t1)))):=fun b o h=>Kp.upd b o (qaH h w2) (st1 b o (s4 b o h))
    have hc5:upd (upd H4 t1 (HO.tup [V.int (qb7 (top*qbv m) (B*lead)).1,V.int (qb7 (top*qbv m) (B*lead)).2])) w (HO.lst (zs.set (r.length - m.length) (V.ref t1))) c=some (HO.lst (r.map V.int)):=by rw [qaJ cw];exact st1 _ _ hc4
    have hw5:upd (upd H4 t1 (HO.tup [V.int (qb7 (top*qbv m) (B*lead)).1,V.int (qb7 (top*qbv m) (B*lead)).2])) w (HO.lst (zs.set (r.length - m.length) (V.ref t1))) w=some (HO.lst (zs.set (r.length - m.length) (V.ref t1))):=qai
    generalize upd (upd H4 t1 (HO.tup [V.int (qb7 (top*qbv m) (B*lead)).1,V.int (qb7 (top*qbv m) (B*lead)).2])) w (HO.lst (zs.set (r.length - m.length) (V.ref t1)))=H5 at hn s5 hc5 hw5 ⊢
    have hr25:=s5 _ _ hr2
    have ha25:=s5 _ _ ha2
    unfold qeW qeV
    rwa [hc5,lt,hr25]
    have sh0:(0:Int)<((Int.gcd top lead:Nat):Int):=by have:=Int.gcd_pos_of_ne_zero_right top lne;omega
    have shl:((Int.gcd top lead:Nat):Int)∣lead:=Int.gcd_dvd_right top lead
    have sht:((Int.gcd top lead:Nat):Int)∣top:=Int.gcd_dvd_left top lead
    have hf:=Int.ediv_mul_cancel shl
    have hw':=Int.ediv_mul_cancel sht
    generalize hshe:((Int.gcd top lead:Nat):Int)=sh at sh0 shl sht hf hw' ⊢
    have bfe:=qn8 shl bld
    have bwe:=qn8 sht btop
    have sfd:lead.fdiv sh=lead / sh:=Int.fdiv_eq_ediv_of_nonneg lead (Int.le_of_lt sh0)
    have stf:top.fdiv sh=top / sh:=Int.fdiv_eq_ediv_of_nonneg top (Int.le_of_lt sh0)
    rw [sfd,stf]
    generalize hfe:lead / sh=f at hf bfe sfd ⊢
    generalize top / sh=wt at hw' bwe stf ⊢
    refine ⟨Int.ne_of_gt sh0,Int.ne_of_gt sh0,?_⟩
    refine ⟨r,qa6 m,r.length - m.length,rfl,rfl,ha25,by omega,by omega,bfe.mono (by omega),bwe.mono (by decide),rb4,fun z hz=>(cb2 z hz).mono (by omega),fun c1 r1 H6 s6 hc6 t6 e6=>?_⟩
    have fne:f≠0:=fun z=>lne (by rw [← hf,z,Int.zero_mul])
    unfold qeU qeT
    have l6:r1.length≤1000:=by
      have:r1.length≤1000:=qr8 (b:=[]) t6 1000 fun k hk=>by
        rw [e6 k,qaA (a:=r) (by omega)]
        unfold upS
        split
        · rw [qaA (a:=qa6 m) (by omega)];omega
        · omega
      exact this
    rwa [hc6,sfd]
    refine ⟨Int.ne_of_gt sh0,qmN BBd bfe,r1,rfl,l6,fun g H7 s7 gn gB gr _=>?_⟩
    have g0:0<g:=by
      rcases Int.lt_or_eq_of_le gn with z | z
      · exact z
      · exact absurd (Int.zero_dvd.mp (z ▸ gB)) (Int.mul_ne_zero S4.B0 fne)
    have hc7:=s7 _ _ hc6
    obtain ⟨S5,lt5⟩:=S4.step hm nm m1 cb2 bE rfl hrl hlead.symm htop.symm sh0 hf hw' t6 e6 g0 gB gr
    have r1l:(r1.map (· / g)).length=r1.length:=List.length_map ..
    unfold qeS qeR
    rwa [hc7]
    refine ⟨r1,rfl,.inl g0,by omega,fun c2 hc2=>⟨g0,?_⟩⟩
    have sc2:=qag hc2 (HO.lst ((r1.map (· / g)).map V.int))
    have s67:=s6.trans s7
    have s56:=s67.trans sc2
    exact ⟨r1.length,lt5,s5.trans s56,r1.map (· / g),rfl,(qaH (s67 _ _ hw5) hc2).symm,_,s56 _ _ hw5,_,hn.tp (tpS s56),S5,r1l.symm⟩
  · have hrl:r.length<m.length:=by rw [List.length_map] at cc;omega
    obtain ⟨N,NN0,NB,Nb,Nq⟩:=S4.N
    have BBd:Bd 400000 B:=(qdz (Int.ne_of_gt NN0) NB Nb).mono (Nat.le_trans (Nat.add_le_add_left (Nat.mul_le_mul_right _ (Nat.sub_le _ _)) _) hc)
    have qlen:=S4.ql
    unfold qhg
    rwa [hw4]
    refine ⟨qs,N4,by omega,fun t1 z1 H5 s5 h5 n5=>?_⟩
    have hc5:=s5 _ _ hc4
    rwa [hc5]
    have hlen4:=S4.len
    refine ⟨r,rfl,S4.B0,by omega,fun t2 z2 H6 s6 h6 n6=>⟨sz (by simp),fun t ht=>?_⟩⟩
    have st:=qag ht (HO.tup [V.ref t1,V.ref t2])
    have rlow:qap (r.map fun n=>qb7 n B):=fun q hq=>by obtain ⟨n,_,rfl⟩:=List.mem_map.mp hq;exact qdb S4.B0
    have rpv:∀ k,pwo (r.map fun n=>qb7 n B) k=(r.getD k 0:Rat) / (B:Rat):=fun k=>by
      unfold pwo qa9
      rw [List.getD_eq_getElem?_getD,List.getD_eq_getElem?_getD,List.getElem?_map]
      cases r[k]? with
      | none=>exact (zdiv _).trans (zdiv _).symm
      | some z=>exact qdO S4.B0
    have Bo:=S4.rb
    have r0:r.length+1 - m.length=0:=by omega
    rw [r0,Nat.sub_zero] at Bo Nb
    have bB:Bd (c0+(l.length+1 - m.length)*d0) B:=qdz (Int.ne_of_gt NN0) NB Nb
    obtain ⟨RO,RB⟩:=qkd S4.B0 Bo
    obtain ⟨TO,TB⟩:=qq9 RO RB
    refine k t t1 t2 _ (trim qs) (trim (r.map fun n=>qb7 n B)) ((((s12.trans s4).trans s5).trans s6).trans st) qai (Pl.same ⟨z1,h5,n5⟩ (s6.trans st)) (Pl.same ⟨z2,h6,n6⟩ st) (fun q hq=>S4.low q (qb1 hq)) (qeh _) ?_ ⟨fun q hq=>rlow q (qb1 hq),qeh _,_,TO,bB.le (by omega),TB⟩ ?_ fun k=>?_
    · have:=qda qs
      omega
    · have:=qda (r.map fun n=>qb7 n B)
      rw [List.length_map] at this
      omega
    · obtain ⟨d,hd⟩:∃ d,l.length+1 - m.length=(trim qs).length+d:=⟨l.length+1 - m.length - (trim qs).length,by have:=qda qs;omega⟩
      rw [qfR rlow,rpv,S4.idn k,qlL (fun i=>(qfR S4.low i).symm),hd,qnN (fun i hi=>qbd hi)]
      rfl
theorem MR.trans {n M L:Nat→Rat} (h1:MR n M) (h2:MR M L):MR n L:=by
  obtain ⟨A,hA⟩:=h1
  obtain ⟨B,hB⟩:=h2
  exact ⟨qaQ B A,fun k=>by rw [qaw,← qas hA,hB k]⟩
theorem MR.add {n F G L:Nat→Rat} (h1:MR n F) (h2:MR n G) (h:∀ k,L k=F k+G k):MR n L:=by
  obtain ⟨A,hA⟩:=h1
  obtain ⟨B,hB⟩:=h2
  exact ⟨qbj A B,fun k=>by rw [qaz,← hA k,← hB k,h k]⟩
theorem MR.smul {n F L:Nat→Rat} (h1:MR n F) (c:Rat) (h:∀ k,L k=c*F k):MR n L:=by
  obtain ⟨A,hA⟩:=h1
  exact ⟨A.map (c*·),fun k=>by rw [qav,← hA k,h k]⟩
theorem MR.sub {n F G L:Nat→Rat} (h1:MR n F) (h2:MR n G) (h:∀ k,L k=F k - G k):MR n L:=
  h1.add (h2.smul (-1) (L:=fun k=>-1*G k) fun _=>rfl) fun k=>by rw [h k];grind
theorem ql3 (F G:Nat→Rat) (k:Nat):∀ n,cv F G n k=cvL ((List.range n).map F) G k
  | 0=>rfl
  | n+1=>by
    show cv F G n k+(if n≤k then F n*G (k - n) else 0)=_
    rw [ql3 F G k n,List.range_succ,List.map_append,List.map_singleton,qbu,List.length_map,List.length_range]
    unfold upS
    by_cases hk:n≤k
    · rw [if_pos hk,if_pos hk]
    · rw [if_neg hk,if_neg hk];grind
theorem qsc {F:Nat→Rat} {n:Nat} (h:∀ i,n≤i→F i=0) (k:Nat):F k=cvL ((List.range n).map F) qcb k:=by
  rw [qce,List.getD_eq_getElem?_getD,List.getElem?_map]
  by_cases hk:k<n
  · rw [List.getElem?_range hk];rfl
  · rw [List.getElem?_eq_none (by rw [List.length_range];omega),h k (by omega)];rfl
theorem MR.len {g h:List Int} (lg:Lz g) (lh:Lz h) (m:MR (pwo (mnc g)) (pwo (mnc h))):g.length≤h.length:=by
  rcases Nat.lt_or_ge h.length g.length with y | y
  · exfalso
    have g0:=lg.1
    have one:∀ {x:List Int},Lz x→pwo (mnc x) (x.length - 1)=1:=fun {x} lx=>by unfold pwo;rw [qjr lx];unfold val;show ((1:Int):Rat) / ((1:Int):Rat)=1;grind
    have z:=MR.short (n:=g.length - 1) (by rw [one lg];decide) (fun i hi=>qbd (by rw [qcl];omega)) m (fun k hk=>qbd (by rw [qcl];omega)) (h.length - 1)
    rw [one lh] at z
    exact absurd z (by decide)
  · exact y
theorem Gq.mono {b c b' c':Nat} {l:List Nu} (G:Gq b c l) (h1:b≤b') (h2:c≤c'):Gq b' c' l:=by
  obtain ⟨x,y,M,O,bM,bz⟩:=G
  exact ⟨x,y,M,O,bM.mono h2,fun z hz=>(bz z hz).mono h1⟩
theorem qke {T:List Nu} {b c:Nat} (hT:qap T) (nT:Nz T) {M:Int} (M0:0<M) (bM:Bd c M) {N:Nat→Int} (h:∀ k,pwo T k=(N k:Rat) / (M:Rat)) (hN:∀ k,Bd b (N k)):Gq b c T:=by
  have key:∀ q∈T,∃ k,q.2∣M∧q.1*(M / q.2)=N k:=fun q hq=>by
    obtain ⟨i,hi,rfl⟩:=List.getElem_of_mem hq
    have e:qa9 T i=T[i]:=by unfold qa9;rw [List.getD_eq_getElem?_getD,List.getElem?_eq_getElem hi];rfl
    have hl:=hT _ hq
    have v:=h i
    unfold pwo at v
    rw [e] at v
    exact ⟨i,qk7 hl (qhM (Int.ne_of_gt hl.pos) (Int.ne_of_gt M0) v)⟩
  refine ⟨hT,nT,M,⟨M0,fun q hq=>?_⟩,bM,fun z hz=>?_⟩
  · obtain ⟨k,a,_⟩:=key q hq;exact a
  · obtain ⟨q,hq,rfl⟩:=List.mem_map.mp hz
    obtain ⟨k,_,a⟩:=key q hq
    rw [a];exact hN k
theorem qpx (h:qdR K vs H Q E):qkX K { nx:=fun _ H'=>Q .non H',rt:=Q } (L2.start ["one", "other"] vs) H:=by
  obtain ⟨p,q,a,b,c,d,rfl,hp,hq,b0,d0,ba,bb,bc,bd,k⟩:=h
  unfold qkX
  rwa [hp,hq]
  exact ⟨qeN ba bc,qeN bb bd,Int.ne_of_gt (Int.mul_pos b0 d0),fun r hr=>by rw [qfB (Int.mul_pos b0 d0)];exact k r hr⟩
theorem qra (h:qe9 K vs H Q E):qnZ K { nx:=fun _ H'=>Q .non H',rt:=Q } (L2.start ["one", "other"] vs) H:=by
  obtain ⟨p,q,a,b,c,d,rfl,hp,hq,b0,c0,ba,bb,bc,bd,k⟩:=h
  unfold qnZ
  rwa [hp,hq]
  exact ⟨qeN ba bd,qeN bb bc,Int.mul_ne_zero (Int.ne_of_gt b0) c0,k⟩
theorem qkf (h:qbO K vs H Q E):qfa K { nx:=fun _ H'=>Q .non H',rt:=Q } (L2.start ["row", "other", "result", "place", "whole", "step", "factor"] vs) H:=by
  obtain ⟨p,q,ns,ms,b,d,rfl,hp,hq,bn,bm,b9,d9,ln,lm,k⟩:=h
  unfold qfa
  rwa [hp,hq]
  have non:∀ xs:List Int,((!(List.map V.int xs).isEmpty)=false)↔xs.length=0:=fun xs=>by cases xs <;> simp
  simp only [non]
  refine qc5 (fun c=>?_) (fun c=>qc5 (fun c2=>?_) (fun c2=>?_))
  · exact ⟨sz (by decide),fun r hr=>k r _ (qag hr _) (by rw [if_pos (.inl c)];exact qai)⟩
  · exact ⟨sz (by decide),fun r hr=>k r _ (qag hr _) (by rw [if_pos (.inr c2)];exact qai)⟩
  rw [if_neg (by omega)] at k
  refine ⟨sz (by decide),fun a ha=>?_⟩
  have sa:=qag ha (HO.lst [V.int 0])
  have hpa:=sa _ _ hp
  have hqa:=sa _ _ hq
  rwa [hpa,hqa]
  rw [List.length_map,List.length_map]
  have eL:((ns.length:Int)+(ms.length:Int) - 1).toNat=ns.length+ms.length - 1:=by omega
  rw [eL,qjj]
  refine ⟨by omega,by omega,sz (by omega),fun w hw=>?_⟩
  generalize hLL:ns.length+ms.length - 1=L at hw ⊢
  have sw:=qag hw (HO.lst (qcI L fun _=>0))
  have w0:H w=none:=by
    cases e:H w with
    | none=>rfl
    | some o=>have z:=sa _ _ e;rw [hw] at z;cases z
  refine ⟨⟨_,SqL.of (sw _ _ hpa)⟩,ForJ.enumL (xs:=ns.map V.int) (fun i σ H'=>∃ x1 x2 x3 x4:Option V,σ=[some (.ref p),some (.ref q),some (.ref w),x1,x2,x3,x4]∧Same H H'∧H' w=some (.lst (qcI L fun k=>ps ns ms i k)))
    ⟨none,none,none,none,rfl,sa.trans sw,qai⟩ ?_ ?_ ?_⟩
  · rintro i σ H' _ ⟨_,_,_,_,_,s1,_⟩
    exact SqL.of (s1 _ _ hp)
  · rintro i x pp σ H1 hi ⟨x1,x2,x3,x4,rfl,s1,hw1⟩ hpp
    rw [List.getElem?_map] at hi
    cases en:ns[i]? with
    | none=>rw [en] at hi;cases hi
    | some z=>
      rw [en] at hi
      obtain rfl:V.int z=x:=Option.some.inj hi
      have il:i<ns.length:=(List.getElem?_eq_some_iff.mp en).1
      have zd:ns.getD i 0=z:=by rw [List.getD_eq_getElem?_getD,en];rfl
      have sp:=qag hpp (HO.tup [V.int (i:Int),V.int z])
      rwa []
      refine qc5 (fun c3=>?_) (fun c3=>?_)
      · refine ⟨⟨_,SqL.of (sp _ _ (s1 _ _ hq))⟩,ForJ.enumL (xs:=ms.map V.int) (fun j σ H'=>∃ x3 x4:Option V,σ=[some (.ref p),some (.ref q),some (.ref w),some (.int (i:Int)),some (.int z),x3,x4]∧Same H H'∧H' w=some (.lst (qcI L fun k=>in2 ns ms i j k)))
          ⟨x3,x4,rfl,s1.trans sp,by rw [sp _ _ hw1];exact congrArg (fun l=>some (HO.lst l)) (qdD fun k _=>(qpf ns ms i k))⟩ ?_ ?_ ?_⟩
        · rintro j σ H' _ ⟨_,_,_,s2,_⟩
          exact SqL.of (s2 _ _ hq)
        · rintro j y pq σ H2 hj ⟨y3,y4,rfl,s2,hw2⟩ hpq
          rw [List.getElem?_map] at hj
          cases em:ms[j]? with
          | none=>rw [em] at hj;cases hj
          | some u=>
            rw [em] at hj
            obtain rfl:V.int u=y:=Option.some.inj hj
            have jl:j<ms.length:=(List.getElem?_eq_some_iff.mp em).1
            have ud:ms.getD j 0=u:=by rw [List.getD_eq_getElem?_getD,em];rfl
            have sq:=qag hpq (HO.tup [V.int (j:Int),V.int u])
            have hw3:=sq _ _ hw2
            rwa [hw3]
            have kl:i+j<L:=by omega
            refine ⟨_,qek (by omega) (qbL _ kl),qeN ((bn z (List.mem_of_getElem? en)).mono (by omega)) ((bm u (List.mem_of_getElem? em)).mono (by omega)),_,rfl,i+j,?_,fun b o h=>Kp.upd b o (qaH h w0) (sq b o (s2 b o h)),?_⟩
            · rw [qbT];exact qhF (by omega) kl
            · refine qeK kl ?_ fun k _ hk=>?_
              · rw [qlI,if_pos rfl,zd,ud]
              · rw [qlI,if_neg hk]
        · rintro σ H2 ⟨y3,y4,rfl,s2,hw2⟩
          rw [List.length_map] at hw2
          exact ⟨_,_,_,_,rfl,s2,hw2⟩
      · refine ⟨s1.trans sp,?_⟩
        rw [sp _ _ hw1]
        refine congrArg (fun l=>some (HO.lst l)) (qdD fun k _=>?_)
        have z0:z=0:=Decidable.not_not.mp c3
        show ps ns ms i k+_=ps ns ms i k
        rw [zd,z0]
        simp
  · rintro σ H1 ⟨x1,x2,x3,x4,rfl,s1,hw1⟩
    rwa []
    rw [List.length_map] at hw1
    subst hLL
    exact k w H1 s1 hw1
theorem qmr (h:qa4 K vs H Q E):qhf K { nx:=fun _ H'=>Q .non H',rt:=Q } (L2.start ["P", "Q", "one", "other"] vs) H:=by
  obtain ⟨p,q,xs,ys,l,m,b,c,d,e,rfl,hp,hq,hN,hM,Gl,Gm,ll,lm,b9,c9,d9,e9,k⟩:=h
  unfold qhf
  obtain ⟨n1,B1b,t1⟩:=Gl.clr
  obtain ⟨n2,B2b,t2⟩:=Gm.clr
  have O1:=qbe Gl.low
  have O2:=qbe Gm.low
  rwa [hp,hq]
  refine ⟨l,hN,Gl.low,qbv l,O1,B1b.mono (by omega),fun q hq=>(t1 q hq).mono (by omega),by omega,fun r a H1 s1 hr ha=>?_⟩
  have hq1:=s1 _ _ hq
  rwa [hq1]
  refine ⟨m,hM.tp (tpS s1),Gm.low,qbv m,O2,B2b.mono (by omega),fun q hq=>(t2 q hq).mono (by omega),by omega,fun r2 a2 H2 s2 hr2 ha2=>?_⟩
  have hr':=s2 _ _ hr
  have ha':=s2 _ _ ha
  rwa [hr',hr2]
  have m1:(qa6 l).length=l.length:=by unfold qa6;rw [List.length_map]
  have m2:(qa6 m).length=m.length:=by unfold qa6;rw [List.length_map]
  refine ⟨qa6 l,ha',qa6 m,ha2,b,n1,d,n2,by omega,by omega,by omega,by omega,fun w H3 s3 hw=>?_⟩
  have hr3:=s3 _ _ hr'
  have hr23:=s3 _ _ hr2
  rwa [hr3,hr23]
  have BB:0<qbv l*qbv m:=Int.mul_pos O1.1 O2.1
  refine ⟨qeN (B1b.mono (by omega)) (B2b.mono (by omega)),_,hw,Int.ne_of_gt BB,?_,fun r4 zs H4 s4 h4 hz=>?_⟩
  · split
    · exact Nat.zero_le _
    · rw [List.length_map,List.length_range];omega
  have e1:trim (qp2 l m (l.length+m.length))=trim (List.map (fun n=>qb7 n (qbv l*qbv m)) (if (qa6 l).length=0∨(qa6 m).length=0 then [] else List.map (fun k=>ps (qa6 l) (qa6 m) (qa6 l).length k) (List.range ((qa6 l).length+(qa6 m).length - 1)))):=by
    rw [m1,m2,show (fun n=>qb7 n (qbv l*qbv m))=fun n=>red n (qbv l*qbv m) from funext fun n=>qfB BB]
    exact qnK BB m2
  have lo:qap (qp2 l m (l.length+m.length)):=qpg O1 O2
  have pv:∀ k,pwo (trim (qp2 l m (l.length+m.length))) k=cv (pwo l) (pwo m) l.length k:=fun k=>by
    rw [qfR lo];exact qr1 Gl.low Gm.low O1 O2 k
  rw [← e1] at hz
  refine k r4 _ H4 (((s1.trans s2).trans s3).trans s4) ⟨zs,h4,hz⟩ ?_ ?_ pv
  · refine qke (fun q hq=>lo q (qb1 hq)) (qeh _) BB (B1b.mul B2b) (N:=fun k=>ps (qa6 l) (qa6 m) l.length k) (fun k=>?_) fun k=>qrY n1 n2 _ _
    rw [pv];exact (qqJ Gl.low Gm.low O1 O2 _ _).symm
  · rw [e1]
    refine Nat.le_trans (qda _) ?_
    rw [List.length_map]
    split
    · exact Nat.zero_le _
    · rw [List.length_map,List.length_range];omega
theorem qk8 (h:qbP K vs H Q E):qfV K { nx:=fun _ H'=>Q .non H',rt:=Q } (L2.start ["P", "c"] vs) H:=by
  obtain ⟨p,c,xs,l,a,b,rfl,hp,hc,hN,hl,b0,ba,bb,bl,ll,k⟩:=h
  unfold qfV
  rwa [hp]
  have lx:=hN.length
  refine ⟨⟨_,SqT.of hp⟩,CompJ.tup (xs:=xs) (fun i ys H'=>i≤xs.length∧Same H H'∧Nums H' ys ((l.take i).map fun q=>nmul q (a,b))) ⟨Nat.zero_le _,Same.refl H,trivial⟩ ?_ ?_ ?_⟩
  · rintro i ys H' ⟨h1,s1,hZ⟩
    exact ⟨h1,sz (by rw [hZ.length,List.length_map,List.length_take];omega),s1 _ _ hp⟩
  · rintro i x ys H' hi ⟨h1,s1,hZ⟩
    obtain ⟨z,hz,p1,rfl,hp1⟩:=hN.get hi
    have hi2:i<xs.length:=(List.getElem?_eq_some_iff.mp hi).1
    have hp1':=s1 _ _ hp1
    have hc1:=s1 _ _ hc
    have zl:=hl z (List.mem_of_getElem? hz)
    have zb:=bl z (List.mem_of_getElem? hz)
    rwa [hp1',hc1]
    refine ⟨zl.pos,b0,zb.1,zb.2,ba,bb,fun r hr=>⟨by omega,s1.trans (qag hr _),?_⟩⟩
    rw [qbS _ hz]
    exact (hZ.tp (tpS (qag hr _))).append (Nums.one qfS)
  · rintro ys H' ⟨_,s1,hZ⟩ w hw
    have s2:=qag hw (HO.lst ys)
    rw [lx,List.take_length] at hZ
    rwa []
    exact ⟨_,hZ.tp (tpS s2),by rw [List.length_map];omega,fun r us H2 s3 hr hu=>k r us H2 ((s1.trans s2).trans s3) hr hu⟩
theorem qk9 (h:qaR K vs H Q E):qfX K { nx:=fun _ H'=>Q .non H',rt:=Q } (L2.start ["P", "Q"] vs) H:=by
  obtain ⟨p,q,xs,ys,l,m,b,c,d,e,rfl,hp,hq,hN,hM,Gl,Gm,m0,ll,lm,z1,z2,z3,z4,mr,k⟩:=h
  unfold qfX
  rwa [hp,hq]
  refine ⟨l,hN,m,hM,b,c,Gl,d,e,Gm,m0,ll,lm,z1,z2,z3,z4,fun t u v H1 qs rs s1 ht hu hv lq nq q9 Gr r9 eq=>?_⟩
  have z0:∀ k,pwo rs k=0:=by
    have mr2:MR (pwo m) (pwo rs):=mr.sub (qsX (P:=fun k=>cv (pwo qs) (pwo m) qs.length k) qs.length (fun k=>rfl)) fun k=>by have:=eq k;show pwo rs k=pwo l k - cv (pwo qs) (pwo m) qs.length k;grind
    refine fun k=>MR.short (qbz Gm.low Gm.nz m0) (fun i hi=>qbd (by omega)) mr2 (fun k hk=>qbd (by omega)) k
  rwa [ht]
  exact k u qs H1 s1 hu lq nq q9 fun k=>by rw [eq k,z0 k];grind
theorem ql4 (l:List Nu) (k:Nat):cvL (rw' l) qcb k=pwo l k:=(qsc (fun i hi=>qbd hi) k).symm
theorem qpy (l:List Nu) (g:Nat→Rat) (k:Nat):cv (pwo l) g l.length k=cvL (rw' l) g k:=ql3 _ _ k _
theorem qsd {L M G T B:Nat→Rat} {t b U W:List Rat} {n:Nat} (hT:∀ k,cvL t qcb k=T k) (hB:∀ k,cvL b qcb k=B k) (h0:G n≠0) (hG:∀ i,n<i→G i=0)
    (eL:∀ k,L k=cvL t G k) (eM:∀ k,M k=cvL b G k) (e:∀ k,G k=cvL U L k+cvL W M k):Cop T B:=by
  refine ⟨U,W,fun k=>?_⟩
  have z:=qkR h0 hG (A:=[1]) (B:=qbj (qaQ U t) (qaQ W b)) (fun k=>by
    rw [qaz,qaw,qaw,← qas eL,← qas eM,← e k]
    cases k with
    | zero=>rw [qat];grind
    | succ k=>rw [qao,qaD];grind) qcb k
  rw [qaz,qaw,qaw,qas hT,qas hB] at z
  rw [← z,qce]
  cases k with
  | zero=>rfl
  | succ k=>rfl
theorem Cop.scal {T B T' B':Nat→Rat} {s:Rat} (s0:s≠0) (h:Cop T B) (hT:∀ k,T' k=s*T k) (hB:∀ k,B' k=s*B k):Cop T' B':=by
  obtain ⟨U,W,e⟩:=h
  refine ⟨U.map (s⁻¹*·),W.map (s⁻¹*·),fun k=>?_⟩
  rw [qav,qav,qas hT,qas hB,qbl,qbl,e k]
  have:s⁻¹*s=1:=Rat.inv_mul_cancel s s0
  grind
theorem Cop.mr {T B n:Nat→Rat} (h:Cop T B) (h1:MR n T) (h2:MR n B):MR n qcb:=by
  obtain ⟨U,W,e⟩:=h
  obtain ⟨A,hA⟩:=h1
  obtain ⟨C,hC⟩:=h2
  exact ⟨qbj (qaQ U A) (qaQ W C),fun k=>by rw [qaz,qaw,qaw,← qas hA,← qas hC,e k]⟩
theorem qpz {B B':List Nu} (lb:qap B) (lb':qap B') (nb:Nz B) (nb':Nz B') (b0:B≠[]) (b0':B'≠[]) (o:qa9 B (B.length - 1)=(1,1)) (o':qa9 B' (B'.length - 1)=(1,1)) (h:MR (pwo B) (pwo B')) (h':MR (pwo B') (pwo B)):B=B':=by
  have len:∀ {B B':List Nu},qap B→qap B'→Nz B→Nz B'→B≠[]→B'≠[]→MR (pwo B) (pwo B')→B.length≤B'.length:=fun {B B'} lb lb' nb nb' b0 b0' h=>by
    rcases Nat.lt_or_ge B'.length B.length with c | c
    · exact absurd (MR.short (qbz lb nb b0) (fun i hi=>qbd (by omega)) h (fun k hk=>qbd (by omega)) (B'.length - 1)) (qbz lb' nb' b0')
    · exact c
  have e:B.length=B'.length:=Nat.le_antisymm (len lb lb' nb nb' b0 b0' h) (len lb' lb nb' nb b0' b0 h')
  have p0:0<B.length:=List.length_pos_iff.mpr b0
  refine qlK lb lb' nb nb' fun k=>?_
  have d:=MR.short (f:=fun k=>pwo B' k - pwo B k) (qbz lb nb b0) (fun i hi=>qbd (by omega)) (h.sub ⟨[1],fun k=>by
    cases k with
    | zero=>rw [qat];grind
    | succ k=>rw [qao,qaD];grind⟩ fun k=>rfl) (fun k hk=>by
      rcases Nat.lt_or_ge (B.length - 1) k with c | c
      · show pwo B' k - pwo B k=0
        rw [qbd (by omega),qbd (by omega)];grind
      · have ek:k=B.length - 1:=by omega
        show pwo B' k - pwo B k=0
        unfold pwo
        rw [ek,o,e,o'];grind) k
  have d:pwo B' k - pwo B k=0:=d
  grind
theorem qse {l m:List Nu} {g:List Int} (hl:qap l) (hm:qap m) (R:RC (co (qa6 l)) (co (qa6 m)) g):∃ U W:List Rat,∀ k,pwo (mnc g) k=cvL U (pwo l) k+cvL W (pwo m) k:=by
  obtain ⟨d,d0,U,W,hU⟩:=R.qi
  have d1:=qaG d0
  have l1:=qol hl
  have m1:=qol hm
  refine ⟨(U.map fun z:Int=>(z:Rat)).map (((co g (g.length - 1):Rat))⁻¹*(d:Rat)⁻¹*(((qbv l:Rat))⁻¹)⁻¹*·),(W.map fun z:Int=>(z:Rat)).map (((co g (g.length - 1):Rat))⁻¹*(d:Rat)⁻¹*(((qbv m:Rat))⁻¹)⁻¹*·),fun k=>?_⟩
  have e:(d:Rat)*(co g k:Rat)=((cvL U (co (qa6 l)) k:Int):Rat)+((cvL W (co (qa6 m)) k:Int):Rat):=by exact_mod_cast hU k
  rw [qiD l1 (qdw hl),qiD m1 (qdw hm)] at e
  rw [qav,qav,qeZ R.lz]
  generalize cvL (U.map fun z:Int=>(z:Rat)) (pwo l) k=x at e ⊢
  generalize cvL (W.map fun z:Int=>(z:Rat)) (pwo m) k=y at e ⊢
  generalize ((qbv l:Rat)⁻¹)⁻¹=u at e ⊢
  generalize ((qbv m:Rat)⁻¹)⁻¹=v at e ⊢
  have i:(d:Rat)⁻¹*(d:Rat)=1:=Rat.inv_mul_cancel _ d1
  have:(co g k:Rat)=(d:Rat)⁻¹*(u*x+v*y):=by rw [← e];grind
  rw [this];grind
theorem qla {l R0:List Nu} {g:List Int} {b n c:Nat} (hl:qap l) (lR:qap R0) (hb:∀ z∈qa6 l,Bd b z) (ln:l.length≤n) (hn:n<2 ^ c) (lg:Lz g) (P:Prim g) (m:MQ (co g) (co (qa6 l))) (e:∀ k,pwo l k=cv (pwo R0) (pwo (mnc g)) R0.length k) :
    ∃ A:List Int,(∀ k,Bd (b+n*(2*c+4)) (co A k))∧∀ k,pwo R0 k=((co g (g.length - 1):Rat))*(co A k:Rat)*((qbv l:Rat))⁻¹:=by
  obtain ⟨A,hA⟩:=gauss P m
  refine ⟨A,qq0 hb (by rw [qaP];exact ln) hn lg hA,fun k=>?_⟩
  have g1:=qaG lg.2
  have top:pwo (mnc g) (g.length - 1)≠0:=by rw [qeZ lg];grind
  have hi:∀ i,g.length - 1<i→pwo (mnc g) i=0:=fun i hi=>qbd (by rw [qcl];omega)
  have z:=qkR top hi (A:=rw' R0) (B:=(A.map fun z:Int=>(z:Rat)).map ((co g (g.length - 1):Rat)*((qbv l:Rat))⁻¹*·)) (fun k=>by
    rw [← qpy,← e k,qav,qdw hl,hA k,qiD (qfh lg) (qeZ lg)]
    grind) qcb k
  rw [ql4,qav,qce,List.getD_eq_getElem?_getD,List.getElem?_map] at z
  rw [z]
  unfold co
  rw [List.getD_eq_getElem?_getD (l:=A)]
  cases A[k]? with
  | none=>show _*(0:Rat)=_*((0:Int):Rat)*_;grind
  | some v=>show _*(v:Rat)=_*(v:Rat)*_;grind
theorem ql5 {l:List Nu} {a b:Int} (hl:qap l) (b0:0<b) (k:Nat):pwo (l.map fun q=>nmul q (a,b)) k=val (a,b)*pwo l k:=by
  unfold pwo qa9
  rw [List.getD_eq_getElem?_getD,List.getD_eq_getElem?_getD,List.getElem?_map]
  cases e:l[k]? with
  | none=>
    show val (0,1)=_*val (0,1)
    have:val (0,1)=0:=by unfold val;exact zdiv _
    rw [this];grind
  | some q=>
    show val (nmul q (a,b))=_*val q
    rw [qfp (hl q (List.mem_of_getElem? e)).pos b0];grind
theorem ql6 {l:List Nu} {a b:Int} (hl:qap l) (b0:0<b):qap (l.map fun q=>nmul q (a,b)):=fun q hq=>by
  obtain ⟨z,hz,rfl⟩:=List.mem_map.mp hq
  exact qfo (hl z hz).pos b0
theorem Bx.same {H H':Hp} {p:Addr} (h:Bx H p) (s:Same H H'):Bx H' p:=let ⟨z,e⟩:=h;⟨z,s _ _ e⟩
theorem Bx.tp {H H':Hp} {p:Addr} (h:Bx H p) (k:Kp p H H'):Tp H H':=let ⟨_,e⟩:=h;k.tp e
theorem qpA {H:Hp} {p:Addr} (h:H p=some (.tup [.int 1,.int 1])):isN H (.ref p) (1,1):=⟨p,rfl,h⟩
theorem qon:Low 1 1:=⟨by decide,by decide⟩
theorem bdc {n:Nat} {x:Int} (h:x.natAbs<2 ^ n):Bd n x:=h
theorem qrb (h:qen K vs H Q E):qn1 K { nx:=fun _ H'=>Q .non H',rt:=Q } (L2.start ["_law_script", "_law_k"] vs) H:=by
  obtain ⟨s,ns,z,rfl,hs,z0,k⟩:=h
  unfold qn1
  rwa []
  refine ⟨_,hs,qc5 (fun c=>?_) (fun _=>k 0)⟩
  rw [List.length_map] at c
  obtain ⟨v,hv⟩:=qpn (ns:=ns) (k:=z) z0 c
  exact ⟨_,hs,_,hv,k v⟩
theorem qoo (h:qb9 K vs H Q E):qji K { nx:=fun _ H'=>Q .non H',rt:=Q } (L2.start ["_law_script", "_law_k", "_law_cell", "_law_number", "_law_wide", "_law_j"] vs) H:=by
  obtain ⟨s,ns,z,rfl,hs,z0,z9,k⟩:=h
  unfold qji
  rwa []
  refine ⟨ns,hs,z0,fun cell=>?_⟩
  unfold qiz
  rwa []
  have go:qfY K { nx:=fun x H'=>Q V.non H',rt:=Q } [some (V.ref s),some (V.int z),some (V.int cell),none,none,none] H:=by
    have L:∀ {x y:Int},0≤x→x<4611686018427387904→IntMulOk x y:=fun h1 h2=>qti (by omega) (by omega)
    have RR:∀ {x y:Int},0≤y→y<4611686018427387904→IntMulOk x y:=fun h1 h2=>qth (by omega) (by omega)
    unfold qfY
    rwa []
    refine ⟨by decide,L (by decide) (by decide),RR (by decide) (by decide),by decide,?_⟩
    have n0:=Int.emod_nonneg ((cell % 2147483647+7919*z+11)*48271) (show (2147483629:Int)≠0 by decide)
    have n1:=Int.emod_lt_of_pos ((cell % 2147483647+7919*z+11)*48271) (show (0:Int)<2147483629 by decide)
    generalize (cell % 2147483647+7919*z+11)*48271 % 2147483629=num at n0 n1 ⊢
    unfold qiy
    rwa []
    unfold qix
    rwa []
    refine ⟨by decide,by decide,ForR.by (fun i σ H'=>∃ (x y:Int) (v:Option V),σ=[some (V.ref s),some (V.int z),some (V.int cell),some (V.int x),some (V.int y),v]∧H'=H∧0≤x∧x<2147483629) ⟨num,0,none,rfl,rfl,n0,n1⟩ ?_ ?_⟩
    · rintro i σ H' hi ⟨x,y,v,rfl,rfl,x0,x1⟩
      have i9:i<9:=hi
      unfold qfA
      rwa []
      refine ⟨L x0 (by omega),RR (by omega) (by omega),by decide,?_⟩
      unfold qfz
      rwa []
      refine ⟨RR (by decide) (by decide),Int.emod_nonneg _ (by decide),?_⟩
      have:=Int.emod_lt_of_pos (x*x+69621*(0+(i:Int))+7) (show (0:Int)<1999999973 by decide)
      omega
    · rintro σ H' ⟨x,y,v,rfl,rfl,x0,x1⟩
      unfold qiw
      rwa []
      exact ⟨sz (by decide),fun r hr=>k r _ hr⟩
  refine ⟨ns,hs,by decide,fun first=>⟨by decide,qc5 (fun _=>⟨⟨by decide,by decide,by decide⟩,qc5 (fun _=>⟨sz (by decide),fun r hr=>k r cell hr⟩) (fun _=>go)⟩) (fun _=>go)⟩⟩
theorem qms (h:qaL K vs H Q E):qhy K { nx:=fun _ H'=>Q .non H',rt:=Q } (L2.start ["_law_rest_here", "_law_many", "_law_digit_here"] vs) H:=by
  obtain ⟨p,m,rfl,⟨z,hp⟩,m0,k⟩:=h
  unfold qhy
  rwa [hp]
  exact ⟨_,rfl,z,rfl,m0,_,rfl,z,rfl,m0,0,rfl,k _ _ (Int.emod_nonneg _ (by omega)) (Int.emod_lt_of_pos _ m0) ⟨_,qai⟩ Kp.upd⟩
theorem qpB (n:Int):qb7 n 1=(n,1):=by
  refine qei (qdb (by decide)) ⟨show (0:Int)<1 by decide,by simp⟩ ?_
  rw [qdO (by decide)];rfl
theorem qop (h:qcU K vs H Q E):qjf K { nx:=fun _ H'=>Q .non H',rt:=Q } (L2.start ["P", "Q", "factor"] vs) H:=by
  obtain ⟨p,q,l,m,rfl,⟨xs,hp,hN⟩,⟨ys,hq,hM⟩,ll,lm,nm,m0,bl,bm,l9,m9,k⟩:=h
  have p1:0<m.length:=List.length_pos_iff.mpr m0
  obtain ⟨v,hv,pv,rfl,hpv⟩:=hM.at (i:=m.length - 1) (by omega) (0,1)
  have at1:atI ys (-1)=some (V.ref pv):=atI_last (by rw [hM.length];exact p1) (by rw [hM.length];exact hv)
  have lL:Low (qa9 m (m.length - 1)).1 (qa9 m (m.length - 1)).2:=qaM lm _
  have tn:=qok nm m0
  have mL:qa9 m (m.length - 1)∈m:=by
    unfold qa9
    rw [List.getD_eq_getElem?_getD,List.getElem?_eq_getElem (by omega)]
    exact List.getElem_mem _
  have bL:=bm _ mL
  have hpv:H pv=some (HO.tup [V.int (qa9 m (m.length - 1)).1,V.int (qa9 m (m.length - 1)).2]):=hpv
  generalize hla:qa9 m (m.length - 1)=la at hpv lL tn bL k
  unfold qjf
  rwa []
  refine ⟨sz (by decide),fun w hw=>?_⟩
  have s3:=qag hw (HO.tup [V.int 1,V.int 1])
  have hq3:=s3 _ _ hq
  have hpv3:=s3 _ _ hpv
  have hw3:upd H w (HO.tup [V.int 1,V.int 1]) w=some (HO.tup [V.int 1,V.int 1]):=qai
  generalize upd H w (HO.tup [V.int 1,V.int 1])=H3 at s3 hq3 hpv3 hw3 ⊢
  refine ⟨_,hq3,_,at1,_,rfl,?_⟩
  rwa [hpv3,hw3]
  have b1:Bd 60000000 1:=(bdc (n:=1) (by decide)).mono (by decide)
  refine ⟨by decide,tn,b1,b1,bL.1.mono (by decide),bL.2.mono (by decide),fun f hf=>?_⟩
  rw [Int.one_mul,Int.one_mul]
  have fl:=qdb (n:=la.2) tn
  have fb:=qkO tn bL.2 bL.1
  have fv:val (qb7 la.2 la.1)*val la=1:=by
    have z1:=qaG tn
    have z2:=qaG (Int.ne_of_gt lL.pos)
    rw [qdO tn];unfold val;grind
  generalize qb7 la.2 la.1=fa at fl fb fv ⊢
  have s4:=qag hf (HO.tup [V.int fa.1,V.int fa.2])
  have hf4:upd H3 f (HO.tup [V.int fa.1,V.int fa.2]) f=some (HO.tup [V.int fa.1,V.int fa.2]):=qai
  generalize upd H3 f (HO.tup [V.int fa.1,V.int fa.2])=H4 at s4 hf4 ⊢
  have s34:=s3.trans s4
  have hp4:=s34 _ _ hp
  rwa [hp4,hf4]
  refine ⟨l,hN.tp (tpS s34),ll,fl.pos,fb.1.mono (by decide),fb.2.mono (by decide),fun q hq=>⟨(bl q hq).1.mono (by decide),(bl q hq).2.mono (by decide)⟩,by omega,fun u us H6 s6 hu nu=>?_⟩
  have s36:=s34.trans s6
  refine ⟨_,s36 _ _ hq,m,fa.1,fa.2,s6 _ _ hf4,hM.tp (tpS s36),lm,fl.pos,fb.1.mono (by decide),fb.2.mono (by decide),fun q hq=>⟨(bm q hq).1.mono (by decide),(bm q hq).2.mono (by decide)⟩,by omega,fun v vs H7 s7 hv nv=>⟨sz (by decide),fun t ht=>?_⟩⟩
  have st:=qag ht (HO.tup [V.ref u,V.ref v])
  exact k fa fl fv t u v _ ((s36.trans s7).trans st) qai ⟨us,st _ _ (s7 _ _ hu),(nu.tp (tpS s7)).tp (tpS st)⟩ ⟨vs,st _ _ hv,nv.tp (tpS st)⟩
theorem nadd_neg' (q r:Nu):nadd q (-r.1,r.2)=nsub q r:=by
  unfold nadd nsub
  congr 1
  show q.1*r.2 + -r.1*q.2=_
  grind
theorem qpC {q r:Nu} (h1:0<q.2) (h2:0<r.2):val (nsub q r)=val q - val r:=by
  rw [← nadd_neg',qi4 (r:=(-r.1,r.2)) h1 h2,qoj];grind
theorem qoq {f:Nu→Nu→Nu} {s:Int} (hf:∀ q r:Nu,0<q.2→0<r.2→Low (f q r).1 (f q r).2∧val (f q r)=val q+(s:Rat)*val r) (hs:s=1∨s = -1) {l m:List Nu} {M:Int} {b c:Nat} (hl:qap l) (hm:qap m) (O1:Ov l M) (O2:Ov m M) (bM:Bd c M) (b1:∀ z∈ovN l M,Bd b z) (b2:∀ z∈ovN m M,Bd b z) :
    Gq (b+1) c (trim (qpe f l m))∧(trim (qpe f l m)).length≤max l.length m.length∧∀ k,pwo (trim (qpe f l m)) k=pwo l k+(s:Rat)*pwo m k:=by
  have low:qap (qpe f l m):=fun q hq=>by
    obtain ⟨i,_,rfl⟩:=List.mem_map.mp hq
    exact (hf _ _ (qaM hl i).pos (qaM hm i).pos).1
  have pv:∀ k,pwo (trim (qpe f l m)) k=pwo l k+(s:Rat)*pwo m k:=fun k=>by
    rw [qfR low]
    rcases Nat.lt_or_ge k (max l.length m.length) with c | c
    · have e:qa9 (qpe f l m) k=f (qa9 l k) (qa9 m k):=by
        unfold qpe qa9
        rw [List.getD_eq_getElem?_getD,List.getElem?_map,List.getElem?_range c];rfl
      unfold pwo
      rw [e,(hf _ _ (qaM hl k).pos (qaM hm k).pos).2]
    · rw [qbd (by unfold qpe;rw [List.length_map,List.length_range];exact c),qbd (l:=l) (by omega),qbd (l:=m) (by omega)];grind
  refine ⟨qke (fun q hq=>low q (qb1 hq)) (qeh _) O1.1 bM (N:=fun k=>(ovN l M).getD k 0+s*(ovN m M).getD k 0) (fun k=>?_) fun k=>?_,?_,pv⟩
  · rw [pv,qgk hl O1,qgk hm O2];push_cast;grind
  · have h1:=qcz b1 k
    have h2:=qcz b2 k
    rcases hs with z | z
    · rw [z,Int.one_mul];exact h1.add h2
    · rw [z,show (ovN l M).getD k 0 + -1*(ovN m M).getD k 0=(ovN l M).getD k 0 - (ovN m M).getD k 0 by omega];exact h1.sub h2
  · refine Nat.le_trans (qda _) ?_
    unfold qpe;rw [List.length_map,List.length_range];exact Nat.le_refl _
theorem qrc (h:qha K vs H Q E):qnY K { nx:=fun _ H'=>Q .non H',rt:=Q } (L2.start ["one", "other"] vs) H:=by
  obtain ⟨p,q,a,b,c,d,rfl,hp,hq,b0,d0,ba,bb,bc,bd,k⟩:=h
  unfold qnY
  rwa [hp,hq]
  exact ⟨qeN ba bd,qeN bc bb,qeN bb bd,Int.ne_of_gt (Int.mul_pos b0 d0),fun r hr=>by rw [qfB (Int.mul_pos b0 d0)];exact k r hr⟩
theorem qpD (h:qfr K vs H Q E):qkW K { nx:=fun _ H'=>Q .non H',rt:=Q } (L2.start ["one", "other"] vs) H:=by
  obtain ⟨p,q,a,b,c,d,rfl,hp,hq,b0,d0,ba,bb,bc,bd,k⟩:=h
  unfold qkW
  rwa [hp,hq]
  exact ⟨qeN ba bd,qeN bc bb,qeN bb bd,Int.ne_of_gt (Int.mul_pos b0 d0),fun r hr=>by rw [qfB (Int.mul_pos b0 d0)];exact k r hr⟩
theorem qkg (h:qbg K vs H Q E):qfc K { nx:=fun _ H'=>Q .non H',rt:=Q } (L2.start ["P", "place"] vs) H:=by
  obtain ⟨p,xs,l,i,rfl,hp,hN,q⟩:=h
  unfold qfc
  rwa [hp]
  have lx:=hN.length
  refine qc5 (fun c=>?_) (fun c=>⟨sz (by decide),fun r hr=>q _ _ (qag hr _) ?_⟩)
  · obtain ⟨v,hv,hn⟩:=hN.at (i:=i) (by omega) (0,1)
    exact ⟨v,qkE hv,q v H (Same.refl H) hn⟩
  · rw [qi5 (by omega)]
    exact qfS (q:=(0,1))
theorem qfF {l:List Nu} {M:Int} {b c:Nat} (hl:qap l) (O:Ov l M) (bM:Bd c M) (hb:∀ z∈ovN l M,Bd b z) (i:Nat):Bd (b+1) (qa9 l i).1∧Bd (c+1) (qa9 l i).2:=by
  unfold qa9
  rw [List.getD_eq_getElem?_getD]
  cases e:l[i]? with
  | none=>exact ⟨qbV _,(bdc (n:=1) (by decide)).mono (by omega)⟩
  | some q=>
    have m:=List.mem_of_getElem? e
    exact ⟨(qqb hl O hb q m).mono (by omega),(qdz (Int.ne_of_gt O.1) (O.2 q m) bM).mono (by omega)⟩
theorem qmt (h:qci K vs H Q E):qhe K { nx:=fun _ H'=>Q .non H',rt:=Q } (L2.start ["P", "Q"] vs) H:=by
  obtain ⟨p,q,xs,ys,l,m,M,b,c,rfl,hp,hq,hN,hM,hl,hm,O1,O2,bM,b1',b2',b9,c9,ll,lm,k⟩:=h
  unfold qhe
  rwa [hp,hq]
  have lx:=hN.length
  have ly:=hM.length
  rw [qn7,lx,ly]
  refine ⟨by omega,by omega,CompJ.range (fun i zs H'=>i≤max l.length m.length∧Same H H'∧Nums H' zs ((List.range i).map fun i=>nsub (qa9 l i) (qa9 m i))) ⟨Nat.zero_le _,Same.refl H,trivial⟩ ?_ ?_ ?_⟩
  · rintro i zs H' ⟨h1,s1,hZ⟩
    exact ⟨h1,sz (by rw [hZ.length,List.length_map,List.length_range];omega)⟩
  · rintro i zs H' hi ⟨h1,s1,hZ⟩
    rwa []
    rw [show (0:Int)+(i:Int)=(i:Int) by omega]
    refine ⟨xs,l,i,rfl,s1 _ _ hp,hN.tp (tpS s1),fun v H1 s2 hv=>⟨ys,m,i,rfl,s2 _ _ (s1 _ _ hq),hM.tp (tpS (s1.trans s2)),fun u H2 s3 hu=>?_⟩⟩
    obtain ⟨pv,rfl,hpv⟩:=hv.tp (tpS s3)
    obtain ⟨pu,rfl,hpu⟩:=hu
    have b1:=qfF hl O1 bM b1' i
    have b2:=qfF hm O2 bM b2' i
    refine ⟨pv,rfl,pu,rfl,_,_,hpv,_,_,hpu,(qaM hl i).pos,(qaM hm i).pos,b1.1.mono (by omega),b1.2.mono (by omega),b2.1.mono (by omega),b2.2.mono (by omega),fun r hr=>⟨by omega,((s1.trans s2).trans s3).trans (qag hr _),?_⟩⟩
    rw [qdt]
    exact (hZ.tp (tpS ((s2.trans s3).trans (qag hr _)))).append (Nums.one qfS)
  · rintro zs H' ⟨_,s1,hZ⟩ a ha
    rwa []
    have s2:=qag ha (HO.lst zs)
    have out:=qoq (f:=nsub) (s:=-1) (fun q r h1 h2=>⟨qpc h1 h2,by rw [qpC h1 h2];push_cast;grind⟩) (.inr rfl) hl hm O1 O2 bM b1' b2'
    refine ⟨_,hZ.tp (tpS s2),by rw [List.length_map,List.length_range];omega,fun r os H'' s3 hr hz=>?_⟩
    exact k r _ H'' ((s1.trans s2).trans s3) ⟨os,hr,hz⟩ out.1 out.2.1 fun k=>by have:=out.2.2 k;exact this
theorem lcv (a b:List Rat) (c:Nat→Rat):cvL a (cvL b c)=cvL b (cvL a c):=funext (qeJ c a b)
theorem addv (a:List Rat) (f g:Nat→Rat):cvL a (fun k=>f k+g k)=fun k=>cvL a f k+cvL a g k:=funext (qdP f g a)
theorem smulv (a:List Rat) (s:Rat) (f:Nat→Rat):cvL a (fun k=>s*f k)=fun k=>s*cvL a f k:=funext (qbl s f a)
theorem mulv (a b:List Rat) (g:Nat→Rat):cvL (qaQ a b) g=cvL a (cvL b g):=funext (qaw g a b)
noncomputable def CopL (x y:List Rat):Prop:=∃ U W:List Rat,∀ (g:Nat→Rat) (k:Nat),g k=cvL U (cvL x g) k+cvL W (cvL y g) k
theorem CopL.mul {x y z:List Rat} (h:CopL x y) (h':CopL x z):CopL x (qaQ y z):=by
  obtain ⟨U,W,e⟩:=h
  obtain ⟨U',W',e'⟩:=h'
  refine ⟨qbj U (qaQ (qaQ W U') y),qaQ W W',fun g k=>?_⟩
  rw [qaz,mulv,mulv,mulv,mulv]
  have h1:=e g k
  have h2:cvL y g=fun k=>cvL U' (cvL x (cvL y g)) k+cvL W' (cvL z (cvL y g)) k:=funext (e' (cvL y g))
  rw [h2,addv] at h1
  rw [h1,lcv z y g,lcv x y g]
  grind
theorem CopL.add {x y z c:List Rat} (h:CopL x y) (e:∀ g k,cvL z g k=cvL x g k+cvL c (cvL y g) k):CopL z y:=by
  obtain ⟨U,W,q⟩:=h
  refine ⟨U,qbj W ((qaQ U c).map ((-1:Rat)*·)),fun g k=>?_⟩
  have ez:cvL z g=fun k=>cvL x g k+cvL c (cvL y g) k:=funext (e g)
  rw [qaz,qav,mulv,ez,addv]
  have:=q g k
  grind
theorem CopL.congr {x y x' y':List Rat} (h:CopL x y) (hx:∀ g,cvL x' g=cvL x g) (hy:∀ g,cvL y' g=cvL y g):CopL x' y':=by
  obtain ⟨U,W,q⟩:=h
  exact ⟨U,W,fun g k=>by rw [hx,hy];exact q g k⟩
theorem CopL.smul {x y x':List Rat} {s:Rat} (s0:s≠0) (h:CopL x y) (hx:∀ g k,cvL x' g k=s*cvL x g k):CopL x' y:=by
  obtain ⟨U,W,q⟩:=h
  refine ⟨U.map (s⁻¹*·),W,fun g k=>?_⟩
  have e:cvL x' g=fun k=>s*cvL x g k:=funext (hx g)
  rw [qav,e,smulv]
  have:s⁻¹*s=1:=Rat.inv_mul_cancel s s0
  have:=q g k
  grind
theorem qdF {P A C:List Nu} (lP:qap P) (nP:Nz P) (lA:qap A) (nA:Nz A) (A0:A≠[]) (lC:qap C) (nC:Nz C) (C0:C≠[]) (h:∀ k,pwo P k=cv (pwo A) (pwo C) A.length k) :
    P.length+1=A.length+C.length∧pwo P (P.length - 1)=pwo A (A.length - 1)*pwo C (C.length - 1)∧P≠[]:=by
  have a0:0<A.length:=List.length_pos_iff.mpr A0
  have c0:0<C.length:=List.length_pos_iff.mpr C0
  have hi:∀ k,A.length+C.length - 1≤k→pwo P k=0:=fun k hk=>by
    rw [h,ql3]
    exact qgE (n:=C.length - 1) (fun i hi=>qbd (by omega)) _ _ (by rw [List.length_map,List.length_range];omega)
  have top:pwo P (A.length - 1+(C.length - 1))=pwo A (A.length - 1)*pwo C (C.length - 1):=by
    rw [h]
    obtain ⟨n,e⟩:∃ n,A.length=n+1:=⟨A.length - 1,by omega⟩
    rw [e]
    show cv (pwo A) (pwo C) n (n+1 - 1+(C.length - 1))+_=_
    have z:cv (pwo A) (pwo C) n (n+(C.length - 1))=0:=by
      rw [ql3]
      exact qgE (n:=C.length - 1) (fun i hi=>qbd (by omega)) _ _ (by rw [List.length_map,List.length_range];omega)
    rw [Nat.add_sub_cancel,z,if_pos (by omega),show n+(C.length - 1) - n=C.length - 1 by omega,Rat.zero_add]
  have ne:pwo P (A.length - 1+(C.length - 1))≠0:=by
    rw [top]
    intro z
    rcases Rat.mul_eq_zero.mp z with q | q
    · exact qbz lA nA A0 q
    · exact qbz lC nC C0 q
  have l1:A.length - 1+(C.length - 1)<P.length:=by
    rcases Nat.lt_or_ge (A.length - 1+(C.length - 1)) P.length with c | c
    · exact c
    · exact absurd (qbd c) ne
  have P0:P≠[]:=List.length_pos_iff.mp (by omega)
  have l2:P.length=A.length - 1+(C.length - 1)+1:=by
    rcases Nat.lt_or_ge (A.length - 1+(C.length - 1)+1) P.length with c | c
    · exact absurd (hi (P.length - 1) (by omega)) (qbz lP nP P0)
    · omega
  exact ⟨by omega,by rw [l2,Nat.add_sub_cancel];exact top,P0⟩
theorem qor {B:List Nu} (lB:qap B) (h:pwo B (B.length - 1)=1):qa9 B (B.length - 1)=(1,1):=by
  refine qei (qaM lB _) qon ?_
  have:val ((1:Int),(1:Int))=1:=by unfold val;show ((1:Int):Rat) / ((1:Int):Rat)=1;rw [show ((1:Int):Rat)=1 from rfl];grind
  rw [this];exact h
theorem qgf {B:List Nu} (h:qa9 B (B.length - 1)=(1,1)):pwo B (B.length - 1)=1:=by
  unfold pwo
  rw [h]
  unfold val;show ((1:Int):Rat) / ((1:Int):Rat)=1;rw [show ((1:Int):Rat)=1 from rfl];grind
theorem FF.same {H H':Hp} {p:Addr} {T B:List Nu} (h:FF H p T B) (s:Same H H'):FF H' p T B:=let ⟨u,v,a,b,c⟩:=h;⟨u,v,s _ _ a,b.same s,c.same s⟩
theorem qjs {l R0:List Nu} {g:List Int} {b c n e dg:Nat} (Gl:Gq b c l) (lR:qap R0) (nR:Nz R0) (ln:l.length≤n) (hn:n<2 ^ e) (lg:Lz g) (P:Prim g) (bg:Bd dg (co g (g.length - 1))) (m:MQ (co g) (co (qa6 l))) (eq:∀ k,pwo l k=cv (pwo R0) (pwo (mnc g)) R0.length k):Gq (dg+(b+n*(2*e+4))) c R0:=by
  obtain ⟨A,bA,eA⟩:=qla Gl.low lR Gl.clr.1 ln hn lg P m eq
  exact qke lR nR (qbe Gl.low).1 Gl.clr.2.1 (N:=fun k=>co g (g.length - 1)*co A k) (fun k=>by rw [eA,Rat.div_def];push_cast;rfl) fun k=>Bd.mul bg (bA k)
theorem qos {b c:Nat} {l m:List Nu} (G1:Gq b c l) (G2:Gq b c m):∃ M,Ov l M∧Ov m M∧Bd (c+c) M∧(∀ z∈ovN l M,Bd (b+c) z)∧∀ z∈ovN m M,Bd (b+c) z:=by
  have half:∀ {l:List Nu} {M N:Int},qap l→Ov l M→(∀ z∈ovN l M,Bd b z)→0<N→Bd c N→Ov l (M*N)∧∀ z∈ovN l (M*N),Bd (b+c) z:=fun {l M N} hl O hb N0 bN=>by
    refine ⟨⟨Int.mul_pos O.1 N0,fun q hq=>Int.dvd_mul_of_dvd_left (O.2 q hq)⟩,fun z hz=>?_⟩
    obtain ⟨q,hq,rfl⟩:=List.mem_map.mp hz
    have e:M*N / q.2=M / q.2*N:=Int.mul_ediv_assoc' N (O.2 q hq)
    rw [e,← Int.mul_assoc]
    exact (hb _ (List.mem_map.mpr ⟨q,hq,rfl⟩)).mul bN
  obtain ⟨M,O1,bM,h1⟩:=G1.ov
  obtain ⟨N,O2,bN,h2⟩:=G2.ov
  obtain ⟨o1,q1⟩:=half G1.low O1 h1 O2.1 bN
  obtain ⟨o2,q2⟩:=half G2.low O2 h2 O1.1 bM
  rw [Int.mul_comm N M] at o2 q2
  exact ⟨M*N,o1,o2,bM.mul bN,q1,q2⟩
theorem CompJ.enumL {K:W.Frag} {capt:List (Option Nat)} {g:TG} {te:TE} {σ:L2.St} {H:Hp} {Q:VK} {a:Addr} {xs:List V} (W:Nat→List V→Hp→Prop) (h0:W 0 [] H) (hb:∀ i ys H,W i ys H→i≤xs.length∧ys.length≤sizeLine∧SqL K H a xs)
    (hs:∀ i x p ys H,xs[i]?=some x→W i ys H→H p=none→g (.ref p) (qc7 capt σ) (upd H p (.tup [.int i,x])) fun σ2 H2=>te σ2 H2 fun y H3=>W (i+1) (ys++[y]) H3) (hd:∀ ys H,W xs.length ys H→∀ p,H p=none→Q (.ref p) (upd H p (.lst ys))):CompJ (qrs K a) capt g te σ Q H:=by
  refine ⟨xs.length,W,h0,fun i ys H w=>⟨(hb i ys H w).1,(hb i ys H w).2.1,?_⟩⟩
  have q:SqL K H a xs:=(hb i ys H w).2.2
  by_cases h:i<xs.length
  · refine .inr ⟨h,⟨xs,xs[i],q,by simp [h]⟩,fun x H' y=>?_⟩
    obtain ⟨p,x',hp,rfl,rfl,y⟩:=y
    exact hs i x' p ys _ (y xs q) w hp
  · have e:i=xs.length:=Nat.le_antisymm (hb i ys H w).1 (Nat.not_lt.mp h)
    subst e
    exact .inl ⟨⟨xs,q,Nat.le_refl _⟩,hd ys H w⟩
theorem qot {l:List Nu} {b c:Nat} (G:Gq b c l) (l31:l.length≤31) :
    Gq (b+5) c ((List.range (l.length - 1)).map fun i=>nmul (qa9 l (i+1)) ((i:Int)+1,1))∧∀ k,pwo ((List.range (l.length - 1)).map fun i=>nmul (qa9 l (i+1)) ((i:Int)+1,1)) k=dv (pwo l) k:=by
  have low:qap ((List.range (l.length - 1)).map fun i=>nmul (qa9 l (i+1)) ((i:Int)+1,1)):=fun q hq=>by
    obtain ⟨i,_,rfl⟩:=List.mem_map.mp hq
    exact qfo (qaM G.low _).pos (show (0:Int)<1 by decide)
  have vi:∀ i:Nat,val ((i:Int)+1,(1:Int))=(i:Rat)+1:=fun i=>by
    unfold val
    show (((i:Int)+1:Int):Rat) / ((1:Int):Rat)=_
    rw [show ((1:Int):Rat)=1 from rfl];push_cast;grind
  have pv:∀ k,pwo ((List.range (l.length - 1)).map fun i=>nmul (qa9 l (i+1)) ((i:Int)+1,1)) k=dv (pwo l) k:=fun k=>by
    unfold dv
    rcases Nat.lt_or_ge k (l.length - 1) with h | h
    · have e:qa9 ((List.range (l.length - 1)).map fun i=>nmul (qa9 l (i+1)) ((i:Int)+1,1)) k=nmul (qa9 l (k+1)) ((k:Int)+1,1):=by
        unfold qa9
        rw [List.getD_eq_getElem?_getD,List.getElem?_map,List.getElem?_range h];rfl
      unfold pwo
      rw [e,qfp (qaM G.low _).pos (show (0:Int)<1 by decide),vi];grind
    · rw [qbd (by rw [List.length_map,List.length_range];exact h),qbd (l:=l) (by omega)];grind
  obtain ⟨M,O,bM,hb⟩:=G.ov
  refine ⟨qke low ?_ O.1 bM (N:=fun k=>if k<31 then ((k+1:Nat):Int)*(ovN l M).getD (k+1) 0 else 0) (fun k=>?_) fun k=>?_,pv⟩
  · intro q hq
    rw [List.getLast?_eq_getElem?,List.length_map,List.length_range] at hq
    rcases Nat.eq_zero_or_pos (l.length - 1) with h | h
    · rw [List.getElem?_eq_none (by rw [List.length_map,List.length_range];omega)] at hq;cases hq
    · rw [qmm _ (by omega)] at hq
      obtain rfl:=Option.some.inj hq
      intro z
      have z1:=qfp (q:=qa9 l (l.length - 1 - 1+1)) (r:=(((l.length - 1 - 1:Nat):Int)+1,1)) (qaM G.low _).pos (show (0:Int)<1 by decide)
      rw [vi] at z1
      have z0:val (nmul (qa9 l (l.length - 1 - 1+1)) (((l.length - 1 - 1:Nat):Int)+1,1))=0:=by
        unfold val
        rw [z]
        show ((0:Int):Rat) / _=0
        rw [show ((0:Int):Rat)=0 from rfl];grind
      rw [z0,show l.length - 1 - 1+1=l.length - 1 by omega] at z1
      have ne:=qbz G.low G.nz (fun e=>by rw [e] at h;simp at h)
      have n2:((l.length - 1 - 1:Nat):Rat)+1≠0:=fun q=>by
        have e:((l.length - 1 - 1:Nat):Rat)+1=((l.length - 1 - 1+1:Nat):Rat):=by push_cast;rfl
        rw [e] at q
        have:l.length - 1 - 1+1=0:=by exact_mod_cast q
        omega
      rcases Rat.mul_eq_zero.mp z1.symm with q | q
      · exact ne q
      · exact n2 q
  · rw [pv,dv]
    by_cases h:k<31
    · rw [if_pos h,qgk G.low O];push_cast;grind
    · rw [if_neg h,qbd (l:=l) (by omega)]
      show _=((0:Int):Rat) / _
      rw [show ((0:Int):Rat)=0 from rfl];grind
  · by_cases h:k<31
    · rw [if_pos h]
      have:Bd 5 ((k+1:Nat):Int):=by unfold Bd;rw [Int.natAbs_natCast];omega
      exact (this.mul (qcz hb (k+1))).mono (by omega)
    · rw [if_neg h];exact qbV _
theorem qmu (h:qb3 K vs H Q E):qho K { nx:=fun _ H'=>Q .non H',rt:=Q } (L2.start ["P"] vs) H:=by
  obtain ⟨p,xs,l,b,c,rfl,hp,hN,G,l31,b9,c9,k⟩:=h
  unfold qho
  rwa [hp]
  have lx:=hN.length
  obtain ⟨M,O,bM,hb⟩:=G.ov
  refine ⟨by decide,by decide,by omega,by omega,CompJ.range (fun i zs H'=>i≤l.length - 1∧Same H H'∧Nums H' zs ((List.range i).map fun i=>nmul (qa9 l (i+1)) ((i:Int)+1,1))) ⟨Nat.zero_le _,Same.refl H,trivial⟩ ?_ ?_ ?_⟩
  · rintro i zs H' ⟨h1,s1,hZ⟩
    exact ⟨by omega,sz (by rw [hZ.length,List.length_map,List.length_range];omega)⟩
  · rintro i zs H' hi ⟨h1,s1,hZ⟩
    have hp1:=s1 _ _ hp
    have hi':i+1<l.length:=by omega
    obtain ⟨v,hv,hn⟩:=hN.at (i:=i+1) (by omega) (0,1)
    obtain ⟨pv,rfl,hpv⟩:=hn.tp (tpS s1)
    have g1:atI xs (1+(i:Int))=some (V.ref pv):=qek (j:=i+1) (by omega) hv
    rwa [hp1,g1]
    refine ⟨sz (by decide),fun w hw=>?_⟩
    have sw:=qag hw (HO.tup [V.int (1+(i:Int)),V.int 1])
    have b1:=qfF G.low O bM hb (i+1)
    have e1:(1+(i:Int))=(i:Int)+1:=by omega
    have b5:Bd 5 (1+(i:Int)):=by unfold Bd;omega
    refine ⟨_,_,sw _ _ hpv,(qaM G.low _).pos,by decide,b1.1.mono (by omega),b1.2.mono (by omega),b5.mono (by decide),(bdc (n:=1) (by decide)).mono (by decide),fun r hr=>⟨by omega,(s1.trans sw).trans (qag hr _),?_⟩⟩
    rw [qdt]
    refine (hZ.tp (tpS (sw.trans (qag hr _)))).append (Nums.one ?_)
    rw [← e1]
    exact qfS (q:=nmul (qa9 l (i+1)) (1+(i:Int),1))
  · rintro zs H' ⟨_,s1,hZ⟩ a ha
    rwa []
    have s2:=qag ha (HO.lst zs)
    obtain ⟨o1,o2⟩:=qot G l31
    have el:((xs.length:Int) - 1).toNat=l.length - 1:=by omega
    rw [el] at hZ
    intro r hr
    have s3:=qag hr (HO.tup zs)
    exact k r _ _ ((s1.trans s2).trans s3) ⟨zs,qai,hZ.tp (tpS (s2.trans s3))⟩ o1 (by rw [List.length_map,List.length_range]) o2
theorem qtk (l:List Nu):sr l=Sr.L (rw' l):=Sr.ext' fun k=>(ql4 l k).symm
theorem qan (l:List Nu):Sr.Pol (sr l):=⟨_,qtk l⟩
theorem qsf (l:List Nu) (g:Nat→Rat):(⟨cvL (rw' l) g⟩:Sr)=sr l*⟨g⟩:=by rw [qtk,Sr.L_mul]
theorem qcE {P A C:List Nu} (h:∀ k,pwo P k=cv (pwo A) (pwo C) A.length k):sr P=sr A*sr C:=by
  refine Eq.trans ?_ (qsf A (pwo C))
  exact Sr.ext' fun k=>(h k).trans (qpy _ _ _)
theorem qcJ {l:List Nu} (h1:qap l) (h2:Nz l) (h3:l≠[]):sr l≠0:=fun z=>qbz h1 h2 h3 (by
  have:=congrFun (congrArg Sr.c z) (l.length - 1)
  rw [Sr.zero_c] at this
  exact this)
theorem qqg {l m:List Nu} (h1:qap l) (h2:qap m) (n1:Nz l) (n2:Nz m) (h:sr l=sr m):l=m:=qlK h1 h2 n1 n2 fun k=>congrFun (congrArg Sr.c h) k
theorem qpE (k:Nat):(1:Sr).c k=qcb k:=by show ((1:Nat):Rat)*qcb k=_;push_cast;grind
theorem sr_cop {T B:List Nu}:Cop (pwo T) (pwo B)↔Sr.Cs (sr T) (sr B):=by
  constructor
  · rintro ⟨U,W,e⟩
    refine ⟨Sr.L U,Sr.L W,Sr.Pol.L _,Sr.Pol.L _,?_⟩
    rw [Sr.L_mul,Sr.L_mul]
    exact Sr.ext' fun k=>by rw [qpE,e k];rfl
  · rintro ⟨_,_,⟨U,rfl⟩,⟨W,rfl⟩,e⟩
    refine ⟨U,W,fun k=>?_⟩
    rw [Sr.L_mul,Sr.L_mul] at e
    have:=congrFun (congrArg Sr.c e) k
    rw [qpE] at this
    exact this.symm
theorem qtl {l m:List Nu} (h:∀ k,pwo m k=dv (pwo l) k):sr m=Sr.D (sr l):=Sr.ext' fun k=>h k
theorem qou (h:qeo K vs H Q E):qjd K { nx:=fun _ H'=>Q .non H',rt:=Q } (L2.start ["P", "Q"] vs) H:=by
  obtain ⟨p,q,xs,ys,l,m,M,b,c,rfl,hp,hq,hN,hM,hl,hm,O1,O2,bM,b1',b2',b9,c9,ll,lm,k⟩:=h
  unfold qjd
  rwa [hp,hq]
  have lx:=hN.length
  have ly:=hM.length
  rw [qn7,lx,ly]
  refine ⟨by omega,by omega,CompJ.range (fun i zs H'=>i≤max l.length m.length∧Same H H'∧Nums H' zs ((List.range i).map fun i=>nadd (qa9 l i) (qa9 m i))) ⟨Nat.zero_le _,Same.refl H,trivial⟩ ?_ ?_ ?_⟩
  · rintro i zs H' ⟨h1,s1,hZ⟩
    exact ⟨h1,sz (by rw [hZ.length,List.length_map,List.length_range];omega)⟩
  · rintro i zs H' hi ⟨h1,s1,hZ⟩
    rwa []
    rw [show (0:Int)+(i:Int)=(i:Int) by omega]
    refine ⟨xs,l,i,rfl,s1 _ _ hp,hN.tp (tpS s1),fun v H1 s2 hv=>⟨ys,m,i,rfl,s2 _ _ (s1 _ _ hq),hM.tp (tpS (s1.trans s2)),fun u H2 s3 hu=>?_⟩⟩
    obtain ⟨pv,rfl,hpv⟩:=hv.tp (tpS s3)
    obtain ⟨pu,rfl,hpu⟩:=hu
    have b1:=qfF hl O1 bM b1' i
    have b2:=qfF hm O2 bM b2' i
    refine ⟨pv,rfl,pu,rfl,_,_,hpv,_,_,hpu,(qaM hl i).pos,(qaM hm i).pos,b1.1.mono (by omega),b1.2.mono (by omega),b2.1.mono (by omega),b2.2.mono (by omega),fun r hr=>⟨by omega,((s1.trans s2).trans s3).trans (qag hr _),?_⟩⟩
    rw [qdt]
    exact (hZ.tp (tpS ((s2.trans s3).trans (qag hr _)))).append (Nums.one qfS)
  · rintro zs H' ⟨_,s1,hZ⟩ a ha
    rwa []
    have s2:=qag ha (HO.lst zs)
    have out:=qoq (f:=nadd) (s:=1) (fun q r h1 h2=>⟨qlG h1 h2,by rw [qi4 h1 h2];grind⟩) (.inl rfl) hl hm O1 O2 bM b1' b2'
    refine ⟨_,hZ.tp (tpS s2),by rw [List.length_map,List.length_range];omega,fun r os H'' s3 hr hz=>?_⟩
    exact k r _ H'' ((s1.trans s2).trans s3) ⟨os,hr,hz⟩ out.1 out.2.1 fun k=>by have:=out.2.2 k;exact this
theorem qkh (p:Nat→Int):∀ (w:List Int) (k:Nat),((cvL w p k:Int):Rat)=cvL (w.map fun z:Int=>(z:Rat)) (fun k=>(p k:Rat)) k
  | [],_=>rfl
  | x::w,0=>by rw [qat];show _=(x:Rat)*(p 0:Rat)+0;push_cast;rfl
  | x::w,k+1=>by rw [qao];show _=(x:Rat)*(p (k+1):Rat)+cvL (w.map fun z:Int=>(z:Rat)) (fun k=>(p k:Rat)) k;rw [← qkh p w k];push_cast;rfl
theorem qmO (ns:List Int):si ns=Sr.L (ns.map fun z:Int=>(z:Rat)):=Sr.ext' fun k=>by
  show ((co ns k:Int):Rat)=cvL _ qcb k
  rw [qce]
  unfold co
  rw [List.getD_eq_getElem?_getD,List.getD_eq_getElem?_getD,List.getElem?_map]
  cases ns[k]? <;> rfl
theorem qbD (ns:List Int):Sr.Pol (si ns):=⟨_,qmO ns⟩
theorem ql7 {ns qs ms:List Int} (h:∀ k,co ns k=cvL qs (co ms) k):si ns=si qs*si ms:=by
  rw [qmO qs,Sr.L_mul]
  refine Sr.ext' fun k=>?_
  show ((co ns k:Int):Rat)=cvL _ (fun k=>((co ms k:Int):Rat)) k
  rw [h k,qkh]
theorem qfi {ns:List Int} (h:Lz ns):si ns≠0:=fun z=>h.2 (by
  have:=congrFun (congrArg Sr.c z) (ns.length - 1)
  rw [Sr.zero_c] at this
  have this:((co ns (ns.length - 1):Int):Rat)=0:=this
  exact_mod_cast this)
theorem qsY (ns:List Int):Sr.Bn (si ns) ns.length:=fun k hk=>by
  show ((co ns k:Int):Rat)=0
  rw [qaA hk];rfl
theorem qsg (ns:List Int) (k:Nat):co (dI ns) k=((k+1:Nat):Int)*co ns (k+1):=by
  by_cases h:k<ns.length - 1
  · unfold dI
    show ((List.range (ns.length - 1)).map _).getD k 0=_
    rw [List.getD_eq_getElem?_getD,List.getElem?_map,List.getElem?_range h]
    rfl
  · rw [qaA (by unfold dI;rw [List.length_map,List.length_range];omega),qaA (k:=k+1) (by omega),Int.mul_zero]
theorem qov (ns:List Int):(dI ns).length=ns.length - 1:=by unfold dI;rw [List.length_map,List.length_range]
theorem qsZ (ns:List Int):si (dI ns)=Sr.D (si ns):=Sr.ext' fun k=>by
  show ((co (dI ns) k:Int):Rat)=((k:Rat)+1)*((co ns (k+1):Int):Rat)
  rw [qsg];push_cast;rfl
theorem qeE {g:Int} (ms:List Int):si (ms.map (g*·))=Sr.num (g:Rat)*si ms:=Sr.ext' fun k=>by
  rw [Sr.num_mul]
  show ((co (ms.map (g*·)) k:Int):Rat)=(g:Rat)*((co ms k:Int):Rat)
  have e:co (ms.map (g*·)) k=g*co ms k:=by
    unfold co
    rw [List.getD_eq_getElem?_getD,List.getD_eq_getElem?_getD,List.getElem?_map]
    cases ms[k]? with
    | none=>simp
    | some z=>rfl
  rw [e];push_cast;rfl
namespace Sr
theorem num_num (x y:Rat):num x*num y=num (x*y):=ext' fun k=>by
  rw [num_mul]
  show x*(y*qcb k)=x*y*qcb k
  grind
theorem num_one:num 1=1:=congrArg num (show (1:Rat)=((1:Nat):Rat) by push_cast;rfl)
theorem num_inv {x:Rat} (h:x≠0):num x⁻¹*num x=1:=by
  rw [num_num,Rat.inv_mul_cancel _ h]
  exact num_one
theorem mul_pow {f g:Sr}:∀ n:Nat,(f*g) ^ n=f ^ n*g ^ n
  | 0=>by rw [qqT,qqT,qqT];grind
  | n+1=>by rw [qqS,qqS,qqS,mul_pow n];grind
end Sr
theorem qsh {x:Rat} (h:x≠0):x⁻¹≠0:=fun z=>by
  have:=Rat.inv_mul_cancel _ h
  rw [z] at this
  grind
theorem qsi {g f:List Int} (m:MQ (co g) (co f)):∃ B,Sr.Pol B∧si f=B*si g:=by
  obtain ⟨c,c0,A,h⟩:=m
  have c1:=qaG c0
  refine ⟨Sr.num ((c:Rat)⁻¹)*si A,(Sr.Pol.num _).mul (qbD A),?_⟩
  have e:Sr.num (c:Rat)*si f=si A*si g:=by
    rw [← qeE]
    refine ql7 fun k=>?_
    rw [← h k]
    unfold co
    rw [List.getD_eq_getElem?_getD,List.getD_eq_getElem?_getD,List.getElem?_map]
    cases f[k]? with
    | none=>simp
    | some z=>rfl
  have i:=Sr.num_inv c1
  have:si f=Sr.num ((c:Rat)⁻¹)*Sr.num (c:Rat)*si f:=by rw [i];grind
  rw [this,show Sr.num ((c:Rat)⁻¹)*Sr.num (c:Rat)*si f=Sr.num ((c:Rat)⁻¹)*(Sr.num (c:Rat)*si f) by grind,e]
  grind
theorem qs0 {r o g:List Int} (R:RC (co r) (co o) g) {A B:Sr} (pA:Sr.Pol A) (pB:Sr.Pol B) (h1:si r=A*si g) (h2:si o=B*si g):Sr.Cs A B:=by
  obtain ⟨d,d0,U,W,h⟩:=R.qi
  have e:Sr.num (d:Rat)*si g=si U*si r+si W*si o:=by
    rw [qmO U,qmO W,Sr.L_mul,Sr.L_mul]
    refine Sr.ext' fun k=>?_
    rw [Sr.num_mul]
    show (d:Rat)*((co g k:Int):Rat)=cvL _ (fun k=>((co r k:Int):Rat)) k+cvL _ (fun k=>((co o k:Int):Rat)) k
    rw [← qkh,← qkh]
    exact_mod_cast h k
  have e2:Sr.num (d:Rat)=si U*A+si W*B:=Sr.cancel (Sr.Pol.num _) (((qbD U).mul pA).add ((qbD W).mul pB)) (qbD g) (qfi R.lz) (by rw [e,h1,h2];grind)
  exact Sr.Cs.of_unit (qaG d0) rfl (qbD U) (qbD W) e2.symm
noncomputable def DvI (ms g:List Int):Prop:=∃ A:List Int,∀ k,co ms k=cvL A (co g) k
theorem DvI.self (ms:List Int):DvI ms ms:=⟨[1],fun k=>by
  cases k with
  | zero=>rw [qat];grind
  | succ k=>rw [qao,qaD];grind⟩
theorem DvI.len {ms g:List Int} (h:DvI ms g) (l1:Lz ms) (l2:Lz g):g.length≤ms.length:=qhI l2 l1 (by
  obtain ⟨A,hA⟩:=h
  exact ⟨1,by decide,A,fun k=>by rw [Int.one_mul];exact hA k⟩)
theorem qow {ns:List Int} (h:Lz ns):sr (mnc ns)=Sr.num ((co ns (ns.length - 1):Rat))⁻¹*si ns:=Sr.ext' fun k=>by
  rw [Sr.num_mul];exact qeZ h k
theorem qeF {l:List Nu} (h:qap l):sr l=Sr.num ((qbv l:Rat))⁻¹*si (qa6 l):=Sr.ext' fun k=>by
  rw [Sr.num_mul];exact qdw h k
theorem num_ne' {x y:Rat} (h1:x≠0) (h2:y≠0):x*y≠0:=fun z=>by
  rcases Rat.mul_eq_zero.mp z with z | z
  · exact h1 z
  · exact h2 z
theorem qs1 (l:List Nu):Sr.Bn (sr l) l.length:=fun k hk=>qbd hk
structure Mon (b:Nat) (R:List Nu):Prop where
  gq:Gq b b R
  ne:R≠[]
  one:qa9 R (R.length - 1)=(1,1)
theorem Mon.mono {b c:Nat} {R:List Nu} (h:Mon b R) (e:b≤c):Mon c R:=⟨h.gq.mono e e,h.ne,h.one⟩
theorem Mon.top {b:Nat} {R:List Nu} (h:Mon b R):(sr R).c (R.length - 1)=1∧Sr.Bn (sr R) (R.length - 1+1):=by
  have:=List.length_pos_iff.mpr h.ne
  exact ⟨qgf h.one,by rw [Nat.sub_add_cancel this];exact qs1 R⟩
theorem qox {R:List Nu} {Y:Sr} {n:Nat} (lR:qap R) (nR:Nz R) (e:sr R=Y) (y0:Y.c n≠0) (yb:Sr.Bn Y (n+1)):R≠[]∧R.length=n+1∧pwo R (R.length - 1)=Y.c n:=by
  have hn:pwo R n=Y.c n:=congrFun (congrArg Sr.c e) n
  have h1:n<R.length:=by
    rcases Nat.lt_or_ge n R.length with h | h
    · exact h
    · exact absurd (hn.symm.trans (qbd h)) y0
  have ne:R≠[]:=fun z=>by rw [z] at h1;simp at h1
  have hl:R.length=n+1:=by
    rcases Nat.lt_or_ge (n+1) R.length with h | h
    · have z:=qbz lR nR ne
      exact absurd ((congrFun (congrArg Sr.c e) (R.length - 1)).trans (yb _ (by omega))) z
    · omega
  exact ⟨ne,hl,by rw [hl];exact hn⟩
theorem qrd:∀ (n:Nat) (D:List Int),Lz D→(co D (D.length - 1)).natAbs≤n→∃ (g:Int) (P:List Int),g≠0∧D=P.map (g*·)∧Prim P∧Lz P∧P.length=D.length:=by
  intro n
  induction n with
  | zero=>intro D l h;exact absurd (Int.natAbs_eq_zero.mp (by omega)) l.2
  | succ n ih=>
    intro D l h
    by_cases pr:Prim D
    · exact ⟨1,D,by decide,by simp,pr,l,rfl⟩
    · obtain ⟨c,hc⟩:=Classical.not_forall.mp pr
      have hc1:∀ k,c∣co D k:=Classical.byContradiction fun z=>hc fun y=>absurd y z
      have hc2:c.natAbs≠1:=fun z=>hc fun _=>z
      have c0:c≠0:=fun z=>l.2 (by have:=hc1 (D.length - 1);rw [z] at this;exact Int.zero_dvd.mp this)
      have e:D=(D.map (· / c)).map (c*·):=by
        rw [List.map_map]
        refine (List.map_id D).symm.trans (List.map_congr_left fun z hz=>?_)
        obtain ⟨i,hi,rfl⟩:=List.getElem_of_mem hz
        have:=hc1 i
        unfold co at this
        rw [List.getD_eq_getElem?_getD,List.getElem?_eq_getElem hi] at this
        exact (Int.mul_ediv_cancel' this).symm
      have el:(D.map (· / c)).length=D.length:=List.length_map ..
      have ec:∀ k,co D k=c*co (D.map (· / c)) k:=fun k=>by
        have:=congrFun (congrArg Sr.c (qeE (g:=c) (D.map (· / c)))) k
        rw [← e,Sr.num_mul] at this
        have this:((co D k:Int):Rat)=(c:Rat)*((co (D.map (· / c)) k:Int):Rat):=this
        exact_mod_cast this
      have l2:Lz (D.map (· / c)):=⟨by rw [el];exact l.1,fun z=>l.2 (by rw [el] at z;rw [ec,z,Int.mul_zero])⟩
      have sm:(co (D.map (· / c)) ((D.map (· / c)).length - 1)).natAbs≤n:=by
        have h2:=ec (D.length - 1)
        rw [el]
        rw [h2,Int.natAbs_mul] at h
        have z0:(co (D.map (· / c)) (D.length - 1)).natAbs≠0:=fun z=>l2.2 (by rw [el];exact Int.natAbs_eq_zero.mp z)
        have c2:2≤c.natAbs:=by have:=Int.natAbs_pos.mpr c0;omega
        have:=Nat.mul_le_mul_right (co (D.map (· / c)) (D.length - 1)).natAbs c2
        omega
      obtain ⟨g,P,g0,eP,pP,lP,ll⟩:=ih _ l2 sm
      refine ⟨c*g,P,Int.mul_ne_zero c0 g0,?_,pP,lP,by omega⟩
      rw [e,eP,List.map_map]
      refine List.map_congr_left fun z _=>?_
      show c*(g*z)=c*g*z
      grind
theorem qki:∀ a:List Rat,∃ c:Int,c≠0∧∃ A:List Int,∀ k,(c:Rat)*a.getD k 0=((A.getD k 0:Int):Rat)
  | []=>⟨1,by decide,[],fun k=>by simp⟩
  | x::a=>by
    obtain ⟨c,c0,A,h⟩:=qki a
    have d0:((x.den:Int))≠0:=by have:=x.den_pos;omega
    have hx:(x.den:Rat)*x=(x.num:Rat):=by
      have h1:(x.num:Rat) / ((x.den:Int):Rat)=x:=(Rat.divInt_eq_div x.num (x.den:Int)).symm.trans (Rat.num_divInt_den x)
      have dz:=qaG d0
      have h2:((x.den:Int):Rat)=(x.den:Rat):=rfl
      rw [h2] at h1 dz
      grind
    refine ⟨c*x.den,Int.mul_ne_zero c0 d0,(c*x.num)::A.map (fun z=>(x.den:Int)*z),fun k=>?_⟩
    cases k with
    | zero=>
      show ((c*x.den:Int):Rat)*x=((c*x.num:Int):Rat)
      push_cast
      rw [Rat.mul_assoc,hx]
    | succ k=>
      show ((c*x.den:Int):Rat)*a.getD k 0=(((A.map fun z=>(x.den:Int)*z).getD k 0:Int):Rat)
      have e:(A.map fun z=>(x.den:Int)*z).getD k 0=(x.den:Int)*A.getD k 0:=by
        rw [List.getD_eq_getElem?_getD,List.getD_eq_getElem?_getD,List.getElem?_map]
        cases A[k]? <;> simp
      rw [e]
      have:=h k
      push_cast at this ⊢
      grind
theorem qoy {f g:List Int} {Y:Sr} (pY:Sr.Pol Y) (e:si f=Y*si g):MQ (co g) (co f):=by
  obtain ⟨a,rfl⟩:=pY
  obtain ⟨c,c0,A,h⟩:=qki a
  refine ⟨c,c0,A,fun k=>?_⟩
  have eA:si A=Sr.num (c:Rat)*Sr.L a:=Sr.ext' fun j=>by
    rw [Sr.num_mul]
    show ((A.getD j 0:Int):Rat)=(c:Rat)*cvL a qcb j
    rw [qce]
    exact (h j).symm
  have e2:Sr.num (c:Rat)*si f=si A*si g:=by rw [e,eA];grind
  rw [qmO A,Sr.L_mul] at e2
  have:=congrFun (congrArg Sr.c e2) k
  rw [Sr.num_mul] at this
  have this:(c:Rat)*((co f k:Int):Rat)=cvL (A.map fun z:Int=>(z:Rat)) (fun k=>((co g k:Int):Rat)) k:=this
  rw [← qkh] at this
  exact_mod_cast this
theorem qoz {l:List Nu} (hl:qap l) (nl:Nz l) (l0:l≠[]):∃ (x:Rat) (P:List Int),x≠0∧sr l=Sr.num x*si P∧Prim P∧Lz P∧P.length=l.length:=by
  have lz:Lz (qa6 l):=qeO (qdv hl nl) (fun z=>l0 (List.length_eq_zero_iff.mp (by rw [← qaP,z];rfl)))
  obtain ⟨g,P,g0,e,pP,lP,pl⟩:=qrd _ _ lz (Nat.le_refl _)
  refine ⟨((qbv l:Rat))⁻¹*(g:Rat),P,num_ne' (qsh (qaG (Int.ne_of_gt (qbe hl).1))) (qaG g0),?_,pP,lP,by rw [pl,qaP]⟩
  rw [qeF hl,e,qeE,← Sr.num_num];grind
theorem qoA {P:List Int} {d:Nat} (lP:Lz P) (bP:∀ k,Bd d (co P k)):Mon d (mnc P):=by
  have last:=lP.2
  refine ⟨qke (qf1 lP) (qkc lP) (M:=((co P (P.length - 1)).natAbs:Int)) (by omega) ?_ (N:=fun k=>if 0<co P (P.length - 1) then co P k else - co P k) (fun k=>?_) (fun k=>?_),?_,?_⟩
  · show ((co P (P.length - 1)).natAbs:Int).natAbs<2 ^ d
    rw [Int.natAbs_natCast];exact bP _
  · rw [qjq lP]
    by_cases c:0<co P (P.length - 1)
    · rw [if_pos c,Int.natAbs_of_nonneg (by omega)]
    · rw [if_neg c,show ((co P (P.length - 1)).natAbs:Int) = - co P (P.length - 1) by omega]
      have c1:=qaG last
      push_cast
      grind
  · split
    · exact bP k
    · exact (bP k).neg
  · intro z
    have z2:(mnc P).length=0:=by rw [z];rfl
    rw [qcl] at z2
    have:=lP.1
    omega
  · refine qei (qaM (qf1 lP) _) ⟨by decide,by decide⟩ ?_
    show pwo (mnc P) _=_
    rw [qcl,qjq lP]
    have c1:=qaG last
    unfold val
    show _=((1:Int):Rat) / ((1:Int):Rat)
    push_cast
    grind
theorem qsj {c:Nat} {p q:List Nu} {x:Rat} (hl:qap p) (hn:Nz p) (h0:p≠[]) (h1:qa9 p (p.length - 1)=(1,1)) (hq:Mon c q) (x0:x≠0) (e:sr p=Sr.num x*sr q):p=q:=by
  have t:(Sr.num x*sr q).c (q.length - 1)=x:=by rw [Sr.num_mul,hq.top.1];grind
  have yb:Sr.Bn (Sr.num x*sr q) (q.length - 1+1):=fun k hk=>by rw [Sr.num_mul,hq.top.2 k hk];grind
  obtain ⟨_,len,last⟩:=qox hl hn e (by rw [t];exact x0) yb
  have x1:x=1:=by rw [← t,← last,qgf h1]
  rw [x1,Sr.num_one] at e
  exact qqg hl hq.gq.low hn hq.gq.nz (by rw [e];grind)
theorem qkj {R:List Int} {Y:Sr} {n:Nat} (l:Lz R) (e:si R=Y) (y0:Y.c n≠0) (yb:Sr.Bn Y (n+1)):R.length=n+1∧((co R (R.length - 1):Int):Rat)=Y.c n:=by
  have hn:((co R n:Int):Rat)=Y.c n:=congrFun (congrArg Sr.c e) n
  have h1:n<R.length:=by
    rcases Nat.lt_or_ge n R.length with h | h
    · exact h
    · rw [qaA h] at hn;exact absurd hn.symm y0
  have hl:R.length=n+1:=by
    rcases Nat.lt_or_ge (n+1) R.length with h | h
    · have z:((co R (R.length - 1):Int):Rat)=0:=(congrFun (congrArg Sr.c e) (R.length - 1)).trans (yb _ (by omega))
      exact absurd (by exact_mod_cast z) l.2
    · omega
  exact ⟨hl,by rw [hl];exact hn⟩
theorem qkk {T B:List Nu} {N D:List Int} {b n e:Nat} (h:Lw T B) (lD:Lz D) (tN:Tz N) (bN:∀ z∈N,Bd b z) (bD:∀ z∈D,Bd b z) (n1:N.length≤n) (n2:D.length≤n) (ne:n<2 ^ e) (eq:sr T*si D=si N*sr B) :
    Gq (b+(b+n*(2*e+4))) (b+(b+n*(2*e+4))) T∧Gq (b+n*(2*e+4)) (b+n*(2*e+4)) B∧T.length≤N.length∧B.length≤D.length:=by
  obtain ⟨U,W,pU,pW,h1⟩:=h.cs
  have eD:si D=(U*si N+W*si D)*sr B:=by
    have:si D=(U*sr T+W*sr B)*si D:=by rw [h1];grind
    calc si D=(U*sr T+W*sr B)*si D:=this
      _=U*(sr T*si D)+W*sr B*si D:=by grind
      _=_:=by rw [eq];grind
  generalize hY:U*si N+W*si D=Y at eD
  have pY:Sr.Pol Y:=by rw [← hY];exact (pU.mul (qbD N)).add (pW.mul (qbD D))
  obtain ⟨x,P,x0,eB,pP,lP,pl⟩:=qoz h.lb h.nb h.ne
  obtain ⟨A,hA⟩:=gauss pP (qoy (pY.mul (Sr.Pol.num x)) (show si D=Y*Sr.num x*si P by rw [eD,eB];grind))
  have gl:P.length≤D.length:=DvI.len ⟨A,hA⟩ lD lP
  have bP:∀ k,Bd (b+n*(2*e+4)) (co P k):=qdE bD ⟨_,lD.2⟩ n2 (by omega) ne hA
  have hB:B=mnc P:=by
    have mB:Mon (b+n*(2*e+4)) (mnc P):=qoA lP bP
    have x1:x*(co P (P.length - 1):Rat)≠0:=num_ne' x0 (qaG lP.2)
    refine qsj h.lb h.nb h.ne h.one mB x1 ?_
    rw [eB,qow lP,← Sr.num_num]
    have iP:Sr.num (co P (P.length - 1):Rat)*Sr.num ((co P (P.length - 1):Rat))⁻¹=1:=by
      have:=Sr.num_inv (qaG lP.2);grind
    grind
  have GB:Gq (b+n*(2*e+4)) (b+n*(2*e+4)) B:=by rw [hB];exact (qoA lP bP).gq
  have lB:B.length≤D.length:=by rw [hB,qcl];exact gl
  have B0:=qcJ h.lb h.nb h.ne
  have eN:si N=Y*sr T:=by
    refine Sr.cancel (qbD N) (pY.mul (qan T)) (qan B) B0 ?_
    rw [← eq,show sr T*si D=sr T*(Y*sr B) from congrArg _ eD];grind
  by_cases T0:T=[]
  · subst T0
    refine ⟨⟨h.lt,h.nt,1,⟨by decide,(fun _ h=>nomatch h)⟩,bdc (by show 1<2 ^ _;exact Nat.one_lt_two_pow (by have:=lD.1;have:0<n*(2*e+4):=Nat.mul_pos (by omega) (by omega);omega)),(fun _ h=>nomatch h)⟩,GB,Nat.zero_le _,lB⟩
  have D0:=qfi lD
  have Y0:Y≠0:=fun z=>D0 (by rw [eD,z];grind)
  have TT:=qcJ h.lt h.nt T0
  have N0:si N≠0:=by rw [eN];exact Sr.ne_mul pY (qan T) Y0 TT
  have Nn:N≠[]:=fun z=>N0 (by rw [z,qmO []];exact Sr.L_nil)
  have lN:Lz N:=qeO tN Nn
  obtain ⟨y,Qr,y0,eT,pQ,lQ,ql⟩:=qoz h.lt h.nt T0
  obtain ⟨A2,hA2⟩:=gauss pQ (qoy (pY.mul (Sr.Pol.num y)) (show si N=Y*Sr.num y*si Qr by rw [eN,eT];grind))
  have ql2:Qr.length≤N.length:=DvI.len ⟨A2,hA2⟩ lN lQ
  have bQ:∀ k,Bd (b+n*(2*e+4)) (co Qr k):=qdE bN ⟨_,lN.2⟩ n1 (by omega) ne hA2
  obtain ⟨m,hm⟩:=pY.bn
  rcases Sr.top_ex m hm with z | ⟨j,_,j0,jb⟩
  · exact absurd z Y0
  have MB:Mon (b+n*(2*e+4)) B:=⟨GB,h.ne,h.one⟩
  have tD:=Sr.top_mul jb MB.top.2
  rw [MB.top.1] at tD
  obtain ⟨_,dD⟩:=qkj lD eD (n:=j+(B.length - 1)) (by rw [tD.1];intro z;exact j0 (by grind)) tD.2
  rw [tD.1] at dD
  have bQn:Sr.Bn (si Qr) (Qr.length - 1+1):=by rw [Nat.sub_add_cancel lQ.1];exact qsY Qr
  have tN2:=Sr.top_mul (f:=Y*Sr.num y) (m:=j) (fun k hk=>by rw [show Y*Sr.num y=Sr.num y*Y by grind,Sr.num_mul,jb k hk];grind) bQn
  have cY:(Y*Sr.num y).c j=y*Y.c j:=by rw [show Y*Sr.num y=Sr.num y*Y by grind,Sr.num_mul]
  rw [cY] at tN2
  have lQ2:(si Qr).c (Qr.length - 1)=(co Qr (Qr.length - 1):Rat):=rfl
  rw [lQ2] at tN2
  have q1:=qaG lQ.2
  obtain ⟨_,dN⟩:=qkj lN (show si N=Y*Sr.num y*si Qr by rw [eN,eT];grind) (n:=j+(Qr.length - 1)) (by rw [tN2.1];exact num_ne' (num_ne' y0 j0) q1) tN2.2
  rw [tN2.1] at dN
  have d1:=qaG lD.2
  have mz:co D (D.length - 1)*co Qr (Qr.length - 1)≠0:=Int.mul_ne_zero lD.2 lQ.2
  have bm:Bd (b+(b+n*(2*e+4))) (co D (D.length - 1)*co Qr (Qr.length - 1)):=Bd.mul (qbM bD _) (bQ _)
  have bt:∀ k,Bd (b+(b+n*(2*e+4))) (co N (N.length - 1)*co Qr k):=fun k=>Bd.mul (qbM bN _) (bQ k)
  have pT:∀ k,pwo T k=((co N (N.length - 1)*co Qr k:Int):Rat) / ((co D (D.length - 1)*co Qr (Qr.length - 1):Int):Rat):=fun k=>by
    have e1:pwo T k=y*((co Qr k:Int):Rat):=by
      have:=congrFun (congrArg Sr.c eT) k
      rw [Sr.num_mul] at this
      exact this
    rw [e1]
    push_cast
    rw [dN,dD]
    generalize ((co Qr (Qr.length - 1):Int):Rat)=q at *
    generalize ((co Qr k:Int):Rat)=r at *
    grind
  refine ⟨qke h.lt h.nt (M:=((co D (D.length - 1)*co Qr (Qr.length - 1)).natAbs:Int)) (by omega) ?_ (N:=fun k=>if 0<co D (D.length - 1)*co Qr (Qr.length - 1) then co N (N.length - 1)*co Qr k else - (co N (N.length - 1)*co Qr k)) (fun k=>?_) (fun k=>?_),GB,by omega,lB⟩
  · show ((co D (D.length - 1)*co Qr (Qr.length - 1)).natAbs:Int).natAbs<2 ^ _
    rw [Int.natAbs_natCast];exact bm
  · rw [pT k]
    generalize co D (D.length - 1)*co Qr (Qr.length - 1)=M at *
    generalize co N (N.length - 1)*co Qr k=r at *
    by_cases c:0<M
    · rw [if_pos c,Int.natAbs_of_nonneg (by omega)]
    · rw [if_neg c,show (M.natAbs:Int) = - M by omega]
      have c1:=qaG mz
      push_cast
      grind
  · split
    · exact bt k
    · exact (bt k).neg
theorem qcK {T B:List Nu} {N D:Sr} (h:Lw T B) (pN:Sr.Pol N) (pD:Sr.Pol D) (eq:sr T*D=N*sr B):∃ Y,Sr.Pol Y∧D=Y*sr B∧N=Y*sr T:=by
  obtain ⟨U,W,pU,pW,h1⟩:=h.cs
  have eD:D=(U*N+W*D)*sr B:=by
    have:D=(U*sr T+W*sr B)*D:=by rw [h1];grind
    calc D=(U*sr T+W*sr B)*D:=this
      _=U*(sr T*D)+W*sr B*D:=by grind
      _=_:=by rw [eq];grind
  refine ⟨U*N+W*D,(pU.mul pN).add (pW.mul pD),eD,?_⟩
  refine Sr.cancel pN (((pU.mul pN).add (pW.mul pD)).mul (qan T)) (qan B) (qcJ h.lb h.nb h.ne) ?_
  rw [← eq,show sr T*D=sr T*((U*N+W*D)*sr B) from congrArg _ eD];grind
theorem qpF {l:List Nu} {N:List Int} {Y:Sr} {b n e:Nat} (hl:qap l) (lN:Lz N) (bN:∀ z∈N,Bd b z) (nl:N.length≤n) (ne:n<2 ^ e) (pY:Sr.Pol Y) (eq:si N=Y*sr l):Fp (b+n*(2*e+4)) (qa6 l):=fun g lg pg mq=>by
  obtain ⟨B1,pB1,e1⟩:=qsi mq
  obtain ⟨A,hA⟩:=gauss pg (qoy ((pY.mul (Sr.Pol.num _)).mul pB1) (show si N=Y*Sr.num ((qbv l:Rat))⁻¹*B1*si g by rw [eq,qeF hl,e1];grind))
  have gl:g.length≤N.length:=DvI.len ⟨A,hA⟩ lN lg
  exact qdE bN ⟨_,lN.2⟩ nl (by omega) ne hA
theorem Fp.mono {x y:Nat} {ns:List Int} (h:Fp x ns) (e:x≤y):Fp y ns:=fun g lg pg mq k=>(h g lg pg mq k).mono e
theorem ql8 {l:List Nu} (hl:qap l) (nl:Nz l) (l0:l≠[]):Lz (qa6 l):=qeO (qdv hl nl) fun z=>l0 (List.length_eq_zero_iff.mp (by rw [← qaP,z];rfl))
theorem qf2 {b c n e:Nat} {l:List Nu} (G:Gq b c l) (l0:l≠[]) (ln:l.length≤n) (ne:n<2 ^ e):Fp (b+n*(2*e+4)) (qa6 l):=fun g lg pg mq=>by
  have lz:=ql8 G.low G.nz l0
  obtain ⟨A,hA⟩:=gauss pg mq
  have gl:g.length≤l.length:=by have:=qhI lg lz mq;rw [qaP] at this;exact this
  exact qdE G.clr.1 ⟨_,lz.2⟩ (by rw [qaP];exact ln) (by omega) ne hA
theorem qsk {x:Nat} {l m:List Nu} {Y:Sr} (hl:qap l) (hm:qap m) (pY:Sr.Pol Y) (eq:sr m=Y*sr l) (h:Fp x (qa6 m)):Fp x (qa6 l):=fun g lg pg mq=>by
  obtain ⟨B1,pB1,e1⟩:=qsi mq
  refine h g lg pg (qoy (((Sr.Pol.num (qbv m:Rat)).mul pY).mul ((Sr.Pol.num ((qbv l:Rat))⁻¹).mul pB1)) ?_)
  have i:=Sr.num_inv (qaG (Int.ne_of_gt (qbe hm).1))
  have e2:=qeF hm
  have e3:si (qa6 m)=Sr.num (qbv m:Rat)*sr m:=by rw [e2];grind
  rw [e3,eq,qeF hl,e1];grind
theorem Rp.facts {b n m e:Nat} {T B:List Nu} (h:Rp b n m T B) (ne:n<2 ^ e) (me:m<2 ^ e) :
    Gq (b+(b+max n m*(2*e+4))) (b+(b+max n m*(2*e+4))) T∧Gq (b+max n m*(2*e+4)) (b+max n m*(2*e+4)) B∧T.length≤n∧B.length≤m∧(T≠[]→Fp (b+n*(2*e+4)) (qa6 T))∧Fp (b+m*(2*e+4)) (qa6 B):=by
  obtain ⟨N,D,lD,tN,bN,bD,nN,nD,eq⟩:=h.rp
  obtain ⟨g1,g2,l1,l2⟩:=qkk h.lw lD tN bN bD (show N.length≤max n m by omega) (show D.length≤max n m by omega) (show max n m<2 ^ e by omega) eq
  obtain ⟨Y,pY,eD,eN⟩:=qcK h.lw (qbD N) (qbD D) eq
  refine ⟨g1,g2,by omega,by omega,fun t0=>?_,qpF h.lw.lb lD bD nD me pY eD⟩
  refine qpF h.lw.lt (qeO tN fun z=>?_) bN nN ne pY eN
  have Y0:Y≠0:=fun z=>qfi lD (by rw [eD,z];grind)
  have:=Sr.ne_mul pY (qan T) Y0 (qcJ h.lw.lt h.lw.nt t0)
  exact this (by rw [← eN,z,qmO []];exact Sr.L_nil)
theorem C0.dd {x n m e:Nat} (h:C0 x n m e):x*2≤44490∧∀ y,y≤n+m→y*(x+1)≤44490∧y*x≤44490:=by
  have h1:=h.lu
  have n1:=h.n1
  have m1:=h.m1
  have k:∀ y,y≤n+m→y*(x+1)≤44490∧y*x≤44490:=fun y hy=>by
    have a1:y*(x+1)≤(n+m)*(x+e+2):=Nat.mul_le_mul hy (by omega)
    have a2:y*x≤y*(x+1):=Nat.mul_le_mul_left _ (by omega)
    rw [Nat.mul_comm (n+m)] at a1
    omega
  exact ⟨by have:=(k 2 (by omega)).2;omega,k⟩
theorem C0.ml {x n m e:Nat} (h:C0 x n m e):max n m<2 ^ e∧max n m*(2*e+4)≤960:=by
  have:=h.ne;have:=h.me;have:=h.n60;have:=h.m60;have:=h.e6
  have:max n m*(2*e+4)≤60*16:=Nat.mul_le_mul (by omega) (by omega)
  exact ⟨by omega,this⟩
theorem qoB {m:List Nu} {g:List Int} {x:Nat} (hm:qap m) (nm:Nz m) (m0:m≠[]) (F:Fp x (qa6 m)) (lg:Lz g) (mq:MQ (co g) (co (qa6 m))) (P:Prim g) :
    Gq x x (mnc g)∧mnc g≠[]∧(mnc g).length≤m.length∧MR (pwo (mnc g)) (pwo m)∧(∀ k,Bd x (co g k))∧pwo (mnc g) ((mnc g).length - 1)=1:=by
  have lzm:=ql8 hm nm m0
  have gl:g.length≤m.length:=by have:=qhI lg lzm mq;rw [qaP] at this;exact this
  have bg:=F g lg P mq
  refine ⟨⟨qf1 lg,qkc lg,_,(qkd lg.2 (qkb bg)).1,(bg (g.length - 1)).le (by omega),(qkd lg.2 (qkb bg)).2⟩,List.length_pos_iff.mp (by rw [qcl];exact lg.1),by rw [qcl];exact gl,MR.of (qfh lg) (qdw hm) (qeZ lg) mq,bg,qgf ?_⟩
  rw [qcl];exact qjr lg
theorem qlb (h:qaY K vs H Q E):qfW K { nx:=fun _ H'=>Q .non H',rt:=Q } (L2.start ["P", "Q", "shared"] vs) H:=by
  obtain ⟨p,q,l,m,b,D,n,n',e,rfl,⟨xs,hp,hN⟩,⟨ys,hq,hM⟩,Gl,Gm,m0,ln,mn,fpl,fpm,Z,b9,k⟩:=h
  obtain ⟨D9,zz⟩:=Z.dd
  obtain ⟨mxe,mx9⟩:=Z.ml
  have n60:=Z.n60
  have m60:=Z.m60
  have n1':=Z.n1
  have m1':=Z.m1
  have ne':=Z.ne
  have me':=Z.me
  unfold qfW
  rwa [hp,hq]
  refine ⟨l,hN,m,hM,b,b,Gl,Gm,by omega,by omega,by omega,by omega,D,fun l0 _=>⟨fpl l0,fpm⟩,e,by rw [Nat.pow_succ];omega,n+n',by omega,by omega,Z.lu,fun _ z=>absurd z m0,fun _ g R P r zs H1 s1 hr hz=>?_⟩
  have lg:=R.lz
  have lzm:Lz (qa6 m):=qeO (qdv Gm.low Gm.nz) fun z=>m0 (List.length_eq_zero_iff.mp (by rw [← qaP,z];rfl))
  have gl:g.length≤m.length:=by have:=qhI lg lzm R.right;rwa [qaP] at this
  have bg:=fpm g lg P R.right
  have Gg:Gq D D (mnc g):=⟨qf1 lg,qkc lg,_,(qkd lg.2 (qkb bg)).1,(bg (g.length - 1)).le (by omega),(qkd lg.2 (qkb bg)).2⟩
  have g0:mnc g≠[]:=List.length_pos_iff.mp (by rw [qcl];exact lg.1)
  have M1:MR (pwo (mnc g)) (pwo l):=MR.of (qfh lg) (qdw Gl.low) (qeZ lg) R.left
  have M2:MR (pwo (mnc g)) (pwo m):=MR.of (qfh lg) (qdw Gm.low) (qeZ lg) R.right
  have hp1:=s1 _ _ hp
  rwa [hr,hp1]
  have lgl:0<(mnc g).length:=List.length_pos_iff.mpr g0
  have e1:=(zz (l.length+1 - (mnc g).length) (by omega)).1
  have e2:=(zz (l.length+1 - (mnc g).length) (by omega)).2
  refine ⟨l,hN.tp (tpS s1),mnc g,hz,b,b,Gl,D,D,Gg,g0,by omega,by rw [qcl];omega,by omega,by omega,by omega,by omega,M1,fun r0 R0 H2 s2 ⟨zs0,h0,n0⟩ lR0 nR0 lenR0 eR0=>?_⟩
  obtain ⟨A0,bA0,eA0⟩:=qla Gl.low lR0 Gl.clr.1 (show l.length≤max n n' by omega) mxe lg P R.left eR0
  have G0:Gq (D+(b+max n n'*(2*e+4))) b R0:=qke lR0 nR0 (qbe Gl.low).1 Gl.clr.2.1 (N:=fun k=>co g (g.length - 1)*co A0 k) (fun k=>by rw [eA0,Rat.div_def];push_cast;rfl) fun k=>Bd.mul (bg _) (bA0 k)
  have bds0:∀ q∈R0,Bd (D+(b+max n n'*(2*e+4))) q.1∧Bd b q.2:=fun q hq=>⟨G0.clr.2.2 q hq,by
    obtain ⟨M,O,bM,_⟩:=G0.ov
    exact qdz (Int.ne_of_gt O.1) (O.2 q hq) bM⟩
  have s02:=s1.trans s2
  have hq2:=s02 _ _ hq
  have hr2:=s2 _ _ hr
  rwa [hq2,hr2]
  have e1:=(zz (m.length+1 - (mnc g).length) (by omega)).1
  have e2:=(zz (m.length+1 - (mnc g).length) (by omega)).2
  refine ⟨m,hM.tp (tpS s02),mnc g,hz.tp (tpS s2),b,b,Gm,D,D,Gg,g0,by omega,by rw [qcl];omega,by omega,by omega,by omega,by omega,M2,fun r1 R1 H3 s3 ⟨zs1,h1,n1⟩ lR1 nR1 lenR1 eR1=>?_⟩
  obtain ⟨A1,bA1,eA1⟩:=qla Gm.low lR1 Gm.clr.1 (show m.length≤max n n' by omega) mxe lg P R.right eR1
  have R1n:R1≠[]:=fun z=>by
    have:=eR1 (m.length - 1)
    rw [z] at this
    exact qbz Gm.low Gm.nz m0 this
  have G1:Gq (D+(b+max n n'*(2*e+4))) b R1:=qke lR1 nR1 (qbe Gm.low).1 Gm.clr.2.1 (N:=fun k=>co g (g.length - 1)*co A1 k) (fun k=>by rw [eA1,Rat.div_def];push_cast;rfl) fun k=>Bd.mul (bg _) (bA1 k)
  have p1:0<R1.length:=List.length_pos_iff.mpr R1n
  have bds:∀ q∈R1,Bd (D+(b+max n n'*(2*e+4))) q.1∧Bd b q.2:=fun q hq=>⟨G1.clr.2.2 q hq,by
    obtain ⟨M,O,bM,_⟩:=G1.ov
    exact qdz (Int.ne_of_gt O.1) (O.2 q hq) bM⟩
  have l0:=lenR0
  refine ⟨R0,⟨zs0,s3 _ _ h0,n0.tp (tpS s3)⟩,R1,⟨zs1,h1,n1⟩,lR0,lR1,nR1,R1n,fun q hq=>⟨(bds0 q hq).1.mono (by omega),(bds0 q hq).2.mono (by omega)⟩,fun q hq=>⟨(bds q hq).1.mono (by omega),(bds q hq).2.mono (by omega)⟩,by omega,by omega,fun fa fl fv t u v H4 s4 ht ⟨us,hu,nu⟩ ⟨vs,hv,nv⟩=>?_⟩
  generalize hla:qa9 R1 (R1.length - 1)=la at fv
  have lowT:=ql6 (a:=fa.1) lR0 fl.pos
  have lowB:=ql6 (a:=fa.1) lR1 fl.pos
  have eT:∀ k,pwo (trim (R0.map fun q=>nmul q (fa.1,fa.2))) k=val fa*pwo R0 k:=fun k=>(qfR lowT k).trans (ql5 lR0 fl.pos k)
  have eB:∀ k,pwo (trim (R1.map fun q=>nmul q (fa.1,fa.2))) k=val fa*pwo R1 k:=fun k=>(qfR lowB k).trans (ql5 lR1 fl.pos k)
  have tlen:(trim (R0.map fun q=>nmul q (fa.1,fa.2))).length≤R0.length:=Nat.le_trans (qda _) (by rw [List.length_map];exact Nat.le_refl _)
  have blen:(trim (R1.map fun q=>nmul q (fa.1,fa.2))).length≤R1.length:=Nat.le_trans (qda _) (by rw [List.length_map];exact Nat.le_refl _)
  have lT:qap (trim (R0.map fun q=>nmul q (fa.1,fa.2))):=fun q hq=>lowT q (qb1 hq)
  have lB:qap (trim (R1.map fun q=>nmul q (fa.1,fa.2))):=fun q hq=>lowB q (qb1 hq)
  have nT:=qeh (R0.map fun q=>nmul q (fa.1,fa.2))
  have nB:=qeh (R1.map fun q=>nmul q (fa.1,fa.2))
  generalize trim (R0.map fun q=>nmul q (fa.1,fa.2))=T at nu eT tlen lT nT
  generalize trim (R1.map fun q=>nmul q (fa.1,fa.2))=B at nv eB blen lB nB
  have s0:val fa≠0:=fun z=>by rw [z] at fv;grind
  have la1:pwo R1 (R1.length - 1)=val la:=by unfold pwo;rw [hla]
  have tB:pwo B (R1.length - 1)=1:=by rw [eB,la1];exact fv
  have lenB:B.length=R1.length:=by
    rcases Nat.lt_or_ge (R1.length - 1) B.length with z | z
    · omega
    · rw [qbd z] at tB;exact absurd tB (by decide)
  obtain ⟨U,W,eU⟩:=qse Gl.low Gm.low R
  have gtop:pwo (mnc g) ((mnc g).length - 1)≠0:=qbz (qf1 lg) (qkc lg) g0
  have c0:∀ k,pwo l k=cvL (rw' R0) (pwo (mnc g)) k:=fun k=>(eR0 k).trans (qpy _ _ _)
  have c1:∀ k,pwo m k=cvL (rw' R1) (pwo (mnc g)) k:=fun k=>(eR1 k).trans (qpy _ _ _)
  have s04:=(s02.trans s3).trans s4
  refine k t H4 T B s04 ⟨u,v,ht,⟨us,hu,nu⟩,⟨vs,hv,nv⟩⟩ ⟨lT,lB,nT,nB,List.length_pos_iff.mp (by omega),?_,sr_cop.mp ?_⟩ ?_
  · refine qei (qaM lB _) qon ?_
    have:val ((1:Int),(1:Int))=1:=by unfold val;show ((1:Int):Rat) / ((1:Int):Rat)=1;rw [show ((1:Int):Rat)=1 from rfl];grind
    rw [this,lenB];exact tB
  · exact (qsd (t:=rw' R0) (b:=rw' R1) (ql4 R0) (ql4 R1) gtop (fun i hi=>qbd (by omega)) c0 c1 eU).scal s0 eT eB
  · have e1:sr T=Sr.num (val fa)*sr R0:=Sr.ext' fun k=>by rw [Sr.num_mul];exact eT k
    have e2:sr B=Sr.num (val fa)*sr R1:=Sr.ext' fun k=>by rw [Sr.num_mul];exact eB k
    rw [e1,e2,qcE eR0,qcE eR1];grind
structure Al (b n m e:Nat) (T B:List Nu):Prop where
  lw:Lw T B
  gt:Gq (2*b+960) (2*b+960) T
  gb:Gq (2*b+960) (2*b+960) B
  tn:T.length≤n
  bm:B.length≤m
  ft:T≠[]→Fp (b+n*(2*e+4)) (qa6 T)
  fb:Fp (b+m*(2*e+4)) (qa6 B)
theorem Rp.all {b n m e:Nat} {T B:List Nu} (h:Rp b n m T B) (ne:n<2 ^ e) (me:m<2 ^ e) (n60:n≤60) (m60:m≤60) (e6:e≤6):Al b n m e T B:=by
  obtain ⟨g1,g2,l1,l2,f1,f2⟩:=h.facts ne me
  have:max n m*(2*e+4)≤60*16:=Nat.mul_le_mul (by omega) (by omega)
  exact ⟨h.lw,g1.mono (by omega) (by omega),g2.mono (by omega) (by omega),l1,l2,f1,f2⟩
theorem qsC (b n m e:Nat):b+n*(2*e+4)≤b+max n m*(2*e+4):=Nat.add_le_add_left (Nat.mul_le_mul_right _ (by omega)) _
theorem qsD (b n m e:Nat):b+m*(2*e+4)≤b+max n m*(2*e+4):=Nat.add_le_add_left (Nat.mul_le_mul_right _ (by omega)) _
theorem qsl {T B:List Nu} {b n e:Nat} {l m:List Nu} (h:Lw T B) (Gl:Gq b b l) (Gm:Gq b b m) (m0:m≠[]) (ln:l.length≤n) (mn:m.length≤n) (ne:n<2 ^ e) (eq:sr T*sr m=sr l*sr B) :
    Gq (2*b+(2*b+n*(2*e+4))) (2*b+(2*b+n*(2*e+4))) T∧Gq (2*b+(2*b+n*(2*e+4))) (2*b+(2*b+n*(2*e+4))) B∧T.length≤l.length∧B.length≤m.length:=by
  have bl:=Gl.clr
  have bm:=Gm.clr
  have B1:=qaG (Int.ne_of_gt (qbe Gl.low).1)
  have B2:=qaG (Int.ne_of_gt (qbe Gm.low).1)
  have c1:∀ z∈(qa6 l).map (qbv m*·),Bd (2*b) z:=fun z hz=>by
    obtain ⟨y,hy,rfl⟩:=List.mem_map.mp hz
    exact ((bm.2.1).mul (bl.1 y hy)).mono (by omega)
  have c2:∀ z∈(qa6 m).map (qbv l*·),Bd (2*b) z:=fun z hz=>by
    obtain ⟨y,hy,rfl⟩:=List.mem_map.mp hz
    exact ((bl.2.1).mul (bm.1 y hy)).mono (by omega)
  have lm:=ql8 Gm.low Gm.nz m0
  have z1:=(qbe Gl.low).1
  have z2:=(qbe Gm.low).1
  have lD:Lz ((qa6 m).map (qbv l*·)):=⟨by rw [List.length_map];exact lm.1,by rw [List.length_map,qdu];exact Int.mul_ne_zero (Int.ne_of_gt z1) lm.2⟩
  have tN:Tz ((qa6 l).map (qbv m*·)):=by
    rcases qdv Gl.low Gl.nz with h | h
    · left;rw [h];rfl
    · right;rw [List.length_map,qdu];exact Int.mul_ne_zero (Int.ne_of_gt z2) h
  have i1:=Sr.num_inv B1
  have i2:=Sr.num_inv B2
  have e1:si (qa6 l)=Sr.num (qbv l:Rat)*sr l:=by rw [qeF Gl.low];grind
  have e2:si (qa6 m)=Sr.num (qbv m:Rat)*sr m:=by rw [qeF Gm.low];grind
  have:=qkk h lD tN c1 c2 (by rw [List.length_map,qaP];exact ln) (by rw [List.length_map,qaP];exact mn) ne (by rw [qeE,qeE,e1,e2];grind)
  rw [List.length_map,List.length_map,qaP,qaP] at this
  exact ⟨this.1,this.2.1.mono (by omega) (by omega),this.2.2.1,this.2.2.2⟩
theorem qpG {P A C:List Nu} (lP:qap P) (nP:Nz P) (lA:qap A) (nA:Nz A) (A0:A≠[]) (oA:qa9 A (A.length - 1)=(1,1)) (lC:qap C) (nC:Nz C) (C0:C≠[]) (oC:qa9 C (C.length - 1)=(1,1)) (h:∀ k,pwo P k=cv (pwo A) (pwo C) A.length k):P≠[]∧qa9 P (P.length - 1)=(1,1):=by
  obtain ⟨_,l2,l3⟩:=qdF lP nP lA nA A0 lC nC C0 h
  rw [qgf oA,qgf oC] at l2
  exact ⟨l3,qor lP (by rw [l2];grind)⟩
theorem qsm {a b c d:Sr} (pa:Sr.Pol a) (pb:Sr.Pol b) (pc:Sr.Pol c) (pd:Sr.Pol d) (h1:Sr.Cs a c) (h2:Sr.Cs a d) (h3:Sr.Cs b c) (h4:Sr.Cs b d):Sr.Cs (a*b) (c*d):=by
  have k1:=(h1.mul pa pc h2).comm
  have k2:=(h3.mul pb pc h4).comm
  exact (k1.mul (pc.mul pd) pa k2).comm
theorem Lw.bot {T B:List Nu} (h:Lw T B) (T':List Nu) (lt:qap T') (nt:Nz T') (c:Sr.Cs (sr T') (sr B)):Lw T' B:=⟨lt,h.lb,nt,h.nb,h.ne,h.one,c⟩
theorem qmv (h:qaF K vs H Q E):qhs K { nx:=fun _ H'=>Q .non H',rt:=Q } (L2.start ["F", "G", "one", "other"] vs) H:=by
  obtain ⟨p,q,T,B,T',B',b,n,m,e,rfl,⟨u,v,hp,Pu,Pv⟩,⟨u',v',hq,Pu',Pv'⟩,R1,R2,Z,b9,k⟩:=h
  have A1:=R1.all Z.ne Z.me Z.n60 Z.m60 Z.e6
  have A2:=R2.all Z.ne Z.me Z.n60 Z.m60 Z.e6
  have n60:=Z.n60
  have m60:=Z.m60
  obtain ⟨mxe,mx9⟩:=Z.ml
  unfold qhs
  rwa [hp,hq]
  refine ⟨T,Pu,B',Pv',_,A1.gt,A2.gb,R2.lw.ne,b+max n m*(2*e+4),n,A1.tn,m,A2.bm,fun h=>(A1.ft h).mono (qsC ..),A2.fb.mono (qsD ..),e,Z,by omega,fun t1 H1 P1 Q1 s1 ⟨a1,d1,h1,Pa1,Pd1⟩ L1 eq1=>?_⟩
  have hp1:=s1 _ _ hp
  have hq1:=s1 _ _ hq
  unfold qhr
  rwa [hp1,hq1]
  refine ⟨T',Pu'.same s1,B,Pv.same s1,_,A2.gt,A1.gb,R1.lw.ne,b+max n m*(2*e+4),n,A2.tn,m,A1.bm,fun h=>(A2.ft h).mono (qsC ..),A1.fb.mono (qsD ..),e,Z,by omega,fun t2 H2 P2 Q2 s2 ⟨a2,d2,h2,Pa2,Pd2⟩ L2' eq2=>?_⟩
  obtain ⟨g1,g1',l1,l1'⟩:=qsl L1 A1.gt A2.gb R2.lw.ne (show _≤max n m by have:=A1.tn;omega) (show _≤max n m by have:=A2.bm;omega) mxe eq1
  obtain ⟨g2,g2',l2,l2'⟩:=qsl L2' A2.gt A1.gb R1.lw.ne (show _≤max n m by have:=A2.tn;omega) (show _≤max n m by have:=A1.bm;omega) mxe eq2
  have:=A1.tn;have:=A1.bm;have:=A2.tn;have:=A2.bm
  have h12:=s2 _ _ h1
  obtain ⟨za1,ha1,na1⟩:=Pa1.same s2
  obtain ⟨zd1,hd1,nd1⟩:=Pd1.same s2
  obtain ⟨za2,ha2,na2⟩:=Pa2
  obtain ⟨zd2,hd2,nd2⟩:=Pd2
  unfold qhq
  rwa [h12,h2,ha1,ha2]
  refine ⟨P1,na1,P2,na2,_,_,g1,_,_,g2,by omega,by omega,by omega,by omega,by omega,by omega,fun r3 X H3 s3 PX GX lX eX=>?_⟩
  have h13:=s3 _ _ h12
  have h23:=s3 _ _ h2
  have hd13:=s3 _ _ hd1
  have hd23:=s3 _ _ hd2
  rwa [h13,h23,hd13,hd23]
  refine ⟨Q1,nd1.tp (tpS s3),Q2,nd2.tp (tpS s3),_,_,g1',_,_,g2',by omega,by omega,by omega,by omega,by omega,by omega,fun r4 Y H4 s4 PY GY lY eY=>⟨sz (by decide),fun w hw=>?_⟩⟩
  have s5:=qag hw (HO.tup [V.ref r3,V.ref r4])
  obtain ⟨Y0,oY⟩:=qpG GY.low GY.nz L1.lb L1.nb L1.ne L1.one L2'.lb L2'.nb L2'.ne L2'.one eY
  have o1:=qcE eX
  have o2:=qcE eY
  obtain ⟨f1,pf1,d1',n1'⟩:=qcK L1 (qan T) (qan B') eq1
  obtain ⟨f2,pf2,d2',n2'⟩:=qcK L2' (qan T') (qan B) eq2
  have c1:Sr.Cs (sr P1) (sr Q2):=((R1.lw.cs.comm.dvd pf1 n1').comm).dvd pf2 d2'
  have c2:Sr.Cs (sr P2) (sr Q1):=((R2.lw.cs.comm.dvd pf2 n2').comm).dvd pf1 d1'
  refine k w _ X Y (((s1.trans s2).trans s3).trans (s4.trans s5)) ⟨r3,r4,qai,(PX.same s4).same s5,PY.same s5⟩ ⟨GX.low,GY.low,GX.nz,GY.nz,Y0,oY,?_⟩ ?_
  · rw [o1,o2]
    exact qsm (qan _) (qan _) (qan _) (qan _) L1.cs c1 c2 L2'.cs
  · rw [o1,o2]
    have:sr P1*sr P2*(sr B*sr B')=(sr P1*sr B')*(sr P2*sr B):=by grind
    rw [this,eq1,eq2];grind
theorem Rp.turn {b n m:Nat} {T B X Y:List Nu} (h:Rp b n m T B) (T0:T≠[]) (l:Lw X Y) (eq:sr X*sr T=sr B*sr Y):Rp b m n X Y:=by
  obtain ⟨N,D,lD,tN,bN,bD,nN,nD,e⟩:=h.rp
  obtain ⟨Z,pZ,eD,eN⟩:=qcK h.lw (qbD N) (qbD D) e
  have Z0:Z≠0:=fun z=>qfi lD (by rw [eD,z];grind)
  have N0:si N≠0:=by rw [eN];exact Sr.ne_mul pZ (qan T) Z0 (qcJ h.lw.lt h.lw.nt T0)
  refine ⟨l,D,N,qeO tN (fun z=>N0 (by rw [z,qmO []];exact Sr.L_nil)),.inr lD.2,bD,bN,nD,nN,?_⟩
  rw [eN,eD]
  have:sr X*(Z*sr T)=Z*(sr X*sr T):=by grind
  rw [this,eq];grind
theorem qoC (h:qbZ K vs H Q E):qjh K { nx:=fun _ H'=>Q .non H',rt:=Q } (L2.start ["F", "G"] vs) H:=by
  obtain ⟨p,q,T,B,T',B',b,n,m,e,rfl,F,⟨u',v',hq,Pu',Pv'⟩,T0,R1,R2,Z,b9,k⟩:=h
  have A2:=R2.all Z.me Z.ne Z.m60 Z.n60 Z.e6
  have n60:=Z.n60
  have m60:=Z.m60
  unfold qjh
  rwa [hq]
  refine ⟨B',Pv',T',Pu',_,A2.gb,A2.gt,T0,b+max n m*(2*e+4),n,A2.bm,m,A2.tn,fun _=>A2.fb.mono (qsC ..),(A2.ft T0).mono (qsD ..),e,Z,by omega,fun t1 H1 P1 Q1 s1 F1 L1 eq1=>?_⟩
  refine ⟨_,_,T,B,P1,Q1,b,n,m,e,rfl,F.same s1,F1,R1,R2.turn T0 L1 eq1,Z,b9,fun t H2 X Y s2 F2 L2' eq2=>k t H2 X Y (s1.trans s2) F2 L2' ?_⟩
  refine Sr.cancel ((qan X).mul ((qan B).mul (qan T'))) (((qan T).mul (qan B')).mul (qan Y)) (qan Q1) (qcJ L1.lb L1.nb L1.ne) ?_
  have e1:sr X*(sr B*sr T')*sr Q1=sr T'*(sr X*(sr B*sr Q1)):=by grind
  have e2:sr T*sr B'*sr Y*sr Q1=sr T*sr Y*(sr B'*sr Q1):=by grind
  rw [e1,e2,eq2,← eq1];grind
theorem qoD {F:Nat→Int} {w x:Nat} (hz:∀ k,w≤k→F k=0) (hb:∀ k,Bd x (F k)):∃ Z:List Int,Tz Z∧(∀ k,co Z k=F k)∧(∀ z∈Z,Bd x z)∧Z.length≤w:=by
  have h0:∀ k,co ((List.range w).map F) k=F k:=fun k=>by
    unfold co
    rw [List.getD_eq_getElem?_getD,List.getElem?_map]
    rcases Nat.lt_or_ge k w with c | c
    · rw [List.getElem?_range c];rfl
    · rw [List.getElem?_eq_none (by rw [List.length_range];exact c)];exact (hz k c).symm
  rcases qgl ((List.range w).map F) with z | ⟨g,lg,gl,eg⟩
  · exact ⟨[],.inl rfl,fun k=>by rw [← h0,z];exact qaA (Nat.zero_le _),(fun _ h=>nomatch h),Nat.zero_le _⟩
  · refine ⟨g,.inr lg.2,fun k=>(eg k).trans (h0 k),fun z hz=>?_,by rw [List.length_map,List.length_range] at gl;exact gl⟩
    obtain ⟨i,hi,rfl⟩:=List.getElem_of_mem hz
    have:co g i=g[i]:=by unfold co;rw [List.getD_eq_getElem?_getD,List.getElem?_eq_getElem hi];rfl
    rw [← this,eg,h0];exact hb i
theorem qre {N D:List Int} {b d n e:Nat} (bN:∀ z∈N,Bd b z) (bD:∀ z∈D,Bd d z) (nl:N.length≤n) (ne:n<2 ^ e) (k:Nat):Bd (b+d+e) (cvL N (co D) k):=by
  have h:=qlW (h:=2 ^ d) (q:=2 ^ b) (fun k=>Nat.le_of_lt (qbM bD k)) N (fun z hz=>Nat.le_of_lt (bN z hz)) k
  have p0:0<2 ^ b*2 ^ d:=Nat.mul_pos (Nat.pow_pos (by decide)) (Nat.pow_pos (by decide))
  have h2:N.length*(2 ^ b*2 ^ d)<2 ^ e*(2 ^ b*2 ^ d):=Nat.mul_lt_mul_of_pos_right (by omega) p0
  unfold Bd
  rw [Nat.pow_add,Nat.pow_add,Nat.mul_comm (2 ^ b*2 ^ d)]
  omega
theorem qoE {N D:List Int} {n m k:Nat} (nl:N.length≤n) (dl:D.length≤m) (h:n+m≤k+1):cvL N (co D) k=0:=qb8 (n:=D.length) (fun i hi=>qaA hi) N k (by omega)
theorem qf3 {N D:List Int} {b d n m e:Nat} (bN:∀ z∈N,Bd b z) (bD:∀ z∈D,Bd d z) (nl:N.length≤n) (dl:D.length≤m) (ne:n<2 ^ e):∃ Z:List Int,Tz Z∧si Z=si N*si D∧(∀ z∈Z,Bd (b+d+e) z)∧Z.length≤n+m - 1:=by
  obtain ⟨Z,t,h,bz,l⟩:=qoD (F:=cvL N (co D)) (w:=n+m - 1) (x:=b+d+e) (fun k hk=>qoE nl dl (by omega)) (qre bN bD nl ne)
  exact ⟨Z,t,ql7 h,bz,l⟩
theorem qlc {N D N' D':List Int} {b b' n m n' m' e w:Nat} {s:Int} (hs:s=1∨s = -1) (bN:∀ z∈N,Bd b z) (bD:∀ z∈D,Bd b z) (bN':∀ z∈N',Bd b' z) (bD':∀ z∈D',Bd b' z) (h1:N.length≤n) (h2:D.length≤m) (h3:N'.length≤n') (h4:D'.length≤m') (ne:n<2 ^ e) (ne':n'<2 ^ e) (w1:n+m'≤w+1) (w2:n'+m≤w+1) :
    ∃ Z:List Int,Tz Z∧si Z=si N*si D'+Sr.num (s:Rat)*si N'*si D∧(∀ z∈Z,Bd (b+b'+e+1) z)∧Z.length≤w:=by
  obtain ⟨Z,t,h,bz,l⟩:=qoD (F:=fun k=>cvL N (co D') k+s*cvL N' (co D) k) (w:=w) (x:=b+b'+e+1) (fun k hk=>by rw [qoE h1 h4 (by omega),qoE h3 h2 (by omega)];omega) (fun k=>by
    have c1:=qre bN bD' h1 ne k
    have c2:=(qre bN' bD h3 ne' k).mono (show b'+b+e≤b+b'+e by omega)
    rcases hs with z | z
    · rw [z,Int.one_mul];exact c1.add c2
    · rw [z,show cvL N (co D') k + -1*cvL N' (co D) k=cvL N (co D') k - cvL N' (co D) k by omega];exact c1.sub c2)
  refine ⟨Z,t,Sr.ext' fun k=>?_,bz,l⟩
  have e1:(si N*si D').c k=((cvL N (co D') k:Int):Rat):=by rw [← ql7 (qej N D')];show ((co (qaQ N D') k:Int):Rat)=_;rw [qej]
  have e2:(Sr.num (s:Rat)*si N'*si D).c k=(s:Rat)*((cvL N' (co D) k:Int):Rat):=by
    rw [show Sr.num (s:Rat)*si N'*si D=Sr.num (s:Rat)*(si N'*si D) by grind,Sr.num_mul,← ql7 (qej N' D)]
    show (s:Rat)*((co (qaQ N' D) k:Int):Rat)=_
    rw [qej]
  show ((co Z k:Int):Rat)=(si N*si D').c k+(Sr.num (s:Rat)*si N'*si D).c k
  rw [e1,e2,h k]
  push_cast
  rfl
theorem qrf {l m:List Nu} {g:List Int} {A B:Sr} (hl:qap l) (hm:qap m) (R:RC (co (qa6 l)) (co (qa6 m)) g) (pA:Sr.Pol A) (pB:Sr.Pol B) (h1:sr l=A*sr (mnc g)) (h2:sr m=B*sr (mnc g)):Sr.Cs A B:=by
  have i1:=Sr.num_inv (qaG (Int.ne_of_gt (qbe hl).1))
  have i2:=Sr.num_inv (qaG (Int.ne_of_gt (qbe hm).1))
  have e1:si (qa6 l)=Sr.num (qbv l:Rat)*sr l:=by rw [qeF hl];grind
  have e2:si (qa6 m)=Sr.num (qbv m:Rat)*sr m:=by rw [qeF hm];grind
  have c1:si (qa6 l)=(Sr.num (qbv l:Rat)*Sr.num ((co g (g.length - 1):Rat))⁻¹*A)*si g:=by rw [e1,h1,qow R.lz];grind
  have c2:si (qa6 m)=(Sr.num (qbv m:Rat)*Sr.num ((co g (g.length - 1):Rat))⁻¹*B)*si g:=by rw [e2,h2,qow R.lz];grind
  have:=qs0 R (((Sr.Pol.num _).mul (Sr.Pol.num _)).mul pA) (((Sr.Pol.num _).mul (Sr.Pol.num _)).mul pB) c1 c2
  exact ((this.dvd ((Sr.Pol.num _).mul (Sr.Pol.num _)) rfl).comm.dvd ((Sr.Pol.num _).mul (Sr.Pol.num _)) rfl).comm
theorem qsn {T B T' B' G Qd R tp S X G':Sr} {s:Rat} (s0:s≠0) (pT:Sr.Pol T) (pT':Sr.Pol T') (pQ:Sr.Pol Qd) (pR:Sr.Pol R) (pG:Sr.Pol G) (pS:Sr.Pol S) (pX:Sr.Pol X) (pG':Sr.Pol G') (hB:B=Qd*G) (hB':B'=R*G) (cQR:Sr.Cs Qd R) (c1:Sr.Cs T B) (c2:Sr.Cs T' B') (ht:tp=T*R+Sr.num s*(T'*Qd)) (hX:tp=X*S) (hG:G=G'*S) (cX:Sr.Cs X G'):Sr.Cs X (Qd*R*G'):=by
  have k1:Sr.Cs T Qd:=c1.dvd pG (by rw [hB];grind)
  have k2:Sr.Cs T' R:=c2.dvd pG (by rw [hB'];grind)
  have a1:Sr.Cs (T*R) Qd:=(k1.comm.mul pQ pT cQR).comm
  have a2:Sr.Cs tp Qd:=a1.add ((Sr.Pol.num s).mul pT') (by rw [ht];grind)
  have b1:Sr.Cs (T'*Qd) R:=(k2.comm.mul pR pT' cQR.comm).comm
  have b2:Sr.Cs (Sr.num s*(T'*Qd)) R:=by
    obtain ⟨U,W,pU,pW,e⟩:=b1
    have i:=Sr.num_inv s0
    exact ⟨U*Sr.num s⁻¹,W,pU.mul (Sr.Pol.num _),pW,by grind⟩
  have b3:Sr.Cs tp R:=b2.add pT (by rw [ht];grind)
  have x1:Sr.Cs X Qd:=(a2.comm.dvd pS (show tp=S*X by rw [hX];grind)).comm
  have x2:Sr.Cs X R:=(b3.comm.dvd pS (show tp=S*X by rw [hX];grind)).comm
  exact (x1.mul pX pQ x2).mul pX (pQ.mul pR) cX
theorem qrg {l m:List Nu} {Y:Sr} (pY:Sr.Pol Y) (h:sr m=Y*sr l):MR (pwo l) (pwo m):=by
  obtain ⟨A,rfl⟩:=pY
  refine ⟨A,fun k=>?_⟩
  have:=congrFun (congrArg Sr.c h) k
  rw [Sr.L_mul] at this
  exact this
theorem qs3 {l m:List Nu} (h:MR (pwo l) (pwo m)):∃ Y,Sr.Pol Y∧sr m=Y*sr l:=by
  obtain ⟨A,hA⟩:=h
  refine ⟨Sr.L A,Sr.Pol.L A,?_⟩
  rw [Sr.L_mul]
  exact Sr.ext' hA
theorem qoF (h:qaZ K vs H Q E):qjg K { nx:=fun _ H'=>Q .non H',rt:=Q } (L2.start ["F", "G", "shared", "rest", "top", "spare"] vs) H:=by
  obtain ⟨p,q,T,B,T',B',b,n,m,e,rfl,⟨u,v,hp,Pu,Pv⟩,⟨u',v',hq,Pu',Pv'⟩,R1,R2,Z,k⟩:=h
  have Za:=Z.a
  have Zt:=Z.t
  have n1:=Zt.n1
  have n60:=Zt.n60
  have m60:=Za.m60
  have m50:=Z.m50
  have m1:=Za.m1
  have nt:n<2 ^ e:=by have:=Zt.ne;omega
  have A1:=R1.all nt Za.me (by omega) m60 Za.e6
  have A2:=R2.all nt Za.me (by omega) m60 Za.e6
  have b9:=Z.b9
  obtain ⟨zv,hv,nv⟩:=Pv
  obtain ⟨zv',hv',nv'⟩:=Pv'
  have:=A1.tn;have:=A1.bm;have:=A2.tn;have:=A2.bm
  have mm:max m m=m:=Nat.max_self m
  have lua:=Za.lu
  rw [mm] at lua
  unfold qjg
  rwa [hp,hq,hv,hv']
  refine ⟨B,nv,B',nv',_,_,A1.gb,A2.gb,by omega,by omega,by omega,by omega,b+m*(2*e+4),fun _ _=>⟨A1.fb,A2.fb⟩,e,by rw [Nat.pow_succ];have:=Za.me;omega,m+m,by omega,by omega,lua,fun z _=>absurd z R1.lw.ne,fun _ g1 G1 P1 r1 z1 H1 s1 h1 n1'=>?_⟩
  obtain ⟨Gg1,g10,lg1,M1,bg1,o1⟩:=qoB R1.lw.lb R1.lw.nb R1.lw.ne A1.fb G1.lz G1.left P1
  have M1':MR (pwo (mnc g1)) (pwo B'):=MR.of (qfh G1.lz) (qdw R2.lw.lb) (qeZ G1.lz) G1.right
  have lg1':0<(mnc g1).length:=List.length_pos_iff.mpr g10
  obtain ⟨D,eD⟩:∃ D,D=b+m*(2*e+4):=⟨_,rfl⟩
  rw [← eD] at Gg1 bg1 lua
  have mul9:m*(2*e+4)≤960:=Nat.le_trans (Nat.mul_le_mul m60 (show 2*e+4≤16 by have:=Za.e6;omega)) (by decide)
  have D9:D≤5960:=by omega
  have hq1:=s1 _ _ hq
  have hv1':=s1 _ _ hv'
  have DX:D≤2*b+e+1+max (n+m - 1) m*(2*e+4):=by have:=qsD (2*b+e+1) (n+m - 1) m e;omega
  have mD:∀ x,x≤n+m - 1+m→x*D≤44490∧x*(D+1)≤44490:=fun x hx=>by
    have h1:x*(D+1)≤(n+m - 1+m)*(2*b+e+1+max (n+m - 1) m*(2*e+4)+e+2):=Nat.mul_le_mul hx (by omega)
    have h2:x*D≤x*(D+1):=Nat.mul_le_mul_left _ (by omega)
    have h3:=Zt.lu
    rw [Nat.mul_comm] at h3
    omega
  have mB:=mD (B.length+1 - (mnc g1).length) (by omega)
  have mB':=mD (B'.length+1 - (mnc g1).length) (by omega)
  unfold qiv
  rwa [hq1,hv1',h1]
  refine ⟨B',nv'.tp (tpS s1),mnc g1,n1',_,_,A2.gb,D,D,Gg1,g10,by omega,by omega,by omega,by omega,by omega,by omega,M1',fun r2 R H2 s2 ⟨z2,h2,n2'⟩ lR nR lenR eR=>?_⟩
  have GR:=(qjs A2.gb lR nR A2.bm Za.me G1.lz P1 (bg1 _) G1.right eR).mono (b':=20000) (c':=11000) (by omega) (by omega)
  have s02:=s1.trans s2
  have hp2:=s02 _ _ hp
  obtain ⟨zu2,hu2,nu2⟩:=Pu.same s02
  unfold qiu
  rwa [hp2,hu2,h2]
  refine ⟨T,nu2,R,n2',_,_,A1.gt,20000,11000,GR,by omega,by omega,by omega,by omega,by omega,by omega,fun r3 X1 H3 s3 ⟨z3,h3,n3⟩ G3 l3 e3=>?_⟩
  have s03:=s02.trans s3
  have hp3:=s03 _ _ hp
  have hq3:=s03 _ _ hq
  have hv3:=s03 _ _ hv
  have h13:=(s2.trans s3) _ _ h1
  rwa [hq3,hp3,hv3,h13]
  refine ⟨B,nv.tp (tpS s03),mnc g1,n1'.tp (tpS (s2.trans s3)),_,_,A1.gb,D,D,Gg1,g10,by omega,by omega,by omega,by omega,by omega,by omega,M1,fun r4 Qd H4 s4 ⟨z4,h4,n4⟩ lQ nQ lenQ eQ=>?_⟩
  have GQ:=(qjs A1.gb lQ nQ A1.bm Za.me G1.lz P1 (bg1 _) G1.left eQ).mono (b':=20000) (c':=11000) (by omega) (by omega)
  have s04:=s03.trans s4
  obtain ⟨zu4,hu4,nu4⟩:=Pu'.same s04
  rwa [hu4,h4]
  refine ⟨T',nu4,Qd,n4,_,_,A2.gt,20000,11000,GQ,by omega,by omega,by omega,by omega,by omega,by omega,fun r5 X2 H5 s5 ⟨z5,h5,n5⟩ G5 l5 e5=>?_⟩
  have h35:=(s4.trans s5) _ _ h3
  rwa [h35,h5]
  have G3':=G3.mono (b':=32000) (c':=22000) (by omega) (by omega)
  have G5':=G5.mono (b':=32000) (c':=22000) (by omega) (by omega)
  obtain ⟨M,OM1,OM2,bM,q1,q2⟩:=qos G3' G5'
  refine ⟨X1,n3.tp (tpS (s4.trans s5)),X2,n5,G3.low,G5.low,M,OM1,OM2,_,_,bM,q1,q2,by omega,by omega,by omega,by omega,fun r6 tp H6 s6 ⟨z6,h6,n6⟩ G6 l6 e6=>?_⟩
  have tpl:tp.length≤n+m - 1:=by omega
  have s16:=((((s2.trans s3).trans s4).trans s5).trans s6)
  have h16:=s16 _ _ h1
  have oQ:=qcE eQ
  have oR:=qcE eR
  have ot:sr tp=sr T*sr R+Sr.num 1*(sr T'*sr Qd):=by
    rw [← qcE e3,← qcE e5]
    exact Sr.ext' fun k=>by show pwo tp k=(sr X1).c k+(Sr.num 1*sr X2).c k;rw [Sr.num_mul];exact e6 k
  obtain ⟨N,DD,lD,tN,bN,bD,nN,nD,eqN⟩:=R1.rp
  obtain ⟨N',DD',lD',tN',bN',bD',nN',nD',eqN'⟩:=R2.rp
  obtain ⟨Y1,pY1,eD1,eN1⟩:=qcK R1.lw (qbD N) (qbD DD) eqN
  obtain ⟨Y2,pY2,eD2,eN2⟩:=qcK R2.lw (qbD N') (qbD DD') eqN'
  have Y10:Y1≠0:=fun z=>qfi lD (by rw [eD1,z];grind)
  have Y20:Y2≠0:=fun z=>qfi lD' (by rw [eD2,z];grind)
  have G0:=qcJ Gg1.low Gg1.nz g10
  have ftp:tp≠[]→Fp (2*b+e+1+max (n+m - 1) m*(2*e+4)) (qa6 tp):=fun t0=>by
    obtain ⟨Zr,tz,ez,bz,lz⟩:=qlc (s:=1) (.inl rfl) bN bD bN' bD' nN nD nN' nD' nt nt (w:=n+m - 1) (by omega) (by omega)
    have eZ:si Zr=(Y1*Y2*sr (mnc g1))*sr tp:=by rw [ez,eN1,eD2,eN2,eD1,ot,oQ,oR,show ((1:Int):Rat)=1 from rfl];grind
    have Z0:si Zr≠0:=by rw [eZ];exact Sr.ne_mul ((pY1.mul pY2).mul (qan _)) (qan tp) (Sr.ne_mul (pY1.mul pY2) (qan _) (Sr.ne_mul pY1 pY2 Y10 Y20) G0) (qcJ G6.low G6.nz t0)
    have lzZ:Lz Zr:=qeO tz fun z=>Z0 (by rw [z,qmO []];exact Sr.L_nil)
    have:=qpF G6.low lzZ bz lz Zt.ne ((pY1.mul pY2).mul (qan _)) eZ
    exact this.mono (by have:=qsC (2*b+e+1) (n+m - 1) m e;omega)
  have fg1:Fp D (qa6 (mnc g1)):=qsk Gg1.low R1.lw.lb (qan Qd) oQ (by rw [eD];exact A1.fb)
  unfold qit
  rwa [h6,h16]
  refine ⟨tp,n6,mnc g1,n1'.tp (tpS s16),60000,60000,G6.mono (by omega) (by omega),Gg1.mono (by omega) (by omega),by omega,by omega,by omega,by omega,_,fun t0 _=>⟨ftp t0,fg1.mono DX⟩,e,by rw [Nat.pow_succ];have:=Zt.ne;have:=Zt.me;omega,n+m - 1+m,by omega,by omega,Zt.lu,fun _ z=>absurd z g10,fun _ g2 Rr P2 r7 z7 H7 s7 h7 n7=>?_⟩
  obtain ⟨Gg2,g20,lg2,M2,bg2,o2⟩:=qoB Gg1.low Gg1.nz g10 fg1 Rr.lz Rr.right P2
  have lg2':0<(mnc g2).length:=List.length_pos_iff.mpr g20
  have M2':MR (pwo (mnc g2)) (pwo tp):=MR.of (qfh Rr.lz) (qdw G6.low) (qeZ Rr.lz) Rr.left
  have h67:=s7 _ _ h6
  unfold qis
  rwa [h67,h7]
  have m3:=mD (tp.length+1 - (mnc g2).length) (by omega)
  refine ⟨tp,n6.tp (tpS s7),mnc g2,n7,_,_,G6,D,D,Gg2,g20,by omega,by omega,by omega,by omega,by omega,by omega,M2',fun r8 X H8 s8 PX lX nX lenX eX=>?_⟩
  have s08:=(((s04.trans s5).trans s6).trans s7).trans s8
  have s28:=((((s3.trans s4).trans s5).trans s6).trans s7).trans s8
  have hp8:=s08 _ _ hp
  have hv8:=s08 _ _ hv
  have h28:=s28 _ _ h2
  have h78:=s8 _ _ h7
  rwa [hp8,hv8,h28,h78]
  refine ⟨B,nv.tp (tpS s08),R,n2'.tp (tpS s28),_,_,A1.gb,20000,11000,GR,by omega,by omega,by omega,by omega,by omega,by omega,fun r9 Pb H9 s9 ⟨z9,h9,n9⟩ G9 l9 e9=>?_⟩
  have h79:=s9 _ _ h78
  rwa [h9,h79]
  have m4:=mD (Pb.length+1 - (mnc g2).length) (by omega)
  have oX:=qcE eX
  have o9:=qcE e9
  obtain ⟨G',pG',oG⟩:=qs3 M2
  have M3:MR (pwo (mnc g2)) (pwo Pb):=qrg (Y:=sr Qd*G'*sr R) (((qan _).mul pG').mul (qan _)) (by rw [o9,oQ,oG];grind)
  refine ⟨Pb,n9,mnc g2,n7.tp (tpS (s8.trans s9)),_,_,G9,D,D,Gg2,g20,by omega,by omega,by omega,by omega,by omega,by omega,M3,fun r10 Y H10 s10 PY lY nY lenY eY=>⟨sz (by decide),fun wt hwt=>?_⟩⟩
  have st:=qag hwt (HO.tup [V.ref r8,V.ref r10])
  have oY:=qcE eY
  have S0:=qcJ Gg2.low Gg2.nz g20
  have cQR:=qrf R1.lw.lb R2.lw.lb G1 (qan Qd) (qan R) oQ oR
  have cXG:=qrf G6.low Gg1.low Rr (qan X) pG' oX oG
  have eYY:sr Y=sr Qd*sr R*G':=by
    refine Sr.cancel (qan Y) (((qan _).mul (qan _)).mul pG') (qan (mnc g2)) S0 ?_
    rw [← oY,o9,oQ,oG];grind
  have cs:=qsn (s:=1) (by decide) (qan T) (qan T') (qan Qd) (qan R) (qan (mnc g1)) (qan (mnc g2)) (qan X) pG' oQ oR cQR R1.lw.cs R2.lw.cs ot oX oG cXG
  rw [← eYY] at cs
  have R0:R≠[]:=fun z=>by
    have:=eR (B'.length - 1)
    rw [z] at this
    exact qbz R2.lw.lb R2.lw.nb R2.lw.ne this
  have lr:=qdF R2.lw.lb R2.lw.nb lR nR R0 Gg1.low Gg1.nz g10 eR
  have lp:=qdF G9.low G9.nz R1.lw.lb R1.lw.nb R1.lw.ne lR nR R0 e9
  have Y0:Y≠[]:=fun z=>by
    have:=eY (Pb.length - 1)
    rw [z] at this
    exact qbz G9.low G9.nz lp.2.2 this
  have ly:=qdF G9.low G9.nz lY nY Y0 Gg2.low Gg2.nz g20 eY
  have oneR:pwo R (R.length - 1)=1:=by
    have:=lr.2.1
    rw [qgf R2.lw.one,o1] at this
    grind
  have oneY:pwo Y (Y.length - 1)=1:=by
    have h1:=ly.2.1
    have h2:=lp.2.1
    rw [qgf R1.lw.one,oneR] at h2
    rw [o2,h2] at h1
    grind
  refine k wt _ X Y (((s08.trans s9).trans s10).trans st) ⟨r8,r10,qai,((PX.same s9).same s10).same st,PY.same st⟩ ⟨lX,lY,nX,nY,Y0,qor lY oneY,cs⟩ ?_
  have w1:sr X*(sr B*sr B')=sr Qd*sr R*sr (mnc g1)*(sr X*sr (mnc g1)):=by rw [oQ,oR];grind
  have w2:sr X*sr (mnc g1)=sr tp*G':=by rw [oX,oG];grind
  rw [w1,w2,eYY,ot,oQ,oR];grind
theorem Rp.neg {b n m:Nat} {T B X:List Nu} (h:Rp b n m T B) (lx:qap X) (nx:Nz X) (e:sr X=Sr.num (-1)*sr T):Rp b n m X B:=by
  obtain ⟨N,D,lD,tN,bN,bD,nN,nD,eq⟩:=h.rp
  have cs:Sr.Cs (sr X) (sr B):=by
    obtain ⟨U,W,pU,pW,q⟩:=h.lw.cs
    refine ⟨U*Sr.num (-1),W,pU.mul (Sr.Pol.num _),pW,?_⟩
    have i:Sr.num (-1)*Sr.num (-1)=1:=by rw [Sr.num_num,show (-1:Rat) * -1=1 by grind,Sr.num_one]
    rw [e];grind
  refine ⟨h.lw.bot X lx nx cs,N.map (-1*·),D,lD,?_,fun z hz=>?_,bD,by rw [List.length_map];exact nN,nD,?_⟩
  · rcases tN with z | z
    · left;rw [z];rfl
    · right;rw [List.length_map,qdu];omega
  · obtain ⟨y,hy,rfl⟩:=List.mem_map.mp hz
    have:=(bN y hy).neg
    rw [show -1*y = -y by omega];exact this
  · rw [qeE,e,show (((-1:Int)):Rat) = -1 from rfl]
    have:Sr.num (-1)*sr T*si D=Sr.num (-1)*(sr T*si D):=by grind
    rw [this,eq];grind
theorem qmw (h:qbR K vs H Q E):qhp K { nx:=fun _ H'=>Q .non H',rt:=Q } (L2.start ["F", "G"] vs) H:=by
  obtain ⟨p,q,T,B,T',B',b,n,m,e,rfl,F,⟨u',v',hq,Pu',Pv'⟩,R1,R2,Z,k⟩:=h
  obtain ⟨zu',hu',nu'⟩:=Pu'
  have Za:=Z.a
  have Zt:=Z.t
  have m1:=Za.m1
  have nt:n<2 ^ e:=by have:=Zt.ne;omega
  have A2:=R2.all nt Za.me (by have:=Zt.n60;omega) Za.m60 Za.e6
  have:=A2.tn
  have:=Zt.n60
  have b9:=Z.b9
  unfold qhp
  obtain ⟨M,O,bM,hb⟩:=A2.gt.ov
  rwa [hq,hu']
  refine ⟨sz (by decide),fun w hw=>?_⟩
  have s1:=qag hw (HO.tup [])
  refine ⟨_,s1 _ _ hq,_,rfl,_,rfl,_,s1 _ _ hu',[],trivial,T',nu'.tp (tpS s1),(fun _ h=>nomatch h),A2.gt.low,M,⟨O.1,fun _ h=>nomatch h⟩,O,_,_,bM,(fun _ h=>nomatch h),hb,by omega,by omega,by simp,by omega,fun r2 T2 H2 s2 P2 G2 l2 e2=>?_⟩
  have hq2:=s2 _ _ (s1 _ _ hq)
  rwa [hq2]
  refine ⟨sz (by decide),fun w3 hw3=>?_⟩
  have s3:=qag hw3 (HO.tup [V.ref r2,V.ref v'])
  have s03:=(s1.trans s2).trans s3
  have e2':sr T2=Sr.num (-1)*sr T':=Sr.ext' fun k=>by rw [Sr.num_mul];show pwo T2 k=_;rw [e2,qbd (l:=[]) (Nat.zero_le _)];show 0+_ = -1*pwo T' k;grind
  refine ⟨_,_,T,B,T2,B',b,n,m,e,rfl,F.same s03,⟨r2,v',qai,P2.same s3,Pv'.same s03⟩,R1,R2.neg G2.low G2.nz e2',Z,fun t H' X Y s ff lw eq=>k t H' X Y (s03.trans s) ff lw ?_⟩
  rw [eq,e2',Sr.num_one];grind
theorem qpH {B S':List Nu} {x m e:Nat} (lB:qap B) (nB:Nz B) (B0:B≠[]) (F:Fp x (qa6 B)) (bm:B.length≤m) (me:m<2 ^ e) (m31:m≤31) (lS:qap S') (nS:Nz S') (S0:S'≠[]) (eS:sr S'=Sr.D (sr B)):Fp (x+6+m*(2*e+4)) (qa6 S'):=by
  obtain ⟨y,P,y0,eB,pP,lP,pl⟩:=qoz lB nB B0
  have B1:=qaG (Int.ne_of_gt (qbe lB).1)
  have i1:=Sr.num_inv B1
  have e1:si (qa6 B)=Sr.num (qbv B:Rat)*sr B:=by rw [qeF lB];grind
  have bP:=F P lP pP (qoy ((Sr.Pol.num (qbv B:Rat)).mul (Sr.Pol.num y)) (by rw [e1,eB];grind))
  have eD:sr S'=Sr.num y*si (dI P):=by
    rw [eS,eB,Sr.D_num,qsZ]
  obtain ⟨Z,tz,hz,bz,lz⟩:=qoD (F:=co (dI P)) (w:=m) (x:=x+6) (fun k hk=>qaA (by rw [qov];omega)) (fun k=>by
    rw [qsg]
    rcases Nat.lt_or_ge (k+1) 64 with c | c
    · have:Bd 6 (((k+1:Nat):Int)):=by unfold Bd;omega
      have:=this.mul (bP (k+1))
      rw [show 6+x=x+6 by omega] at this;exact this
    · rw [qaA (by omega),Int.mul_zero];exact qbV _)
  have eZ:si Z=si (dI P):=by unfold si;congr 1;funext k;rw [hz]
  have y1:=Sr.num_inv y0
  have eZ2:si Z=Sr.num y⁻¹*sr S':=by rw [eZ,eD];grind
  have Z0:si Z≠0:=fun z=>by
    have:=qcJ lS nS S0
    exact this (by rw [eD,← eZ,z];grind)
  exact qpF lS (qeO tz fun z=>Z0 (by rw [z,qmO []];exact Sr.L_nil)) bz lz me (Sr.Pol.num _) eZ2
theorem qmx (h:qbb K vs H Q E):qhx K { nx:=fun _ H'=>Q .non H',rt:=Q } (L2.start ["F", "slope", "shared", "rest", "top"] vs) H:=by
  obtain ⟨p,T,B,b,n,m,e,rfl,⟨u,v,hp,⟨zu,hu,nu⟩,⟨zv,hv,nv⟩⟩,Rr,Z,Zm,b9,n31,m31,k⟩:=h
  have A1:=Rr.all Z.ne Z.me Z.n60 Z.m60 Z.e6
  have tn:=A1.tn
  have bm:=A1.bm
  have n1:=Z.n1
  have m1:=Z.m1
  unfold qhx
  rwa [hp,hv]
  refine ⟨B,nv,_,_,A1.gb,by omega,by omega,by omega,fun r1 S' H1 s1 ⟨z1,h1,n1'⟩ G1 l1 e1=>?_⟩
  have oS:=qtl e1
  have hp1:=s1 _ _ hp
  have hv1:=s1 _ _ hv
  have mm:max m m=m:=Nat.max_self m
  have lum:=Zm.lu
  rw [mm] at lum
  obtain ⟨X,eX⟩:∃ X,X=b+m*(2*e+4)+6+m*(2*e+4):=⟨_,rfl⟩
  rw [← eX] at lum
  have fS:S'≠[]→Fp X (qa6 S'):=fun h=>by rw [eX];exact qpH Rr.lw.lb Rr.lw.nb Rr.lw.ne A1.fb bm Z.me m31 G1.low G1.nz h oS
  have fB:Fp X (qa6 B):=A1.fb.mono (by omega)
  unfold qhw
  rwa [hp1,hv1,h1]
  refine ⟨B,nv.tp (tpS s1),S',n1',20000,20000,A1.gb.mono (by omega) (by omega),G1.mono (by omega) (by omega),by omega,by omega,by omega,by omega,X,fun _ h=>⟨fB,fS h⟩,e,by rw [Nat.pow_succ];have:=Z.me;omega,m+m,by omega,by omega,lum,fun z _=>absurd z Rr.lw.ne,fun _ g1 R1 P1 r2 z2 H2 s2 h2 n2'=>?_⟩
  obtain ⟨Gg,g0,lg,M1,bg,o1⟩:=qoB Rr.lw.lb Rr.lw.nb Rr.lw.ne A1.fb R1.lz R1.left P1
  have lg0:0<(mnc g1).length:=List.length_pos_iff.mpr g0
  have M2:MR (pwo (mnc g1)) (pwo S'):=MR.of (qfh R1.lz) (qdw G1.low) (qeZ R1.lz) R1.right
  obtain ⟨D,eD⟩:∃ D,D=b+m*(2*e+4):=⟨_,rfl⟩
  rw [← eD] at Gg bg
  have mul9:m*(2*e+4)≤31*16:=Nat.mul_le_mul m31 (show 2*e+4≤16 by have:=Z.e6;omega)
  have D9:D≤5500:=by omega
  have mD:∀ x,x≤40→x*D≤300000∧x*(D+1)≤300000:=fun x hx=>by
    have h1:x*(D+1)≤40*5501:=Nat.mul_le_mul hx (by omega)
    have h2:x*D≤x*(D+1):=Nat.mul_le_mul_left _ (by omega)
    omega
  have mB:=mD (B.length+1 - (mnc g1).length) (by omega)
  have mS:=mD (S'.length+1 - (mnc g1).length) (by omega)
  have s02:=s1.trans s2
  have hp2:=s02 _ _ hp
  have hv2:=s02 _ _ hv
  unfold qhv
  rwa [hp2,hv2,h2]
  refine ⟨B,nv.tp (tpS s02),mnc g1,n2',_,_,A1.gb,D,D,Gg,g0,by omega,by omega,by omega,by omega,by omega,by omega,M1,fun r3 R H3 s3 ⟨z3,h3,n3⟩ lR nR lenR eR=>?_⟩
  have GR:=(qjs A1.gb lR nR bm Z.me R1.lz P1 (bg _) R1.left eR).mono (b':=20000) (c':=11000) (by omega) (by omega)
  have s03:=s02.trans s3
  have hp3:=s03 _ _ hp
  have hu3:=s03 _ _ hu
  unfold qhu
  rwa [hp3,hu3,h3]
  refine ⟨T,nu.tp (tpS s03),_,_,A1.gt,by omega,by omega,by omega,fun r4 T' H4 s4 ⟨z4,h4,n4⟩ G4 l4 e4=>?_⟩
  have oT:=qtl e4
  have h34:=s4 _ _ h3
  rwa [h4,h34]
  refine ⟨T',n4,R,n3.tp (tpS s4),_,_,G4,20000,11000,GR,by omega,by omega,by omega,by omega,by omega,by omega,fun r5 X1 H5 s5 ⟨z5,h5,n5⟩ G5 l5 e5=>?_⟩
  have s35:=s4.trans s5
  have s05:=s03.trans s35
  have hp5:=s05 _ _ hp
  have hu5:=s05 _ _ hu
  have h15:=((s2.trans s3).trans s35) _ _ h1
  have h25:=(s3.trans s35) _ _ h2
  rwa [hp5,hu5,h15,h25]
  refine ⟨S',n1'.tp (tpS ((s2.trans s3).trans s35)),mnc g1,n2'.tp (tpS (s3.trans s35)),_,_,G1,D,D,Gg,g0,by omega,by omega,by omega,by omega,by omega,by omega,M2,fun r6 E' H6 s6 ⟨z6,h6,n6⟩ lE nE lenE eE=>?_⟩
  have GE:=(qjs G1 lE nE (show S'.length≤m by omega) Z.me R1.lz P1 (bg _) R1.right eE).mono (b':=20000) (c':=11000) (by omega) (by omega)
  have s06:=s05.trans s6
  have hu6:=s06 _ _ hu
  rwa [hu6,h6]
  refine ⟨T,nu.tp (tpS s06),E',n6,_,_,A1.gt,20000,11000,GE,by omega,by omega,by omega,by omega,by omega,by omega,fun r7 X2 H7 s7 ⟨z7,h7,n7⟩ G7 l7 e7=>?_⟩
  have h57:=(s6.trans s7) _ _ h5
  rwa [h57,h7]
  have G5':=G5.mono (b':=40000) (c':=30000) (by omega) (by omega)
  have G7':=G7.mono (b':=40000) (c':=30000) (by omega) (by omega)
  obtain ⟨M,OM1,OM2,bM,q1,q2⟩:=qos G5' G7'
  refine ⟨X1,n5.tp (tpS (s6.trans s7)),X2,n7,G5.low,G7.low,M,OM1,OM2,_,_,bM,q1,q2,by omega,by omega,by omega,by omega,fun r8 tp H8 s8 P8 G8 l8 e8=>?_⟩
  have s08:=(s06.trans s7).trans s8
  have hp8:=s08 _ _ hp
  have hv8:=s08 _ _ hv
  have h38:=(((s35.trans s6).trans s7).trans s8) _ _ h3
  unfold qht
  rwa [hp8,hv8,h38]
  refine ⟨B,nv.tp (tpS s08),R,n3.tp (tpS (((s35.trans s6).trans s7).trans s8)),_,_,A1.gb,20000,11000,GR,by omega,by omega,by omega,by omega,by omega,by omega,fun r9 Y H9 s9 P9 G9 l9 e9=>⟨sz (by decide),fun w hw=>?_⟩⟩
  have sw:=qag hw (HO.tup [V.ref r8,V.ref r9])
  have oR:=qcE eR
  have oE:=qcE eE
  have o5:=qcE e5
  have o7:=qcE e7
  have o9:=qcE e9
  have o8:sr tp=Sr.D (sr T)*sr R - sr T*sr E':=by
    rw [← oT,← o5,← o7]
    exact Sr.ext' fun k=>by rw [Sr.sub_c];have:=e8 k;show pwo tp k=pwo X1 k - pwo X2 k;grind
  have cRE:=qrf Rr.lw.lb G1.low R1 (qan R) (qan E') oR oE
  have key:=Sr.slope_cop (qan T) (qan B) (qan (mnc g1)) (qan R) (qan E') (qcJ Rr.lw.lb Rr.lw.nb Rr.lw.ne) (by rw [oR];grind) (by rw [← oS,oE];grind) cRE Rr.lw.cs
  rw [← o8,← o9] at key
  have R0:R≠[]:=fun z=>by
    have:=eR (B.length - 1)
    rw [z] at this
    exact qbz Rr.lw.lb Rr.lw.nb Rr.lw.ne this
  have lr:=qdF Rr.lw.lb Rr.lw.nb lR nR R0 Gg.low Gg.nz g0 eR
  have ly:=qdF G9.low G9.nz Rr.lw.lb Rr.lw.nb Rr.lw.ne lR nR R0 e9
  have oneY:pwo Y (Y.length - 1)=1:=by
    have h1:=lr.2.1
    have h2:=ly.2.1
    rw [qgf Rr.lw.one] at h1 h2
    rw [o1] at h1
    rw [h2]
    grind
  refine k w _ tp Y ((s08.trans s9).trans sw) ⟨r8,r9,qai,(P8.same s9).same sw,P9.same sw⟩ ⟨G8.low,G9.low,G8.nz,G9.nz,ly.2.2,qor G9.low oneY,key⟩ ?_
  rw [o8,o9,← oS,oE]
  have a1:(Sr.D (sr T)*sr R - sr T*sr E')*(sr B*sr B)=sr B*(Sr.D (sr T)*sr R*sr B - sr T*sr E'*sr B):=by grind
  have a2:(sr B*Sr.D (sr T) - sr T*(sr E'*sr (mnc g1)))*(sr B*sr R)=sr B*(Sr.D (sr T)*sr R*sr B - sr T*sr E'*(sr R*sr (mnc g1))):=by grind
  rw [a1,a2,← oR]
theorem Rp.mono {b n m b' n' m':Nat} {T B:List Nu} (h:Rp b n m T B) (h1:b≤b') (h2:n≤n') (h3:m≤m'):Rp b' n' m' T B:=by
  obtain ⟨N,D,lD,tN,bN,bD,nN,nD,eq⟩:=h.rp
  exact ⟨h.lw,N,D,lD,tN,fun z hz=>(bN z hz).mono h1,fun z hz=>(bD z hz).mono h1,by omega,by omega,eq⟩
theorem qpI {Z:List Int} (t:Tz Z) (h:si Z≠0):Lz Z:=qeO t fun z=>h (by rw [z,qmO []];exact Sr.L_nil)
theorem Rp.open {b n m:Nat} {T B:List Nu} (h:Rp b n m T B):∃ (N D:List Int) (Y:Sr),Lz D∧(∀ z∈N,Bd b z)∧(∀ z∈D,Bd b z)∧N.length≤n∧D.length≤m∧Sr.Pol Y∧Y≠0∧si D=Y*sr B∧si N=Y*sr T:=by
  obtain ⟨N,D,lD,tN,bN,bD,nN,nD,eq⟩:=h.rp
  obtain ⟨Y,pY,eD,eN⟩:=qcK h.lw (qbD N) (qbD D) eq
  exact ⟨N,D,Y,lD,bN,bD,nN,nD,pY,fun z=>qfi lD (by rw [eD,z];grind),eD,eN⟩
theorem Rp.sum {b n m b' n' m' e w:Nat} {s:Int} (hs:s=1∨s = -1) {T B T' B' X Y:List Nu} (h:Rp b n m T B) (h':Rp b' n' m' T' B') (l:Lw X Y) (eq:sr X*(sr B*sr B')=(sr T*sr B'+Sr.num (s:Rat)*sr T'*sr B)*sr Y) (ne:n<2 ^ e) (ne':n'<2 ^ e) (me:m<2 ^ e) (w1:n+m'≤w+1) (w2:n'+m≤w+1):Rp (b+b'+e+1) w (m+m' - 1) X Y:=by
  obtain ⟨N,D,Y1,lD,bN,bD,nN,nD,pY1,Y10,eD,eN⟩:=h.open
  obtain ⟨N',D',Y2,lD',bN',bD',nN',nD',pY2,Y20,eD',eN'⟩:=h'.open
  obtain ⟨Z,tz,ez,bz,lz⟩:=qlc hs bN bD bN' bD' nN nD nN' nD' ne ne' w1 w2
  obtain ⟨W,tw,ew,bw,lw⟩:=qf3 bD bD' nD nD' me
  have W0:si W≠0:=by rw [ew];exact Sr.ne_mul (qbD D) (qbD D') (qfi lD) (qfi lD')
  refine ⟨l,Z,W,qpI tw W0,tz,bz,fun z hz=>(bw z hz).mono (by omega),lz,lw,?_⟩
  rw [ez,ew,eD,eD',eN,eN']
  have:sr X*(Y1*sr B*(Y2*sr B'))=Y1*Y2*(sr X*(sr B*sr B')):=by grind
  rw [this,eq];grind
theorem Rp.mul {b n m b' n' m' e:Nat} {T B T' B' X Y:List Nu} (h:Rp b n m T B) (h':Rp b' n' m' T' B') (l:Lw X Y) (eq:sr X*(sr B*sr B')=sr T*sr T'*sr Y) (ne:n<2 ^ e) (me:m<2 ^ e):Rp (b+b'+e) (n+n' - 1) (m+m' - 1) X Y:=by
  obtain ⟨N,D,Y1,lD,bN,bD,nN,nD,pY1,Y10,eD,eN⟩:=h.open
  obtain ⟨N',D',Y2,lD',bN',bD',nN',nD',pY2,Y20,eD',eN'⟩:=h'.open
  obtain ⟨Z,tz,ez,bz,lz⟩:=qf3 bN bN' nN nN' ne
  obtain ⟨W,tw,ew,bw,lw⟩:=qf3 bD bD' nD nD' me
  have W0:si W≠0:=by rw [ew];exact Sr.ne_mul (qbD D) (qbD D') (qfi lD) (qfi lD')
  refine ⟨l,Z,W,qpI tw W0,tz,bz,bw,lz,lw,?_⟩
  rw [ez,ew,eD,eD',eN,eN']
  have:sr X*(Y1*sr B*(Y2*sr B'))=Y1*Y2*(sr X*(sr B*sr B')):=by grind
  rw [this,eq];grind
theorem Rp.over {b n m b' n' m' e:Nat} {T B T' B' X Y:List Nu} (h:Rp b n m T B) (h':Rp b' n' m' T' B') (T0:T'≠[]) (l:Lw X Y) (eq:sr X*(sr B*sr T')=sr T*sr B'*sr Y) (ne:n<2 ^ e) (me:m<2 ^ e):Rp (b+b'+e) (n+m' - 1) (m+n' - 1) X Y:=by
  obtain ⟨N,D,Y1,lD,bN,bD,nN,nD,pY1,Y10,eD,eN⟩:=h.open
  obtain ⟨N',D',Y2,lD',bN',bD',nN',nD',pY2,Y20,eD',eN'⟩:=h'.open
  obtain ⟨Z,tz,ez,bz,lz⟩:=qf3 bN bD' nN nD' ne
  obtain ⟨W,tw,ew,bw,lw⟩:=qf3 bD bN' nD nN' me
  have N0:si N'≠0:=by rw [eN'];exact Sr.ne_mul pY2 (qan T') Y20 (qcJ h'.lw.lt h'.lw.nt T0)
  have W0:si W≠0:=by rw [ew];exact Sr.ne_mul (qbD D) (qbD N') (qfi lD) N0
  refine ⟨l,Z,W,qpI tw W0,tz,bz,bw,lz,lw,?_⟩
  rw [ez,ew,eD,eD',eN,eN']
  have:sr X*(Y1*sr B*(Y2*sr T'))=Y1*Y2*(sr X*(sr B*sr T')):=by grind
  rw [this,eq];grind
theorem qqh:Sr.num ((-1:Int):Rat) = -1:=by
  have h2:Sr.num ((-1:Int):Rat)+Sr.num 1=0:=Sr.ext' fun k=>by
    show ((-1:Int):Rat)*qcb k+1*qcb k=(0:Sr).c k
    rw [Sr.zero_c,show (((-1:Int)):Rat) = -1 from rfl];grind
  rw [Sr.num_one] at h2;grind
theorem qqi {N:List Int} {b:Nat} (bN:∀ z∈N,Bd b z) (nl:N.length≤64):∀ z∈dI N,Bd (b+6) z:=fun z hz=>by
  obtain ⟨k,hk,rfl⟩:=List.mem_map.mp hz
  have hk:=List.mem_range.mp hk
  have h1:Bd 6 (((k+1:Nat):Int)):=by unfold Bd;omega
  have:=h1.mul (qbM bN (k+1))
  rw [show 6+b=b+6 by omega] at this;exact this
theorem Rp.slope {b n m e:Nat} {T B X Y:List Nu} (h:Rp b n m T B) (l:Lw X Y) (eq:sr X*(sr B*sr B)=(sr B*Sr.D (sr T) - sr T*Sr.D (sr B))*sr Y) (ne:n<2 ^ e) (me:m<2 ^ e) (n64:n≤64) (m64:m≤64):Rp (b+b+e+7) (n+m - 1) (m+m - 1) X Y:=by
  obtain ⟨N,D,Y1,lD,bN,bD,nN,nD,pY1,Y10,eD,eN⟩:=h.open
  obtain ⟨Z,tz,ez,bz,lz⟩:=qlc (s:=-1) (.inr rfl) (N:=dI N) (D':=D) (N':=N) (D:=dI D) (qqi bN (by omega)) (qqi bD (by omega)) bN bD (n:=n) (m:=m) (n':=n) (m':=m) (by rw [qov];omega) (by rw [qov];omega) nN nD ne ne (w:=n+m - 1) (by omega) (by omega)
  obtain ⟨W,tw,ew,bw,lw⟩:=qf3 bD bD nD nD me
  have W0:si W≠0:=by rw [ew];exact Sr.ne_mul (qbD D) (qbD D) (qfi lD) (qfi lD)
  refine ⟨l,Z,W,qpI tw W0,tz,fun z hz=>(bz z hz).mono (by omega),fun z hz=>(bw z hz).mono (by omega),lz,lw,?_⟩
  have i1:Sr.num ((-1:Int):Rat) = -1:=qqh
  have eZ:si Z=Y1*Y1*(sr B*Sr.D (sr T) - sr T*Sr.D (sr B)):=by
    rw [ez,qsZ,qsZ,eN,eD,Sr.D_mul pY1,Sr.D_mul pY1,i1];grind
  rw [eZ,ew,eD]
  have:sr X*(Y1*sr B*(Y1*sr B))=Y1*Y1*(sr X*(sr B*sr B)):=by grind
  rw [this,eq];grind
theorem Rp.of {b c b' c' n k x:Nat} {l m T B:List Nu} (L:Lw T B) (Gl:Gq b c l) (Gm:Gq b' c' m) (m0:m≠[]) (ln:l.length≤n) (mn:m.length≤k) (eq:sr T*sr m=sr l*sr B) (x1:b+c'≤x) (x2:b'+c≤x):Rp x n k T B:=by
  have bl:=Gl.clr
  have bm:=Gm.clr
  have lm:=ql8 Gm.low Gm.nz m0
  have z1:=(qbe Gl.low).1
  have z2:=(qbe Gm.low).1
  have i1:=Sr.num_inv (qaG (Int.ne_of_gt z1))
  have i2:=Sr.num_inv (qaG (Int.ne_of_gt z2))
  have e1:si (qa6 l)=Sr.num (qbv l:Rat)*sr l:=by rw [qeF Gl.low];grind
  have e2:si (qa6 m)=Sr.num (qbv m:Rat)*sr m:=by rw [qeF Gm.low];grind
  refine ⟨L,(qa6 l).map (qbv m*·),(qa6 m).map (qbv l*·),⟨by rw [List.length_map];exact lm.1,by rw [List.length_map,qdu];exact Int.mul_ne_zero (Int.ne_of_gt z1) lm.2⟩,?_,fun z hz=>?_,fun z hz=>?_,by rw [List.length_map,qaP];exact ln,by rw [List.length_map,qaP];exact mn,by rw [qeE,qeE,e1,e2];grind⟩
  · rcases qdv Gl.low Gl.nz with h | h
    · left;rw [h];rfl
    · right;rw [List.length_map,qdu];exact Int.mul_ne_zero (Int.ne_of_gt z2) h
  · obtain ⟨y,hy,rfl⟩:=List.mem_map.mp hz
    exact ((bm.2.1).mul (bl.1 y hy)).mono (by omega)
  · obtain ⟨y,hy,rfl⟩:=List.mem_map.mp hz
    exact ((bl.2.1).mul (bm.1 y hy)).mono (by omega)
theorem Lw.uniq {X Y X' Y':List Nu} (h:Lw X Y) (h':Lw X' Y') (eq:sr X*sr Y'=sr X'*sr Y):X=X'∧Y=Y':=by
  obtain ⟨f,pf,f1,_⟩:=qcK h (qan X') (qan Y') eq
  obtain ⟨g,pg,g1,_⟩:=qcK h' (qan X) (qan Y) eq.symm
  have hY:Y=Y':=qpz h.lb h'.lb h.nb h'.nb h.ne h'.ne h.one h'.one (qrg pf f1) (qrg pg g1)
  subst hY
  exact ⟨qqg h.lt h'.lt h.nt h'.nt (Sr.cancel (qan X) (qan X') (qan Y) (qcJ h.lb h.nb h.ne) eq),rfl⟩
theorem Lw.uniq' {X Y X' Y':List Nu} {Z:Sr} (h:Lw X Y) (h':Lw X' Y') (pZ:Sr.Pol Z) (Z0:Z≠0) (eq:sr X*sr Y'*Z=sr X'*sr Y*Z):X=X'∧Y=Y':=h.uniq h' (Sr.cancel ((qan X).mul (qan Y')) ((qan X').mul (qan Y)) pZ Z0 eq)
noncomputable def qs4 (T B:List Nu):PySem.W.Dat:=.tuple [qpk T,qpk B]
theorem qsE {H:Hp} {p:Addr} {T B:List Nu} (h:FF H p T B):RepD H (.ref p) (qs4 T B):=by
  obtain ⟨u,v,hp,⟨zu,hu,nu⟩,⟨zv,hv,nv⟩⟩:=h
  exact .tup hp (.cons (qqO hu nu) (.cons (qqO hv nv) .nil))
theorem okF (T B:List Nu) (n:Nat):PySem.W.kqdOk (n+3) (qs4 T B)=true:=by
  simp only [qs4,PySem.W.kqdOk,List.all_cons,List.all_nil,okP,Bool.and_self]
theorem qtH {H:Hp} {p q:Addr} {T B T' B':List Nu} {Q:VK} (hp:FF H p T B) (hq:FF H q T' B') (e:T=T'∧B=B') (h:Q (.bl true) H):eqD (.ref p) (.ref q) H Q:=by
  obtain ⟨rfl,rfl⟩:=e
  exact ⟨_,_,true,qsE hp,qsE hq,okF _ _ 5,okF _ _ 5,by simp,h⟩
theorem qtI {H:Hp} {p q:Addr} {T B T' B':List Nu} {Q:VK} (hp:FF H p T B) (hq:FF H q T' B') (e:T=T'∧B=B') (h:Q (.bl false) H):neD (.ref p) (.ref q) H Q:=by
  obtain ⟨rfl,rfl⟩:=e
  exact ⟨_,_,true,qsE hp,qsE hq,okF _ _ 5,okF _ _ 5,by simp,h⟩
structure Wt (X Y:List Nu) (N D:Sr):Prop where
  pN:Sr.Pol N
  pD:Sr.Pol D
  D0:D≠0
  eq:sr X*D=N*sr Y
noncomputable def Fx (H:Hp) (p:Addr) (b n m:Nat) (N D:Sr):Prop:=∃ T B,FF H p T B∧Rp b n m T B∧Wt T B N D
theorem Wt.self {T B:List Nu} (h:Lw T B):Wt T B (sr T) (sr B):=⟨qan T,qan B,qcJ h.lb h.nb h.ne,rfl⟩
theorem Fx.same {H H':Hp} {p:Addr} {b n m:Nat} {N D:Sr} (h:Fx H p b n m N D) (s:Same H H'):Fx H' p b n m N D:=let ⟨T,B,f,r⟩:=h;⟨T,B,f.same s,r⟩
theorem qhN {H:Hp} {p:Addr} {b n m:Nat} {T B:List Nu} (f:FF H p T B) (r:Rp b n m T B):Fx H p b n m (sr T) (sr B):=⟨T,B,f,r,Wt.self r.lw⟩
noncomputable instance (x n m e:Nat):Decidable (C0 x n m e):=decidable_of_iff (1≤n∧1≤m∧n≤60∧m≤60∧n<2 ^ e∧m<2 ^ e∧e≤6∧(x+e+2)*(n+m)≤44490) ⟨fun ⟨a,b,c,d,e,f,g,h⟩=>⟨a,b,c,d,e,f,g,h⟩,fun ⟨a,b,c,d,e,f,g,h⟩=>⟨a,b,c,d,e,f,g,h⟩⟩
noncomputable instance (b n m e:Nat):Decidable (C2 b n m e):=decidable_of_iff (C1 b m m e∧C1 (2*b+e+1) (n+m - 1) m e∧b≤5000∧m≤50) ⟨fun ⟨a,b,c,d⟩=>⟨a,b,c,d⟩,fun ⟨a,b,c,d⟩=>⟨a,b,c,d⟩⟩
theorem qqj {K:W.Frag} {H:Hp} {Q:VK} {E:XK} {p q:Addr} {s:Int} {b n m b' n' m':Nat} {N D N' D':Sr} (hs:s=1∨s = -1) (f:Fx H p b n m N D) (g:Fx H q b' n' m' N' D') (e:Nat) (Z:C2 (max b b') (max n n') (max m m') e∧n<2 ^ e∧n'<2 ^ e∧m<2 ^ e)
    (k:∀ t H',Same H H'→Fx H' t (b+b'+e+1) (max (n+m' - 1) (n'+m - 1)) (m+m' - 1) (N*D'+Sr.num (s:Rat)*N'*D) (D*D')→Q (.ref t) H'):qjb (s:Rat) K [.ref p,.ref q] H Q E:=by
  obtain ⟨T,B,F,R,W⟩:=f
  obtain ⟨T',B',F',R',W'⟩:=g
  refine ⟨p,q,T,B,T',B',max b b',max n n',max m m',e,rfl,F,F',R.mono (by omega) (by omega) (by omega),R'.mono (by omega) (by omega) (by omega),Z.1,fun t H' X Y s1 ff lw eq=>k t H' s1 ⟨X,Y,ff,R.sum hs R' lw eq Z.2.1 Z.2.2.1 Z.2.2.2 (by omega) (by omega),?_⟩⟩
  refine ⟨(W.pN.mul W'.pD).add (((Sr.Pol.num _).mul W'.pN).mul W.pD),W.pD.mul W'.pD,Sr.ne_mul W.pD W'.pD W.D0 W'.D0,?_⟩
  refine Sr.cancel ((qan X).mul (W.pD.mul W'.pD)) (((W.pN.mul W'.pD).add (((Sr.Pol.num _).mul W'.pN).mul W.pD)).mul (qan Y)) ((qan B).mul (qan B')) (Sr.ne_mul (qan B) (qan B') (qcJ R.lw.lb R.lw.nb R.lw.ne) (qcJ R'.lw.lb R'.lw.nb R'.lw.ne)) ?_
  have e1:sr X*(D*D')*(sr B*sr B')=sr X*(sr B*sr B')*(D*D'):=by grind
  have e2:=W.eq
  have e3:=W'.eq
  have e4:(sr T*sr B'+Sr.num (s:Rat)*sr T'*sr B)*sr Y*(D*D')=(sr T*D*(sr B'*D')+Sr.num (s:Rat)*(sr T'*D')*(sr B*D))*sr Y:=by grind
  rw [e1,eq,e4,e2,e3];grind
theorem qcC {K:W.Frag} {H:Hp} {Q:VK} {E:XK} {p q:Addr} {b n m b' n' m':Nat} {N D N' D':Sr} (f:Fx H p b n m N D) (g:Fx H q b' n' m' N' D') (e:Nat) (Z:C2 (max b b') (max n n') (max m m') e∧n<2 ^ e∧n'<2 ^ e∧m<2 ^ e)
    (k:∀ t H',Same H H'→Fx H' t (b+b'+e+1) (max (n+m' - 1) (n'+m - 1)) (m+m' - 1) (N*D'+N'*D) (D*D')→Q (.ref t) H'):qaZ K [.ref p,.ref q] H Q E:=
  qqj (s:=1) (.inl rfl) f g e Z fun t H' s1 h=>k t H' s1 (by
    rw [show Sr.num ((1:Int):Rat)=1 from Sr.num_one,show (1:Sr)*N'*D=N'*D by grind] at h;exact h)
theorem qjt {K:W.Frag} {H:Hp} {Q:VK} {E:XK} {p q:Addr} {b n m b' n' m':Nat} {N D N' D':Sr} (f:Fx H p b n m N D) (g:Fx H q b' n' m' N' D') (e:Nat) (Z:C2 (max b b') (max n n') (max m m') e∧n<2 ^ e∧n'<2 ^ e∧m<2 ^ e)
    (k:∀ t H',Same H H'→Fx H' t (b+b'+e+1) (max (n+m' - 1) (n'+m - 1)) (m+m' - 1) (N*D' - N'*D) (D*D')→Q (.ref t) H'):qbR K [.ref p,.ref q] H Q E:=
  qqj (s:=-1) (.inr rfl) f g e Z fun t H' s1 h=>k t H' s1 (by
    rw [qqh,show N*D'+(-1:Sr)*N'*D=N*D' - N'*D by grind] at h;exact h)
theorem qbA {K:W.Frag} {H:Hp} {Q:VK} {E:XK} {p q:Addr} {b n m b' n' m':Nat} {N D N' D':Sr} (f:Fx H p b n m N D) (g:Fx H q b' n' m' N' D') (e:Nat) (Z:C1 (max b b') (max n n') (max m m') e∧max b b'≤5000∧n<2 ^ e∧m<2 ^ e)
    (k:∀ t H',Same H H'→Fx H' t (b+b'+e) (n+n' - 1) (m+m' - 1) (N*N') (D*D')→Q (.ref t) H'):qaF K [.ref p,.ref q] H Q E:=by
  obtain ⟨T,B,F,R,W⟩:=f
  obtain ⟨T',B',F',R',W'⟩:=g
  refine ⟨p,q,T,B,T',B',max b b',max n n',max m m',e,rfl,F,F',R.mono (by omega) (by omega) (by omega),R'.mono (by omega) (by omega) (by omega),Z.1,Z.2.1,fun t H' X Y s1 ff lw eq=>k t H' s1 ⟨X,Y,ff,R.mul R' lw eq Z.2.2.1 Z.2.2.2,?_⟩⟩
  refine ⟨W.pN.mul W'.pN,W.pD.mul W'.pD,Sr.ne_mul W.pD W'.pD W.D0 W'.D0,?_⟩
  refine Sr.cancel ((qan X).mul (W.pD.mul W'.pD)) ((W.pN.mul W'.pN).mul (qan Y)) ((qan B).mul (qan B')) (Sr.ne_mul (qan B) (qan B') (qcJ R.lw.lb R.lw.nb R.lw.ne) (qcJ R'.lw.lb R'.lw.nb R'.lw.ne)) ?_
  have e1:sr X*(D*D')*(sr B*sr B')=sr X*(sr B*sr B')*(D*D'):=by grind
  have e2:=W.eq
  have e3:=W'.eq
  have e4:sr T*sr T'*sr Y*(D*D')=sr T*D*(sr T'*D')*sr Y:=by grind
  rw [e1,eq,e4,e2,e3];grind
theorem Wt.ne {T B:List Nu} {N D:Sr} (h:Wt T B N D) (l:Lw T B) (N0:N≠0):T≠[]:=fun z=>by
  have e:=h.eq
  have t0:sr T=0:=by rw [z];exact Sr.ext' fun k=>by rw [Sr.zero_c];exact qbd (Nat.zero_le _)
  rw [t0] at e
  exact Sr.ne_mul h.pN (qan B) N0 (qcJ l.lb l.nb l.ne) (by rw [← e];grind)
theorem qju {K:W.Frag} {H:Hp} {Q:VK} {E:XK} {p q:Addr} {b n m b' n' m':Nat} {N D N' D':Sr} (f:Fx H p b n m N D) (g:Fx H q b' n' m' N' D') (N0:N'≠0) (e:Nat) (Z:C1 (max b b') (max n m') (max m n') e∧max b b'≤5000∧n<2 ^ e∧m<2 ^ e)
    (k:∀ t H',Same H H'→Fx H' t (b+b'+e) (n+m' - 1) (m+n' - 1) (N*D') (D*N')→Q (.ref t) H'):qbZ K [.ref p,.ref q] H Q E:=by
  obtain ⟨T,B,F,R,W⟩:=f
  obtain ⟨T',B',F',R',W'⟩:=g
  have T0:=W'.ne R'.lw N0
  refine ⟨p,q,T,B,T',B',max b b',max n m',max m n',e,rfl,F,F',T0,R.mono (by omega) (by omega) (by omega),R'.mono (by omega) (by omega) (by omega),Z.1,Z.2.1,fun t H' X Y s1 ff lw eq=>k t H' s1 ⟨X,Y,ff,R.over R' T0 lw eq Z.2.2.1 Z.2.2.2,?_⟩⟩
  refine ⟨W.pN.mul W'.pD,W.pD.mul W'.pN,Sr.ne_mul W.pD W'.pN W.D0 N0,?_⟩
  refine Sr.cancel ((qan X).mul (W.pD.mul W'.pN)) ((W.pN.mul W'.pD).mul (qan Y)) ((qan B).mul (qan B')) (Sr.ne_mul (qan B) (qan B') (qcJ R.lw.lb R.lw.nb R.lw.ne) (qcJ R'.lw.lb R'.lw.nb R'.lw.ne)) ?_
  have e2:=W.eq
  have e3:=W'.eq
  have e1:sr X*(D*N')*(sr B*sr B')=sr X*D*sr B*(N'*sr B'):=by grind
  have e5:sr X*D*sr B*(sr T'*D')=sr X*(sr B*sr T')*(D*D'):=by grind
  have e4:sr T*sr B'*sr Y*(D*D')=sr T*D*(sr B'*D')*sr Y:=by grind
  rw [e1,← e3,e5,eq,e4,e2];grind
theorem qcm {K:W.Frag} {H:Hp} {Q:VK} {E:XK} {p:Addr} {b n m:Nat} {N D:Sr} (f:Fx H p b n m N D) (e:Nat) (Z:C1 b n m e∧C1 (b+m*(2*e+4)+6) m m e∧b≤5000∧n≤31∧m≤31)
    (k:∀ t H',Same H H'→Fx H' t (b+b+e+7) (n+m - 1) (m+m - 1) (D*Sr.D N - N*Sr.D D) (D*D)→Q (.ref t) H'):qbb K [.ref p] H Q E:=by
  obtain ⟨T,B,F,R,W⟩:=f
  obtain ⟨Z1,Z2,Z3,Z4,Z5⟩:=Z
  refine ⟨p,T,B,b,n,m,e,rfl,F,R,Z1,Z2,Z3,Z4,Z5,fun t H' X Y s1 ff lw eq=>k t H' s1 ⟨X,Y,ff,R.slope lw eq Z1.ne Z1.me (by omega) (by omega),?_⟩⟩
  refine ⟨(W.pD.mul W.pN.D).sub (W.pN.mul W.pD.D),W.pD.mul W.pD,Sr.ne_mul W.pD W.pD W.D0 W.D0,?_⟩
  have B0:=qcJ R.lw.lb R.lw.nb R.lw.ne
  have e2:=W.eq
  have e3:Sr.D (sr T)*D+sr T*Sr.D D=Sr.D N*sr B+N*Sr.D (sr B):=by rw [← Sr.D_mul (qan T),← Sr.D_mul W.pN,e2]
  refine Sr.cancel ((qan X).mul (W.pD.mul W.pD)) (((W.pD.mul W.pN.D).sub (W.pN.mul W.pD.D)).mul (qan Y)) (((qan B).mul (qan B))) (Sr.ne_mul (qan B) (qan B) B0 B0) ?_
  have e1:sr X*(D*D)*(sr B*sr B)=sr X*(sr B*sr B)*(D*D):=by grind
  rw [e1,eq]
  have key:(sr B*Sr.D (sr T) - sr T*Sr.D (sr B))*(D*D)=(D*Sr.D N - N*Sr.D D)*(sr B*sr B):=by
    have h1:Sr.D (sr T)*D=Sr.D N*sr B+N*Sr.D (sr B) - sr T*Sr.D D:=by rw [← e3];grind
    have h2:(sr B*Sr.D (sr T) - sr T*Sr.D (sr B))*(D*D)=sr B*D*(Sr.D (sr T)*D) - (sr T*D)*Sr.D (sr B)*D:=by grind
    have h3:sr B*D*(Sr.D N*sr B+N*Sr.D (sr B) - sr T*Sr.D D)=sr B*D*(Sr.D N*sr B+N*Sr.D (sr B)) - sr B*Sr.D D*(sr T*D):=by grind
    rw [h2,h1,h3,e2];grind
  have h4:(sr B*Sr.D (sr T) - sr T*Sr.D (sr B))*sr Y*(D*D)=(sr B*Sr.D (sr T) - sr T*Sr.D (sr B))*(D*D)*sr Y:=by grind
  rw [h4,key];grind
theorem qso {H:Hp} {p q:Addr} {b n m b' n' m':Nat} {N D N' D':Sr} (f:Fx H p b n m N D) (g:Fx H q b' n' m' N' D') (e:N*D'=N'*D):∃ T B,FF H p T B∧FF H q T B:=by
  obtain ⟨T,B,F,R,W⟩:=f
  obtain ⟨T',B',F',R',W'⟩:=g
  obtain ⟨rfl,rfl⟩:=R.lw.uniq' R'.lw (W.pD.mul W'.pD) (Sr.ne_mul W.pD W'.pD W.D0 W'.D0) (by
    have h1:sr T*sr B'*(D*D')=(sr T*D)*sr B'*D':=by grind
    have h2:sr T'*sr B*(D*D')=(sr T'*D')*sr B*D:=by grind
    rw [h1,h2,W.eq,W'.eq]
    have h3:N*sr B*sr B'*D'=N*D'*sr B*sr B':=by grind
    rw [h3,e];grind)
  exact ⟨T,B,F,F'⟩
theorem qoG {H:Hp} {p q:Addr} {b n m b' n' m':Nat} {N D N' D':Sr} {Q:VK} (f:Fx H p b n m N D) (g:Fx H q b' n' m' N' D') (e:N*D'=N'*D) (h:Q (.bl false) H):neD (.ref p) (.ref q) H Q:=by
  obtain ⟨T,B,F,F'⟩:=qso f g e
  exact qtI F F' ⟨rfl,rfl⟩ h
theorem qtm {H:Hp} {p q:Addr} {b n m b' n' m':Nat} {N D N' D':Sr} {Q:VK} (f:Fx H p b n m N D) (g:Fx H q b' n' m' N' D') (e:N*D'=N'*D) (h:Q (.bl true) H):eqD (.ref p) (.ref q) H Q:=by
  obtain ⟨T,B,F,F'⟩:=qso f g e
  exact qtH F F' ⟨rfl,rfl⟩ h
theorem qsp:sr [(1,1)]=1:=Sr.ext' fun k=>by
  rw [qpE]
  cases k with
  | zero=>show val (1,1)=_;unfold val;show ((1:Int):Rat) / ((1:Int):Rat)=1;rw [show ((1:Int):Rat)=1 from rfl];grind
  | succ k=>show pwo [(1,1)] (k+1)=0;exact qbd (by simp)
theorem qs5:sr []=0:=Sr.ext' fun k=>by rw [Sr.zero_c];exact qbd (Nat.zero_le _)
theorem si1:si [1]=1:=Sr.ext' fun k=>by
  rw [qpE]
  cases k with
  | zero=>rfl
  | succ k=>show ((co [1] (k+1):Int):Rat)=0;rw [qaA (by simp)];rfl
theorem si0:si []=0:=by rw [qmO []];exact Sr.L_nil
theorem lw1 {T:List Nu} (lt:qap T) (nt:Nz T):Lw T [(1,1)]:=⟨lt,fun q hq=>by rw [List.mem_singleton.mp hq];exact qon,nt,fun q hq=>by obtain rfl:(1,1)=q:=Option.some.inj hq;decide,by simp,rfl,by rw [qsp];exact Sr.Cs.one⟩
theorem one_ne:(1:Sr)≠0:=by rw [← si1];exact qfi ⟨by decide,by decide⟩
theorem qrh {H:Hp} {t u v:Addr} (ht:H t=some (.tup [.ref u,.ref v])) (hu:H u=some (.tup [])) (hv:Pl H v [(1,1)]):Fx H t 1 1 1 0 1:=by
  have l:Lw [] [(1,1)]:=lw1 (fun _ h=>nomatch h) (fun _ h=>nomatch h)
  refine ⟨[],[(1,1)],⟨u,v,ht,⟨[],hu,trivial⟩,hv⟩,⟨l,[],[1],⟨by decide,by decide⟩,.inl rfl,(fun _ h=>nomatch h),fun z hz=>by rw [List.mem_singleton.mp hz];exact Bd.one,by decide,by decide,?_⟩,Sr.Pol.nat 0,Sr.Pol.nat 1,one_ne,?_⟩
  · rw [qs5,si0,si1,qsp]
  · rw [qs5,qsp]
theorem qsq {H:Hp} {t u v:Addr} (ht:H t=some (.tup [.ref u,.ref v])) (hu:Pl H u [(1,1)]) (hv:Pl H v [(1,1)]):Fx H t 1 1 1 1 1:=by
  have l:Lw [(1,1)] [(1,1)]:=lw1 (fun q hq=>by rw [List.mem_singleton.mp hq];exact qon) (fun q hq=>by obtain rfl:(1,1)=q:=Option.some.inj hq;decide)
  refine ⟨[(1,1)],[(1,1)],⟨u,v,ht,hu,hv⟩,⟨l,[1],[1],⟨by decide,by decide⟩,.inr (by decide),fun z hz=>by rw [List.mem_singleton.mp hz];exact Bd.one,fun z hz=>by rw [List.mem_singleton.mp hz];exact Bd.one,by decide,by decide,?_⟩,Sr.Pol.nat 1,Sr.Pol.nat 1,one_ne,?_⟩
  · rw [si1,qsp]
  · rw [qsp]
theorem qh4 (h:qb0 K vs H Q E):qdW K { nx:=fun _ H'=>Q .non H',rt:=Q } (L2.start ["_law_kf", "_law_kg", "_law_due"] vs) H:=by
  obtain ⟨p,q,T,B,T',B',rfl,F,G,RF,RG,k⟩:=h
  have f:=qhN F RF
  have g:=qhN G RG
  have pT:=qan T
  have pB:=qan B
  have pT':=qan T'
  have pB':=qan B'
  unfold qdW
  rwa []
  refine qcm f 3 (by decide) fun t1 H1 s1 f1=>?_
  refine qbA f1 (g.same s1) 4 (by decide) fun t2 H2 s2 f2=>?_
  have s02:=s1.trans s2
  refine qcm (g.same s02) 3 (by decide) fun t3 H3 s3 f3=>?_
  have s03:=s02.trans s3
  refine qbA (f.same s03) f3 4 (by decide) fun t4 H4 s4 f4=>?_
  have s04:=s03.trans s4
  refine qcC (f2.same (s3.trans s4)) f4 5 (by decide) fun t5 H5 s5 f5=>?_
  have s05:=s04.trans s5
  unfold qeC
  rwa []
  refine qbA (f.same s05) (g.same s05) 3 (by decide) fun t6 H6 s6 f6=>?_
  refine qcm f6 4 (by decide) fun t7 H7 s7 f7=>?_
  have s07:=(s05.trans s6).trans s7
  refine qoG f7 (f5.same (s6.trans s7)) ?_ ?_
  · rw [Sr.D_mul pT,Sr.D_mul pB];grind
  refine ⟨_,rfl,?_⟩
  rw [if_neg (by decide)]
  refine qcC (f.same s07) (g.same s07) 4 (by decide) fun t8 H8 s8 f8=>?_
  refine qcm f8 4 (by decide) fun t9 H9 s9 f9=>?_
  have s09:=(s07.trans s8).trans s9
  refine qcm (f.same s09) 3 (by decide) fun t10 H10 s10 f10=>?_
  have s010:=s09.trans s10
  refine qcm (g.same s010) 3 (by decide) fun t11 H11 s11 f11=>?_
  refine qcC (f10.same s11) f11 4 (by decide) fun t12 H12 s12 f12=>?_
  have s012:=(s010.trans s11).trans s12
  refine qoG (f9.same ((s10.trans s11).trans s12)) f12 ?_ ⟨_,rfl,?_⟩
  · rw [Sr.D_add,Sr.D_mul pT,Sr.D_mul pT',Sr.D_mul pB];grind
  rw [if_neg (by decide)]
  obtain ⟨u',v',hq,⟨zu',hu',nu'⟩,Pv'⟩:=G.same s012
  unfold qeB
  rwa [hq]
  refine ⟨sz (by decide),fun e he=>?_⟩
  have se:=qag he (HO.tup [])
  have s0e:=s012.trans se
  refine eqP (se _ _ hu') (nu'.tp (tpS se)) qai (m:=[]) trivial (decide (T'=[])) (by simp) ⟨_,rfl,qc5 (fun c=>?_) (fun c=>?_)⟩
  · have c0:T'=[]:=by simpa using c
    have z0:sr T'=0:=by rw [c0];exact qs5
    have zd:Sr.D (0:Sr)=0:=Sr.ext' fun k=>by show ((k:Rat)+1)*(0:Sr).c (k+1)=_;rw [Sr.zero_c,Sr.zero_c];grind
    refine qcm (g.same s0e) 3 (by decide) fun t H' s1 h1=>qtm h1 (g.same (s0e.trans s1)) ?_ (k _ (s0e.trans s1))
    rw [z0,zd];grind
  · have c0:T'≠[]:=by simpa using c
    have T0:=qcJ RG.lw.lt RG.lw.nt c0
    unfold qeA
    rwa []
    refine qcm (f.same s0e) 3 (by decide) fun t1 H1 s1 f1=>?_
    have u1:=s0e.trans s1
    refine qbA f1 (g.same u1) 4 (by decide) fun t2 H2 s2 f2=>?_
    have u2:=u1.trans s2
    refine qcm (g.same u2) 3 (by decide) fun t3 H3 s3 f3=>?_
    have u3:=u2.trans s3
    refine qbA (f.same u3) f3 4 (by decide) fun t4 H4 s4 f4=>?_
    have u4:=u3.trans s4
    refine qjt (f2.same (s3.trans s4)) f4 5 (by decide) fun t5 H5 s5 f5=>?_
    have u5:=u4.trans s5
    unfold qez
    rwa []
    refine qju (f.same u5) (g.same u5) T0 3 (by decide) fun t6 H6 s6 f6=>?_
    refine qcm f6 4 (by decide) fun t7 H7 s7 f7=>?_
    have u7:=(u5.trans s6).trans s7
    refine qbA (g.same u7) (g.same u7) 3 (by decide) fun t8 H8 s8 f8=>?_
    refine qju (f5.same ((s6.trans s7).trans s8)) f8 (Sr.ne_mul pT' pT' T0 T0) 5 (by decide) fun t9 H9 s9 f9=>?_
    refine qtm (f7.same (s8.trans s9)) f9 ?_ (k _ ((u7.trans s8).trans s9))
    rw [Sr.D_mul pT,Sr.D_mul pB];grind
theorem qmy (h:qdA K vs H Q E):qhE K { nx:=fun _ H'=>Q .non H',rt:=Q } (L2.start ["_law_kf", "_law_kg", "_law_kh"] vs) H:=by
  obtain ⟨p,q,r,T,B,T',B',T2,B2,rfl,F,G,I,RF,RG,RI,k⟩:=h
  have f:=qhN F RF
  have g:=qhN G RG
  have h:=qhN I RI
  have pT:=qan T
  have pB:=qan B
  have pT':=qan T'
  have pB':=qan B'
  unfold qhE
  rwa []
  refine qcC f g 4 (by decide) fun t1 H1 s1 f1=>?_
  refine qcC (g.same s1) (f.same s1) 4 (by decide) fun t2 H2 s2 f2=>?_
  refine qoG (f1.same s2) f2 (by grind) ⟨_,rfl,?_⟩
  rw [if_neg (by decide)]
  have u2:=s1.trans s2
  refine qbA (f.same u2) (g.same u2) 3 (by decide) fun t3 H3 s3 f3=>?_
  have u3:=u2.trans s3
  refine qbA (g.same u3) (f.same u3) 3 (by decide) fun t4 H4 s4 f4=>?_
  have u4:=u3.trans s4
  refine qoG (f3.same s4) f4 (by grind) ⟨_,rfl,?_⟩
  rw [if_neg (by decide)]
  unfold qhD
  rwa []
  refine qcC (f.same u4) (g.same u4) 4 (by decide) fun t5 H5 s5 f5=>?_
  have u5:=u4.trans s5
  refine qcC f5 (h.same u5) 4 (by decide) fun t6 H6 s6 f6=>?_
  have u6:=u5.trans s6
  refine qcC (g.same u6) (h.same u6) 4 (by decide) fun t7 H7 s7 f7=>?_
  have u7:=u6.trans s7
  refine qcC (f.same u7) f7 4 (by decide) fun t8 H8 s8 f8=>?_
  have u8:=u7.trans s8
  refine qoG (f6.same (s7.trans s8)) f8 (by grind) ⟨_,rfl,?_⟩
  rw [if_neg (by decide)]
  unfold qhC
  rwa []
  refine qbA (f.same u8) (g.same u8) 3 (by decide) fun t9 H9 s9 f9=>?_
  have u9:=u8.trans s9
  refine qbA f9 (h.same u9) 4 (by decide) fun t10 H10 s10 f10=>?_
  have u10:=u9.trans s10
  refine qbA (g.same u10) (h.same u10) 4 (by decide) fun t11 H11 s11 f11=>?_
  have u11:=u10.trans s11
  refine qbA (f.same u11) f11 4 (by decide) fun t12 H12 s12 f12=>?_
  have u12:=u11.trans s12
  refine qoG (f10.same (s11.trans s12)) f12 (by grind) ⟨_,rfl,?_⟩
  rw [if_neg (by decide)]
  unfold qhB
  rwa []
  refine qcC (g.same u12) (h.same u12) 4 (by decide) fun t13 H13 s13 f13=>?_
  have u13:=u12.trans s13
  refine qbA (f.same u13) f13 4 (by decide) fun t14 H14 s14 f14=>?_
  have u14:=u13.trans s14
  refine qbA (f.same u14) (g.same u14) 3 (by decide) fun t15 H15 s15 f15=>?_
  have u15:=u14.trans s15
  refine qbA (f.same u15) (h.same u15) 4 (by decide) fun t16 H16 s16 f16=>?_
  have u16:=u15.trans s16
  refine qcC (f15.same s16) f16 5 (by decide) fun t17 H17 s17 f17=>?_
  have u17:=u16.trans s17
  refine qoG (f14.same ((s15.trans s16).trans s17)) f17 (by grind) ⟨_,rfl,?_⟩
  rw [if_neg (by decide)]
  unfold qhA
  rwa []
  refine qjt (f.same u17) (f.same u17) 4 (by decide) fun t18 H18 s18 f18=>?_
  refine ⟨sz (by decide),fun a1 e1=>⟨sz (by decide),fun a2 e2=>⟨sz (by decide),fun a3 e3=>⟨sz (by decide),fun a4 e4=>?_⟩⟩⟩⟩
  have v1:=qag e1 (HO.tup [])
  have v2:=qag e2 (HO.tup [V.int 1,V.int 1])
  have v3:=qag e3 (HO.tup [V.ref a2])
  have v4:=qag e4 (HO.tup [V.ref a1,V.ref a3])
  have z:=qrh (t:=a4) (u:=a1) (v:=a3) qai (v4 _ _ (v3 _ _ (v2 _ _ qai))) ⟨_,v4 _ _ qai,Nums.one (qpA (v4 _ _ (v3 _ _ qai)))⟩
  have v:=(v1.trans v2).trans (v3.trans v4)
  refine qoG (f18.same v) z (by grind) ⟨_,rfl,?_⟩
  rw [if_neg (by decide)]
  have u18:=(u17.trans s18).trans v
  refine qjt (f.same u18) (g.same u18) 4 (by decide) fun t19 H19 s19 f19=>?_
  have u19:=u18.trans s19
  refine qcC f19 (g.same u19) 4 (by decide) fun t20 H20 s20 f20=>?_
  have u20:=u19.trans s20
  refine qoG f20 (f.same u20) (by grind) ⟨_,rfl,?_⟩
  rw [if_neg (by decide)]
  have last:∀ H3,Same H H3→qff K { nx:=fun x H'=>Q V.non H',rt:=Q } [some (V.ref p),some (V.ref q),some (V.ref r)] H3:=fun H3 s3=>by
    unfold qff
    rwa []
    exact ⟨p,q,T,B,T',B',rfl,F.same s3,G.same s3,RF,RG,fun H' s'=>k H' (s3.trans s')⟩
  obtain ⟨u',v',hq,⟨zu',hu',nu'⟩,Pv'⟩:=G.same u20
  unfold qhz
  rwa [hq]
  refine ⟨sz (by decide),fun e he=>?_⟩
  have se:=qag he (HO.tup [])
  have u21:=u20.trans se
  refine neP (se _ _ hu') (nu'.tp (tpS se)) qai (m:=[]) trivial (decide (T'=[])) (by simp) ⟨_,rfl,qc5 (fun c=>?_) (fun c=>last _ u21)⟩
  have c0:T'≠[]:=by simpa using c
  have T0:=qcJ RG.lw.lt RG.lw.nt c0
  refine qju (g.same u21) (g.same u21) T0 3 (by decide) fun t22 H22 s22 f22=>?_
  refine ⟨sz (by decide),fun a1 e1=>⟨sz (by decide),fun a2 e2=>⟨sz (by decide),fun a3 e3=>⟨sz (by decide),fun a4 e4=>⟨sz (by decide),fun a5 e5=>?_⟩⟩⟩⟩⟩
  have v1:=qag e1 (HO.tup [V.int 1,V.int 1])
  have v2:=qag e2 (HO.tup [V.ref a1])
  have v3:=qag e3 (HO.tup [V.int 1,V.int 1])
  have v4:=qag e4 (HO.tup [V.ref a3])
  have v5:=qag e5 (HO.tup [V.ref a2,V.ref a4])
  have z:=qsq (t:=a5) (u:=a2) (v:=a4) qai ⟨_,v5 _ _ (v4 _ _ (v3 _ _ qai)),Nums.one (qpA (v5 _ _ (v4 _ _ (v3 _ _ (v2 _ _ qai)))))⟩ ⟨_,v5 _ _ qai,Nums.one (qpA (v5 _ _ (v4 _ _ qai)))⟩
  have v:=((v1.trans v2).trans (v3.trans v4)).trans v5
  refine qoG (f22.same v) z (by grind) ⟨_,rfl,?_⟩
  rw [if_neg (by decide)]
  have u22:=(u21.trans s22).trans v
  refine qju (f.same u22) (g.same u22) T0 3 (by decide) fun t23 H23 s23 f23=>?_
  have u23:=u22.trans s23
  refine qbA f23 (g.same u23) 4 (by decide) fun t24 H24 s24 f24=>?_
  have u24:=u23.trans s24
  refine qoG f24 (f.same u24) (by grind) ⟨_,rfl,?_⟩
  rw [if_neg (by decide)]
  exact last _ u24
theorem Pl.tp2 {H H':Hp} {r:Addr} {L:List Nu} (h:Pl H r L) (t:Tp H H'):Pl H' r L:=let ⟨z,a,b⟩:=h;⟨z,t _ _ a,b.tp t⟩
theorem FF.tp2 {H H':Hp} {p:Addr} {T B:List Nu} (h:FF H p T B) (t:Tp H H'):FF H' p T B:=let ⟨u,v,a,b,c⟩:=h;⟨u,v,t _ _ a,b.tp2 t,c.tp2 t⟩
theorem qh5 (h:qby K vs H Q E):qdV K { nx:=fun _ H'=>Q .non H',rt:=Q } (L2.start ["_law_rest_here", "_law_far", "_law_how", "_law_top"] vs) H:=by
  obtain ⟨p,far,rfl,hp,k⟩:=h
  have fin:∀ {a b:Int} {H1:Hp},Bd 40 a→Bd 40 b→b≠0→(far=false→a.natAbs≤12∧0<b∧b∣42)→Bx H1 p→Kp p H H1→∀ r,H1 r=none→Q (V.ref r) (upd H1 r (HO.tup [V.int (qb7 a b).1,V.int (qb7 a b).2])):=fun {a b H1} ba bb b0 hf x1 k1 r hr=>by
    have bd:=qkO b0 ba bb
    have s:=qag hr (HO.tup [V.int (qb7 a b).1,V.int (qb7 a b).2])
    exact k r (qb7 a b) _ ⟨r,rfl,qai⟩ (qdb b0) bd.1 bd.2 (fun z=>⟨by rw [qfB (hf z).2.1];exact Nat.le_trans (qdN (a:=a) (hf z).2.1).2.1 (hf z).1,Int.dvd_trans (qlJ b0 (Int.dvd_refl b)) (hf z).2.2⟩) (x1.same s) (k1.same s)
  unfold qdV
  rwa []
  refine ⟨hp,by decide,fun how H1 h0 h1 x1 k1=>?_⟩
  unfold qey
  rwa []
  have P:qrK 10 12:=⟨by decide,by decide,by decide⟩
  have go:qc1 K { nx:=fun x H'=>Q V.non H',rt:=Q } [some (V.ref p),some (V.bl far),some (V.int how),none] H1:=by
    unfold qc1
    rwa []
    refine ⟨sz (by decide),fun w hw=>?_⟩
    have s1:=qag hw (HO.tup [V.int 0,V.int 1,V.int (-1),V.int 2,V.int (-2),V.int 3,V.int (-3),V.int 5,V.int (-7),V.int 12])
    refine ⟨x1.same s1,by decide,fun d H2 d0 d1 x2 k2=>⟨_,(x1.same s1).tp k2 _ _ qai,?_⟩⟩
    obtain ⟨t,ht,bt⟩:∃ t:Int,atI [V.int 0,V.int 1,V.int (-1),V.int 2,V.int (-2),V.int 3,V.int (-3),V.int 5,V.int (-7),V.int 12] d=some (V.int t)∧-13<t∧t<13:=by
      have:d=0∨d=1∨d=2∨d=3∨d=4∨d=5∨d=6∨d=7∨d=8∨d=9:=by omega
      rcases this with rfl | rfl | rfl | rfl | rfl | rfl | rfl | rfl | rfl | rfl <;> exact ⟨_,rfl,by decide,by decide⟩
    refine ⟨_,ht,?_⟩
    unfold qex
    rwa []
    refine ⟨sz (by decide),fun u hu=>?_⟩
    have s2:=qag hu (HO.tup [V.int 1,V.int 1,V.int 2,V.int 3,V.int 7])
    refine ⟨x2.same s2,by decide,fun e H3 e0 e1 x3 k3=>⟨qth (by split <;> decide) (by split <;> decide),_,(x2.same s2).tp k3 _ _ qai,?_⟩⟩
    obtain ⟨x,hx,bx⟩:∃ x:Int,atI [V.int 1,V.int 1,V.int 2,V.int 3,V.int 7] (e*if 7<how then 1 else 0)=some (V.int x)∧0<x∧x<8∧x∣42:=by
      have:e=0∨e=1∨e=2∨e=3∨e=4:=by omega
      split <;> rcases this with rfl | rfl | rfl | rfl | rfl <;> exact ⟨_,rfl,by decide,by decide,by decide⟩
    exact ⟨_,hx,x,rfl,by omega,fin (qsA (by omega) (by omega)) (qsA (by omega) (by omega)) (by omega) (fun _=>⟨by omega,bx.1,bx.2.2⟩) x3 (((k1.same s1).trans k2).same s2 |>.trans k3)⟩
  refine qc5 (fun c=>qc5 (fun cf=>?_) (fun _=>go)) (fun _=>go)
  refine ⟨P,qti (by decide) (by decide),x1,by decide,fun d H2 d0 d1 x2 k2=>⟨P,P,x2,by decide,fun e H3 e0 e1 x3 k3=>⟨by omega,?_⟩⟩⟩
  have c1:(10:Int) ^ Int.toNat 12=1000000000000:=by decide
  rw [c1] at d1 e1 ⊢
  exact fin (qsA (by omega) (by omega)) (qsA (by omega) (by omega)) (by omega) (fun z=>by rw [cf] at z;cases z) x3 ((k1.trans k2).trans k3)
theorem qtn {l:List Nu} (hl:qap l) (nl:Nz l) (h:∀ q∈l,q.1.natAbs≤12∧q.2∣42):Gq 9 6 l:=by
  refine ⟨hl,nl,42,⟨by decide,fun q hq=>(h q hq).2⟩,by unfold Bd;decide,fun z hz=>?_⟩
  obtain ⟨q,hq,rfl⟩:=List.mem_map.mp hz
  obtain ⟨a,b⟩:=h q hq
  have d6:(42 / q.2).natAbs≤42:=by
    obtain ⟨y,hy⟩:=b
    have p0:=(hl q hq).pos
    have y0:0<y:=by
      rcases Int.lt_trichotomy y 0 with c | c | c
      · have:=Int.mul_neg_of_pos_of_neg p0 c;omega
      · rw [c] at hy;omega
      · exact c
    rw [hy,Int.mul_ediv_cancel_left _ (Int.ne_of_gt p0)]
    have:=Int.mul_le_mul_of_nonneg_right (show 1≤q.2 by omega) (Int.le_of_lt y0)
    omega
  unfold Bd
  rw [Int.natAbs_mul]
  have:=Nat.mul_le_mul a d6
  omega
theorem qld {l:List Nu} (nl:Nz l) (h:∀ q∈l,Bd 3 q.1∧q.2=1):Gq 3 1 l:=by
  refine ⟨fun q hq=>⟨by rw [(h q hq).2];decide,by rw [(h q hq).2];simp⟩,nl,1,⟨by decide,fun q hq=>by rw [(h q hq).2];exact Int.dvd_refl 1⟩,Bd.one,fun z hz=>?_⟩
  obtain ⟨q,hq,rfl⟩:=List.mem_map.mp hz
  rw [(h q hq).2]
  simpa using (h q hq).1
theorem qoH {l:List Nu} (hl:qap l) (nl:Nz l) (bl:qpd 40 l) (l3:l.length≤3):Gq 161 121 l:=by
  obtain ⟨B0,_,bB⟩:=qi3 hl bl
  exact ⟨hl,nl,qbv l,qbe hl,bB.mono (by omega),fun z hz=>(qqI hl bl z hz).mono (by omega)⟩
theorem qkl (h:qbE K vs H Q E):qfd K { nx:=fun _ H'=>Q .non H',rt:=Q } (L2.start ["_law_rest_here", "_law_most", "_law_far"] vs) H:=by
  obtain ⟨p,m,far,rfl,hp,m0,m9,k⟩:=h
  unfold qfd
  rwa []
  refine ⟨hp,by omega,fun d H1 d0 d1 x1 k1=>⟨by omega,by omega,?_⟩⟩
  refine CompJ.range (fun i ys H'=>i≤d.toNat∧Kp p H H'∧Bx H' p∧∃ l,Nums H' ys l∧qap l∧qpd 40 l∧(far=false→∀ q∈l,q.1.natAbs≤12∧q.2∣42)∧l.length=i) ⟨Nat.zero_le _,k1,x1,[],trivial,(fun _ h=>nomatch h),(fun _ h=>nomatch h),(fun _ _ h=>nomatch h),rfl⟩ ?_ ?_ ?_
  · rintro i ys H' ⟨h1,_,_,l,hZ,_,_,_,ll⟩
    exact ⟨h1,sz (by rw [hZ.length,ll];omega)⟩
  · rintro i ys H' hi ⟨h1,k2,B2,l,hZ,lo,bd,sm,ll⟩
    rwa []
    refine ⟨B2,fun r q H3 h3 l3 bt be sq B3 k3=>⟨by omega,k2.trans k3,B3,l++[q],(hZ.tp (B2.tp k3)).append (Nums.one h3),?_,?_,?_,by rw [List.length_append,ll];rfl⟩⟩
    · intro q hq
      rcases List.mem_append.mp hq with z | z
      · exact lo q z
      · rw [List.mem_singleton.mp z];exact l3
    · intro q hq
      rcases List.mem_append.mp hq with z | z
      · exact bd q z
      · rw [List.mem_singleton.mp z];exact ⟨bt,be⟩
    · intro e q hq
      rcases List.mem_append.mp hq with z | z
      · exact sm e q z
      · rw [List.mem_singleton.mp z];exact sq e
  · rintro ys H' ⟨_,k2,B2,l,hZ,lo,bd,sm,ll⟩ a ha
    have s2:=qag ha (HO.lst ys)
    rwa []
    refine ⟨l,hZ.tp (tpS s2),by omega,fun r zs H3 s3 hr hz=>?_⟩
    have tl:=qda l
    exact k r (trim l) H3 ⟨zs,hr,hz⟩ (qoH (fun q hq=>lo q (qb1 hq)) (qeh l) (fun q hq=>bd q (qb1 hq)) (by omega)) (fun e=>qtn (fun q hq=>lo q (qb1 hq)) (qeh l) fun q hq=>sm e q (qb1 hq)) (by omega) ((B2.same s2).same s3) ((k2.same s2).same s3)
theorem qkm (h:qbF K vs H Q E):qfe K { nx:=fun _ H'=>Q .non H',rt:=Q } (L2.start ["_law_rest_here", "_law_most", "_law_row"] vs) H:=by
  obtain ⟨p,m,rfl,hp,m56,k⟩:=h
  have m4:4≤m:=by omega
  have m8:m≤8:=by omega
  unfold qfe
  rwa []
  refine ⟨hp,by omega,fun d H1 d0 d1 x1 k1=>⟨by omega,by omega,?_⟩⟩
  refine CompJ.range (fun i ys H'=>i≤(4+d).toNat∧Kp p H H'∧Bx H' p∧∃ l,Nums H' ys l∧(∀ q∈l,Bd 3 q.1∧q.2=1)∧l.length=i) ⟨Nat.zero_le _,k1,x1,[],trivial,(fun _ h=>nomatch h),rfl⟩ ?_ ?_ ?_
  · rintro i ys H' ⟨h1,_,_,l,hZ,_,ll⟩
    exact ⟨h1,sz (by rw [hZ.length,ll];omega)⟩
  · rintro i ys H' hi ⟨h1,k2,B2,l,hZ,lo,ll⟩
    rwa []
    refine ⟨B2,by decide,fun x H3 y0 y1 B3 k3=>⟨by decide,fun r hr=>?_⟩⟩
    rw [qpB]
    have s:=qag hr (HO.tup [V.int (x - 4),V.int 1])
    refine ⟨by omega,(k2.trans k3).same s,B3.same s,l++[(x - 4,1)],((hZ.tp (B2.tp k3)).tp (tpS s)).append (Nums.one ⟨r,rfl,qai⟩),?_,by rw [List.length_append,ll];rfl⟩
    intro q hq
    rcases List.mem_append.mp hq with z | z
    · exact lo q z
    · rw [List.mem_singleton.mp z];exact ⟨by show (x - 4).natAbs<8;omega,rfl⟩
  · rintro ys H' ⟨_,k2,B2,l,hZ,lo,ll⟩ a ha
    have s2:=qag ha (HO.lst ys)
    rwa []
    refine ⟨B2.same s2,by decide,fun x H3 y0 y1 x3 k3=>⟨by decide,fun r hr=>?_⟩⟩
    rw [qpB]
    have s3:=qag hr (HO.tup [V.int (1+x),V.int 1])
    refine ⟨sz (by decide),fun w hw=>?_⟩
    have s4:=qag hw (HO.lst [V.ref r])
    have na:a≠p:=fun e=>by obtain ⟨_,z⟩:=B2;rw [← e,ha] at z;cases z
    have ha3:H3 a=some (.lst ys):=k3 _ _ na qai
    have hZ3:=((hZ.tp (tpS s2)).tp ((B2.same s2).tp k3)).tp (tpS (s3.trans s4))
    refine ⟨ys,s4 _ _ (s3 _ _ ha3),sz (by rw [hZ.length,ll];omega),fun v hv=>?_⟩
    have s5:=qag hv (HO.lst (ys++[V.ref r]))
    refine ⟨l++[(1+x,1)],(hZ3.append (Nums.one ⟨r,rfl,s4 _ _ qai⟩)).tp (tpS s5),by rw [List.length_append,ll];simp;omega,fun o os H6 s6 ho hos=>?_⟩
    have mem:∀ q∈l++[(1+x,(1:Int))],Bd 3 q.1∧q.2=1:=fun q hq=>by
      rcases List.mem_append.mp hq with z | z
      · exact lo q z
      · rw [List.mem_singleton.mp z];exact ⟨by show (1+x).natAbs<8;omega,rfl⟩
    have nzl:Nz (l++[(1+x,(1:Int))]):=fun q hq=>by
      rw [List.getLast?_append] at hq
      obtain rfl:(1+x,(1:Int))=q:=Option.some.inj hq
      show 1+x≠0
      omega
    rw [qi1 nzl] at hos
    exact k o _ H6 ⟨os,ho,hos⟩ (qld nzl mem) (by simp) (by rw [List.length_append,ll];simp;omega) ((((x3.same s3).same s4).same s5).same s6) (((((k2.same s2).trans k3).same s3).same s4).same s5 |>.same s6)
theorem qgp (h:qaW K vs H Q E):qc2 K { nx:=fun _ H'=>Q .non H',rt:=Q } (L2.start ["_law_rest_here", "_law_most", "_law_far", "_law_top", "_law_bottom"] vs) H:=by
  obtain ⟨p,m,far,rfl,hx,m0,m2,fm,k⟩:=h
  unfold qc2
  rwa []
  refine ⟨hx,m0,m2,fun a l H1 Pa Gl Gf ll hx1 k1=>?_⟩
  unfold qdC
  rwa []
  refine ⟨hx1,m0,m2,fun b mm H2 ⟨zs,hb,nb⟩ Gm Gm' lm hx2 k2=>?_⟩
  have Gm':=Gm' trivial
  have Pa2:=Pa.tp2 (hx1.tp k2)
  have fin:∀ (c:Addr) (mm:List Nu) (H3:Hp),Same H2 H3→Pl H3 c mm→Gq 9 6 mm→mm≠[]→(mm.length:Int)≤m+1→qck K { nx:=fun x H'=>Q V.non H',rt:=Q } [some (V.ref p),some (V.int m),some (V.bl far),some (V.ref a),some (V.ref c)] H3:=fun c mm H3 s3 Pc Gc c0 lc=>by
    unfold qck
    rwa []
    refine ⟨l,Pa2.same s3,mm,Pc,161,Gl.mono (by decide) (by decide),Gc.mono (by decide) (by decide),c0,185,3,by omega,3,by omega,fun l0=>qf2 (n:=3) (e:=2) Gl l0 (by omega) (by decide),(qf2 (n:=3) (e:=2) Gc c0 (by omega) (by decide)).mono (by decide),2,by decide,by decide,fun t H4 T B s4 ff lw eq=>?_⟩
    refine k t T B H4 ff (fun e=>Rp.of lw (Gf e) Gc c0 (by omega) (by omega) eq (by decide) (by decide)) (fun e=>?_) ((hx2.same s3).same s4) (((k1.trans k2).same s3).same s4)
    have m1:=fm e
    exact Rp.of lw Gl Gc c0 (by omega) (by omega) eq (by decide) (by decide)
  unfold qdB
  rwa []
  refine ⟨sz (by decide),fun e he=>?_⟩
  have s1:=qag he (HO.tup [])
  refine eqP (s1 _ _ hb) (nb.tp (tpS s1)) qai (m:=[]) trivial (decide (mm=[])) (by simp) ⟨_,rfl,qc5 (fun c=>?_) (fun c=>fin b mm _ s1 ⟨zs,s1 _ _ hb,nb.tp (tpS s1)⟩ Gm' (by simpa using c) lm)⟩
  refine ⟨sz (by decide),fun a1 e1=>⟨sz (by decide),fun a2 e2=>?_⟩⟩
  have s2:=qag e1 (HO.tup [V.int 1,V.int 1])
  have s3:=qag e2 (HO.tup [V.ref a1])
  refine fin a2 [(1,1)] _ ((s1.trans s2).trans s3) ⟨_,qai,Nums.one (qpA (s3 _ _ qai))⟩ (qtn ?_ ?_ ?_) (by simp) (by simp;omega)
  · intro q hq;rw [List.mem_singleton.mp hq];exact qon
  · intro q hq;obtain rfl:(1,1)=q:=Option.some.inj hq;decide
  · intro q hq;rw [List.mem_singleton.mp hq];exact ⟨by decide,by decide⟩
theorem qsr (h:qj4 K vs H Q E):qqU K { nx:=fun _ H'=>Q .non H',rt:=Q } (L2.start ["_law_script", "_law_rest_here", "_law_kf", "_law_kg", "_law_kh"] vs) H:=by
  obtain ⟨a,ns,rfl,hs,n63,k⟩:=h
  unfold qqU
  rwa []
  refine ⟨ns,hs,by decide,by decide,fun r z hr=>?_⟩
  have hx1:Bx (upd H r (HO.lst [V.int z])) r:=⟨z,qai⟩
  have k1:Kp r H (upd H r (HO.lst [V.int z])):=Kp.upd
  generalize upd H r (HO.lst [V.int z])=H1 at hx1 k1 ⊢
  unfold qn5
  rwa []
  refine ⟨hx1,by decide,by decide,(fun z=>nomatch z),fun p T B H2 F RF _ hx2 k2=>?_⟩
  have RF:=RF trivial
  have s2:=(k1.trans k2).new hr
  unfold qn4
  rwa []
  refine ⟨ns,Same.seq s2 hs,by decide,by decide,fun r2 z2 hr2=>?_⟩
  have hx3:Bx (upd H2 r2 (HO.lst [V.int z2])) r2:=⟨z2,qai⟩
  have k3:Kp r2 H2 (upd H2 r2 (HO.lst [V.int z2])):=Kp.upd
  generalize upd H2 r2 (HO.lst [V.int z2])=H3 at hx3 k3 ⊢
  refine ⟨hx3,by decide,by decide,(fun z=>nomatch z),fun q T' B' H4 G RG _ hx4 k4=>?_⟩
  have RG:=RG trivial
  have s4:=(k3.trans k4).new hr2
  unfold qn3
  rwa []
  refine ⟨ns,Same.seq (s2.trans s4) hs,by decide,by decide,fun r3 z3 hr3=>?_⟩
  have hx5:Bx (upd H4 r3 (HO.lst [V.int z3])) r3:=⟨z3,qai⟩
  have k5:Kp r3 H4 (upd H4 r3 (HO.lst [V.int z3])):=Kp.upd
  generalize upd H4 r3 (HO.lst [V.int z3])=H5 at hx5 k5 ⊢
  refine ⟨hx5,by decide,by decide,(fun _=>trivial),fun o T2 B2 H6 I _ RI hx6 k6=>?_⟩
  have RI:=RI trivial
  have s6:=(k5.trans k6).new hr3
  have F6:=F.same (s4.trans s6)
  have G6:=G.same s6
  have x6:=(hx2.same s4).same s6
  have fin:∀ (p q:Addr) (T B T' B':List Nu) (H3:Hp),FF H3 p T B→FF H3 q T' B'→FF H3 o T2 B2→Rp 15 7 3 T B→Rp 15 7 3 T' B'→qkY K { nx:=fun x H'=>Q V.non H',rt:=Q } [some (V.ref a),some (V.ref r),some (V.ref p),some (V.ref q),some (V.ref o)] H3:=fun p q T B T' B' H3 f g i rf rg=>by
    unfold qkY
    rwa []
    exact ⟨p,q,o,T,B,T',B',T2,B2,rfl,f,g,i,rf,rg,RI,fun H' _=>k H'⟩
  unfold qn2
  rwa []
  refine ⟨x6,by decide,fun d H7 d0 d1 x7 k7=>qc5 (fun _=>?_) (fun _=>fin p q T B T' B' H7 (F6.tp2 (x6.tp k7)) (G6.tp2 (x6.tp k7)) (I.tp2 (x6.tp k7)) (RF.mono (by decide) (by decide) (by decide)) (RG.mono (by decide) (by decide) (by decide)))⟩
  have I7:=I.tp2 (x6.tp k7)
  unfold qiB
  rwa []
  refine ⟨x7,.inr trivial,fun a1 l H8 P8 Gl l0 ll x8 k8=>⟨x8,by decide,fun d H9 d0 d1 x9 k9=>⟨by decide,fun b1 e1=>?_⟩⟩⟩
  rw [qpB] at *
  have v1:=qag e1 (HO.tup [V.int (d - 4),V.int 1])
  refine ⟨sz (by decide),fun b2 e2=>⟨sz (by decide),fun b3 e3=>?_⟩⟩
  have v2:=qag e2 (HO.tup [V.int 1,V.int 1])
  have v3:=qag e3 (HO.lst [V.ref b1,V.ref b2])
  have nz:Nz [(d - 4,(1:Int)),(1,1)]:=fun q hq=>by obtain rfl:((1:Int),(1:Int))=q:=Option.some.inj hq;decide
  have mem:∀ q∈[(d - 4,(1:Int)),(1,1)],Bd 3 q.1∧q.2=1:=fun q hq=>by
    rcases List.mem_cons.mp hq with z | z
    · rw [z];exact ⟨by show (d - 4).natAbs<8;omega,rfl⟩
    · rw [List.mem_singleton.mp z];exact ⟨by unfold Bd;decide,rfl⟩
  refine ⟨[(d - 4,1),(1,1)],⟨⟨b1,rfl,v3 _ _ (v2 _ _ qai)⟩,⟨b2,rfl,v3 _ _ qai⟩,trivial⟩,by simp,fun c zs H10 s10 hc nc=>?_⟩
  rw [qi1 nz] at nc
  have w:=((v1.trans v2).trans v3).trans s10
  have Pl10:=(P8.tp2 (x8.tp k9)).same w
  have Gm:=qld nz mem
  have lw7:l.length≤7:=by omega
  refine ⟨_,rfl,l,Pl10,[(d - 4,1),(1,1)],⟨zs,hc,nc⟩,3,Gl.mono (by decide) (by decide),Gm.mono (by decide) (by decide),by simp,73,7,lw7,2,by simp,fun l0=>qf2 (e:=3) Gl l0 lw7 (by decide),(qf2 (n:=2) (e:=3) Gm (by simp) (by simp) (by decide)).mono (by decide),3,by decide,by decide,fun p1 H11 Ta Ba s11 F11 L11 eq11=>?_⟩
  have R11:=Rp.of (x:=15) L11 Gl Gm (by simp) lw7 (show [(d - 4,(1:Int)),(1,1)].length≤3 by simp) eq11 (by decide) (by decide)
  have x11:=(x9.same w).same s11
  have I11:=((I7.tp2 ((x7.tp k8).trans (x8.tp k9))).same w).same s11
  unfold qiA
  rwa []
  refine ⟨x11,.inl trivial,fun a2 l' H12 P12 Gl' l0' ll' x12 k12=>⟨x12,by decide,fun d' H13 d0' d1' x13 k13=>⟨by decide,fun b4 e4=>?_⟩⟩⟩
  rw [qpB] at *
  have v4:=qag e4 (HO.tup [V.int (d' - 4),V.int 1])
  refine ⟨sz (by decide),fun b5 e5=>⟨sz (by decide),fun b6 e6=>⟨sz (by decide),fun b7 e7=>?_⟩⟩⟩
  have v5:=qag e5 (HO.tup [V.int 0,V.int 1])
  have v6:=qag e6 (HO.tup [V.int 1,V.int 1])
  have v7:=qag e7 (HO.lst [V.ref b4,V.ref b5,V.ref b6])
  have nz':Nz [(d' - 4,(1:Int)),(0,1),(1,1)]:=fun q hq=>by obtain rfl:((1:Int),(1:Int))=q:=Option.some.inj hq;decide
  have mem':∀ q∈[(d' - 4,(1:Int)),(0,1),(1,1)],Bd 3 q.1∧q.2=1:=fun q hq=>by
    rcases List.mem_cons.mp hq with z | z
    · rw [z];exact ⟨by show (d' - 4).natAbs<8;omega,rfl⟩
    rcases List.mem_cons.mp z with z | z
    · rw [z];exact ⟨by unfold Bd;decide,rfl⟩
    · rw [List.mem_singleton.mp z];exact ⟨by unfold Bd;decide,rfl⟩
  refine ⟨[(d' - 4,1),(0,1),(1,1)],⟨⟨b4,rfl,v7 _ _ (v6 _ _ (v5 _ _ qai))⟩,⟨b5,rfl,v7 _ _ (v6 _ _ qai)⟩,⟨b6,rfl,v7 _ _ qai⟩,trivial⟩,by simp,fun c' zs' H14 s14 hc' nc'=>?_⟩
  rw [qi1 nz'] at nc'
  have w':=(((v4.trans v5).trans v6).trans v7).trans s14
  have Pl14:=(P12.tp2 (x12.tp k13)).same w'
  have Gm':=qld nz' mem'
  have lw6:l'.length≤7:=by omega
  refine ⟨_,rfl,l',Pl14,[(d' - 4,1),(0,1),(1,1)],⟨zs',hc',nc'⟩,3,Gl'.mono (by decide) (by decide),Gm'.mono (by decide) (by decide),by simp,73,7,lw6,3,by simp,fun l0=>qf2 (e:=3) Gl' l0 lw6 (by decide),(qf2 (n:=3) (e:=3) Gm' (by simp) (by simp) (by decide)).mono (by decide),3,by decide,by decide,fun q1 H15 Tc Bc s15 F15 L15 eq15=>?_⟩
  have R15:=Rp.of (x:=15) L15 Gl' Gm' (by simp) lw6 (show [(d' - 4,(1:Int)),(0,1),(1,1)].length≤3 by simp) eq15 (by decide) (by decide)
  have tp:=(x11.tp k12).trans (x12.tp k13)
  exact fin p1 q1 Ta Ba Tc Bc H15 (((F11.tp2 tp).same w').same s15) F15 (((I11.tp2 tp).same w').same s15) R11 R15
end Bs
namespace Bs
open PySem PySem.Spec PyProof.Rows L2
set_option maxHeartbeats 4000000
open Hd
structure Bl (K:W.Frag) (mg:Str→Option Value):Prop where
  abs:mg "abs" = none
  min:mg "min" = none
  len:mg "len" = none
  enumerate:mg "enumerate" = none
  list:mg "list" = none
  max:mg "max" = none
  range:mg "range" = none
  any:mg "any" = none
  zip:mg "zip" = none
  EXPONENTS:mg "EXPONENTS" = some (.ref (qcf K))
  tuple:mg "tuple" = none
  int:mg "int" = none
  xEXPONENTS:∀ H:Hp,SqT K H (qcf K) (exps.map fun e:Nat=>V.int (e:Int))
section
variable {P:Program} {w:World} {K:W.Frag} {mg:Str→Option Value} {base:Heap} {f:Addr} {fd:FuncData}
theorem sc_common_divisor:FnScope ["one", "other", "rest"] ["one", "other"] (qak qcw):=⟨rfl,rfl,rfl,by decide +kernel,rfl,by decide +kernel,by decide +kernel⟩
theorem qf4 (F:Fun K "common_divisor" "common_divisor" qcw f fd) (B:Bl K mg)  : FnOk P w K mg base CX0 1 f fd ["one", "other"] (qau K):=by
  refine F.ok sc_common_divisor (fun vs H Q E h=>?_) (fun cdv A outer s H vs Q E hr h=>?_)
  · obtain ⟨_,_,rfl,_⟩:=h
    rfl
  have nd:=sc_common_divisor.nd
  have hu:=hr.units0
  have hu64:=hr.units
  exact ⟨qcA K,(qae (qcF PassesOwn.never (qaE qkz (pv 1) qad (nomark _)) (qae (qal (i:=2) nd rfl (Or.inl rfl) (qax qqr (pv 0) (pv 1)))
    (qae (qal (i:=0) nd rfl (Or.inl rfl) (pv 1))
    (qah (qal (i:=1) nd rfl (Or.inl rfl) (pv 2))))))
    (qah (qay (qaC qg0 rfl B.abs qnl (qaa (pv 0) qac))))),qfZ h⟩
theorem sc_raised:FnScope ["whole", "n", "result", "square"] ["whole", "n"] (qak qiP):=⟨rfl,rfl,rfl,by decide +kernel,rfl,by decide +kernel,by decide +kernel⟩
theorem qoI (F:Fun K "raised" "raised" qiP f fd) (B:Bl K mg)  : FnOk P w K mg base CX0 1 f fd ["whole", "n"] (qcT K):=by
  refine F.ok sc_raised (fun vs H Q E h=>?_) (fun cdv A outer s H vs Q E hr h=>?_)
  · obtain ⟨_,_,_,rfl,_⟩:=h
    rfl
  have nd:=sc_raised.nd
  have hu:=hr.units0
  have hu64:=hr.units
  exact ⟨qjc K,(qae (qal (i:=2) nd rfl (Or.inl rfl) qad)
    (qae (qal (i:=3) nd rfl (Or.inl rfl) (pv 0))
    (qae (qcF PassesOwn.never (qaE qmd (pv 1) qad (nomark _)) (qae (qb5 (qaE qiI (qax qdy (pv 1) qad) qad (nomark _)) (qah (qf9 (i:=2) nd rfl (Or.inl rfl) (pv 3) qgz)) qa0)
    (qae (qf9 (i:=1) nd rfl (Or.inl rfl) qad qny)
    (qah (qb5 (qaE qmd (pv 1) qad (nomark _)) (qah (qf9 (i:=3) nd rfl (Or.inl rfl) (pv 3) qgz)) qa0)))))
    (qah (qay (pv 2)))))),qn6 h⟩
theorem sc_content:FnScope ["row", "start", "found", "whole"] ["row", "start"] (qak qgO):=⟨rfl,rfl,rfl,by decide +kernel,rfl,by decide +kernel,by decide +kernel⟩
theorem qmz (F:Fun K "content" "content" qgO f fd) (B:Bl K mg) (c_common_divisor:Cal P w K mg base 1 "common_divisor" ["one", "other"] (qau K)):FnOk P w K mg base CX0 2 f fd ["row", "start"] (qbQ K):=by
  refine F.ok sc_content (fun vs H Q E h=>?_) (fun cdv A outer s H vs Q E hr h=>?_)
  · obtain ⟨_,_,_,rfl,_⟩:=h
    rfl
  have nd:=sc_content.nd
  have hu:=hr.units0
  have hu64:=hr.units
  exact ⟨qhb K,(qae (qal (i:=2) nd rfl (Or.inl rfl) (c_common_divisor.pe hr (by decide) rfl (qaa (qqG rfl B.min qrM (qpb (N:=["whole"]) (capt:=[none]) rfl (BlkOk.of rfl rfl rfl rfl (fun _ h=>nomatch h) rfl rfl rfl) (qdl (pv 0)) (fun _ _ _ _=>(qaT (i:=0) (show (["whole"]:List PySem.Str).Nodup by decide +kernel) rfl (Or.inl rfl))) (fun _ _ _ _=>(qaE qkz (pv 0) qad (nomark _))) (fun _ _ _ _=>(qaC qg0 rfl B.abs qnl (qaa (pv 0) qac))))) (qaa (pv 1) qac))))
    (qae (qd0 PassesOwn.never rfl (qdl (pv 0)) (qaT (i:=3) nd rfl (Or.inl rfl)) (qae (qb5 (qaE qiI (pv 2) qad (nomark _)) (qah (qay qad)) qa0)
    (qah (qal (i:=2) nd rfl (Or.inl rfl) (c_common_divisor.pe hr (by decide) rfl (qaa (pv 3) (qaa (pv 2) qac)))))))
    (qah (qay (pv 2))))),qmo h⟩
theorem sc_row_trimmed:FnScope ["row", "many"] ["row"] (qak qdI):=⟨rfl,rfl,rfl,by decide +kernel,rfl,by decide +kernel,by decide +kernel⟩
theorem qh6 (F:Fun K "row_trimmed" "row_trimmed" qdI f fd) (B:Bl K mg)  : FnOk P w K mg base CX0 1 f fd ["row"] (qaV K):=by
  refine F.ok sc_row_trimmed (fun vs H Q E h=>?_) (fun cdv A outer s H vs Q E hr h=>?_)
  · obtain ⟨_,_,rfl,_⟩:=h
    rfl
  have nd:=sc_row_trimmed.nd
  have hu:=hr.units0
  have hu64:=hr.units
  exact ⟨qdS K,(qae (qal (i:=1) nd rfl (Or.inl rfl) (qaC qa1 rfl B.len qbr (qaa (pv 0) qac)))
    (qae (qcF PassesOwn.never (PW.pt (qjG (qaE qmd (pv 1) qad (nomark _)) (qgJ (qaE qiI (qaB qaX (pv 0) (qax qbB (pv 1) qad) (fun _ _=>rfl)) qad (nomark _))))) (qah (qf9 (i:=1) nd rfl (Or.inl rfl) qad qgL)))
    (qah (qay (qgw qiY (pv 0) qiK (qiL (pv 1))))))),qh1 h⟩
theorem sc_row_parted:FnScope ["row", "divisor"] ["row", "divisor"] (qak qeb):=⟨rfl,rfl,rfl,by decide +kernel,rfl,by decide +kernel,by decide +kernel⟩
theorem qjv (F:Fun K "row_parted" "row_parted" qeb f fd) (B:Bl K mg)  : FnOk P w K mg base CX0 1 f fd ["row", "divisor"] (qbm K):=by
  refine F.ok sc_row_parted (fun vs H Q E h=>?_) (fun cdv A outer s H vs Q E hr h=>?_)
  · obtain ⟨_,_,_,rfl,_⟩:=h
    rfl
  have nd:=sc_row_parted.nd
  have hu:=hr.units0
  have hu64:=hr.units
  exact ⟨qep K,(qah (qay (qcy (N:=["whole", "divisor"]) (capt:=[none,some 1]) rfl (BlkOk.of rfl rfl rfl rfl (List.forall_mem_singleton.mpr rfl) rfl rfl rfl) (qdl (pv 0)) (fun _ _ _ _=>(qaT (i:=0) (show (["whole", "divisor"]:List PySem.Str).Nodup by decide +kernel) rfl (Or.inl rfl))) (fun _ _ _ _=>(qax qfn (pv 0) (pv 1)))))),qjl h⟩
theorem sc_row_times:FnScope ["row", "other", "result", "place", "whole", "step", "factor"] ["row", "other"] (qak qe2):=⟨rfl,rfl,rfl,by decide +kernel,rfl,by decide +kernel,by decide +kernel⟩
theorem qkn (F:Fun K "row_times" "row_times" qe2 f fd) (B:Bl K mg)  : FnOk P w K mg base CX0 1 f fd ["row", "other"] (qbO K):=by
  refine F.ok sc_row_times (fun vs H Q E h=>?_) (fun cdv A outer s H vs Q E hr h=>?_)
  · obtain ⟨_,_,_,_,_,_,rfl,_⟩:=h
    rfl
  have nd:=sc_row_times.nd
  have hu:=hr.units0
  have hu64:=hr.units
  exact ⟨qfa K,(qae (qb5 (PW.pt (qma (qmR (qeg (pv 0) (fun _=>rfl))) (qie (qmR (qeg (pv 1) (fun _=>rfl)))))) (qah (qay (qcN qac))) qa0)
    (qae (qal (i:=2) nd rfl (Or.inl rfl) (qax qjO (qcN (qaa qad qac)) (qax qbB (qax qbX (qaC qa1 rfl B.len qbr (qaa (pv 0) qac)) (qaC qa1 rfl B.len qbr (qaa (pv 1) qac))) qad)))
    (qae (qd0 PassesOwn.never rfl (qiX rfl B.enumerate (qaa (pv 0) qac)) (qiZ rfl (qc8 (qaT (i:=3) nd rfl (Or.inl rfl)) (qc8 (qaT (i:=4) nd rfl (Or.inl rfl)) qiG))) (qah (qb5 (qaE qkz (pv 4) qad (nomark _)) (qah (qd0 PassesOwn.never rfl (qiX rfl B.enumerate (qaa (pv 1) qac)) (qiZ rfl (qc8 (qaT (i:=5) nd rfl (Or.inl rfl)) (qc8 (qaT (i:=6) nd rfl (Or.inl rfl)) qiG))) (qah (qiH (pv 2) (qax qbX (pv 3) (pv 5)) qgA (qax qaU (pv 4) (pv 6)) qqs qc9)))) qa0)))
    (qah (qay (pv 2)))))),qkf h⟩
theorem sc_row_over:FnScope ["row", "divisor", "rest", "last", "quotient", "shift", "weight", "place"] ["row", "divisor"] (qak qfI):=⟨rfl,rfl,rfl,by decide +kernel,rfl,by decide +kernel,by decide +kernel⟩
theorem qle (F:Fun K "row_over" "row_over" qfI f fd) (B:Bl K mg)  : FnOk P w K mg base CX0 1 f fd ["row", "divisor"] (qbN K):=by
  refine F.ok sc_row_over (fun vs H Q E h=>?_) (fun cdv A outer s H vs Q E hr h=>?_)
  · obtain ⟨_,_,_,_,_,_,rfl,_⟩:=h
    rfl
  have nd:=sc_row_over.nd
  have hu:=hr.units0
  have hu64:=hr.units
  exact ⟨qfT K,(qae (qal (i:=2) nd rfl (Or.inl rfl) (qd8 qio rfl B.list qnm (qaa (pv 0) qac)))
    (qae (qal (i:=3) nd rfl (Or.inl rfl) (qax qbB (qaC qa1 rfl B.len qbr (qaa (pv 1) qac)) qad))
    (qae (qal (i:=4) nd rfl (Or.inl rfl) (qax qjO (qcN (qaa qad qac)) (qaC (qee rfl) rfl B.max qjQ (qaa (qax qbB (qaC qa1 rfl B.len qbr (qaa (pv 0) qac)) (pv 3)) (qaa qad qac)))))
    (qae (qd0 PassesOwn.never rfl (qjW rfl B.range (qaa (qax qbB (qax qbB (qaC qa1 rfl B.len qbr (qaa (pv 0) qac)) (pv 3)) qad) (qaa (qc4 qbU qad) (qaa (qc4 qbU qad) qac)))) (qaT (i:=5) nd rfl (Or.inl rfl)) (qae (qal (i:=6) nd rfl (Or.inl rfl) (qax qcH (qaB qaX (pv 2) (qax qbX (pv 5) (pv 3)) (fun _ _=>rfl)) (qaB qaX (pv 1) (qc4 qbU qad) (fun _ _=>rfl))))
    (qae (qb5 (qaE qkz (qax qaU (pv 6) (qaB qaX (pv 1) (qc4 qbU qad) (fun _ _=>rfl))) (qaB qaX (pv 2) (qax qbX (pv 5) (pv 3)) (fun _ _=>rfl)) (nomark _)) (qah (qay qgI)) qa0)
    (qae (qlo (pv 6) (qln (pv 4) (pv 5) qc9))
    (qah (qb5 (qaE qkz (pv 6) qad (nomark _)) (qah (qd0 PassesOwn.never rfl (qcM rfl B.range (qaa (pv 3) qac)) (qaT (i:=7) nd rfl (Or.inl rfl)) (qah (qiH (pv 2) (qax qbX (pv 5) (pv 7)) qgA (qax qaU (pv 6) (qaB qaX (pv 1) (pv 7) (fun _ _=>rfl))) qgL qc9)))) qa0))))))
    (qah (qay (qgv (qpQ (qaC (qnF rfl) rfl B.any qrT (qaa (qgw qiY (pv 2) qiK (qiL (pv 3))) qac))) qgI (pv 4)))))))),qk2 h⟩
theorem sc_row_less:FnScope ["row", "factor", "other", "weight", "shift", "result", "place", "whole"] ["row", "factor", "other", "weight", "shift"] (qak qfJ):=⟨rfl,rfl,rfl,by decide +kernel,rfl,by decide +kernel,by decide +kernel⟩
theorem qlf (F:Fun K "row_less" "row_less" qfJ f fd) (B:Bl K mg) (c_row_trimmed:Cal P w K mg base 1 "row_trimmed" ["row"] (qaV K)):FnOk P w K mg base CX0 2 f fd ["row", "factor", "other", "weight", "shift"] (qbI K):=by
  refine F.ok sc_row_less (fun vs H Q E h=>?_) (fun cdv A outer s H vs Q E hr h=>?_)
  · obtain ⟨_,_,_,_,_,_,_,rfl,_⟩:=h
    rfl
  have nd:=sc_row_less.nd
  have hu:=hr.units0
  have hu64:=hr.units
  exact ⟨qfU K,(qae (qkK (i:=5) (N:=["whole", "factor"]) (capt:=[none,some 1]) nd rfl (Or.inl rfl) rfl (BlkOk.of rfl rfl rfl rfl (List.forall_mem_singleton.mpr rfl) rfl rfl rfl) (qdl (pv 0)) (fun _ _ _ _=>(qaT (i:=0) (show (["whole", "factor"]:List PySem.Str).Nodup by decide +kernel) rfl (Or.inl rfl))) (fun _ _ _ _=>(qax qaU (pv 1) (pv 0))))
    (qae (qqn (qsJ PySem.F.plainAttrs_list PySem.F.slot_list_extend PySem.F.type_list_extend qm7 (pv 5) (qaa (qax qjO (qcN (qaa qad qac)) (qax qbB (qax qbX (qaC qa1 rfl B.len qbr (qaa (pv 2) qac)) (pv 4)) (qaC qa1 rfl B.len qbr (qaa (pv 0) qac)))) qac)))
    (qae (qd0 PassesOwn.never rfl (qiX rfl B.enumerate (qaa (pv 2) qac)) (qiZ rfl (qc8 (qaT (i:=6) nd rfl (Or.inl rfl)) (qc8 (qaT (i:=7) nd rfl (Or.inl rfl)) qiG))) (qah (qiH (pv 5) (qax qbX (pv 6) (pv 4)) qgA (qax qaU (pv 3) (pv 7)) qgL qc9)))
    (qah (qay (c_row_trimmed.pe hr (by decide) rfl (qaa (pv 5) qac))))))),qk1 h⟩
theorem sc_strand_rest:FnScope ["strand", "other", "shift", "top", "lead", "shared", "factor", "weight"] ["strand", "other"] (qak qdJ):=⟨rfl,rfl,rfl,by decide +kernel,rfl,by decide +kernel,by decide +kernel⟩
theorem qh7 (F:Fun K "strand_rest" "strand_rest" qdJ f fd) (B:Bl K mg) (c_common_divisor:Cal P w K mg base 1 "common_divisor" ["one", "other"] (qau K)) (c_row_less:Cal P w K mg base 2 "row_less" ["row", "factor", "other", "weight", "shift"] (qbI K)) (c_strand_shortened:Cal P w K mg base 3 "strand_shortened" ["strand"] (qaK K)):FnOk P w K mg base CX0 4 f fd ["strand", "other"] (qbw K):=by
  refine F.ok sc_strand_rest (fun vs H Q E h=>?_) (fun cdv A outer s H vs Q E hr h=>?_)
  · obtain ⟨_,_,_,rfl,_⟩:=h
    rfl
  have nd:=sc_strand_rest.nd
  have hu:=hr.units0
  have hu64:=hr.units
  exact ⟨qdT K,(qae (qcF PassesOwn.never (qaE qqu (qaC qa1 rfl B.len qbr (qaa (qaB qaX (pv 0) qad (fun _ _=>rfl)) qac)) (qaC qa1 rfl B.len qbr (qaa (qaB qaX (pv 1) qad (fun _ _=>rfl)) qac)) (nomark _)) (qae (qal (i:=2) nd rfl (Or.inr rfl) (qax qbB (qaC qa1 rfl B.len qbr (qaa (qaB qaX (pv 0) qad (fun _ _=>rfl)) qac)) (qaC qa1 rfl B.len qbr (qaa (qaB qaX (pv 1) qad (fun _ _=>rfl)) qac))))
    (qae (qal (i:=3) nd rfl (Or.inl rfl) (qaB qaX (qaB qaX (pv 0) qad (fun _ _=>rfl)) (qc4 qbU qad) (fun _ _=>rfl)))
    (qae (qal (i:=4) nd rfl (Or.inl rfl) (qaB qaX (qaB qaX (pv 1) qad (fun _ _=>rfl)) (qc4 qbU qad) (fun _ _=>rfl)))
    (qae (qal (i:=5) nd rfl (Or.inl rfl) (c_common_divisor.pe hr (by decide) rfl (qaa (pv 3) (qaa (pv 4) qac))))
    (qae (qal (i:=6) nd rfl (Or.inr rfl) (qax qcH (pv 4) (pv 5)))
    (qae (qal (i:=7) nd rfl (Or.inr rfl) (qax qcH (pv 3) (pv 5)))
    (qah (qkK (i:=0) (N:=["row", "follower", "factor", "weight", "shift"]) (capt:=[none,none,some 6,some 7,some 2]) nd rfl (Or.inl rfl) rfl (BlkOk.of rfl rfl rfl rfl (List.forall_mem_cons.mpr ⟨rfl,(List.forall_mem_cons.mpr ⟨rfl,(List.forall_mem_singleton.mpr rfl)⟩)⟩) rfl rfl rfl) (qrS rfl B.zip (qaa (pv 0) (qaa (pv 1) qac))) (fun _ _ _ _=>(qiZ rfl (qc8 (qaT (i:=0) (show (["row", "follower", "factor", "weight", "shift"]:List PySem.Str).Nodup by decide +kernel) rfl (Or.inl rfl)) (qc8 (qaT (i:=1) (show (["row", "follower", "factor", "weight", "shift"]:List PySem.Str).Nodup by decide +kernel) rfl (Or.inl rfl)) qiG)))) (fun _ _ _ _=>(c_row_less.pe hr (by decide) rfl (qaa (pv 0) (qaa (pv 2) (qaa (pv 1) (qaa (pv 3) (qaa (pv 4) qac))))))))))))))))
    (qah (qay (c_strand_shortened.pe hr (by decide) rfl (qaa (pv 0) qac))))),qh3 h⟩
theorem sc_strand_shortened:FnScope ["strand", "shared", "row"] ["strand"] (qak qb6):=⟨rfl,rfl,rfl,by decide +kernel,rfl,by decide +kernel,by decide +kernel⟩
theorem qfj (F:Fun K "strand_shortened" "strand_shortened" qb6 f fd) (B:Bl K mg) (c_content:Cal P w K mg base 2 "content" ["row", "start"] (qbQ K)) (c_row_parted:Cal P w K mg base 1 "row_parted" ["row", "divisor"] (qbm K)):FnOk P w K mg base CX0 3 f fd ["strand"] (qaK K):=by
  refine F.ok sc_strand_shortened (fun vs H Q E h=>?_) (fun cdv A outer s H vs Q E hr h=>?_)
  · obtain ⟨_,_,rfl,_⟩:=h
    rfl
  have nd:=sc_strand_shortened.nd
  have hu:=hr.units0
  have hu64:=hr.units
  exact ⟨qca K,(qae (qal (i:=1) nd rfl (Or.inr rfl) qad)
    (qae (qd0 PassesOwn.never rfl (qdl (pv 0)) (qaT (i:=2) nd rfl (Or.inl rfl)) (qah (qal (i:=1) nd rfl (Or.inr rfl) (c_content.pe hr (by decide) rfl (qaa (pv 2) (qaa (pv 1) qac))))))
    (qah (qay (qcy (N:=["row", "shared"]) (capt:=[none,some 1]) rfl (BlkOk.of rfl rfl rfl rfl (List.forall_mem_singleton.mpr rfl) rfl rfl rfl) (qdl (pv 0)) (fun _ _ _ _=>(qaT (i:=0) (show (["row", "shared"]:List PySem.Str).Nodup by decide +kernel) rfl (Or.inl rfl))) (fun _ _ _ _=>(c_row_parted.pe hr (by decide) rfl (qaa (pv 0) (qaa (pv 1) qac))))))))),qfg h⟩
theorem sc_row_shortened:FnScope ["row"] ["row"] (qak qcO):=⟨rfl,rfl,rfl,by decide +kernel,rfl,by decide +kernel,by decide +kernel⟩
theorem qgq (F:Fun K "row_shortened" "row_shortened" qcO f fd) (B:Bl K mg) (c_strand_shortened:Cal P w K mg base 3 "strand_shortened" ["strand"] (qaK K)):FnOk P w K mg base CX0 4 f fd ["row"] (qaO K):=by
  refine F.ok sc_row_shortened (fun vs H Q E h=>?_) (fun cdv A outer s H vs Q E hr h=>?_)
  · obtain ⟨_,_,rfl,_⟩:=h
    rfl
  have nd:=sc_row_shortened.nd
  have hu:=hr.units0
  have hu64:=hr.units
  exact ⟨qcV K,(qah (qay (qaB qaX (c_strand_shortened.pe hr (by decide) rfl (qaa (qcN (qaa (pv 0) qac)) qac)) qad (fun _ _=>rfl)))),qgn h⟩
theorem sc_strand_euclid:FnScope ["strand", "other", "rest"] ["strand", "other"] (qak qcP):=⟨rfl,rfl,rfl,by decide +kernel,rfl,by decide +kernel,by decide +kernel⟩
theorem qgr (F:Fun K "strand_euclid" "strand_euclid" qcP f fd) (B:Bl K mg) (c_strand_rest:Cal P w K mg base 4 "strand_rest" ["strand", "other"] (qbw K)):FnOk P w K mg base CX0 5 f fd ["strand", "other"] (qa5 K):=by
  refine F.ok sc_strand_euclid (fun vs H Q E h=>?_) (fun cdv A outer s H vs Q E hr h=>?_)
  · obtain ⟨_,_,_,_,rfl,_⟩:=h
    rfl
  have nd:=sc_strand_euclid.nd
  have hu:=hr.units0
  have hu64:=hr.units
  exact ⟨qcW K,(qae (qcF PassesOwn.never (qeg (qaB qaX (pv 1) qad (fun _ _=>rfl)) (fun _=>rfl)) (qae (qb5 (qaE qiI (qaC qa1 rfl B.len qbr (qaa (qaB qaX (pv 1) qad (fun _ _=>rfl)) qac)) qad (nomark _)) (qah (qay (pv 1))) qa0)
    (qae (qal (i:=2) nd rfl (Or.inl rfl) (c_strand_rest.pe hr (by decide) rfl (qaa (pv 0) (qaa (pv 1) qac))))
    (qae (qal (i:=0) nd rfl (Or.inl rfl) (pv 1))
    (qah (qal (i:=1) nd rfl (Or.inl rfl) (pv 2)))))))
    (qah (qay (pv 0)))),qgo h⟩
theorem sc_inverse_modulo:FnScope ["whole", "prime", "one", "other", "one_weight", "other_weight", "quotient", "rest"] ["whole", "prime"] (qak qcx):=⟨rfl,rfl,rfl,by decide +kernel,rfl,by decide +kernel,by decide +kernel⟩
theorem qf5 (F:Fun K "inverse_modulo" "inverse_modulo" qcx f fd) (B:Bl K mg)  : FnOk P w K mg base CX0 1 f fd ["whole", "prime"] (qba K):=by
  refine F.ok sc_inverse_modulo (fun vs H Q E h=>?_) (fun cdv A outer s H vs Q E hr h=>?_)
  · obtain ⟨_,_,rfl,_⟩:=h
    rfl
  have nd:=sc_inverse_modulo.nd
  have hu:=hr.units0
  have hu64:=hr.units
  exact ⟨qcB K,(qae (qal (i:=2) nd rfl (Or.inl rfl) (pv 1))
    (qae (qal (i:=3) nd rfl (Or.inl rfl) (qax qdy (pv 0) (pv 1)))
    (qae (qal (i:=4) nd rfl (Or.inl rfl) qad)
    (qae (qal (i:=5) nd rfl (Or.inl rfl) qad)
    (qae (qcF PassesOwn.never (qaE qkz (pv 3) qad (nomark _)) (qae (qal (i:=6) nd rfl (Or.inl rfl) (qax qfn (pv 2) (pv 3)))
    (qae (qal (i:=7) nd rfl (Or.inl rfl) (qax qbB (pv 2) (qax qaU (pv 6) (pv 3))))
    (qae (qal (i:=2) nd rfl (Or.inl rfl) (pv 3))
    (qae (qal (i:=3) nd rfl (Or.inl rfl) (pv 7))
    (qae (qal (i:=7) nd rfl (Or.inl rfl) (qax qbB (pv 4) (qax qaU (pv 6) (pv 5))))
    (qae (qal (i:=4) nd rfl (Or.inl rfl) (pv 5))
    (qah (qal (i:=5) nd rfl (Or.inl rfl) (pv 7))))))))))
    (qah (qay (qax qdy (pv 4) (pv 1))))))))),qf0 h⟩
theorem sc_rests_modulo:FnScope ["row", "prime"] ["row", "prime"] (qak qdm):=⟨rfl,rfl,rfl,by decide +kernel,rfl,by decide +kernel,by decide +kernel⟩
theorem qhO (F:Fun K "rests_modulo" "rests_modulo" qdm f fd) (B:Bl K mg)  : FnOk P w K mg base CX0 1 f fd ["row", "prime"] (qbp K):=by
  refine F.ok sc_rests_modulo (fun vs H Q E h=>?_) (fun cdv A outer s H vs Q E hr h=>?_)
  · obtain ⟨_,_,_,rfl,_⟩:=h
    rfl
  have nd:=sc_rests_modulo.nd
  have hu:=hr.units0
  have hu64:=hr.units
  exact ⟨qdq K,(qah (qay (qcy (N:=["whole", "prime"]) (capt:=[none,some 1]) rfl (BlkOk.of rfl rfl rfl rfl (List.forall_mem_singleton.mpr rfl) rfl rfl rfl) (qdl (pv 0)) (fun _ _ _ _=>(qaT (i:=0) (show (["whole", "prime"]:List PySem.Str).Nodup by decide +kernel) rfl (Or.inl rfl))) (fun _ _ _ _=>(qax qdy (pv 0) (pv 1)))))),qhJ h⟩
theorem sc_row_modulo:FnScope ["row", "prime"] ["row", "prime"] (qak qec):=⟨rfl,rfl,rfl,by decide +kernel,rfl,by decide +kernel,by decide +kernel⟩
theorem qjw (F:Fun K "row_modulo" "row_modulo" qec f fd) (B:Bl K mg) (c_rests_modulo:Cal P w K mg base 1 "rests_modulo" ["row", "prime"] (qbp K)) (c_row_trimmed:Cal P w K mg base 1 "row_trimmed" ["row"] (qaV K)):FnOk P w K mg base CX0 2 f fd ["row", "prime"] (qbc K):=by
  refine F.ok sc_row_modulo (fun vs H Q E h=>?_) (fun cdv A outer s H vs Q E hr h=>?_)
  · obtain ⟨_,_,_,rfl,_⟩:=h
    rfl
  have nd:=sc_row_modulo.nd
  have hu:=hr.units0
  have hu64:=hr.units
  exact ⟨qev K,(qah (qay (c_row_trimmed.pe hr (by decide) rfl (qaa (c_rests_modulo.pe hr (by decide) rfl (qaa (pv 0) (qaa (pv 1) qac))) qac)))),qjo h⟩
theorem sc_monic_modulo:FnScope ["row", "prime", "factor"] ["row", "prime"] (qak qdn):=⟨rfl,rfl,rfl,by decide +kernel,rfl,by decide +kernel,by decide +kernel⟩
theorem qhP (F:Fun K "monic_modulo" "monic_modulo" qdn f fd) (B:Bl K mg) (c_inverse_modulo:Cal P w K mg base 1 "inverse_modulo" ["whole", "prime"] (qba K)):FnOk P w K mg base CX0 2 f fd ["row", "prime"] (qa2 K):=by
  refine F.ok sc_monic_modulo (fun vs H Q E h=>?_) (fun cdv A outer s H vs Q E hr h=>?_)
  · obtain ⟨_,_,_,rfl,_⟩:=h
    rfl
  have nd:=sc_monic_modulo.nd
  have hu:=hr.units0
  have hu64:=hr.units
  exact ⟨qdr K,(qae (qb5 (qmR (qeg (pv 0) (fun _=>rfl))) (qah (qay (qcN qac))) qa0)
    (qae (qal (i:=2) nd rfl (Or.inr rfl) (c_inverse_modulo.pe hr (by decide) rfl (qaa (qaB qaX (pv 0) (qc4 qbU qad) (fun _ _=>rfl)) (qaa (pv 1) qac))))
    (qah (qay (qcy (N:=["whole", "prime", "factor"]) (capt:=[none,some 1,some 2]) rfl (BlkOk.of rfl rfl rfl rfl (List.forall_mem_cons.mpr ⟨rfl,(List.forall_mem_singleton.mpr rfl)⟩) rfl rfl rfl) (qdl (pv 0)) (fun _ _ _ _=>(qaT (i:=0) (show (["whole", "prime", "factor"]:List PySem.Str).Nodup by decide +kernel) rfl (Or.inl rfl))) (fun _ _ _ _=>(qax qdy (qax qaU (pv 0) (pv 2)) (pv 1)))))))),qhK h⟩
theorem sc_split_modulo:FnScope ["row", "divisor", "modulus", "rest", "last", "quotient", "shift", "weight", "place"] ["row", "divisor", "modulus"] (qak qdo):=⟨rfl,rfl,rfl,by decide +kernel,rfl,by decide +kernel,by decide +kernel⟩
theorem qhQ (F:Fun K "split_modulo" "split_modulo" qdo f fd) (B:Bl K mg) (c_row_trimmed:Cal P w K mg base 1 "row_trimmed" ["row"] (qaV K)) (c_row_modulo:Cal P w K mg base 2 "row_modulo" ["row", "prime"] (qbc K)):FnOk P w K mg base CX0 3 f fd ["row", "divisor", "modulus"] (qbq K):=by
  refine F.ok sc_split_modulo (fun vs H Q E h=>?_) (fun cdv A outer s H vs Q E hr h=>?_)
  · obtain ⟨_,_,_,_,_,_,rfl,_⟩:=h
    rfl
  have nd:=sc_split_modulo.nd
  have hu:=hr.units0
  have hu64:=hr.units
  exact ⟨qds K,(qae (qal (i:=3) nd rfl (Or.inl rfl) (qd8 qio rfl B.list qnm (qaa (pv 0) qac)))
    (qae (qal (i:=4) nd rfl (Or.inl rfl) (qax qbB (qaC qa1 rfl B.len qbr (qaa (pv 1) qac)) qad))
    (qae (qal (i:=5) nd rfl (Or.inl rfl) (qax qjO (qcN (qaa qad qac)) (qaC (qee rfl) rfl B.max qjQ (qaa (qax qbB (qaC qa1 rfl B.len qbr (qaa (pv 0) qac)) (pv 4)) (qaa qad qac)))))
    (qae (qd0 PassesOwn.never rfl (qjW rfl B.range (qaa (qax qbB (qax qbB (qaC qa1 rfl B.len qbr (qaa (pv 0) qac)) (pv 4)) qad) (qaa (qc4 qbU qad) (qaa (qc4 qbU qad) qac)))) (qaT (i:=6) nd rfl (Or.inl rfl)) (qae (qal (i:=7) nd rfl (Or.inl rfl) (qax qdy (qaB qaX (pv 3) (qax qbX (pv 6) (pv 4)) (fun _ _=>rfl)) (pv 2)))
    (qae (qlo (pv 7) (qln (pv 5) (pv 6) qc9))
    (qah (qb5 (qaE qkz (pv 7) qad (nomark _)) (qah (qd0 PassesOwn.never rfl (qcM rfl B.range (qaa (pv 4) qac)) (qaT (i:=8) nd rfl (Or.inl rfl)) (qah (qiH (pv 3) (qax qbX (pv 6) (pv 8)) qgA (qax qaU (pv 7) (qaB qaX (pv 1) (pv 8) (fun _ _=>rfl))) qgL qc9)))) qa0)))))
    (qah (qay (qbh (qaa (c_row_trimmed.pe hr (by decide) rfl (qaa (pv 5) qac)) (qaa (c_row_modulo.pe hr (by decide) rfl (qaa (qgw qiY (pv 3) qiK (qiL (pv 4))) (qaa (pv 2) qac))) qac))))))))),qhL h⟩
theorem sc_rest_modulo:FnScope ["row", "divisor", "modulus"] ["row", "divisor", "modulus"] (qak qdK):=⟨rfl,rfl,rfl,by decide +kernel,rfl,by decide +kernel,by decide +kernel⟩
theorem qh8 (F:Fun K "rest_modulo" "rest_modulo" qdK f fd) (B:Bl K mg) (c_split_modulo:Cal P w K mg base 3 "split_modulo" ["row", "divisor", "modulus"] (qbq K)):FnOk P w K mg base CX0 4 f fd ["row", "divisor", "modulus"] (qbx K):=by
  refine F.ok sc_rest_modulo (fun vs H Q E h=>?_) (fun cdv A outer s H vs Q E hr h=>?_)
  · obtain ⟨_,_,_,_,_,_,rfl,_⟩:=h
    rfl
  have nd:=sc_rest_modulo.nd
  have hu:=hr.units0
  have hu64:=hr.units
  exact ⟨qdU K,(qah (qay (qaB qar (c_split_modulo.pe hr (by decide) rfl (qaa (pv 0) (qaa (pv 1) (qaa (pv 2) qac)))) qad (fun _ _=>rfl)))),qh2 h⟩
theorem sc_euclid_modulo:FnScope ["row", "other", "prime", "rest"] ["row", "other", "prime"] (qak qcQ):=⟨rfl,rfl,rfl,by decide +kernel,rfl,by decide +kernel,by decide +kernel⟩
theorem qgs (F:Fun K "euclid_modulo" "euclid_modulo" qcQ f fd) (B:Bl K mg) (c_row_modulo:Cal P w K mg base 2 "row_modulo" ["row", "prime"] (qbc K)) (c_monic_modulo:Cal P w K mg base 2 "monic_modulo" ["row", "prime"] (qa2 K)) (c_rest_modulo:Cal P w K mg base 4 "rest_modulo" ["row", "divisor", "modulus"] (qbx K)):FnOk P w K mg base CX0 5 f fd ["row", "other", "prime"] (qbk K):=by
  refine F.ok sc_euclid_modulo (fun vs H Q E h=>?_) (fun cdv A outer s H vs Q E hr h=>?_)
  · obtain ⟨_,_,_,_,_,rfl,_⟩:=h
    rfl
  have nd:=sc_euclid_modulo.nd
  have hu:=hr.units0
  have hu64:=hr.units
  exact ⟨qc0 K,(qae (qal (i:=0) nd rfl (Or.inl rfl) (c_monic_modulo.pe hr (by decide) rfl (qaa (c_row_modulo.pe hr (by decide) rfl (qaa (pv 0) (qaa (pv 2) qac))) (qaa (pv 2) qac))))
    (qae (qal (i:=1) nd rfl (Or.inl rfl) (c_monic_modulo.pe hr (by decide) rfl (qaa (c_row_modulo.pe hr (by decide) rfl (qaa (pv 1) (qaa (pv 2) qac))) (qaa (pv 2) qac))))
    (qae (qcF PassesOwn.never (qeg (pv 1) (fun _=>rfl)) (qae (qal (i:=3) nd rfl (Or.inl rfl) (c_rest_modulo.pe hr (by decide) rfl (qaa (pv 0) (qaa (pv 1) (qaa (pv 2) qac)))))
    (qae (qal (i:=0) nd rfl (Or.inl rfl) (pv 1))
    (qah (qal (i:=1) nd rfl (Or.inl rfl) (c_monic_modulo.pe hr (by decide) rfl (qaa (pv 3) (qaa (pv 2) qac))))))))
    (qah (qay (pv 0)))))),qgm h⟩
theorem sc_nearest:FnScope ["whole", "prime", "rest"] ["whole", "prime"] (qak qgP):=⟨rfl,rfl,rfl,by decide +kernel,rfl,by decide +kernel,by decide +kernel⟩
theorem qmA (F:Fun K "nearest" "nearest" qgP f fd) (B:Bl K mg)  : FnOk P w K mg base CX0 1 f fd ["whole", "prime"] (qcg K):=by
  refine F.ok sc_nearest (fun vs H Q E h=>?_) (fun cdv A outer s H vs Q E hr h=>?_)
  · obtain ⟨_,_,rfl,_⟩:=h
    rfl
  have nd:=sc_nearest.nd
  have hu:=hr.units0
  have hu64:=hr.units
  exact ⟨qhc K,(qae (qal (i:=2) nd rfl (Or.inl rfl) (qax qdy (pv 0) (pv 1)))
    (qah (qay (qgv (qaE qmd (qax qaU qad (pv 2)) (pv 1) (nomark _)) (qax qbB (pv 2) (pv 1)) (pv 2))))),qmp h⟩
theorem sc_common_by_prime:FnScope ["row", "other", "prime", "lead", "found", "guess"] ["row", "other", "prime"] (qak qcc):=⟨rfl,rfl,rfl,by decide +kernel,rfl,by decide +kernel,by decide +kernel⟩
theorem qfG (F:Fun K "common_by_prime" "common_by_prime" qcc f fd) (B:Bl K mg) (c_common_divisor:Cal P w K mg base 1 "common_divisor" ["one", "other"] (qau K)) (c_euclid_modulo:Cal P w K mg base 5 "euclid_modulo" ["row", "other", "prime"] (qbk K)) (c_nearest:Cal P w K mg base 1 "nearest" ["whole", "prime"] (qcg K)) (c_row_shortened:Cal P w K mg base 4 "row_shortened" ["row"] (qaO K)) (c_row_over:Cal P w K mg base 1 "row_over" ["row", "divisor"] (qbN K)):FnOk P w K mg base CX0 6 f fd ["row", "other", "prime"] (qa3 K):=by
  refine F.ok sc_common_by_prime (fun vs H Q E h=>?_) (fun cdv A outer s H vs Q E hr h=>?_)
  · obtain ⟨_,_,_,_,_,_,_,_,_,rfl,_⟩:=h
    rfl
  have nd:=sc_common_by_prime.nd
  have hu:=hr.units0
  have hu64:=hr.units
  exact ⟨qcj K,(qae (qal (i:=3) nd rfl (Or.inr rfl) (c_common_divisor.pe hr (by decide) rfl (qaa (qaB qaX (pv 0) (qc4 qbU qad) (fun _ _=>rfl)) (qaa (qaB qaX (pv 1) (qc4 qbU qad) (fun _ _=>rfl)) qac))))
    (qae (qb5 (qaE qiI (qax qdy (pv 3) (pv 2)) qad (nomark _)) (qah (qay qgI)) qa0)
    (qae (qal (i:=4) nd rfl (Or.inl rfl) (c_euclid_modulo.pe hr (by decide) rfl (qaa (pv 0) (qaa (pv 1) (qaa (pv 2) qac)))))
    (qae (qal (i:=5) nd rfl (Or.inl rfl) (c_row_shortened.pe hr (by decide) rfl (qaa (qcy (N:=["whole", "prime", "lead"]) (capt:=[none,some 2,some 3]) rfl (BlkOk.of rfl rfl rfl rfl (List.forall_mem_cons.mpr ⟨rfl,(List.forall_mem_singleton.mpr rfl)⟩) rfl rfl rfl) (qdl (pv 4)) (fun _ _ _ _=>(qaT (i:=0) (show (["whole", "prime", "lead"]:List PySem.Str).Nodup by decide +kernel) rfl (Or.inl rfl))) (fun _ _ _ _=>(c_nearest.pe hr (by decide) rfl (qaa (qax qaU (pv 2) (pv 0)) (qaa (pv 1) qac))))) qac)))
    (qae (qb5 (PW.pt (qma (qaE qpT (c_row_over.pe hr (by decide) rfl (qaa (pv 0) (qaa (pv 5) qac))) qgI (nomark _)) (qie (qaE qpT (c_row_over.pe hr (by decide) rfl (qaa (pv 1) (qaa (pv 5) qac))) qgI (nomark _))))) (qah (qay qgI)) qa0)
    (qah (qay (pv 5)))))))),qfE h⟩
theorem sc_row_common:FnScope ["row", "other", "one", "two", "exponent", "found"] ["row", "other"] (qak qed):=⟨rfl,rfl,rfl,by decide +kernel,rfl,by decide +kernel,by decide +kernel⟩
theorem qjx (F:Fun K "row_common" "row_common" qed f fd) (B:Bl K mg) (c_row_shortened:Cal P w K mg base 4 "row_shortened" ["row"] (qaO K)) (c_raised:Cal P w K mg base 1 "raised" ["whole", "n"] (qcT K)) (c_common_by_prime:Cal P w K mg base 6 "common_by_prime" ["row", "other", "prime"] (qa3 K)) (c_strand_euclid:Cal P w K mg base 5 "strand_euclid" ["strand", "other"] (qa5 K)):FnOk P w K mg base CX0 7 f fd ["row", "other"] (qbJ K):=by
  refine F.ok sc_row_common (fun vs H Q E h=>?_) (fun cdv A outer s H vs Q E hr h=>?_)
  · obtain ⟨_,_,_,_,_,_,_,_,rfl,_⟩:=h
    rfl
  have nd:=sc_row_common.nd
  have hu:=hr.units0
  have hu64:=hr.units
  exact ⟨qew K,(qae (qal (i:=2) nd rfl (Or.inl rfl) (c_row_shortened.pe hr (by decide) rfl (qaa (pv 0) qac)))
    (qae (qal (i:=3) nd rfl (Or.inl rfl) (c_row_shortened.pe hr (by decide) rfl (qaa (pv 1) qac)))
    (qae (qb5 (PW.pt (qjG (qeg (pv 0) (fun _=>rfl)) (qgJ (qeg (pv 1) (fun _=>rfl))))) (qah (qd0 PassesOwn.never rfl (qlp (qqm rfl B.EXPONENTS rfl)) (qaT (i:=4) nd rfl (Or.inl rfl)) (qae (qal (i:=5) nd rfl (Or.inl rfl) (c_common_by_prime.pe hr (by decide) rfl (qaa (pv 2) (qaa (pv 3) (qaa (qax qbB (c_raised.pe hr (by decide) rfl (qaa qad (qaa (pv 4) qac))) qad) qac)))))
    (qah (qb5 (qaE qqv (pv 5) qgI (nomark _)) (qah (qay (pv 5))) qa0))))) qa0)
    (qah (qay (qaB qaX (c_strand_euclid.pe hr (by decide) rfl (qaa (qcN (qaa (pv 2) qac)) (qaa (qcN (qaa (pv 3) qac)) qac))) qad (fun _ _=>rfl))))))),qjp B.xEXPONENTS h⟩
theorem sc_ratio:FnScope ["top", "bottom", "shared"] ["top", "bottom"] (qak qkF):=⟨rfl,rfl,rfl,by decide +kernel,rfl,by decide +kernel,by decide +kernel⟩
theorem qpJ (F:Fun K "ratio" "ratio" qkF f fd) (B:Bl K mg) (c_common_divisor:Cal P w K mg base 1 "common_divisor" ["one", "other"] (qau K)):FnOk P w K mg base CX0 2 f fd ["top", "bottom"] (qaS K):=by
  refine F.ok sc_ratio (fun vs H Q E h=>?_) (fun cdv A outer s H vs Q E hr h=>?_)
  · obtain ⟨_,_,rfl,_⟩:=h
    rfl
  have nd:=sc_ratio.nd
  have hu:=hr.units0
  have hu64:=hr.units
  exact ⟨qkV K,(qae (qal (i:=2) nd rfl (Or.inl rfl) (c_common_divisor.pe hr (by decide) rfl (qaa (pv 0) (qaa (pv 1) qac))))
    (qae (qb5 (qaE qqt (pv 1) qad (nomark _)) (qah (qal (i:=2) nd rfl (Or.inl rfl) (qc4 qbU (pv 2)))) qa0)
    (qah (qay (qbh (qaa (qax qcH (pv 0) (pv 2)) (qaa (qax qcH (pv 1) (pv 2)) qac))))))),qpp h⟩
theorem sc_plus:FnScope ["one", "other"] ["one", "other"] (qak qna):=⟨rfl,rfl,rfl,by decide +kernel,rfl,by decide +kernel,by decide +kernel⟩
theorem qri (F:Fun K "plus" "plus" qna f fd) (B:Bl K mg) (c_ratio:Cal P w K mg base 2 "ratio" ["top", "bottom"] (qaS K)):FnOk P w K mg base CX0 3 f fd ["one", "other"] (qha K):=by
  refine F.ok sc_plus (fun vs H Q E h=>?_) (fun cdv A outer s H vs Q E hr h=>?_)
  · obtain ⟨_,_,_,_,_,_,rfl,_⟩:=h
    rfl
  have nd:=sc_plus.nd
  have hu:=hr.units0
  have hu64:=hr.units
  exact ⟨qnY K,(qah (qay (c_ratio.pe hr (by decide) rfl (qaa (qax qbX (qax qaU (qaB qar (pv 0) qad (fun _ _=>rfl)) (qaB qar (pv 1) qad (fun _ _=>rfl))) (qax qaU (qaB qar (pv 1) qad (fun _ _=>rfl)) (qaB qar (pv 0) qad (fun _ _=>rfl)))) (qaa (qax qaU (qaB qar (pv 0) qad (fun _ _=>rfl)) (qaB qar (pv 1) qad (fun _ _=>rfl))) qac))))),qrc h⟩
theorem sc_minus:FnScope ["one", "other"] ["one", "other"] (qak qkG):=⟨rfl,rfl,rfl,by decide +kernel,rfl,by decide +kernel,by decide +kernel⟩
theorem qpK (F:Fun K "minus" "minus" qkG f fd) (B:Bl K mg) (c_ratio:Cal P w K mg base 2 "ratio" ["top", "bottom"] (qaS K)):FnOk P w K mg base CX0 3 f fd ["one", "other"] (qfr K):=by
  refine F.ok sc_minus (fun vs H Q E h=>?_) (fun cdv A outer s H vs Q E hr h=>?_)
  · obtain ⟨_,_,_,_,_,_,rfl,_⟩:=h
    rfl
  have nd:=sc_minus.nd
  have hu:=hr.units0
  have hu64:=hr.units
  exact ⟨qkW K,(qah (qay (c_ratio.pe hr (by decide) rfl (qaa (qax qbB (qax qaU (qaB qar (pv 0) qad (fun _ _=>rfl)) (qaB qar (pv 1) qad (fun _ _=>rfl))) (qax qaU (qaB qar (pv 1) qad (fun _ _=>rfl)) (qaB qar (pv 0) qad (fun _ _=>rfl)))) (qaa (qax qaU (qaB qar (pv 0) qad (fun _ _=>rfl)) (qaB qar (pv 1) qad (fun _ _=>rfl))) qac))))),qpD h⟩
theorem sc_times:FnScope ["one", "other"] ["one", "other"] (qak qkH):=⟨rfl,rfl,rfl,by decide +kernel,rfl,by decide +kernel,by decide +kernel⟩
theorem qpL (F:Fun K "times" "times" qkH f fd) (B:Bl K mg) (c_ratio:Cal P w K mg base 2 "ratio" ["top", "bottom"] (qaS K)):FnOk P w K mg base CX0 3 f fd ["one", "other"] (qdR K):=by
  refine F.ok sc_times (fun vs H Q E h=>?_) (fun cdv A outer s H vs Q E hr h=>?_)
  · obtain ⟨_,_,_,_,_,_,rfl,_⟩:=h
    rfl
  have nd:=sc_times.nd
  have hu:=hr.units0
  have hu64:=hr.units
  exact ⟨qkX K,(qah (qay (c_ratio.pe hr (by decide) rfl (qaa (qax qaU (qaB qar (pv 0) qad (fun _ _=>rfl)) (qaB qar (pv 1) qad (fun _ _=>rfl))) (qaa (qax qaU (qaB qar (pv 0) qad (fun _ _=>rfl)) (qaB qar (pv 1) qad (fun _ _=>rfl))) qac))))),qpx h⟩
theorem sc_over:FnScope ["one", "other"] ["one", "other"] (qak qnb):=⟨rfl,rfl,rfl,by decide +kernel,rfl,by decide +kernel,by decide +kernel⟩
theorem qrj (F:Fun K "over" "over" qnb f fd) (B:Bl K mg) (c_ratio:Cal P w K mg base 2 "ratio" ["top", "bottom"] (qaS K)):FnOk P w K mg base CX0 3 f fd ["one", "other"] (qe9 K):=by
  refine F.ok sc_over (fun vs H Q E h=>?_) (fun cdv A outer s H vs Q E hr h=>?_)
  · obtain ⟨_,_,_,_,_,_,rfl,_⟩:=h
    rfl
  have nd:=sc_over.nd
  have hu:=hr.units0
  have hu64:=hr.units
  exact ⟨qnZ K,(qah (qay (c_ratio.pe hr (by decide) rfl (qaa (qax qaU (qaB qar (pv 0) qad (fun _ _=>rfl)) (qaB qar (pv 1) qad (fun _ _=>rfl))) (qaa (qax qaU (qaB qar (pv 0) qad (fun _ _=>rfl)) (qaB qar (pv 1) qad (fun _ _=>rfl))) qac))))),qra h⟩
theorem sc_poly:FnScope ["row", "many"] ["row"] (qak qnc):=⟨rfl,rfl,rfl,by decide +kernel,rfl,by decide +kernel,by decide +kernel⟩
theorem qrk (F:Fun K "poly" "poly" qnc f fd) (B:Bl K mg)  : FnOk P w K mg base CX0 1 f fd ["row"] (qbs K):=by
  refine F.ok sc_poly (fun vs H Q E h=>?_) (fun cdv A outer s H vs Q E hr h=>?_)
  · obtain ⟨_,_,_,rfl,_⟩:=h
    rfl
  have nd:=sc_poly.nd
  have hu:=hr.units0
  have hu64:=hr.units
  exact ⟨qn0 K,(qae (qal (i:=1) nd rfl (Or.inl rfl) (qaC qa1 rfl B.len qbr (qaa (pv 0) qac)))
    (qae (qcF PassesOwn.never (PW.pt (qjG (qaE qmd (pv 1) qad (nomark _)) (qgJ (qaE qiI (qaB qar (qaB qaX (pv 0) (qax qbB (pv 1) qad) (fun _ _=>rfl)) qad (fun _ _=>rfl)) qad (nomark _))))) (qah (qf9 (i:=1) nd rfl (Or.inl rfl) qad qgL)))
    (qah (qay (qd8 qjU rfl B.tuple qly (qaa (qgw qiY (pv 0) qiK (qiL (pv 1))) qac)))))),qqV h⟩
theorem sc_cleared:FnScope ["P", "bottom", "number"] ["P"] (qak qgQ):=⟨rfl,rfl,rfl,by decide +kernel,rfl,by decide +kernel,by decide +kernel⟩
theorem qmB (F:Fun K "cleared" "cleared" qgQ f fd) (B:Bl K mg) (c_common_divisor:Cal P w K mg base 1 "common_divisor" ["one", "other"] (qau K)):FnOk P w K mg base CX0 2 f fd ["P"] (qbi K):=by
  refine F.ok sc_cleared (fun vs H Q E h=>?_) (fun cdv A outer s H vs Q E hr h=>?_)
  · obtain ⟨_,_,_,_,rfl,_⟩:=h
    rfl
  have nd:=sc_cleared.nd
  have hu:=hr.units0
  have hu64:=hr.units
  exact ⟨qhd K,(qae (qal (i:=1) nd rfl (Or.inr rfl) qad)
    (qae (qd0 PassesOwn.never rfl (qlp (pv 0)) (qaT (i:=2) nd rfl (Or.inl rfl)) (qah (qf9 (i:=1) nd rfl (Or.inr rfl) (qax qfn (qaB qar (pv 2) qad (fun _ _=>rfl)) (c_common_divisor.pe hr (by decide) rfl (qaa (pv 1) (qaa (qaB qar (pv 2) qad (fun _ _=>rfl)) qac)))) qgz)))
    (qah (qay (qbh (qaa (qcy (N:=["number", "bottom"]) (capt:=[none,some 1]) rfl (BlkOk.of rfl rfl rfl rfl (List.forall_mem_singleton.mpr rfl) rfl rfl rfl) (qlp (pv 0)) (fun _ _ _ _=>(qaT (i:=0) (show (["number", "bottom"]:List PySem.Str).Nodup by decide +kernel) rfl (Or.inl rfl))) (fun _ _ _ _=>(qax qaU (qaB qar (pv 0) qad (fun _ _=>rfl)) (qax qfn (pv 1) (qaB qar (pv 0) qad (fun _ _=>rfl)))))) (qaa (pv 1) qac))))))),qmn h⟩
theorem sc_uncleared:FnScope ["row", "bottom"] ["row", "bottom"] (qak qe3):=⟨rfl,rfl,rfl,by decide +kernel,rfl,by decide +kernel,by decide +kernel⟩
theorem qko (F:Fun K "uncleared" "uncleared" qe3 f fd) (B:Bl K mg) (c_ratio:Cal P w K mg base 2 "ratio" ["top", "bottom"] (qaS K)) (c_poly:Cal P w K mg base 1 "poly" ["row"] (qbs K)):FnOk P w K mg base CX0 3 f fd ["row", "bottom"] (qbf K):=by
  refine F.ok sc_uncleared (fun vs H Q E h=>?_) (fun cdv A outer s H vs Q E hr h=>?_)
  · obtain ⟨_,_,_,rfl,_⟩:=h
    rfl
  have nd:=sc_uncleared.nd
  have hu:=hr.units0
  have hu64:=hr.units
  exact ⟨qfb K,(qah (qay (c_poly.pe hr (by decide) rfl (qaa (qcy (N:=["whole", "bottom"]) (capt:=[none,some 1]) rfl (BlkOk.of rfl rfl rfl rfl (List.forall_mem_singleton.mpr rfl) rfl rfl rfl) (qdl (pv 0)) (fun _ _ _ _=>(qaT (i:=0) (show (["whole", "bottom"]:List PySem.Str).Nodup by decide +kernel) rfl (Or.inl rfl))) (fun _ _ _ _=>(c_ratio.pe hr (by decide) rfl (qaa (pv 0) (qaa (pv 1) qac))))) qac)))),qj7 h⟩
theorem sc_number_of:FnScope ["P", "place"] ["P", "place"] (qak qe4):=⟨rfl,rfl,rfl,by decide +kernel,rfl,by decide +kernel,by decide +kernel⟩
theorem qkp (F:Fun K "number_of" "number_of" qe4 f fd) (B:Bl K mg)  : FnOk P w K mg base CX0 1 f fd ["P", "place"] (qbg K):=by
  refine F.ok sc_number_of (fun vs H Q E h=>?_) (fun cdv A outer s H vs Q E hr h=>?_)
  · obtain ⟨_,_,_,_,rfl,_⟩:=h
    rfl
  have nd:=sc_number_of.nd
  have hu:=hr.units0
  have hu64:=hr.units
  exact ⟨qfc K,(qah (qay (qgv (qaE qqt (pv 1) (qaC qbY rfl B.len qbr (qaa (pv 0) qac)) (nomark _)) (qaB qar (pv 0) (pv 1) (fun _ _=>rfl)) (qbh (qaa qad (qaa qad qac)))))),qkg h⟩
theorem sc_p_plus:FnScope ["P", "Q"] ["P", "Q"] (qak qiQ):=⟨rfl,rfl,rfl,by decide +kernel,rfl,by decide +kernel,by decide +kernel⟩
theorem qoJ (F:Fun K "p_plus" "p_plus" qiQ f fd) (B:Bl K mg) (c_number_of:Cal P w K mg base 1 "number_of" ["P", "place"] (qbg K)) (c_plus:Cal P w K mg base 3 "plus" ["one", "other"] (qha K)) (c_poly:Cal P w K mg base 1 "poly" ["row"] (qbs K)):FnOk P w K mg base CX0 4 f fd ["P", "Q"] (qeo K):=by
  refine F.ok sc_p_plus (fun vs H Q E h=>?_) (fun cdv A outer s H vs Q E hr h=>?_)
  · obtain ⟨_,_,_,_,_,_,_,_,_,rfl,_⟩:=h
    rfl
  have nd:=sc_p_plus.nd
  have hu:=hr.units0
  have hu64:=hr.units
  exact ⟨qjd K,(qah (qay (c_poly.pe hr (by decide) rfl (qaa (qcy (N:=["place", "P", "Q"]) (capt:=[none,some 0,some 1]) rfl (BlkOk.of rfl rfl rfl rfl (List.forall_mem_cons.mpr ⟨rfl,(List.forall_mem_singleton.mpr rfl)⟩) rfl rfl rfl) (qcM rfl B.range (qaa (qaC (qee rfl) rfl B.max qjQ (qaa (qaC qbY rfl B.len qbr (qaa (pv 0) qac)) (qaa (qaC qbY rfl B.len qbr (qaa (pv 1) qac)) qac))) qac)) (fun _ _ _ _=>(qaT (i:=0) (show (["place", "P", "Q"]:List PySem.Str).Nodup by decide +kernel) rfl (Or.inl rfl))) (fun _ _ _ _=>(c_plus.pe hr (by decide) rfl (qaa (c_number_of.pe hr (by decide) rfl (qaa (pv 1) (qaa (pv 0) qac))) (qaa (c_number_of.pe hr (by decide) rfl (qaa (pv 2) (qaa (pv 0) qac))) qac))))) qac)))),qou h⟩
theorem sc_p_minus:FnScope ["P", "Q"] ["P", "Q"] (qak qgR):=⟨rfl,rfl,rfl,by decide +kernel,rfl,by decide +kernel,by decide +kernel⟩
theorem qmC (F:Fun K "p_minus" "p_minus" qgR f fd) (B:Bl K mg) (c_number_of:Cal P w K mg base 1 "number_of" ["P", "place"] (qbg K)) (c_minus:Cal P w K mg base 3 "minus" ["one", "other"] (qfr K)) (c_poly:Cal P w K mg base 1 "poly" ["row"] (qbs K)):FnOk P w K mg base CX0 4 f fd ["P", "Q"] (qci K):=by
  refine F.ok sc_p_minus (fun vs H Q E h=>?_) (fun cdv A outer s H vs Q E hr h=>?_)
  · obtain ⟨_,_,_,_,_,_,_,_,_,rfl,_⟩:=h
    rfl
  have nd:=sc_p_minus.nd
  have hu:=hr.units0
  have hu64:=hr.units
  exact ⟨qhe K,(qah (qay (c_poly.pe hr (by decide) rfl (qaa (qcy (N:=["place", "P", "Q"]) (capt:=[none,some 0,some 1]) rfl (BlkOk.of rfl rfl rfl rfl (List.forall_mem_cons.mpr ⟨rfl,(List.forall_mem_singleton.mpr rfl)⟩) rfl rfl rfl) (qcM rfl B.range (qaa (qaC (qee rfl) rfl B.max qjQ (qaa (qaC qbY rfl B.len qbr (qaa (pv 0) qac)) (qaa (qaC qbY rfl B.len qbr (qaa (pv 1) qac)) qac))) qac)) (fun _ _ _ _=>(qaT (i:=0) (show (["place", "P", "Q"]:List PySem.Str).Nodup by decide +kernel) rfl (Or.inl rfl))) (fun _ _ _ _=>(c_minus.pe hr (by decide) rfl (qaa (c_number_of.pe hr (by decide) rfl (qaa (pv 1) (qaa (pv 0) qac))) (qaa (c_number_of.pe hr (by decide) rfl (qaa (pv 2) (qaa (pv 0) qac))) qac))))) qac)))),qmt h⟩
theorem sc_p_times:FnScope ["P", "Q", "one", "other"] ["P", "Q"] (qak qgS):=⟨rfl,rfl,rfl,by decide +kernel,rfl,by decide +kernel,by decide +kernel⟩
theorem qmD (F:Fun K "p_times" "p_times" qgS f fd) (B:Bl K mg) (c_cleared:Cal P w K mg base 2 "cleared" ["P"] (qbi K)) (c_row_times:Cal P w K mg base 1 "row_times" ["row", "other"] (qbO K)) (c_uncleared:Cal P w K mg base 3 "uncleared" ["row", "bottom"] (qbf K)):FnOk P w K mg base CX0 4 f fd ["P", "Q"] (qa4 K):=by
  refine F.ok sc_p_times (fun vs H Q E h=>?_) (fun cdv A outer s H vs Q E hr h=>?_)
  · obtain ⟨_,_,_,_,_,_,_,_,_,_,rfl,_⟩:=h
    rfl
  have nd:=sc_p_times.nd
  have hu:=hr.units0
  have hu64:=hr.units
  exact ⟨qhf K,(qae (qal (i:=2) nd rfl (Or.inl rfl) (c_cleared.pe hr (by decide) rfl (qaa (pv 0) qac)))
    (qae (qal (i:=3) nd rfl (Or.inl rfl) (c_cleared.pe hr (by decide) rfl (qaa (pv 1) qac)))
    (qah (qay (c_uncleared.pe hr (by decide) rfl (qaa (c_row_times.pe hr (by decide) rfl (qaa (qaB qar (pv 2) qad (fun _ _=>rfl)) (qaa (qaB qar (pv 3) qad (fun _ _=>rfl)) qac))) (qaa (qax qaU (qaB qar (pv 2) qad (fun _ _=>rfl)) (qaB qar (pv 3) qad (fun _ _=>rfl))) qac))))))),qmr h⟩
theorem sc_p_scaled:FnScope ["P", "c"] ["P", "c"] (qak qfK):=⟨rfl,rfl,rfl,by decide +kernel,rfl,by decide +kernel,by decide +kernel⟩
theorem qlg (F:Fun K "p_scaled" "p_scaled" qfK f fd) (B:Bl K mg) (c_times:Cal P w K mg base 3 "times" ["one", "other"] (qdR K)) (c_poly:Cal P w K mg base 1 "poly" ["row"] (qbs K)):FnOk P w K mg base CX0 4 f fd ["P", "c"] (qbP K):=by
  refine F.ok sc_p_scaled (fun vs H Q E h=>?_) (fun cdv A outer s H vs Q E hr h=>?_)
  · obtain ⟨_,_,_,_,_,_,rfl,_⟩:=h
    rfl
  have nd:=sc_p_scaled.nd
  have hu:=hr.units0
  have hu64:=hr.units
  exact ⟨qfV K,(qah (qay (c_poly.pe hr (by decide) rfl (qaa (qcy (N:=["number", "c"]) (capt:=[none,some 1]) rfl (BlkOk.of rfl rfl rfl rfl (List.forall_mem_singleton.mpr rfl) rfl rfl rfl) (qlp (pv 0)) (fun _ _ _ _=>(qaT (i:=0) (show (["number", "c"]:List PySem.Str).Nodup by decide +kernel) rfl (Or.inl rfl))) (fun _ _ _ _=>(c_times.pe hr (by decide) rfl (qaa (pv 0) (qaa (pv 1) qac))))) qac)))),qk8 h⟩
theorem sc_p_split:FnScope ["P", "Q", "row", "divisor", "rest", "bottom", "lead", "quotient", "shift", "shared", "spare"] ["P", "Q"] (qak qgT):=⟨rfl,rfl,rfl,by decide +kernel,rfl,by decide +kernel,by decide +kernel⟩
theorem qmE (F:Fun K "p_split" "p_split" qgT f fd) (B:Bl K mg) (c_cleared:Cal P w K mg base 2 "cleared" ["P"] (qbi K)) (c_ratio:Cal P w K mg base 2 "ratio" ["top", "bottom"] (qaS K)) (c_common_divisor:Cal P w K mg base 1 "common_divisor" ["one", "other"] (qau K)) (c_row_less:Cal P w K mg base 2 "row_less" ["row", "factor", "other", "weight", "shift"] (qbI K)) (c_content:Cal P w K mg base 2 "content" ["row", "start"] (qbQ K)) (c_row_parted:Cal P w K mg base 1 "row_parted" ["row", "divisor"] (qbm K)) (c_poly:Cal P w K mg base 1 "poly" ["row"] (qbs K)) (c_uncleared:Cal P w K mg base 3 "uncleared" ["row", "bottom"] (qbf K)):FnOk P w K mg base CX0 4 f fd ["P", "Q"] (qch K):=by
  refine F.ok sc_p_split (fun vs H Q E h=>?_) (fun cdv A outer s H vs Q E hr h=>?_)
  · obtain ⟨_,_,_,_,_,_,_,_,_,_,rfl,_⟩:=h
    rfl
  have nd:=sc_p_split.nd
  have hu:=hr.units0
  have hu64:=hr.units
  exact ⟨qhn K,(qae (qal (i:=2) nd rfl (Or.inl rfl) (c_cleared.pe hr (by decide) rfl (qaa (pv 0) qac)))
    (qae (qal (i:=3) nd rfl (Or.inl rfl) (c_cleared.pe hr (by decide) rfl (qaa (pv 1) qac)))
    (qae (qal (i:=4) nd rfl (Or.inl rfl) (qaB qar (pv 2) qad (fun _ _=>rfl)))
    (qae (qal (i:=5) nd rfl (Or.inl rfl) (qaB qar (pv 2) qad (fun _ _=>rfl)))
    (qae (qal (i:=6) nd rfl (Or.inl rfl) (qaB qaX (qaB qar (pv 3) qad (fun _ _=>rfl)) (qc4 qbU qad) (fun _ _=>rfl)))
    (qae (qal (i:=7) nd rfl (Or.inl rfl) (qax qjO (qcN (qaa (qbh (qaa qad (qaa qad qac))) qac)) (qaC (qee rfl) rfl B.max qjQ (qaa (qax qbX (qax qbB (qaC qbY rfl B.len qbr (qaa (pv 0) qac)) (qaC qbY rfl B.len qbr (qaa (pv 1) qac))) qad) (qaa qad qac)))))
    (qae (qcF PassesOwn.never (qaE qqu (qaC qa1 rfl B.len qbr (qaa (pv 4) qac)) (qaC qbY rfl B.len qbr (qaa (pv 1) qac)) (nomark _)) (qae (qal (i:=8) nd rfl (Or.inl rfl) (qax qbB (qaC qa1 rfl B.len qbr (qaa (pv 4) qac)) (qaC qbY rfl B.len qbr (qaa (pv 1) qac))))
    (qae (qlo (c_ratio.pe hr (by decide) rfl (qaa (qax qaU (qaB qaX (pv 4) (qc4 qbU qad) (fun _ _=>rfl)) (qaB qar (pv 3) qad (fun _ _=>rfl))) (qaa (qax qaU (pv 5) (pv 6)) qac))) (qln (pv 7) (pv 8) qc9))
    (qae (qal (i:=9) nd rfl (Or.inl rfl) (c_common_divisor.pe hr (by decide) rfl (qaa (qaB qaX (pv 4) (qc4 qbU qad) (fun _ _=>rfl)) (qaa (pv 6) qac))))
    (qae (qal (i:=4) nd rfl (Or.inl rfl) (c_row_less.pe hr (by decide) rfl (qaa (pv 4) (qaa (qax qcH (pv 6) (pv 9)) (qaa (qaB qar (pv 3) qad (fun _ _=>rfl)) (qaa (qax qcH (qaB qaX (pv 4) (qc4 qbU qad) (fun _ _=>rfl)) (pv 9)) (qaa (pv 8) qac)))))))
    (qae (qf9 (i:=5) nd rfl (Or.inl rfl) (qax qcH (pv 6) (pv 9)) qgz)
    (qae (qal (i:=10) nd rfl (Or.inl rfl) (c_content.pe hr (by decide) rfl (qaa (pv 4) (qaa (pv 5) qac))))
    (qae (qal (i:=4) nd rfl (Or.inl rfl) (c_row_parted.pe hr (by decide) rfl (qaa (pv 4) (qaa (pv 10) qac))))
    (qah (qf9 (i:=5) nd rfl (Or.inl rfl) (pv 10) qnI))))))))))
    (qah (qay (qbh (qaa (c_poly.pe hr (by decide) rfl (qaa (pv 7) qac)) (qaa (c_uncleared.pe hr (by decide) rfl (qaa (pv 4) (qaa (pv 5) qac))) qac)))))))))))),qmq h⟩
theorem sc_common:FnScope ["P", "Q", "row"] ["P", "Q"] (qak qiR):=⟨rfl,rfl,rfl,by decide +kernel,rfl,by decide +kernel,by decide +kernel⟩
theorem qoK (F:Fun K "common" "common" qiR f fd) (B:Bl K mg) (c_cleared:Cal P w K mg base 2 "cleared" ["P"] (qbi K)) (c_row_common:Cal P w K mg base 7 "row_common" ["row", "other"] (qbJ K)) (c_uncleared:Cal P w K mg base 3 "uncleared" ["row", "bottom"] (qbf K)):FnOk P w K mg base CX0 8 f fd ["P", "Q"] (qbK K):=by
  refine F.ok sc_common (fun vs H Q E h=>?_) (fun cdv A outer s H vs Q E hr h=>?_)
  · obtain ⟨_,_,_,_,_,_,_,_,_,_,_,rfl,_⟩:=h
    rfl
  have nd:=sc_common.nd
  have hu:=hr.units0
  have hu64:=hr.units
  exact ⟨qje K,(qae (qal (i:=2) nd rfl (Or.inl rfl) (c_row_common.pe hr (by decide) rfl (qaa (qaB qar (c_cleared.pe hr (by decide) rfl (qaa (pv 0) qac)) qad (fun _ _=>rfl)) (qaa (qaB qar (c_cleared.pe hr (by decide) rfl (qaa (pv 1) qac)) qad (fun _ _=>rfl)) qac))))
    (qah (qay (qgv (qeg (pv 2) (fun _=>rfl)) (c_uncleared.pe hr (by decide) rfl (qaa (pv 2) (qaa (qaB qaX (pv 2) (qc4 qbU qad) (fun _ _=>rfl)) qac))) (qbh qac))))),qoh h⟩
theorem sc_p_slope:FnScope ["P"] ["P"] (qak qgU):=⟨rfl,rfl,rfl,by decide +kernel,rfl,by decide +kernel,by decide +kernel⟩
theorem qmF (F:Fun K "p_slope" "p_slope" qgU f fd) (B:Bl K mg) (c_times:Cal P w K mg base 3 "times" ["one", "other"] (qdR K)):FnOk P w K mg base CX0 4 f fd ["P"] (qb3 K):=by
  refine F.ok sc_p_slope (fun vs H Q E h=>?_) (fun cdv A outer s H vs Q E hr h=>?_)
  · obtain ⟨_,_,_,_,_,rfl,_⟩:=h
    rfl
  have nd:=sc_p_slope.nd
  have hu:=hr.units0
  have hu64:=hr.units
  exact ⟨qho K,(qah (qay (qd8 qjU rfl B.tuple qly (qaa (qcy (N:=["place", "P"]) (capt:=[none,some 0]) rfl (BlkOk.of rfl rfl rfl rfl (List.forall_mem_singleton.mpr rfl) rfl rfl rfl) (qmU rfl B.range (qaa qad (qaa (qaC qbY rfl B.len qbr (qaa (pv 0) qac)) qac))) (fun _ _ _ _=>(qaT (i:=0) (show (["place", "P"]:List PySem.Str).Nodup by decide +kernel) rfl (Or.inl rfl))) (fun _ _ _ _=>(c_times.pe hr (by decide) rfl (qaa (qaB qar (pv 1) (pv 0) (fun _ _=>rfl)) (qaa (qbh (qaa (pv 0) (qaa qad qac))) qac))))) qac)))),qmu h⟩
theorem sc_fraction:FnScope ["P", "Q", "shared"] ["P", "Q"] (qak qfL):=⟨rfl,rfl,rfl,by decide +kernel,rfl,by decide +kernel,by decide +kernel⟩
theorem qlh (F:Fun K "fraction" "fraction" qfL f fd) (B:Bl K mg) (c_common:Cal P w K mg base 8 "common" ["P", "Q"] (qbK K)) (c_quotient:Cal P w K mg base 5 "quotient" ["P", "Q"] (qaR K)) (c_evened:Cal P w K mg base 5 "evened" ["P", "Q"] (qcU K)):FnOk P w K mg base CX0 9 f fd ["P", "Q"] (qaY K):=by
  refine F.ok sc_fraction (fun vs H Q E h=>?_) (fun cdv A outer s H vs Q E hr h=>?_)
  · obtain ⟨_,_,_,_,_,_,_,_,_,rfl,_⟩:=h
    rfl
  have nd:=sc_fraction.nd
  have hu:=hr.units0
  have hu64:=hr.units
  exact ⟨qfW K,(qae (qal (i:=2) nd rfl (Or.inl rfl) (c_common.pe hr (by decide) rfl (qaa (pv 0) (qaa (pv 1) qac))))
    (qah (qay (c_evened.pe hr (by decide) rfl (qaa (c_quotient.pe hr (by decide) rfl (qaa (pv 0) (qaa (pv 2) qac))) (qaa (c_quotient.pe hr (by decide) rfl (qaa (pv 1) (qaa (pv 2) qac))) qac)))))),qlb h⟩
theorem sc_evened:FnScope ["P", "Q", "factor"] ["P", "Q"] (qak qiS):=⟨rfl,rfl,rfl,by decide +kernel,rfl,by decide +kernel,by decide +kernel⟩
theorem qoL (F:Fun K "evened" "evened" qiS f fd) (B:Bl K mg) (c_over:Cal P w K mg base 3 "over" ["one", "other"] (qe9 K)) (c_p_scaled:Cal P w K mg base 4 "p_scaled" ["P", "c"] (qbP K)):FnOk P w K mg base CX0 5 f fd ["P", "Q"] (qcU K):=by
  refine F.ok sc_evened (fun vs H Q E h=>?_) (fun cdv A outer s H vs Q E hr h=>?_)
  · obtain ⟨_,_,_,_,rfl,_⟩:=h
    rfl
  have nd:=sc_evened.nd
  have hu:=hr.units0
  have hu64:=hr.units
  exact ⟨qjf K,(qae (qal (i:=2) nd rfl (Or.inl rfl) (c_over.pe hr (by decide) rfl (qaa (qbh (qaa qad (qaa qad qac))) (qaa (qaB qar (pv 1) (qc4 qbU qad) (fun _ _=>rfl)) qac))))
    (qah (qay (qbh (qaa (c_p_scaled.pe hr (by decide) rfl (qaa (pv 0) (qaa (pv 2) qac))) (qaa (c_p_scaled.pe hr (by decide) rfl (qaa (pv 1) (qaa (pv 2) qac))) qac)))))),qop h⟩
theorem sc_quotient:FnScope ["P", "Q"] ["P", "Q"] (qak qfM):=⟨rfl,rfl,rfl,by decide +kernel,rfl,by decide +kernel,by decide +kernel⟩
theorem qli (F:Fun K "quotient" "quotient" qfM f fd) (B:Bl K mg) (c_p_split:Cal P w K mg base 4 "p_split" ["P", "Q"] (qch K)):FnOk P w K mg base CX0 5 f fd ["P", "Q"] (qaR K):=by
  refine F.ok sc_quotient (fun vs H Q E h=>?_) (fun cdv A outer s H vs Q E hr h=>?_)
  · obtain ⟨_,_,_,_,_,_,_,_,_,_,rfl,_⟩:=h
    rfl
  have nd:=sc_quotient.nd
  have hu:=hr.units0
  have hu64:=hr.units
  exact ⟨qfX K,(qah (qay (qaB qar (c_p_split.pe hr (by decide) rfl (qaa (pv 0) (qaa (pv 1) qac))) qad (fun _ _=>rfl)))),qk9 h⟩
theorem sc_f_plus:FnScope ["F", "G", "shared", "rest", "top", "spare"] ["F", "G"] (qak qiT):=⟨rfl,rfl,rfl,by decide +kernel,rfl,by decide +kernel,by decide +kernel⟩
theorem qoM (F:Fun K "f_plus" "f_plus" qiT f fd) (B:Bl K mg) (c_common:Cal P w K mg base 8 "common" ["P", "Q"] (qbK K)) (c_quotient:Cal P w K mg base 5 "quotient" ["P", "Q"] (qaR K)) (c_p_times:Cal P w K mg base 4 "p_times" ["P", "Q"] (qa4 K)) (c_p_plus:Cal P w K mg base 4 "p_plus" ["P", "Q"] (qeo K)):FnOk P w K mg base CX0 9 f fd ["F", "G"] (qaZ K):=by
  refine F.ok sc_f_plus (fun vs H Q E h=>?_) (fun cdv A outer s H vs Q E hr h=>?_)
  · obtain ⟨_,_,_,_,_,_,_,_,_,_,rfl,_⟩:=h
    rfl
  have nd:=sc_f_plus.nd
  have hu:=hr.units0
  have hu64:=hr.units
  exact ⟨qjg K,(qae (qal (i:=2) nd rfl (Or.inl rfl) (c_common.pe hr (by decide) rfl (qaa (qaB qar (pv 0) qad (fun _ _=>rfl)) (qaa (qaB qar (pv 1) qad (fun _ _=>rfl)) qac))))
    (qae (qal (i:=3) nd rfl (Or.inl rfl) (c_quotient.pe hr (by decide) rfl (qaa (qaB qar (pv 1) qad (fun _ _=>rfl)) (qaa (pv 2) qac))))
    (qae (qal (i:=4) nd rfl (Or.inl rfl) (c_p_plus.pe hr (by decide) rfl (qaa (c_p_times.pe hr (by decide) rfl (qaa (qaB qar (pv 0) qad (fun _ _=>rfl)) (qaa (pv 3) qac))) (qaa (c_p_times.pe hr (by decide) rfl (qaa (qaB qar (pv 1) qad (fun _ _=>rfl)) (qaa (c_quotient.pe hr (by decide) rfl (qaa (qaB qar (pv 0) qad (fun _ _=>rfl)) (qaa (pv 2) qac))) qac))) qac))))
    (qae (qal (i:=5) nd rfl (Or.inl rfl) (c_common.pe hr (by decide) rfl (qaa (pv 4) (qaa (pv 2) qac))))
    (qah (qay (qbh (qaa (c_quotient.pe hr (by decide) rfl (qaa (pv 4) (qaa (pv 5) qac))) (qaa (c_quotient.pe hr (by decide) rfl (qaa (c_p_times.pe hr (by decide) rfl (qaa (qaB qar (pv 0) qad (fun _ _=>rfl)) (qaa (pv 3) qac))) (qaa (pv 5) qac))) qac))))))))),qoF h⟩
theorem sc_f_minus:FnScope ["F", "G"] ["F", "G"] (qak qgV):=⟨rfl,rfl,rfl,by decide +kernel,rfl,by decide +kernel,by decide +kernel⟩
theorem qmG (F:Fun K "f_minus" "f_minus" qgV f fd) (B:Bl K mg) (c_p_minus:Cal P w K mg base 4 "p_minus" ["P", "Q"] (qci K)) (c_f_plus:Cal P w K mg base 9 "f_plus" ["F", "G"] (qaZ K)):FnOk P w K mg base CX0 10 f fd ["F", "G"] (qbR K):=by
  refine F.ok sc_f_minus (fun vs H Q E h=>?_) (fun cdv A outer s H vs Q E hr h=>?_)
  · obtain ⟨_,_,_,_,_,_,_,_,_,_,rfl,_⟩:=h
    rfl
  have nd:=sc_f_minus.nd
  have hu:=hr.units0
  have hu64:=hr.units
  exact ⟨qhp K,(qah (qay (c_f_plus.pe hr (by decide) rfl (qaa (pv 0) (qaa (qbh (qaa (c_p_minus.pe hr (by decide) rfl (qaa (qbh qac) (qaa (qaB qar (pv 1) qad (fun _ _=>rfl)) qac))) (qaa (qaB qar (pv 1) qad (fun _ _=>rfl)) qac))) qac))))),qmw h⟩
theorem sc_f_times:FnScope ["F", "G", "one", "other"] ["F", "G"] (qak qgW):=⟨rfl,rfl,rfl,by decide +kernel,rfl,by decide +kernel,by decide +kernel⟩
theorem qmH (F:Fun K "f_times" "f_times" qgW f fd) (B:Bl K mg) (c_fraction:Cal P w K mg base 9 "fraction" ["P", "Q"] (qaY K)) (c_p_times:Cal P w K mg base 4 "p_times" ["P", "Q"] (qa4 K)):FnOk P w K mg base CX0 10 f fd ["F", "G"] (qaF K):=by
  refine F.ok sc_f_times (fun vs H Q E h=>?_) (fun cdv A outer s H vs Q E hr h=>?_)
  · obtain ⟨_,_,_,_,_,_,_,_,_,_,rfl,_⟩:=h
    rfl
  have nd:=sc_f_times.nd
  have hu:=hr.units0
  have hu64:=hr.units
  exact ⟨qhs K,(qae (qal (i:=2) nd rfl (Or.inl rfl) (c_fraction.pe hr (by decide) rfl (qaa (qaB qar (pv 0) qad (fun _ _=>rfl)) (qaa (qaB qar (pv 1) qad (fun _ _=>rfl)) qac))))
    (qae (qal (i:=3) nd rfl (Or.inl rfl) (c_fraction.pe hr (by decide) rfl (qaa (qaB qar (pv 1) qad (fun _ _=>rfl)) (qaa (qaB qar (pv 0) qad (fun _ _=>rfl)) qac))))
    (qah (qay (qbh (qaa (c_p_times.pe hr (by decide) rfl (qaa (qaB qar (pv 2) qad (fun _ _=>rfl)) (qaa (qaB qar (pv 3) qad (fun _ _=>rfl)) qac))) (qaa (c_p_times.pe hr (by decide) rfl (qaa (qaB qar (pv 2) qad (fun _ _=>rfl)) (qaa (qaB qar (pv 3) qad (fun _ _=>rfl)) qac))) qac))))))),qmv h⟩
theorem sc_f_over:FnScope ["F", "G"] ["F", "G"] (qak qiU):=⟨rfl,rfl,rfl,by decide +kernel,rfl,by decide +kernel,by decide +kernel⟩
theorem qoN (F:Fun K "f_over" "f_over" qiU f fd) (B:Bl K mg) (c_fraction:Cal P w K mg base 9 "fraction" ["P", "Q"] (qaY K)) (c_f_times:Cal P w K mg base 10 "f_times" ["F", "G"] (qaF K)):FnOk P w K mg base CX0 11 f fd ["F", "G"] (qbZ K):=by
  refine F.ok sc_f_over (fun vs H Q E h=>?_) (fun cdv A outer s H vs Q E hr h=>?_)
  · obtain ⟨_,_,_,_,_,_,_,_,_,_,rfl,_⟩:=h
    rfl
  have nd:=sc_f_over.nd
  have hu:=hr.units0
  have hu64:=hr.units
  exact ⟨qjh K,(qah (qay (c_f_times.pe hr (by decide) rfl (qaa (pv 0) (qaa (c_fraction.pe hr (by decide) rfl (qaa (qaB qar (pv 1) qad (fun _ _=>rfl)) (qaa (qaB qar (pv 1) qad (fun _ _=>rfl)) qac))) qac))))),qoC h⟩
theorem sc_f_slope:FnScope ["F", "slope", "shared", "rest", "top"] ["F"] (qak qgX):=⟨rfl,rfl,rfl,by decide +kernel,rfl,by decide +kernel,by decide +kernel⟩
theorem qmI (F:Fun K "f_slope" "f_slope" qgX f fd) (B:Bl K mg) (c_p_slope:Cal P w K mg base 4 "p_slope" ["P"] (qb3 K)) (c_common:Cal P w K mg base 8 "common" ["P", "Q"] (qbK K)) (c_quotient:Cal P w K mg base 5 "quotient" ["P", "Q"] (qaR K)) (c_p_times:Cal P w K mg base 4 "p_times" ["P", "Q"] (qa4 K)) (c_p_minus:Cal P w K mg base 4 "p_minus" ["P", "Q"] (qci K)):FnOk P w K mg base CX0 9 f fd ["F"] (qbb K):=by
  refine F.ok sc_f_slope (fun vs H Q E h=>?_) (fun cdv A outer s H vs Q E hr h=>?_)
  · obtain ⟨_,_,_,_,_,_,_,rfl,_⟩:=h
    rfl
  have nd:=sc_f_slope.nd
  have hu:=hr.units0
  have hu64:=hr.units
  exact ⟨qhx K,(qae (qal (i:=1) nd rfl (Or.inl rfl) (c_p_slope.pe hr (by decide) rfl (qaa (qaB qar (pv 0) qad (fun _ _=>rfl)) qac)))
    (qae (qal (i:=2) nd rfl (Or.inl rfl) (c_common.pe hr (by decide) rfl (qaa (qaB qar (pv 0) qad (fun _ _=>rfl)) (qaa (pv 1) qac))))
    (qae (qal (i:=3) nd rfl (Or.inl rfl) (c_quotient.pe hr (by decide) rfl (qaa (qaB qar (pv 0) qad (fun _ _=>rfl)) (qaa (pv 2) qac))))
    (qae (qal (i:=4) nd rfl (Or.inl rfl) (c_p_minus.pe hr (by decide) rfl (qaa (c_p_times.pe hr (by decide) rfl (qaa (c_p_slope.pe hr (by decide) rfl (qaa (qaB qar (pv 0) qad (fun _ _=>rfl)) qac)) (qaa (pv 3) qac))) (qaa (c_p_times.pe hr (by decide) rfl (qaa (qaB qar (pv 0) qad (fun _ _=>rfl)) (qaa (c_quotient.pe hr (by decide) rfl (qaa (pv 1) (qaa (pv 2) qac))) qac))) qac))))
    (qah (qay (qbh (qaa (pv 4) (qaa (c_p_times.pe hr (by decide) rfl (qaa (qaB qar (pv 0) qad (fun _ _=>rfl)) (qaa (pv 3) qac))) qac))))))))),qmx h⟩
theorem sc_l_at:FnScope ["_law_script", "_law_k"] ["_law_script", "_law_k"] (qak qnd):=⟨rfl,rfl,rfl,by decide +kernel,rfl,by decide +kernel,by decide +kernel⟩
theorem qrl (F:Fun K "_law_at" "_law_at" qnd f fd) (B:Bl K mg)  : FnOk P w K mg base CX0 1 f fd ["_law_script", "_law_k"] (qen K):=by
  refine F.ok sc_l_at (fun vs H Q E h=>?_) (fun cdv A outer s H vs Q E hr h=>?_)
  · obtain ⟨_,_,_,rfl,_⟩:=h
    rfl
  have nd:=sc_l_at.nd
  have hu:=hr.units0
  have hu64:=hr.units
  exact ⟨qn1 K,(qae (qb5 (qaE qqt (pv 1) (qaC qnq rfl B.len qbr (qaa (pv 0) qac)) (nomark _)) (qah (qay (qaB qno (pv 0) (pv 1) (fun _ _=>rfl)))) qa0)
    (qah (qay qad))),qrb h⟩
theorem sc_l_rest:FnScope ["_law_script", "_law_k", "_law_cell", "_law_number", "_law_wide", "_law_j"] ["_law_script", "_law_k"] (qak qiV):=⟨rfl,rfl,rfl,by decide +kernel,rfl,by decide +kernel,by decide +kernel⟩
theorem qoO (F:Fun K "_law_rest" "_law_rest" qiV f fd) (B:Bl K mg) (c_l_at:Cal P w K mg base 1 "_law_at" ["_law_script", "_law_k"] (qen K)):FnOk P w K mg base CX0 2 f fd ["_law_script", "_law_k"] (qb9 K):=by
  refine F.ok sc_l_rest (fun vs H Q E h=>?_) (fun cdv A outer s H vs Q E hr h=>?_)
  · obtain ⟨_,_,_,rfl,_⟩:=h
    rfl
  have nd:=sc_l_rest.nd
  have hu:=hr.units0
  have hu64:=hr.units
  exact ⟨qji K,(qae (qal (i:=2) nd rfl (Or.inl rfl) (c_l_at.pe hr (by decide) rfl (qaa (pv 0) (qaa (pv 1) qac))))
    (qae (qb5 (PW.pt (qjG (qaE qiI (qax qdy (c_l_at.pe hr (by decide) rfl (qaa (pv 0) (qaa qad qac))) qad) qad (nomark _)) (qgJ (qaE qqu (qaC qg0 rfl B.abs qnl (qaa (pv 2) qac)) (qax qiW qad qad) (nomark _))))) (qah (qay (qcN (qaa (pv 2) qac)))) qa0)
    (qae (qal (i:=3) nd rfl (Or.inl rfl) (qax qdy (qax qaU (qax qbX (qax qbX (qax qdy (pv 2) qad) (qax qaU qad (pv 1))) qad) qad) qad))
    (qae (qal (i:=4) nd rfl (Or.inl rfl) qad)
    (qae (qd0 PassesOwn.never rfl (qcM rfl B.range (qaa qad qac)) (qaT (i:=5) nd rfl (Or.inl rfl)) (qae (qal (i:=3) nd rfl (Or.inl rfl) (qax qdy (qax qbX (qax qbX (qax qaU (pv 3) (pv 3)) (qax qaU qad (pv 5))) qad) qad))
    (qah (qal (i:=4) nd rfl (Or.inl rfl) (qax qbX (qax qaU (pv 4) qad) (pv 3))))))
    (qah (qay (qcN (qaa (pv 4) qac))))))))),qoo h⟩
theorem sc_l_digit:FnScope ["_law_rest_here", "_law_many", "_law_digit_here"] ["_law_rest_here", "_law_many"] (qak qgY):=⟨rfl,rfl,rfl,by decide +kernel,rfl,by decide +kernel,by decide +kernel⟩
theorem qmJ (F:Fun K "_law_digit" "_law_digit" qgY f fd) (B:Bl K mg)  : FnOk P w K mg base CX0 1 f fd ["_law_rest_here", "_law_many"] (qaL K):=by
  refine F.ok sc_l_digit (fun vs H Q E h=>?_) (fun cdv A outer s H vs Q E hr h=>?_)
  · obtain ⟨_,_,rfl,_⟩:=h
    rfl
  have nd:=sc_l_digit.nd
  have hu:=hr.units0
  have hu64:=hr.units
  exact ⟨qhy K,(qae (qal (i:=2) nd rfl (Or.inl rfl) (qax qdy (qaB qaX (pv 0) qad (fun _ _=>rfl)) (pv 1)))
    (qae (qlo (qax qfn (qaB qaX (pv 0) qad (fun _ _=>rfl)) (pv 1)) (qln (pv 0) qad qc9))
    (qah (qay (pv 2))))),qms h⟩
theorem sc_l_number_by:FnScope ["_law_rest_here", "_law_far", "_law_how", "_law_top"] ["_law_rest_here", "_law_far"] (qak qdL):=⟨rfl,rfl,rfl,by decide +kernel,rfl,by decide +kernel,by decide +kernel⟩
theorem qh9 (F:Fun K "_law_number_by" "_law_number_by" qdL f fd) (B:Bl K mg) (c_l_digit:Cal P w K mg base 1 "_law_digit" ["_law_rest_here", "_law_many"] (qaL K)) (c_ratio:Cal P w K mg base 2 "ratio" ["top", "bottom"] (qaS K)):FnOk P w K mg base CX0 3 f fd ["_law_rest_here", "_law_far"] (qby K):=by
  refine F.ok sc_l_number_by (fun vs H Q E h=>?_) (fun cdv A outer s H vs Q E hr h=>?_)
  · obtain ⟨_,_,rfl,_⟩:=h
    rfl
  have nd:=sc_l_number_by.nd
  have hu:=hr.units0
  have hu64:=hr.units
  exact ⟨qdV K,(qae (qal (i:=2) nd rfl (Or.inl rfl) (c_l_digit.pe hr (by decide) rfl (qaa (pv 0) (qaa qad qac))))
    (qae (qb5 (PW.pt (qjG (qaE qiI (pv 2) qad (nomark _)) (qgJ (qpQ (pv 1))))) (qah (qay (c_ratio.pe hr (by decide) rfl (qaa (qax qbX (qax qbB (c_l_digit.pe hr (by decide) rfl (qaa (pv 0) (qaa (qax qbB (qax qaU qad (qax qiW qad qad)) qad) qac))) (qax qiW qad qad)) qad) (qaa (qax qbX qad (c_l_digit.pe hr (by decide) rfl (qaa (pv 0) (qaa (qax qbB (qax qiW qad qad) qad) qac)))) qac))))) qa0)
    (qae (qal (i:=3) nd rfl (Or.inl rfl) (qaB qar (qbh (qaa qad (qaa qad (qaa (qc4 qbU qad) (qaa qad (qaa (qc4 qbU qad) (qaa qad (qaa (qc4 qbU qad) (qaa qad (qaa (qc4 qbU qad) (qaa qad qac))))))))))) (c_l_digit.pe hr (by decide) rfl (qaa (pv 0) (qaa qad qac))) (fun _ _=>rfl)))
    (qah (qay (c_ratio.pe hr (by decide) rfl (qaa (pv 3) (qaa (qaB qar (qbh (qaa qad (qaa qad (qaa qad (qaa qad (qaa qad qac)))))) (qax qaU (c_l_digit.pe hr (by decide) rfl (qaa (pv 0) (qaa qad qac))) (qd8 qnp rfl B.int qrN (qaa (qkA qmd (pv 2) qad (nomark _)) qac))) (fun _ _=>rfl)) qac)))))))),qh5 h⟩
theorem sc_l_poly_by:FnScope ["_law_rest_here", "_law_most", "_law_far"] ["_law_rest_here", "_law_most", "_law_far"] (qak qe5):=⟨rfl,rfl,rfl,by decide +kernel,rfl,by decide +kernel,by decide +kernel⟩
theorem qkq (F:Fun K "_law_poly_by" "_law_poly_by" qe5 f fd) (B:Bl K mg) (c_l_digit:Cal P w K mg base 1 "_law_digit" ["_law_rest_here", "_law_many"] (qaL K)) (c_l_number_by:Cal P w K mg base 3 "_law_number_by" ["_law_rest_here", "_law_far"] (qby K)) (c_poly:Cal P w K mg base 1 "poly" ["row"] (qbs K)):FnOk P w K mg base CX0 4 f fd ["_law_rest_here", "_law_most", "_law_far"] (qbE K):=by
  refine F.ok sc_l_poly_by (fun vs H Q E h=>?_) (fun cdv A outer s H vs Q E hr h=>?_)
  · obtain ⟨_,_,_,rfl,_⟩:=h
    rfl
  have nd:=sc_l_poly_by.nd
  have hu:=hr.units0
  have hu64:=hr.units
  exact ⟨qfd K,(qah (qay (c_poly.pe hr (by decide) rfl (qaa (qcy (N:=["_law_k", "_law_rest_here", "_law_far"]) (capt:=[none,some 0,some 2]) rfl (BlkOk.of rfl rfl rfl rfl (List.forall_mem_cons.mpr ⟨rfl,(List.forall_mem_singleton.mpr rfl)⟩) rfl rfl rfl) (qcM rfl B.range (qaa (c_l_digit.pe hr (by decide) rfl (qaa (pv 0) (qaa (qax qbX (pv 1) qad) qac))) qac)) (fun _ _ _ _=>(qaT (i:=0) (show (["_law_k", "_law_rest_here", "_law_far"]:List PySem.Str).Nodup by decide +kernel) rfl (Or.inl rfl))) (fun _ _ _ _=>(c_l_number_by.pe hr (by decide) rfl (qaa (pv 1) (qaa (pv 2) qac))))) qac)))),qkl h⟩
theorem sc_l_fraction_by:FnScope ["_law_rest_here", "_law_most", "_law_far", "_law_top", "_law_bottom"] ["_law_rest_here", "_law_most", "_law_far"] (qak qcR):=⟨rfl,rfl,rfl,by decide +kernel,rfl,by decide +kernel,by decide +kernel⟩
theorem qgt (F:Fun K "_law_fraction_by" "_law_fraction_by" qcR f fd) (B:Bl K mg) (c_l_poly_by:Cal P w K mg base 4 "_law_poly_by" ["_law_rest_here", "_law_most", "_law_far"] (qbE K)) (c_fraction:Cal P w K mg base 9 "fraction" ["P", "Q"] (qaY K)):FnOk P w K mg base CX0 10 f fd ["_law_rest_here", "_law_most", "_law_far"] (qaW K):=by
  refine F.ok sc_l_fraction_by (fun vs H Q E h=>?_) (fun cdv A outer s H vs Q E hr h=>?_)
  · obtain ⟨_,_,_,rfl,_⟩:=h
    rfl
  have nd:=sc_l_fraction_by.nd
  have hu:=hr.units0
  have hu64:=hr.units
  exact ⟨qc2 K,(qae (qal (i:=3) nd rfl (Or.inl rfl) (c_l_poly_by.pe hr (by decide) rfl (qaa (pv 0) (qaa (pv 1) (qaa (pv 2) qac)))))
    (qae (qal (i:=4) nd rfl (Or.inl rfl) (c_l_poly_by.pe hr (by decide) rfl (qaa (pv 0) (qaa (pv 1) (qaa qgH qac)))))
    (qae (qb5 (qaE (qlC hu64) (pv 4) (qbh qac) (nomark _)) (qah (qal (i:=4) nd rfl (Or.inl rfl) (qbh (qaa (qbh (qaa qad (qaa qad qac))) qac)))) qa0)
    (qah (qay (c_fraction.pe hr (by decide) rfl (qaa (pv 3) (qaa (pv 4) qac)))))))),qgp h⟩
theorem sc_l_long_by:FnScope ["_law_rest_here", "_law_most", "_law_row"] ["_law_rest_here", "_law_most"] (qak qe6):=⟨rfl,rfl,rfl,by decide +kernel,rfl,by decide +kernel,by decide +kernel⟩
theorem qkr (F:Fun K "_law_long_by" "_law_long_by" qe6 f fd) (B:Bl K mg) (c_l_digit:Cal P w K mg base 1 "_law_digit" ["_law_rest_here", "_law_many"] (qaL K)) (c_ratio:Cal P w K mg base 2 "ratio" ["top", "bottom"] (qaS K)) (c_poly:Cal P w K mg base 1 "poly" ["row"] (qbs K)):FnOk P w K mg base CX0 3 f fd ["_law_rest_here", "_law_most"] (qbF K):=by
  refine F.ok sc_l_long_by (fun vs H Q E h=>?_) (fun cdv A outer s H vs Q E hr h=>?_)
  · obtain ⟨_,_,rfl,_⟩:=h
    rfl
  have nd:=sc_l_long_by.nd
  have hu:=hr.units0
  have hu64:=hr.units
  exact ⟨qfe K,(qae (qkK (i:=2) (N:=["_law_k", "_law_rest_here"]) (capt:=[none,some 0]) nd rfl (Or.inl rfl) rfl (BlkOk.of rfl rfl rfl rfl (List.forall_mem_singleton.mpr rfl) rfl rfl rfl) (qcM rfl B.range (qaa (qax qbX qad (c_l_digit.pe hr (by decide) rfl (qaa (pv 0) (qaa (qax qbB (pv 1) qad) qac)))) qac)) (fun _ _ _ _=>(qaT (i:=0) (show (["_law_k", "_law_rest_here"]:List PySem.Str).Nodup by decide +kernel) rfl (Or.inl rfl))) (fun _ _ _ _=>(c_ratio.pe hr (by decide) rfl (qaa (qax qbB (c_l_digit.pe hr (by decide) rfl (qaa (pv 1) (qaa qad qac))) qad) (qaa qad qac)))))
    (qah (qay (c_poly.pe hr (by decide) rfl (qaa (qax qrI (pv 2) (qcN (qaa (c_ratio.pe hr (by decide) rfl (qaa (qax qbX qad (c_l_digit.pe hr (by decide) rfl (qaa (pv 0) (qaa qad qac)))) (qaa qad qac))) qac))) qac))))),qkm h⟩
theorem sc_l_by_slopes:FnScope ["_law_kf", "_law_kg", "_law_due"] ["_law_kf", "_law_kg"] (qak qdM):=⟨rfl,rfl,rfl,by decide +kernel,rfl,by decide +kernel,by decide +kernel⟩
theorem qia (F:Fun K "_law_by_slopes" "_law_by_slopes" qdM f fd) (B:Bl K mg) (c_f_slope:Cal P w K mg base 9 "f_slope" ["F"] (qbb K)) (c_f_times:Cal P w K mg base 10 "f_times" ["F", "G"] (qaF K)) (c_f_plus:Cal P w K mg base 9 "f_plus" ["F", "G"] (qaZ K)) (c_f_minus:Cal P w K mg base 10 "f_minus" ["F", "G"] (qbR K)) (c_f_over:Cal P w K mg base 11 "f_over" ["F", "G"] (qbZ K)):FnOk P w K mg base CX0 12 f fd ["_law_kf", "_law_kg"] (qb0 K):=by
  refine F.ok sc_l_by_slopes (fun vs H Q E h=>?_) (fun cdv A outer s H vs Q E hr h=>?_)
  · obtain ⟨_,_,_,_,_,_,rfl,_⟩:=h
    rfl
  have nd:=sc_l_by_slopes.nd
  have hu:=hr.units0
  have hu64:=hr.units
  exact ⟨qdW K,(qae (qal (i:=2) nd rfl (Or.inl rfl) (c_f_plus.pe hr (by decide) rfl (qaa (c_f_times.pe hr (by decide) rfl (qaa (c_f_slope.pe hr (by decide) rfl (qaa (pv 0) qac)) (qaa (pv 1) qac))) (qaa (c_f_times.pe hr (by decide) rfl (qaa (pv 0) (qaa (c_f_slope.pe hr (by decide) rfl (qaa (pv 1) qac)) qac))) qac))))
    (qae (qb5 (PW.pt (qma (qaE (qd1 hu64) (c_f_slope.pe hr (by decide) rfl (qaa (c_f_times.pe hr (by decide) rfl (qaa (pv 0) (qaa (pv 1) qac))) qac)) (pv 2) (nomark _)) (qie (qaE (qd1 hu64) (c_f_slope.pe hr (by decide) rfl (qaa (c_f_plus.pe hr (by decide) rfl (qaa (pv 0) (qaa (pv 1) qac))) qac)) (c_f_plus.pe hr (by decide) rfl (qaa (c_f_slope.pe hr (by decide) rfl (qaa (pv 0) qac)) (qaa (c_f_slope.pe hr (by decide) rfl (qaa (pv 1) qac)) qac))) (nomark _))))) (qah (qay qgH)) qa0)
    (qae (qb5 (qaE (qlC hu64) (qaB qar (pv 1) qad (fun _ _=>rfl)) (qbh qac) (nomark _)) (qah (qay (qkA (qlC hu64) (c_f_slope.pe hr (by decide) rfl (qaa (pv 1) qac)) (pv 1) (nomark _)))) qa0)
    (qae (qal (i:=2) nd rfl (Or.inl rfl) (c_f_minus.pe hr (by decide) rfl (qaa (c_f_times.pe hr (by decide) rfl (qaa (c_f_slope.pe hr (by decide) rfl (qaa (pv 0) qac)) (qaa (pv 1) qac))) (qaa (c_f_times.pe hr (by decide) rfl (qaa (pv 0) (qaa (c_f_slope.pe hr (by decide) rfl (qaa (pv 1) qac)) qac))) qac))))
    (qah (qay (qkA (qlC hu64) (c_f_slope.pe hr (by decide) rfl (qaa (c_f_over.pe hr (by decide) rfl (qaa (pv 0) (qaa (pv 1) qac))) qac)) (c_f_over.pe hr (by decide) rfl (qaa (pv 2) (qaa (c_f_times.pe hr (by decide) rfl (qaa (pv 1) (qaa (pv 1) qac))) qac))) (nomark _)))))))),qh4 h⟩
theorem sc_l_right:FnScope ["_law_kf", "_law_kg", "_law_kh"] ["_law_kf", "_law_kg", "_law_kh"] (qak qgZ):=⟨rfl,rfl,rfl,by decide +kernel,rfl,by decide +kernel,by decide +kernel⟩
theorem qmK (F:Fun K "_law_right" "_law_right" qgZ f fd) (B:Bl K mg) (c_f_plus:Cal P w K mg base 9 "f_plus" ["F", "G"] (qaZ K)) (c_f_times:Cal P w K mg base 10 "f_times" ["F", "G"] (qaF K)) (c_f_minus:Cal P w K mg base 10 "f_minus" ["F", "G"] (qbR K)) (c_f_over:Cal P w K mg base 11 "f_over" ["F", "G"] (qbZ K)) (c_l_by_slopes:Cal P w K mg base 12 "_law_by_slopes" ["_law_kf", "_law_kg"] (qb0 K)):FnOk P w K mg base CX0 13 f fd ["_law_kf", "_law_kg", "_law_kh"] (qdA K):=by
  refine F.ok sc_l_right (fun vs H Q E h=>?_) (fun cdv A outer s H vs Q E hr h=>?_)
  · obtain ⟨_,_,_,_,_,_,_,_,_,rfl,_⟩:=h
    rfl
  have nd:=sc_l_right.nd
  have hu:=hr.units0
  have hu64:=hr.units
  exact ⟨qhE K,(qae (qb5 (PW.pt (qma (qaE (qd1 hu64) (c_f_plus.pe hr (by decide) rfl (qaa (pv 0) (qaa (pv 1) qac))) (c_f_plus.pe hr (by decide) rfl (qaa (pv 1) (qaa (pv 0) qac))) (nomark _)) (qie (qaE (qd1 hu64) (c_f_times.pe hr (by decide) rfl (qaa (pv 0) (qaa (pv 1) qac))) (c_f_times.pe hr (by decide) rfl (qaa (pv 1) (qaa (pv 0) qac))) (nomark _))))) (qah (qay qgH)) qa0)
    (qae (qb5 (qaE (qd1 hu64) (c_f_plus.pe hr (by decide) rfl (qaa (c_f_plus.pe hr (by decide) rfl (qaa (pv 0) (qaa (pv 1) qac))) (qaa (pv 2) qac))) (c_f_plus.pe hr (by decide) rfl (qaa (pv 0) (qaa (c_f_plus.pe hr (by decide) rfl (qaa (pv 1) (qaa (pv 2) qac))) qac))) (nomark _)) (qah (qay qgH)) qa0)
    (qae (qb5 (qaE (qd1 hu64) (c_f_times.pe hr (by decide) rfl (qaa (c_f_times.pe hr (by decide) rfl (qaa (pv 0) (qaa (pv 1) qac))) (qaa (pv 2) qac))) (c_f_times.pe hr (by decide) rfl (qaa (pv 0) (qaa (c_f_times.pe hr (by decide) rfl (qaa (pv 1) (qaa (pv 2) qac))) qac))) (nomark _)) (qah (qay qgH)) qa0)
    (qae (qb5 (qaE (qd1 hu64) (c_f_times.pe hr (by decide) rfl (qaa (pv 0) (qaa (c_f_plus.pe hr (by decide) rfl (qaa (pv 1) (qaa (pv 2) qac))) qac))) (c_f_plus.pe hr (by decide) rfl (qaa (c_f_times.pe hr (by decide) rfl (qaa (pv 0) (qaa (pv 1) qac))) (qaa (c_f_times.pe hr (by decide) rfl (qaa (pv 0) (qaa (pv 2) qac))) qac))) (nomark _)) (qah (qay qgH)) qa0)
    (qae (qb5 (PW.pt (qma (qaE (qd1 hu64) (c_f_minus.pe hr (by decide) rfl (qaa (pv 0) (qaa (pv 0) qac))) (qbh (qaa (qbh qac) (qaa (qbh (qaa (qbh (qaa qad (qaa qad qac))) qac)) qac))) (nomark _)) (qie (qaE (qd1 hu64) (c_f_plus.pe hr (by decide) rfl (qaa (c_f_minus.pe hr (by decide) rfl (qaa (pv 0) (qaa (pv 1) qac))) (qaa (pv 1) qac))) (pv 0) (nomark _))))) (qah (qay qgH)) qa0)
    (qae (qb5 (qaE (qd1 hu64) (qaB qar (pv 1) qad (fun _ _=>rfl)) (qbh qac) (nomark _)) (qah (qb5 (PW.pt (qma (qaE (qd1 hu64) (c_f_over.pe hr (by decide) rfl (qaa (pv 1) (qaa (pv 1) qac))) (qbh (qaa (qbh (qaa (qbh (qaa qad (qaa qad qac))) qac)) (qaa (qbh (qaa (qbh (qaa qad (qaa qad qac))) qac)) qac))) (nomark _)) (qie (qaE (qd1 hu64) (c_f_times.pe hr (by decide) rfl (qaa (c_f_over.pe hr (by decide) rfl (qaa (pv 0) (qaa (pv 1) qac))) (qaa (pv 1) qac))) (pv 0) (nomark _))))) (qah (qay qgH)) qa0)) qa0)
    (qah (qay (c_l_by_slopes.pe hr (by decide) rfl (qaa (pv 0) (qaa (pv 1) qac))))))))))),qmy h⟩
theorem sc_law:FnScope ["_law_script", "_law_rest_here", "_law_kf", "_law_kg", "_law_kh"] ["_law_script"] (qak qmg):=⟨rfl,rfl,rfl,by decide +kernel,rfl,by decide +kernel,by decide +kernel⟩
theorem qss (F:Fun K "law" "law" qmg f fd) (B:Bl K mg) (c_l_rest:Cal P w K mg base 2 "_law_rest" ["_law_script", "_law_k"] (qb9 K)) (c_l_fraction_by:Cal P w K mg base 10 "_law_fraction_by" ["_law_rest_here", "_law_most", "_law_far"] (qaW K)) (c_l_digit:Cal P w K mg base 1 "_law_digit" ["_law_rest_here", "_law_many"] (qaL K)) (c_l_long_by:Cal P w K mg base 3 "_law_long_by" ["_law_rest_here", "_law_most"] (qbF K)) (c_ratio:Cal P w K mg base 2 "ratio" ["top", "bottom"] (qaS K)) (c_poly:Cal P w K mg base 1 "poly" ["row"] (qbs K)) (c_fraction:Cal P w K mg base 9 "fraction" ["P", "Q"] (qaY K)) (c_l_right:Cal P w K mg base 13 "_law_right" ["_law_kf", "_law_kg", "_law_kh"] (qdA K)):FnOk P w K mg base CX0 14 f fd ["_law_script"] (qj4 K):=by
  refine F.ok sc_law (fun vs H Q E h=>?_) (fun cdv A outer s H vs Q E hr h=>?_)
  · obtain ⟨_,_,rfl,_⟩:=h
    rfl
  have nd:=sc_law.nd
  have hu:=hr.units0
  have hu64:=hr.units
  exact ⟨qqU K,(qae (qal (i:=1) nd rfl (Or.inl rfl) (c_l_rest.pe hr (by decide) rfl (qaa (pv 0) (qaa qad qac))))
    (qae (qal (i:=2) nd rfl (Or.inl rfl) (c_l_fraction_by.pe hr (by decide) rfl (qaa (pv 1) (qaa qad (qaa qgH qac)))))
    (qae (qal (i:=3) nd rfl (Or.inl rfl) (c_l_fraction_by.pe hr (by decide) rfl (qaa (c_l_rest.pe hr (by decide) rfl (qaa (pv 0) (qaa qad qac))) (qaa qad (qaa qgH qac)))))
    (qae (qal (i:=4) nd rfl (Or.inl rfl) (c_l_fraction_by.pe hr (by decide) rfl (qaa (c_l_rest.pe hr (by decide) rfl (qaa (pv 0) (qaa qad qac))) (qaa qad (qaa qgH qac)))))
    (qae (qb5 (qaE qiI (c_l_digit.pe hr (by decide) rfl (qaa (pv 1) (qaa qad qac))) qad (nomark _)) (qae (qal (i:=2) nd rfl (Or.inl rfl) (c_fraction.pe hr (by decide) rfl (qaa (c_l_long_by.pe hr (by decide) rfl (qaa (pv 1) (qaa qad qac))) (qaa (c_poly.pe hr (by decide) rfl (qaa (qcN (qaa (c_ratio.pe hr (by decide) rfl (qaa (qax qbB (c_l_digit.pe hr (by decide) rfl (qaa (pv 1) (qaa qad qac))) qad) (qaa qad qac))) (qaa (qbh (qaa qad (qaa qad qac))) qac))) qac)) qac))))
    (qah (qal (i:=3) nd rfl (Or.inl rfl) (c_fraction.pe hr (by decide) rfl (qaa (c_l_long_by.pe hr (by decide) rfl (qaa (pv 1) (qaa qad qac))) (qaa (c_poly.pe hr (by decide) rfl (qaa (qcN (qaa (c_ratio.pe hr (by decide) rfl (qaa (qax qbB (c_l_digit.pe hr (by decide) rfl (qaa (pv 1) (qaa qad qac))) qad) (qaa qad qac))) (qaa (qbh (qaa qad (qaa qad qac))) (qaa (qbh (qaa qad (qaa qad qac))) qac)))) qac)) qac)))))) qa0)
    (qah (qay (c_l_right.pe hr (by decide) rfl (qaa (pv 2) (qaa (pv 3) (qaa (pv 4) qac))))))))))),qsr h⟩
end
end Bs
namespace Bs
open PySem PySem.Spec PyProof.Rows L2
set_option maxHeartbeats 4000000
open Hd
theorem qa8 {K:W.Frag} {st:Stmt} {f c:Addr} {n:Str} {pm:Value} (l:K.lookup f=some (fnO n st pm c)) (e:PySem.W.codeIn K (.ref c) n=true) (k:PySem.W.keepIn K (.ref f)=true):Fun K n n st f (PySem.W.fnOf n n (qe1 st) (qea st) (qak st) .none .none .none pm none (.ref c) .none):=qrJ (st:=st) l e k
theorem qaI {P:Program} {K:W.Frag} {w:World} {h base:Heap} {mg:Str→Option Value} {k:Nat} {f:Addr} {fd:FuncData} {n:Str} {ps:List Str} {sp:Sp} (X:K.In h) (G:h.Ns mainGlobals mg) (ok:FnOk P w K mg base CX0 k f fd ps sp) (b:Binds K fd ps []) (e:PySem.W.keepIn K (.ref f)=true) (a:PySem.W.nsIn K mainGlobals n=some (some (.ref f))):Cal P w K mg base k n ps sp:=⟨f,fd,ok,b,e,PySem.W.mg_of X G a⟩
theorem qrm:∀ us:List Value,us.length=1→∃ x0,us=[x0]
  | [x0],_=>⟨x0,rfl⟩
theorem qdH:∀ us:List Value,us.length=2→∃ x0 x1,us=[x0,x1]
  | [x0,x1],_=>⟨x0,x1,rfl⟩
theorem qrn:∀ us:List Value,us.length=3→∃ x0 x1 x2,us=[x0,x1,x2]
  | [x0,x1,x2],_=>⟨x0,x1,x2,rfl⟩
theorem qtJ:∀ us:List Value,us.length=5→∃ x0 x1 x2 x3 x4,us=[x0,x1,x2,x3,x4]
  | [x0,x1,x2,x3,x4],_=>⟨x0,x1,x2,x3,x4,rfl⟩
section
variable {P:Program} {w:World} {mg:Str→Option Value} {base h:Heap}
theorem qbt (X:(hp w.params).In h) (G:h.Ns mainGlobals mg) (B:Bl (hp w.params) mg):Cal P w (hp w.params) mg base 1 "common_divisor" ["one", "other"] (qau (hp w.params)):=by
  have F:=qa8 (K:=hp w.params) (st:=qcw) (f:=22) (c:=21) (n := "common_divisor") (pm:=mo0) (by kernel_rfl) (by kernel_rfl) (by kernel_rfl)
  exact qaI X G (qf4 F B ) (F.binds fun _ _ _ _ _ _ us hl=>by obtain ⟨_,_,rfl⟩:=qdH us hl;rfl) (by kernel_rfl) (by kernel_rfl)
theorem qpM (X:(hp w.params).In h) (G:h.Ns mainGlobals mg) (B:Bl (hp w.params) mg):Cal P w (hp w.params) mg base 1 "raised" ["whole", "n"] (qcT (hp w.params)):=by
  have F:=qa8 (K:=hp w.params) (st:=qiP) (f:=29) (c:=28) (n := "raised") (pm:=mo0) (by kernel_rfl) (by kernel_rfl) (by kernel_rfl)
  exact qaI X G (qoI F B ) (F.binds fun _ _ _ _ _ _ us hl=>by obtain ⟨_,_,rfl⟩:=qdH us hl;rfl) (by kernel_rfl) (by kernel_rfl)
theorem qdX (X:(hp w.params).In h) (G:h.Ns mainGlobals mg) (B:Bl (hp w.params) mg):Cal P w (hp w.params) mg base 1 "row_trimmed" ["row"] (qaV (hp w.params)):=by
  have F:=qa8 (K:=hp w.params) (st:=qdI) (f:=41) (c:=40) (n := "row_trimmed") (pm:=mo0) (by kernel_rfl) (by kernel_rfl) (by kernel_rfl)
  exact qaI X G (qh6 F B ) (F.binds fun _ _ _ _ _ _ us hl=>by obtain ⟨_,rfl⟩:=qrm us hl;rfl) (by kernel_rfl) (by kernel_rfl)
theorem qgg (X:(hp w.params).In h) (G:h.Ns mainGlobals mg) (B:Bl (hp w.params) mg):Cal P w (hp w.params) mg base 1 "row_parted" ["row", "divisor"] (qbm (hp w.params)):=by
  have F:=qa8 (K:=hp w.params) (st:=qeb) (f:=46) (c:=45) (n := "row_parted") (pm:=mo0) (by kernel_rfl) (by kernel_rfl) (by kernel_rfl)
  exact qaI X G (qjv F B ) (F.binds fun _ _ _ _ _ _ us hl=>by obtain ⟨_,_,rfl⟩:=qdH us hl;rfl) (by kernel_rfl) (by kernel_rfl)
theorem qlj (X:(hp w.params).In h) (G:h.Ns mainGlobals mg) (B:Bl (hp w.params) mg):Cal P w (hp w.params) mg base 1 "row_times" ["row", "other"] (qbO (hp w.params)):=by
  have F:=qa8 (K:=hp w.params) (st:=qe2) (f:=53) (c:=52) (n := "row_times") (pm:=mo0) (by kernel_rfl) (by kernel_rfl) (by kernel_rfl)
  exact qaI X G (qkn F B ) (F.binds fun _ _ _ _ _ _ us hl=>by obtain ⟨_,_,rfl⟩:=qdH us hl;rfl) (by kernel_rfl) (by kernel_rfl)
theorem qmL (X:(hp w.params).In h) (G:h.Ns mainGlobals mg) (B:Bl (hp w.params) mg):Cal P w (hp w.params) mg base 1 "row_over" ["row", "divisor"] (qbN (hp w.params)):=by
  have F:=qa8 (K:=hp w.params) (st:=qfI) (f:=60) (c:=59) (n := "row_over") (pm:=mo0) (by kernel_rfl) (by kernel_rfl) (by kernel_rfl)
  exact qaI X G (qle F B ) (F.binds fun _ _ _ _ _ _ us hl=>by obtain ⟨_,_,rfl⟩:=qdH us hl;rfl) (by kernel_rfl) (by kernel_rfl)
theorem qgu (X:(hp w.params).In h) (G:h.Ns mainGlobals mg) (B:Bl (hp w.params) mg):Cal P w (hp w.params) mg base 1 "inverse_modulo" ["whole", "prime"] (qba (hp w.params)):=by
  have F:=qa8 (K:=hp w.params) (st:=qcx) (f:=96) (c:=95) (n := "inverse_modulo") (pm:=mo0) (by kernel_rfl) (by kernel_rfl) (by kernel_rfl)
  exact qaI X G (qf5 F B ) (F.binds fun _ _ _ _ _ _ us hl=>by obtain ⟨_,_,rfl⟩:=qdH us hl;rfl) (by kernel_rfl) (by kernel_rfl)
theorem qib (X:(hp w.params).In h) (G:h.Ns mainGlobals mg) (B:Bl (hp w.params) mg):Cal P w (hp w.params) mg base 1 "rests_modulo" ["row", "prime"] (qbp (hp w.params)):=by
  have F:=qa8 (K:=hp w.params) (st:=qdm) (f:=101) (c:=100) (n := "rests_modulo") (pm:=mo0) (by kernel_rfl) (by kernel_rfl) (by kernel_rfl)
  exact qaI X G (qhO F B ) (F.binds fun _ _ _ _ _ _ us hl=>by obtain ⟨_,_,rfl⟩:=qdH us hl;rfl) (by kernel_rfl) (by kernel_rfl)
theorem qoP (X:(hp w.params).In h) (G:h.Ns mainGlobals mg) (B:Bl (hp w.params) mg):Cal P w (hp w.params) mg base 1 "nearest" ["whole", "prime"] (qcg (hp w.params)):=by
  have F:=qa8 (K:=hp w.params) (st:=qgP) (f:=141) (c:=140) (n := "nearest") (pm:=mo0) (by kernel_rfl) (by kernel_rfl) (by kernel_rfl)
  exact qaI X G (qmA F B ) (F.binds fun _ _ _ _ _ _ us hl=>by obtain ⟨_,_,rfl⟩:=qdH us hl;rfl) (by kernel_rfl) (by kernel_rfl)
theorem qgh (X:(hp w.params).In h) (G:h.Ns mainGlobals mg) (B:Bl (hp w.params) mg):Cal P w (hp w.params) mg base 1 "poly" ["row"] (qbs (hp w.params)):=by
  have F:=qa8 (K:=hp w.params) (st:=qnc) (f:=195) (c:=194) (n := "poly") (pm:=mo2) (by kernel_rfl) (by kernel_rfl) (by kernel_rfl)
  exact qaI X G (qrk F B ) (F.binds fun _ _ _ _ _ _ us hl=>by obtain ⟨_,rfl⟩:=qrm us hl;rfl) (by kernel_rfl) (by kernel_rfl)
theorem qhR (X:(hp w.params).In h) (G:h.Ns mainGlobals mg) (B:Bl (hp w.params) mg):Cal P w (hp w.params) mg base 1 "number_of" ["P", "place"] (qbg (hp w.params)):=by
  have F:=qa8 (K:=hp w.params) (st:=qe4) (f:=212) (c:=211) (n := "number_of") (pm:=mo2) (by kernel_rfl) (by kernel_rfl) (by kernel_rfl)
  exact qaI X G (qkp F B ) (F.binds fun _ _ _ _ _ _ us hl=>by obtain ⟨_,_,rfl⟩:=qdH us hl;rfl) (by kernel_rfl) (by kernel_rfl)
theorem qst (X:(hp w.params).In h) (G:h.Ns mainGlobals mg) (B:Bl (hp w.params) mg):Cal P w (hp w.params) mg base 1 "_law_at" ["_law_script", "_law_k"] (qen (hp w.params)):=by
  have F:=qa8 (K:=hp w.params) (st:=qnd) (f:=316) (c:=315) (n := "_law_at") (pm:=mo4) (by kernel_rfl) (by kernel_rfl) (by kernel_rfl)
  exact qaI X G (qrl F B ) (F.binds fun _ _ _ _ _ _ us hl=>by obtain ⟨_,_,rfl⟩:=qdH us hl;rfl) (by kernel_rfl) (by kernel_rfl)
theorem qfH (X:(hp w.params).In h) (G:h.Ns mainGlobals mg) (B:Bl (hp w.params) mg):Cal P w (hp w.params) mg base 1 "_law_digit" ["_law_rest_here", "_law_many"] (qaL (hp w.params)):=by
  have F:=qa8 (K:=hp w.params) (st:=qgY) (f:=330) (c:=329) (n := "_law_digit") (pm:=mo4) (by kernel_rfl) (by kernel_rfl) (by kernel_rfl)
  exact qaI X G (qmJ F B ) (F.binds fun _ _ _ _ _ _ us hl=>by obtain ⟨_,_,rfl⟩:=qdH us hl;rfl) (by kernel_rfl) (by kernel_rfl)
theorem qks (X:(hp w.params).In h) (G:h.Ns mainGlobals mg) (B:Bl (hp w.params) mg):Cal P w (hp w.params) mg base 2 "content" ["row", "start"] (qbQ (hp w.params)):=by
  have F:=qa8 (K:=hp w.params) (st:=qgO) (f:=34) (c:=33) (n := "content") (pm:=mo0) (by kernel_rfl) (by kernel_rfl) (by kernel_rfl)
  exact qaI X G (qmz F B (qbt X G B)) (F.binds fun _ _ _ _ _ _ us hl=>by obtain ⟨_,_,rfl⟩:=qdH us hl;rfl) (by kernel_rfl) (by kernel_rfl)
theorem qiE (X:(hp w.params).In h) (G:h.Ns mainGlobals mg) (B:Bl (hp w.params) mg):Cal P w (hp w.params) mg base 2 "row_less" ["row", "factor", "other", "weight", "shift"] (qbI (hp w.params)):=by
  have F:=qa8 (K:=hp w.params) (st:=qfJ) (f:=65) (c:=64) (n := "row_less") (pm:=mo0) (by kernel_rfl) (by kernel_rfl) (by kernel_rfl)
  exact qaI X G (qlf F B (qdX X G B)) (F.binds fun _ _ _ _ _ _ us hl=>by obtain ⟨_,_,_,_,_,rfl⟩:=qtJ us hl;rfl) (by kernel_rfl) (by kernel_rfl)
theorem qgi (X:(hp w.params).In h) (G:h.Ns mainGlobals mg) (B:Bl (hp w.params) mg):Cal P w (hp w.params) mg base 2 "row_modulo" ["row", "prime"] (qbc (hp w.params)):=by
  have F:=qa8 (K:=hp w.params) (st:=qec) (f:=108) (c:=107) (n := "row_modulo") (pm:=mo0) (by kernel_rfl) (by kernel_rfl) (by kernel_rfl)
  exact qaI X G (qjw F B (qib X G B) (qdX X G B)) (F.binds fun _ _ _ _ _ _ us hl=>by obtain ⟨_,_,rfl⟩:=qdH us hl;rfl) (by kernel_rfl) (by kernel_rfl)
theorem qic (X:(hp w.params).In h) (G:h.Ns mainGlobals mg) (B:Bl (hp w.params) mg):Cal P w (hp w.params) mg base 2 "monic_modulo" ["row", "prime"] (qa2 (hp w.params)):=by
  have F:=qa8 (K:=hp w.params) (st:=qdn) (f:=113) (c:=112) (n := "monic_modulo") (pm:=mo0) (by kernel_rfl) (by kernel_rfl) (by kernel_rfl)
  exact qaI X G (qhP F B (qgu X G B)) (F.binds fun _ _ _ _ _ _ us hl=>by obtain ⟨_,_,rfl⟩:=qdH us hl;rfl) (by kernel_rfl) (by kernel_rfl)
theorem qdY (X:(hp w.params).In h) (G:h.Ns mainGlobals mg) (B:Bl (hp w.params) mg):Cal P w (hp w.params) mg base 2 "ratio" ["top", "bottom"] (qaS (hp w.params)):=by
  have F:=qa8 (K:=hp w.params) (st:=qkF) (f:=160) (c:=159) (n := "ratio") (pm:=mo1) (by kernel_rfl) (by kernel_rfl) (by kernel_rfl)
  exact qaI X G (qpJ F B (qbt X G B)) (F.binds fun _ _ _ _ _ _ us hl=>by obtain ⟨_,_,rfl⟩:=qdH us hl;rfl) (by kernel_rfl) (by kernel_rfl)
theorem qhS (X:(hp w.params).In h) (G:h.Ns mainGlobals mg) (B:Bl (hp w.params) mg):Cal P w (hp w.params) mg base 2 "cleared" ["P"] (qbi (hp w.params)):=by
  have F:=qa8 (K:=hp w.params) (st:=qgQ) (f:=200) (c:=199) (n := "cleared") (pm:=mo2) (by kernel_rfl) (by kernel_rfl) (by kernel_rfl)
  exact qaI X G (qmB F B (qbt X G B)) (F.binds fun _ _ _ _ _ _ us hl=>by obtain ⟨_,rfl⟩:=qrm us hl;rfl) (by kernel_rfl) (by kernel_rfl)
theorem qpN (X:(hp w.params).In h) (G:h.Ns mainGlobals mg) (B:Bl (hp w.params) mg):Cal P w (hp w.params) mg base 2 "_law_rest" ["_law_script", "_law_k"] (qb9 (hp w.params)):=by
  have F:=qa8 (K:=hp w.params) (st:=qiV) (f:=323) (c:=322) (n := "_law_rest") (pm:=mo4) (by kernel_rfl) (by kernel_rfl) (by kernel_rfl)
  exact qaI X G (qoO F B (qst X G B)) (F.binds fun _ _ _ _ _ _ us hl=>by obtain ⟨_,_,rfl⟩:=qdH us hl;rfl) (by kernel_rfl) (by kernel_rfl)
theorem qdk (X:(hp w.params).In h) (G:h.Ns mainGlobals mg) (B:Bl (hp w.params) mg):Cal P w (hp w.params) mg base 3 "strand_shortened" ["strand"] (qaK (hp w.params)):=by
  have F:=qa8 (K:=hp w.params) (st:=qb6) (f:=75) (c:=74) (n := "strand_shortened") (pm:=mo0) (by kernel_rfl) (by kernel_rfl) (by kernel_rfl)
  exact qaI X G (qfj F B (qks X G B) (qgg X G B)) (F.binds fun _ _ _ _ _ _ us hl=>by obtain ⟨_,rfl⟩:=qrm us hl;rfl) (by kernel_rfl) (by kernel_rfl)
theorem qid (X:(hp w.params).In h) (G:h.Ns mainGlobals mg) (B:Bl (hp w.params) mg):Cal P w (hp w.params) mg base 3 "split_modulo" ["row", "divisor", "modulus"] (qbq (hp w.params)):=by
  have F:=qa8 (K:=hp w.params) (st:=qdo) (f:=120) (c:=119) (n := "split_modulo") (pm:=mo0) (by kernel_rfl) (by kernel_rfl) (by kernel_rfl)
  exact qaI X G (qhQ F B (qdX X G B) (qgi X G B)) (F.binds fun _ _ _ _ _ _ us hl=>by obtain ⟨_,_,_,rfl⟩:=qrn us hl;rfl) (by kernel_rfl) (by kernel_rfl)
theorem qsu (X:(hp w.params).In h) (G:h.Ns mainGlobals mg) (B:Bl (hp w.params) mg):Cal P w (hp w.params) mg base 3 "plus" ["one", "other"] (qha (hp w.params)):=by
  have F:=qa8 (K:=hp w.params) (st:=qna) (f:=167) (c:=166) (n := "plus") (pm:=mo1) (by kernel_rfl) (by kernel_rfl) (by kernel_rfl)
  exact qaI X G (qri F B (qdY X G B)) (F.binds fun _ _ _ _ _ _ us hl=>by obtain ⟨_,_,rfl⟩:=qdH us hl;rfl) (by kernel_rfl) (by kernel_rfl)
theorem qro (X:(hp w.params).In h) (G:h.Ns mainGlobals mg) (B:Bl (hp w.params) mg):Cal P w (hp w.params) mg base 3 "minus" ["one", "other"] (qfr (hp w.params)):=by
  have F:=qa8 (K:=hp w.params) (st:=qkG) (f:=174) (c:=173) (n := "minus") (pm:=mo1) (by kernel_rfl) (by kernel_rfl) (by kernel_rfl)
  exact qaI X G (qpK F B (qdY X G B)) (F.binds fun _ _ _ _ _ _ us hl=>by obtain ⟨_,_,rfl⟩:=qdH us hl;rfl) (by kernel_rfl) (by kernel_rfl)
theorem qoQ (X:(hp w.params).In h) (G:h.Ns mainGlobals mg) (B:Bl (hp w.params) mg):Cal P w (hp w.params) mg base 3 "times" ["one", "other"] (qdR (hp w.params)):=by
  have F:=qa8 (K:=hp w.params) (st:=qkH) (f:=181) (c:=180) (n := "times") (pm:=mo1) (by kernel_rfl) (by kernel_rfl) (by kernel_rfl)
  exact qaI X G (qpL F B (qdY X G B)) (F.binds fun _ _ _ _ _ _ us hl=>by obtain ⟨_,_,rfl⟩:=qdH us hl;rfl) (by kernel_rfl) (by kernel_rfl)
theorem qsv (X:(hp w.params).In h) (G:h.Ns mainGlobals mg) (B:Bl (hp w.params) mg):Cal P w (hp w.params) mg base 3 "over" ["one", "other"] (qe9 (hp w.params)):=by
  have F:=qa8 (K:=hp w.params) (st:=qnb) (f:=188) (c:=187) (n := "over") (pm:=mo1) (by kernel_rfl) (by kernel_rfl) (by kernel_rfl)
  exact qaI X G (qrj F B (qdY X G B)) (F.binds fun _ _ _ _ _ _ us hl=>by obtain ⟨_,_,rfl⟩:=qdH us hl;rfl) (by kernel_rfl) (by kernel_rfl)
theorem qfk (X:(hp w.params).In h) (G:h.Ns mainGlobals mg) (B:Bl (hp w.params) mg):Cal P w (hp w.params) mg base 3 "uncleared" ["row", "bottom"] (qbf (hp w.params)):=by
  have F:=qa8 (K:=hp w.params) (st:=qe3) (f:=205) (c:=204) (n := "uncleared") (pm:=mo2) (by kernel_rfl) (by kernel_rfl) (by kernel_rfl)
  exact qaI X G (qko F B (qdY X G B) (qgh X G B)) (F.binds fun _ _ _ _ _ _ us hl=>by obtain ⟨_,_,rfl⟩:=qdH us hl;rfl) (by kernel_rfl) (by kernel_rfl)
theorem qjy (X:(hp w.params).In h) (G:h.Ns mainGlobals mg) (B:Bl (hp w.params) mg):Cal P w (hp w.params) mg base 3 "_law_number_by" ["_law_rest_here", "_law_far"] (qby (hp w.params)):=by
  have F:=qa8 (K:=hp w.params) (st:=qdL) (f:=337) (c:=336) (n := "_law_number_by") (pm:=mo4) (by kernel_rfl) (by kernel_rfl) (by kernel_rfl)
  exact qaI X G (qh9 F B (qfH X G B) (qdY X G B)) (F.binds fun _ _ _ _ _ _ us hl=>by obtain ⟨_,_,rfl⟩:=qdH us hl;rfl) (by kernel_rfl) (by kernel_rfl)
theorem qlk (X:(hp w.params).In h) (G:h.Ns mainGlobals mg) (B:Bl (hp w.params) mg):Cal P w (hp w.params) mg base 3 "_law_long_by" ["_law_rest_here", "_law_most"] (qbF (hp w.params)):=by
  have F:=qa8 (K:=hp w.params) (st:=qe6) (f:=354) (c:=353) (n := "_law_long_by") (pm:=mo4) (by kernel_rfl) (by kernel_rfl) (by kernel_rfl)
  exact qaI X G (qkr F B (qfH X G B) (qdY X G B) (qgh X G B)) (F.binds fun _ _ _ _ _ _ us hl=>by obtain ⟨_,_,rfl⟩:=qdH us hl;rfl) (by kernel_rfl) (by kernel_rfl)
theorem qjz (X:(hp w.params).In h) (G:h.Ns mainGlobals mg) (B:Bl (hp w.params) mg):Cal P w (hp w.params) mg base 4 "strand_rest" ["strand", "other"] (qbw (hp w.params)):=by
  have F:=qa8 (K:=hp w.params) (st:=qdJ) (f:=70) (c:=69) (n := "strand_rest") (pm:=mo0) (by kernel_rfl) (by kernel_rfl) (by kernel_rfl)
  exact qaI X G (qh7 F B (qbt X G B) (qiE X G B) (qdk X G B)) (F.binds fun _ _ _ _ _ _ us hl=>by obtain ⟨_,_,rfl⟩:=qdH us hl;rfl) (by kernel_rfl) (by kernel_rfl)
theorem qeG (X:(hp w.params).In h) (G:h.Ns mainGlobals mg) (B:Bl (hp w.params) mg):Cal P w (hp w.params) mg base 4 "row_shortened" ["row"] (qaO (hp w.params)):=by
  have F:=qa8 (K:=hp w.params) (st:=qcO) (f:=82) (c:=81) (n := "row_shortened") (pm:=mo0) (by kernel_rfl) (by kernel_rfl) (by kernel_rfl)
  exact qaI X G (qgq F B (qdk X G B)) (F.binds fun _ _ _ _ _ _ us hl=>by obtain ⟨_,rfl⟩:=qrm us hl;rfl) (by kernel_rfl) (by kernel_rfl)
theorem qjA (X:(hp w.params).In h) (G:h.Ns mainGlobals mg) (B:Bl (hp w.params) mg):Cal P w (hp w.params) mg base 4 "rest_modulo" ["row", "divisor", "modulus"] (qbx (hp w.params)):=by
  have F:=qa8 (K:=hp w.params) (st:=qdK) (f:=127) (c:=126) (n := "rest_modulo") (pm:=mo0) (by kernel_rfl) (by kernel_rfl) (by kernel_rfl)
  exact qaI X G (qh8 F B (qid X G B)) (F.binds fun _ _ _ _ _ _ us hl=>by obtain ⟨_,_,_,rfl⟩:=qrn us hl;rfl) (by kernel_rfl) (by kernel_rfl)
theorem qpO (X:(hp w.params).In h) (G:h.Ns mainGlobals mg) (B:Bl (hp w.params) mg):Cal P w (hp w.params) mg base 4 "p_plus" ["P", "Q"] (qeo (hp w.params)):=by
  have F:=qa8 (K:=hp w.params) (st:=qiQ) (f:=217) (c:=216) (n := "p_plus") (pm:=mo2) (by kernel_rfl) (by kernel_rfl) (by kernel_rfl)
  exact qaI X G (qoJ F B (qhR X G B) (qsu X G B) (qgh X G B)) (F.binds fun _ _ _ _ _ _ us hl=>by obtain ⟨_,_,rfl⟩:=qdH us hl;rfl) (by kernel_rfl) (by kernel_rfl)
theorem qkt (X:(hp w.params).In h) (G:h.Ns mainGlobals mg) (B:Bl (hp w.params) mg):Cal P w (hp w.params) mg base 4 "p_minus" ["P", "Q"] (qci (hp w.params)):=by
  have F:=qa8 (K:=hp w.params) (st:=qgR) (f:=222) (c:=221) (n := "p_minus") (pm:=mo2) (by kernel_rfl) (by kernel_rfl) (by kernel_rfl)
  exact qaI X G (qmC F B (qhR X G B) (qro X G B) (qgh X G B)) (F.binds fun _ _ _ _ _ _ us hl=>by obtain ⟨_,_,rfl⟩:=qdH us hl;rfl) (by kernel_rfl) (by kernel_rfl)
theorem qhT (X:(hp w.params).In h) (G:h.Ns mainGlobals mg) (B:Bl (hp w.params) mg):Cal P w (hp w.params) mg base 4 "p_times" ["P", "Q"] (qa4 (hp w.params)):=by
  have F:=qa8 (K:=hp w.params) (st:=qgS) (f:=229) (c:=228) (n := "p_times") (pm:=mo2) (by kernel_rfl) (by kernel_rfl) (by kernel_rfl)
  exact qaI X G (qmD F B (qhS X G B) (qlj X G B) (qfk X G B)) (F.binds fun _ _ _ _ _ _ us hl=>by obtain ⟨_,_,rfl⟩:=qdH us hl;rfl) (by kernel_rfl) (by kernel_rfl)
theorem qmM (X:(hp w.params).In h) (G:h.Ns mainGlobals mg) (B:Bl (hp w.params) mg):Cal P w (hp w.params) mg base 4 "p_scaled" ["P", "c"] (qbP (hp w.params)):=by
  have F:=qa8 (K:=hp w.params) (st:=qfK) (f:=234) (c:=233) (n := "p_scaled") (pm:=mo2) (by kernel_rfl) (by kernel_rfl) (by kernel_rfl)
  exact qaI X G (qlg F B (qoQ X G B) (qgh X G B)) (F.binds fun _ _ _ _ _ _ us hl=>by obtain ⟨_,_,rfl⟩:=qdH us hl;rfl) (by kernel_rfl) (by kernel_rfl)
theorem qoR (X:(hp w.params).In h) (G:h.Ns mainGlobals mg) (B:Bl (hp w.params) mg):Cal P w (hp w.params) mg base 4 "p_split" ["P", "Q"] (qch (hp w.params)):=by
  have F:=qa8 (K:=hp w.params) (st:=qgT) (f:=241) (c:=240) (n := "p_split") (pm:=mo2) (by kernel_rfl) (by kernel_rfl) (by kernel_rfl)
  exact qaI X G (qmE F B (qhS X G B) (qdY X G B) (qbt X G B) (qiE X G B) (qks X G B) (qgg X G B) (qgh X G B) (qfk X G B)) (F.binds fun _ _ _ _ _ _ us hl=>by obtain ⟨_,_,rfl⟩:=qdH us hl;rfl) (by kernel_rfl) (by kernel_rfl)
theorem qoS (X:(hp w.params).In h) (G:h.Ns mainGlobals mg) (B:Bl (hp w.params) mg):Cal P w (hp w.params) mg base 4 "p_slope" ["P"] (qb3 (hp w.params)):=by
  have F:=qa8 (K:=hp w.params) (st:=qgU) (f:=253) (c:=252) (n := "p_slope") (pm:=mo2) (by kernel_rfl) (by kernel_rfl) (by kernel_rfl)
  exact qaI X G (qmF F B (qoQ X G B)) (F.binds fun _ _ _ _ _ _ us hl=>by obtain ⟨_,rfl⟩:=qrm us hl;rfl) (by kernel_rfl) (by kernel_rfl)
theorem qll (X:(hp w.params).In h) (G:h.Ns mainGlobals mg) (B:Bl (hp w.params) mg):Cal P w (hp w.params) mg base 4 "_law_poly_by" ["_law_rest_here", "_law_most", "_law_far"] (qbE (hp w.params)):=by
  have F:=qa8 (K:=hp w.params) (st:=qe5) (f:=342) (c:=341) (n := "_law_poly_by") (pm:=mo4) (by kernel_rfl) (by kernel_rfl) (by kernel_rfl)
  exact qaI X G (qkq F B (qfH X G B) (qjy X G B) (qgh X G B)) (F.binds fun _ _ _ _ _ _ us hl=>by obtain ⟨_,_,_,rfl⟩:=qrn us hl;rfl) (by kernel_rfl) (by kernel_rfl)
theorem qhU (X:(hp w.params).In h) (G:h.Ns mainGlobals mg) (B:Bl (hp w.params) mg):Cal P w (hp w.params) mg base 5 "strand_euclid" ["strand", "other"] (qa5 (hp w.params)):=by
  have F:=qa8 (K:=hp w.params) (st:=qcP) (f:=89) (c:=88) (n := "strand_euclid") (pm:=mo0) (by kernel_rfl) (by kernel_rfl) (by kernel_rfl)
  exact qaI X G (qgr F B (qjz X G B)) (F.binds fun _ _ _ _ _ _ us hl=>by obtain ⟨_,_,rfl⟩:=qdH us hl;rfl) (by kernel_rfl) (by kernel_rfl)
theorem qhV (X:(hp w.params).In h) (G:h.Ns mainGlobals mg) (B:Bl (hp w.params) mg):Cal P w (hp w.params) mg base 5 "euclid_modulo" ["row", "other", "prime"] (qbk (hp w.params)):=by
  have F:=qa8 (K:=hp w.params) (st:=qcQ) (f:=134) (c:=133) (n := "euclid_modulo") (pm:=mo0) (by kernel_rfl) (by kernel_rfl) (by kernel_rfl)
  exact qaI X G (qgs F B (qgi X G B) (qic X G B) (qjA X G B)) (F.binds fun _ _ _ _ _ _ us hl=>by obtain ⟨_,_,_,rfl⟩:=qrn us hl;rfl) (by kernel_rfl) (by kernel_rfl)
theorem qpP (X:(hp w.params).In h) (G:h.Ns mainGlobals mg) (B:Bl (hp w.params) mg):Cal P w (hp w.params) mg base 5 "evened" ["P", "Q"] (qcU (hp w.params)):=by
  have F:=qa8 (K:=hp w.params) (st:=qiS) (f:=267) (c:=266) (n := "evened") (pm:=mo3) (by kernel_rfl) (by kernel_rfl) (by kernel_rfl)
  exact qaI X G (qoL F B (qsv X G B) (qmM X G B)) (F.binds fun _ _ _ _ _ _ us hl=>by obtain ⟨_,_,rfl⟩:=qdH us hl;rfl) (by kernel_rfl) (by kernel_rfl)
theorem qf6 (X:(hp w.params).In h) (G:h.Ns mainGlobals mg) (B:Bl (hp w.params) mg):Cal P w (hp w.params) mg base 5 "quotient" ["P", "Q"] (qaR (hp w.params)):=by
  have F:=qa8 (K:=hp w.params) (st:=qfM) (f:=274) (c:=273) (n := "quotient") (pm:=mo3) (by kernel_rfl) (by kernel_rfl) (by kernel_rfl)
  exact qaI X G (qli F B (qoR X G B)) (F.binds fun _ _ _ _ _ _ us hl=>by obtain ⟨_,_,rfl⟩:=qdH us hl;rfl) (by kernel_rfl) (by kernel_rfl)
theorem qf7 (X:(hp w.params).In h) (G:h.Ns mainGlobals mg) (B:Bl (hp w.params) mg):Cal P w (hp w.params) mg base 6 "common_by_prime" ["row", "other", "prime"] (qa3 (hp w.params)):=by
  have F:=qa8 (K:=hp w.params) (st:=qcc) (f:=146) (c:=145) (n := "common_by_prime") (pm:=mo0) (by kernel_rfl) (by kernel_rfl) (by kernel_rfl)
  exact qaI X G (qfG F B (qbt X G B) (qhV X G B) (qoP X G B) (qeG X G B) (qmL X G B)) (F.binds fun _ _ _ _ _ _ us hl=>by obtain ⟨_,_,_,rfl⟩:=qrn us hl;rfl) (by kernel_rfl) (by kernel_rfl)
theorem qku (X:(hp w.params).In h) (G:h.Ns mainGlobals mg) (B:Bl (hp w.params) mg):Cal P w (hp w.params) mg base 7 "row_common" ["row", "other"] (qbJ (hp w.params)):=by
  have F:=qa8 (K:=hp w.params) (st:=qed) (f:=153) (c:=152) (n := "row_common") (pm:=mo0) (by kernel_rfl) (by kernel_rfl) (by kernel_rfl)
  exact qaI X G (qjx F B (qeG X G B) (qpM X G B) (qf7 X G B) (qhU X G B)) (F.binds fun _ _ _ _ _ _ us hl=>by obtain ⟨_,_,rfl⟩:=qdH us hl;rfl) (by kernel_rfl) (by kernel_rfl)
theorem qjB (X:(hp w.params).In h) (G:h.Ns mainGlobals mg) (B:Bl (hp w.params) mg):Cal P w (hp w.params) mg base 8 "common" ["P", "Q"] (qbK (hp w.params)):=by
  have F:=qa8 (K:=hp w.params) (st:=qiR) (f:=248) (c:=247) (n := "common") (pm:=mo2) (by kernel_rfl) (by kernel_rfl) (by kernel_rfl)
  exact qaI X G (qoK F B (qhS X G B) (qku X G B) (qfk X G B)) (F.binds fun _ _ _ _ _ _ us hl=>by obtain ⟨_,_,rfl⟩:=qdH us hl;rfl) (by kernel_rfl) (by kernel_rfl)
theorem qeM (X:(hp w.params).In h) (G:h.Ns mainGlobals mg) (B:Bl (hp w.params) mg):Cal P w (hp w.params) mg base 9 "fraction" ["P", "Q"] (qaY (hp w.params)):=by
  have F:=qa8 (K:=hp w.params) (st:=qfL) (f:=260) (c:=259) (n := "fraction") (pm:=mo3) (by kernel_rfl) (by kernel_rfl) (by kernel_rfl)
  exact qaI X G (qlh F B (qjB X G B) (qf6 X G B) (qpP X G B)) (F.binds fun _ _ _ _ _ _ us hl=>by obtain ⟨_,_,rfl⟩:=qdH us hl;rfl) (by kernel_rfl) (by kernel_rfl)
theorem qjC (X:(hp w.params).In h) (G:h.Ns mainGlobals mg) (B:Bl (hp w.params) mg):Cal P w (hp w.params) mg base 9 "f_plus" ["F", "G"] (qaZ (hp w.params)):=by
  have F:=qa8 (K:=hp w.params) (st:=qiT) (f:=281) (c:=280) (n := "f_plus") (pm:=mo3) (by kernel_rfl) (by kernel_rfl) (by kernel_rfl)
  exact qaI X G (qoM F B (qjB X G B) (qf6 X G B) (qhT X G B) (qpO X G B)) (F.binds fun _ _ _ _ _ _ us hl=>by obtain ⟨_,_,rfl⟩:=qdH us hl;rfl) (by kernel_rfl) (by kernel_rfl)
theorem qoT (X:(hp w.params).In h) (G:h.Ns mainGlobals mg) (B:Bl (hp w.params) mg):Cal P w (hp w.params) mg base 9 "f_slope" ["F"] (qbb (hp w.params)):=by
  have F:=qa8 (K:=hp w.params) (st:=qgX) (f:=309) (c:=308) (n := "f_slope") (pm:=mo3) (by kernel_rfl) (by kernel_rfl) (by kernel_rfl)
  exact qaI X G (qmI F B (qoS X G B) (qjB X G B) (qf6 X G B) (qhT X G B) (qkt X G B)) (F.binds fun _ _ _ _ _ _ us hl=>by obtain ⟨_,rfl⟩:=qrm us hl;rfl) (by kernel_rfl) (by kernel_rfl)
theorem qkv (X:(hp w.params).In h) (G:h.Ns mainGlobals mg) (B:Bl (hp w.params) mg):Cal P w (hp w.params) mg base 10 "f_minus" ["F", "G"] (qbR (hp w.params)):=by
  have F:=qa8 (K:=hp w.params) (st:=qgV) (f:=288) (c:=287) (n := "f_minus") (pm:=mo3) (by kernel_rfl) (by kernel_rfl) (by kernel_rfl)
  exact qaI X G (qmG F B (qkt X G B) (qjC X G B)) (F.binds fun _ _ _ _ _ _ us hl=>by obtain ⟨_,_,rfl⟩:=qdH us hl;rfl) (by kernel_rfl) (by kernel_rfl)
theorem qhW (X:(hp w.params).In h) (G:h.Ns mainGlobals mg) (B:Bl (hp w.params) mg):Cal P w (hp w.params) mg base 10 "f_times" ["F", "G"] (qaF (hp w.params)):=by
  have F:=qa8 (K:=hp w.params) (st:=qgW) (f:=295) (c:=294) (n := "f_times") (pm:=mo3) (by kernel_rfl) (by kernel_rfl) (by kernel_rfl)
  exact qaI X G (qmH F B (qeM X G B) (qhT X G B)) (F.binds fun _ _ _ _ _ _ us hl=>by obtain ⟨_,_,rfl⟩:=qdH us hl;rfl) (by kernel_rfl) (by kernel_rfl)
theorem qhX (X:(hp w.params).In h) (G:h.Ns mainGlobals mg) (B:Bl (hp w.params) mg):Cal P w (hp w.params) mg base 10 "_law_fraction_by" ["_law_rest_here", "_law_most", "_law_far"] (qaW (hp w.params)):=by
  have F:=qa8 (K:=hp w.params) (st:=qcR) (f:=349) (c:=348) (n := "_law_fraction_by") (pm:=mo4) (by kernel_rfl) (by kernel_rfl) (by kernel_rfl)
  exact qaI X G (qgt F B (qll X G B) (qeM X G B)) (F.binds fun _ _ _ _ _ _ us hl=>by obtain ⟨_,_,_,rfl⟩:=qrn us hl;rfl) (by kernel_rfl) (by kernel_rfl)
theorem ql9 (X:(hp w.params).In h) (G:h.Ns mainGlobals mg) (B:Bl (hp w.params) mg):Cal P w (hp w.params) mg base 11 "f_over" ["F", "G"] (qbZ (hp w.params)):=by
  have F:=qa8 (K:=hp w.params) (st:=qiU) (f:=302) (c:=301) (n := "f_over") (pm:=mo3) (by kernel_rfl) (by kernel_rfl) (by kernel_rfl)
  exact qaI X G (qoN F B (qeM X G B) (qhW X G B)) (F.binds fun _ _ _ _ _ _ us hl=>by obtain ⟨_,_,rfl⟩:=qdH us hl;rfl) (by kernel_rfl) (by kernel_rfl)
theorem qjD (X:(hp w.params).In h) (G:h.Ns mainGlobals mg) (B:Bl (hp w.params) mg):Cal P w (hp w.params) mg base 12 "_law_by_slopes" ["_law_kf", "_law_kg"] (qb0 (hp w.params)):=by
  have F:=qa8 (K:=hp w.params) (st:=qdM) (f:=361) (c:=360) (n := "_law_by_slopes") (pm:=mo4) (by kernel_rfl) (by kernel_rfl) (by kernel_rfl)
  exact qaI X G (qia F B (qoT X G B) (qhW X G B) (qjC X G B) (qkv X G B) (ql9 X G B)) (F.binds fun _ _ _ _ _ _ us hl=>by obtain ⟨_,_,rfl⟩:=qdH us hl;rfl) (by kernel_rfl) (by kernel_rfl)
theorem qoU (X:(hp w.params).In h) (G:h.Ns mainGlobals mg) (B:Bl (hp w.params) mg):Cal P w (hp w.params) mg base 13 "_law_right" ["_law_kf", "_law_kg", "_law_kh"] (qdA (hp w.params)):=by
  have F:=qa8 (K:=hp w.params) (st:=qgZ) (f:=368) (c:=367) (n := "_law_right") (pm:=mo4) (by kernel_rfl) (by kernel_rfl) (by kernel_rfl)
  exact qaI X G (qmK F B (qjC X G B) (qhW X G B) (qkv X G B) (ql9 X G B) (qjD X G B)) (F.binds fun _ _ _ _ _ _ us hl=>by obtain ⟨_,_,_,rfl⟩:=qrn us hl;rfl) (by kernel_rfl) (by kernel_rfl)
end
theorem all_mk {l:PySem.W.OpenLaw} {w:World} {h:Heap} {mg:Str→Option Value} {fa:Addr} (X:(hp w.params).In h) (G:h.Ns mainGlobals mg) (hfa:mg "law" = some (.ref fa))
    : ∃ fd:FuncData,(∀ (s:Shared) (v:Value),BindsTo s fd ⟨[v],[]⟩ [("_law_script", v)])∧∀ base:Heap,(hp w.params).In base→base.Ns mainGlobals mg→FnOk l.prog w (hp w.params) mg base CX0 14 fa fd ["_law_script"] (qj4 (hp w.params)):=by
  have e:=hfa.symm.trans (PySem.W.mg_of X G (n := "law") (v:=.ref 375) (by kernel_rfl))
  cases e
  have qEXPONENTS:qcf (hp w.params)=15:=by kernel_rfl
  have xEXPONENTS:∀ H:Hp,SqT (hp w.params) H (qcf (hp w.params)) (exps.map fun e:Nat=>V.int (e:Int)):=fun H=>.inr ⟨_,_,_,(show (hp w.params).lookup (qcf (hp w.params))=some ⟨.type "tuple", none,.seq #[(.int 61 189),(.int 127 190),(.int 521 191),(.int 1279 192),(.int 4423 193),(.int 9941 194),(.int 21701 195),(.int 44497 196)] 0,#[]⟩ by rw [qEXPONENTS];kernel_rfl),rfl,rfl,by show 8≤sizeLine;rw [sizeLine_eq];decide,.cons ⟨_,rfl⟩ (.cons ⟨_,rfl⟩ (.cons ⟨_,rfl⟩ (.cons ⟨_,rfl⟩ (.cons ⟨_,rfl⟩ (.cons ⟨_,rfl⟩ (.cons ⟨_,rfl⟩ (.cons ⟨_,rfl⟩ (.nil))))))))⟩
  have B:Bl (hp w.params) mg:=⟨PySem.W.mg_none_of X G (by kernel_rfl),PySem.W.mg_none_of X G (by kernel_rfl),PySem.W.mg_none_of X G (by kernel_rfl),PySem.W.mg_none_of X G (by kernel_rfl),PySem.W.mg_none_of X G (by kernel_rfl),PySem.W.mg_none_of X G (by kernel_rfl),PySem.W.mg_none_of X G (by kernel_rfl),PySem.W.mg_none_of X G (by kernel_rfl),PySem.W.mg_none_of X G (by kernel_rfl),by rw [qEXPONENTS];exact PySem.W.mg_of X G (by kernel_rfl),PySem.W.mg_none_of X G (by kernel_rfl),PySem.W.mg_none_of X G (by kernel_rfl),xEXPONENTS⟩
  have FL:=qa8 (K:=hp w.params) (st:=qmg) (f:=375) (c:=374) (n := "law") (pm:=mo4) (by kernel_rfl) (by kernel_rfl) (by kernel_rfl)
  refine ⟨PySem.W.fnOf "law" "law" (qe1 qmg) (qea qmg) (qak qmg) .none .none .none mo4 none (.ref 374) .none,fun s v=>.of_eq rfl,fun base _ _=>?_⟩
  exact qss FL B (qpN X G B) (qhX X G B) (qfH X G B) (qlk X G B) (qdY X G B) (qgh X G B) (qeM X G B) (qoU X G B)
theorem walk {l:PySem.W.OpenLaw} {q:Program} {loose:List Str} {XP:(Str→Option Value)→Heap→Prop} {YP:World→Heap→Prop} {d:DefRec} {K:Params→W.Frag} (hn:l.most=some 63) (hdf:d.params.defaults=[]) (hq:importsNone q=true) (ht:∀ w,(model l.prog w).prog.given.tree=none)
    (hY:∀ (w:World) (h:Heap),YP w h→(K w.params).In h)
    (F:∀ (w:World) (mg:Str→Option Value) (fa:Addr) (h:Heap),(K w.params).In h→h.Ns mainGlobals mg→mg d.name=some (.ref fa)→
      ∃ fd:FuncData,(∀ (s:Shared) (u:Value),BindsTo s fd ⟨[u],[]⟩ [("_law_script", u)])∧∀ base:Heap,(K w.params).In base→base.Ns mainGlobals mg→FnOk l.prog w (K w.params) mg base CX0 14 fa fd ["_law_script"] (qj4 (K w.params))) :
    PySem.W.WalkO q loose XP YP l.row.toRowW d [] (fun f vs=>PySem.call f vs):=
  L2.walk_of (n:=63) (k:=14) (x := "_law_script") (CX:=fun _=>CX0) (sp:=fun w=>qj4 (K w.params)) hn (by decide) hdf hq ht ⟨rfl,by decide,by decide⟩ hY F (fun _ _ a ns hl _ hS=>⟨a,ns,rfl,hS,hl,fun _=>rfl⟩) fun _ _ _ _ _ z=>z
end Bs
open PySem PySem.W PyProof.Rows
set_option maxRecDepth 100000 in
set_option maxHeartbeats 0 in
theorem PySem.Challenge.cw_backslope_k23_whole_a_field_holds : PySem.Challenge.rw_backslope_k23_whole_a_field.Holds := by
  w_on; o_law
  refine PySem.W.holds_open (q := Bs.Hd.vw) (loose := []) (Xt := fun s => PySem.W.xlAt Bs.Hd.vw [] s && PySem.W.recOk (PySem.W.RowW.records (PySem.W.OpenRow.toRowW (PySem.W.OpenLaw.row PySem.Challenge.rw_backslope_k23_whole_a_field))) s) (XP := PySem.W.XL Bs.Hd.vw []) (Yf := Bs.Hd.hk.obs) (Ya := Bs.Hd.hk.val) (YP := Bs.Hd.hk.says) (N := 3632) Bs.Hd.left Bs.Hd.hk.of Bs.Hd.hk.keeps (fun s e => PySem.W.xl_of s (Bool.and_eq_true_iff.mp e).1) PySem.W.XL.keeps (by rfl) (by rfl) (by rfl) (fun s e => PySem.W.recFacts_of (Bool.and_eq_true_iff.mp e).2) (by rfl) (by first | assumption | decide +kernel) (by decide +kernel) ⟨rfl, rfl, rfl, rfl, rfl, by decide +kernel⟩ ?hw ?hc
  case hw => w_witness2
  case hc => exact Bs.walk (l := PySem.Challenge.rw_backslope_k23_whole_a_field) (K := Bs.Hd.hp) rfl rfl (by decide +kernel) (fun _ => rfl) (fun w h Y => Y) (fun w mg fa h KX G hmg => Bs.all_mk KX G hmg)
#print axioms PySem.Challenge.cw_backslope_k23_whole_a_field_holds
