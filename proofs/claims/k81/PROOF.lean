import PyProof.Rows.All
import Wide.All
import OpenK.AllK
import Wide.FinOn
import Lean
import PyProof.EqAt
import PyProof.EqKinds
import PyProof.TupleCall
import PySem.Challenge.RW_backslope_k81_forms_written
set_option Elab.async false
set_option linter.all false
set_option maxRecDepth 100000
namespace L2
open PySem PySem.Spec PyProof.Rows
noncomputable abbrev Key := Sum Int Str
noncomputable def qsx : Key → Value → Bool
  | .inl k, v => Value.isInt k v
  | .inr x, v => Value.isStrOf x v
noncomputable def qut (w : World) : Key → Int
  | .inl k => hashInt k
  | .inr x => hashStr w x
theorem qby : ∀ {k : Key} {v : Value}, qsx k v = true → (∃ i t, k = Sum.inl i ∧ v = Value.int i t) ∨ (∃ x t, k = Sum.inr x ∧ v = Value.str x t)
  | .inl i, v, h => by
    obtain ⟨t, e⟩ := Value.isInt_shape (k := i) (v := v) h
    exact .inl ⟨i, t, rfl, e⟩
  | .inr x, v, h => by
    obtain ⟨t, e⟩ := Value.isStrOf_shape (x := x) (v := v) h
    exact .inr ⟨x, t, rfl, e⟩
theorem qsy (a b : Int) : decide ((Sum.inl a : Key) = Sum.inl b) = (a == b) := by
  by_cases e : a = b
  · subst e; simp
  · have h : ¬ (Sum.inl a : Key) = Sum.inl b := fun q => e (Sum.inl.inj q)
    rw [decide_eq_false h]
    exact (beq_eq_false_iff_ne.mpr e).symm
theorem qsz (a b : Str) : decide ((Sum.inr a : Key) = Sum.inr b) = decide (a = b) := by
  by_cases e : a = b
  · subst e; simp
  · have h : ¬ (Sum.inr a : Key) = Sum.inr b := fun q => e (Sum.inr.inj q)
    rw [decide_eq_false h, decide_eq_false e]
theorem qsA (a : Int) (b : Str) : decide ((Sum.inl a : Key) = Sum.inr b) = false := decide_eq_false (fun q => nomatch q)
theorem qsB (a : Str) (b : Int) : decide ((Sum.inr a : Key) = Sum.inl b) = false := decide_eq_false (fun q => nomatch q)
noncomputable def qkV (prog : Program) (w : World) : PySem.KeyKind prog w Key where
  is := qsx
  hash := qut w
  inj := fun v a b ha hb => by
    rcases qby ha with ⟨i, t, rfl, rfl⟩ | ⟨x, t, rfl, rfl⟩
    · rcases qby hb with ⟨j, u, rfl, e⟩ | ⟨y, u, rfl, e⟩
      · injection e with e1 _; rw [e1]
      · exact nomatch e
    · rcases qby hb with ⟨j, u, rfl, e⟩ | ⟨y, u, rfl, e⟩
      · exact nomatch e
      · injection e with e1 _; rw [e1]
  byValue := fun k v h => by
    rcases qby h with ⟨i, t, rfl, rfl⟩ | ⟨x, t, rfl, rfl⟩ <;> rfl
  pyHash := fun hv h => by
    rcases qby hv with ⟨i, t, rfl, rfl⟩ | ⟨x, t, rfl, rfl⟩
    · exact wpAny_pyHash_int h
    · exact wpAny_pyHash_str h
  eqBool := fun hu hv h => by
    rcases qby hu with ⟨i, t, rfl, rfl⟩ | ⟨x, t, rfl, rfl⟩
    · rcases qby hv with ⟨j, u, rfl, rfl⟩ | ⟨y, u, rfl, rfl⟩
      · rw [qsy] at h; exact wpAny_eqBool_int h
      · rw [qsA] at h; exact SeqAt.EqAt.int_str i t y u _ _ _ _ h
    · rcases qby hv with ⟨j, u, rfl, rfl⟩ | ⟨y, u, rfl, rfl⟩
      · rw [qsB] at h; exact SeqAt.EqAt.str_int x t j u _ _ _ _ h
      · rw [qsz] at h; exact wpAny_eqBool_str h
  «strs» := fun k x t v h => by
    rcases qby h with ⟨i, u, rfl, e⟩ | ⟨y, u, rfl, e⟩
    · exact nomatch e
    · injection e with e1 _
      subst e1
      cases v <;> rfl
end L2
namespace L2
open PySem PySem.Spec PyProof.Rows
inductive V where
  | non | bl (b : Bool) | int (i : Int) | str (x : Str) | byt (b : Array UInt8) | flt (b : UInt64) | ref (a : Addr) | ty (n : String)
  deriving DecidableEq
noncomputable def RelV : V → Value → Prop
  | .non, u => u = Value.none
  | .bl b, u => u = Value.bool b
  | .int i, u => ∃ t, u = Value.int i t
  | .str x, u => ∃ t, u = Value.str x t
  | .byt b, u => ∃ t, u = Value.bytes b t
  | .flt b, u => ∃ t, u = Value.float b t
  | .ref a, u => u = Value.ref a
  | .ty n, u => u = Value.type n
noncomputable abbrev Vals : List V → List Value → Prop := Paired RelV
theorem Vals.length {xs : List V} {us : List Value} (r : Vals xs us) : xs.length = us.length := Paired.length r
theorem Vals.get : ∀ {xs : List V} {us : List Value} {i : Nat} {x : V}, Vals xs us → xs[i]? = some x → ∃ u, us[i]? = some u ∧ RelV x u
  | _, _, _, _, .nil, e => by simp at e
  | _, _, 0, _, .cons r _, e => by simp at e; subst e; exact ⟨_, rfl, r⟩
  | _, _, i + 1, x, .cons _ t, e => by
    obtain ⟨u, h1, h2⟩ := Vals.get (i := i) (x := x) t (by simpa using e)
    exact ⟨u, by simpa using h1, h2⟩
theorem Vals.set {x : V} {u : Value} (r : RelV x u) : ∀ {xs : List V} {us : List Value} (i : Nat), Vals xs us → Vals (xs.set i x) (us.set i u)
  | _, _, _, .nil => .nil
  | _, _, 0, .cons _ t => .cons r t
  | _, _, i + 1, .cons q t => .cons q (Vals.set r i t)
theorem Vals.append : ∀ {xs ys : List V} {us ws : List Value}, Vals xs us → Vals ys ws → Vals (xs ++ ys) (us ++ ws)
  | _, _, _, _, .nil, s => s
  | _, _, _, _, .cons r t, s => .cons r (Vals.append t s)
theorem Vals.take : ∀ {xs : List V} {us : List Value} (n : Nat), Vals xs us → Vals (xs.take n) (us.take n)
  | _, _, 0, _ => .nil
  | _, _, _ + 1, .nil => .nil
  | _, _, n + 1, .cons r t => .cons r (Vals.take n t)
theorem Vals.drop : ∀ {xs : List V} {us : List Value} (n : Nat), Vals xs us → Vals (xs.drop n) (us.drop n)
  | _, _, 0, r => r
  | _, _, _ + 1, .nil => .nil
  | _, _, n + 1, .cons _ t => Vals.drop n t
noncomputable def qtM : Option V → Option Value → Prop
  | some v, some u => RelV v u
  | none, none => True
  | _, _ => False
noncomputable def KV {κ : Type} : List (κ × V) → List (κ × Value) → Prop := Paired fun (p : κ × V) (q : κ × Value) => p.1 = q.1 ∧ RelV p.2 q.2
noncomputable def kV : Key → V
  | .inl i => .int i
  | .inr x => .str x
inductive HO where

  | lst (xs : List V)

  | tup (xs : List V)

  | dK (kvs : List (Key × V)) | dT (kvs : List (List Key × V))

  | set (S : Int → Bool) (n : Nat)

  | ins (C dx : Addr) (fs : List (Str × V))

  | own (x : Addr)

  | xd (fs : List (Str × V))

  | met (f x : Addr)

  | rng (lo hi : Int)

  | frz (o : Obj) (u : HO)

  | tbl (ps : Array Value)

  | ext (φ : Heap → Prop)
noncomputable abbrev Hp := Addr → Option HO
noncomputable def upd (H : Hp) (a : Addr) (o : HO) : Hp := fun b => if b = a then some o else H b
theorem qai {H : Hp} {a : Addr} {o : HO} : upd H a o a = some o := by unfold upd; rw [if_pos rfl]
theorem qaC {H : Hp} {a b : Addr} {o : HO} (h : b ≠ a) : upd H a o b = H b := by unfold upd; rw [if_neg h]
theorem qnv {H : Hp} {a b : Addr} {o u : HO} (h : H a = some o) (h' : H b = some u) (d : o ≠ u) : a ≠ b := by
  intro e; subst e; rw [h] at h'; exact d (Option.some.inj h')
theorem qav {H : Hp} {a b : Addr} {o : HO} (h : H a = some o) (h' : H b = none) : a ≠ b := by
  intro e; subst e; rw [h] at h'; cases h'
section
variable (P : Program) (w : World)
noncomputable def ObjOk (H : Hp) (h : Heap) (a : Addr) : HO → Prop
  | .lst xs => xs.length ≤ sizeLine ∧ ∃ (its : List Value) (n : Nat), Vals xs its ∧ h.get? a = some { cls := .type "list", data := .seq its.toArray n }
  | .tup xs => xs.length ≤ sizeLine ∧ ∃ its : List Value, Vals xs its ∧ IsTup h a its.toArray
  | .dK kvs => kvs.length ≤ sizeLine ∧ (a == sysModules) = false ∧ ∃ vs, KV kvs vs ∧ h.DictOf (qkV P w) a vs
  | .dT kvs => kvs.length ≤ sizeLine ∧ (a == sysModules) = false ∧ ∃ xs : List (List Key × Addr × Value),
      Paired (fun (p : List Key × V) (q : List Key × Addr × Value) => p.1 = q.1 ∧ H q.2.1 = some (.tup (p.1.map kV)) ∧ RelV p.2 q.2.2) kvs xs ∧
      ∃ o es ep, h.get? a = some o ∧ o.ExactDict ∧ o.data = .dict es ep ∧ es.toList = xs.map (entryOfKey (tupleKind (qkV P w))) ∧ (xs.map (·.1)).Nodup
  | .set S n => h.SetOf (intKind P w) a S n
  | .ins C dx fs => H dx = some (.own a) ∧ fs.length ≤ 1000 ∧ dx ≠ a ∧ h.get? a = some (PySem.W.instObj C dx) ∧
      ∃ mA, h.Ns1 dx mA ∧ (∀ f, qtM (fs.lookup f) (mA f)) ∧ PySem.Within mA (fs.map (·.1))
  | .own _ => ∃ o, h.get? a = some o
  | .xd fs => ∃ mA, h.Ns1 a mA ∧ ∀ f, qtM (fs.lookup f) (mA f)
  | .rng lo hi => ∃ t u v, h.get? a = some { cls := .type "range", data := .fields #[.int lo t, .int hi u, .int 1 v] }
  | .frz o u => h.get? a = some o ∧ ObjOk H h a u
  | .tbl ps => h.get? a = some { cls := .none, data := .fields ps }
  | .met f x => h.get? a = some (PySem.W.methodObj (.ref f) (.ref x))
  | .ext φ => φ h ∧ (∃ o, h.get? a = some o) ∧ ∀ h1 h2 : Heap, φ h1 → (∀ o, h1.get? a = some o → h2.get? a = some o) → φ h2
noncomputable def HOk (H : Hp) (h : Heap) : Prop := ∀ a o, H a = some o → ObjOk P w H h a o
end
section
variable {P : Program} {w : World} {H H' : Hp} {h h' : Heap} {a : Addr} {o : HO}
theorem ObjOk.lt (x : ObjOk P w H h a o) : a < h.objs.size := by
  cases o with
  | lst xs => obtain ⟨_, _, _, _, e⟩ := x; exact Heap.lt_size e
  | tup xs => obtain ⟨_, _, _, p⟩ := x; exact p.lt
  | dK kvs => obtain ⟨_, _, _, _, o, _, _, e, _⟩ := x; exact Heap.lt_size e
  | dT kvs => obtain ⟨_, _, _, _, o, _, _, e, _⟩ := x; exact Heap.lt_size e
  | set S n => obtain ⟨o, _, _, _, e, _⟩ := x; exact Heap.lt_size e
  | ins C dx fs => obtain ⟨_, _, _, e, _⟩ := x; exact Heap.lt_size e
  | own y => obtain ⟨_, e⟩ := x; exact Heap.lt_size e
  | xd fs => obtain ⟨_, ⟨_, _, _, e, _⟩, _⟩ := x; exact Heap.lt_size e
  | rng lo hi => obtain ⟨_, _, _, e⟩ := x; exact Heap.lt_size e
  | frz ob u => obtain ⟨e, _⟩ := x; exact Heap.lt_size e
  | tbl ps => exact Heap.lt_size (show h.get? a = some _ from x)
  | met f y => exact Heap.lt_size (show h.get? a = some _ from x)
  | ext φ => obtain ⟨_, ⟨_, e⟩, _⟩ := x; exact Heap.lt_size e
theorem Paired.mapP {α β : Type} {F G : α → β → Prop} : ∀ {l₁ : List α} {l₂ : List β}, Paired F l₁ l₂ → (∀ a b, F a b → G a b) → Paired G l₁ l₂
  | _, _, .nil, _ => .nil
  | _, _, .cons r t, f => .cons (f _ _ r) (Paired.mapP t f)
theorem ObjOk.stay (x : ObjOk P w H h a o) (k : ∀ b u, (b = a ∨ H b = some (.own a)) → h.get? b = some u → h'.get? b = some u)
    (ho : ∀ b, H b = some (.own a) → H' b = some (.own a)) (ht : ∀ b xs, H b = some (.tup xs) → H' b = some (.tup xs)) : ObjOk P w H' h' a o := by
  induction o with
  | lst xs => obtain ⟨z, its, n, r, e⟩ := x; exact ⟨z, its, n, r, k _ _ (.inl rfl) e⟩
  | tup xs => obtain ⟨z, its, r, ob, e, c⟩ := x; exact ⟨z, its, r, ob, k _ _ (.inl rfl) e, c⟩
  | dK kvs => obtain ⟨z, y, vs, r, ob, es, ep, e, c⟩ := x; exact ⟨z, y, vs, r, ob, es, ep, k _ _ (.inl rfl) e, c⟩
  | dT kvs =>
    obtain ⟨z, y, xs, r, ob, es, ep, e, c⟩ := x
    exact ⟨z, y, xs, Paired.mapP r fun p q z => ⟨z.1, ht _ _ z.2.1, z.2.2⟩, ob, es, ep, k _ _ (.inl rfl) e, c⟩
  | set S n => obtain ⟨ob, es, ep, t, e, c⟩ := x; exact ⟨ob, es, ep, t, k _ _ (.inl rfl) e, c⟩
  | ins C dx fs =>
    obtain ⟨d, z, ne, e, mA, ⟨od, es, ep, e2, c⟩, r⟩ := x
    exact ⟨ho _ d, z, ne, k _ _ (.inl rfl) e, mA, ⟨od, es, ep, k _ _ (.inr d) e2, c⟩, r⟩
  | own y => obtain ⟨ob, e⟩ := x; exact ⟨ob, k _ _ (.inl rfl) e⟩
  | xd fs => obtain ⟨mA, ⟨od, es, ep, e, c⟩, r⟩ := x; exact ⟨mA, ⟨od, es, ep, k _ _ (.inl rfl) e, c⟩, r⟩
  | rng lo hi => obtain ⟨t, u, v, e⟩ := x; exact ⟨t, u, v, k _ _ (.inl rfl) e⟩
  | frz ob u ih => obtain ⟨e, q⟩ := x; exact ⟨k _ _ (.inl rfl) e, ih q⟩
  | tbl ps =>
    have e : h.get? a = some { cls := .none, data := .fields ps } := x
    show h'.get? a = some { cls := .none, data := .fields ps }
    exact k a _ (.inl rfl) e
  | met f y =>
    have e : h.get? a = some (PySem.W.methodObj (.ref f) (.ref y)) := x
    show h'.get? a = some (PySem.W.methodObj (.ref f) (.ref y))
    exact k a _ (.inl rfl) e
  | ext φ => obtain ⟨p, ⟨o, e⟩, st⟩ := x; exact ⟨st _ _ p fun o q => k _ _ (.inl rfl) q, ⟨o, k _ _ (.inl rfl) e⟩, st⟩
theorem HOk.lt (x : HOk P w H h) (e : H a = some o) : a < h.objs.size := (x a o e).lt
theorem HOk.fresh (x : HOk P w H h) (e : h.objs.size ≤ a) : H a = none := by
  cases q : H a with
  | none => rfl
  | some u => exact absurd (Nat.lt_of_lt_of_le (x.lt q) e) (Nat.lt_irrefl _)
theorem HOk.kept (x : HOk P w H h) (k : ∀ b u, h.get? b = some u → h'.get? b = some u) : HOk P w H h' := fun a o e =>
  (x a o e).stay (fun b u _ q => k b u q) (fun _ q => q) fun _ _ q => q
theorem HOk.laid (x : HOk P w H h) (k : ∀ b u, h.get? b = some u → h'.get? b = some u) (hp : h.objs.size ≤ a) (new : ObjOk P w (upd H a o) h' a o) : HOk P w (upd H a o) h' := fun b u e => by
  have hn := x.fresh hp
  by_cases hb : b = a
  · subst hb; rw [qai] at e; cases e; exact new
  · rw [qaC hb] at e
    exact (x b u e).stay (fun c v _ q => k c v q) (fun c q => by rw [qaC (qav q hn)]; exact q) fun c xs q => by rw [qaC (qav q hn)]; exact q
end
noncomputable def Rd (H : Hp) (a : Addr) (u : HO) : Prop := H a = some u ∨ ∃ o, H a = some (.frz o u)
theorem Rd.of {H : Hp} {a : Addr} {u : HO} (h : H a = some u) : Rd H a u := .inl h
theorem Rd.ok {P : Program} {w : World} {H : Hp} {h : Heap} {a : Addr} {u : HO} (r : Rd H a u) (x : HOk P w H h) : ObjOk P w H h a u := by
  rcases r with r | ⟨o, r⟩
  · exact x a u r
  · obtain ⟨_, q⟩ := x a _ r
    exact q
noncomputable def Mut : Option HO → Prop
  | some (.lst _) => True
  | some (.dK _) => True
  | some (.dT _) => True
  | some (.set _ _) => True
  | some (.ins _ _ _) => True
  | some (.ext _) => True
  | _ => False
section
variable {P : Program} {w : World} {H : Hp} {h h' : Heap} {x e : Addr} {o' : HO}
theorem HOk.write (ok : HOk P w H h) (mu : Mut (H x)) (he : e = x ∨ H e = some (.own x)) (k : ∀ b u, b ≠ e → h.get? b = some u → h'.get? b = some u) (heo : ∃ u, h'.get? e = some u)
    (new : ObjOk P w (upd H x o') h' x o') : HOk P w (upd H x o') h' := fun b u q => by
  have nown : ∀ c y, H c = some (.own y) → c ≠ x := fun c y r z => by subst z; rw [r] at mu; exact mu
  have ntup : ∀ c xs, H c = some (.tup xs) → c ≠ x := fun c xs r z => by subst z; rw [r] at mu; exact mu
  by_cases hb : b = x
  · subst hb; rw [qai] at q; cases q; exact new
  · rw [qaC hb] at q
    by_cases hbe : b = e
    · have q' : H b = some (.own x) := by
        rcases he with z | z
        · exact absurd (hbe.trans z) hb
        · rw [hbe]; exact z
      rw [q] at q'; cases q'
      obtain ⟨v, hv⟩ := heo
      exact ⟨v, by rw [hbe]; exact hv⟩
    · refine (ok b u q).stay (fun c v hc r => k c v ?_ r) (fun c r => by rw [qaC (nown c b r)]; exact r) fun c xs r => by rw [qaC (ntup c xs r)]; exact r
      rcases hc with rfl | hc
      · exact hbe
      · rintro rfl
        rcases he with z | z
        · exact nown c b hc z
        · rw [hc] at z; cases z; exact hb rfl
end
structure Un (fs ex : List Addr) (H H' : Hp) (h h' : Heap) : Prop where
  keep : ∀ b o, h.get? b = some o → H b = none → b ∉ fs → b ∉ ex → h'.get? b = some o
  slot : ∀ b o, h.get? b = some o → H b = none → b ∈ fs → b ∉ ex → ∃ sl, h'.get? b = some { o with slots := sl }
  free : ∀ b o, h.get? b = some o → H b = none → b ∉ ex → H' b = none
  there : ∀ b o, h.get? b = some o → b ∉ ex → ∃ o', h'.get? b = some o'
  tups : ∀ b xs, H b = some (.tup xs) → H' b = some (.tup xs)
  frzs : ∀ b o u, H b = some (.frz o u) → H' b = some (.frz o u)
  tbls : ∀ b ps, H b = some (.tbl ps) → ∃ more, H' b = some (.tbl (ps ++ more))
section
variable {fs fs' ex ex' : List Addr} {H H1 H2 : Hp} {h h1 h2 h' : Heap} {a x e : Addr} {o : HO}
theorem Un.any (u : Un fs ex H H1 h h1) {b : Addr} {ob : Obj} (q : h.get? b = some ob) (n : H b = none) (hx : b ∉ ex) : ∃ sl, h1.get? b = some { ob with slots := sl } := by
  by_cases hb : b ∈ fs
  · exact u.slot b ob q n hb hx
  · exact ⟨ob.slots, u.keep b ob q n hb hx⟩
theorem Un.trans (a : Un fs ex H H1 h h1) (b : Un fs ex H1 H2 h1 h2) : Un fs ex H H2 h h2 where
  keep := fun c ob q n hc hx => b.keep c ob (a.keep c ob q n hc hx) (a.free c ob q n hx) hc hx
  slot := fun c ob q n hc hx => by
    obtain ⟨sl, e1⟩ := a.slot c ob q n hc hx
    obtain ⟨sl', e2⟩ := b.slot c _ e1 (a.free c ob q n hx) hc hx
    exact ⟨sl', e2⟩
  free := fun c ob q n hx => by
    obtain ⟨o', e1⟩ := a.there c ob q hx
    exact b.free c o' e1 (a.free c ob q n hx) hx
  there := fun c ob q hx => by
    obtain ⟨o', e1⟩ := a.there c ob q hx
    exact b.there c o' e1 hx
  tups := fun c xs q => b.tups c xs (a.tups c xs q)
  frzs := fun c ob xs q => b.frzs c ob xs (a.frzs c ob xs q)
  tbls := fun c ps q => by
    obtain ⟨m1, e1⟩ := a.tbls c ps q
    obtain ⟨m2, e2⟩ := b.tbls c _ e1
    exact ⟨m1 ++ m2, by rw [e2, Array.append_assoc]⟩
theorem Un.kept (k : ∀ b u, h.get? b = some u → h'.get? b = some u) : Un fs ex H H h h' :=
  ⟨fun b ob q _ _ _ => k b ob q, fun b ob q _ _ _ => ⟨ob.slots, k b ob q⟩, fun _ _ _ n _ => n, fun b ob q _ => ⟨ob, k b ob q⟩, fun _ _ q => q, fun _ _ _ q => q, fun _ ps q => ⟨#[], by rw [q]; simp⟩⟩
theorem Un.refl : Un fs ex H H h h := Un.kept fun _ _ q => q
theorem Un.laid (k : ∀ b u, h.get? b = some u → h'.get? b = some u) (hp : h.objs.size ≤ a) (hn : H a = none) : Un fs ex H (upd H a o) h h' where
  keep := fun b u q _ _ _ => k b u q
  slot := fun b u q _ _ _ => ⟨u.slots, k b u q⟩
  free := fun b u q n _ => by rw [qaC (Nat.ne_of_lt (Nat.lt_of_lt_of_le (Heap.lt_size q) hp))]; exact n
  there := fun b u q _ => ⟨u, k b u q⟩
  tups := fun b xs q => by rw [qaC (qav q hn)]; exact q
  frzs := fun b u xs q => by rw [qaC (qav q hn)]; exact q
  tbls := fun b ps q => ⟨#[], by rw [qaC (qav q hn), q]; simp⟩
theorem Un.write (mu : Mut (H x)) (he : e = x ∨ H e = some (.own x)) (k : ∀ b u, b ≠ e → h.get? b = some u → h'.get? b = some u) (heo : ∃ u, h'.get? e = some u) : Un fs ex H (upd H x o) h h' := by
  have hx : ∀ b, H b = none → b ≠ x := fun b n z => by subst z; rw [n] at mu; exact mu
  have hb : ∀ b, H b = none → b ≠ e := fun b n z => by
    subst z
    rcases he with r | r
    · exact hx b n r
    · rw [n] at r; cases r
  have hm : ∀ b u, H b = some u → ¬ Mut (some u) → b ≠ x := fun b u q nm z => by subst z; rw [q] at mu; exact nm mu
  refine ⟨fun b u q n _ _ => k b u (hb b n) q, fun b u q n _ _ => ⟨u.slots, k b u (hb b n) q⟩, fun b u q n _ => by rw [qaC (hx b n)]; exact n, fun b u q _ => ?_,
    fun b xs q => by rw [qaC (hm b _ q fun z => z)]; exact q, fun b u xs q => by rw [qaC (hm b _ q fun z => z)]; exact q, fun b ps q => ⟨#[], by rw [qaC (hm b _ q fun z => z), q]; simp⟩⟩
  by_cases hbe : b = e
  · subst hbe; exact heo
  · exact ⟨u, k b u hbe q⟩
theorem Un.mono (u : Un fs ex H H1 h h1) (hs : ∀ b ∈ fs, b ∈ fs') (hx : ∀ b ∈ ex, b ∈ ex') : Un fs' ex' H H1 h h1 :=
  ⟨fun b ob q n hb he => u.keep b ob q n (fun z => hb (hs b z)) fun z => he (hx b z), fun _ _ q n _ he => u.any q n fun z => he (hx _ z), fun b ob q n he => u.free b ob q n fun z => he (hx b z), fun b ob q he => u.there b ob q fun z => he (hx b z), u.tups, u.frzs, u.tbls⟩
end
noncomputable def trk (h : Heap) (H : Hp) : List Addr := (List.range h.objs.size).filter fun a => (H a).isSome
noncomputable def qpH (h : Heap) (H : Hp) : Heap := PySem.W.hideAll h (trk h H)
theorem qnw (h : Heap) (H : Hp) : (qpH h H).objs.size = h.objs.size := PySem.W.hideAll_size _ _
theorem qpJ {h : Heap} {H : Hp} {b : Addr} {o : Obj} (e : h.get? b = some o) (n : H b = none) : (qpH h H).get? b = some o :=
  PySem.W.hideAll_get _ e fun hm => by
    have q : (H b).isSome = true := (List.mem_filter.mp hm).2
    rw [n] at q; simp at q
theorem qrg {h : Heap} {H : Hp} {b : Addr} {o : Obj} (e : (qpH h H).get? b = some o) : h.get? b = some o ∧ H b = none := by
  have e' : h.get? b = some o := PySem.W.of_hideAll (trk h H) e
  refine ⟨e', ?_⟩
  cases q : H b with
  | none => rfl
  | some x =>
    have hm : b ∈ trk h H := List.mem_filter.mpr ⟨List.mem_range.mpr (Heap.lt_size e'), by simp [q]⟩
    have z : (qpH h H).get? b = none := PySem.W.hideAll_none (trk h H) hm
    rw [z] at e; cases e
noncomputable def qrh (g h : Heap) (L : Addr) : List (Addr × Obj) := (List.range h.objs.size).filterMap fun a => if a = L ∨ (g.get? a).isSome = true then none else (h.get? a).map fun o => (a, o)
noncomputable def rest (g h : Heap) (L d : Addr) : List (Addr × Obj) := (qrh g h L).filter fun p => decide (p.1 ≠ d)
end L2
namespace L2
open PySem PySem.Spec PyProof.Rows
structure Mod (K : PySem.W.Frag) (mg : Str → Option Value) (base : Heap) : Prop where
  kin : K.In base
  glob : base.Ns mainGlobals mg
  blt : ∃ mb, base.Ns builtinsNs mb ∧ ∀ x : Str, x ≠ "__name__" → mb x = bootBuiltins x
  nolimit : base.NoLimit
structure Cx where
  prog : Program
  w : World
  K : PySem.W.Frag
  mg : Str → Option Value
  base : Heap
  A : Around
  N : List Str
  s₀ : Shared
  H₀ : Hp
  env : Env
  outer : List Env
  stack : List Env
  ex : List Addr
  fn : Str → Bool
  calm : Bool
  pn : List (Addr × Obj)
  xe : Value → Shared → Prop
noncomputable def frs (l : List Env) : List Addr := l.filterMap (·.frame)
noncomputable abbrev Cx.fs (X : Cx) : List Addr := frs X.outer
noncomputable def Vis (sc : Scope) (x : Str) : Prop := sc.names.lookup x = some .local ∨ sc.names.lookup x = some .cell ∨ sc.names.lookup x = some .free
noncomputable def Loc (sc : Scope) (x : Str) : Prop := sc.names.lookup x = some .local ∨ sc.names.lookup x = some .cell
noncomputable def Look (env : Env) (h : Heap) (m : Str → Option Value) (x : Str) (u : Value) : Prop :=
  (env.kindOf x = some .local ∧ m x = some u) ∨ ((env.kindOf x = some .cell ∨ env.kindOf x = some .free) ∧ ∃ c, env.cells.lookup x = some c ∧ h.IsCell c (some u))
structure Cx.Ok (X : Cx) : Prop where
  mod : Mod X.K X.mg X.base
  kind : X.env.scope.kind = .function
  glob : X.env.globals = mainGlobals
  blt : X.env.builtins = builtinsNs
  above : X.s₀.heap.objs.size ≤ X.env.locals
  inj : ∀ x y c, X.env.cells.lookup x = some c → X.env.cells.lookup y = some c → x = y
  has : ∀ x, (X.env.kindOf x = some .cell ∨ X.env.kindOf x = some .free) → ∃ c, X.env.cells.lookup x = some c
  cab : ∀ x c, X.fn x = true → X.env.cells.lookup x = some c → X.s₀.heap.objs.size ≤ c
  hd : X.calm = true → X.A.handled = none
  frames : X.A.frames = some X.stack
  stk : X.stack = X.outer ∨ (X.stack = X.env :: X.outer ∧ X.env.frame = some X.env.locals)
  exf : ∀ b ∈ X.ex, b ≠ X.env.locals ∧ ∀ x c, X.env.cells.lookup x = some c → c ≠ b
  bs : ∀ b o, X.base.get? b = some o → X.s₀.heap.get? b = some o ∧ X.H₀ b = none
  bsz : X.base.objs.size ≤ X.s₀.heap.objs.size
  noex : ∀ b o, X.base.get? b = some o → b ∉ X.ex
  exfs : ∀ b ∈ X.ex, b ∉ X.fs
  funs : X.s₀.heap.FunFrames X.base X.outer
  frf : ∀ b ∈ X.fs, X.H₀ b = none
  seer : X.base.NoSeer
  tree : (model X.prog X.w).prog.given.tree = none
  plr : ∀ s : Shared, (∀ b o, X.base.get? b = some o → s.heap.get? b = some o) → PySem.PylongRoom (model X.prog X.w) X.A s
structure Inv (X : Cx) (pins : List (Addr × Obj)) (σ : List (Option V)) (H : Hp) (s : Shared) : Prop where
  ok : X.Ok
  os : s.os = X.s₀.os
  bare : AllBare s.gens
  base : Un X.fs X.ex X.H₀ H X.s₀.heap s.heap
  loc : ∃ m, s.heap.Ns X.env.locals m ∧ ∀ (i : Nat) (x : Str) (v : V), X.N[i]? = some x → σ[i]? = some (some v) → Vis X.env.scope x → ∃ u, RelV v u ∧ Look X.env s.heap m x u
  cell : ∀ x c, X.env.cells.lookup x = some c → ∃ v, s.heap.IsCell c v
  free : H X.env.locals = none
  freeC : ∀ x c, X.env.cells.lookup x = some c → H c = none
  pin : ∀ p ∈ X.pn ++ pins, s.heap.get? p.1 = some p.2 ∧ H p.1 = none ∧ p.1 ≠ X.env.locals ∧ p.1 ∉ X.fs ∧ ∀ v, p.2.data ≠ .cell v
  hok : HOk X.prog X.w H s.heap
  len : σ.length = X.N.length
section
variable {X : Cx} {pins : List (Addr × Obj)} {σ : List (Option V)} {H H' : Hp} {s : Shared} {h' : Heap}
theorem Cx.Ok.nofr (ok : X.Ok) {b : Addr} {o : Obj} (e : X.base.get? b = some o) : b ∉ X.fs := fun hb => by
  have := (ok.funs.mem hb).1
  rw [e] at this; cases this
theorem Inv.bs (I : Inv X pins σ H s) : ∀ b o, X.base.get? b = some o → s.heap.get? b = some o ∧ H b = none := fun b o e =>
  ⟨I.base.keep b o (I.ok.bs b o e).1 (I.ok.bs b o e).2 (I.ok.nofr e) (I.ok.noex b o e), I.base.free b o (I.ok.bs b o e).1 (I.ok.bs b o e).2 (I.ok.noex b o e)⟩
theorem Inv.bk (I : Inv X pins σ H s) : ∀ b o, X.base.get? b = some o → s.heap.get? b = some o := fun b o e => (I.bs b o e).1
theorem Inv.mod (I : Inv X pins σ H s) : Mod X.K X.mg X.base := I.ok.mod
theorem Inv.kIn (I : Inv X pins σ H s) : X.K.In s.heap := I.ok.mod.kin.keeps I.bk
theorem Inv.nolimit (I : Inv X pins σ H s) : s.heap.NoLimit := I.ok.mod.nolimit.keeps I.bk
theorem Inv.fr (I : Inv X pins σ H s) : ∃ m, Fr X.base X.env.locals s.heap m :=
  let ⟨m, hn, _⟩ := I.loc
  ⟨m, hn, I.bk, Nat.le_trans I.ok.bsz I.ok.above⟩
theorem Inv.lt (I : Inv X pins σ H s) : X.env.locals < s.heap.objs.size := let ⟨_, hn, _⟩ := I.loc; hn.lt
theorem Inv.sz (I : Inv X pins σ H s) : X.s₀.heap.objs.size ≤ s.heap.objs.size := Nat.le_trans I.ok.above (Nat.le_of_lt I.lt)
theorem Inv.nofs (I : Inv X pins σ H s) {a : Addr} (h : s.heap.objs.size ≤ a) : a ∉ X.fs := fun hb => by
  obtain ⟨_, o, ho, _⟩ := I.ok.funs.mem hb
  exact absurd (Nat.lt_of_lt_of_le (Heap.lt_size ho) (Nat.le_trans I.sz h)) (Nat.lt_irrefl _)
theorem Inv.cne (I : Inv X pins σ H s) : ∀ x c, X.env.cells.lookup x = some c → c ≠ X.env.locals := fun x c e z => by
  obtain ⟨v, o, ho, hd⟩ := I.cell x c e
  obtain ⟨m, ⟨o', es, ep, ho', hd', _⟩, _⟩ := I.loc
  rw [z, ho'] at ho; cases ho; rw [hd'] at hd; cases hd
theorem Inv.funs (I : Inv X pins σ H s) : s.heap.FunFrames X.base X.outer := by
  have all : ∀ (l : List Env), (∀ b ∈ frs l, b ∈ X.fs) → X.s₀.heap.FunFrames X.base l → s.heap.FunFrames X.base l := by
    intro l
    induction l with
    | nil => intro _ _; trivial
    | cons env r ih =>
      intro hs hl
      obtain ⟨hk, ⟨L, o, hf, hn, ho, hd⟩, hr⟩ := hl
      have hL : L ∈ X.fs := hs L (by unfold frs; rw [List.filterMap_cons, hf]; exact List.mem_cons_self)
      obtain ⟨sl, e⟩ := I.base.slot L o ho (I.ok.frf L hL) hL fun z => I.ok.exfs L z hL
      exact ⟨hk, ⟨L, _, hf, hn, e, hd⟩, ih (fun b hb => hs b (by unfold frs; rw [List.filterMap_cons, hf]; exact List.mem_cons_of_mem _ hb)) hr⟩
  exact all X.outer (fun _ hb => hb) I.ok.funs
theorem Inv.stack (I : Inv X pins σ H s) : s.heap.FunFrames X.base X.stack := by
  rcases I.ok.stk with e | ⟨e, hf⟩
  · rw [e]; exact I.funs
  · rw [e]
    obtain ⟨m, hn, _⟩ := I.loc
    refine .cons (by rw [I.ok.kind]; decide) hf hn ?_ I.funs
    exact Heap.get?_none_of_le (Nat.le_trans I.ok.bsz I.ok.above)
theorem Inv.stkSub (I : Inv X pins σ H s) : ∀ b ∈ frs X.stack, b ∈ X.env.locals :: X.fs := fun b hb => by
  rcases I.ok.stk with e | ⟨e, hf⟩
  · rw [e] at hb; exact List.mem_cons_of_mem _ hb
  · rw [e] at hb
    unfold frs at hb
    rw [List.filterMap_cons, hf] at hb
    exact hb
theorem Inv.stkFree (I : Inv X pins σ H s) : ∀ b ∈ frs X.stack, H b = none := fun b hb => by
  rcases List.mem_cons.mp (I.stkSub b hb) with e | hb
  · rw [e]; exact I.free
  · obtain ⟨_, o, ho, _⟩ := I.ok.funs.mem hb
    exact I.base.free b o ho (I.ok.frf b hb) fun z => I.ok.exfs b z hb
theorem Inv.step {g' : Array GenState} {t' : Nat} {d' : Drawn} {ch : List Addr} (I : Inv X pins σ H s)
    (hch : ∀ b ∈ ch, (b ∈ X.ex ∨ X.s₀.heap.objs.size ≤ b) ∧ b ≠ X.env.locals ∧ (∀ x c, X.env.cells.lookup x = some c → c ≠ b) ∧ ∀ p ∈ X.pn ++ pins, p.1 ≠ b)
    (keep : ∀ b o, b ≠ X.env.locals → b ∉ X.fs → b ∉ ch → s.heap.get? b = some o → H b = none → h'.get? b = some o)
    (slot : ∀ b o, b ≠ X.env.locals → b ∈ X.fs → b ∉ ch → s.heap.get? b = some o → H b = none → ∃ sl, h'.get? b = some { o with slots := sl }) (free : ∀ b o, b ∉ ch → s.heap.get? b = some o → H b = none → H' b = none)
    (there : ∀ b o, b ∉ ch → s.heap.get? b = some o → ∃ o', h'.get? b = some o')
    (tups : ∀ b xs, H b = some (.tup xs) → H' b = some (.tup xs)) (frzs : ∀ b o u, H b = some (.frz o u) → H' b = some (.frz o u)) (tbls : ∀ b ps, H b = some (.tbl ps) → ∃ more, H' b = some (.tbl (ps ++ more)))
    (ns : ∀ m, s.heap.Ns X.env.locals m → h'.Ns X.env.locals m) (hok : HOk X.prog X.w H' h') (hg : AllBare g') :
    Inv X pins σ H' { s with heap := h', gens := g', drawn := d', toks := t' } := by
  have neL : ∀ b o, X.s₀.heap.get? b = some o → b ≠ X.env.locals := fun b o e => Nat.ne_of_lt (Nat.lt_of_lt_of_le (Heap.lt_size e) I.ok.above)
  have neC : ∀ b o, X.s₀.heap.get? b = some o → b ∉ X.ex → b ∉ ch := fun b o e hx hb => by
    rcases (hch b hb).1 with z | z
    · exact hx z
    · exact absurd (Nat.lt_of_lt_of_le (Heap.lt_size e) z) (Nat.lt_irrefl _)
  have cellK : ∀ x c, X.env.cells.lookup x = some c → ∀ v, s.heap.IsCell c v → h'.IsCell c v := fun x c e v ⟨o, ho, hd⟩ => by
    have nch : c ∉ ch := fun z => (hch c z).2.2.1 x c e rfl
    by_cases hc : c ∈ X.fs
    · obtain ⟨sl, q⟩ := slot c o (I.cne x c e) hc nch ho (I.freeC x c e)
      exact ⟨_, q, hd⟩
    · exact ⟨o, keep c o (I.cne x c e) hc nch ho (I.freeC x c e), hd⟩
  refine ⟨I.ok, I.os, hg, ⟨fun b o e n hb hx => ?_, fun b o e n hb hx => ?_, fun b o e n hx => ?_, fun b o e hx => ?_, fun b xs e => tups b xs (I.base.tups b xs e), fun b o xs e => frzs b o xs (I.base.frzs b o xs e), fun b ps e => ?_⟩, ?_, fun x c e => ?_, ?_, fun x c e => ?_, fun p hp => ?_, hok, I.len⟩
  · exact keep b o (neL b o e) hb (neC b o e hx) (I.base.keep b o e n hb hx) (I.base.free b o e n hx)
  · obtain ⟨sl, e1⟩ := I.base.slot b o e n hb hx
    obtain ⟨sl', e2⟩ := slot b _ (neL b o e) hb (neC b o e hx) e1 (I.base.free b o e n hx)
    exact ⟨sl', e2⟩
  · obtain ⟨o', e1⟩ := I.base.there b o e hx
    exact free b o' (neC b o e hx) e1 (I.base.free b o e n hx)
  · obtain ⟨o', e1⟩ := I.base.there b o e hx
    exact there b o' (neC b o e hx) e1
  · obtain ⟨m1, e1⟩ := I.base.tbls b ps e
    obtain ⟨m2, e2⟩ := tbls b _ e1
    exact ⟨m1 ++ m2, by rw [e2, Array.append_assoc]⟩
  · obtain ⟨m, hn, hl⟩ := I.loc
    refine ⟨m, ns m hn, fun i x v e1 e2 e3 => ?_⟩
    obtain ⟨u, r, l⟩ := hl i x v e1 e2 e3
    refine ⟨u, r, ?_⟩
    rcases l with l | ⟨k, c, e, z⟩
    · exact .inl l
    · exact .inr ⟨k, c, e, cellK x c e _ z⟩
  · obtain ⟨v, z⟩ := I.cell x c e
    exact ⟨v, cellK x c e v z⟩
  · obtain ⟨m, ⟨o, _, _, ho, _⟩, _⟩ := I.loc
    exact free _ o (fun z => (hch _ z).2.1 rfl) ho I.free
  · obtain ⟨v, o, ho, hd⟩ := I.cell x c e
    exact free c o (fun z => (hch c z).2.2.1 x c e rfl) ho (I.freeC x c e)
  · obtain ⟨e, n, ne, nf, d⟩ := I.pin p hp
    have nch : p.1 ∉ ch := fun z => (hch p.1 z).2.2.2 p hp rfl
    exact ⟨keep p.1 p.2 ne nf nch e n, free p.1 p.2 nch e n, ne, nf, d⟩
theorem Inv.un {t' : Nat} (I : Inv X pins σ H s) (u : Un X.fs [] H H' s.heap h') (hok : HOk X.prog X.w H' h') : Inv X pins σ H' { s with heap := h', toks := t' } := by
  obtain ⟨m, ⟨o, es, ep, ho, r⟩, _⟩ := id I.loc
  obtain ⟨sl, hL⟩ := u.any ho I.free (by simp)
  exact I.step (g' := s.gens) (d' := s.drawn) (ch := []) (fun _ z => nomatch z) (fun b o _ hb _ e n => u.keep b o e n hb (by simp)) (fun b o _ hb _ e n => u.slot b o e n hb (by simp)) (fun b o _ e n => u.free b o e n (by simp)) (fun b o _ e => u.there b o e (by simp)) u.tups u.frzs u.tbls (fun m' hm => by
    obtain ⟨o', es', ep', ho', r'⟩ := hm
    rw [ho] at ho'; cases ho'
    exact ⟨_, es', ep', hL, r'⟩) hok I.bare
theorem Inv.call {g' : Array GenState} {t' : Nat} {d' : Drawn} {ch : List Addr} (I : Inv X pins σ H s) (u : Un (frs X.stack) ch H H' s.heap h') (hok : HOk X.prog X.w H' h') (hg : AllBare g')
    (hch : ∀ b ∈ ch, (b ∈ X.ex ∨ X.s₀.heap.objs.size ≤ b) ∧ b ≠ X.env.locals ∧ (∀ x c, X.env.cells.lookup x = some c → c ≠ b) ∧ ∀ p ∈ X.pn ++ pins, p.1 ≠ b) :
    Inv X pins σ H' { s with heap := h', gens := g', drawn := d', toks := t' } := by
  obtain ⟨m, ⟨o, es, ep, ho, r⟩, _⟩ := id I.loc
  obtain ⟨sl, hL⟩ := u.any ho I.free fun z => (hch _ z).2.1 rfl
  exact I.step (ch := ch) hch (fun b o hL hb hc e n => u.keep b o e n (fun z => (List.mem_cons.mp (I.stkSub b z)).elim hL hb) hc) (fun b o _ _ hc e n => u.any e n hc) (fun b o hc e n => u.free b o e n hc) (fun b o hc e => u.there b o e hc) u.tups u.frzs u.tbls (fun m' hm => by
    obtain ⟨o', es', ep', ho', r'⟩ := hm
    rw [ho] at ho'; cases ho'
    exact ⟨_, es', ep', hL, r'⟩) hok hg
theorem Inv.turned {t' : Nat} {it : Addr} (I : Inv X pins σ H s) (k : ∀ b o, b ≠ it → s.heap.get? b = some o → h'.get? b = some o) (hn : H it = none) (hL : it ≠ X.env.locals)
    (h1 : it ∈ X.ex ∨ X.s₀.heap.objs.size ≤ it) (h2 : ∀ x c, X.env.cells.lookup x = some c → c ≠ it) (h3 : ∀ p ∈ X.pn ++ pins, p.1 ≠ it) : Inv X pins σ H { s with heap := h', toks := t' } := by
  have nit : ∀ b u, H b = some u → b ≠ it := fun b u e z => by rw [z, hn] at e; cases e
  refine I.step (g' := s.gens) (d' := s.drawn) (ch := [it]) (fun b hb => ?_) (fun b o _ _ hc e _ => k b o (fun z => hc (by simp [z])) e) (fun b o _ _ hc e _ => ⟨o.slots, k b o (fun z => hc (by simp [z])) e⟩) (fun _ _ _ _ n => n)
    (fun b o hc e => ⟨o, k b o (fun z => hc (by simp [z])) e⟩) (fun _ _ e => e) (fun _ _ _ e => e) (fun b ps e => ⟨#[], by rw [e]; simp⟩) (fun m hm => ?_) (fun b u e => ?_) I.bare
  · have e : b = it := by simpa using hb
    subst e
    exact ⟨h1, hL, h2, h3⟩
  · obtain ⟨o, es, ep, ho, r⟩ := hm
    exact ⟨o, es, ep, k _ o (Ne.symm hL) ho, r⟩
  · refine (I.hok b u e).stay (fun c v hc q => k c v ?_ q) (fun _ q => q) fun _ _ q => q
    rcases hc with z | z
    · rw [z]; exact nit b u e
    · exact nit c _ z
theorem Inv.tok (I : Inv X pins σ H s) (t : Nat) : Inv X pins σ H { s with toks := t } := I.un (h' := s.heap) (t' := t) Un.refl I.hok
theorem Inv.kept {t' : Nat} (I : Inv X pins σ H s) (k : ∀ b u, s.heap.get? b = some u → h'.get? b = some u) : Inv X pins σ H { s with heap := h', toks := t' } := I.un (Un.kept k) (I.hok.kept k)
theorem Inv.laid {a : Addr} {o : HO} {t' : Nat} (I : Inv X pins σ H s) (k : ∀ b u, s.heap.get? b = some u → h'.get? b = some u) (hp : s.heap.objs.size ≤ a) (new : ObjOk X.prog X.w (upd H a o) h' a o) :
    Inv X pins σ (upd H a o) { s with heap := h', toks := t' } := I.un (Un.laid k hp (I.hok.fresh hp)) (I.hok.laid k hp new)
theorem Inv.write {x e : Addr} {o : HO} {t' : Nat} (I : Inv X pins σ H s) (mu : Mut (H x)) (he : e = x ∨ H e = some (.own x)) (k : ∀ b u, b ≠ e → s.heap.get? b = some u → h'.get? b = some u) (heo : ∃ u, h'.get? e = some u)
    (new : ObjOk X.prog X.w (upd H x o) h' x o) : Inv X pins σ (upd H x o) { s with heap := h', toks := t' } := I.un (Un.write mu he k heo) (I.hok.write mu he k heo new)
theorem Inv.pins_of {pins' : List (Addr × Obj)} (I : Inv X pins σ H s) (h : ∀ p ∈ pins', s.heap.get? p.1 = some p.2 ∧ H p.1 = none ∧ p.1 ≠ X.env.locals ∧ p.1 ∉ X.fs ∧ ∀ v, p.2.data ≠ .cell v) : Inv X pins' σ H s :=
  ⟨I.ok, I.os, I.bare, I.base, I.loc, I.cell, I.free, I.freeC, fun p hp => (List.mem_append.mp hp).elim (fun z => I.pin p (List.mem_append_left _ z)) (h p), I.hok, I.len⟩
theorem qlS {N : List Str} (hN : N.Nodup) {i j : Nat} {x : Str} (a : N[i]? = some x) (b : N[j]? = some x) : i = j := by
  obtain ⟨h1, e1⟩ := List.getElem?_eq_some_iff.mp a
  obtain ⟨h2, e2⟩ := List.getElem?_eq_some_iff.mp b
  exact (List.getElem_inj hN).mp (e1.trans e2.symm)
theorem qjS {M : Model} {A : Around} {E : Value → Shared → Prop} {i : Nat} {x : Str} {v : V} {u : Value} {Q : Unit → Shared → Prop} (I : Inv X pins σ H s) (hN : X.N.Nodup) (hi : X.N[i]? = some x) (hx : Loc X.env.scope x) (r : RelV v u)
    (h : ∀ s', Inv X pins (σ.set i (some v)) H s' → (∃ a, Heap.SameBut a s.heap s'.heap ∧ (a = X.env.locals ∨ X.env.cells.lookup x = some a)) → Q () s') (hf : X.fn x = true ∨ X.env.scope.names.lookup x = some .local := by first | exact .inl rfl | exact .inr rfl | assumption) : wpAny M A (storeName X.env x u) Q E s := by
  obtain ⟨m, hn, hl⟩ := id I.loc
  have hcls : (X.env.scope.kind == .class || (X.env.scope.kind == .module && X.env.locals != X.env.globals)) = false := by rw [I.ok.kind]; rfl
  have hiσ : i < σ.length := by rw [I.len]; exact (List.getElem?_eq_some_iff.mp hi).1
  have cne := I.cne
  have tracked : ∀ {a : Addr} {h' : Heap}, (∃ o, s.heap.get? a = some o ∧ H a = none) → Heap.SameBut a s.heap h' → HOk X.prog X.w H h' := fun {a h'} ha hs b ob e => by
    obtain ⟨_, _, hfree⟩ := ha
    refine (I.hok b ob e).stay (fun c w' hc q => (hs.2 c ?_).trans q) (fun _ q => q) fun _ _ q => q
    rintro rfl
    rcases hc with rfl | hc
    · rw [hfree] at e; cases e
    · rw [hfree] at hc; cases hc
  rcases hx with hk | hk
  · refine wpAny_storeName_local hk hn (fun h' hn' hs => ?_) hcls
    obtain ⟨oL, _, _, hoL, _⟩ := id hn
    refine h _ ⟨I.ok, I.os, I.bare, ⟨fun b o e n hb hx => ?_, fun b o e n hb hx => ?_, I.base.free, fun b o e hx => ?_, I.base.tups, I.base.frzs, I.base.tbls⟩, ⟨_, hn', fun j y v' e1 e2 e3 => ?_⟩, fun y c e => ?_, I.free, I.freeC, fun p hp => ?_, tracked ⟨oL, hoL, I.free⟩ hs, by simpa using I.len⟩ ⟨_, hs, .inl rfl⟩
    · exact (hs.2 b (Nat.ne_of_lt (Nat.lt_of_lt_of_le (Heap.lt_size e) I.ok.above))).trans (I.base.keep b o e n hb hx)
    · obtain ⟨sl, e1⟩ := I.base.slot b o e n hb hx
      exact ⟨sl, (hs.2 b (Nat.ne_of_lt (Nat.lt_of_lt_of_le (Heap.lt_size e) I.ok.above))).trans e1⟩
    · obtain ⟨o', e1⟩ := I.base.there b o e hx
      exact ⟨o', (hs.2 b (Nat.ne_of_lt (Nat.lt_of_lt_of_le (Heap.lt_size e) I.ok.above))).trans e1⟩
    · by_cases hj : j = i
      · subst hj
        rw [hi] at e1; cases e1
        rw [List.getElem?_set_self hiσ] at e2
        cases e2
        exact ⟨u, r, .inl ⟨hk, by simp⟩⟩
      · rw [List.getElem?_set_ne (Ne.symm hj)] at e2
        obtain ⟨u', r', q⟩ := hl j y v' e1 e2 e3
        refine ⟨u', r', ?_⟩
        rcases q with ⟨k, e⟩ | ⟨k, c, e, z⟩
        · refine .inl ⟨k, ?_⟩
          have : y ≠ x := fun e => hj (qlS hN e1 (e ▸ hi))
          simp [this, e]
        · exact .inr ⟨k, c, e, z.sameBut hs (cne y c e)⟩
    · obtain ⟨w', z⟩ := I.cell y c e
      exact ⟨w', z.sameBut hs (cne y c e)⟩
    · obtain ⟨e, n, ne, nf, d⟩ := I.pin p hp
      exact ⟨(hs.2 p.1 ne).trans e, n, ne, nf, d⟩
  · have hfn : X.fn x = true := by
      rcases hf with z | z
      · exact z
      · rw [z] at hk; cases hk
    obtain ⟨c, hc⟩ := I.ok.has x (.inl hk)
    obtain ⟨w', z⟩ := I.cell x c hc
    refine wpAny_storeName_cell I.ok.kind hk hc z (fun h' hc' hs => ?_)
    obtain ⟨oc, hoc, hocd⟩ := id z
    refine h { s with heap := h' } ⟨I.ok, I.os, I.bare, ⟨fun b o e n hb hx => ?_, fun b o e n hb hx => ?_, I.base.free, fun b o e hx => ?_, I.base.tups, I.base.frzs, I.base.tbls⟩, ⟨m, hn.sameBut hs (Ne.symm (cne x c hc)), fun j y v' e1 e2 e3 => ?_⟩, fun y c' e => ?_, I.free, I.freeC, fun p hp => ?_, tracked ⟨oc, hoc, I.freeC x c hc⟩ hs, by simpa using I.len⟩ ⟨c, hs, .inr hc⟩
    · exact (hs.2 b (Nat.ne_of_lt (Nat.lt_of_lt_of_le (Heap.lt_size e) (I.ok.cab x c hfn hc)))).trans (I.base.keep b o e n hb hx)
    · obtain ⟨sl, e1⟩ := I.base.slot b o e n hb hx
      exact ⟨sl, (hs.2 b (Nat.ne_of_lt (Nat.lt_of_lt_of_le (Heap.lt_size e) (I.ok.cab x c hfn hc)))).trans e1⟩
    · obtain ⟨o', e1⟩ := I.base.there b o e hx
      exact ⟨o', (hs.2 b (Nat.ne_of_lt (Nat.lt_of_lt_of_le (Heap.lt_size e) (I.ok.cab x c hfn hc)))).trans e1⟩
    · by_cases hj : j = i
      · subst hj
        rw [hi] at e1; cases e1
        rw [List.getElem?_set_self hiσ] at e2
        cases e2
        exact ⟨u, r, .inr ⟨.inl hk, c, hc, hc'⟩⟩
      · rw [List.getElem?_set_ne (Ne.symm hj)] at e2
        obtain ⟨u', r', q⟩ := hl j y v' e1 e2 e3
        refine ⟨u', r', ?_⟩
        rcases q with q | ⟨k, c', e, z'⟩
        · exact .inl q
        · refine .inr ⟨k, c', e, z'.sameBut hs ?_⟩
          rintro rfl
          exact hj (qlS hN e1 (I.ok.inj _ _ _ e hc ▸ hi))
    · by_cases hcc : c' = c
      · subst hcc; exact ⟨_, hc'⟩
      · obtain ⟨w2, z2⟩ := I.cell y c' e
        exact ⟨w2, z2.sameBut hs hcc⟩
    · obtain ⟨e, n, ne, nf, d⟩ := I.pin p hp
      refine ⟨(hs.2 p.1 ?_).trans e, n, ne, nf, d⟩
      intro q
      rw [q, hoc] at e
      have q' : oc = p.2 := Option.some.inj e
      exact d w' (by rw [← q']; exact hocd)
theorem qfe {M : Model} {A : Around} {E : Value → Shared → Prop} {i : Nat} {x : Str} {v : V} {u : Value} {Q : Unit → Shared → Prop} (I : Inv X pins σ H s) (hN : X.N.Nodup) (hi : X.N[i]? = some x) (hx : Loc X.env.scope x) (r : RelV v u)
    (h : ∀ s', Inv X pins (σ.set i (some v)) H s' → Q () s') (hf : X.fn x = true ∨ X.env.scope.names.lookup x = some .local := by first | exact .inl rfl | exact .inr rfl | assumption) : wpAny M A (storeName X.env x u) Q E s :=
  qjS I hN hi hx r (fun s' I' _ => h s' I') hf
theorem Inv.call' {s' : Shared} {ch : List Addr} (I : Inv X pins σ H s) (ho : s'.os = s.os) (u : Un (frs X.stack) ch H H' s.heap s'.heap) (hok : HOk X.prog X.w H' s'.heap) (hg : AllBare s'.gens)
    (hch : ∀ b ∈ ch, (b ∈ X.ex ∨ X.s₀.heap.objs.size ≤ b) ∧ b ≠ X.env.locals ∧ (∀ x c, X.env.cells.lookup x = some c → c ≠ b) ∧ ∀ p ∈ X.pn ++ pins, p.1 ≠ b) : Inv X pins σ H' s' := by
  obtain ⟨h', g', d', t', o'⟩ := s'
  have e : o' = s.os := ho
  subst e
  exact I.call (g' := g') (t' := t') (d' := d') u hok hg hch
end
noncomputable abbrev XK := Value → Option Addr → Hp → Prop
noncomputable abbrev St := List (Option V)
noncomputable abbrev VK := V → Hp → Prop
noncomputable abbrev TE := St → Hp → VK → Prop
noncomputable abbrev TT := St → Hp → (Bool → Hp → Prop) → Prop
noncomputable abbrev TA := St → Hp → (List V → Hp → Prop) → Prop
structure Ends where
  nx : St → Hp → Prop
  rt : VK
  bk : St → Hp → Prop := fun _ _ => False
  ct : St → Hp → Prop := fun _ _ => False
noncomputable abbrev TS := Ends → St → Hp → Prop
noncomputable def EP (X : Cx) (pins : List (Addr × Obj)) (σ : St) (Q : VK) (u : Value) (s' : Shared) : Prop := ∃ v H', Inv X pins σ H' s' ∧ RelV v u ∧ Q v H'
noncomputable def TP (X : Cx) (pins : List (Addr × Obj)) (σ : St) (Q : Bool → Hp → Prop) (b : Bool) (s' : Shared) : Prop := ∃ H', Inv X pins σ H' s' ∧ Q b H'
noncomputable def AP (X : Cx) (pins : List (Addr × Obj)) (σ : St) (Q : List V → Hp → Prop) (us : List Value) (s' : Shared) : Prop := ∃ vs H', Inv X pins σ H' s' ∧ Vals vs us ∧ Q vs H'
noncomputable def SP (X : Cx) (pins : List (Addr × Obj)) (D : Ends) (f : Flow) (s' : Shared) : Prop :=
  match f with
  | .next => ∃ σ' H', Inv X pins σ' H' s' ∧ D.nx σ' H'
  | .brk => ∃ σ' H', Inv X pins σ' H' s' ∧ D.bk σ' H'
  | .cont => ∃ σ' H', Inv X pins σ' H' s' ∧ D.ct σ' H'
  | .ret u => ∃ v σ' H', Inv X pins σ' H' s' ∧ RelV v u ∧ D.rt v H'
noncomputable def PE (X : Cx) (e : Expr) (t : TE) : Prop :=
  ∀ (pins : List (Addr × Obj)) (s : Shared) (σ : St) (H : Hp) (Q : VK), Inv X pins σ H s → t σ H Q → wpAny (model X.prog X.w) X.A (eval e X.env) (EP X pins σ Q) X.xe s
noncomputable def PT (X : Cx) (e : Expr) (t : TT) : Prop :=
  ∀ (pins : List (Addr × Obj)) (s : Shared) (σ : St) (H : Hp) (Q : Bool → Hp → Prop), Inv X pins σ H s → t σ H Q → wpAny (model X.prog X.w) X.A (isTrue e X.env (eval e X.env)) (TP X pins σ Q) X.xe s
noncomputable def PW (X : Cx) (e : Expr) (t : TT) : Prop :=
  ∀ (whole : Sem Value) (pins : List (Addr × Obj)) (s : Shared) (σ : St) (H : Hp) (Q : Bool → Hp → Prop), Inv X pins σ H s → t σ H Q → wpAny (model X.prog X.w) X.A (isTrue e X.env whole) (TP X pins σ Q) X.xe s
theorem PW.pt {X : Cx} {e : Expr} {t : TT} (h : PW X e t) : PT X e t := h _
noncomputable def PA (X : Cx) (es : List Expr) (t : TA) : Prop :=
  ∀ (pos : Pos) (pins : List (Addr × Obj)) (s : Shared) (σ : St) (H : Hp) (Q : List V → Hp → Prop), Inv X pins σ H s → t σ H Q → wpAny (model X.prog X.w) X.A (spliced (backTo pos (starEach es X.env))) (AP X pins σ Q) X.xe s
noncomputable def PS (X : Cx) (st : Stmt) (t : TS) : Prop :=
  ∀ (pins : List (Addr × Obj)) (s : Shared) (σ : St) (H : Hp) (D : Ends), Inv X pins σ H s → t D σ H → wpAny (model X.prog X.w) X.A (exec st X.env) (SP X pins D) X.xe s
noncomputable def PSs (X : Cx) (st : List Stmt) (t : TS) : Prop :=
  ∀ (pins : List (Addr × Obj)) (s : Shared) (σ : St) (H : Hp) (D : Ends), Inv X pins σ H s → t D σ H → wpAny (model X.prog X.w) X.A (execs st X.env) (SP X pins D) X.xe s
theorem thn {α : Type} {t : Sem α} {Q Q' : α → Shared → Prop} {M : Model} {A : Around} {E : Value → Shared → Prop} {s : Shared} (h : wpAny M A t Q E s) (hQ : ∀ a s, Q a s → Q' a s) : wpAny M A t Q' E s := wpAny_mono h hQ fun _ _ x => x
end L2
namespace L2
open PySem PySem.Spec PyProof.Rows
section
variable {X : Cx}
noncomputable def qaf (i : Nat) : TE := fun σ H Q => ∃ v, σ[i]? = some (some v) ∧ Q v H
noncomputable def tC (v : V) : TE := fun _ H Q => Q v H
theorem qsC {i : Nat} {x : Str} {pos : Pos} (hN : X.N[i]? = some x) (hv : Vis X.env.scope x) (hd : (x == ("__debug__" : Str)) = false := by decide) (hcd : (x == ("__classdict__" : Str)) = false := by decide) : PE X (.Name x pos) (qaf i) := by
  intro pins s σ H Q I h
  obtain ⟨v, e, h⟩ := h
  obtain ⟨m, hn, hl⟩ := I.loc
  obtain ⟨u, r, l⟩ := hl i x v hN e hv
  have fin : EP X pins σ Q u s := ⟨v, H, I, r, h⟩
  rcases l with ⟨hk, hm⟩ | ⟨hk, c, hc, hcell⟩
  · exact wpAny_Name (wpAny_loadName_local I.ok.kind hk hn hm fin) hd
  · rcases hk with hk | hk
    · exact wpAny_Name (wpAny_loadName_cell I.ok.kind hk hc hcell fin) hd
    · exact wpAny_Name (wpAny_loadName_free I.ok.kind hk hc hcell fin hcd) hd
theorem qae {i j pos} : PE X (.Constant (.int i) j pos) (tC (.int i)) := fun _ _ _ H _ I h => wpAny_Constant_int ⟨.int i, H, I.tok _, ⟨_, rfl⟩, h⟩
theorem qsD {b j pos} : PE X (.Constant (.bool b) j pos) (tC (.bl b)) := fun _ _ _ H _ I h => Constant_bool ⟨.bl b, H, I, rfl, h⟩
theorem qgU {j pos} : PE X (.Constant .none j pos) (tC .non) := fun _ _ _ H _ I h => Constant_none ⟨.non, H, I, rfl, h⟩
theorem qaQ {x j pos} : PE X (.Constant (.str x) j pos) (tC (.str x)) := fun _ _ _ H _ I h => Calls.Constant_str ⟨.str x, H, I.tok _, ⟨_, rfl⟩, h⟩
noncomputable def Gl (X : Cx) (x : Str) : Prop := X.env.kindOf x = some .globalImplicit
theorem qnx {E : Value → Shared → Prop} {pins : List (Addr × Obj)} {s : Shared} {σ : St} {H : Hp} {x : Str} {u : Value} {pos : Pos} {Q : Value → Shared → Prop} (I : Inv X pins σ H s) (hg : Gl X x) (hm : X.mg x = some u) (h : Q u s)
    (hd : (x == ("__debug__" : Str)) = false := by decide) : wpAny (model X.prog X.w) X.A (eval (.Name x pos) X.env) Q E s :=
  Calls.Name_function_global I.ok.kind hg (Calls.loadGlobal_global (by rw [I.ok.glob]; exact I.mod.glob.keeps I.bk) hm h) hd
theorem qd7 {E : Value → Shared → Prop} {pins : List (Addr × Obj)} {s : Shared} {σ : St} {H : Hp} {x : Str} {u : Value} {pos : Pos} {Q : Value → Shared → Prop} (I : Inv X pins σ H s) (hg : Gl X x) (hm : X.mg x = none) (hv : bootBuiltins x = some u) (h : Q u s)
    (hn : x ≠ "__name__" := by decide) (hd : (x == ("__debug__" : Str)) = false := by decide) : wpAny (model X.prog X.w) X.A (eval (.Name x pos) X.env) Q E s := by
  obtain ⟨mb, h1, h2⟩ := I.mod.blt
  exact Calls.Name_function_global I.ok.kind hg (Calls.loadGlobal_builtin (by rw [I.ok.glob]; exact I.mod.glob.keeps I.bk) hm (by rw [I.ok.blt]; exact h1.keeps I.bk) ((h2 x hn).trans hv) h) hd
theorem qny {x : Str} {v : V} {u : Value} {pos : Pos} (hg : Gl X x) (hm : X.mg x = some u) (r : RelV v u) (hd : (x == ("__debug__" : Str)) = false := by decide) : PE X (.Name x pos) (tC v) :=
  fun _ _ _ H _ I h => qnx I hg hm ⟨v, H, I, r, h⟩ hd
theorem qri {x : Str} {v : V} {u : Value} {pos : Pos} (hg : Gl X x) (hm : X.mg x = none) (hv : bootBuiltins x = some u) (r : RelV v u) (hn : x ≠ "__name__" := by decide) (hd : (x == ("__debug__" : Str)) = false := by decide) : PE X (.Name x pos) (tC v) :=
  fun _ _ _ H _ I h => qd7 I hg hm hv ⟨v, H, I, r, h⟩ hn hd
variable {a b : Expr} {ta tb : TE} {pos : Pos}
noncomputable def tB (t : TE) : TT := fun σ H Q => t σ H fun x H1 => ∃ c, x = .bl c ∧ Q c H1
theorem qlT {e : Expr} {t : TE} (h : PE X e t) (he : ∀ whole, isTrue e X.env whole = (do let v ← whole; standAt e.pos; holding [v] (truthy v)) := by intro _; rfl) : PT X e (tB t) := by
  intro pins s σ H Q I hw
  refine isTrue_plain (thn (h pins s σ H _ I hw) fun v s1 ⟨x, H1, I1, r1, q1⟩ => ?_) (he _)
  obtain ⟨d, rfl, q⟩ := q1
  cases r1
  exact wpAny_truthy_bool ⟨H1, I1, q⟩
variable {tA tB' : TT} {rest : List Expr}
noncomputable def qnz (t u : TT) : TT := fun σ H Q => t σ H fun c H1 => if c = true then u σ H1 Q else Q false H1
noncomputable def tOr (t u : TT) : TT := fun σ H Q => t σ H fun c H1 => if c = true then Q true H1 else u σ H1 Q
noncomputable def qsE (t : TT) : TT := fun σ H Q => t σ H fun c H1 => Q (!c) H1
theorem qd8 (ha : PT X a tA) : PW X (.BoolOp .And [a] pos) tA := by
  intro wh pins s σ H Q I h
  refine isTrue_and (thn (ha pins s σ H Q I h) fun c s1 e => ?_)
  cases c with
  | true => exact isTrue_and_nil e
  | false => exact e
theorem qnA (ha : PT X a tA) : PW X (.BoolOp .Or [a] pos) tA := by
  intro wh pins s σ H Q I h
  refine isTrue_or (thn (ha pins s σ H Q I h) fun c s1 e => ?_)
  cases c with
  | false => exact isTrue_or_nil e
  | true => exact e
theorem qgm (ha : PT X a tA) (hb : PW X (.BoolOp .And (b :: rest) pos) tB') : PW X (.BoolOp .And (a :: b :: rest) pos) (qnz tA tB') := by
  intro wh pins s σ H Q I h
  refine isTrue_and (thn (ha pins s σ H _ I h) fun c s1 ⟨H1, I1, q1⟩ => ?_)
  cases c with
  | true => exact hb wh pins s1 σ H1 Q I1 q1
  | false => exact ⟨H1, I1, q1⟩
theorem qpK (ha : PT X a tA) (hb : PW X (.BoolOp .Or (b :: rest) pos) tB') : PW X (.BoolOp .Or (a :: b :: rest) pos) (tOr tA tB') := by
  intro wh pins s σ H Q I h
  refine isTrue_or (thn (ha pins s σ H _ I h) fun c s1 ⟨H1, I1, q1⟩ => ?_)
  cases c with
  | true => exact ⟨H1, I1, q1⟩
  | false => exact hb wh pins s1 σ H1 Q I1 q1
theorem qqH (ha : PT X a tA) : PT X (.UnaryOp .Not a pos) (qsE tA) := by
  intro pins s σ H Q I h
  exact isTrue_not (ha pins s σ H (fun c H1 => Q (!c) H1) I h)
noncomputable def qpL (ta tb : TE) : TE := fun σ H Q => ta σ H fun x H1 => ∃ c, x = .bl c ∧ if c = true then tb σ H1 Q else Q (.bl false) H1
noncomputable def qug (ta tb : TE) : TE := fun σ H Q => ta σ H fun x H1 => ∃ c, x = .bl c ∧ if c = true then Q (.bl true) H1 else tb σ H1 Q
noncomputable def qsF (ta : TE) : TE := fun σ H Q => ta σ H fun x H1 => ∃ c, x = .bl c ∧ Q (.bl (!c)) H1
theorem qsG {op} {t : TE} (h : PE X a t) : PE X (.BoolOp op [a] pos) t := fun pins s σ H Q I hw => BoolOp_one (h pins s σ H Q I hw)
theorem qsH (ha : PE X a ta) (hb : PE X (.BoolOp .And (b :: rest) pos) tb) : PE X (.BoolOp .And (a :: b :: rest) pos) (qpL ta tb) := by
  intro pins s σ H Q I h
  refine BoolOp_and (thn (ha pins s σ H _ I h) fun v s1 ⟨x, H1, I1, r1, q1⟩ => ?_)
  obtain ⟨c, rfl, q1⟩ := q1
  cases r1
  refine wpAny_truthy_bool ?_
  cases c with
  | true => exact hb pins s1 σ H1 Q I1 q1
  | false => exact ⟨.bl false, H1, I1, rfl, q1⟩
noncomputable def tIf (t : TT) (ta tb : TE) : TE := fun σ H Q => t σ H fun c H1 => if c = true then ta σ H1 Q else tb σ H1 Q
theorem qbW {c : Expr} (hc : PT X c tA) (ha : PE X a ta) (hb : PE X b tb) : PE X (.IfExp c a b pos) (tIf tA ta tb) := by
  intro pins s σ H Q I h
  refine wpAny_IfExp (thn (hc pins s σ H _ I h) fun d s1 ⟨H1, I1, q1⟩ => ?_)
  cases d with
  | true => exact ha pins s1 σ H1 Q I1 q1
  | false => exact hb pins s1 σ H1 Q I1 q1
end
end L2
namespace L2
open PySem PySem.Spec PyProof.Rows
noncomputable def SqL (K : PySem.W.Frag) (H : Hp) (a : Addr) (xs : List V) : Prop :=
  Rd H a (.lst xs) ∨
    ∃ (o : Obj) (its : Array Value) (n : Nat), K.lookup a = some o ∧ o.cls = .type "list" ∧ o.dict = none ∧ o.data = .seq its n ∧ its.size ≤ sizeLine ∧ Vals xs its.toList
noncomputable def SqT (K : PySem.W.Frag) (H : Hp) (a : Addr) (xs : List V) : Prop :=
  Rd H a (.tup xs) ∨
    ∃ (o : Obj) (its : Array Value) (n : Nat), K.lookup a = some o ∧ o.cls = .type "tuple" ∧ o.data = .seq its n ∧ its.size ≤ sizeLine ∧ Vals xs its.toList
noncomputable def quu : Value → Option V
  | .none => some .non
  | .bool b => some (.bl b)
  | .int i _ => some (.int i)
  | .str x _ => some (.str x)
  | .bytes b _ => some (.byt b)
  | .float b _ => some (.flt b)
  | .ref a => some (.ref a)
  | .type n => some (.ty n)
  | _ => none
theorem RelV.abs {x : V} {u : Value} (r : RelV x u) : quu u = some x := by
  cases x with
  | non => cases r; rfl
  | bl _ => cases r; rfl
  | int _ => obtain ⟨t, rfl⟩ := r; rfl
  | str _ => obtain ⟨t, rfl⟩ := r; rfl
  | byt _ => obtain ⟨t, rfl⟩ := r; rfl
  | flt _ => obtain ⟨t, rfl⟩ := r; rfl
  | ref _ => cases r; rfl
  | ty _ => cases r; rfl
theorem RelV.inj {x y : V} {u : Value} (r : RelV x u) (q : RelV y u) : x = y := Option.some.inj (r.abs.symm.trans q.abs)
theorem Vals.inj : ∀ {xs ys : List V} {us : List Value}, Vals xs us → Vals ys us → xs = ys
  | _, _, _, .nil, .nil => rfl
  | _, _, _, .cons r t, .cons r' t' => by rw [r.inj r', Vals.inj t t']
section
variable {X : Cx} {pins : List (Addr × Obj)} {σ : St} {H : Hp} {s : Shared} {a : Addr} {xs ys : List V}
theorem SqL.of {K : PySem.W.Frag} (h : H a = some (.lst xs)) : SqL K H a xs := .inl (.inl h)
theorem SqT.of {K : PySem.W.Frag} (h : H a = some (.tup xs)) : SqT K H a xs := .inl (.inl h)
theorem Inv.list (I : Inv X pins σ H s) (h : SqL X.K H a xs) : ∃ its : List Value, Vals xs its ∧ PlainL s.heap a its.toArray ∧ xs.length ≤ sizeLine := by
  rcases h with h | ⟨o, its, n, hk, hc, hd, hs, hz, r⟩
  · obtain ⟨z, its, n, r, e⟩ := h.ok I.hok
    exact ⟨its, r, ⟨_, n, e, rfl, rfl, rfl⟩, z⟩
  · refine ⟨its.toList, r, ⟨o, n, I.kIn a o hk, hc, hd, by simpa using hs⟩, ?_⟩
    have e := r.length
    simp only [Array.length_toList] at e
    omega
theorem Inv.tuple (I : Inv X pins σ H s) (h : SqT X.K H a xs) : ∃ its : List Value, Vals xs its ∧ IsTup s.heap a its.toArray ∧ xs.length ≤ sizeLine := by
  rcases h with h | ⟨o, its, n, hk, hc, hs, hz, r⟩
  · obtain ⟨z, its, r, p⟩ := h.ok I.hok
    exact ⟨its, r, p, z⟩
  · refine ⟨its.toList, r, ⟨o, I.kIn a o hk, hc, n, by simpa using hs⟩, ?_⟩
    have e := r.length
    simp only [Array.length_toList] at e
    omega
theorem Inv.list_inj (I : Inv X pins σ H s) (h : SqL X.K H a xs) (h' : SqL X.K H a ys) : xs = ys := by
  obtain ⟨its, r, ⟨o, n, e, _, _, d⟩, _⟩ := I.list h
  obtain ⟨its', r', ⟨o', n', e', _, _, d'⟩, _⟩ := I.list h'
  rw [e] at e'; cases e'
  rw [d] at d'
  injection d' with d1 _
  have : its = its' := by simpa using congrArg Array.toList d1
  subst this
  exact r.inj r'
theorem Inv.tuple_inj (I : Inv X pins σ H s) (h : SqT X.K H a xs) (h' : SqT X.K H a ys) : xs = ys := by
  obtain ⟨its, r, ⟨o, e, _, n, d⟩, _⟩ := I.tuple h
  obtain ⟨its', r', ⟨o', e', _, n', d'⟩, _⟩ := I.tuple h'
  rw [e] at e'; cases e'
  rw [d] at d'
  injection d' with d1 _
  have : its = its' := by simpa using congrArg Array.toList d1
  subst this
  exact r.inj r'
end
noncomputable abbrev Cx.wish (X : Cx) (E : Value → Shared → Prop) : Cx := { X with xe := E }
noncomputable abbrev Cx.nox (X : Cx) : Cx := X.wish fun _ _ => False
theorem Cx.Ok.wish {X : Cx} (ok : X.Ok) (E : Value → Shared → Prop) : (X.wish E).Ok :=
  ⟨ok.mod, ok.kind, ok.glob, ok.blt, ok.above, ok.inj, ok.has, ok.cab, ok.hd, ok.frames, ok.stk, ok.exf, ok.bs, ok.bsz, ok.noex, ok.exfs, ok.funs, ok.frf, ok.seer, ok.tree, ok.plr⟩
theorem Cx.Ok.unwish {X : Cx} {E : Value → Shared → Prop} (ok : (X.wish E).Ok) : X.Ok :=
  ⟨ok.mod, ok.kind, ok.glob, ok.blt, ok.above, ok.inj, ok.has, ok.cab, ok.hd, ok.frames, ok.stk, ok.exf, ok.bs, ok.bsz, ok.noex, ok.exfs, ok.funs, ok.frf, ok.seer, ok.tree, ok.plr⟩
section
variable {X : Cx} {pins : List (Addr × Obj)} {σ : St} {H : Hp} {s : Shared} {E : Value → Shared → Prop}
theorem Inv.wish (I : Inv X pins σ H s) (E : Value → Shared → Prop) : Inv (X.wish E) pins σ H s := ⟨I.ok.wish E, I.os, I.bare, I.base, I.loc, I.cell, I.free, I.freeC, I.pin, I.hok, I.len⟩
theorem Inv.unwish (I : Inv (X.wish E) pins σ H s) : Inv X pins σ H s := ⟨I.ok.unwish, I.os, I.bare, I.base, I.loc, I.cell, I.free, I.freeC, I.pin, I.hok, I.len⟩
theorem SP.unwish {D : Ends} {f : Flow} {s' : Shared} (h : SP (X.wish E) pins D f s') : SP X pins D f s' := by
  cases f with
  | next => obtain ⟨σ', H', I, q⟩ := h; exact ⟨σ', H', I.unwish, q⟩
  | brk => obtain ⟨σ', H', I, q⟩ := h; exact ⟨σ', H', I.unwish, q⟩
  | cont => obtain ⟨σ', H', I, q⟩ := h; exact ⟨σ', H', I.unwish, q⟩
  | ret u => obtain ⟨v, σ', H', I, r, q⟩ := h; exact ⟨v, σ', H', I.unwish, r, q⟩
theorem PE.nox {e : Expr} {t : TE} (h : PE X.nox e t) : PE X e t := fun pins s σ H Q I hw =>
  wpAny_mono (h pins s σ H Q (I.wish _) hw) (fun _ _ ⟨v, H', I', r, q⟩ => ⟨v, H', I'.unwish, r, q⟩) fun _ _ z => False.elim z
theorem PT.nox {e : Expr} {t : TT} (h : PT X.nox e t) : PT X e t := fun pins s σ H Q I hw =>
  wpAny_mono (h pins s σ H Q (I.wish _) hw) (fun _ _ ⟨H', I', q⟩ => ⟨H', I'.unwish, q⟩) fun _ _ z => False.elim z
theorem PSs.nox {st : List Stmt} {t : TS} (h : PSs X.nox st t) : PSs X st t := fun pins s σ H D I hw =>
  wpAny_mono (h pins s σ H D (I.wish _) hw) (fun _ _ q => q.unwish) fun _ _ z => False.elim z
end
section
variable {X : Cx} {st : Stmt} {rest : List Stmt} {t u : TS} {e : Expr} {te : TE} {pos : Pos}
noncomputable def qbL : TS := fun D σ H => D.nx σ H
noncomputable def qaH (t u : TS) : TS := fun D σ H => t { D with nx := u D } σ H
theorem qaV : PSs X [] qbL := fun _ _ σ H _ I h => wpAny_execs_nil ⟨σ, H, I, h⟩
theorem qad (h1 : PS X st t) (h2 : PSs X rest u) : PSs X (st :: rest) (qaH t u) := by
  intro pins s σ H D I h
  refine wpAny_execs_cons (thn (h1 pins s σ H { D with nx := u D } I h) fun f s1 q => ?_)
  cases f with
  | next =>
    obtain ⟨σ', H', I', q⟩ := q
    exact h2 pins s1 σ' H' D I' q
  | ret v => exact q
  | brk => exact q
  | cont => exact q
theorem qah (h1 : PS X st t) : PSs X [st] t := by
  intro pins s σ H D I h
  refine wpAny_execs_cons (thn (h1 pins s σ H D I h) fun f s1 q => ?_)
  cases f with
  | next => exact wpAny_execs_nil q
  | ret v => exact q
  | brk => exact q
  | cont => exact q
theorem Inv.quiet {pins : List (Addr × Obj)} {σ : St} {H : Hp} {s : Shared} (I : Inv X pins σ H s) : interactive X.env = false := by simp [interactive, I.ok.kind]
noncomputable def qkW (te : TE) : TS := fun D σ H => te σ H fun _ H1 => D.nx σ H1
theorem qiP (he : PE X e te) (hs : swapsWith e none pos.line X.env = pure false := by rfl) : PS X (.Expr e pos) (qkW te) := by
  intro pins s σ H D I h
  exact wpAny_Expr_any (thn (he pins s σ H _ I h) fun v s1 ⟨x, H1, I1, r1, q1⟩ => ⟨σ, H1, I1, q1⟩) I.quiet hs
noncomputable def qbw (te : TE) : TS := fun D σ H => te σ H D.rt
theorem qax (he : PE X e te) : PS X (.Return (some e) pos) (qbw te) := by
  intro pins s σ H D I h
  exact wpAny_Return_some (thn (he pins s σ H _ I h) fun v s1 ⟨x, H1, I1, r1, q1⟩ => ⟨x, σ, H1, I1, r1, q1⟩)
noncomputable def qd0 (c : TT) (t u : TS) : TS := fun D σ H => c σ H fun b H1 => if b = true then t D σ H1 else u D σ H1
theorem qbM {c : Expr} {a b : List Stmt} {tc : TT} (hc : PT X c tc) (ha : PSs X a t) (hb : PSs X b u) : PS X (.If c a b pos) (qd0 tc t u) := by
  intro pins s σ H D I h
  refine wpAny_If (thn (hc pins s σ H _ I h) fun d s1 ⟨H1, I1, q1⟩ => ?_)
  cases d with
  | true => exact ha pins s1 σ H1 D I1 q1
  | false => exact hb pins s1 σ H1 D I1 q1
noncomputable def qqI : TS := fun _ _ _ => False
theorem qnB {sts : List Stmt} : PSs X sts qqI := fun _ _ _ _ _ _ h => h.elim
end
noncomputable abbrev TG := V → St → Hp → (St → Hp → Prop) → Prop
noncomputable abbrev TGs := List V → St → Hp → (St → Hp → Prop) → Prop
noncomputable def PG (X : Cx) (target : Expr) (t : TG) : Prop :=
  ∀ (pins : List (Addr × Obj)) (s : Shared) (σ : St) (H : Hp) (v : V) (u : Value) (Q : St → Hp → Prop), Inv X pins σ H s → RelV v u → t v σ H Q →
    wpAny (model X.prog X.w) X.A (assign target X.env u) (fun _ s' => ∃ σ' H', Inv X pins σ' H' s' ∧ Q σ' H') X.xe s
noncomputable def PGs (X : Cx) (ts : List Expr) (t : TGs) : Prop :=
  ∀ (pins : List (Addr × Obj)) (s : Shared) (σ : St) (H : Hp) (vs : List V) (us : List Value) (Q : St → Hp → Prop), Inv X pins σ H s → Vals vs us → t vs σ H Q →
    wpAny (model X.prog X.w) X.A (assignInOrder ((assignEach ts X.env).map (·.2)) us) (fun _ s' => ∃ σ' H', Inv X pins σ' H' s' ∧ Q σ' H') X.xe s
noncomputable abbrev TSet := V → V → V → Hp → (Hp → Prop) → Prop
noncomputable def PSet (X : Cx) (t : TSet) : Prop :=
  ∀ (pins : List (Addr × Obj)) (s : Shared) (σ : St) (H : Hp) (o i v : V) (ov iv u : Value) (Q : Hp → Prop), Inv X pins σ H s → RelV o ov → RelV i iv → RelV v u → t o i v H Q →
    wpAny (model X.prog X.w) X.A (setItem ov iv u) (fun _ s' => ∃ H', Inv X pins σ H' s' ∧ Q H') X.xe s
noncomputable abbrev TIp := V → V → Hp → VK → Prop
noncomputable def PIp (X : Cx) (op : Operator) (t : TIp) : Prop :=
  ∀ (pins : List (Addr × Obj)) (s : Shared) (σ : St) (H : Hp) (x y : V) (v u : Value) (Q : VK), Inv X pins σ H s → RelV x v → RelV y u → t x y H Q →
    wpAny (model X.prog X.w) X.A (inplaceOp op v u) (EP X pins σ Q) X.xe s
section
variable {X : Cx} {pos : Pos}
noncomputable def qaj (i : Nat) : TG := fun v σ H Q => Q (σ.set i (some v)) H
theorem qaD {i : Nat} {x : Str} (hN : X.N.Nodup) (hi : X.N[i]? = some x) (hx : Loc X.env.scope x) (hf : X.fn x = true ∨ X.env.scope.names.lookup x = some .local := by first | exact .inl rfl | exact .inr rfl | assumption) : PG X (.Name x pos) (qaj i) := by
  intro pins s σ H v u Q I r h
  exact wpAny_assign_Name (qfe I hN hi hx r (fun s' I' => ⟨_, H, I', h⟩) hf)
noncomputable def qlU : TGs := fun vs σ H Q => vs = [] ∧ Q σ H
noncomputable def qcB (t : TG) (u : TGs) : TGs := fun vs σ H Q => ∃ v r, vs = v :: r ∧ t v σ H fun σ' H' => u r σ' H' Q
theorem qdq : PGs X [] qlU := by
  intro pins s σ H vs us Q I r h
  obtain ⟨e, h⟩ := h
  subst e
  cases r
  exact assignInOrder_nil ⟨σ, H, I, h⟩
theorem qa9 {e : Expr} {es : List Expr} {t : TG} {u : TGs} (h1 : PG X e t) (h2 : PGs X es u)
    (hs : (assignEach (e :: es) X.env).map (·.2) = assign e X.env :: (assignEach es X.env).map (·.2) := by rfl) : PGs X (e :: es) (qcB t u) := by
  intro pins s σ H vs us Q I r h
  obtain ⟨v, vr, e1, h⟩ := h
  subst e1
  cases r with
  | cons r rr =>
    rw [hs]
    refine assignInOrder_cons (thn (h1 pins s σ H _ _ _ I r h) fun _ s1 ⟨σ1, H1, I1, q1⟩ => ?_)
    exact h2 pins s1 σ1 H1 _ _ Q I1 rr q1
noncomputable def quv (K : PySem.W.Frag) (n : Nat) (t : TGs) : TG := fun v σ H Q => ∃ a xs, v = .ref a ∧ SqT K H a xs ∧ xs.length = n ∧ t xs σ H Q
theorem qsI {es : List Expr} {k : Nat} {t : TGs} {n : Nat} (hc : X.calm = true) (h : PGs X es t)
    (hn : (assignEach es X.env).length = n := by rfl) (hst : (assignEach es X.env).findIdx? (·.1) = none := by rfl) : PG X (.Tuple es k pos) (quv X.K n t) := by
  intro pins s σ H v u Q I r hw
  obtain ⟨a, xs, e1, hq, hl, hw⟩ := hw
  subst e1
  cases r
  obtain ⟨its, rv, ht, hz⟩ := I.tuple hq
  refine assign_Tuple_tuple (I.ok.hd hc) ht (by simp [hn, ← hl, rv.length]) hst fun h' hx => ?_
  have I1 : Inv X pins σ H { s with heap := h' } := I.kept (t' := s.toks) fun b o e => hx b o (Nat.ne_of_lt (Heap.lt_size e)) e
  exact h pins _ σ H xs _ Q I1 (by simpa using rv) hw
noncomputable def qpM (to ti : TE) (t : TSet) : TG := fun v σ H Q => to σ H fun o H1 => ti σ H1 fun i H2 => t o i v H2 fun H3 => Q σ H3
theorem qip {o i : Expr} {to ti : TE} {t : TSet} (ho : PE X o to) (hi : PE X i ti) (hs : PSet X t)
    (ha : ∀ v, assign (.Subscript o i pos) X.env v = (do
      let ov ← holding [v] (eval o X.env)
      let iv ← holding [v, ov] (eval i X.env)
      standAt pos
      holding [v, ov, iv] (setItem ov iv v)
      release [v, ov, iv] []) := by intro _; rfl) : PG X (.Subscript o i pos) (qpM to ti t) := by
  intro pins s σ H v u Q I r h
  rw [ha]
  refine wpAny_bind (wpAny_holding (thn (ho pins s σ H _ I h) fun ov s1 ⟨x, H1, I1, r1, q1⟩ => ?_))
  refine wpAny_bind (wpAny_holding (thn (hi pins s1 σ H1 _ I1 q1) fun iv s2 ⟨y, H2, I2, r2, q2⟩ => ?_))
  refine wpAny_bind (wpAny_standAt (wpAny_bind (wpAny_holding (thn (hs pins s2 σ H2 x y v ov iv u _ I2 r1 r2 r q2) fun _ s3 ⟨H3, I3, q3⟩ => ?_))))
  exact wpAny_release ⟨σ, H3, I3, q3⟩
noncomputable def qaR (te : TE) (g : TG) : TS := fun D σ H => te σ H fun x H1 => g x σ H1 D.nx
theorem qgn {tg e : Expr} {te : TE} {g : TG} (he : PE X e te) (hg : PG X tg g) (hs : swapsWithSole [tg] e pos.line X.env = pure false := by rfl) (hw : swappedStores [tg] e X.env = pure none := by rfl)
    (h1 : (assignEach [tg] X.env).map (·.2) = [assign tg X.env] := by rfl) : PS X (.Assign [tg] e pos) (qaR te g) := by
  intro pins s σ H D I h
  refine wpAny_Assign_stores (thn (he pins s σ H _ I h) fun v s1 ⟨x, H1, I1, r1, q1⟩ => ?_) hs hw
  rw [h1]
  exact thn (hg pins s1 σ H1 x v _ I1 r1 q1) fun _ s2 q => q
theorem qal {i : Nat} {x : Str} {e : Expr} {te : TE} {pos' : Pos} (hN : X.N.Nodup) (hi : X.N[i]? = some x) (hx : Loc X.env.scope x) (he : PE X e te) (hs : swapsWith e (some (.Name x pos')) pos.line X.env = pure false := by rfl) (hf : X.fn x = true ∨ X.env.scope.names.lookup x = some .local := by first | exact .inl rfl | exact .inr rfl | assumption) :
    PS X (.Assign [.Name x pos'] e pos) (qaR te (qaj i)) := by
  intro pins s σ H D I h
  refine wpAny_Assign_Name (thn (he pins s σ H _ I h) fun v s1 ⟨y, H1, I1, r1, q1⟩ => ?_) hs
  exact qfe I1 hN hi hx r1 (fun s2 I2 => ⟨_, H1, I2, q1⟩) hf
noncomputable def qsJ (i j : Nat) (ta : TA) : TS := fun D σ H => ta σ H fun vs H1 => ∃ v w, vs = [v, w] ∧ D.nx ((σ.set i (some v)).set j (some w)) H1
theorem qqJ {i j : Nat} {x y : Str} {a b : Expr} {ta : TA} {px py pt : Pos} {kt k2 pt2} (hc : X.calm = true) (hN : X.N.Nodup) (hi : X.N[i]? = some x) (hj : X.N[j]? = some y) (hij : i ≠ j)
    (hx : X.env.scope.names.lookup x = some .local) (hy : X.env.scope.names.lookup y = some .local) (ha : PA X [a, b] ta)
    (hw : swappedStores [.Tuple [.Name x px, .Name y py] kt pt] (.Tuple [a, b] k2 pt2) X.env = pure (some [x, y]))
    (hs : swapsWithSole [.Tuple [.Name x px, .Name y py] kt pt] (.Tuple [a, b] k2 pt2) pos.line X.env = pure false := by rfl) :
    PS X (.Assign [.Tuple [.Name x px, .Name y py] kt pt] (.Tuple [a, b] k2 pt2) pos) (qsJ i j ta) := by
  intro pins s σ H D I h
  rw [exec_Assign_arm]
  refine wpAny_bind (wpAny_standAt ?_)
  rw [hs]
  refine wpAny_bind (wpAny_pure ?_)
  rw [if_neg (by decide)]
  refine wpAny_bind (Tuple_ (thn (ha _ pins s σ H _ I h) fun us s1 ⟨vs, H1, I1, r1, q1⟩ => ?_))
  obtain ⟨v, w, e1, q1⟩ := q1
  subst e1
  obtain ⟨u1, u2, rfl, rv, rw'⟩ : ∃ u1 u2, us = [u1, u2] ∧ RelV v u1 ∧ RelV w u2 := by
    cases r1 with
    | cons p q =>
      cases q with
      | cons p' q' =>
        cases q'
        exact ⟨_, _, rfl, p, p'⟩
  refine wpAny_newObj_type ?_ (by show 2 ≤ sizeLine; decide)
  have I2 : Inv X pins σ H1 { s1 with heap := s1.heap.push { cls := .type "tuple", data := .seq [u1, u2].toArray } } := I1.kept (t' := s1.toks) fun b o e => Heap.get?_push_of_some _ e
  rw [hw]
  refine wpAny_bind (wpAny_pure ?_)
  show wpAny (model X.prog X.w) X.A (do rule "assign.swapped-stores"; let items ← unpackItems (.ref s1.heap.objs.size) 2 none; assignInOrder [fun v => bindName X.env y v, fun v => bindName X.env x v] items.reverse; pure Flow.next) _ _ _
  refine wpAny_bind (wpAny_rule (wpAny_bind (unpackItems_tuple (items := #[u1, u2]) (I.ok.hd hc) (IsTup.new s1.heap _) fun h' hx' => ?_)))
  have I3 := I2.kept (h' := h') (t' := s1.toks) fun b o e => hx' b o (Nat.ne_of_lt (Heap.lt_size e)) e
  show wpAny _ _ (assignInOrder [fun v => bindName X.env y v, fun v => bindName X.env x v] [u2, u1] >>= fun _ => pure Flow.next) _ _ _
  refine wpAny_bind (assignInOrder_cons (wpAny_bindName (qfe I3 hN hj (.inl hy) rw' (fun s2 I4 => ?_) (.inr hy))))
  refine assignInOrder_cons (wpAny_bindName (qfe I4 hN hi (.inl hx) rv (fun s3 I5 => assignInOrder_nil (wpAny_pure ?_)) (.inr hx)))
  rw [List.set_comm _ _ (Ne.symm hij)] at I5
  exact ⟨_, H1, I5, q1⟩
noncomputable def qmJ (i : Nat) (te : TE) (ti : TIp) : TS := fun D σ H => ∃ x, σ[i]? = some (some x) ∧ te σ H fun y H1 => ti x y H1 fun z H2 => D.nx (σ.set i (some z)) H2
theorem qeL {i : Nat} {x : Str} {e : Expr} {te : TE} {op : Operator} {ti : TIp} {pos' : Pos} (hN : X.N.Nodup) (hi : X.N[i]? = some x) (hx : Loc X.env.scope x) (he : PE X e te) (ho : PIp X op ti) (hf : X.fn x = true ∨ X.env.scope.names.lookup x = some .local := by first | exact .inl rfl | exact .inr rfl | assumption) :
    PS X (.AugAssign (.Name x pos') op e pos) (qmJ i te ti) := by
  intro pins s σ H D I h
  obtain ⟨v, e1, h⟩ := h
  obtain ⟨m, hn, hl⟩ := I.loc
  have vis : Vis X.env.scope x := by rcases hx with k | k; exact .inl k; exact .inr (.inl k)
  obtain ⟨u, r, l⟩ := hl i x v hi e1 vis
  refine wpAny_AugAssign_Name ?_
  have go : wpAny (model X.prog X.w) X.A (eval e X.env) (fun w s₂ => wpAny (model X.prog X.w) X.A (inplaceOp op u w) (fun r s₃ => wpAny (model X.prog X.w) X.A (storeName X.env x r) (fun _ => SP X pins D .next) X.xe s₃) X.xe s₂) X.xe s := by
    refine thn (he pins s σ H _ I h) fun w s1 ⟨y, H1, I1, r1, q1⟩ => ?_
    refine thn (ho pins s1 σ H1 v y u w _ I1 r r1 q1) fun z s2 ⟨zv, H2, I2, r2, q2⟩ => ?_
    exact qfe I2 hN hi hx r2 (fun s3 I3 => ⟨_, H2, I3, q2⟩) hf
  rcases l with ⟨hk, hm⟩ | ⟨hk, c, hc, hcell⟩
  · exact wpAny_loadName_local I.ok.kind hk hn hm go
  · rcases hk with hk | hk
    · exact wpAny_loadName_cell I.ok.kind hk hc hcell go
    · rcases hx with k | k
      · have : X.env.scope.names.lookup x = some .free := hk
        rw [k] at this; cases this
      · have : X.env.scope.names.lookup x = some .free := hk
        rw [k] at this; cases this
noncomputable def qmK (to ti te : TE) (tget : V → V → Hp → VK → Prop) (tip : TIp) (tset : TSet) : TS := fun D σ H => to σ H fun o H1 => ti σ H1 fun i H2 => tget o i H2 fun x H3 => te σ H3 fun y H4 => tip x y H4 fun z H5 => tset o i z H5 fun H6 => D.nx σ H6
noncomputable def PGet (X : Cx) (t : V → V → Hp → VK → Prop) : Prop :=
  ∀ (pins : List (Addr × Obj)) (s : Shared) (σ : St) (H : Hp) (o i : V) (ov iv : Value) (Q : VK), Inv X pins σ H s → RelV o ov → RelV i iv → t o i H Q →
    wpAny (model X.prog X.w) X.A (getItem ov iv) (EP X pins σ Q) X.xe s
theorem qkX {o i e : Expr} {to ti te : TE} {tget : V → V → Hp → VK → Prop} {tip : TIp} {tset : TSet} {op : Operator} {tpos : Pos} (ho : PE X o to) (hi : PE X i ti) (hg : PGet X tget) (he : PE X e te) (hp : PIp X op tip) (hs : PSet X tset)
    (ha : ∀ ov iv new, augStore i ov iv new = (do holding [new, ov, iv] (setItem ov iv new); release [new, ov, iv] []; pure .next) := by intros; rfl) : PS X (.AugAssign (.Subscript o i tpos) op e pos) (qmK to ti te tget tip tset) := by
  intro pins s σ H D I h
  refine wpAny_AugAssign_SubscriptAny (thn (ho pins s σ H _ I h) fun ov s1 ⟨x1, H1, I1, r1, q1⟩ => ?_) ha
  refine thn (hi pins s1 σ H1 _ I1 q1) fun iv s2 ⟨x2, H2, I2, r2, q2⟩ => ?_
  refine thn (hg pins s2 σ H2 x1 x2 ov iv _ I2 r1 r2 q2) fun old s3 ⟨x3, H3, I3, r3, q3⟩ => ?_
  refine thn (he pins s3 σ H3 _ I3 q3) fun v s4 ⟨x4, H4, I4, r4, q4⟩ => ?_
  refine thn (hp pins s4 σ H4 x3 x4 old v _ I4 r3 r4 q4) fun new s5 ⟨x5, H5, I5, r5, q5⟩ => ?_
  exact thn (hs pins s5 σ H5 x1 x2 x5 ov iv new _ I5 r1 r2 r5 q5) fun _ s6 ⟨H6, I6, q6⟩ => ⟨σ, H6, I6, q6⟩
end
section
variable {X : Cx} {pos : Pos}
noncomputable def qcV (c : TT) (tb : TS) : TS := fun D σ H => ∃ W : Nat → St → Hp → Prop, (∃ m, W m σ H) ∧ ∀ m σ H, W m σ H →
  c σ H fun b H1 => if b = true then ∃ N : St → Hp → Prop, (∀ σ' H', N σ' H' → ∃ m', m' < m ∧ W m' σ' H') ∧ tb { D with nx := N, ct := N, bk := D.nx } σ H1 else D.nx σ H1
theorem qbX {c : Expr} {body : List Stmt} {tc : TT} {tb : TS} (hp : PassesOwn (model X.prog X.w) X.A X.env X.xe) (hc : PT X c tc) (hb : PSs X body tb) : PS X (.While c body [] pos) (qcV tc tb) := by
  intro pins s σ H D I h
  obtain ⟨W, ⟨m0, w0⟩, turn⟩ := h
  refine wpAny_While (codeAny_whileLoop (fun n s' => ∃ σ' H', Inv X pins σ' H' s' ∧ W n σ' H') ?_ m0 ⟨σ, H, I, w0⟩)
  rintro n s1 ⟨σ1, H1, I1, w1⟩
  refine wpAny_passesOwn hp (thn (hc pins s1 σ1 H1 _ I1 (turn n σ1 H1 w1)) fun b s2 ⟨H2, I2, q2⟩ => ?_)
  cases b with
  | true =>
    obtain ⟨N, hN, q2⟩ := q2
    rw [if_pos rfl]
    refine wpAny_passesOwn hp (thn (hb pins s2 σ1 H2 _ I2 q2) fun f s3 q3 => ?_)
    cases f with
    | next =>
      obtain ⟨σ3, H3, I3, n3⟩ := q3
      obtain ⟨m', hm, w3⟩ := hN σ3 H3 n3
      exact ⟨m', hm, σ3, H3, I3, w3⟩
    | cont =>
      obtain ⟨σ3, H3, I3, n3⟩ := q3
      obtain ⟨m', hm, w3⟩ := hN σ3 H3 n3
      exact ⟨m', hm, σ3, H3, I3, w3⟩
    | brk => exact q3
    | ret v => exact q3
  | false =>
    rw [if_neg Bool.false_ne_true]
    exact wpAny_execs_nil ⟨σ1, H2, I2, q2⟩
end
structure It where
  go : Nat → Hp → Prop
  yld : Nat → Hp → V → Hp → Prop
  stop : Nat → Hp → Prop
noncomputable def qkY (X : Cx) (pins : List (Addr × Obj)) (H : Hp) (b : Addr) : Prop :=
  H b = none ∧ b ≠ X.env.locals ∧ b ∉ X.fs ∧ (b ∈ X.ex ∨ X.s₀.heap.objs.size ≤ b) ∧ (∀ x c, X.env.cells.lookup x = some c → c ≠ b) ∧ ∀ p ∈ X.pn ++ pins, p.1 ≠ b
theorem Inv.fpOk {X : Cx} {pins : List (Addr × Obj)} {σ : St} {H H' : Hp} {s : Shared} {b : Addr} (I : Inv X pins σ H s) (hb : s.heap.objs.size ≤ b) (hn : H' b = none) : qkY X pins H' b := by
  refine ⟨hn, Nat.ne_of_gt (Nat.lt_of_lt_of_le I.lt hb), I.nofs hb, .inr (Nat.le_trans I.sz hb), fun x c e z => ?_, fun p hp z => ?_⟩
  · obtain ⟨v, q⟩ := I.cell x c e
    exact absurd (Nat.lt_of_lt_of_le q.lt (by rw [z]; exact hb)) (Nat.lt_irrefl _)
  · exact absurd (Nat.lt_of_lt_of_le (Heap.lt_size (I.pin p hp).1) (by rw [z]; exact hb)) (Nat.lt_irrefl _)
structure Turn (P : Program) (w : World) (K : PySem.W.Frag) (tg : Expr) (J : It) (fp : List Addr) (it : Addr) (tn : Nat → Heap → Prop) : Prop where
  mem : it ∈ fp
  obj : ∀ i h, tn i h → ∀ b ∈ fp, ∃ o, h.get? b = some o ∧ ∀ v, o.data ≠ .cell v
  keep : ∀ i h h', tn i h → (∀ b ∈ fp, ∀ o, h.get? b = some o → h'.get? b = some o) → tn i h'
  item : ∀ (X : Cx), X.prog = P → X.w = w → X.K = K → X.calm = true → ∀ (i : Nat) (pins : List (Addr × Obj)) (s : Shared) (σ : St) (H : Hp) (E : Value → Shared → Prop), Inv X pins σ H s → (∀ b ∈ fp, qkY X pins H b) → tn i s.heap → J.go i H →
    wpAny (model P w) X.A (pyNext (.ref it)) (fun r s1 => ∃ u, r = some u ∧
      wpAny (model P w) X.A (letOwnedTupleGo tg (.ref it) u) (fun _ s2 => ∃ x H', Inv X pins σ H' s2 ∧ RelV x u ∧ J.yld i H x H' ∧ tn (i + 1) s2.heap ∧ ∀ b ∈ fp, H' b = none) E s1) E s
  done : ∀ (X : Cx), X.prog = P → X.w = w → X.K = K → X.calm = true → ∀ (i : Nat) (pins : List (Addr × Obj)) (s : Shared) (σ : St) (H : Hp) (E : Value → Shared → Prop), Inv X pins σ H s → (∀ b ∈ fp, qkY X pins H b) → tn i s.heap → J.stop i H →
    wpAny (model P w) X.A (pyNext (.ref it)) (fun r s1 => r = none ∧ Inv X pins σ H s1) E s
  self : ∀ (A : Around) (i : Nat) (s : Shared) (Q : Value → Shared → Prop) (E : Value → Shared → Prop), tn i s.heap → Q (.ref it) s → wpAny (model P w) A (pyIter (.ref it)) Q E s
noncomputable abbrev TI := St → Hp → (It → Hp → Prop) → Prop
noncomputable def PIE (X : Cx) (pins : List (Addr × Obj)) (σ : St) (tg : Expr) (R : It → Hp → Prop) (itv : Value) (s2 : Shared) : Prop :=
  ∃ (it : Addr) (fp : List Addr) (tn : Nat → Heap → Prop) (J : It) (H' : Hp), itv = .ref it ∧ Inv X pins σ H' s2 ∧ Turn X.prog X.w X.K tg J fp it tn ∧ tn 0 s2.heap ∧ (∀ b ∈ fp, qkY X pins H' b) ∧ R J H'
noncomputable def PI (X : Cx) (tg iter : Expr) (wi : TI) : Prop :=
  ∀ (pins : List (Addr × Obj)) (s : Shared) (σ : St) (H : Hp) (R : It → Hp → Prop), Inv X pins σ H s → wi σ H R →
    wpAny (model X.prog X.w) X.A (eval iter X.env) (fun v s1 => wpAny (model X.prog X.w) X.A (pyIter v) (PIE X pins σ tg R) X.xe s1) X.xe s
theorem qpN {M : Model} {A : Around} {E : Value → Shared → Prop} {s : Shared} {tg : Expr} {it : Addr} {u : Value} {o : Obj} {n : String} {vs : Array Value} {Q : Unit → Shared → Prop} (ho : s.heap.get? it = some o) (hc : o.cls = .type n) (hd : o.data = .fields vs)
    (hn : ["enumerate", "zip", "dict_itemiterator", "dict_reverseitemiterator", "odict_iterator", "itertools.zip_longest", "itertools.pairwise"].contains n = false) (hQ : Q () s) : wpAny M A (letOwnedTupleGo tg (.ref it) u) Q E s := by
  unfold letOwnedTupleGo
  cases tg <;> first
    | exact wpAny_pure hQ
    | (cases u <;> first
        | exact wpAny_pure hQ
        | (refine wpAny_bind (wpAny_load ho ?_)
           rw [hc, hd]
           show wpAny M A (if (["enumerate", "zip", "dict_itemiterator", "dict_reverseitemiterator", "odict_iterator", "itertools.zip_longest", "itertools.pairwise"].contains n && vs[0]? == some (rawInt _)) = true then _ else _) Q E s
           rw [if_neg (by intro h; rw [hn, Bool.false_and] at h; cases h)]
           exact wpAny_pure hQ))
noncomputable def Itl (K : PySem.W.Frag) (a : Addr) : It :=
  ⟨fun i H => ∃ xs x, SqL K H a xs ∧ xs[i]? = some x, fun i H x H' => H' = H ∧ ∀ xs, SqL K H a xs → xs[i]? = some x, fun i H => ∃ xs, SqL K H a xs ∧ xs.length ≤ i⟩
noncomputable def Itt (K : PySem.W.Frag) (a : Addr) : It :=
  ⟨fun i H => ∃ xs x, SqT K H a xs ∧ xs[i]? = some x, fun i H x H' => H' = H ∧ ∀ xs, SqT K H a xs → xs[i]? = some x, fun i H => ∃ xs, SqT K H a xs ∧ xs.length ≤ i⟩
noncomputable def Itr (lo : Int) (n : Nat) : It := ⟨fun i _ => i < n, fun i H x H' => H' = H ∧ x = .int (lo + i), fun i _ => n ≤ i⟩
theorem qnC {P : Program} {w : World} {K : PySem.W.Frag} {tg : Expr} (a it : Addr) : Turn P w K tg (Itl K a) [it] it (fun i h => h.IsListIter it a i) where
  mem := by simp
  obj := fun i h st b hb => by
    have e : b = it := by simpa using hb
    subst e
    obtain ⟨o, e, c, d⟩ := st
    exact ⟨o, e, fun v z => by rw [d] at z; cases z⟩
  keep := fun i h h' st k => st.at fun o e => k it (by simp) o e
  item := by
    intro X hP hw hK hc i pins s σ H E I hf st hg
    subst hP hw hK
    obtain ⟨xs, x, hq, hx⟩ := hg
    obtain ⟨its, rv, p, hz⟩ := I.list hq
    obtain ⟨u, hu, ru⟩ := rv.get hx
    obtain ⟨f0, f1, f2, f3, f4, f5⟩ := hf it (by simp)
    refine wpAny_pyNext_list_item st p.isList (x := u) (by simpa using hu) fun h' st' sb => ?_
    have I1 : Inv X pins σ H { s with heap := h' } := I.turned (t' := s.toks) (fun b o hb e => (sb.2 b hb).trans e) f0 f1 f3 f4 f5
    obtain ⟨o, e, c, d⟩ := id st'
    exact ⟨u, rfl, qpN (s := { s with heap := h' }) e c d (by decide) ⟨x, H, I1, ru, ⟨rfl, fun ys hy => by rw [I.list_inj hy hq]; exact hx⟩, st', fun b hb => (hf b hb).1⟩⟩
  done := by
    intro X hP hw hK hc i pins s σ H E I hf st hg
    subst hP hw hK
    obtain ⟨xs, hq, hx⟩ := hg
    obtain ⟨its, rv, p, hz⟩ := I.list hq
    obtain ⟨f0, f1, f2, f3, f4, f5⟩ := hf it (by simp)
    have hl := rv.length
    exact wpAny_pyNext_list_end (I.ok.hd hc) st p.isList (by simp; omega) fun h' eb => ⟨rfl, I.turned (t' := s.toks) (fun b o hb e => eb b o hb e) f0 f1 f3 f4 f5⟩
  self := fun _ _ _ _ _ st h => wpAny_pyIter_listiter st h
theorem qmL {P : Program} {w : World} {K : PySem.W.Frag} {tg : Expr} (a it : Addr) : Turn P w K tg (Itt K a) [it] it (fun i h => h.IsTupleIter it a i) where
  mem := by simp
  obj := fun i h st b hb => by
    have e : b = it := by simpa using hb
    subst e
    obtain ⟨o, e, c, d⟩ := st
    exact ⟨o, e, fun v z => by rw [d] at z; cases z⟩
  keep := fun i h h' st k => st.at fun o e => k it (by simp) o e
  item := by
    intro X hP hw hK hc i pins s σ H E I hf st hg
    subst hP hw hK
    obtain ⟨xs, x, hq, hx⟩ := hg
    obtain ⟨its, rv, p, hz⟩ := I.tuple hq
    obtain ⟨u, hu, ru⟩ := rv.get hx
    obtain ⟨f0, f1, f2, f3, f4, f5⟩ := hf it (by simp)
    refine wpAny_pyNext_tuple_item st (show s.heap.IsTuple a its.toArray from p) (x := u) (by simpa using hu) fun h' st' sb => ?_
    have I1 : Inv X pins σ H { s with heap := h' } := I.turned (t' := s.toks) (fun b o hb e => (sb.2 b hb).trans e) f0 f1 f3 f4 f5
    obtain ⟨o, e, c, d⟩ := id st'
    exact ⟨u, rfl, qpN (s := { s with heap := h' }) e c d (by decide) ⟨x, H, I1, ru, ⟨rfl, fun ys hy => by rw [I.tuple_inj hy hq]; exact hx⟩, st', fun b hb => (hf b hb).1⟩⟩
  done := by
    intro X hP hw hK hc i pins s σ H E I hf st hg
    subst hP hw hK
    obtain ⟨xs, hq, hx⟩ := hg
    obtain ⟨its, rv, p, hz⟩ := I.tuple hq
    obtain ⟨f0, f1, f2, f3, f4, f5⟩ := hf it (by simp)
    have hl := rv.length
    exact wpAny_pyNext_tuple_end (I.ok.hd hc) st (show s.heap.IsTuple a its.toArray from p) (by simp; omega) fun h' eb => ⟨rfl, I.turned (t' := s.toks) (fun b o hb e => eb b o hb e) f0 f1 f3 f4 f5⟩
  self := fun _ _ _ _ _ st h => wpAny_pyIter_tupleiter st h
theorem qmM {P : Program} {w : World} {K : PySem.W.Frag} {tg : Expr} (it : Addr) (lo : Int) (n : Nat) : Turn P w K tg (Itr lo n) [it] it (fun i h => IsRangeIter h it (lo + (i : Nat) * 1) ((n : Int) - (i : Nat)) 1) where
  mem := by simp
  obj := fun i h st b hb => by
    have e : b = it := by simpa using hb
    subst e
    exact ⟨_, st, fun v z => by
      have z' : Data.fields _ = Data.cell v := z
      cases z'⟩
  keep := fun i h h' st k => k it (by simp) _ st
  item := by
    intro X hP hw hK hc i pins s σ H E I hf st hg
    subst hP hw hK
    obtain ⟨f0, f1, f2, f3, f4, f5⟩ := hf it (by simp)
    have W := Walks.range (prog := X.prog) (w := X.w) (I.ok.hd hc) it lo 1 n
    refine W.item i s _ _ hg st fun v h' tk hv st' kk => ?_
    obtain ⟨t, rfl⟩ := hv
    have I1 : Inv X pins σ H { s with heap := h', toks := tk } := I.turned (fun b o hb e => kk b o (by simpa using hb) e) f0 f1 f3 f4 f5
    refine ⟨_, rfl, qpN (s := { s with heap := h', toks := tk }) (n := "range_iterator") st' rfl rfl (by decide) ⟨.int (lo + i), H, I1, ⟨t, ?_⟩, ⟨rfl, rfl⟩, st', fun b hb => (hf b hb).1⟩⟩
    rw [Int.mul_one]
  done := by
    intro X hP hw hK hc i pins s σ H E I hf st hg
    subst hP hw hK
    obtain ⟨f0, f1, f2, f3, f4, f5⟩ := hf it (by simp)
    exact wpAny_pyNext_range_end (I.ok.hd hc) st (by have : n ≤ i := hg; omega) fun h' eb => ⟨rfl, I.turned (t' := s.toks) (fun b o hb e => eb b o hb e) f0 f1 f3 f4 f5⟩
  self := fun _ _ _ _ _ st h => wpAny_pyIter_rangeiter st h
end L2
namespace L2
open PySem PySem.Spec PyProof.Rows
section
variable {X : Cx} {tg : Expr}
noncomputable def qdB (K : PySem.W.Frag) (tl : TE) : TI := fun σ H R => tl σ H fun x H1 => ∃ a, x = .ref a ∧ (∃ xs, SqL K H1 a xs) ∧ R (Itl K a) H1
noncomputable def qnD (K : PySem.W.Frag) (tl : TE) : TI := fun σ H R => tl σ H fun x H1 => ∃ a, x = .ref a ∧ (∃ xs, SqT K H1 a xs) ∧ R (Itt K a) H1
theorem qb3 {l : Expr} {tl : TE} (hl : PE X l tl) : PI X tg l (qdB X.K tl) := by
  intro pins s σ H R I h
  refine thn (hl pins s σ H _ I h) fun v s1 ⟨x, H1, I1, r1, q1⟩ => ?_
  obtain ⟨a, e, ⟨xs, hq⟩, q⟩ := q1
  subst e
  cases r1
  obtain ⟨its, rv, p, hz⟩ := I1.list hq
  refine wpAny_pyIter_list p.isList ?_
  refine ⟨s1.heap.objs.size, [s1.heap.objs.size], _, _, H1, rfl, I1.kept (t' := s1.toks) fun b o e => Heap.get?_push_of_some _ e, qnC a _, ⟨_, Heap.get?_push_size _ rfl, rfl, rfl⟩, fun b hb => ?_, q⟩
  have e : b = s1.heap.objs.size := by simpa using hb
  subst e
  exact I1.fpOk (Nat.le_refl _) (I1.hok.fresh (Nat.le_refl _))
theorem qgV {l : Expr} {tl : TE} (hl : PE X l tl) : PI X tg l (qnD X.K tl) := by
  intro pins s σ H R I h
  refine thn (hl pins s σ H _ I h) fun v s1 ⟨x, H1, I1, r1, q1⟩ => ?_
  obtain ⟨a, e, ⟨xs, hq⟩, q⟩ := q1
  subst e
  cases r1
  obtain ⟨its, rv, p, hz⟩ := I1.tuple hq
  refine wpAny_pyIter_tuple (show s1.heap.IsTuple a its.toArray from p) ?_
  refine ⟨s1.heap.objs.size, [s1.heap.objs.size], _, _, H1, rfl, I1.kept (t' := s1.toks) fun b o e => Heap.get?_push_of_some _ e, qmL a _, ⟨_, Heap.get?_push_size _ rfl, rfl, rfl⟩, fun b hb => ?_, q⟩
  have e : b = s1.heap.objs.size := by simpa using hb
  subst e
  exact I1.fpOk (Nat.le_refl _) (I1.hok.fresh (Nat.le_refl _))
theorem qlV {pins : List (Addr × Obj)} {σ : St} {H : Hp} {s : Shared} {R : It → Hp → Prop} {E : Value → Shared → Prop} {lo hi : Int} {t u v : Tok} {tk : Nat} (I : Inv X pins σ H s) (h1 : -(2 ^ 62) ≤ lo) (h2 : lo < 2 ^ 62) (h3 : -(2 ^ 62) ≤ hi) (h4 : hi < 2 ^ 62)
    (q : R (Itr lo (hi - lo).toNat) H) : wpAny (model X.prog X.w) X.A (pyIter (.ref s.heap.objs.size)) (PIE X pins σ tg R) E { s with heap := s.heap.push { cls := .type "range", data := .fields #[.int lo t, .int hi u, .int 1 v] }, toks := tk } := by
  refine wpAny_pyIter_range (IsRange.new ..) (small_one h1 h2 h3 h4) ?_
  have I1 : Inv X pins σ H { s with heap := s.heap.push { cls := .type "range", data := .fields #[.int lo t, .int hi u, .int 1 v] }, toks := tk } := I.kept fun b o e => Heap.get?_push_of_some _ e
  refine ⟨(s.heap.push { cls := .type "range", data := .fields #[.int lo t, .int hi u, .int 1 v] }).objs.size, [(s.heap.push { cls := .type "range", data := .fields #[.int lo t, .int hi u, .int 1 v] }).objs.size], _, _, H, rfl,
    I1.kept (t' := tk) fun b o e => Heap.get?_push_of_some _ e, qmM _ lo (hi - lo).toNat, ?_, fun b hb => ?_, q⟩
  · have e1 : lo + ((0 : Nat) : Int) * 1 = lo := by simp
    have e2 : (((hi - lo).toNat : Nat) : Int) - ((0 : Nat) : Int) = Builtin.Range.rangeSize lo hi 1 := by rw [rangeSize_one]; split <;> omega
    show IsRangeIter _ _ (lo + ((0 : Nat) : Int) * 1) ((((hi - lo).toNat : Nat) : Int) - ((0 : Nat) : Int)) 1
    rw [e1, e2]
    exact Heap.get?_push_size _ rfl
  · have e : b = (s.heap.push { cls := .type "range", data := .fields #[.int lo t, .int hi u, .int 1 v] }).objs.size := by simpa using hb
    subst e
    exact I1.fpOk (Nat.le_refl _) (I1.hok.fresh (Nat.le_refl _))
noncomputable def qjT (ta : TA) : TI := fun σ H R => ta σ H fun vs H1 => ∃ j : Int, vs = [.int j] ∧ -(2 ^ 62) ≤ j ∧ j < 2 ^ 62 ∧ R (Itr 0 j.toNat) H1
noncomputable def qnE (ta : TA) : TI := fun σ H R => ta σ H fun vs H1 => ∃ i j : Int, vs = [.int i, .int j] ∧ (-(2 ^ 62) ≤ i ∧ i < 2 ^ 62 ∧ -(2 ^ 62) ≤ j ∧ j < 2 ^ 62) ∧ R (Itr i (j - i).toNat) H1
theorem qd9 {a : Expr} {ta : TA} {p pos : Pos} (hg : Gl X "range") (hm : X.mg "range" = none) (ha : PA X [a] ta) (hs : starEach [a] X.env = [(false, eval a X.env)] := by rfl) : PI X tg (.Call (.Name "range" p) [a] [] pos) (qjT ta) := by
  intro pins s σ H R I h
  refine Call_ (qd7 I hg hm boot_range (PyProof.Rows.callWith_type1 (thn (ha pos pins s σ H _ I h) fun us s1 ⟨vs, H1, I1, r1, q1⟩ => ?_) hs rfl))
  obtain ⟨j, e, q1, q2, q⟩ := q1
  subst e
  cases r1 with
  | cons r rr =>
    cases rr
    obtain ⟨t, rfl⟩ := r
    exact call_range_1 (qlV I1 (by omega) (by omega) q1 q2 (by simpa using q))
theorem qnF {a b : Expr} {ta : TA} {p pos : Pos} (hg : Gl X "range") (hm : X.mg "range" = none) (ha : PA X [a, b] ta) (hs : starEach [a, b] X.env = [(false, eval a X.env), (false, eval b X.env)] := by rfl) (hs2 : starEach [b] X.env = [(false, eval b X.env)] := by rfl) :
    PI X tg (.Call (.Name "range" p) [a, b] [] pos) (qnE ta) := by
  intro pins s σ H R I h
  refine Call_ (qd7 I hg hm boot_range (PyProof.Rows.callWith_type1 (thn (ha pos pins s σ H _ I h) fun us s1 ⟨vs, H1, I1, r1, q1⟩ => ?_) (by rw [hs, hs2]) (by rw [hs2]; rfl)))
  obtain ⟨i, j, e, ⟨q1, q2, q3, q4⟩, q⟩ := q1
  subst e
  cases r1 with
  | cons r rr =>
    cases rr with
    | cons r' rr =>
      cases rr
      obtain ⟨t, rfl⟩ := r
      obtain ⟨t', rfl⟩ := r'
      exact call_range_2 (qlV I1 q1 q2 q3 q4 q)
noncomputable def qfQ (wi : TI) (g : TG) (tb : TS) : TS := fun D σ H => wi σ H fun J H1 => ∃ W : Nat → Nat → St → Hp → Prop, (∃ m, W 0 m σ H1) ∧ ∀ i m σ H, W i m σ H →
  (J.stop i H ∧ D.nx σ H) ∨ (J.go i H ∧ ∃ N : St → Hp → Prop, (∀ σ' H', N σ' H' → ∃ m', m' < m ∧ W (i + 1) m' σ' H') ∧ ∀ x H', J.yld i H x H' → g x σ H' fun σ2 H2 => tb { D with nx := N, ct := N, bk := D.nx } σ2 H2)
noncomputable def qlW (fp : List Addr) (h : Heap) : List (Addr × Obj) := fp.filterMap fun b => (h.get? b).map fun o => (b, o)
theorem qdC {fp : List Addr} {h : Heap} {b : Addr} {o : Obj} (hb : b ∈ fp) (e : h.get? b = some o) : (b, o) ∈ qlW fp h := List.mem_filterMap.mpr ⟨b, hb, by rw [e]; rfl⟩
theorem qnG {fp : List Addr} {h : Heap} {p : Addr × Obj} (hp : p ∈ qlW fp h) : p.1 ∈ fp ∧ h.get? p.1 = some p.2 := by
  obtain ⟨b, hb, e⟩ := List.mem_filterMap.mp hp
  cases q : h.get? b with
  | none => rw [q] at e; cases e
  | some o =>
    rw [q] at e
    have e' : (b, o) = p := Option.some.inj e
    subst e'
    exact ⟨hb, q⟩
theorem Inv.pinned {pins : List (Addr × Obj)} {σ : St} {H : Hp} {s : Shared} {fp : List Addr} (I : Inv X pins σ H s) (hf : ∀ b ∈ fp, qkY X pins H b) (ho : ∀ b ∈ fp, ∃ o, s.heap.get? b = some o ∧ ∀ v, o.data ≠ .cell v) : Inv X (pins ++ qlW fp s.heap) σ H s :=
  I.pins_of fun p hp => (List.mem_append.mp hp).elim (fun z => I.pin p (List.mem_append_right _ z)) fun z => by
    obtain ⟨hb, e⟩ := qnG z
    obtain ⟨f0, f1, f2, _⟩ := hf p.1 hb
    obtain ⟨o, e', d⟩ := ho p.1 hb
    rw [e] at e'; cases e'
    exact ⟨e, f0, f1, f2, d⟩
theorem Inv.unpinned {pins pl : List (Addr × Obj)} {σ : St} {H : Hp} {s : Shared} (I : Inv X (pins ++ pl) σ H s) : Inv X pins σ H s := I.pins_of fun p hp => I.pin p (List.mem_append_right _ (List.mem_append_left _ hp))
theorem qcb {iter : Expr} {body : List Stmt} {wi : TI} {g : TG} {tb : TS} {pos : Pos} (hp : PassesOwn (model X.prog X.w) X.A X.env X.xe) (hc : X.calm = true) (hi : PI X tg iter wi) (hg : PG X tg g) (hb : PSs X body tb)
    (hs : ∀ x, foldedSetIterable iter X.env x = pure x := by intro _; rfl) : PS X (.For tg iter body [] pos) (qfQ wi g tb) := by
  intro pins s σ H D I h
  refine wpAny_For (thn (hi pins s σ H _ I h) fun v s1 h1 => thn h1 fun itv s2 h2 => ?_) hs
  obtain ⟨it, fp, tn, J, H2, e, I2, T, st2, f2, W, ⟨m0, w0⟩, turn⟩ := h2
  subst e
  have stat : ∀ {H' : Hp}, (∀ b ∈ fp, H' b = none) → ∀ b ∈ fp, qkY X pins H' b := fun hn b hb => ⟨hn b hb, (f2 b hb).2⟩
  refine codeAny_forLoop_any (fun n s' => ∃ i σ' H', Inv X pins σ' H' s' ∧ tn i s'.heap ∧ (∀ b ∈ fp, H' b = none) ∧ W i n σ' H') ?_ m0 ⟨0, σ, H2, I2, st2, fun b hb => (f2 b hb).1, w0⟩
  rintro n s3 ⟨i, σ3, H3, I3, st3, fr3, w3⟩
  rcases turn i n σ3 H3 w3 with ⟨stop, qn⟩ | ⟨go, N, hN, step⟩
  · refine wpAny_passesOwn hp (thn (T.done X rfl rfl rfl hc i pins s3 σ3 H3 X.xe I3 (stat fr3) st3 stop) fun r s4 ⟨hr, I4⟩ => ?_)
    subst hr
    exact wpAny_execs_nil ⟨σ3, H3, I4, qn⟩
  · refine wpAny_passesOwn hp (thn (T.item X rfl rfl rfl hc i pins s3 σ3 H3 X.xe I3 (stat fr3) st3 go) fun r s4 ⟨u, hr, h4⟩ => ?_)
    subst hr
    refine wpAny_passesOwn hp (thn h4 fun _ s5 ⟨x, H5, I5, r5, y5, st5, fr5⟩ => ?_)
    have I5' := I5.pinned (stat fr5) (T.obj _ _ st5)
    refine wpAny_passesOwn hp (thn (hg _ s5 σ3 H5 x u _ I5' r5 (step x H5 y5)) fun _ s6 ⟨σ6, H6, I6, q6⟩ => ?_)
    refine wpAny_passesOwn hp (thn (hb _ s6 σ6 H6 _ I6 q6) fun f s7 q7 => ?_)
    have again : ∀ {σ7 : St} {H7 : Hp}, Inv X (pins ++ qlW fp s5.heap) σ7 H7 s7 → N σ7 H7 → ∃ m, m < n ∧ ∃ i σ' H', Inv X pins σ' H' s7 ∧ tn i s7.heap ∧ (∀ b ∈ fp, H' b = none) ∧ W i m σ' H' := fun {σ7 H7} I7 n7 => by
      obtain ⟨m', hm, w7⟩ := hN σ7 H7 n7
      refine ⟨m', hm, i + 1, σ7, H7, I7.unpinned, T.keep _ _ _ st5 fun b hb o e => (I7.pin (b, o) (List.mem_append_right _ (List.mem_append_right _ (qdC hb e)))).1, fun b hb => ?_, w7⟩
      obtain ⟨o, e, d⟩ := T.obj _ _ st5 b hb
      exact (I7.pin (b, o) (List.mem_append_right _ (List.mem_append_right _ (qdC hb e)))).2.1
    cases f with
    | next => obtain ⟨σ7, H7, I7, n7⟩ := q7; exact again I7 n7
    | cont => obtain ⟨σ7, H7, I7, n7⟩ := q7; exact again I7 n7
    | brk => obtain ⟨σ7, H7, I7, q7⟩ := q7; exact ⟨σ7, H7, I7.unpinned, q7⟩
    | ret v => obtain ⟨x7, σ7, H7, I7, r7, q7⟩ := q7; exact ⟨x7, σ7, H7, I7.unpinned, r7, q7⟩
end
theorem qpO {K : PySem.W.Frag} {a : Addr} {xs : List V} {g : TG} {tb : TS} {D : Ends} {σ : St} {H : Hp} (Pv : Nat → St → Hp → Prop) (h0 : Pv 0 σ H) (hl : ∀ i σ H, i ≤ xs.length → Pv i σ H → SqL K H a xs)
    (hs : ∀ i x σ H, xs[i]? = some x → Pv i σ H → g x σ H fun σ2 H2 => tb { D with nx := Pv (i + 1), ct := Pv (i + 1), bk := D.nx } σ2 H2) (hd : ∀ σ H, Pv xs.length σ H → D.nx σ H) :
    ∃ W : Nat → Nat → St → Hp → Prop, (∃ m, W 0 m σ H) ∧ ∀ i m σ H, W i m σ H →
      ((Itl K a).stop i H ∧ D.nx σ H) ∨ ((Itl K a).go i H ∧ ∃ N : St → Hp → Prop, (∀ σ' H', N σ' H' → ∃ m', m' < m ∧ W (i + 1) m' σ' H') ∧ ∀ x H', (Itl K a).yld i H x H' → g x σ H' fun σ2 H2 => tb { D with nx := N, ct := N, bk := D.nx } σ2 H2) := by
  refine ⟨fun i m σ H => m = xs.length - i ∧ i ≤ xs.length ∧ Pv i σ H, ⟨xs.length, by simp, Nat.zero_le _, h0⟩, ?_⟩
  rintro i m σ H ⟨rfl, hi, p⟩
  have q := hl i σ H hi p
  by_cases hlt : i < xs.length
  · refine .inr ⟨⟨xs, xs[i], q, by simp [hlt]⟩, Pv (i + 1), fun σ' H' p' => ⟨xs.length - (i + 1), by omega, rfl, hlt, p'⟩, fun x H' y => ?_⟩
    obtain ⟨e, y⟩ := y
    subst e
    exact hs i x σ _ (y xs q) p
  · have e : i = xs.length := by omega
    subst e
    exact .inl ⟨⟨xs, q, Nat.le_refl _⟩, hd σ H p⟩
theorem qnH {K : PySem.W.Frag} {a : Addr} {xs : List V} {g : TG} {tb : TS} {D : Ends} {σ : St} {H : Hp} (Pv : Nat → St → Hp → Prop) (h0 : Pv 0 σ H) (hl : ∀ i σ H, i ≤ xs.length → Pv i σ H → SqT K H a xs)
    (hs : ∀ i x σ H, xs[i]? = some x → Pv i σ H → g x σ H fun σ2 H2 => tb { D with nx := Pv (i + 1), ct := Pv (i + 1), bk := D.nx } σ2 H2) (hd : ∀ σ H, Pv xs.length σ H → D.nx σ H) :
    ∃ W : Nat → Nat → St → Hp → Prop, (∃ m, W 0 m σ H) ∧ ∀ i m σ H, W i m σ H →
      ((Itt K a).stop i H ∧ D.nx σ H) ∨ ((Itt K a).go i H ∧ ∃ N : St → Hp → Prop, (∀ σ' H', N σ' H' → ∃ m', m' < m ∧ W (i + 1) m' σ' H') ∧ ∀ x H', (Itt K a).yld i H x H' → g x σ H' fun σ2 H2 => tb { D with nx := N, ct := N, bk := D.nx } σ2 H2) := by
  refine ⟨fun i m σ H => m = xs.length - i ∧ i ≤ xs.length ∧ Pv i σ H, ⟨xs.length, by simp, Nat.zero_le _, h0⟩, ?_⟩
  rintro i m σ H ⟨rfl, hi, p⟩
  have q := hl i σ H hi p
  by_cases hlt : i < xs.length
  · refine .inr ⟨⟨xs, xs[i], q, by simp [hlt]⟩, Pv (i + 1), fun σ' H' p' => ⟨xs.length - (i + 1), by omega, rfl, hlt, p'⟩, fun x H' y => ?_⟩
    obtain ⟨e, y⟩ := y
    subst e
    exact hs i x σ _ (y xs q) p
  · have e : i = xs.length := by omega
    subst e
    exact .inl ⟨⟨xs, q, Nat.le_refl _⟩, hd σ H p⟩
theorem qnI {lo : Int} {n : Nat} {g : TG} {tb : TS} {D : Ends} {σ : St} {H : Hp} (Pv : Nat → St → Hp → Prop) (h0 : Pv 0 σ H)
    (hs : ∀ i σ H, i < n → Pv i σ H → g (.int (lo + i)) σ H fun σ2 H2 => tb { D with nx := Pv (i + 1), ct := Pv (i + 1), bk := D.nx } σ2 H2) (hd : ∀ σ H, Pv n σ H → D.nx σ H) :
    ∃ W : Nat → Nat → St → Hp → Prop, (∃ m, W 0 m σ H) ∧ ∀ i m σ H, W i m σ H →
      ((Itr lo n).stop i H ∧ D.nx σ H) ∨ ((Itr lo n).go i H ∧ ∃ N : St → Hp → Prop, (∀ σ' H', N σ' H' → ∃ m', m' < m ∧ W (i + 1) m' σ' H') ∧ ∀ x H', (Itr lo n).yld i H x H' → g x σ H' fun σ2 H2 => tb { D with nx := N, ct := N, bk := D.nx } σ2 H2) := by
  refine ⟨fun i m σ H => m = n - i ∧ i ≤ n ∧ Pv i σ H, ⟨n, by simp, Nat.zero_le _, h0⟩, ?_⟩
  rintro i m σ H ⟨rfl, hi, p⟩
  by_cases hlt : i < n
  · refine .inr ⟨hlt, Pv (i + 1), fun σ' H' p' => ⟨n - (i + 1), by omega, rfl, hlt, p'⟩, fun x H' y => ?_⟩
    obtain ⟨e, y⟩ := y
    subst e y
    exact hs i σ _ hlt p
  · have e : i = n := by omega
    subst e
    exact .inl ⟨Nat.le_refl _, hd σ H p⟩
theorem while_by {c : TT} {tb : TS} {D : Ends} {σ : St} {H : Hp} (Pv : St → Hp → Prop) (μ : St → Hp → Nat) (h0 : Pv σ H)
    (hs : ∀ σ H, Pv σ H → c σ H fun b H1 => if b = true then tb { D with nx := fun σ' H' => Pv σ' H' ∧ μ σ' H' < μ σ H, ct := fun σ' H' => Pv σ' H' ∧ μ σ' H' < μ σ H, bk := D.nx } σ H1 else D.nx σ H1)
    (mono : ∀ σ H Q Q', (∀ b H1, Q b H1 → Q' b H1) → c σ H Q → c σ H Q') : qcV c tb D σ H := by
  refine ⟨fun m σ H => m = μ σ H ∧ Pv σ H, ⟨_, rfl, h0⟩, ?_⟩
  rintro m σ H ⟨rfl, p⟩
  refine mono σ H _ _ (fun b H1 q => ?_) (hs σ H p)
  cases b with
  | true => exact ⟨_, fun σ' H' ⟨p', l⟩ => ⟨_, l, rfl, p'⟩, q⟩
  | false => exact q
end L2
namespace L2
open PySem PySem.Spec PyProof.Rows
noncomputable abbrev R2 := V → V → Hp → VK → Prop
noncomputable def OpR (X : Cx) (f : Value → Value → Sem Value) (r : R2) : Prop :=
  ∀ (pins : List (Addr × Obj)) (s : Shared) (σ : St) (H : Hp) (x y : V) (v u : Value) (Q : VK), Inv X pins σ H s → RelV x v → RelV y u → r x y H Q →
    wpAny (model X.prog X.w) X.A (f v u) (EP X pins σ Q) X.xe s
noncomputable def UnR (X : Cx) (f : Value → Sem Value) (r : V → Hp → VK → Prop) : Prop :=
  ∀ (pins : List (Addr × Obj)) (s : Shared) (σ : St) (H : Hp) (x : V) (v : Value) (Q : VK), Inv X pins σ H s → RelV x v → r x H Q →
    wpAny (model X.prog X.w) X.A (f v) (EP X pins σ Q) X.xe s
noncomputable def qdg (X : Cx) (f : Value) (r : List V → Hp → VK → Prop) : Prop :=
  ∀ (pins : List (Addr × Obj)) (s : Shared) (σ : St) (H : Hp) (xs : List V) (us : List Value) (Q : VK), Inv X pins σ H s → Vals xs us → r xs H Q →
    wpAny (model X.prog X.w) X.A (call f us) (EP X pins σ Q) X.xe s
noncomputable def quw (X : Cx) (r : V → Hp → (Bool → Hp → Prop) → Prop) : Prop :=
  ∀ (pins : List (Addr × Obj)) (s : Shared) (σ : St) (H : Hp) (x : V) (v : Value) (Q : Bool → Hp → Prop), Inv X pins σ H s → RelV x v → r x H Q →
    wpAny (model X.prog X.w) X.A (truthy v) (TP X pins σ Q) X.xe s
noncomputable def tOp (r : R2) (ta tb : TE) : TE := fun σ H Q => ta σ H fun x H1 => tb σ H1 fun y H2 => r x y H2 Q
noncomputable def tUn (r : V → Hp → VK → Prop) (ta : TE) : TE := fun σ H Q => ta σ H fun x H1 => r x H1 Q
noncomputable def rI (C : Int → Int → Prop) (g : Int → Int → V) : R2 := fun x y H Q => ∃ i j, x = .int i ∧ y = .int j ∧ C i j ∧ Q (g i j) H
noncomputable def rI0 (g : Int → Int → V) : R2 := fun x y H Q => ∃ i j, x = .int i ∧ y = .int j ∧ Q (g i j) H
noncomputable def rU (g : Int → V) : V → Hp → VK → Prop := fun x H Q => ∃ i, x = .int i ∧ Q (g i) H
section
variable {X : Cx} {a b c : Expr} {ta tb tc : TE} {pos : Pos}
theorem qtN (ha : PE X a ta) (hb : PE X b tb) {pins : List (Addr × Obj)} {s : Shared} {σ : St} {H : Hp} {R : V → V → Hp → Prop} (I : Inv X pins σ H s)
    (h : ta σ H fun x H1 => tb σ H1 fun y H2 => R x y H2) {Q : Value → Shared → Prop} {f : Value → Value → Sem Value}
    (hf : ∀ v u s2 x y H2, Inv X pins σ H2 s2 → RelV x v → RelV y u → R x y H2 → wpAny (model X.prog X.w) X.A (f v u) Q X.xe s2) :
    wpAny (model X.prog X.w) X.A (eval a X.env) (fun v s₁ => wpAny (model X.prog X.w) X.A (eval b X.env) (fun u s₂ => wpAny (model X.prog X.w) X.A (f v u) Q X.xe s₂) X.xe s₁) X.xe s := by
  refine thn (ha pins s σ H _ I h) fun v s1 ⟨x, H1, I1, r1, q1⟩ => ?_
  refine thn (hb pins s1 σ H1 _ I1 q1) fun u s2 ⟨y, H2, I2, r2, q2⟩ => ?_
  exact hf v u s2 x y H2 I2 r1 r2 q2
theorem qam {op : Operator} {r : R2} (ho : OpR X (binaryOp op) r) (ha : PE X a ta) (hb : PE X b tb) : PE X (.BinOp a op b pos) (tOp r ta tb) := by
  intro pins s σ H Q I h
  exact wpAny_BinOp (qtN ha hb I h fun v u s2 x y H2 I2 rx ry q => ho pins s2 σ H2 x y v u Q I2 rx ry q)
theorem qcM {op : UnaryOp} {r : V → Hp → VK → Prop} (ho : UnR X (unaryOp op) r) (ha : PE X a ta) : PE X (.UnaryOp op a pos) (tUn r ta) := by
  intro pins s σ H Q I h
  exact UnaryOp_ (thn (ha pins s σ H _ I h) fun v s1 ⟨x, H1, I1, r1, q1⟩ => ho pins s1 σ H1 x v Q I1 r1 q1)
theorem opI {f : Value → Value → Sem Value} {C : Int → Int → Prop} {g : Int → Int → Int}
    (rule : ∀ (i j : Int) (t u : Tok) (s : Shared) (Q : Value → Shared → Prop) (E : Value → Shared → Prop), C i j → Q (.int (g i j) s.toks) { s with toks := s.toks + 1 } → wpAny (model X.prog X.w) X.A (f (.int i t) (.int j u)) Q E s) :
    OpR X f (rI C fun i j => .int (g i j)) := by
  intro pins s σ H x y v u Q I rx ry h
  obtain ⟨i, j, rfl, rfl, hc, q⟩ := h
  obtain ⟨t, rfl⟩ := rx
  obtain ⟨t', rfl⟩ := ry
  exact rule i j t t' s _ _ hc ⟨.int (g i j), H, I.tok _, ⟨_, rfl⟩, q⟩
theorem qtO {f : Value → Value → Sem Value} {g : Int → Int → Int}
    (rule : ∀ (i j : Int) (t u : Tok) (s : Shared) (Q : Value → Shared → Prop) (E : Value → Shared → Prop), Q (.int (g i j) s.toks) { s with toks := s.toks + 1 } → wpAny (model X.prog X.w) X.A (f (.int i t) (.int j u)) Q E s) :
    OpR X f (rI0 fun i j => .int (g i j)) := by
  intro pins s σ H x y v u Q I rx ry h
  obtain ⟨i, j, rfl, rfl, q⟩ := h
  obtain ⟨t, rfl⟩ := rx
  obtain ⟨t', rfl⟩ := ry
  exact rule i j t t' s _ _ ⟨.int (g i j), H, I.tok _, ⟨_, rfl⟩, q⟩
theorem qtP {f : Value → Value → Sem Value} {g : Int → Int → Bool}
    (rule : ∀ (i j : Int) (t u : Tok) (s : Shared) (Q : Value → Shared → Prop) (E : Value → Shared → Prop), Q (.bool (g i j)) s → wpAny (model X.prog X.w) X.A (f (.int i t) (.int j u)) Q E s) :
    OpR X f (rI0 fun i j => .bl (g i j)) := by
  intro pins s σ H x y v u Q I rx ry h
  obtain ⟨i, j, rfl, rfl, q⟩ := h
  obtain ⟨t, rfl⟩ := rx
  obtain ⟨t', rfl⟩ := ry
  exact rule i j t t' s _ _ ⟨.bl (g i j), H, I, rfl, q⟩
noncomputable def CMul (i j : Int) : Prop := (-(2 ^ 64) < i ∧ i < 2 ^ 64) ∨ (-(2 ^ 64) < j ∧ j < 2 ^ 64)
theorem CMul.ok {i j : Int} (h : CMul i j) : IntMulOk i j := by
  rcases h with ⟨h1, h2⟩ | ⟨h1, h2⟩
  · exact .of_left (intBits_le_64 h1 h2)
  · exact .of_right (intBits_le_64 h1 h2)
theorem qbV : OpR X (binaryOp .Add) (rI0 fun i j => .int (i + j)) := qtO fun _ _ _ _ _ _ _ q => add_int q
theorem qbx : OpR X (binaryOp .Sub) (rI0 fun i j => .int (i - j)) := qtO fun _ _ _ _ _ _ _ q => sub_int q
theorem qcJ : OpR X (binaryOp .Mod) (rI (fun _ j => 0 < j) fun i j => .int (i % j)) := opI fun i j _ _ _ _ _ hc q => by
  have h1 : (0 : Int) < j := hc
  exact mod_int' (by omega) (by rw [Int.fmod_eq_emod_of_nonneg i (by omega)]; exact q)
theorem qrj : OpR X (binaryOp .Mod) (rI (fun _ j => j ≠ 0) fun i j => .int (i.fmod j)) := opI fun _ _ _ _ _ _ _ hc q => mod_int' hc q
theorem qgW : OpR X (inplaceOp .Sub) (rI0 fun i j => .int (i - j)) := qtO fun _ _ _ _ _ _ _ q => isub_int q
theorem unI {f : Value → Sem Value} {g : Int → Int}
    (rule : ∀ (i : Int) (t : Tok) (s : Shared) (Q : Value → Shared → Prop) (E : Value → Shared → Prop), Q (.int (g i) s.toks) { s with toks := s.toks + 1 } → wpAny (model X.prog X.w) X.A (f (.int i t)) Q E s) :
    UnR X f (rU fun i => .int (g i)) := by
  intro pins s σ H x v Q I rx h
  obtain ⟨i, rfl, q⟩ := h
  obtain ⟨t, rfl⟩ := rx
  exact rule i t s _ _ ⟨.int (g i), H, I.tok _, ⟨_, rfl⟩, q⟩
theorem qbE : UnR X (unaryOp .USub) (rU fun i => .int (-i)) := unI fun _ _ _ _ _ q => neg_int q
end
noncomputable def scal : V → V → Bool
  | .non, .non => true | .non, .int _ => true | .int _, .non => true | .non, .bl _ => true | .bl _, .non => true | .non, .str _ => true | .str _, .non => true
  | .int _, .int _ => true | .bl _, .bl _ => true | .str _, .str _ => true | .byt _, .byt _ => true
  | .int _, .str _ => true | .str _, .int _ => true | .bl _, .str _ => true | .str _, .bl _ => true
  | _, _ => false
noncomputable def rEq : R2 := fun x y H Q => scal x y = true ∧ Q (.bl (decide (x = y))) H
noncomputable def rNe : R2 := fun x y H Q => scal x y = true ∧ Q (.bl (!decide (x = y))) H
theorem qnJ {i j : Int} : decide (V.int i = V.int j) = (i == j) := by
  rw [Bool.eq_iff_iff]
  simp
theorem qqK {i j : Bool} : decide (V.bl i = V.bl j) = (i == j) := by
  rw [Bool.eq_iff_iff]
  simp
theorem dec_str {i j : Str} : decide (V.str i = V.str j) = (i == j) := by
  rw [Bool.eq_iff_iff]
  simp
theorem qnK {i j : Array UInt8} : decide (V.byt i = V.byt j) = (i.toList == j.toList) := by
  rw [Bool.eq_iff_iff]
  cases i
  cases j
  simp
section
variable {X : Cx} {a b c : Expr} {ta tb tc : TE} {pos : Pos}
theorem qbf {pins : List (Addr × Obj)} {σ : St} {H : Hp} {s : Shared} {Q : VK} {k k' : Bool} (I : Inv X pins σ H s) (q : Q (.bl k) H) (e : k = k') : EP X pins σ Q (.bool k') s := by
  subst e
  exact ⟨.bl k, H, I, rfl, q⟩
theorem qcN : OpR X (compareOp .Eq) rEq := by
  intro pins s σ H x y v u Q I rx ry h
  obtain ⟨hs, q⟩ := h
  cases x with
  | non =>
    cases rx
    cases y with
    | non => cases ry; exact PySem.EqNone.eq_none_none (qbf I q (by simp))
    | bl j => cases ry; exact PySem.EqNone.eq_none_bool (qbf I q (by simp))
    | int j => obtain ⟨t', rfl⟩ := ry; exact PySem.EqNone.eq_none_int (qbf I q (by simp))
    | str j => obtain ⟨t', rfl⟩ := ry; exact PySem.EqNone.eq_none_str (qbf I q (by simp))
    | _ => exact absurd (show false = true from hs) Bool.false_ne_true
  | bl i =>
    cases rx
    cases y with
    | non => cases ry; exact PySem.EqNone.eq_bool_none (qbf I q (by simp))
    | bl j => cases ry; exact eq_bool (qbf I q qqK)
    | str j => obtain ⟨t', rfl⟩ := ry; exact PySem.EqMixed.eq_bool_str (qbf I q (by simp))
    | _ => exact absurd (show false = true from hs) Bool.false_ne_true
  | int i =>
    obtain ⟨t, rfl⟩ := rx
    cases y with
    | non => cases ry; exact PySem.EqNone.eq_int_none (qbf I q (by simp))
    | int j => obtain ⟨t', rfl⟩ := ry; exact eq_int (qbf I q qnJ)
    | str j => obtain ⟨t', rfl⟩ := ry; exact PySem.EqMixed.eq_int_str (qbf I q (by simp))
    | _ => exact absurd (show false = true from hs) Bool.false_ne_true
  | str i =>
    obtain ⟨t, rfl⟩ := rx
    cases y with
    | non => cases ry; exact PySem.EqNone.eq_str_none (qbf I q (by simp))
    | bl j => cases ry; exact PySem.EqMixed.eq_str_bool (qbf I q (by simp))
    | int j => obtain ⟨t', rfl⟩ := ry; exact PySem.EqMixed.eq_str_int (qbf I q (by simp))
    | str j => obtain ⟨t', rfl⟩ := ry; exact eq_str (qbf I q dec_str)
    | _ => exact absurd (show false = true from hs) Bool.false_ne_true
  | byt i =>
    obtain ⟨t, rfl⟩ := rx
    cases y with
    | byt j => obtain ⟨t', rfl⟩ := ry; exact PySem.W.eq_bytes (qbf I q qnK)
    | _ => exact absurd (show false = true from hs) Bool.false_ne_true
  | _ => cases y <;> exact absurd (show false = true from hs) Bool.false_ne_true
theorem qgz : OpR X (compareOp .NotEq) rNe := by
  intro pins s σ H x y v u Q I rx ry h
  obtain ⟨hs, q⟩ := h
  cases x with
  | non =>
    cases rx
    cases y with
    | non => cases ry; exact PySem.EqNone.ne_none_none (qbf I q (by simp))
    | bl j => cases ry; exact PySem.EqNone.ne_none_bool (qbf I q (by simp))
    | int j => obtain ⟨t', rfl⟩ := ry; exact PySem.EqNone.ne_none_int (qbf I q (by simp))
    | str j => obtain ⟨t', rfl⟩ := ry; exact PySem.EqNone.ne_none_str (qbf I q (by simp))
    | _ => exact absurd (show false = true from hs) Bool.false_ne_true
  | bl i =>
    cases rx
    cases y with
    | non => cases ry; exact PySem.EqNone.ne_bool_none (qbf I q (by simp))
    | bl j => cases ry; exact ne_bool (qbf I q (congrArg not qqK))
    | str j => obtain ⟨t', rfl⟩ := ry; exact PySem.EqMixed.ne_bool_str (qbf I q (by simp))
    | _ => exact absurd (show false = true from hs) Bool.false_ne_true
  | int i =>
    obtain ⟨t, rfl⟩ := rx
    cases y with
    | non => cases ry; exact PySem.EqNone.ne_int_none (qbf I q (by simp))
    | int j => obtain ⟨t', rfl⟩ := ry; exact ne_int (qbf I q (congrArg not qnJ))
    | str j => obtain ⟨t', rfl⟩ := ry; exact PySem.EqMixed.ne_int_str (qbf I q (by simp))
    | _ => exact absurd (show false = true from hs) Bool.false_ne_true
  | str i =>
    obtain ⟨t, rfl⟩ := rx
    cases y with
    | non => cases ry; exact PySem.EqNone.ne_str_none (qbf I q (by simp))
    | bl j => cases ry; exact PySem.EqMixed.ne_str_bool (qbf I q (by simp))
    | int j => obtain ⟨t', rfl⟩ := ry; exact PySem.EqMixed.ne_str_int (qbf I q (by simp))
    | str j => obtain ⟨t', rfl⟩ := ry; exact ne_str (qbf I q (congrArg not dec_str))
    | _ => exact absurd (show false = true from hs) Bool.false_ne_true
  | byt i =>
    obtain ⟨t, rfl⟩ := rx
    cases y with
    | byt j => obtain ⟨t', rfl⟩ := ry; exact PySem.W.ne_bytes (qbf I q (congrArg not qnK))
    | _ => exact absurd (show false = true from hs) Bool.false_ne_true
  | _ => cases y <;> exact absurd (show false = true from hs) Bool.false_ne_true
theorem qh4 : OpR X (compareOp .Lt) (rI0 fun i j => .bl (decide (i < j))) := qtP fun _ _ _ _ _ _ _ q => lt_int q
theorem qgA : OpR X (compareOp .Gt) (rI0 fun i j => .bl (decide (j < i))) := qtP fun _ _ _ _ _ _ _ q => gt_int q
theorem qrk : OpR X (compareOp .GtE) (rI0 fun i j => .bl (decide (j ≤ i))) := qtP fun _ _ _ _ _ _ _ q => ge_int q
theorem qqL : OpR X (compareOp .Is) (fun x y H Q => y = .non ∧ Q (.bl (decide (x = .non))) H) := by
  intro pins s σ H x y v u Q I rx ry h
  obtain ⟨rfl, q⟩ := h
  cases ry
  refine is_none_gen (qbf I q ?_)
  cases x <;> first
    | (cases rx; rfl)
    | (obtain ⟨t, rfl⟩ := rx; rfl)
theorem qrl : OpR X (compareOp .IsNot) (fun x y H Q => y = .non ∧ Q (.bl (!decide (x = .non))) H) := by
  intro pins s σ H x y v u Q I rx ry h
  obtain ⟨rfl, q⟩ := h
  cases ry
  refine isnot_none_gen (qbf I q ?_)
  cases x <;> first
    | (cases rx; rfl)
    | (obtain ⟨t, rfl⟩ := rx; rfl)
theorem nomark (b : Expr) {op : CmpOp} (h : op ≠ .In := by decide) (h2 : op ≠ .NotIn := by decide) : behindInMarks op b = false := by
  have e1 : (op == CmpOp.In) = false := by cases op <;> first | rfl | exact absurd rfl h
  have e2 : (op == CmpOp.NotIn) = false := by cases op <;> first | rfl | exact absurd rfl h2
  cases b <;> simp [behindInMarks, e1, e2]
theorem qdF {op : CmpOp} {r : R2} (ho : OpR X (compareOp op) r) (ha : PE X a ta) (hb : PE X b tb) (hm : behindInMarks op b = false) : PE X (.Compare a [op] [b] pos) (tOp r ta tb) := by
  intro pins s σ H Q I h
  exact wpAny_Compare1 (qtN ha hb I h fun v u s2 x y H2 I2 rx ry q => ho pins s2 σ H2 x y v u Q I2 rx ry q) hm
noncomputable def qaS (t : TE) : TT := fun σ H Q => t σ H fun x H' => ∃ k, x = .bl k ∧ Q k H'
theorem qau {op : CmpOp} {r : R2} (ho : OpR X (compareOp op) r) (ha : PE X a ta) (hb : PE X b tb) (hm : behindInMarks op b = false) : PT X (.Compare a [op] [b] pos) (qaS (tOp r ta tb)) := by
  intro pins s σ H Q I h
  refine wpAny_isTrue_Compare1 (thn (ha pins s σ H _ I h) fun v s1 ⟨x, H1, I1, r1, q1⟩ => thn (hb pins s1 σ H1 _ I1 q1) fun u s2 ⟨y, H2, I2, r2, q2⟩ =>
    thn (ho pins s2 σ H2 x y v u _ I2 r1 r2 q2) fun c s3 ⟨z, H3, I3, r3, k, e, q3⟩ => ?_) hm
  subst e
  cases r3
  exact wpAny_truthy_bool ⟨H3, I3, q3⟩
noncomputable def qqM (r r' : R2) (ta tb tc : TE) : TE := fun σ H Q => ta σ H fun x H1 => tb σ H1 fun y H2 => r x y H2 fun z H3 => ∃ k, z = .bl k ∧
  (if k = true then tc σ H3 fun w' H4 => r' y w' H4 Q else Q (.bl false) H3)
noncomputable def qux (K : PySem.W.Frag) (x : V) (H : Hp) (k : Bool) : Prop :=
  match x with
  | .non => k = false
  | .bl b => k = b
  | .int i => k = (i != 0)
  | .str y => y.length ≤ sizeLine ∧ k = ((y.length : Int) != 0)
  | .byt y => y.size ≤ sizeLine ∧ k = ((y.size : Int) != 0)
  | .ref p => (∃ xs, SqL K H p xs ∧ k = !xs.isEmpty) ∨ (∃ xs, SqT K H p xs ∧ k = !xs.isEmpty) ∨ ∃ kvs, H p = some (.dK kvs) ∧ k = !kvs.isEmpty
  | _ => False
theorem qmN {κ : Type} {kvs : List (κ × V)} {vs : List (κ × Value)} (r : KV kvs vs) : (!vs.isEmpty) = !kvs.isEmpty := by
  cases r <;> rfl
theorem qiq {xs : List V} {its : List Value} (r : Vals xs its) : (!its.toArray.isEmpty) = !xs.isEmpty := by
  cases r <;> simp
theorem qir : (sizeLine : Nat) < 2 ^ 63 := by rw [sizeLine_eq]; decide
theorem qsK : quw X (fun x H Q => ∃ k, qux X.K x H k ∧ Q k H) := by
  intro pins s σ H x v Q I rx h
  obtain ⟨k, e, q⟩ := h
  have hl := qir
  have hs : sizeLine = 16777216 := sizeLine_eq
  cases x with
  | non =>
    cases rx
    have e' : k = false := e
    subst e'
    exact truthy_none ⟨H, I, q⟩
  | bl b =>
    cases rx
    have e' : k = b := e
    subst e'
    exact wpAny_truthy_bool ⟨H, I, q⟩
  | int i =>
    obtain ⟨t, rfl⟩ := rx
    have e' : k = (i != 0) := e
    subst e'
    exact PySem.P.truthy_int ⟨H, I, q⟩
  | str y =>
    obtain ⟨t, rfl⟩ := rx
    obtain ⟨hy, e'⟩ : y.length ≤ sizeLine ∧ k = ((y.length : Int) != 0) := e
    subst e'
    exact PySem.P.truthy_str (by omega) ⟨H, I.tok _, q⟩
  | byt y =>
    obtain ⟨t, rfl⟩ := rx
    obtain ⟨hy, e'⟩ : y.size ≤ sizeLine ∧ k = ((y.size : Int) != 0) := e
    subst e'
    exact PySem.W.truthy_bytes (by omega) ⟨H, I.tok _, q⟩
  | ref p =>
    cases rx
    have e' : (∃ xs, SqL X.K H p xs ∧ k = !xs.isEmpty) ∨ (∃ xs, SqT X.K H p xs ∧ k = !xs.isEmpty) ∨ ∃ kvs, H p = some (.dK kvs) ∧ k = !kvs.isEmpty := e
    rcases e' with ⟨xs, hx, e'⟩ | ⟨xs, hx, e'⟩ | ⟨kvs, hx, e'⟩
    · subst e'
      obtain ⟨its, r, pl, hz⟩ := I.list hx
      have hlen := r.length
      exact wpAny_truthy_list pl.isList (by simp only [List.size_toArray]; omega) ⟨H, I.tok _, by rw [qiq r]; exact q⟩
    · subst e'
      obtain ⟨its, r, pl, hz⟩ := I.tuple hx
      have hlen := r.length
      exact truthy_tuple pl (by simp only [List.size_toArray]; omega) ⟨H, I.tok _, by rw [qiq r]; exact q⟩
    · subst e'
      obtain ⟨hz, hS, vs, r, m⟩ : kvs.length ≤ sizeLine ∧ (p == sysModules) = false ∧ ∃ vs, KV kvs vs ∧ s.heap.DictOf (qkV X.prog X.w) p vs := I.hok p _ hx
      have hlen : kvs.length = vs.length := Paired.length r
      exact wpAny_truthy_dict hS m (by omega) ⟨H, I.tok _, by rw [qmN r]; exact q⟩
  | _ => exact (show False from e).elim
theorem qmO : OpR X (binaryOp .Add) (fun x y H Q => ∃ i j, x = .str i ∧ y = .str j ∧ i.length + j.length ≤ sizeLine ∧ Q (.str (i ++ j)) H) := by
  intro pins s σ H x y v u Q I rx ry h
  obtain ⟨i, j, rfl, rfl, hz, q⟩ := h
  obtain ⟨t, rfl⟩ := rx
  obtain ⟨t', rfl⟩ := ry
  exact add_str (fun t' tk => ⟨.str (i ++ j), H, I.tok _, ⟨_, rfl⟩, q⟩) hz
theorem qkZ : OpR X (inplaceOp .Add) (fun x y H Q => ∃ i j, x = .str i ∧ y = .str j ∧ i.length + j.length ≤ sizeLine ∧ Q (.str (i ++ j)) H) := by
  intro pins s σ H x y v u Q I rx ry h
  obtain ⟨i, j, rfl, rfl, hz, q⟩ := h
  obtain ⟨t, rfl⟩ := rx
  obtain ⟨t', rfl⟩ := ry
  exact iadd_str (fun t' tk => ⟨.str (i ++ j), H, I.tok _, ⟨_, rfl⟩, q⟩) hz
theorem qfR {x : V} {us : List Value} (r : Vals [x] us) : ∃ u, us = [u] ∧ RelV x u := by
  cases r with
  | cons r1 r2 => cases r2; exact ⟨_, rfl, r1⟩
theorem vals2 {x y : V} {us : List Value} (r : Vals [x, y] us) : ∃ u w', us = [u, w'] ∧ RelV x u ∧ RelV y w' := by
  cases r with
  | cons r1 r2 =>
    cases r2 with
    | cons r3 r4 => cases r4; exact ⟨_, _, rfl, r1, r3⟩
theorem qpP : qdg X (.builtin "abs") (fun xs H Q => ∃ i, xs = [.int i] ∧ Q (.int (if i < 0 then -i else i)) H) := by
  intro pins s σ H xs us Q I r h
  obtain ⟨i, rfl, q⟩ := h
  obtain ⟨u, rfl, t, rfl⟩ := qfR r
  exact call_abs_int fun u tk => ⟨.int (if i < 0 then -i else i), H, I.tok _, ⟨_, rfl⟩, q⟩
theorem qnL (hc : X.calm = true) : qdg X (.builtin "max") (fun xs H Q => ∃ i j, xs = [.int i, .int j] ∧ Q (.int (if j > i then j else i)) H) := by
  intro pins s σ H xs us Q I r h
  obtain ⟨i, j, rfl, q⟩ := h
  obtain ⟨u, w', rfl, ⟨t, rfl⟩, ⟨t', rfl⟩⟩ := vals2 r
  refine max_two_ints (I.ok.hd hc) fun h' tk k => ⟨_, H, I.kept k, ?_, q⟩
  by_cases hj : j > i
  · rw [if_pos hj, if_pos hj]; exact ⟨_, rfl⟩
  · rw [if_neg hj, if_neg hj]; exact ⟨_, rfl⟩
theorem qnM (hc : X.calm = true) : qdg X (.builtin "min") (fun xs H Q => ∃ i j, xs = [.int i, .int j] ∧ Q (.int (if j < i then j else i)) H) := by
  intro pins s σ H xs us Q I r h
  obtain ⟨i, j, rfl, q⟩ := h
  obtain ⟨u, w', rfl, ⟨t, rfl⟩, ⟨t', rfl⟩⟩ := vals2 r
  refine min_two_ints (I.ok.hd hc) fun h' tk k => ⟨_, H, I.kept k, ?_, q⟩
  by_cases hj : j < i
  · rw [if_pos hj, if_pos hj]; exact ⟨_, rfl⟩
  · rw [if_neg hj, if_neg hj]; exact ⟨_, rfl⟩
theorem qnN : qdg X (.type "int") (fun xs H Q => (∃ i, xs = [.int i] ∧ Q (.int i) H) ∨ ∃ k, xs = [.bl k] ∧ Q (.int (if k then 1 else 0)) H) := by
  intro pins s σ H xs us Q I r h
  rcases h with ⟨i, rfl, q⟩ | ⟨k, rfl, q⟩
  · obtain ⟨u, rfl, t, rfl⟩ := qfR r
    exact call_int_int ⟨.int i, H, I, ⟨_, rfl⟩, q⟩
  · obtain ⟨u, rfl, r1⟩ := qfR r
    cases r1
    exact call_int_bool ⟨.int (if k then 1 else 0), H, I.tok _, ⟨_, rfl⟩, q⟩
theorem qjU : qdg X (.type "str") (fun xs H Q => ∃ i, xs = [.int i] ∧ i.natAbs.log2 < 1920 ∧ Q (.str (toString i)) H) := by
  intro pins s σ H xs us Q I r h
  obtain ⟨i, rfl, hz, q⟩ := h
  obtain ⟨u, rfl, t, rfl⟩ := qfR r
  exact PySem.P.str_of_int hz ⟨.str _, H, I.tok _, ⟨_, rfl⟩, q⟩
end
end L2
namespace L2
open PySem PySem.Spec PyProof.Rows
structure ObjM (h : Heap) (x dx C : Addr) (mA : Str → Option Value) : Prop where
  obj : h.get? x = some (PySem.W.instObj C dx)
  ns : h.Ns1 dx mA
  ne : dx ≠ x
theorem qnO {h : Heap} {dx : Addr} {mA : Str → Option Value} (n : h.Ns1 dx mA) : ∃ od, h.get? dx = some od ∧ ∀ name, PySem.W.lookIn name od = some (mA name) := by
  obtain ⟨o, es, ep, ho, hd, hk, _, hm⟩ := n
  refine ⟨o, ho, fun name => ?_⟩
  have e := hm name
  unfold nsFind findBy at e
  rw [← Array.find?_toList] at e
  unfold PySem.W.lookIn
  rw [hd]
  dsimp only
  split
  · rename_i y q
    rw [q] at e
    exact congrArg some e
  · rename_i q
    rw [q] at e
    have a : es.toList.any (·.refKey) = false := by
      rw [List.any_eq_false]
      intro y hy
      obtain ⟨z, t, hkey⟩ := hk y (Array.mem_toList_iff.mp hy)
      simp [DictEntry.refKey, hkey]
    have a' : ¬ es.toList.any (·.refKey) = true := by rw [a]; exact Bool.false_ne_true
    rw [if_neg a']
    exact congrArg some e
theorem ObjM.look {h : Heap} {x dx C : Addr} {mA : Str → Option Value} (I : ObjM h x dx C mA) : ∃ od, PySem.W.InstAt h x (PySem.W.instObj C dx) C (some od) ∧ ∀ name, PySem.W.lookIn name od = some (mA name) :=
  let ⟨od, ho, hl⟩ := qnO I.ns
  ⟨od, ⟨I.obj, rfl, rfl, ho⟩, hl⟩
section
variable {prog : Program} {w : World} {A : Around} {E : Value → Shared → Prop} {s : Shared} {K : PySem.W.Frag} {x dx C f : Addr} {mA : Str → Option Value} {name : Str} {v : Value}
end
section
variable {P : Program} {w : World} {H H' : Hp} {h h' : Heap} {a C dx : Addr} {fs fs' : List (Str × V)}
theorem qrm (hok : HOk P w H h) (e : H a = some (.ins C dx fs)) : ∃ mA, ObjM h a dx C mA ∧ (∀ f, qtM (fs.lookup f) (mA f)) ∧ PySem.Within mA (fs.map (·.1)) ∧ fs.length ≤ 1000 ∧ H dx = some (.own a) := by
  obtain ⟨d, z, ne, ob, mA, n, r, q⟩ := (show ObjOk P w H h a (.ins C dx fs) from hok a _ e)
  exact ⟨mA, ⟨ob, n, ne⟩, r, q, z, d⟩
end
structure Cls (K : PySem.W.Frag) (C : Addr) : Prop where
  pg : PySem.W.plainGet K C Str.empty = true
  hd : PySem.W.hasDictIn K C = true
  po : PySem.W.plainOver K C = true
  sa : PySem.W.findIn K (.ref C) "__setattr__" = some (some (.builtin "object.__setattr__"))
theorem Cls.get {K : PySem.W.Frag} {C : Addr} (c : Cls K C) (f : Str) : PySem.W.plainGet K C f = true := c.pg
structure Con (K : PySem.W.Frag) (C : Addr) (f : Str) (v : V) (u : Value) : Prop where
  at_ : PySem.W.findIn K (.ref C) f = some (some u)
  rel : RelV v u
  get : PySem.W.specialIn K u "__get__" = some none
  cp : PySem.W.copiedNames.contains f = false
structure Meth (K : PySem.W.Frag) (C : Addr) (m : Str) (f : Addr) : Prop where
  at_ : PySem.W.findIn K (.ref C) m = some (some (.ref f))
  fn : PySem.W.isFn K (.ref f) = true
  kp : PySem.W.keepIn K (.ref f) = true
section
variable {X : Cx} {pins : List (Addr × Obj)} {σ : St} {H : Hp} {s : Shared} {a C dx : Addr} {fs : List (Str × V)} {f : Str} {v : V} {A : Around} {E : Value → Shared → Prop}
end
section
variable {X : Cx} {o e value : Expr} {f : Str} {pos pos' tpos : Pos} {ta tv : TE}
end
section
variable {X : Cx} {pins : List (Addr × Obj)} {σ : St} {H : Hp} {s : Shared} {A : Around} {E : Value → Shared → Prop} {Q : Value → Shared → Prop} {c : Value} {b : Bool}
inductive TyOf (K : PySem.W.Frag) (H : Hp) : V → Value → Prop where
  | non : TyOf K H .non (.type "NoneType")
  | bl (x : Bool) : TyOf K H (.bl x) (.type "bool")
  | int (i : Int) : TyOf K H (.int i) (.type "int")
  | str (x : Str) : TyOf K H (.str x) (.type "str")
  | flt (x : UInt64) : TyOf K H (.flt x) (.type "float")
  | lst {a : Addr} {xs : List V} (e : H a = some (.lst xs)) : TyOf K H (.ref a) (.type "list")
  | frz {a : Addr} {o : Obj} {xs : List V} (e : H a = some (.frz o (.lst xs))) : TyOf K H (.ref a) (.type "list")
  | tup {a : Addr} {xs : List V} (e : H a = some (.tup xs)) : TyOf K H (.ref a) (.type "tuple")
  | dK {a : Addr} {kvs : List (Key × V)} (e : H a = some (.dK kvs)) : TyOf K H (.ref a) (.type "dict")
  | dT {a : Addr} {kvs : List (List Key × V)} (e : H a = some (.dT kvs)) : TyOf K H (.ref a) (.type "dict")
  | ins {a C dx : Addr} {fs : List (Str × V)} (e : H a = some (.ins C dx fs)) (cl : Cls K C) (ha : PySem.W.findIn K (.ref C) "__class__" = some (some (.builtin "object.__class__")))
      (hn : PySem.W.specialIn K (.builtin "object.__class__") "__get__" = some (some (.builtin "getset_descriptor.__get__"))) (htk : PySem.W.takesIn K (.builtin "object.__class__") = some true)
      (hm : PySem.W.mroIn K C (.type "object") = some true) : TyOf K H (.ref a) (.ref C)
theorem qnP {x : V} {u t : Value} (I : Inv X pins σ H s) (rx : RelV x u) (ty : TyOf X.K H x t) (e : PySem.W.kitOne X.K t c = some b) (h : ∀ tk, Q (.bool b) { s with toks := tk }) :
    wpAny (model X.prog X.w) A (call (.builtin "isinstance") [u, c]) Q E s := by
  cases ty with
  | non => cases (show u = Value.none from rx); exact PySem.W.kia_one PySem.W.kitx_none I.kIn True.intro e (fun z => nomatch z) h
  | bl y => cases (show u = Value.bool y from rx); exact PySem.W.kia_one PySem.W.kitx_bool I.kIn True.intro e (fun z => nomatch z) h
  | int i => obtain ⟨t, q⟩ := (show ∃ t, u = Value.int i t from rx); cases q; exact PySem.W.kia_one PySem.W.kitx_int I.kIn True.intro e (fun z => nomatch z) h
  | str y => obtain ⟨t, q⟩ := (show ∃ t, u = Value.str y t from rx); cases q; exact PySem.W.kia_one PySem.W.kitx_str I.kIn True.intro e (fun z => nomatch z) h
  | flt y => obtain ⟨t, q⟩ := (show ∃ t, u = Value.float y t from rx); cases q; exact PySem.W.kia_one PySem.W.kitx_float I.kIn True.intro e (fun z => nomatch z) h
  | @lst a xs ea =>
    cases (show u = Value.ref a from rx)
    obtain ⟨_, _, n, _, h1⟩ := (show ObjOk X.prog X.w H s.heap a (.lst xs) from I.hok a _ ea)
    exact PySem.W.kia_one PySem.W.kitx_list I.kIn ⟨_, h1, rfl⟩ e (fun z => nomatch z) h
  | @frz a ob xs ea =>
    cases (show u = Value.ref a from rx)
    obtain ⟨_, _, _, n, _, h1⟩ := (show ObjOk X.prog X.w H s.heap a (.frz ob (.lst xs)) from I.hok a _ ea)
    exact PySem.W.kia_one PySem.W.kitx_list I.kIn ⟨_, h1, rfl⟩ e (fun z => nomatch z) h
  | @tup a xs ea =>
    cases (show u = Value.ref a from rx)
    obtain ⟨_, _, _, p⟩ := (show ObjOk X.prog X.w H s.heap a (.tup xs) from I.hok a _ ea)
    obtain ⟨o, h1, h2, _⟩ := p
    exact PySem.W.kia_one PySem.W.kitx_tuple I.kIn ⟨o, h1, h2⟩ e (fun z => nomatch z) h
  | @dK a kvs ea =>
    cases (show u = Value.ref a from rx)
    obtain ⟨_, _, vs, _, p⟩ := (show ObjOk X.prog X.w H s.heap a (.dK kvs) from I.hok a _ ea)
    obtain ⟨o, es, ep, h1, h2, _⟩ := p
    exact PySem.W.kia_one PySem.W.kitx_dict I.kIn ⟨o, h1, h2.1⟩ e (fun z => nomatch z) h
  | @dT a kvs ea =>
    cases (show u = Value.ref a from rx)
    obtain ⟨_, _, xs, _, o, es, ep, h1, h2, _⟩ := (show ObjOk X.prog X.w H s.heap a (.dT kvs) from I.hok a _ ea)
    exact PySem.W.kia_one PySem.W.kitx_dict I.kIn ⟨o, h1, h2.1⟩ e (fun z => nomatch z) h
  | @ins a C dx fs ea cl ha hn htk hm =>
    cases (show u = Value.ref a from rx)
    obtain ⟨mA, O, _⟩ := qrm I.hok ea
    obtain ⟨od, J, _⟩ := O.look
    exact PySem.W.kia_one (PySem.W.kitx_own (cl.get _) cl.hd ha hn htk hm) I.kIn J e (fun z => nomatch z) h
end
end L2
namespace L2
open PySem PySem.Spec PyProof.Rows
structure Room (k : Nat) (A : Around) : Prop where
  hd : A.handled = none
  dp : A.depth + 3 * k + 105 < recursionLimit
  un : A.units + 16 * k + 200 < cLine
theorem Room.mono {j k : Nat} {A : Around} (r : Room k A) (h : j ≤ k) : Room j A := ⟨r.hd, by have := r.dp; omega, by have := r.un; omega⟩
theorem Room.deeper {k : Nat} {A : Around} (r : Room (k + 1) A) (env : Env) : Room k (A.deeper env) :=
  ⟨r.hd, by have := r.dp; show A.depth + 1 + 3 * k + 105 < _; omega, by have := r.un; show A.units + 3 + 16 * k + 200 < _; omega⟩
theorem Room.in1 {k : Nat} {A : Around} (r : Room (k + 1) A) : Room k A.in1 :=
  ⟨r.hd, by have := r.dp; show A.depth + 3 * k + 105 < _; omega, by have := r.un; show A.units + 1 + 16 * k + 200 < _; omega⟩
theorem Room.depth {k : Nat} {A : Around} (r : Room k A) : A.depth < recursionLimit := by have := r.dp; omega
theorem Room.units {k : Nat} {A : Around} (r : Room k A) : A.units + 64 < cLine := by have := r.un; omega
theorem Room.units0 {k : Nat} {A : Around} (r : Room k A) : A.units < cLine := by have := r.un; omega
noncomputable def qao : TA := fun _ H Q => Q [] H
noncomputable def qab (ta : TE) (tr : TA) : TA := fun σ H Q => ta σ H fun x H1 => tr σ H1 fun xs H2 => Q (x :: xs) H2
section
variable {X : Cx} {e : Expr} {es : List Expr} {te : TE} {t : TA} {pos : Pos}
theorem qac : PA X [] qao := fun _ _ _ _ H Q I h => Calls.spliced_nil ⟨[], H, I, .nil, h⟩
theorem qaa (ha : PE X e te) (hr : PA X es t) (hs : starEach (e :: es) X.env = (false, eval e X.env) :: starEach es X.env := by rfl) : PA X (e :: es) (qab te t) := by
  intro pos pins s σ H Q I h
  rw [hs]
  show wpAny _ _ (spliced ((false, eval e X.env) :: backTo pos (starEach es X.env))) _ _ s
  refine Calls.spliced_cons (thn (ha pins s σ H _ I h) fun u s1 ⟨x, H1, I1, r1, q1⟩ => ?_)
  exact thn (hr pos pins s1 σ H1 _ I1 q1) fun us s2 ⟨xs, H2, I2, r2, q2⟩ => ⟨x :: xs, H2, I2, .cons r1 r2, q2⟩
noncomputable def qcW (t : TA) : TE := fun σ H Q => t σ H fun xs H1 => xs.length ≤ sizeLine ∧ ∀ p, H1 p = none → Q (.ref p) (upd H1 p (.tup xs))
noncomputable def qh5 (t : TA) : TE := fun σ H Q => t σ H fun xs H1 => xs.length ≤ sizeLine ∧ ∀ p, H1 p = none → Q (.ref p) (upd H1 p (.lst xs))
theorem qa5 {x1} (h : PA X es t) : PE X (.Tuple es x1 pos) (qcW t) := by
  intro pins s σ H Q I hq
  refine wpAny_Tuple_spliced (thn (h pos pins s σ H _ I hq) fun us s1 ⟨xs, H1, I1, r, z, q⟩ => ⟨by rw [← r.length]; exact z, ?_⟩)
  have hf : H1 s1.heap.objs.size = none := I1.hok.fresh (Nat.le_refl _)
  refine ⟨.ref s1.heap.objs.size, upd H1 s1.heap.objs.size (.tup xs), I1.laid (t' := s1.toks) (fun b u e => Heap.get?_push_of_some _ e) (Nat.le_refl _) ?_, rfl, q _ hf⟩
  exact ⟨z, us, r, ⟨_, Heap.get?_push_size _ rfl, rfl, _, rfl⟩⟩
theorem qcK (h : PA X es t) : PE X (.List es pos) (qh5 t) := by
  intro pins s σ H Q I hq
  refine wpAny_List_spliced (thn (h pos pins s σ H _ I hq) fun us s1 ⟨xs, H1, I1, r, z, q⟩ => ⟨by rw [← r.length]; exact z, ?_⟩)
  have hf : H1 s1.heap.objs.size = none := I1.hok.fresh (Nat.le_refl _)
  refine ⟨.ref s1.heap.objs.size, upd H1 s1.heap.objs.size (.lst xs), I1.laid (t' := s1.toks) (fun b u e => Heap.get?_push_of_some _ e) (Nat.le_refl _) ?_, rfl, q _ hf⟩
  exact ⟨z, us, 0, r, Heap.get?_push_size _ rfl⟩
end
noncomputable abbrev Sp := List V → Hp → VK → XK → Prop
noncomputable abbrev CXT := List Env → Hp → Shared → XK → Value → Shared → Prop
structure Env0 (P : Program) (w : World) (K : PySem.W.Frag) (mg : Str → Option Value) (base : Heap) (A : Around) (outer : List Env) (s : Shared) (H : Hp) : Prop where
  frames : A.frames = some outer
  mod : Mod K mg base
  bs : ∀ b o, base.get? b = some o → s.heap.get? b = some o ∧ H b = none
  bsz : base.objs.size ≤ s.heap.objs.size
  funs : s.heap.FunFrames base outer
  frf : ∀ b ∈ frs outer, H b = none
  hok : HOk P w H s.heap
  bare : AllBare s.gens
  seer : base.NoSeer
  tree : (model P w).prog.given.tree = none
noncomputable def CE (outer : List Env) (P : Program) (w : World) (H : Hp) (s : Shared) (Q : VK) (u : Value) (s' : Shared) : Prop :=
  ∃ v H', s'.os = s.os ∧ AllBare s'.gens ∧ Un (frs outer) [] H H' s.heap s'.heap ∧ HOk P w H' s'.heap ∧ RelV v u ∧ Q v H'
noncomputable def CR (CX : CXT) (outer : List Env) (P : Program) (w : World) (H : Hp) (s : Shared) (Q : VK) (E : XK) (r : Result) (s' : Shared) : Prop :=
  match r with
  | .ok (.ret u) => CE outer P w H s Q u s'
  | .ok _ => False
  | .error e => CX outer H s E e s'
structure FnOk (P : Program) (w : World) (K : PySem.W.Frag) (mg : Str → Option Value) (base : Heap) (CX : CXT) (k : Nat) (f : Addr) (fd : FuncData) (ps : List Str) (sp : Sp) : Prop where
  len : ∀ vs H Q E, sp vs H Q E → vs.length = ps.length
  run : ∀ (A : Around) (outer : List Env) (s : Shared) (H : Hp) (args : Args) (us : List Value) (vs : List V) (Q : VK) (E : XK), Room k A → Env0 P w K mg base A outer s H → BindsTo s fd args (ps.zip us) → Vals vs us → sp vs H Q E →
    codeAny (model P w) A (.call (.ref f) args) (CR CX outer P w H s Q E) s
theorem FnOk.mono {P : Program} {w : World} {K : PySem.W.Frag} {mg : Str → Option Value} {base : Heap} {CX : CXT} {j k : Nat} {f : Addr} {fd : FuncData} {ps : List Str} {sp : Sp} (F : FnOk P w K mg base CX j f fd ps sp) (h : j ≤ k) :
    FnOk P w K mg base CX k f fd ps sp := ⟨F.len, fun A outer s H args us vs Q E hr => F.run A outer s H args us vs Q E (hr.mono h)⟩
theorem FnOk.imp {P : Program} {w : World} {K : PySem.W.Frag} {mg : Str → Option Value} {base : Heap} {CX : CXT} {k : Nat} {f : Addr} {fd : FuncData} {ps : List Str} {sp sp' : Sp} (F : FnOk P w K mg base CX k f fd ps sp)
    (h : ∀ vs H Q E, sp' vs H Q E → sp vs H Q E) : FnOk P w K mg base CX k f fd ps sp' :=
  ⟨fun vs H Q E q => F.len vs H Q E (h _ _ _ _ q), fun A outer s H args us vs Q E hr he hb hv hs => F.run A outer s H args us vs Q E hr he hb hv (h _ _ _ _ hs)⟩
theorem Env0.in1 {P : Program} {w : World} {K : PySem.W.Frag} {mg : Str → Option Value} {base : Heap} {A : Around} {outer : List Env} {s : Shared} {H : Hp} (e : Env0 P w K mg base A outer s H) :
    Env0 P w K mg base A.in1 outer s H := ⟨e.frames, e.mod, e.bs, e.bsz, e.funs, e.frf, e.hok, e.bare, e.seer, e.tree⟩
section
variable {X : Cx} {pins : List (Addr × Obj)} {σ : St} {H : Hp} {s s' : Shared}
theorem Inv.env0 (I : Inv X pins σ H s) : Env0 X.prog X.w X.K X.mg X.base X.A X.stack s H :=
  ⟨I.ok.frames, I.ok.mod, I.bs, Nat.le_trans I.ok.bsz I.sz, I.stack, I.stkFree, I.hok, I.bare, I.ok.seer, I.ok.tree⟩
theorem Inv.after {Q : VK} {u : Value} (I : Inv X pins σ H s) (h : CE X.stack X.prog X.w H s Q u s') : EP X pins σ Q u s' := by
  obtain ⟨v, H', os, bare, un, hok, r, q⟩ := h
  obtain ⟨hh, g, d, t, os'⟩ := s'
  obtain rfl : os' = s.os := os
  exact ⟨v, H', I.call (h' := hh) (g' := g) (d' := d) (t' := t) (ch := []) un hok bare (fun b z => absurd z (by simp)), r, q⟩
end
noncomputable def qar (sp : Sp) (dvs : List V) (E : XK) (t : TA) : TE := fun σ H Q => t σ H fun vs H1 => sp (vs ++ dvs) H1 Q E
noncomputable def Binds (K : PySem.W.Frag) (fd : FuncData) (ps : List Str) (ds : List Value) : Prop :=
  ∀ (s : Shared) (us : List Value), K.In s.heap → (us ++ ds).length = ps.length → BindsTo s fd ⟨us, []⟩ (ps.zip (us ++ ds))
theorem Binds.all {K : PySem.W.Frag} {fd : FuncData} {ps : List Str} (h : ∀ us : List Value, us.length = ps.length → bindArgs fd ⟨us, []⟩ = pure (ps.zip us)) : Binds K fd ps [] := fun s us _ hl => by
  rw [List.append_nil] at hl ⊢
  exact .of_eq (h us hl)
noncomputable def Passes (CX : CXT) (X : Cx) (E : XK) : Prop := ∀ (pins : List (Addr × Obj)) (σ : St) (H : Hp) (s : Shared) (e : Value) (s' : Shared), Inv X pins σ H s → CX X.stack H s E e s' → X.xe e s'
section
variable {X : Cx} {CX : CXT} {k : Nat} {f C : Addr} {fd : FuncData} {ps : List Str} {sp : Sp} {dvs : List V} {ds : List Value} {E : XK} {x m : Str} {p pos apos : Pos} {e o : Expr} {es : List Expr} {ta : TE} {t : TA}
theorem qsL {pins : List (Addr × Obj)} {σ : St} {H : Hp} {s : Shared} {Q : VK} {us : List Value} {vs : List V} (F : FnOk X.prog X.w X.K X.mg X.base CX k f fd ps sp) (hr : Room k X.A) (hb : Binds X.K fd ps ds) (hd : Vals dvs ds) (hx : Passes CX X E)
    (I : Inv X pins σ H s) (r : Vals vs us) (h : sp (vs ++ dvs) H Q E) : wpAny (model X.prog X.w) X.A (call (.ref f) us) (EP X pins σ Q) X.xe s := by
  have r2 : Vals (vs ++ dvs) (us ++ ds) := r.append hd
  have hl : (us ++ ds).length = ps.length := by rw [← r2.length]; exact F.len _ _ _ _ h
  refine wpAny_call (codeAny_mono (F.run X.A X.stack s H ⟨us, []⟩ (us ++ ds) (vs ++ dvs) Q E hr I.env0 (hb s us I.kIn hl) r2 h) fun r s' hq => ?_)
  cases r with
  | error e => exact hx pins σ H s e s' I hq
  | ok fl =>
    cases fl with
    | ret u => exact I.after hq
    | next => exact False.elim hq
    | brk => exact False.elim hq
    | cont => exact False.elim hq
theorem qrn (F : FnOk X.prog X.w X.K X.mg X.base CX k f fd ps sp) (hr : Room k X.A) (hg : Gl X x) (hm : X.mg x = some (.ref f)) (hk : PySem.W.keepIn X.K (.ref f) = true) (hb : Binds X.K fd ps ds) (hd : Vals dvs ds) (hx : Passes CX X E)
    (ha : PA X (e :: es) t) (hdb : (x == ("__debug__" : Str)) = false := by decide) (he : starEach (e :: es) X.env = (false, eval e X.env) :: starEach es X.env := by rfl) (hpl : (backTo pos (starEach es X.env)).any (·.1) = false := by rfl) :
    PE X (.Call (.Name x p) (e :: es) [] pos) (qar sp dvs E t) := by
  intro pins s σ H Q I h
  refine wpAny_Call_Name_kw (qnx I hg hm ?_ hdb)
  refine PySem.W.callWith_K (h₀ := X.base) I.ok.mod.kin hk (thn (ha pos pins s σ H _ I h) fun us s1 ⟨vs, H1, I1, r, q⟩ => ⟨I1.kIn, ?_⟩) he hpl
  exact qsL F hr hb hd hx I1 r q
structure Mk (K : PySem.W.Frag) (C f : Addr) : Prop where
  makes : PySem.W.makesIn K C = true
  init : PySem.W.findIn K (.ref C) "__init__" = some (some (.ref f))
  fn : PySem.W.isFn K (.ref f) = true
  kp : PySem.W.keepIn K (.ref C) = true
end
noncomputable def PK (X : Cx) (kws : List Keyword) (t : TA) : Prop :=
  ∀ (pos : Pos) (pins : List (Addr × Obj)) (s : Shared) (σ : St) (H : Hp) (Q : List V → Hp → Prop), Inv X pins σ H s → t σ H Q → wpAny (model X.prog X.w) X.A (evalAll ((backToKw pos (keywordEach kws X.env)).map (·.2))) (AP X pins σ Q) X.xe s
section
variable {X : Cx} {CX : CXT} {k : Nat} {f C : Addr} {fd : FuncData} {ps ks : List Str} {sp : Sp} {E : XK} {x m : Str} {p pos apos kpos : Pos} {e o : Expr} {es : List Expr} {kws : List Keyword} {te ta : TE} {t tk : TA} {nm : Option Str}
theorem qsM : PK X [] qao := fun _ _ _ _ H Q I h => wpAny_evalAll_nil ⟨[], H, I, .nil, h⟩
theorem qro (ha : PE X e te) (hr : PK X kws t) : PK X (⟨nm, e, kpos⟩ :: kws) (qab te t) := by
  intro pos pins s σ H Q I h
  show wpAny _ _ (evalAll ((do let v ← eval e X.env; standAt pos; pure v) :: (backToKw pos (keywordEach kws X.env)).map (·.2))) _ _ s
  refine wpAny_evalAll_cons (wpAny_bind (thn (ha pins s σ H _ I h) fun u s1 ⟨x, H1, I1, r1, q1⟩ => wpAny_bind (wpAny_standAt (wpAny_pure ?_))))
  exact thn (hr pos pins s1 σ H1 _ I1 q1) fun us s2 ⟨xs, H2, I2, r2, q2⟩ => ⟨x :: xs, H2, I2, .cons r1 r2, q2⟩
structure KBinds (K : PySem.W.Frag) (fd : FuncData) (ps ks : List Str) (g : List Value → List Value → List Value) (gV : List V → List V → List V) : Prop where
  to : ∀ (s : Shared) (us ws : List Value), K.In s.heap → (g us ws).length = ps.length → BindsTo s fd ⟨us, ks.zip ws⟩ (ps.zip (g us ws))
  rel : ∀ {vs : List V} {us : List Value} {zs : List V} {ws : List Value}, Vals vs us → Vals zs ws → Vals (gV vs zs) (g us ws)
variable {g : List Value → List Value → List Value} {gV : List V → List V → List V}
end
structure FnScope (N P : List Str) (sc : Scope) : Prop where
  kind : sc.kind = .function
  co : sc.isCoroutine = false
  gen : sc.isGenerator = false
  nd : N.Nodup
  pre : N.take P.length = P
  par : ∀ x ∈ P, sc.names.lookup x = some .local ∨ sc.names.lookup x = some .cell
  nofree : ∀ y ∈ sc.names, y.2 ≠ .free
theorem qjV {kindOf : Str → Option NameKind} {x : Str} : ∀ {binds : List (Str × Value)} {m : Str → Option Value}, (∀ v, (x, v) ∉ binds) → bindL kindOf binds m x = m x
  | [], _, _ => rfl
  | (n, v) :: r, m, h => by
    unfold bindL
    rw [qjV fun w hw => h w (List.mem_cons_of_mem _ hw)]
    split
    · have : x ≠ n := by rintro rfl; exact h v List.mem_cons_self
      simp [this]
    · rfl
theorem qjW {kindOf : Str → Option NameKind} {x : Str} : ∀ {binds : List (Str × Value)} {m : Str → Option Value}, (∀ v, (x, v) ∉ binds) → bindC kindOf binds m x = m x
  | [], _, _ => rfl
  | (n, v) :: r, m, h => by
    unfold bindC
    rw [qjW fun w hw => h w (List.mem_cons_of_mem _ hw)]
    split
    · rfl
    · have : x ≠ n := by rintro rfl; exact h v List.mem_cons_self
      simp [this]
theorem qjX {kindOf : Str → Option NameKind} {x : Str} {v : Value} : ∀ {P : List Str} {vs : List Value} {i : Nat} {m : Str → Option Value}, P.Nodup → P[i]? = some x → vs[i]? = some v → kindOf x = some .local →
    bindL kindOf (P.zip vs) m x = some v
  | [], _, _, _, _, h, _, _ => by simp at h
  | _ :: _, [], _, _, _, _, h, _ => by simp at h
  | p :: P, w :: vs, 0, m, nd, h1, h2, hk => by
    simp at h1 h2; subst h1; subst h2
    show bindL kindOf ((p, w) :: P.zip vs) m p = _
    unfold bindL
    rw [qjV fun v hv => (List.nodup_cons.mp nd).1 (List.of_mem_zip hv).1, if_pos hk]
    simp
  | p :: P, w :: vs, i + 1, m, nd, h1, h2, hk => by
    show bindL kindOf ((p, w) :: P.zip vs) m x = _
    unfold bindL
    exact qjX (i := i) (List.nodup_cons.mp nd).2 (by simpa using h1) (by simpa using h2) hk
theorem qjY {kindOf : Str → Option NameKind} {x : Str} {v : Value} : ∀ {P : List Str} {vs : List Value} {i : Nat} {m : Str → Option Value}, P.Nodup → P[i]? = some x → vs[i]? = some v → kindOf x ≠ some .local →
    bindC kindOf (P.zip vs) m x = some v
  | [], _, _, _, _, h, _, _ => by simp at h
  | _ :: _, [], _, _, _, _, h, _ => by simp at h
  | p :: P, w :: vs, 0, m, nd, h1, h2, hk => by
    simp at h1 h2; subst h1; subst h2
    show bindC kindOf ((p, w) :: P.zip vs) m p = _
    unfold bindC
    rw [qjW fun v hv => (List.nodup_cons.mp nd).1 (List.of_mem_zip hv).1, if_neg hk]
    simp
  | p :: P, w :: vs, i + 1, m, nd, h1, h2, hk => by
    show bindC kindOf ((p, w) :: P.zip vs) m x = _
    unfold bindC
    exact qjY (i := i) (List.nodup_cons.mp nd).2 (by simpa using h1) (by simpa using h2) hk
noncomputable def start (N : List Str) (vs : List V) : St := vs.map some ++ List.replicate (N.length - vs.length) none
noncomputable def qsw (CX : CXT) (P : Program) (w : World) (K : PySem.W.Frag) (mg : Str → Option Value) (base : Heap) (N : List Str) (qual : Str) (scope : Scope) (f : Addr) (cd : Value) (A : Around) (outer : List Env) (s : Shared) (H : Hp) (E : XK) : Cx where
  prog := P
  w := w
  K := K
  mg := mg
  base := base
  A := A.deeper (envOfC qual scope s.heap.objs.size f cd)
  N := N
  s₀ := s
  H₀ := H
  env := envOfC qual scope s.heap.objs.size f cd
  outer := outer
  stack := envOfC qual scope s.heap.objs.size f cd :: outer
  ex := []
  calm := true
  fn := fun _ => true
  pn := []
  xe := fun e s' => wpAny (model P w) (A.deeper (envOfC qual scope s.heap.objs.size f cd)) (leaving (envOfC qual scope s.heap.objs.size f cd) e) (fun _ s'' => CX outer H s E e s'') (fun e' s'' => CX outer H s E e' s'') s'
theorem qlX {sc : Scope} {n : Nat} {x : Str} (h : sc.names.lookup x = some .cell) : ∃ c, (cellsFrom n sc.names []).lookup x = some c := by
  have q := PySem.W.cellsFrom_some sc.names n [] (.inl h)
  exact Option.isSome_iff_exists.mp q
theorem qnQ {CX : CXT} {P : Program} {w : World} {K : PySem.W.Frag} {mg : Str → Option Value} {base : Heap} {N ps : List Str} {qual : Str} {scope : Scope} {f : Addr} {cd : Value} {A : Around} {outer : List Env} {s s1 : Shared} {H : Hp} {E : XK} {us : List Value} {vs : List V}
    (S : FnScope N ps scope) (hd : A.handled = none) (hdp : (A.deeper (envOfC qual scope s.heap.objs.size f cd)).depth + Builtin.pylongFrames < recursionLimit) (e0 : Env0 P w K mg base A outer s H) (hl : vs.length = ps.length) (r : Vals vs us)
    (x : InCallC s s.heap.objs.size (bindL (envOfC qual scope s.heap.objs.size f cd).kindOf (ps.zip us) fun _ => none) (cellsFrom (s.heap.objs.size + 1) scope.names []) (bindC (envOfC qual scope s.heap.objs.size f cd).kindOf (ps.zip us) fun _ => none) s1) :
    Inv (qsw CX P w K mg base N qual scope f cd A outer s H E) [] (start N vs) H s1 := by
  have hpl : ps.length ≤ N.length := by have := congrArg List.length S.pre; rw [List.length_take] at this; omega
  obtain ⟨h1, tk, rfl, hk⟩ := x.done
  have noA : ∀ b : Addr, b ∉ (qsw CX P w K mg base N qual scope f cd A outer s H E).ex := fun b z => absurd (show b ∈ ([] : List Addr) from z) (by simp)
  refine ⟨⟨e0.mod, S.kind, rfl, rfl, Nat.le_refl _, fun y z c h1 h2 => ?_, fun y hy => ?_, fun y c _ h => ?_, fun _ => hd, Around.frames_deeper e0.frames, .inr ⟨rfl, rfl⟩, fun b z => absurd z (noA b), e0.bs, e0.bsz, fun b _ _ => noA b, fun b z => absurd z (noA b), e0.funs, e0.frf, e0.seer, e0.tree, fun s' hk' => PySem.PylongRoom.of (e0.mod.nolimit.keeps hk') hdp (PySem.SeerAt.of (e0.seer.keeps hk') e0.tree (Around.frames_deeper e0.frames) S.gen S.co rfl rfl)⟩,
    rfl, e0.bare, Un.kept hk, ⟨_, x.toInCall.ns, fun i y v h1 h2 h3 => ?_⟩, fun y c h => ⟨_, x.cell y c h⟩, e0.hok.fresh (Nat.le_refl _), fun y c h => ?_, fun p hp => absurd (show p ∈ ([] : List (Addr × Obj)) from hp) (by simp), e0.hok.kept hk, ?_⟩
  · exact name_of_addr x.apart (PySem.mem_of_lookup h1) (PySem.mem_of_lookup h2)
  · have hy : scope.names.lookup y = some .cell ∨ scope.names.lookup y = some .free := hy
    rcases hy with hy | hy
    · exact qlX hy
    · exact absurd rfl (S.nofree _ (PySem.mem_of_lookup hy))
  · exact Nat.le_of_lt (x.above y c (PySem.mem_of_lookup h))
  · have hi : i < vs.length := by
      unfold start at h2
      by_cases hi : i < vs.length
      · exact hi
      · rw [List.getElem?_append_right (by simpa using hi)] at h2
        rw [List.getElem?_replicate] at h2
        split at h2 <;> cases h2
    have ha : vs[i]? = some v := by
      unfold start at h2
      rw [List.getElem?_append_left (by simpa using hi), List.getElem?_map] at h2
      cases e : vs[i]? with
      | none => rw [e] at h2; cases h2
      | some a => rw [e] at h2; cases h2; rfl
    obtain ⟨u, hu, rv⟩ := r.get ha
    have hp : ps[i]? = some y := by
      rw [← S.pre, List.getElem?_take_of_lt (by omega)]; exact h1
    have ndP : ps.Nodup := by rw [← S.pre]; exact S.nd.sublist (List.take_sublist _ _)
    refine ⟨u, rv, ?_⟩
    rcases S.par y (List.mem_of_getElem? hp) with k | k
    · exact .inl ⟨k, qjX ndP hp hu k⟩
    · obtain ⟨c, e⟩ := qlX (n := s.heap.objs.size + 1) k
      refine .inr ⟨.inl k, c, e, ?_⟩
      have q := x.cell y c e
      rw [qjY ndP hp hu (by show scope.names.lookup y ≠ _; rw [k]; decide)] at q
      exact q
  · exact e0.hok.fresh (Nat.le_of_lt (x.above y c (PySem.mem_of_lookup h)))
  · unfold start
    show _ = N.length
    rw [List.length_append, List.length_map, List.length_replicate]
    omega
theorem qtQ {CX : CXT} {P : Program} {w : World} {K : PySem.W.Frag} {mg : Str → Option Value} {base : Heap} {k : Nat} {f : Addr} {name qual : Str} {params : Arguments} {body : List Stmt} {scope : Scope} {dV kV doc pm cdv ct oc : Value} {an od : Option Addr}
    {osl : Array (Option Value)} {N ps : List Str} {sp : Sp} (lk : K.lookup f = some ⟨oc, od, .func (PySem.W.fnOf name qual params body scope dV kV doc pm an cdv ct), osl⟩) (hcd : PySem.W.codeIn K cdv qual = true) (S : FnScope N ps scope)
    (len : ∀ vs H Q E, sp vs H Q E → vs.length = ps.length)
    (hbody : ∀ (A : Around) (outer : List Env) (s : Shared) (H : Hp) (vs : List V) (Q : VK) (E : XK), Room k (A.deeper (envOfC qual scope s.heap.objs.size f cdv)) → sp vs H Q E →
      ∃ t, PSs (qsw CX P w K mg base N qual scope f cdv A outer s H E) body t ∧ t { nx := fun _ H' => Q .non H', rt := Q } (start N vs) H) :
    FnOk P w K mg base CX (k + 1) f (PySem.W.fnOf name qual params body scope dV kV doc pm an cdv ct) ps sp := by
  refine ⟨len, fun A outer s H args us vs Q E hr e0 hb r hsp => ?_⟩
  have hl := len _ _ _ _ hsp
  have KX : K.In s.heap := e0.mod.kin.keeps fun b o e => (e0.bs b o e).1
  have lim : s.heap.NoLimit := e0.mod.nolimit.keeps fun b o e => (e0.bs b o e).1
  have hkind : ∀ y ∈ ps.zip us, scope.names.lookup y.1 = some .local ∨ (scope.names.lookup y.1 = some .cell ∧ ((cellsFrom (s.heap.objs.size + 1) scope.names []).lookup y.1).isSome = true) := fun ⟨n, v⟩ hy => by
    rcases S.par n (List.of_mem_zip hy).1 with q | q
    · exact .inl q
    · exact .inr ⟨q, PySem.W.cellsFrom_some _ _ _ (.inl q)⟩
  refine codeAny_call_function hr.depth (KX _ _ lk) rfl S.co S.gen rfl (PySem.W.codeRec_of KX hcd) (hb _ _ _ _ ?_)
  refine wpAny_newFunctionEnv_cells S.kind hkind fun env he s1 x => ?_
  subst he
  refine ⟨lim.keeps x.toInCall.keep, codeAny_func ?_⟩
  obtain ⟨t, ht, hq⟩ := hbody A outer s H vs Q E (hr.deeper _) hsp
  have I : Inv (qsw CX P w K mg base N qual scope f cdv A outer s H E) [] (start N vs) H s1 := qnQ S hr.hd (by have := (hr.deeper (envOfC qual scope s.heap.objs.size f cdv)).dp; show _ + 100 < _; omega) e0 hl r x
  refine wpAny_mono (ht [] s1 (start N vs) H _ I hq) (fun fl s' hs => ?_) fun e s' hs => hs
  have fin : ∀ {σ' : St} {H' : Hp} {v : V} {u : Value}, Inv (qsw CX P w K mg base N qual scope f cdv A outer s H E) [] σ' H' s' → RelV v u → Q v H' → CE outer P w H s Q u s' :=
    fun {σ' H' v u} J rv q => ⟨v, H', J.os, J.bare, J.base, J.hok, rv, q⟩
  cases fl with
  | ret u =>
    obtain ⟨v, σ', H', J, rv, q⟩ := hs
    exact fin J rv q
  | next =>
    obtain ⟨σ', H', J, q⟩ := hs
    exact fin (v := V.non) (u := Value.none) J rfl q
  | brk =>
    obtain ⟨_, _, _, q⟩ := hs
    exact False.elim q
  | cont =>
    obtain ⟨_, _, _, q⟩ := hs
    exact False.elim q
end L2
namespace L2
open PySem PySem.Spec PyProof.Rows
section
variable {X : Cx} {x : Str} {p pos : Pos} {e : Expr} {es : List Expr} {t : TA} {id T : String} {r : List V → Hp → VK → Prop}
noncomputable def tCB (r : List V → Hp → VK → Prop) (t : TA) : TE := fun σ H Q => t σ H fun vs H1 => r vs H1 Q
theorem qat (hc : qdg X (.builtin id) r) (hg : Gl X x) (hm : X.mg x = none) (hv : bootBuiltins x = some (.builtin id)) (ha : PA X (e :: es) t) (hn : x ≠ "__name__" := by decide) (hdb : (x == ("__debug__" : Str)) = false := by decide)
    (he : starEach (e :: es) X.env = (false, eval e X.env) :: starEach es X.env := by rfl) (hpl : (backTo pos (starEach es X.env)).any (·.1) = false := by rfl) : PE X (.Call (.Name x p) (e :: es) [] pos) (tCB r t) := by
  intro pins s σ H Q I h
  refine wpAny_Call_Name_kw (qd7 I hg hm hv ?_ hn hdb)
  exact PyProof.Rows.callWith_builtin1 (thn (ha pos pins s σ H _ I h) fun us s1 ⟨vs, H1, I1, r1, q1⟩ => hc pins s1 σ H1 vs us Q I1 r1 q1) he hpl
theorem qbg (hc : qdg X (.type T) r) (hg : Gl X x) (hm : X.mg x = none) (hv : bootBuiltins x = some (.type T)) (ha : PA X (e :: es) t) (hn : x ≠ "__name__" := by decide) (hdb : (x == ("__debug__" : Str)) = false := by decide)
    (he : starEach (e :: es) X.env = (false, eval e X.env) :: starEach es X.env := by rfl) (hpl : (backTo pos (starEach es X.env)).any (·.1) = false := by rfl) : PE X (.Call (.Name x p) (e :: es) [] pos) (tCB r t) := by
  intro pins s σ H Q I h
  refine wpAny_Call_Name_kw (qd7 I hg hm hv ?_ hn hdb)
  exact PyProof.Rows.callWith_type1 (thn (ha pos pins s σ H _ I h) fun us s1 ⟨vs, H1, I1, r1, q1⟩ => hc pins s1 σ H1 vs us Q I1 r1 q1) he hpl
end
end L2
namespace HT
open PySem PyProof.Rows
section
open PySem.SeqAt
open PySem.AutoSeq1 (wpAny_loadPart')
open PySem.MeetsSeq PySem.MeetsSeq2 PySem.MeetsSeq3
end
section
variable {prog : Program} {w : World} {A : Around} {E : Value → Shared → Prop} {s : Shared}
noncomputable def sIx (n d : Nat) : Option Int → Nat
  | none => d
  | some v => if v < 0 then (v + (n : Int)).toNat else min v.toNat n
end
end HT
namespace L2
open PySem PySem.Spec PyProof.Rows
noncomputable abbrev TO := St → Hp → (Option Int → Hp → Prop) → Prop
noncomputable def PO (X : Cx) (e : Option Expr) (t : TO) : Prop :=
  ∀ (pins : List (Addr × Obj)) (s : Shared) (σ : St) (H : Hp) (Q : Option Int → Hp → Prop), Inv X pins σ H s → t σ H Q →
    wpAny (model X.prog X.w) X.A (evalPart e X.env) (fun u s' => ∃ o H', Inv X pins σ H' s' ∧ IsPart u o ∧ Q o H') X.xe s
noncomputable def qea : TO := fun _ H Q => Q none H
noncomputable def qjZ (t : TE) : TO := fun σ H Q => t σ H fun x H1 => ∃ i, x = .int i ∧ Q (some i) H1
section
variable {X : Cx} {e : Expr} {te : TE} {lo hi : Option Expr} {tl th : TO} {pos p2 : Pos}
theorem qgX : PO X none qea := by
  intro pins s σ H Q I h
  rw [evalPart_none]
  exact wpAny_pure ⟨none, H, I, .none, h⟩
theorem qgY (h : PE X e te) : PO X (some e) (qjZ te) := by
  intro pins s σ H Q I hw
  rw [evalPart_some]
  refine thn (h pins s σ H _ I hw) fun u s1 ⟨x, H1, I1, r1, q1⟩ => ?_
  obtain ⟨i, rfl, q⟩ := q1
  obtain ⟨t, rfl⟩ := r1
  exact ⟨some i, H1, I1, .int i t, q⟩
noncomputable def SlR (X : Cx) (r : V → Option Int → Option Int → Hp → VK → Prop) : Prop :=
  ∀ (pins : List (Addr × Obj)) (s : Shared) (σ : St) (H : Hp) (x : V) (v vl vu : Value) (lo hi : Option Int) (sl : Addr) (Q : VK), Inv X pins σ H s → RelV x v → s.heap.IsSliceOf sl vl vu .none → IsPart vl lo → IsPart vu hi → r x lo hi H Q →
    ∃ T id, typeLookup (.type T) "__getitem__" = pure (some (.builtin id)) ∧ s.TypeIs v T ∧ wpAny (model X.prog X.w) X.A (getItem v (.ref sl)) (EP X pins σ Q) X.xe s
noncomputable def tSl (r : V → Option Int → Option Int → Hp → VK → Prop) (te : TE) (tl th : TO) : TE := fun σ H Q => te σ H fun x H1 => tl σ H1 fun l H2 => th σ H2 fun u H3 => r x l u H3 Q
theorem qff {r : V → Option Int → Option Int → Hp → VK → Prop} (hr : SlR X r) (he : PE X e te) (hl : PO X lo tl) (hu : PO X hi th) : PE X (.Subscript e (.Slice lo hi none p2) pos) (tSl r te tl th) := by
  intro pins s σ H Q I h
  refine Subscript_ (thn (he pins s σ H _ I h) fun v s1 ⟨x, H1, I1, r1, q1⟩ => ?_)
  refine wpAny_Slice (thn (hl pins s1 σ H1 _ I1 q1) fun vl s2 ⟨l, H2, I2, pl, q2⟩ => thn (hu pins s2 σ H2 _ I2 q2) fun vu s3 ⟨u, H3, I3, pu, q3⟩ => ?_)
  rw [evalPart_none]
  refine wpAny_pure ?_
  have I4 : Inv X pins σ H3 { s3 with heap := s3.heap.push { cls := .type "slice", data := .fields #[vl, vu, .none] } } := I3.kept (t' := s3.toks) fun b ob q => Heap.get?_push_of_some _ q
  obtain ⟨T, id, hT, ht, hg⟩ := hr pins { s3 with heap := s3.heap.push { cls := .type "slice", data := .fields #[vl, vu, .none] } } σ H3 x v vl vu l u s3.heap.objs.size Q I4 r1 (Heap.IsSliceOf.new ..) pl pu q3
  show wpAny (model X.prog X.w) X.A (subscriptTail e (.Slice lo hi none p2) v (.ref s3.heap.objs.size)) (EP X pins σ Q) X.xe { s3 with heap := s3.heap.push { cls := .type "slice", data := .fields #[vl, vu, .none] } }
  exact tail_any (ops := [.ref s3.heap.objs.size, v]) ht hT hg (by with_unfolding_all rfl)
noncomputable def qjP (xs : List V) (lo hi : Option Int) : List V := (xs.drop (HT.sIx xs.length 0 lo)).take (HT.sIx xs.length xs.length hi - HT.sIx xs.length 0 lo)
theorem qk0 (xs : List V) (lo hi : Option Int) : (qjP xs lo hi).length ≤ xs.length := by
  unfold qjP
  rw [List.length_take, List.length_drop]
  omega
end
end L2
namespace L2
open PySem PySem.Spec PyProof.Rows
noncomputable def ixN (n : Nat) (i : Int) : Option Nat := if 0 ≤ i then (if i < n then some i.toNat else none) else if -(n : Int) ≤ i then some (i + n).toNat else none
noncomputable def atI {α : Type} (xs : List α) (i : Int) : Option α := (ixN xs.length i).bind fun j => xs[j]?
theorem qnR {n : Nat} {i : Int} {j : Nat} (h : ixN n i = some j) : seqIndex? i n = some j ∧ j < n ∧ -(n : Int) ≤ i ∧ i < n := by
  unfold ixN at h
  by_cases h0 : 0 ≤ i
  · rw [if_pos h0] at h
    by_cases h1 : i < n
    · rw [if_pos h1] at h
      have e : i.toNat = j := Option.some.inj h
      exact ⟨by rw [seqIndex_of h0 h1, e], by omega, by omega, h1⟩
    · rw [if_neg h1] at h; cases h
  · rw [if_neg h0] at h
    by_cases h1 : -(n : Int) ≤ i
    · rw [if_pos h1] at h
      have e : (i + n).toNat = j := Option.some.inj h
      exact ⟨by rw [seqIndex_neg (by omega) h1, e], by omega, h1, by omega⟩
    · rw [if_neg h1] at h; cases h
theorem qk1 {α : Type} {xs : List α} {i : Int} {v : α} (h : atI xs i = some v) : ∃ j, seqIndex? i xs.length = some j ∧ xs[j]? = some v ∧ j < xs.length ∧ -(xs.length : Int) ≤ i ∧ i < xs.length := by
  unfold atI at h
  cases e : ixN xs.length i with
  | none => rw [e] at h; cases h
  | some j =>
    rw [e] at h
    obtain ⟨h1, h2, h3, h4⟩ := qnR e
    exact ⟨j, h1, h, h2, h3, h4⟩
theorem qiQ {α : Type} {xs : List α} {j : Nat} {v : α} (h : xs[j]? = some v) : atI xs (j : Int) = some v := by
  have hj : j < xs.length := (List.getElem?_eq_some_iff.mp h).1
  have e : ixN xs.length (j : Int) = some j := by
    unfold ixN
    rw [if_pos (by omega), if_pos (by omega)]; simp
  unfold atI; rw [e]; exact h
theorem atI_last {α : Type} (xs : List α) (v : α) : atI (xs ++ [v]) (-1) = some v := by
  have hl : (xs ++ [v]).length = xs.length + 1 := by simp
  have e : ixN (xs ++ [v]).length (-1) = some xs.length := by
    unfold ixN
    rw [hl, if_neg (by decide), if_pos (by omega)]
    congr 1
    omega
  unfold atI
  rw [e]
  show (xs ++ [v])[xs.length]? = some v
  simp
noncomputable def qrp (b : Expr) : Prop := ∀ o i, subscripted b false o i = operate [o, i] (getItem o i)
noncomputable def IxR (X : Cx) (r : R2) : Prop :=
  ∀ (value slice : Expr) (pins : List (Addr × Obj)) (s : Shared) (σ : St) (H : Hp) (x y : V) (v u : Value) (Q : VK), Inv X pins σ H s → RelV x v → RelV y u → r x y H Q →
    subscripted slice false v u = operate [v, u] (getItem v u) → wpAny (model X.prog X.w) X.A (subscriptTail value slice v u) (EP X pins σ Q) X.xe s
noncomputable def MtR (X : Cx) (id : String) (r : V → List V → Hp → VK → Prop) : Prop :=
  ∀ (pins : List (Addr × Obj)) (s : Shared) (σ : St) (H : Hp) (x : V) (xs : List V) (v : Value) (us : List Value) (Q : VK), Inv X pins σ H s → RelV x v → Vals xs us → r x xs H Q →
    wpAny (model X.prog X.w) X.A (call (.builtin id) (v :: us)) (EP X pins σ Q) X.xe s
section
variable {X : Cx} {a b : Expr} {ta tb : TE} {pos : Pos}
theorem qaz {r : R2} (hr : IxR X r) (ha : PE X a ta) (hb : PE X b tb) (hs : qrp b) : PE X (.Subscript a b pos) (tOp r ta tb) := by
  intro pins s σ H Q I h
  exact Subscript_ (qtN ha hb I h fun v u s2 x y H2 I2 rx ry q => hr a b pins s2 σ H2 x y v u Q I2 rx ry q (hs _ _))
noncomputable def quy (K : PySem.W.Frag) : R2 := fun x y H Q => ∃ p xs i v, x = .ref p ∧ y = .int i ∧ SqL K H p xs ∧ atI xs i = some v ∧ Q v H
noncomputable def quz (K : PySem.W.Frag) : R2 := fun x y H Q => ∃ p xs i v, x = .ref p ∧ y = .int i ∧ SqT K H p xs ∧ atI xs i = some v ∧ Q v H
theorem qnS : IxR X (quy X.K) := by
  intro value slice pins s σ H x y v u Q I rx ry h hs
  obtain ⟨p, xs, i, z, rfl, rfl, hq, he, q⟩ := h
  cases rx
  obtain ⟨t, rfl⟩ := ry
  obtain ⟨its, r, pl, hz⟩ := I.list hq
  obtain ⟨j, h1, h2, h3, h4, h5⟩ := qk1 he
  obtain ⟨w, ew, rw'⟩ := r.get h2
  have hl := r.length
  have hn := qir
  have fin : EP X pins σ Q w s := ⟨z, H, I, rw', q⟩
  by_cases h0 : 0 ≤ i
  · have hj : i.toNat = j := by
      rw [seqIndex_of h0 h5] at h1
      exact Option.some.inj h1
    exact item_listR pl.isList h0 (by omega) (by rw [hj]; simpa using ew) fin hs
  · have hj : (i + (its.toArray.size : Int)).toNat = j := by
      rw [seqIndex_neg (by omega) h4] at h1
      rw [List.size_toArray, ← hl]
      exact Option.some.inj h1
    exact subscriptTail_builtinR (x := w) pl.isList.typeIs slot_list_getitem.lookup
      (wpAny_getItem_list_neg (Q := fun r s' => r = w ∧ EP X pins σ Q r s') pl.isList (by omega) (by rw [List.size_toArray] <;> omega) (by omega) (by rw [hj]; simpa using ew) ⟨rfl, fin⟩) hs
theorem qsN : IxR X (quz X.K) := by
  intro value slice pins s σ H x y v u Q I rx ry h hs
  obtain ⟨p, xs, i, z, rfl, rfl, hq, he, q⟩ := h
  cases rx
  obtain ⟨t, rfl⟩ := ry
  obtain ⟨its, r, pl, hz⟩ := I.tuple hq
  obtain ⟨j, h1, h2, h3, h4, h5⟩ := qk1 he
  obtain ⟨w, ew, rw'⟩ := r.get h2
  have hl := r.length
  have hn := qir
  have fin : EP X pins σ Q w s := ⟨z, H, I, rw', q⟩
  exact subscriptTail_builtinR (x := w) pl.typeIs slot_tuple_getitem.lookup
    (getItem_tuple (j := j) (Q := fun r s' => r = w ∧ EP X pins σ Q r s') pl (by omega) (by omega) (by rw [List.size_toArray, ← hl]; exact h1) (by simpa using ew) ⟨rfl, fin⟩) hs
theorem qmP (its : List Value) (n j : Nat) (u : Value) : Obj.mapSeq (·.setIfInBounds j u) { cls := .type "list", data := .seq its.toArray n } = { cls := .type "list", data := .seq (its.set j u).toArray n } := by
  simp [Obj.mapSeq]
theorem Inv.lst {pins : List (Addr × Obj)} {σ : St} {H : Hp} {s : Shared} {p : Addr} {xs : List V} (I : Inv X pins σ H s) (h : H p = some (.lst xs)) :
    ∃ (its : List Value) (n : Nat), Vals xs its ∧ s.heap.get? p = some { cls := .type "list", data := .seq its.toArray n } ∧ xs.length ≤ sizeLine := by
  obtain ⟨z, its, n, r, e⟩ := I.hok p _ h
  exact ⟨its, n, r, e, z⟩
theorem Inv.lstUpd {pins : List (Addr × Obj)} {σ : St} {H : Hp} {s : Shared} {p : Addr} {xs ys : List V} {its its' : List Value} {n n' : Nat} {f : Obj → Obj} (I : Inv X pins σ H s) (h : H p = some (.lst xs))
    (ho : s.heap.get? p = some { cls := .type "list", data := .seq its.toArray n }) (hf : f { cls := .type "list", data := .seq its.toArray n } = { cls := .type "list", data := .seq its'.toArray n' }) (r : Vals ys its') (hz : ys.length ≤ sizeLine) (t : Nat) :
    Inv X pins σ (upd H p (.lst ys)) { s with heap := s.heap.update p f, toks := t } := by
  have e : (s.heap.update p f).get? p = some { cls := .type "list", data := .seq its'.toArray n' } := by
    rw [Heap.get?_update_self f ho (by rw [hf] <;> rfl), hf]
  refine I.write (x := p) (e := p) (by rw [h]; trivial) (.inl rfl) (fun b u hb q => (Heap.get?_update_other _ _ (Ne.symm hb)).trans q) ⟨_, e⟩ ?_
  exact ⟨hz, its', n', r, e⟩
noncomputable def qgB : V → V → V → Hp → (Hp → Prop) → Prop := fun o i v H Q => ∃ p xs k j, o = .ref p ∧ i = .int k ∧ H p = some (.lst xs) ∧ ixN xs.length k = some j ∧ Q (upd H p (.lst (xs.set j v)))
theorem qcO : PSet X qgB := by
  intro pins s σ H o i v ov iv u Q I ro ri rv h
  obtain ⟨p, xs, k, j, rfl, rfl, hp, hj, q⟩ := h
  cases ro
  obtain ⟨t, rfl⟩ := ri
  obtain ⟨its, n, r, ho, hz⟩ := I.lst hp
  obtain ⟨h1, h2, h3, h4⟩ := qnR hj
  have hl := r.length
  have hn := qir
  have I' : Inv X pins σ (upd H p (.lst (xs.set j v))) { s with heap := s.heap.update p (Obj.mapSeq (·.setIfInBounds j u)) } :=
    I.lstUpd hp ho (qmP its n j u) (r.set rv j) (by rw [List.length_set]; exact hz) s.toks
  by_cases h0 : 0 ≤ k
  · have hk : k.toNat = j := by
      rw [seqIndex_of h0 h4] at h1
      exact Option.some.inj h1
    exact PySem.W.ki_setAt ho h0 (by omega) (by rw [List.size_toArray, ← hl]; exact h4) (by rw [hk]; exact ⟨_, I', q⟩)
  · have hk : (k + (its.toArray.size : Int)).toNat = j := by
      rw [seqIndex_neg (by omega) h3] at h1
      rw [List.size_toArray, ← hl]
      exact Option.some.inj h1
    exact PySem.W.ki_setBack ho (by omega) (by rw [List.size_toArray, ← hl]; exact h3) (by omega) (by rw [hk]; exact ⟨_, I', q⟩)
theorem qj0 (lo hi : Option Int) (n : Nat) : (sliceBounds lo hi none n).1 = ((HT.sIx n 0 lo : Nat) : Int) ∧ (sliceBounds lo hi none n).2.1 = ((HT.sIx n n hi : Nat) : Int) ∧ (sliceBounds lo hi none n).2.2 = 1 := by
  refine ⟨?_, ?_, rfl⟩
  · cases lo with
    | none => simp [sliceBounds, HT.sIx]
    | some i =>
      simp only [sliceBounds, HT.sIx, Option.getD_none, show (1 : Int) > 0 by decide, if_true]
      by_cases h : i < 0
      · simp only [h, if_true] <;> omega
      · simp only [h, if_false] <;> omega
  · cases hi with
    | none => simp [sliceBounds, HT.sIx]
    | some i =>
      simp only [sliceBounds, HT.sIx, Option.getD_none, show (1 : Int) > 0 by decide, if_true]
      by_cases h : i < 0
      · simp only [h, if_true] <;> omega
      · simp only [h, if_false] <;> omega
theorem qiR (its : List Value) (lo hi : Option Int) : slicePick its.toArray lo hi none = ((its.drop (HT.sIx its.length 0 lo)).take (HT.sIx its.length its.length hi - HT.sIx its.length 0 lo)).toArray := by
  obtain ⟨h1, h2, h3⟩ := qj0 lo hi its.toArray.size
  unfold slicePick
  rw [h1, h2, h3]
  simp only [sliceRange_one, pick_run, List.size_toArray] <;> rfl
noncomputable def quA (K : PySem.W.Frag) : V → Option Int → Option Int → Hp → VK → Prop := fun x lo hi H Q => ∃ a xs, x = .ref a ∧ SqL K H a xs ∧ ∀ p, H p = none → Q (.ref p) (upd H p (.lst (qjP xs lo hi)))
theorem qrq : SlR X (quA X.K) := by
  intro pins s σ H x v vl vu lo hi sl Q I rx hs pl pu h
  obtain ⟨a, xs, rfl, hx, q⟩ := h
  cases rx
  obtain ⟨its, r, ht, hz⟩ := I.list hx
  have hlen := r.length
  refine ⟨"list", _, slot_list_getitem.lookup, ht.isList.typeIs, ?_⟩
  refine wpAny_getItem_list_slice ht.isList hs pl pu .none (by simp) ?_ (by rw [List.size_toArray] <;> omega)
  rw [qiR, ← hlen]
  refine ⟨.ref s.heap.objs.size, _, I.laid (t' := s.toks) (o := .lst (qjP xs lo hi)) (fun b ob q => Heap.get?_push_of_some _ q) (Nat.le_refl _) ?_, rfl, q _ (I.hok.fresh (Nat.le_refl _))⟩
  exact ⟨Nat.le_trans (qk0 xs lo hi) hz, _, 0, (r.drop (HT.sIx xs.length 0 lo)).take (HT.sIx xs.length xs.length hi - HT.sIx xs.length 0 lo), Heap.get?_push_size _ rfl⟩
theorem qeb : qdg X (.builtin "len") (fun xs H Q => ∃ p ys, xs = [.ref p] ∧ (SqL X.K H p ys ∨ SqT X.K H p ys) ∧ Q (.int ys.length) H) := by
  intro pins s σ H xs us Q I r h
  obtain ⟨p, ys, rfl, hq, q⟩ := h
  obtain ⟨u, rfl, rx⟩ := qfR r
  cases rx
  have hn := qir
  rcases hq with hq | hq
  · obtain ⟨its, r', pl, hz⟩ := I.list hq
    have hlen := r'.length
    exact Calls.call_len_list pl.isList (by simp only [List.size_toArray] <;> omega) ⟨.int ys.length, H, I.tok _, ⟨s.toks + 1, by rw [List.size_toArray, hlen]⟩, q⟩
  · obtain ⟨its, r', pl, hz⟩ := I.tuple hq
    have hlen := r'.length
    exact len_tuple pl (by simp only [List.size_toArray] <;> omega) ⟨.int ys.length, H, I.tok _, ⟨s.toks + 1, by rw [List.size_toArray, hlen]⟩, q⟩
theorem qj1 : qdg X (.type "list") (fun xs H Q => ∃ p ys, xs = [.ref p] ∧ (SqL X.K H p ys ∨ SqT X.K H p ys) ∧ ∀ l, H l = none → Q (.ref l) (upd H l (.lst ys))) := by
  intro pins s σ H xs us Q I r h
  obtain ⟨p, ys, rfl, hq, q⟩ := h
  obtain ⟨u, rfl, rx⟩ := qfR r
  cases rx
  have fin : ∀ (its : List Value), Vals ys its → ys.length ≤ sizeLine → ∀ (h' : Heap) (c' : Nat), (∀ b o', s.heap.get? b = some o' → h'.get? b = some o') →
      h'.get? s.heap.objs.size = some { cls := .type "list", dict := none, data := .seq its.toArray c', slots := #[] } → EP X pins σ Q (.ref s.heap.objs.size) { s with heap := h' } := fun its r' hz h' c' kp e =>
    ⟨.ref s.heap.objs.size, _, I.laid (t' := s.toks) kp (Nat.le_refl _) (show ObjOk X.prog X.w _ h' _ (.lst ys) from ⟨hz, its, c', r', e⟩), rfl, q _ (I.hok.fresh (Nat.le_refl _))⟩
  rcases hq with hq | hq
  · obtain ⟨its, r', pl, hz⟩ := I.list hq
    have hlen := r'.length
    obtain ⟨o, ho, hc, n, hd⟩ := pl.isList
    exact call_list_seq p (.inl rfl) ho hc hd (fun h' c' kp e => fin its r' hz h' c' kp e) (by simp only [List.size_toArray] <;> omega)
  · obtain ⟨its, r', pl, hz⟩ := I.tuple hq
    have hlen := r'.length
    obtain ⟨o, ho, hc, n, hd⟩ := pl
    exact call_list_seq p (.inr rfl) ho hc hd (fun h' c' kp e => fin its r' hz h' c' kp e) (by simp only [List.size_toArray] <;> omega)
theorem qiS : qdg X (.type "tuple") (fun xs H Q => ∃ p ys, xs = [.ref p] ∧ ((SqL X.K H p ys ∧ ∀ l, H l = none → Q (.ref l) (upd H l (.tup ys))) ∨ (SqT X.K H p ys ∧ Q (.ref p) H))) := by
  intro pins s σ H xs us Q I r h
  obtain ⟨p, ys, rfl, h⟩ := h
  obtain ⟨u, rfl, rx⟩ := qfR r
  cases rx
  rcases h with ⟨hq, q⟩ | ⟨hq, q⟩
  · obtain ⟨its, r', pl, hz⟩ := I.list hq
    have hlen := r'.length
    refine call_tuple_list pl.isList (fun h' kp => ?_) (by simp only [List.size_toArray] <;> omega)
    have I1 : Inv X pins σ H { s with heap := h' } := I.kept (t' := s.toks) kp
    have I2 : Inv X pins σ (upd H h'.objs.size (.tup ys)) { s with heap := h'.push { cls := .type "tuple", data := .seq its.toArray } } :=
      I1.laid (t' := s.toks) (fun b o e => Heap.get?_push_of_some _ e) (Nat.le_refl _) (show ObjOk X.prog X.w _ _ _ (.tup ys) from ⟨hz, its, r', IsTup.new _ _⟩)
    exact ⟨.ref h'.objs.size, _, I2, rfl, q _ (I1.hok.fresh (Nat.le_refl _))⟩
  · obtain ⟨its, r', pl, hz⟩ := I.tuple hq
    exact call_tuple_same pl ⟨.ref p, H, I, rfl, q⟩
noncomputable def tyV (K : PySem.W.Frag) (T : String) (x : V) (H : Hp) : Prop := match x with
  | .str _ => T = "str"
  | .int _ => T = "int"
  | .ref p => (T = "list" ∧ ∃ xs, SqL K H p xs) ∨ (T = "tuple" ∧ ∃ o, K.lookup p = some o ∧ o.cls = .type "tuple" ∧ o.dict = none) ∨
      (T = "dict" ∧ ((∃ kvs, H p = some (.dK kvs)) ∨ ∃ kvs, H p = some (.dT kvs))) ∨ (T = "set" ∧ ∃ S n, H p = some (.set S n))
  | _ => False
theorem qsO {pins : List (Addr × Obj)} {σ : St} {H : Hp} {s : Shared} {T : String} {x : V} {v : Value} (I : Inv X pins σ H s) (r : RelV x v) (ty : tyV X.K T x H) :
    s.TypeIs v T ∧ ∀ a, v = .ref a → ∃ ob, s.heap.get? a = some ob ∧ ob.dict = none := by
  cases x with
  | str z =>
    obtain ⟨t, rfl⟩ := r
    cases (show T = "str" from ty)
    exact ⟨typeIs_str s z t, fun _ e => nomatch e⟩
  | int i =>
    obtain ⟨t, rfl⟩ := r
    cases (show T = "int" from ty)
    exact ⟨typeIs_int s i t, fun _ e => nomatch e⟩
  | ref p =>
    cases r
    rcases ty with ⟨rfl, xs, hq⟩ | ⟨rfl, o, hk, hc, hd⟩ | ⟨rfl, hk⟩ | ⟨rfl, S, n, hk⟩
    · obtain ⟨its, _, pl, _⟩ := I.list hq
      refine ⟨pl.isList.typeIs, fun a e => ?_⟩
      cases e
      obtain ⟨o, n, e, c, hd, _⟩ := pl
      exact ⟨o, e, hd⟩
    · refine ⟨⟨o, I.kIn p o hk, hc⟩, fun a e => ?_⟩
      cases e
      exact ⟨o, I.kIn _ o hk, hd⟩
    · have z : ∃ o, s.heap.get? p = some o ∧ o.ExactDict := by
        rcases hk with ⟨kvs, hk⟩ | ⟨kvs, hk⟩
        · obtain ⟨_, _, _, _, o, _, _, e, ex, _⟩ := I.hok p _ hk
          exact ⟨o, e, ex⟩
        · obtain ⟨_, _, _, _, o, _, _, e, ex, _⟩ := I.hok p _ hk
          exact ⟨o, e, ex⟩
      obtain ⟨o, e, ex⟩ := z
      refine ⟨⟨o, e, ex.1⟩, fun a e2 => ?_⟩
      cases e2
      exact ⟨o, e, ex.2.1⟩
    · obtain ⟨o, _, _, _, e, ex, _⟩ := I.hok p _ hk
      refine ⟨⟨o, e, ex.1⟩, fun a e2 => ?_⟩
      cases e2
      exact ⟨o, e, ex.2.1⟩
  | _ => exact False.elim ty
noncomputable def quh (K : PySem.W.Frag) (T : String) (r : V → List V → Hp → VK → Prop) (to : TE) : TE := fun σ H Q => to σ H fun x H1 => tyV K T x H1 ∧ r x [] H1 Q
noncomputable def tBM (K : PySem.W.Frag) (T : String) (r : V → List V → Hp → VK → Prop) (to : TE) (t : TA) : TE := fun σ H Q => to σ H fun x H1 => tyV K T x H1 ∧ t σ H1 fun xs H2 => r x xs H2 Q
variable {o e : Expr} {es : List Expr} {to : TE} {t : TA} {name : Str} {apos cpos : Pos} {T id : String} {r : V → List V → Hp → VK → Prop}
theorem qmQ (pa : PlainAttrs T) (slot : Slot T name id) (hty : typeOf (.builtin id) = pure (.type "method_descriptor")) (hm : MtR X id r) (ho : PE X o to) (ha : PA X (e :: es) t)
    (hbase : attributeBase o name X.env (eval o X.env) = eval o X.env := by rfl)
    (hfew : ((backTo cpos (starEach (e :: es) X.env)).all (fun x => !x.1) && (backToKw cpos (keywordEach [] X.env)).all (fun x => x.1.isSome)
      && decide ((e :: es).length + ([] : List Keyword).length + (if ([] : List Keyword).isEmpty then 0 else 1) < 30)) = true := by rfl)
    (hline : (apos.endLine == cpos.line) = true := by rfl) (hs : starEach (e :: es) X.env = (false, eval e X.env) :: starEach es X.env := by rfl) (hplain : (backTo cpos (starEach es X.env)).any (·.1) = false := by rfl) :
    PE X (.Call (.Attribute o name apos) (e :: es) [] cpos) (tBM X.K T r to t) := by
  intro pins s σ H Q I h
  refine wpAny_Call_method_late hbase hfew hline rfl (thn (ho pins s σ H _ I h) fun v s1 ⟨x, H1, I1, r1, ty, q1⟩ => ?_)
  obtain ⟨h1, h2⟩ := qsO I1 r1 ty
  refine ⟨T, id, pa, slot, hty, h1, h2, ?_⟩
  have hA := ha cpos pins s1 σ H1 _ I1 q1
  rw [hs] at hA ⊢
  refine Calls.callWith_builtin (by show (false || (backTo cpos (starEach es X.env)).any (·.1)) = false; rw [hplain] <;> rfl) (Calls.evalArgs_plain ?_)
  exact thn hA fun us s2 ⟨vs, H2, I2, r2, q2⟩ => hm pins s2 σ H2 x vs v us Q I2 r1 r2 q2
end
end L2
namespace L2
open PySem PySem.Spec PyProof.Rows
noncomputable def MtM (X : Cx) (id : String) (r : V → List V → Hp → VK → Prop) : Prop :=
  ∀ (pins : List (Addr × Obj)) (s : Shared) (σ : St) (H : Hp) (x : V) (xs : List V) (v : Value) (us : List Value) (Q : VK), Inv X pins σ H s → RelV x v → Vals xs us → r x xs H Q →
    wpAny (model X.prog X.w) X.A (call (.builtin id) (v :: us)) (EP X pins σ Q) X.xe s
theorem Vals.one : ∀ {x : V} {us : List Value}, Vals [x] us → ∃ u, us = [u] ∧ RelV x u
  | _, _, .cons r .nil => ⟨_, rfl, r⟩
theorem Vals.two : ∀ {x y : V} {us : List Value}, Vals [x, y] us → ∃ u v, us = [u, v] ∧ RelV x u ∧ RelV y v
  | _, _, _, .cons r (.cons q .nil) => ⟨_, _, rfl, r, q⟩
theorem Vals.zero : ∀ {us : List Value}, Vals [] us → us = []
  | _, .nil => rfl
theorem Vals.dropLast {xs : List V} {us : List Value} (h : Vals xs us) : Vals xs.dropLast us.dropLast := by
  induction h with
  | nil => exact .nil
  | cons r t ih =>
    cases t with
    | nil => exact .nil
    | cons q t' => exact .cons r ih
theorem Vals.eraseIdx : ∀ {xs : List V} {us : List Value} (i : Nat), Vals xs us → Vals (xs.eraseIdx i) (us.eraseIdx i)
  | _, _, _, .nil => .nil
  | _, _, 0, .cons _ t => t
  | _, _, i + 1, .cons r t => .cons r (Vals.eraseIdx i t)
theorem Vals.reverse {xs : List V} {us : List Value} (h : Vals xs us) : Vals xs.reverse us.reverse := by
  induction h with
  | nil => exact .nil
  | cons r t ih => rw [List.reverse_cons, List.reverse_cons]; exact Vals.append ih (.cons r .nil)
theorem Vals.rep {xs : List V} {us : List Value} (h : Vals xs us) : ∀ k : Nat, Vals (List.replicate k xs).flatten (List.replicate k us).flatten
  | 0 => .nil
  | k + 1 => by
    rw [List.replicate_succ, List.replicate_succ, List.flatten_cons, List.flatten_cons]
    exact Vals.append h (Vals.rep h k)
theorem qj2 {α : Type} : ∀ (l : List α) (i : Nat), (l.eraseIdx i).length ≤ l.length
  | [], _ => Nat.le_refl _
  | _ :: _, 0 => Nat.le_succ _
  | _ :: r, i + 1 => Nat.succ_le_succ (qj2 r i)
theorem qj3 (its : List Value) : ∀ (k : Nat) (acc : List Value),
    List.foldl (fun x1 x2 => x1 ++ x2) acc.toArray (List.replicate k its.toArray) = (acc ++ (List.replicate k its).flatten).toArray
  | 0, acc => by simp
  | k + 1, acc => by
    have e : acc.toArray ++ its.toArray = (acc ++ its).toArray := by simp
    have e2 : (acc ++ its) ++ (List.replicate k its).flatten = acc ++ (List.replicate (k + 1) its).flatten := by
      rw [List.replicate_succ, List.flatten_cons, List.append_assoc]
    rw [← e2, ← qj3 its k (acc ++ its), ← e, List.replicate_succ, List.foldl_cons]
section
variable {X : Cx} {pins : List (Addr × Obj)} {σ : St} {H : Hp} {s : Shared} {l b : Addr} {xs ys zs : List V}
theorem Inv.lset {its its' : List Value} {n : Nat} {f : Array Value → Array Value} {t' : Nat} (I : Inv X pins σ H s) (hH : H l = some (.lst xs))
    (e : s.heap.get? l = some { cls := .type "list", data := .seq its.toArray n }) (hf : f its.toArray = its'.toArray) (hv : Vals ys its') (hz : ys.length ≤ sizeLine) :
    Inv X pins σ (upd H l (.lst ys)) { s with heap := s.heap.update l (Obj.mapSeq f), toks := t' } := by
  have q := PySem.IsL.update e f
  rw [hf] at q
  refine I.write (x := l) (e := l) (by rw [hH]; exact trivial) (.inl rfl) (fun b' u hb hu => (Heap.get?_update_other s.heap (Obj.mapSeq f) (Ne.symm hb)).trans hu) ⟨_, q⟩ ?_
  exact ⟨hz, its', _, hv, q⟩
theorem Inv.lnew {its : List Value} {t' : Nat} (I : Inv X pins σ H s) (hv : Vals ys its) (hz : ys.length ≤ sizeLine) :
    Inv X pins σ (upd H s.heap.objs.size (.lst ys)) { s with heap := s.heap.push { cls := .type "list", data := .seq its.toArray }, toks := t' } :=
  I.laid (fun _ _ q => Heap.get?_push_of_some _ q) (Nat.le_refl _) ⟨hz, its, 0, hv, Heap.get?_push_size _ rfl⟩
theorem Inv.fresh (I : Inv X pins σ H s) : H s.heap.objs.size = none := I.hok.fresh (Nat.le_refl _)
theorem Inv.lstM (I : Inv X pins σ H s) (hH : H l = some (.lst xs)) : xs.length ≤ sizeLine ∧ ∃ (its : List Value) (n : Nat), Vals xs its ∧ xs.length = its.length ∧ s.heap.get? l = some { cls := .type "list", data := .seq its.toArray n } := by
  obtain ⟨z, its, n, r, e⟩ := I.hok l _ hH
  exact ⟨z, its, n, r, r.length, e⟩
theorem qlY {n : Nat} (h : n ≤ sizeLine) : Builtin.List.listTooLong n = false := by
  unfold Builtin.List.listTooLong
  exact decide_eq_false (by omega)
end
section
variable {X : Cx}
noncomputable def qgZ : V → List V → Hp → VK → Prop := fun x vs H Q => ∃ l xs y, x = .ref l ∧ vs = [y] ∧ H l = some (.lst xs) ∧ xs.length < sizeLine ∧ Q .non (upd H l (.lst (xs ++ [y])))
theorem qj4 : MtM X "list.append" qgZ := by
  intro pins s σ H x vs v us Q I rx rv h
  obtain ⟨l, xs, y, rfl, rfl, hH, hz, q⟩ := h
  cases rx
  obtain ⟨u, rfl, ru⟩ := rv.one
  obtain ⟨z, its, n, r, hl, e⟩ := I.lstM hH
  refine call_meets F.slot_list_append ⟨_, e, rfl⟩ F.entry_list_append (F.args_list_append_2 _ _) (PySem.list_append l its.toArray n u (by rw [List.size_toArray]; omega)) ⟨e, ?_⟩
  refine ⟨.non, _, I.lset (its' := its ++ [u]) hH e (by simp) (r.append (.cons ru .nil)) ?_, rfl, q⟩
  rw [List.length_append, List.length_singleton]
  omega
noncomputable def qiT : V → List V → Hp → VK → Prop := fun x vs H Q => ∃ l b xs zs, x = .ref l ∧ vs = [.ref b] ∧ H l = some (.lst xs) ∧ H b = some (.lst zs) ∧ xs.length + zs.length ≤ sizeLine ∧ Q .non (upd H l (.lst (xs ++ zs)))
theorem qnT : MtM X "list.extend" qiT := by
  intro pins s σ H x vs v us Q I rx rv h
  obtain ⟨l, b, xs, zs, rfl, rfl, hH, hB, hz, q⟩ := h
  cases rx
  obtain ⟨u, rfl, ru⟩ := rv.one
  cases ru
  obtain ⟨z, its, n, r, hl, e⟩ := I.lstM hH
  obtain ⟨z2, its2, n2, r2, hl2, e2⟩ := I.lstM hB
  have hsz : its.toArray.size + its2.toArray.size ≤ sizeLine := by rw [List.size_toArray, List.size_toArray]; omega
  have hlong : ¬ (!its.toArray.isEmpty && Builtin.List.listTooLong (its.toArray.size + its2.toArray.size)) = true := by
    rw [qlY hsz, Bool.and_false]
    exact Bool.false_ne_true
  refine call_meets F.slot_list_extend ⟨_, e, rfl⟩ F.entry_list_extend (F.args_list_extend_2 _ _)
    (AutoSeq1.list_extend_list_list_0 l its.toArray n b its2.toArray n2 hlong (by rw [List.size_toArray]; omega) (by omega)) ⟨e, e2, ?_⟩
  refine ⟨.non, _, I.lset (its' := its ++ its2) hH e (by simp) (r.append r2) ?_, rfl, q⟩
  rw [List.length_append]
  omega
noncomputable def qui : V → List V → Hp → VK → Prop := fun x vs H Q => ∃ l xs y, x = .ref l ∧ vs = [] ∧ H l = some (.lst xs) ∧ xs[xs.length - 1]? = some y ∧ Q y (upd H l (.lst xs.dropLast))
noncomputable def qsP : V → List V → Hp → VK → Prop := fun x vs H Q => ∃ l xs i k y, x = .ref l ∧ vs = [.int i] ∧ H l = some (.lst xs) ∧ -(2 ^ 63) ≤ i ∧ i < 2 ^ 63 ∧ seqIndex? i xs.length = some k ∧ xs[k]? = some y ∧ Q y (upd H l (.lst (xs.eraseIdx k)))
theorem qpQ : MtM X "list.pop" qsP := by
  intro pins s σ H x vs v us Q I rx rv h
  obtain ⟨l, xs, i, k, y, rfl, rfl, hH, h1, h2, hk, hy, q⟩ := h
  cases rx
  obtain ⟨u, rfl, ru⟩ := rv.one
  obtain ⟨t, rfl⟩ := ru
  obtain ⟨z, its, n, r, hl, e⟩ := I.lstM hH
  obtain ⟨w, hw, rw'⟩ := r.get hy
  refine call_meets F.slot_list_pop ⟨_, e, rfl⟩ F.entry_list_pop (F.args_list_pop_2 _ _)
    (MeetsSeq.list_pop_at l its.toArray n i t k w (fitsIndex_both h1 h2) (by rw [List.size_toArray, ← hl]; exact hk) (by rw [← Array.getElem?_toList]; exact hw) (by rw [List.size_toArray]; omega)) ⟨e, ?_⟩
  refine ⟨y, _, I.lset (its' := its.eraseIdx k) hH e ?_ (r.eraseIdx k) ?_, rw', q⟩
  · show its.toArray.eraseIdxIfInBounds k = (its.eraseIdx k).toArray
    rw [List.eraseIdxIfInBounds_toArray]
  · have := qj2 xs k
    omega
noncomputable def qtF : R2 := fun x y H Q => ∃ l b xs zs, x = .ref l ∧ y = .ref b ∧ H l = some (.lst xs) ∧ H b = some (.lst zs) ∧ xs.length + zs.length ≤ sizeLine ∧ ∀ p, H p = none → Q (.ref p) (upd H p (.lst (xs ++ zs)))
theorem qsQ : OpR X (binaryOp .Add) qtF := by
  intro pins s σ H x y v u Q I rx ry h
  obtain ⟨l, b, xs, zs, rfl, rfl, hH, hB, hz, q⟩ := h
  cases rx
  cases ry
  obtain ⟨z, its, n, r, hl, e⟩ := I.lstM hH
  obtain ⟨z2, its2, n2, r2, hl2, e2⟩ := I.lstM hB
  refine PySem.P.add_list e e2 ?_ (by rw [List.size_toArray, List.size_toArray]; omega)
  have ea : its.toArray ++ its2.toArray = (its ++ its2).toArray := by simp
  rw [ea]
  exact ⟨.ref _, _, I.lnew (t' := s.toks) (r.append r2) (by rw [List.length_append]; omega), rfl, q _ I.fresh⟩
noncomputable def qqN : R2 := fun x y H Q => ∃ l k xs, x = .ref l ∧ y = .int k ∧ H l = some (.lst xs) ∧ -(2 ^ 63) ≤ k ∧ k < 2 ^ 63 ∧ xs.length * k.toNat ≤ sizeLine ∧
  ∀ p, H p = none → Q (.ref p) (upd H p (.lst (List.replicate k.toNat xs).flatten))
theorem qrr {α : Type} (xs : List α) (k : Nat) : (List.replicate k xs).flatten.length = k * xs.length := by
  induction k with
  | zero => simp
  | succ k ih => rw [List.replicate_succ, List.flatten_cons, List.length_append, ih, Nat.succ_mul, Nat.add_comm]
theorem qj5 : OpR X (binaryOp .Mult) qqN := by
  intro pins s σ H x y v u Q I rx ry h
  obtain ⟨l, k, xs, rfl, rfl, hH, h1, h2, hz, q⟩ := h
  cases rx
  obtain ⟨t, rfl⟩ := ry
  obtain ⟨z, its, n, r, hl, e⟩ := I.lstM hH
  have hlen : its.toArray.size * k.toNat ≤ sizeLine := by rw [List.size_toArray, ← hl]; exact hz
  have hcap : ¬ its.toArray.size * k.toNat > (2 ^ 63 - 1) / 8 := by
    have : (sizeLine : Nat) ≤ (2 ^ 63 - 1) / 8 := by decide
    omega
  have hfit : ¬ (!Builtin.List.listFitsIndex k) = true := by
    rw [fitsIndex_both h1 h2]
    exact Bool.false_ne_true
  have hlong : ¬ Builtin.List.listTooLong (its.toArray.size * k.toNat) = true := by
    rw [qlY hlen]
    exact Bool.false_ne_true
  have hnew : List.foldl (fun x1 x2 => x1 ++ x2) #[] (List.replicate (if its.toArray.isEmpty = true then 0 else k.toNat) its.toArray) = (List.replicate k.toNat its).flatten.toArray := by
    have f0 : ∀ m : Nat, List.foldl (fun x1 x2 => x1 ++ x2) #[] (List.replicate m its.toArray) = (List.replicate m its).flatten.toArray := fun m => by
      have := qj3 its m []
      rw [List.nil_append] at this
      exact this
    rw [f0]
    cases its with
    | nil => simp
    | cons a r' => rw [if_neg (by simp)]
  refine wpAny_binaryOp_repeat_ref (T := "list") (U := "int") (by decide) ⟨_, e, rfl⟩ (fun s' => typeIs_int s' k t) noFill_list_mul F.fills_int_mul F.slot_int_rmul repeat_list F.slot_int_index.lookup
    (call_meets F.slot_int_rmul (typeIs_int s k t) F.entry_int_rmul (F.args_int_rmul_2 _ _) (int___rmul___int_list k t l its.toArray n)
      ⟨e, rfl, ⟨_, e, rfl⟩, call_meets F.slot_list_mul ⟨_, e, rfl⟩ F.entry_list_mul (F.args_list_mul_2 _ _) (AutoListH.list___mul___list_int_3 l its.toArray n k t hfit hcap hlong) ⟨e, ?_⟩⟩)
  rw [hnew]
  exact ⟨.ref _, _, I.lnew (t' := s.toks) (r.rep k.toNat) (by rw [qrr, Nat.mul_comm]; exact hz), rfl, q _ I.fresh⟩
end
section
variable {prog : Program} {w : World} {A : Around} {E : Value → Shared → Prop} {s : Shared}
end
section
variable {X : Cx}
end
end L2
namespace Att
open PySem PySem.W PySem.Calls PyProof.Rows
theorem qg0 {P : Params} {h : Heap} : ∀ (ns : List Int) (vs : List Value), WellAll P h vs (ns.map WData.int) → IntsAre vs ns := by
  intro ns
  induction ns with
  | nil =>
    intro vs w
    rw [List.map_nil] at w
    cases w
    exact .nil
  | cons n ns ih =>
    intro vs w
    rw [List.map_cons] at w
    cases w with
    | cons a b =>
      cases a
      exact .cons _ _ (ih _ b)
theorem qnU {l : OpenLaw} {n : Nat} (hn : l.most = some n) {P : Params} {h : Heap} {args : List WData} {vals : List Value}
    (hpre : l.row.toRowW.claim.pre args = true) (hwl : WellAll P h vals args) :
    ∃ a vs ns, vals = [Value.ref a] ∧ args = [WData.list (ns.map WData.int)] ∧ h.get? a = some { cls := .type "list", data := .seq vs.toArray } ∧ IntsAre vs ns ∧ ns.length ≤ n := by
  have hsh : WShape.hasAll [] args [.list .int] = true := (pre_splitW hpre).1
  have hc : l.pre.holds [] { args := args } = true := (pre_splitW hpre).2
  obtain ⟨d, r, rfl, h1, h2⟩ := hasAllW_cons hsh
  obtain rfl := hasAllW_nil h2
  obtain ⟨xs, rfl, h3⟩ := hasW_list h1
  obtain ⟨ns, rfl⟩ := items_int h3
  have hlen : ns.length ≤ n := by
    unfold OpenLaw.pre at hc
    have h4 : (WTm.not (.lt (.lit (.int (n : Int))) (.len (.arg 0)))).holds [] { args := [.list (ns.map .int)] } = true := by
      have h4 := (holds_andW hc).1
      rw [hn] at h4
      exact h4
    have h5 := condW_of h4 (w_not (w_lt w_lit (w_len_list (w_arg rfl))))
    rw [List.length_map] at h5
    refine Nat.le_of_not_lt fun q => ?_
    have q' : (n : Int) < ((ns.length : Nat) : Int) := by omega
    first
      | (rw [decide_eq_true q'] at h5; exact absurd h5 (by decide))
      | (simp at h5; omega)
  cases hwl with
  | cons w1 w2 =>
    cases w2
    cases w1 with
    | list ho hall => exact ⟨_, _, ns, rfl, rfl, ho, qg0 ns _ hall, hlen⟩
theorem qnV (l : OpenLaw) (args : List WData) : l.row.toRowW.claim.post args (.bool true) args = true :=
  postW_of (r := l.row.toRowW) (X := (true == true))
    (show WShape.has [] (.bool true) .bool = true by first | rfl | decide | simp [WShape.has, WShape.arms, WShape.armsAll])
    (show (WTm.eq .res (.lit (.bool true))).value [] { args := args, res := some (.bool true), after := args } = some (.bool (true == true)) from w_eq_bool (w_res rfl) w_lit) rfl
theorem attach_call {l : OpenLaw} {n : Nat} {q : Program} {loose : List Str} {XP : (Str → Option Value) → Heap → Prop} {YP : World → Heap → Prop} {d : DefRec}
    (hn : l.most = some n) (hdf : d.params.defaults = [])
    (call : ∀ (w : World) (s₀ s₁ : Shared) (mg mb : Str → Option Value) (fa : Addr) (o : Obj) (pm cd doc : Value) (a : Addr) (vs : List Value) (ns : List Int),
      Ground q loose [] XP w s₀ mg mb s₁.heap → YP w s₁.heap →
      s₁.heap.get? fa = some o → o.data = .func (docDef d.name d.params d.body d.scope pm cd doc) → s₁.heap.CodeRec cd d.name → mg d.name = some (.ref fa) →
      s₁.heap.get? a = some { cls := .type "list", data := .seq vs.toArray } → IntsAre vs ns → ns.length ≤ n → s₁.gens = #[] →
      codeAny (model l.prog w) callerA (.call (.ref fa) ⟨[.ref a], []⟩) (fun r s' => r = .ok (.ret (.bool true)) ∧ OldK s₁.heap s'.heap ∧ s'.os = s₁.os ∧ AllBare s'.gens) s₁) :
    WalkO q loose XP YP l.row.toRowW d [] (fun f vs => PySem.call f vs) := by
  intro w s₀ s₁ mg mb G Y fa o pm cd doc dV kV ho hd hcd hD hmg hg args vals as hpre hlay hrd hwl hlo
  obtain rfl : dV = .none := Dflts.none hD hdf
  obtain rfl : kV = .none := Dflts.noKw hD
  obtain ⟨a, vs, ns, rfl, rfl, hobj, hints, hlen⟩ := qnU hn hpre hwl
  refine enter_call (codeAny_mono (call w s₀ s₁ mg mb fa o pm cd doc a vs ns G Y ho (fd_plain hd) hcd hmg hobj hints hlen hg) fun r s' hq => ?_)
  obtain ⟨rfl, h2, h3, h4⟩ := hq
  exact ⟨.inl ⟨.bool true, .bool true, [], rfl, fun _ => rfl, .bool true, qnV l _, fun _ => ⟨List.Pairwise.nil, fun _ hm => (nomatch hm)⟩⟩, h2, h3, h4⟩
section
variable {prog : Program} {w : World} {A : Around} {E : Value → Shared → Prop} {s : Shared} {K : Frag}
end
end Att
namespace L2
open PySem PySem.Spec PyProof.Rows
theorem qj6 : ∀ {vs : List Value} {ns : List Int}, IntsAre vs ns → Vals (ns.map V.int) vs
  | _, _, .nil => .nil
  | _, _, .cons n t h => .cons ⟨t, rfl⟩ (qj6 h)
noncomputable def Only (H : Hp) : Prop := ∀ b, H b = none ∨ ∃ o xs, H b = some (.frz o (.lst xs))
theorem qpR {P : Program} {w : World} {K : PySem.W.Frag} {mg mb : Str → Option Value} {CX : CXT} {k : Nat} {fa a : Addr} {fd : FuncData} {x : Str} {sp : Sp} {s₁ : Shared} {vs : List Value} {ns : List Int}
    (KX : K.In s₁.heap) (hns : s₁.heap.Ns mainGlobals mg) (hb : s₁.heap.Ns builtinsNs mb) (hbb : ∀ x : Str, x ≠ "__name__" → mb x = bootBuiltins x) (hlim : s₁.heap.NoLimit) (hseer : s₁.heap.NoSeer) (htree : (model P w).prog.given.tree = none) (hg : s₁.gens = #[])
    (ha : s₁.heap.get? a = some { cls := .type "list", data := .seq vs.toArray }) (hi : IntsAre vs ns) (hl : ns.length ≤ sizeLine) (hr : Room k callerA)
    (F : ∀ base : Heap, K.In base → base.Ns mainGlobals mg → FnOk P w K mg base CX k fa fd [x] sp) (hbind : ∀ (s : Shared) (u : Value), BindsTo s fd ⟨[u], []⟩ [(x, u)])
    (hsp : ∀ H : Hp, Only H → SqL K H a (ns.map V.int) → sp [.ref a] H (fun v _ => v = .bl true) fun _ _ _ => False)
    (hCX : ∀ H e s', CX [] H s₁ (fun _ _ _ => False) e s' → False) :
    codeAny (model P w) callerA (.call (.ref fa) ⟨[.ref a], []⟩) (fun r s' => r = .ok (.ret (.bool true)) ∧ OldK s₁.heap s'.heap ∧ s'.os = s₁.os ∧ AllBare s'.gens) s₁ := by
  have rv := qj6 hi
  have lenV := hi.length
  have core : ∀ H : Hp, Only H → SqL K H a (ns.map V.int) → HOk P w H s₁.heap → (∀ b, H b ≠ none → b = a) → (H a ≠ none → K.lookup a = none) →
      codeAny (model P w) callerA (.call (.ref fa) ⟨[.ref a], []⟩) (fun r s' => r = .ok (.ret (.bool true)) ∧ OldK s₁.heap s'.heap ∧ s'.os = s₁.os ∧ AllBare s'.gens) s₁ := by
    intro H hO hS hok hA hK
    have base_of : ∀ {b : Addr} {o : Obj}, s₁.heap.get? b = some o → H b = none → (qpH s₁.heap H).get? b = some o := fun e n => qpJ e n
    have noA : ∀ {b : Addr} {o : Obj} {es : Array DictEntry} {ep : Nat}, s₁.heap.get? b = some o → o.data = .dict es ep → H b = none := fun {b o es ep} e d => by
      cases q : H b with
      | none => rfl
      | some u =>
        have e' : b = a := hA b (by rw [q]; simp)
        subst e'
        rw [ha] at e; cases e
        have d' : Data.seq vs.toArray _ = Data.dict es ep := d
        cases d'
    have nsK : ∀ {b : Addr} {m : Str → Option Value}, s₁.heap.Ns b m → (qpH s₁.heap H).Ns b m := fun {b m} ⟨o, es, ep, e, d, r⟩ => ⟨o, es, ep, base_of e (noA e d), d, r⟩
    have hKb : K.In (qpH s₁.heap H) := fun b o e => base_of (KX b o e) (by
      cases q : H b with
      | none => rfl
      | some u =>
        have e' : b = a := hA b (by rw [q]; simp)
        subst e'
        rw [hK (by rw [q]; simp)] at e; cases e)
    have hM : Mod K mg (qpH s₁.heap H) := ⟨hKb, nsK hns, ⟨mb, nsK hb, hbb⟩, let ⟨mc, h1, h2⟩ := hlim; ⟨mc, nsK h1, h2⟩⟩
    have hSe : (qpH s₁.heap H).NoSeer := ⟨let ⟨mc, a, b⟩ := hseer.statics; ⟨mc, nsK a, b⟩, let ⟨mc, a, b⟩ := hseer.mods; ⟨mc, nsK a, b⟩, let ⟨mc, a, b⟩ := hseer.imp; ⟨mc, nsK a, b⟩,
      let ⟨mg', bm, ob, a', b', c', d', e'⟩ := hseer.main; ⟨mg', bm, ob, nsK a', b', base_of c' (by
        cases q : H bm with
        | none => rfl
        | some u =>
          have z : bm = a := hA bm (by rw [q]; simp)
          subst z
          rw [ha] at c'; cases c'
          simp at d'), d', e'⟩⟩
    have e0 : Env0 P w K mg (qpH s₁.heap H) callerA [] s₁ H := ⟨rfl, hM, fun b o e => qrg e, Nat.le_of_eq (qnw _ _), trivial, fun b hb => absurd (show b ∈ ([] : List Addr) from hb) (by simp), hok, .of_eq hg, hSe, htree⟩
    refine codeAny_mono ((F _ hKb (nsK hns)).run callerA [] s₁ H ⟨[.ref a], []⟩ [.ref a] [.ref a] _ _ hr e0 (hbind s₁ (.ref a)) (.cons rfl .nil) (hsp H hO hS)) fun r s' h => ?_
    cases r with
    | error e => exact (hCX H e s' h).elim
    | ok fl =>
      cases fl with
      | next => exact False.elim h
      | brk => exact False.elim h
      | cont => exact False.elim h
      | ret u =>
        obtain ⟨v, H', os, bare, un, hok', r', q⟩ := h
        have q' : v = .bl true := q
        subst q'
        obtain rfl : u = Value.bool true := r'
        refine ⟨rfl, OldK.of_keep fun b o e => ?_, os, bare⟩
        cases q : H b with
        | none => exact un.keep b o e q (by intro z; exact absurd (show b ∈ ([] : List Addr) from z) (by simp)) (by simp)
        | some u =>
          rcases hO b with z | ⟨ob, xs, z⟩
          · rw [q] at z; cases z
          · have z2 := un.frzs b ob _ z
            obtain ⟨e1, _⟩ := hok b _ z
            obtain ⟨e2, _⟩ := hok' b _ z2
            rw [e] at e1; cases e1
            exact e2
  cases hk : K.lookup a with
  | some o =>
    have e := KX a o hk
    rw [ha] at e
    cases e
    refine core (fun _ => none) (fun _ => .inl rfl) (.inr ⟨_, vs.toArray, _, hk, rfl, rfl, rfl, by rw [List.size_toArray, lenV]; exact hl, by simpa using rv⟩) (fun b u z => by have z' : (none : Option HO) = some u := z; cases z') (fun b z => absurd rfl z) fun z => absurd rfl z
  | none =>
    refine core (fun b => if b = a then some (.frz { cls := .type "list", data := .seq vs.toArray } (.lst (ns.map V.int))) else none) (fun b => ?_) (.inl (.inr ⟨{ cls := .type "list", data := .seq vs.toArray }, if_pos rfl⟩)) (fun b u z => ?_) (fun b z => ?_) fun _ => hk
    · by_cases hb : b = a
      · exact .inr ⟨_, _, if_pos hb⟩
      · exact .inl (if_neg hb)
    · by_cases hb : b = a
      · have z' := (if_pos hb).symm.trans z
        cases z'
        subst hb
        exact ⟨ha, by rw [List.length_map]; exact hl, vs, _, rv, ha⟩
      · have z' := (if_neg hb).symm.trans z
        cases z'
    · by_cases hb : b = a
      · exact hb
      · exact absurd (if_neg hb) z
end L2
namespace L2
open PySem PySem.Spec PyProof.Rows
theorem walk_of {l : PySem.W.OpenLaw} {n k : Nat} {q : Program} {loose : List Str} {XP : (Str → Option Value) → Heap → Prop} {YP : World → Heap → Prop} {d : DefRec} {K : Params → PySem.W.Frag} {CX : World → CXT} {sp : World → Sp} {x : Str}
    (hn : l.most = some n) (hn2 : n ≤ sizeLine) (hdf : d.params.defaults = []) (hq : importsNone q = true) (htree : ∀ w, (model l.prog w).prog.given.tree = none) (hr : Room k callerA)
    (hY : ∀ (w : World) (h : Heap), YP w h → (K w.params).In h)
    (F : ∀ (w : World) (mg : Str → Option Value) (fa : Addr) (h : Heap), (K w.params).In h → h.Ns mainGlobals mg → mg d.name = some (.ref fa) →
      ∃ fd : FuncData, (∀ (s : Shared) (u : Value), BindsTo s fd ⟨[u], []⟩ [(x, u)]) ∧
        ∀ base : Heap, (K w.params).In base → base.Ns mainGlobals mg → FnOk l.prog w (K w.params) mg base (CX w) k fa fd [x] (sp w))
    (hsp : ∀ (w : World) (H : Hp) (a : Addr) (ns : List Int), ns.length ≤ n → Only H → SqL (K w.params) H a (ns.map V.int) → sp w [.ref a] H (fun v _ => v = .bl true) fun _ _ _ => False)
    (hCX : ∀ (w : World) (H : Hp) (s : Shared) (e : Value) (s' : Shared), CX w [] H s (fun _ _ _ => False) e s' → False) :
    PySem.W.WalkO q loose XP YP l.row.toRowW d [] (fun f vs => PySem.call f vs) := by
  refine Att.attach_call hn hdf fun w s₀ s₁ mg mb fa o pm cd doc a vs ns G Y ho hd hcd hmg hobj hints hlen hg => ?_
  have KX := hY w _ Y
  obtain ⟨fd, hb, hF⟩ := F w mg fa _ KX G.T.g hmg
  exact qpR KX G.T.g G.T.b G.T.builtins G.T.nolimit (G.T.seer hq) (htree w) hg hobj hints (Nat.le_trans hlen hn2) hr hF hb (fun H hO hS => hsp w H a ns hlen hO hS) fun H e s' => hCX w H s₁ e s'
end L2
namespace L2
open PySem PySem.Spec PyProof.Rows
noncomputable def qeV (s : Stmt) : Arguments := match s with
  | .FunctionDef _ a _ _ _ _ _ _ _ _ => a
  | _ => { posonlyargs := [], args := [], vararg := none, kwonlyargs := [], kw_defaults := [], kwarg := none, defaults := [] }
noncomputable def qec (s : Stmt) : List Stmt := match s with
  | .FunctionDef _ _ b _ _ _ _ _ _ _ => b
  | _ => []
noncomputable def qak (s : Stmt) : Scope := match s with
  | .FunctionDef _ _ _ _ _ _ sc _ _ _ => sc
  | _ => { kind := .function, names := [], isGenerator := false, isCoroutine := false }
noncomputable abbrev CX0 : CXT := fun _ _ _ _ _ _ => False
noncomputable abbrev E0 : XK := fun _ _ _ => False
theorem qtR {X : Cx} : Passes CX0 X E0 := fun _ _ _ _ _ _ _ h => h.elim
structure Fun (K : PySem.W.Frag) (x qual : Str) (st : Stmt) (f : Addr) (fd : FuncData) : Prop where
  ex : ∃ (oc : Value) (od : Option Addr) (kV doc pm : Value) (an : Option Addr) (cdv ct : Value) (osl : Array (Option Value)),
    fd = PySem.W.fnOf x qual (qeV st) (qec st) (qak st) .none kV doc pm an cdv ct ∧ K.lookup f = some ⟨oc, od, .func fd, osl⟩ ∧ PySem.W.codeIn K cdv qual = true
  kp : PySem.W.keepIn K (.ref f) = true
section
variable {P : Program} {w : World} {K : PySem.W.Frag} {mg : Str → Option Value} {base : Heap}
theorem Fun.ok {x qual : Str} {st : Stmt} {f : Addr} {fd : FuncData} {N ps : List Str} {k : Nat} {sp : Sp} (F : Fun K x qual st f fd) (S : FnScope N ps (qak st)) (len : ∀ vs H Q E, sp vs H Q E → vs.length = ps.length)
    (hbody : ∀ (cdv : Value) (A : Around) (outer : List Env) (s : Shared) (H : Hp) (vs : List V) (Q : VK) (E : XK), Room k (A.deeper (envOfC qual (qak st) s.heap.objs.size f cdv)) → sp vs H Q E →
      ∃ t, PSs (qsw CX0 P w K mg base N qual (qak st) f cdv A outer s H E).nox (qec st) t ∧ t { nx := fun _ H' => Q .non H', rt := Q } (start N vs) H) : FnOk P w K mg base CX0 (k + 1) f fd ps sp := by
  obtain ⟨oc, od, kV, doc, pm, an, cdv, ct, osl, rfl, lk, hcd⟩ := F.ex
  refine qtQ lk hcd S len fun A outer s H vs Q E hr hsp => ?_
  obtain ⟨t, h, q⟩ := hbody cdv A outer s H vs Q E hr hsp
  exact ⟨t, h.nox, q⟩
theorem Fun.binds {x qual : Str} {st : Stmt} {f : Addr} {fd : FuncData} {ps : List Str} (F : Fun K x qual st f fd)
    (h : ∀ (kV doc pm : Value) (an : Option Addr) (cdv ct : Value) (us : List Value), us.length = ps.length → bindArgs (PySem.W.fnOf x qual (qeV st) (qec st) (qak st) .none kV doc pm an cdv ct) ⟨us, []⟩ = pure (ps.zip us)) : Binds K fd ps [] := by
  obtain ⟨oc, od, kV, doc, pm, an, cdv, ct, osl, rfl, lk, hcd⟩ := F.ex
  exact .all (h kV doc pm an cdv ct)
theorem qsR {x qual : Str} {st : Stmt} {f : Addr} {oc : Value} {od an : Option Addr} {osl : Array (Option Value)} {kV doc pm cdv ct : Value} (l : K.lookup f = some ⟨oc, od, .func (PySem.W.fnOf x qual (qeV st) (qec st) (qak st) .none kV doc pm an cdv ct), osl⟩)
    (c : PySem.W.codeIn K cdv qual = true) (k : PySem.W.keepIn K (.ref f) = true) : Fun K x qual st f (PySem.W.fnOf x qual (qeV st) (qec st) (qak st) .none kV doc pm an cdv ct) := ⟨⟨oc, od, kV, doc, pm, an, cdv, ct, osl, rfl, l, c⟩, k⟩
end
section
variable {X : Cx}
theorem pv (i : Nat) {x : Str} {pos : Pos} (hN : X.N[i]? = some x := by rfl) (hv : Vis X.env.scope x := by first | exact Or.inl rfl | exact Or.inr (Or.inl rfl) | exact Or.inr (Or.inr rfl)) (hd : (x == ("__debug__" : Str)) = false := by decide)
    (hcd : (x == ("__classdict__" : Str)) = false := by decide) : PE X (.Name x pos) (qaf i) := qsC hN hv hd hcd
end
theorem qbU {c A B : Prop} [Decidable c] (h1 : c → A) (h2 : ¬ c → B) : if c then A else B := by
  by_cases h : c
  · rw [if_pos h]
    exact h1 h
  · rw [if_neg h]
    exact h2 h
noncomputable def Same (H H' : Hp) : Prop := ∀ b o, H b = some o → H' b = some o
theorem Same.refl (H : Hp) : Same H H := fun _ _ h => h
theorem Same.trans {H H1 H2 : Hp} (a : Same H H1) (b : Same H1 H2) : Same H H2 := fun c o h => b c o (a c o h)
theorem Same.free {H H' : Hp} (e : Same H H') {l : Addr} (h : H' l = Option.none) : H l = Option.none := by
  cases q : H l with
  | none => rfl
  | some o =>
    rw [e l o q] at h
    cases h
theorem Same.seq {K : PySem.W.Frag} {H H' : Hp} {a : Addr} {xs : List V} (e : Same H H') (h : SqL K H a xs) : SqL K H' a xs := by
  rcases h with (h | ⟨o, h⟩) | h
  · exact .inl (.inl (e _ _ h))
  · exact .inl (.inr ⟨o, e _ _ h⟩)
  · exact .inr h
end L2
local macro_rules | `(tactic| omega) => `(tactic| lia)
namespace Bs.Hd
open PySem PySem.Spec PyProof.Rows L2
set_option maxRecDepth 100000
set_option maxHeartbeats 4000000
noncomputable def top (i:Nat):Stmt:=PySem.Challenge.pw_backslope_k81_forms_written.main.body.getD i (.Pass ⟨0,0,0,0⟩)
noncomputable abbrev qcC:Stmt:=top 2
noncomputable abbrev qiU:Stmt:=top 3
noncomputable abbrev qg1:Stmt:=top 4
noncomputable abbrev qdG:Stmt:=top 5
noncomputable abbrev qed:Stmt:=top 6
noncomputable abbrev qfS:Stmt:=top 7
noncomputable abbrev qfT:Stmt:=top 8
noncomputable abbrev qdH:Stmt:=top 9
noncomputable abbrev qb4:Stmt:=top 10
noncomputable abbrev qcX:Stmt:=top 11
noncomputable abbrev qcY:Stmt:=top 12
noncomputable abbrev qcD:Stmt:=top 13
noncomputable abbrev qdr:Stmt:=top 14
noncomputable abbrev qee:Stmt:=top 15
noncomputable abbrev qds:Stmt:=top 16
noncomputable abbrev qdt:Stmt:=top 17
noncomputable abbrev qdI:Stmt:=top 18
noncomputable abbrev qcZ:Stmt:=top 19
noncomputable abbrev qg2:Stmt:=top 20
noncomputable abbrev qcd:Stmt:=top 21
noncomputable abbrev qef:Stmt:=top 22
noncomputable abbrev qk2:Stmt:=top 24
noncomputable abbrev qk3:Stmt:=top 25
noncomputable abbrev qnW:Stmt:=top 26
noncomputable abbrev qg3:Stmt:=top 27
noncomputable abbrev qnX:Stmt:=top 29
noncomputable abbrev qiV:Stmt:=top 30
noncomputable abbrev qg4:Stmt:=top 31
noncomputable abbrev qeW:Stmt:=top 32
noncomputable abbrev qfU:Stmt:=top 33
noncomputable abbrev qg5:Stmt:=top 34
noncomputable abbrev qiW:Stmt:=top 35
noncomputable abbrev qfV:Stmt:=top 37
noncomputable abbrev qiX:Stmt:=top 38
noncomputable abbrev qfW:Stmt:=top 39
noncomputable abbrev qdJ:Stmt:=top 42
noncomputable abbrev qeg:Stmt:=top 43
noncomputable abbrev qeX:Stmt:=top 44
noncomputable abbrev qk4:Stmt:=top 45
noncomputable abbrev qeY:Stmt:=top 46
noncomputable abbrev qnY:Stmt:=top 47
noncomputable abbrev qeZ:Stmt:=top 49
noncomputable abbrev qe0:Stmt:=top 50
noncomputable abbrev qk5:Stmt:=top 52
noncomputable abbrev qiY:Stmt:=top 53
noncomputable abbrev qfX:Stmt:=top 54
noncomputable abbrev qfY:Stmt:=top 55
noncomputable abbrev qk6:Stmt:=top 56
noncomputable abbrev qe1:Stmt:=top 57
noncomputable abbrev qe2:Stmt:=top 58
noncomputable abbrev qiZ:Stmt:=top 59
noncomputable abbrev qdu:Stmt:=top 60
noncomputable abbrev qc0:Stmt:=top 61
noncomputable abbrev qdK:Stmt:=top 62
noncomputable abbrev qce:Stmt:=top 63
noncomputable abbrev qdL:Stmt:=top 64
noncomputable abbrev qfZ:Stmt:=top 65
noncomputable abbrev qi0:Stmt:=top 66
noncomputable abbrev qmR:Stmt:=top 67
noncomputable abbrev N:Value:=.none
noncomputable abbrev S (x:Str) (t:Tok):Value:=.str x t
noncomputable abbrev I (i:Int):Value:=.int i 0
noncomputable abbrev R (a:Addr):Value:=.ref a
noncomputable def en (P:Params) (k:Str) (t:Tok) (v:Value):DictEntry:=⟨PyData.keyHash P k,.str k t,v⟩
noncomputable def cdO (n:Str) (t:Tok) (l c u:Int) (a:Addr) (b g d e f:Value) (x:Int) (y:Tok):Obj:=⟨.type "code", none,.fields #[S n t,S n (t+1),S "/claim/cut.py" (t+2),I l,I c,I 0,I 0,I u,R a,.bool true,I 181,b,g,d,e,f,I x,I l,S "/claim/cut.py" y],#[]⟩
noncomputable def fnO (n:Str) (s:Stmt) (pm:Value) (c:Addr):Obj:=⟨.type "function", none,.func (PySem.W.fnOf n n (qeV s) (qec s) (qak s) .none .none .none pm none (.ref c) .none),#[]⟩
noncomputable abbrev mo0:Value:=S "backslope.wholes" 187
noncomputable abbrev mo1:Value:=S "backslope.numbers" 380
noncomputable abbrev mo2:Value:=S "backslope.polys" 414
noncomputable abbrev mo3:Value:=S "backslope.fractions" 475
noncomputable abbrev mo4:Value:=S "backslope.texts" 503
noncomputable abbrev mo5:Value:=S "backslope.sheet" 559
noncomputable abbrev mo6:Value:=S "law_backslope_k81_forms_written" 578
noncomputable def hp (P:Params):W.Frag:=[
  (3,⟨.type "dict", none,.dict #[en P "__name__" 165 (S "law_backslope_k81_forms_written" 578),en P "__doc__" 166 N,en P "__package__" 167 N,en P "__loader__" 168 (.builtin "__main__.__loader__#opaque"),en P "__spec__" 169 N,en P "__annotations__" 170 (R 6),en P "__builtins__" 171 (R 4),en P "__file__" 173 (S "/claim/cut.py" 172),en P "__cached__" 174 N,en P "EXPONENTS" 197 (R 15),en P "common_divisor" 206 (R 22),en P "raised" 216 (R 29),en P "content" 222 (R 34),en P "row_trimmed" 230 (R 41),en P "row_parted" 236 (R 46),en P "row_over" 250 (R 53),en P "row_less" 256 (R 58),en P "strand_rest" 262 (R 63),en P "strand_shortened" 268 (R 68),en P "row_shortened" 275 (R 75),en P "strand_euclid" 284 (R 82),en P "inverse_modulo" 298 (R 89),en P "rests_modulo" 304 (R 94),en P "row_modulo" 312 (R 101),en P "monic_modulo" 318 (R 106),en P "split_modulo" 333 (R 113),en P "rest_modulo" 342 (R 120),en P "euclid_modulo" 352 (R 127),en P "nearest" 361 (R 134),en P "common_by_prime" 367 (R 139),en P "row_common" 379 (R 146),en P "ratio" 390 (R 153),en P "times" 398 (R 160),en P "over" 406 (R 167),en P "size_of" 413 (R 174),en P "poly" 423 (R 181),en P "degree" 430 (R 188),en P "cleared" 436 (R 193),en P "uncleared" 442 (R 198),en P "p_scaled" 448 (R 203),en P "p_split" 465 (R 210),en P "common" 474 (R 217),en P "fraction" 485 (R 224),en P "evened" 494 (R 231),en P "quotient" 502 (R 238),en P "FIGURES_AT_ONCE" 506 (.int 600 505),en P "show_number" 514 (R 245),en P "show_whole" 524 (R 252),en P "show_poly" 533 (R 259),en P "joint" 541 (R 266),en P "show_term" 550 (R 273),en P "show" 558 (R 280),en P "show_form" 566 (R 285),en P "with_logs" 577 (R 292),en P "_law_box" 589 (R 299),en P "_law_take" 599 (R 306),en P "_law_lowest" 609 (R 313),en P "_law_number" 617 (R 320),en P "_law_sum" 625 (R 327),en P "_law_product" 633 (R 334),en P "_law_poly_of" 641 (R 341),en P "_law_poly" 647 (R 346),en P "_law_multiplied" 660 (R 353),en P "_law_number_text" 667 (R 360),en P "_law_poly_text" 680 (R 367),en P "_law_fraction_text" 687 (R 374),en P "_law_logs_text" 700 (R 381),en P "_law_rising" 706 (R 386),en P "_law_form" 712 (R 391),en P "law" 718 (R 396)] 70,#[]⟩),
  (15,⟨.type "tuple", none,.seq #[(.int 61 189),(.int 127 190),(.int 521 191),(.int 1279 192),(.int 4423 193),(.int 9941 194),(.int 21701 195),(.int 44497 196)] 0,#[]⟩),
  (21,cdO "common_divisor" 198 3 2 3 16 (R 17) N (R 18) (R 19) (R 20) 204 205),
  (22,fnO "common_divisor" (top 2) mo0 21),
  (28,cdO "raised" 207 9 2 3 23 (R 24) N (R 25) (R 26) (R 27) 214 215),
  (29,fnO "raised" (top 3) mo0 28),
  (33,cdO "content" 217 19 2 3 30 (R 31) N N N (R 32) 220 221),
  (34,fnO "content" (top 4) mo0 33),
  (40,cdO "row_trimmed" 223 26 1 3 35 (R 36) N (R 37) (R 38) (R 39) 228 229),
  (41,fnO "row_trimmed" (top 5) mo0 40),
  (45,cdO "row_parted" 231 31 2 3 42 (R 43) N N N (R 44) 234 235),
  (46,fnO "row_parted" (top 6) mo0 45),
  (52,cdO "row_over" 237 33 2 3 47 (R 48) N (R 49) (R 50) (R 51) 248 249),
  (53,fnO "row_over" (top 7) mo0 52),
  (57,cdO "row_less" 251 46 5 3 54 (R 55) N N N (R 56) 254 255),
  (58,fnO "row_less" (top 8) mo0 57),
  (62,cdO "strand_rest" 257 52 2 3 59 (R 60) N N N (R 61) 260 261),
  (63,fnO "strand_rest" (top 9) mo0 62),
  (67,cdO "strand_shortened" 263 62 1 3 64 (R 65) N N N (R 66) 266 267),
  (68,fnO "strand_shortened" (top 10) mo0 67),
  (74,cdO "row_shortened" 269 67 1 3 69 (R 70) N (R 71) (R 72) (R 73) 273 274),
  (75,fnO "row_shortened" (top 11) mo0 74),
  (81,cdO "strand_euclid" 276 69 2 3 76 (R 77) N (R 78) (R 79) (R 80) 282 283),
  (82,fnO "strand_euclid" (top 12) mo0 81),
  (88,cdO "inverse_modulo" 285 77 2 3 83 (R 84) N (R 85) (R 86) (R 87) 296 297),
  (89,fnO "inverse_modulo" (top 13) mo0 88),
  (93,cdO "rests_modulo" 299 91 2 3 90 (R 91) N N N (R 92) 302 303),
  (94,fnO "rests_modulo" (top 14) mo0 93),
  (100,cdO "row_modulo" 305 93 2 3 95 (R 96) N (R 97) (R 98) (R 99) 310 311),
  (101,fnO "row_modulo" (top 15) mo0 100),
  (105,cdO "monic_modulo" 313 95 2 3 102 (R 103) N N N (R 104) 316 317),
  (106,fnO "monic_modulo" (top 16) mo0 105),
  (112,cdO "split_modulo" 319 100 3 3 107 (R 108) N (R 109) (R 110) (R 111) 331 332),
  (113,fnO "split_modulo" (top 17) mo0 112),
  (119,cdO "rest_modulo" 334 111 3 3 114 (R 115) N (R 116) (R 117) (R 118) 340 341),
  (120,fnO "rest_modulo" (top 18) mo0 119),
  (126,cdO "euclid_modulo" 343 113 3 3 121 (R 122) N (R 123) (R 124) (R 125) 350 351),
  (127,fnO "euclid_modulo" (top 19) mo0 126),
  (133,cdO "nearest" 353 121 2 3 128 (R 129) N (R 130) (R 131) (R 132) 359 360),
  (134,fnO "nearest" (top 20) mo0 133),
  (138,cdO "common_by_prime" 362 124 3 3 135 (R 136) N N N (R 137) 365 366),
  (139,fnO "common_by_prime" (top 21) mo0 138),
  (145,cdO "row_common" 368 133 2 3 140 (R 141) N (R 142) (R 143) (R 144) 377 378),
  (146,fnO "row_common" (top 22) mo0 145),
  (152,cdO "ratio" 382 143 2 3 147 (R 148) N (R 149) (R 150) (R 151) 388 389),
  (153,fnO "ratio" (top 24) mo1 152),
  (159,cdO "times" 391 148 2 3 154 (R 155) N (R 156) (R 157) (R 158) 396 397),
  (160,fnO "times" (top 25) mo1 159),
  (166,cdO "over" 399 150 2 3 161 (R 162) N (R 163) (R 164) (R 165) 404 405),
  (167,fnO "over" (top 26) mo1 166),
  (173,cdO "size_of" 407 152 1 3 168 (R 169) N (R 170) (R 171) (R 172) 411 412),
  (174,fnO "size_of" (top 27) mo1 173),
  (180,cdO "poly" 416 155 1 3 175 (R 176) N (R 177) (R 178) (R 179) 421 422),
  (181,fnO "poly" (top 29) mo2 180),
  (187,cdO "degree" 424 160 1 3 182 (R 183) N (R 184) (R 185) (R 186) 428 429),
  (188,fnO "degree" (top 30) mo2 187),
  (192,cdO "cleared" 431 162 1 3 189 (R 190) N N N (R 191) 434 435),
  (193,fnO "cleared" (top 31) mo2 192),
  (197,cdO "uncleared" 437 167 2 3 194 (R 195) N N N (R 196) 440 441),
  (198,fnO "uncleared" (top 32) mo2 197),
  (202,cdO "p_scaled" 443 169 2 3 199 (R 200) N N N (R 201) 446 447),
  (203,fnO "p_scaled" (top 33) mo2 202),
  (209,cdO "p_split" 449 171 2 3 204 (R 205) N (R 206) (R 207) (R 208) 463 464),
  (210,fnO "p_split" (top 34) mo2 209),
  (216,cdO "common" 466 188 2 3 211 (R 212) N (R 213) (R 214) (R 215) 472 473),
  (217,fnO "common" (top 35) mo2 216),
  (223,cdO "fraction" 477 192 2 3 218 (R 219) N (R 220) (R 221) (R 222) 483 484),
  (224,fnO "fraction" (top 37) mo3 223),
  (230,cdO "evened" 486 195 2 3 225 (R 226) N (R 227) (R 228) (R 229) 492 493),
  (231,fnO "evened" (top 38) mo3 230),
  (237,cdO "quotient" 495 198 2 3 232 (R 233) N (R 234) (R 235) (R 236) 500 501),
  (238,fnO "quotient" (top 39) mo3 237),
  (244,cdO "show_number" 507 202 1 3 239 (R 240) N (R 241) (R 242) (R 243) 512 513),
  (245,fnO "show_number" (top 42) mo4 244),
  (251,cdO "show_whole" 515 205 1 3 246 (R 247) N (R 248) (R 249) (R 250) 522 523),
  (252,fnO "show_whole" (top 43) mo4 251),
  (258,cdO "show_poly" 525 214 1 3 253 (R 254) N (R 255) (R 256) (R 257) 531 532),
  (259,fnO "show_poly" (top 44) mo4 258),
  (265,cdO "joint" 534 220 2 3 260 (R 261) N (R 262) (R 263) (R 264) 539 540),
  (266,fnO "joint" (top 45) mo4 265),
  (272,cdO "show_term" 542 224 2 3 267 (R 268) N (R 269) (R 270) (R 271) 548 549),
  (273,fnO "show_term" (top 46) mo4 272),
  (279,cdO "show" 551 229 1 3 274 (R 275) N (R 276) (R 277) (R 278) 556 557),
  (280,fnO "show" (top 47) mo4 279),
  (284,cdO "show_form" 561 233 1 3 281 (R 282) N N N (R 283) 564 565),
  (285,fnO "show_form" (top 49) mo5 284),
  (291,cdO "with_logs" 567 235 2 3 286 (R 287) N (R 288) (R 289) (R 290) 575 576),
  (292,fnO "with_logs" (top 50) mo5 291),
  (298,cdO "_law_box" 580 241 2 3 293 (R 294) N (R 295) (R 296) (R 297) 587 588),
  (299,fnO "_law_box" (top 52) mo6 298),
  (305,cdO "_law_take" 590 247 2 3 300 (R 301) N (R 302) (R 303) (R 304) 597 598),
  (306,fnO "_law_take" (top 53) mo6 305),
  (312,cdO "_law_lowest" 600 257 2 3 307 (R 308) N (R 309) (R 310) (R 311) 607 608),
  (313,fnO "_law_lowest" (top 54) mo6 312),
  (319,cdO "_law_number" 610 262 1 3 314 (R 315) N (R 316) (R 317) (R 318) 615 616),
  (320,fnO "_law_number" (top 55) mo6 319),
  (326,cdO "_law_sum" 618 271 2 3 321 (R 322) N (R 323) (R 324) (R 325) 623 624),
  (327,fnO "_law_sum" (top 56) mo6 326),
  (333,cdO "_law_product" 626 273 2 3 328 (R 329) N (R 330) (R 331) (R 332) 631 632),
  (334,fnO "_law_product" (top 57) mo6 333),
  (340,cdO "_law_poly_of" 634 275 1 3 335 (R 336) N (R 337) (R 338) (R 339) 639 640),
  (341,fnO "_law_poly_of" (top 58) mo6 340),
  (345,cdO "_law_poly" 642 280 2 3 342 (R 343) N N N (R 344) 645 646),
  (346,fnO "_law_poly" (top 59) mo6 345),
  (352,cdO "_law_multiplied" 648 282 2 3 347 (R 348) N (R 349) (R 350) (R 351) 658 659),
  (353,fnO "_law_multiplied" (top 60) mo6 352),
  (359,cdO "_law_number_text" 661 288 1 3 354 (R 355) N (R 356) (R 357) (R 358) 665 666),
  (360,fnO "_law_number_text" (top 61) mo6 359),
  (366,cdO "_law_poly_text" 668 292 1 3 361 (R 362) N (R 363) (R 364) (R 365) 678 679),
  (367,fnO "_law_poly_text" (top 62) mo6 366),
  (373,cdO "_law_fraction_text" 681 310 1 3 368 (R 369) N (R 370) (R 371) (R 372) 685 686),
  (374,fnO "_law_fraction_text" (top 63) mo6 373),
  (380,cdO "_law_logs_text" 688 314 3 3 375 (R 376) N (R 377) (R 378) (R 379) 698 699),
  (381,fnO "_law_logs_text" (top 64) mo6 380),
  (385,cdO "_law_rising" 701 325 2 3 382 (R 383) N N N (R 384) 704 705),
  (386,fnO "_law_rising" (top 65) mo6 385),
  (390,cdO "_law_form" 707 333 1 3 387 (R 388) N N N (R 389) 710 711),
  (391,fnO "_law_form" (top 66) mo6 390),
  (395,cdO "law" 713 346 1 3 392 (R 393) N N N (R 394) 716 717),
  (396,fnO "law" (top 67) mo6 395)]
noncomputable def as:List Addr:=[3,15,21,22,28,29,33,34,40,41,45,46,52,53,57,58,62,63,67,68,74,75,81,82,88,89,93,94,100,101,105,106,112,113,119,120,126,127,133,134,138,139,145,146,152,153,159,160,166,167,173,174,180,181,187,188,192,193,197,198,202,203,209,210,216,217,223,224,230,231,237,238,244,245,251,252,258,259,265,266,272,273,279,280,284,285,291,292,298,299,305,306,312,313,319,320,326,327,333,334,340,341,345,346,352,353,359,360,366,367,373,374,380,381,385,386,390,391,395,396]
noncomputable def vw:Program:=PySem.W.view PySem.Challenge.pw_backslope_k81_forms_written [1,2,3,4,5,6,7,8,9,10,11,12,13,14,15,16,17,18,19,20,21,22,24,25,26,27,29,30,31,32,33,34,35,37,38,39,41,42,43,44,45,46,47,49,50,52,53,54,55,56,57,58,59,60,61,62,63,64,65,66,67]
noncomputable def hk:PySem.W.Hook:=PySem.W.kHook hp as (fun _=>by kernel_rfl)
theorem left:PySem.W.LeftO PySem.Challenge.pw_backslope_k81_forms_written vw [] (fun s=>PySem.W.xlAt vw [] s && PySem.W.recOk (PySem.W.RowW.records (PySem.W.OpenRow.toRowW (PySem.W.OpenLaw.row PySem.Challenge.rw_backslope_k81_forms_written))) s) hk.obs hk.val 3852:=fun w=>by kernel_rfl
end Bs.Hd
namespace Bs
noncomputable def Bd (n:Nat) (x:Int):Prop:=x.natAbs<2 ^ n
theorem Bd.mono {m n:Nat} {x:Int} (h:Bd m x) (hn:m≤n):Bd n x:=Nat.lt_of_lt_of_le h (Nat.pow_le_pow_right (by decide) hn)
theorem Bd.le {n:Nat} {x y:Int} (h:Bd n x) (hy:y.natAbs≤x.natAbs):Bd n y:=Nat.lt_of_le_of_lt hy h
theorem Bd.neg {n:Nat} {x:Int} (h:Bd n x):Bd n (-x):=by unfold Bd at *;rw [Int.natAbs_neg];exact h
theorem Bd.add {n:Nat} {x y:Int} (h:Bd n x) (h':Bd n y):Bd (n+1) (x+y):=by
  unfold Bd at *
  have:=Int.natAbs_add_le x y
  rw [Nat.pow_succ]
  omega
theorem Bd.sub {n:Nat} {x y:Int} (h:Bd n x) (h':Bd n y):Bd (n+1) (x - y):=by
  rw [Int.sub_eq_add_neg];exact h.add h'.neg
theorem Bd.mul {m n:Nat} {x y:Int} (h:Bd m x) (h':Bd n y):Bd (m+n) (x*y):=by
  unfold Bd at *
  rw [Int.natAbs_mul,Nat.pow_add]
  exact Nat.mul_lt_mul'' h h'
theorem quj {x:Int} (h1:-18446744073709551616<x) (h2:x<18446744073709551616):Bd 64 x:=by
  unfold Bd
  have:(2:Nat) ^ 64=18446744073709551616:=by decide
  rw [this];omega
theorem Bd.log2 {n:Nat} {x:Int} (h:Bd n x) (hn:0<n):x.natAbs.log2<n:=by
  unfold Bd at h
  rcases Nat.eq_zero_or_pos x.natAbs with h0 | hp
  · rw [h0];simpa using hn
  · exact (Nat.log2_lt (Nat.ne_of_gt hp)).mpr h
structure Low (t d:Int):Prop where
  pos:0<d
  one:Int.gcd t d=1
theorem qlZ (a b:Int):Int.gcd b (a.fmod b)=Int.gcd a b:=by
  have e:a.fmod b=a - b*a.fdiv b:=Int.fmod_def a b
  rw [e]
  apply Nat.dvd_antisymm
  · apply Int.dvd_gcd
    · have h1:=Int.gcd_dvd_left b (a - b*a.fdiv b)
      have h2:=Int.gcd_dvd_right b (a - b*a.fdiv b)
      have h3:=Int.dvd_add h2 (Int.dvd_mul_of_dvd_left (c:=a.fdiv b) h1)
      rw [Int.sub_add_cancel] at h3
      exact h3
    · exact Int.gcd_dvd_left b _
  · apply Int.dvd_gcd
    · exact Int.gcd_dvd_right a b
    · exact Int.dvd_sub (Int.gcd_dvd_left a b) (Int.dvd_mul_of_dvd_left (Int.gcd_dvd_right a b))
theorem qi1 (a:Int) {b:Int} (h:0≤b):Int.gcd b (a % b)=Int.gcd a b:=by
  rw [← Int.fmod_eq_emod_of_nonneg a h,qlZ]
theorem qnZ (a:Int) {b:Int} (h:b≠0):(a.fmod b).natAbs<b.natAbs:=by
  rcases Int.lt_or_gt_of_ne h with hb | hb
  · rw [Int.fmod_eq_emod]
    have h1:=Int.emod_nonneg a h
    have h2:=Int.emod_lt a h
    split
    · rename_i h'
      rcases h' with h' | h'
      · omega
      · have:a % b=0:=Int.emod_eq_zero_of_dvd h'
        omega
    · rename_i h'
      have:a % b≠0:=fun z=>h' (.inr (Int.dvd_of_emod_eq_zero z))
      omega
  · rw [Int.fmod_eq_emod_of_nonneg a (Int.le_of_lt hb)]
    have h1:=Int.emod_nonneg a h
    have h2:=Int.emod_lt_of_pos a hb
    omega
theorem qf0 {a b s:Int} (hb:b≠0) (hs:s=if b<0 then -((Int.gcd a b:Nat):Int) else ((Int.gcd a b:Nat):Int)) :
    s≠0∧s.natAbs≤b.natAbs∧Low (a.fdiv s) (b.fdiv s)∧a.fdiv s*b=a*b.fdiv s∧(a.fdiv s).natAbs≤a.natAbs∧(b.fdiv s).natAbs≤b.natAbs:=by
  have g0:0<Int.gcd a b:=Int.gcd_pos_of_ne_zero_right a hb
  have sn:s.natAbs=Int.gcd a b:=by rw [hs];split <;> simp
  have s0:s≠0:=by intro z;rw [z] at sn;simp at sn;omega
  have da:s∣a:=by
    rw [← Int.natAbs_dvd,sn];exact Int.gcd_dvd_left a b
  have db:s∣b:=by
    rw [← Int.natAbs_dvd,sn];exact Int.gcd_dvd_right a b
  obtain ⟨t,rfl⟩:=da
  obtain ⟨d,rfl⟩:=db
  rw [Int.mul_fdiv_cancel_left _ s0,Int.mul_fdiv_cancel_left _ s0]
  have d0:d≠0:=by rintro rfl;simp at hb
  have sp:1≤s.natAbs:=by omega
  have gd:Int.gcd t d=1:=by
    rw [Int.gcd_mul_left] at sn
    have h2:s.natAbs*Int.gcd t d=s.natAbs*1:=by omega
    exact Nat.eq_of_mul_eq_mul_left sp h2
  have dp:0<d:=by
    by_cases h:s*d<0
    · rw [if_pos h] at hs
      have sneg:s<0:=by omega
      rcases Int.lt_or_gt_of_ne d0 with h' | h'
      · have:=Int.mul_pos_of_neg_of_neg sneg h';omega
      · exact h'
    · rw [if_neg h] at hs
      have spos:0<s:=by omega
      rcases Int.lt_or_gt_of_ne d0 with h' | h'
      · have:=Int.mul_neg_of_pos_of_neg spos h';omega
      · exact h'
  have le1:∀ y:Int,y.natAbs≤(s*y).natAbs:=fun y=>by
    rw [Int.natAbs_mul];exact Nat.le_mul_of_pos_left _ sp
  refine ⟨s0,?_,⟨dp,gd⟩,?_,le1 t,le1 d⟩
  · rw [Int.natAbs_mul];exact Nat.le_mul_of_pos_right _ (by omega)
  · grind
theorem qc1 {a b:Int} (hb:0<b):Low (a / ((Int.gcd a b:Nat):Int)) (b / ((Int.gcd a b:Nat):Int))∧(a / ((Int.gcd a b:Nat):Int)).natAbs≤a.natAbs∧(b / ((Int.gcd a b:Nat):Int)).natAbs≤b.natAbs∧0<((Int.gcd a b:Nat):Int)∧((Int.gcd a b:Nat):Int)≤b:=by
  have g0:0<Int.gcd a b:=Int.gcd_pos_of_ne_zero_right a (by omega)
  obtain ⟨_,h1,h2,h3,h4,h5⟩:=qf0 (a:=a) (b:=b) (s:=((Int.gcd a b:Nat):Int)) (by omega) (by rw [if_neg (by omega)])
  rw [Int.fdiv_eq_ediv_of_nonneg _ (by omega),Int.fdiv_eq_ediv_of_nonneg _ (by omega)] at h2
  rw [Int.fdiv_eq_ediv_of_nonneg _ (by omega)] at h4 h5
  exact ⟨h2,h4,h5,by omega,by omega⟩
end Bs
namespace Bs
open PySem L2
noncomputable def qtG (_ j:Int):Prop:=0<j∧Bd 9000 j
noncomputable def quB (_ j:Int):Prop:=j≠0∧Bd 9000 j
noncomputable def qtS (i j:Int):Prop:=0≤j∧j≤1000000∧i.natAbs<2 ^ 64
noncomputable abbrev qg6:R2:=rI0 fun i j=>.int (i+j)
noncomputable abbrev qeK:R2:=rI0 fun i j=>.int (i - j)
noncomputable abbrev qdM:R2:=rI IntMulOk fun i j=>.int (i*j)
noncomputable abbrev qj7:R2:=rI qtG fun i j=>.int (i / j)
noncomputable abbrev qsS:R2:=rI quB fun i j=>.int (i.fdiv j)
noncomputable abbrev qjQ:R2:=rI (fun _ j=>0<j) fun i j=>.int (i % j)
noncomputable abbrev qrs:R2:=rI (fun _ j=>j≠0) fun i j=>.int (i.fmod j)
noncomputable abbrev quk:R2:=rI qtS fun i j=>.int (i ^ j.toNat)
noncomputable abbrev iLt:R2:=rI0 fun i j=>.bl (decide (i<j))
noncomputable abbrev iLe:R2:=rI0 fun i j=>.bl (decide (i≤j))
noncomputable abbrev iGt:R2:=rI0 fun i j=>.bl (decide (j<i))
noncomputable abbrev iGe:R2:=rI0 fun i j=>.bl (decide (j≤i))
noncomputable abbrev qgo:V→Hp→VK→Prop:=rU fun i=>.int (-i)
noncomputable def gT:R2:=fun x y H Q=>∃ p i xs v,x=.ref p∧y=.int i∧H p=some (.tup xs)∧atI xs i=some v∧Q v H
noncomputable def gL:R2:=fun x y H Q=>∃ p i xs v,x=.ref p∧y=.int i∧H p=some (.lst xs)∧atI xs i=some v∧Q v H
noncomputable def gS (K:W.Frag):R2:=fun x y H Q=>∃ p i xs v,x=.ref p∧y=.int i∧SqL K H p xs∧atI xs i=some v∧Q v H
noncomputable def qnt:List V→Hp→VK→Prop:=fun xs H Q=>∃ i,xs=[.int i]∧Q (.int (if i<0 then -i else i)) H
noncomputable def qrt:List V→Hp→VK→Prop:=fun xs H Q=>∃ i j,xs=[.int i,.int j]∧Q (.int (if j > i then j else i)) H
noncomputable def qsT:List V→Hp→VK→Prop:=fun xs H Q=>∃ i j,xs=[.int i,.int j]∧Q (.int (if j<i then j else i)) H
noncomputable def qj8:List V→Hp→VK→Prop:=fun xs H Q=>∃ k,xs=[.bl k]∧Q (.int (if k=true then 1 else 0)) H
noncomputable def qg7:List V→Hp→VK→Prop:=fun xs H Q=>∃ p ys,xs=[.ref p]∧H p=some (.tup ys)∧Q (.int ys.length) H
noncomputable def qb5:List V→Hp→VK→Prop:=fun xs H Q=>∃ p ys,xs=[.ref p]∧H p=some (.lst ys)∧Q (.int ys.length) H
noncomputable def qmS (K:W.Frag):List V→Hp→VK→Prop:=fun xs H Q=>∃ p ys,xs=[.ref p]∧SqL K H p ys∧Q (.int ys.length) H
noncomputable def quC:Option HO→String→Option Bool
  | some (.tup _),n=>if n = "tuple" then some true else if n = "bool" ∨ n = "int" ∨ n = "list" then some false else none
  | some (.lst _),n=>if n = "list" then some true else if n = "bool" ∨ n = "int" ∨ n = "tuple" then some false else none
  | _,_=>none
noncomputable def qtH (H:Hp):V→String→Option Bool
  | .int _,n=>if n = "int" then some true else if n = "bool" ∨ n = "tuple" ∨ n = "list" then some false else none
  | .bl _,n=>if n = "int" ∨ n = "bool" then some true else if n = "tuple" ∨ n = "list" then some false else none
  | .ref p,n=>quC (H p) n
  | _,_=>none
noncomputable def qul:List V→Hp→VK→Prop:=fun xs H Q=>∃ x n b,xs=[x,.ty n]∧qtH H x n=some b∧Q (.bl b) H
theorem qn0 (H:Hp) (i:Int):qtH H (.int i) "int" = some true:=rfl
theorem qgp (H:Hp) (i:Int):qtH H (.int i) "bool" = some false:=rfl
theorem qqO (H:Hp) (b:Bool):qtH H (.bl b) "bool" = some true:=rfl
noncomputable def qsU:V→Bool
  | .int _=>true
  | _=>false
noncomputable def eqJ (xs ys:List V) (j:Nat):Bool:=match xs[j]?,ys[j]? with
  | some (.int a),some (.int b)=>a == b
  | _,_=>false
theorem qg8 {xs:List V} {j:Nat} (h:xs.all qsU=true) (hj:j<xs.length):∃ a,xs[j]?=some (.int a):=by
  have m:=List.all_eq_true.mp h xs[j] (List.getElem_mem hj)
  rw [List.getElem?_eq_getElem hj]
  generalize xs[j]=v at m
  cases v with
  | int a=>exact ⟨a,rfl⟩
  | _=>exact absurd m Bool.false_ne_true
theorem qru {xs ys:List V} (hx:xs.all qsU=true) (hy:ys.all qsU=true):((List.range (min xs.length ys.length)).all (eqJ xs ys) && xs.length == ys.length)=decide (xs=ys):=by
  rw [Bool.eq_iff_iff]
  simp only [Bool.and_eq_true,List.all_eq_true,List.mem_range,beq_iff_eq,decide_eq_true_eq]
  constructor
  · rintro ⟨h1,h2⟩
    apply List.ext_getElem?
    intro j
    by_cases hj:j<xs.length
    · obtain ⟨a,ea⟩:=qg8 hx hj
      obtain ⟨b,eb⟩:=qg8 hy (by omega:j<ys.length)
      have h:=h1 j (by omega)
      unfold eqJ at h
      rw [ea,eb] at h
      rw [ea,eb,eq_of_beq h]
    · rw [List.getElem?_eq_none (by omega),List.getElem?_eq_none (by omega)]
  · rintro rfl
    refine ⟨fun j hj=>?_,rfl⟩
    obtain ⟨a,ea⟩:=qg8 hx (by omega:j<xs.length)
    unfold eqJ
    rw [ea]
    exact beq_self_eq_true a
noncomputable def eqT:R2:=fun x y H Q=>∃ a b xs ys,x=.ref a∧y=.ref b∧H a=some (.tup xs)∧H b=some (.tup ys)∧xs.all qsU=true∧ys.all qsU=true∧Q (.bl (decide (xs=ys))) H
noncomputable def ForR (lo:Int) (n:Nat) (g:TG) (tb:TS) (D:Ends) (σ:St) (H:Hp):Prop:=∃ W:Nat→Nat→St→Hp→Prop,(∃ m,W 0 m σ H)∧∀ i m σ H,W i m σ H→
  ((Itr lo n).stop i H∧D.nx σ H)∨((Itr lo n).go i H∧∃ N:St→Hp→Prop,(∀ σ' H',N σ' H'→∃ m',m'<m∧W (i+1) m' σ' H')∧∀ x H',(Itr lo n).yld i H x H'→g x σ H' fun σ2 H2=>tb { D with nx:=N,ct:=N,bk:=D.nx } σ2 H2)
theorem qn1 {ta:TA} {g:TG} {tb:TS} {D:Ends} {σ:St} {H:Hp}:qfQ (qjT ta) g tb D σ H=ta σ H (fun vs H1=>∃ j:Int,vs=[.int j]∧-(2 ^ 62)≤j∧j<2 ^ 62∧ForR 0 j.toNat g tb D σ H1):=rfl
theorem qn2 {ta:TA} {g:TG} {tb:TS} {D:Ends} {σ:St} {H:Hp}:qfQ (qnE ta) g tb D σ H=ta σ H (fun vs H1=>∃ i j:Int,vs=[.int i,.int j]∧(-(2 ^ 62)≤i∧i<2 ^ 62∧-(2 ^ 62)≤j∧j<2 ^ 62)∧ForR i (j - i).toNat g tb D σ H1):=rfl
theorem ForR.by {lo:Int} {n:Nat} {g:TG} {tb:TS} {D:Ends} {σ:St} {H:Hp} (Pv:Nat→St→Hp→Prop) (h0:Pv 0 σ H)
    (hs:∀ i σ H,i<n→Pv i σ H→g (.int (lo+i)) σ H fun σ2 H2=>tb { D with nx:=Pv (i+1),ct:=Pv (i+1),bk:=D.nx } σ2 H2) (hd:∀ σ H,Pv n σ H→D.nx σ H):ForR lo n g tb D σ H:=qnI Pv h0 hs hd
noncomputable def ForT (K:W.Frag) (a:Addr) (g:TG) (tb:TS) (D:Ends) (σ:St) (H:Hp):Prop:=∃ W:Nat→Nat→St→Hp→Prop,(∃ m,W 0 m σ H)∧∀ i m σ H,W i m σ H→
  ((Itt K a).stop i H∧D.nx σ H)∨((Itt K a).go i H∧∃ N:St→Hp→Prop,(∀ σ' H',N σ' H'→∃ m',m'<m∧W (i+1) m' σ' H')∧∀ x H',(Itt K a).yld i H x H'→g x σ H' fun σ2 H2=>tb { D with nx:=N,ct:=N,bk:=D.nx } σ2 H2)
noncomputable def ForL (K:W.Frag) (a:Addr) (g:TG) (tb:TS) (D:Ends) (σ:St) (H:Hp):Prop:=∃ W:Nat→Nat→St→Hp→Prop,(∃ m,W 0 m σ H)∧∀ i m σ H,W i m σ H→
  ((Itl K a).stop i H∧D.nx σ H)∨((Itl K a).go i H∧∃ N:St→Hp→Prop,(∀ σ' H',N σ' H'→∃ m',m'<m∧W (i+1) m' σ' H')∧∀ x H',(Itl K a).yld i H x H'→g x σ H' fun σ2 H2=>tb { D with nx:=N,ct:=N,bk:=D.nx } σ2 H2)
theorem qqP {K:W.Frag} {tl:TE} {g:TG} {tb:TS} {D:Ends} {σ:St} {H:Hp}:qfQ (qnD K tl) g tb D σ H=tl σ H (fun x H1=>∃ a,x=.ref a∧(∃ xs,SqT K H1 a xs)∧ForT K a g tb D σ H1):=rfl
theorem qqQ {K:W.Frag} {tl:TE} {g:TG} {tb:TS} {D:Ends} {σ:St} {H:Hp}:qfQ (qdB K tl) g tb D σ H=tl σ H (fun x H1=>∃ a,x=.ref a∧(∃ xs,SqL K H1 a xs)∧ForL K a g tb D σ H1):=rfl
theorem ForT.by {K:W.Frag} {a:Addr} {xs:List V} {g:TG} {tb:TS} {D:Ends} {σ:St} {H:Hp} (Pv:Nat→St→Hp→Prop) (h0:Pv 0 σ H) (hl:∀ i σ H,i≤xs.length→Pv i σ H→H a=some (.tup xs))
    (hs:∀ i x σ H,xs[i]?=some x→Pv i σ H→g x σ H fun σ2 H2=>tb { D with nx:=Pv (i+1),ct:=Pv (i+1),bk:=D.nx } σ2 H2) (hd:∀ σ H,Pv xs.length σ H→D.nx σ H):ForT K a g tb D σ H:=
  qnH Pv h0 (fun i σ H h p=>SqT.of (hl i σ H h p)) hs hd
theorem ForL.by {K:W.Frag} {a:Addr} {xs:List V} {g:TG} {tb:TS} {D:Ends} {σ:St} {H:Hp} (Pv:Nat→St→Hp→Prop) (h0:Pv 0 σ H) (hl:∀ i σ H,i≤xs.length→Pv i σ H→SqL K H a xs)
    (hs:∀ i x σ H,xs[i]?=some x→Pv i σ H→g x σ H fun σ2 H2=>tb { D with nx:=Pv (i+1),ct:=Pv (i+1),bk:=D.nx } σ2 H2) (hd:∀ σ H,Pv xs.length σ H→D.nx σ H):ForL K a g tb D σ H:=
  qpO Pv h0 hl hs hd
theorem while_by {c:TT} {tb:TS} {D:Ends} {σ:St} {H:Hp} (W:Nat→St→Hp→Prop) (m:Nat) (h0:W m σ H)
    (hs:∀ m σ H,W m σ H→c σ H fun b H1=>if b=true then ∃ N:St→Hp→Prop,(∀ σ' H',N σ' H'→∃ m',m'<m∧W m' σ' H')∧tb { D with nx:=N,ct:=N,bk:=D.nx } σ H1 else D.nx σ H1):qcV c tb D σ H:=⟨W,⟨m,h0⟩,hs⟩
noncomputable def Kp (p:Addr) (H H':Hp):Prop:=∀ b o,b≠p→H b=some o→H' b=some o
theorem Kp.trans {p:Addr} {H H1 H2:Hp} (a:Kp p H H1) (b:Kp p H1 H2):Kp p H H2:=fun c o n h=>b c o n (a c o n h)
theorem Kp.same {p:Addr} {H H1 H2:Hp} (a:Kp p H H1) (b:Same H1 H2):Kp p H H2:=fun c o n h=>b c o (a c o n h)
theorem Kp.of_same {p:Addr} {H H1:Hp} (b:Same H H1):Kp p H H1:=fun c o _ h=>b c o h
theorem Kp.upd {p:Addr} {H:Hp} {o:HO}:Kp p H (upd H p o):=fun b u n h=>by rw [qaC n];exact h
theorem qag {H:Hp} {p:Addr} (h:H p=none) (o:HO):Same H (upd H p o):=fun b u q=>by rw [qaC (qav q h)];exact q
theorem Kp.new {p:Addr} {H H1:Hp} (a:Kp p H H1) (h:H p=none):Same H H1:=fun b o q=>a b o (qav q h) q
theorem Kp.seq {K:W.Frag} {p:Addr} {H H':Hp} {a:Addr} {xs:List V} (e:Kp p H H') (n:a≠p) (h:SqL K H a xs):SqL K H' a xs:=by
  rcases h with (h | ⟨o,h⟩) | h
  · exact .inl (.inl (e _ _ n h))
  · exact .inl (.inr ⟨o,e _ _ n h⟩)
  · exact .inr h
theorem sz {n:Nat} (h:n≤1000000):n≤sizeLine:=by rw [sizeLine_eq];omega
end Bs
namespace Bs
open PySem L2
theorem ql0 {α:Type} (a b:α):atI [a,b] 0=some a:=rfl
theorem ql1 {α:Type} (a b:α):atI [a,b] 1=some b:=rfl
theorem qis {α:Type} (a b c:α):atI [a,b,c] 0=some a:=rfl
theorem qit {α:Type} (a b c:α):atI [a,b,c] 1=some b:=rfl
theorem qiu {α:Type} (a b c:α):atI [a,b,c] 2=some c:=rfl
theorem qn3 (a b:Int):scal (.int a) (.int b)=true:=rfl
theorem qn4 (a b:Bool):scal (.bl a) (.bl b)=true:=rfl
theorem qiv:ixN 3 0=some 0:=rfl
theorem qiw:ixN 3 2=some 2:=rfl
end Bs
namespace Bs
open PySem PySem.Spec PyProof.Rows L2
theorem qfg:bootBuiltins "abs" = some (.builtin "abs"):=by decide +kernel
theorem qbc:bootBuiltins "len" = some (.builtin "len"):=by decide +kernel
theorem ql2:bootBuiltins "max" = some (.builtin "max"):=by decide +kernel
theorem qn5:bootBuiltins "min" = some (.builtin "min"):=by decide +kernel
theorem qi2:bootBuiltins "isinstance" = some (.builtin "isinstance"):=by decide +kernel
theorem qj9:bootBuiltins "int" = some (.type "int"):=by decide +kernel
theorem qi3:bootBuiltins "tuple" = some (.type "tuple"):=by decide +kernel
theorem qn6:bootBuiltins "list" = some (.type "list"):=by decide +kernel
theorem qgq:bootBuiltins "enumerate" = some (.type "enumerate"):=by decide +kernel
theorem qsV:bootBuiltins "zip" = some (.type "zip"):=by decide +kernel
theorem qk7:bootBuiltins "reversed" = some (.type "reversed"):=by decide +kernel
section
variable {X:Cx}
theorem qn7 {n:Nat} {x:Int} (h:Bd n x):Builtin.Int.intBits x≤n:=by
  unfold Builtin.Int.intBits
  split
  · exact Nat.zero_le _
  · rename_i h0
    have hn:x.natAbs≠0:=fun z=>h0 (by have e:x=0:=by omega
                                      subst e;rfl)
    have:=(Nat.log2_lt hn).mpr h
    omega
theorem qaW:OpR X (binaryOp .Mult) qdM:=opI fun _ _ _ _ _ _ _ hc q=>mul_int q hc
theorem qgN:OpR X (inplaceOp .Mult) qdM:=opI fun _ _ _ _ _ _ _ hc q=>imul_int q hc
theorem qi4:OpR X (binaryOp .FloorDiv) qj7:=opI fun i j _ _ _ _ _ hc q=>by
  refine floordiv_int (Int.ne_of_gt hc.1) ?_ (.inl (PyProof.noPylong_of_log2 (hc.2.log2 (by decide))))
  rw [Int.fdiv_eq_ediv_of_nonneg i (Int.le_of_lt hc.1)]
  exact q
theorem qap:IxR X gT:=by
  intro value slice pins s σ H x y v u Q I rx ry h hs
  obtain ⟨p,i,xs,w,e1,e2,hp,ha,q⟩:=h
  exact qsN value slice pins s σ H x y v u Q I rx ry ⟨p,xs,i,w,e1,e2,SqT.of hp,ha,q⟩ hs
theorem qaG:IxR X gL:=by
  intro value slice pins s σ H x y v u Q I rx ry h hs
  obtain ⟨p,i,xs,w,e1,e2,hp,ha,q⟩:=h
  exact qnS value slice pins s σ H x y v u Q I rx ry ⟨p,xs,i,w,e1,e2,SqL.of hp,ha,q⟩ hs
theorem qka:IxR X (gS X.K):=by
  intro value slice pins s σ H x y v u Q I rx ry h hs
  obtain ⟨p,i,xs,w,e1,e2,hp,ha,q⟩:=h
  exact qnS value slice pins s σ H x y v u Q I rx ry ⟨p,xs,i,w,e1,e2,hp,ha,q⟩ hs
theorem qb6:qdg X (.builtin "abs") qnt:=qpP
theorem qfh (hc:X.calm=true):qdg X (.builtin "max") qrt:=qnL hc
theorem qkb (hc:X.calm=true):qdg X (.builtin "min") qsT:=qnM hc
theorem qeh:qdg X (.type "int") qj8:=fun pins s σ H xs us Q I r h=>qnN pins s σ H xs us Q I r (.inr h)
theorem qcn:qdg X (.builtin "len") qg7:=fun pins s σ H xs us Q I r h=>by
  obtain ⟨p,ys,e,hp,q⟩:=h
  exact qeb pins s σ H xs us Q I r ⟨p,ys,e,.inr (SqT.of hp),q⟩
theorem qaN:qdg X (.builtin "len") qb5:=fun pins s σ H xs us Q I r h=>by
  obtain ⟨p,ys,e,hp,q⟩:=h
  exact qeb pins s σ H xs us Q I r ⟨p,ys,e,.inl (SqL.of hp),q⟩
theorem qg9:qdg X (.builtin "len") (qmS X.K):=fun pins s σ H xs us Q I r h=>by
  obtain ⟨p,ys,e,hp,q⟩:=h
  exact qeb pins s σ H xs us Q I r ⟨p,ys,e,.inl hp,q⟩
theorem qpS (K:W.Frag) (n:String):PySem.W.kitOne K (.type n) (.type n)=some true:=by
  unfold PySem.W.kitOne
  rw [if_pos (beq_self_eq_true _)]
theorem qsW (hu:X.A.units<cLine):OpR X (compareOp .Eq) eqT:=by
  intro pins s σ H x y v u Q I rx ry h
  obtain ⟨a,b,xs,ys,rfl,rfl,ha,hb,ix,iy,q⟩:=h
  cases rx
  cases ry
  obtain ⟨its,r1,p1,_⟩:=I.tuple (SqT.of ha)
  obtain ⟨its2,r2,p2,_⟩:=I.tuple (SqT.of hb)
  have l1:its.toArray.size=xs.length:=by rw [List.size_toArray];exact r1.length.symm
  have l2:its2.toArray.size=ys.length:=by rw [List.size_toArray];exact r2.length.symm
  refine SeqAt.eq_tupleAt (e:=eqJ xs ys) p1 p2 hu (fun j h1 h2=>?_) ?_
  · rw [l1] at h1
    rw [l2] at h2
    obtain ⟨i,ei⟩:=qg8 ix h1
    obtain ⟨k,ek⟩:=qg8 iy h2
    obtain ⟨u1,g1,⟨t1,z1⟩⟩:=r1.get ei
    obtain ⟨u2,g2,⟨t2,z2⟩⟩:=r2.get ek
    have a1:its.toArray[j]=.int i t1:=by
      have z:=(List.getElem?_eq_some_iff.mp g1).2
      simpa [z1] using z
    have a2:its2.toArray[j]=.int k t2:=by
      have z:=(List.getElem?_eq_some_iff.mp g2).2
      simpa [z2] using z
    have e:eqJ xs ys j=(i == k):=by unfold eqJ;rw [ei,ek]
    rw [a1,a2,e]
    exact SeqAt.EqAt.int_int i t1 k t2
  · rw [l1,l2,qru ix iy]
    exact ⟨.bl (decide (xs=ys)),H,I,rfl,q⟩
end
structure Cal (P:Program) (w:World) (K:W.Frag) (mg:Str→Option Value) (base:Heap) (n:Nat) (x:Str) (ps:List Str) (sp:Sp):Prop where
  ex:∃ (f:Addr) (fd:FuncData),FnOk P w K mg base CX0 n f fd ps sp∧Binds K fd ps []∧PySem.W.keepIn K (.ref f)=true∧mg x=some (.ref f)
theorem Cal.pe {X:Cx} {n m:Nat} {x:Str} {ps:List Str} {sp:Sp} {e:Expr} {es:List Expr} {t:TA} {p pos:Pos} (C:Cal X.prog X.w X.K X.mg X.base n x ps sp) (hr:Room m X.A) (hn:n≤m) (hg:Gl X x) (ha:PA X (e::es) t)
    (hdb:(x == ("__debug__" : Str))=false:=by decide) (he:starEach (e::es) X.env=(false,eval e X.env)::starEach es X.env:=by rfl) (hpl:(backTo pos (starEach es X.env)).any (·.1)=false:=by rfl) :
    PE X (.Call (.Name x p) (e::es) [] pos) (qar sp [] E0 t):=by
  obtain ⟨f,fd,F,b,k,m⟩:=C.ex
  exact qrn F (hr.mono hn) hg m k b .nil qtR ha hdb he hpl
end Bs
namespace Bs
open PySem L2
noncomputable def qdv (capt:List (Option Nat)) (σ:L2.St):L2.St:=capt.map fun o=>o.bind fun j=>(σ[j]?).join
noncomputable def qco (wi:TI) (capt:List (Option Nat)) (g:TG) (te:TE):TE:=fun σ H Q=>wi σ H fun J H1=>∃ (n:Nat) (W:Nat→List V→Hp→Prop),W 0 [] H1∧∀ i ys H,W i ys H→i≤n∧ys.length≤sizeLine∧
  ((J.stop i H∧∀ p,H p=none→Q (.ref p) (upd H p (.lst ys)))∨(i<n∧J.go i H∧∀ x H',J.yld i H x H'→g x (qdv capt σ) H' fun σ2 H2=>te σ2 H2 fun y H3=>W (i+1) (ys++[y]) H3))
noncomputable def CompJ (J:It) (capt:List (Option Nat)) (g:TG) (te:TE) (σ:L2.St) (Q:VK) (H1:Hp):Prop:=∃ (n:Nat) (W:Nat→List V→Hp→Prop),W 0 [] H1∧∀ i ys H,W i ys H→i≤n∧ys.length≤sizeLine∧
  ((J.stop i H∧∀ p,H p=none→Q (.ref p) (upd H p (.lst ys)))∨(i<n∧J.go i H∧∀ x H',J.yld i H x H'→g x (qdv capt σ) H' fun σ2 H2=>te σ2 H2 fun y H3=>W (i+1) (ys++[y]) H3))
section
variable {K:W.Frag} {ta:TA} {tl:TE} {capt:List (Option Nat)} {g:TG} {te:TE} {σ:L2.St} {H:Hp} {Q:VK}
theorem ql3:qco (qjT ta) capt g te σ H Q=ta σ H (fun vs H1=>∃ j:Int,vs=[.int j]∧-(2 ^ 62)≤j∧j<2 ^ 62∧CompJ (Itr 0 j.toNat) capt g te σ Q H1):=rfl
theorem ql4:qco (qnE ta) capt g te σ H Q=ta σ H (fun vs H1=>∃ i j:Int,vs=[.int i,.int j]∧(-(2 ^ 62)≤i∧i<2 ^ 62∧-(2 ^ 62)≤j∧j<2 ^ 62)∧CompJ (Itr i (j - i).toNat) capt g te σ Q H1):=rfl
theorem qn8:qco (qnD K tl) capt g te σ H Q=tl σ H (fun x H1=>∃ a,x=.ref a∧(∃ xs,SqT K H1 a xs)∧CompJ (Itt K a) capt g te σ Q H1):=rfl
theorem qi5:qco (qdB K tl) capt g te σ H Q=tl σ H (fun x H1=>∃ a,x=.ref a∧(∃ xs,SqL K H1 a xs)∧CompJ (Itl K a) capt g te σ Q H1):=rfl
theorem CompJ.range {lo:Int} {n:Nat} (W:Nat→List V→Hp→Prop) (h0:W 0 [] H) (hb:∀ i ys H,W i ys H→i≤n∧ys.length≤sizeLine)
    (hs:∀ i ys H,i<n→W i ys H→g (.int (lo+i)) (qdv capt σ) H fun σ2 H2=>te σ2 H2 fun y H3=>W (i+1) (ys++[y]) H3) (hd:∀ ys H,W n ys H→∀ p,H p=none→Q (.ref p) (upd H p (.lst ys))):CompJ (Itr lo n) capt g te σ Q H:=by
  refine ⟨n,W,h0,fun i ys H w=>⟨(hb i ys H w).1,(hb i ys H w).2,?_⟩⟩
  by_cases h:i<n
  · refine .inr ⟨h,h,fun x H' y=>?_⟩
    obtain ⟨e,y⟩:=y
    subst e y
    exact hs i ys _ h w
  · have e:i=n:=Nat.le_antisymm (hb i ys H w).1 (Nat.not_lt.mp h)
    subst e
    exact .inl ⟨Nat.le_refl _,hd ys H w⟩
theorem CompJ.tup {a:Addr} {xs:List V} (W:Nat→List V→Hp→Prop) (h0:W 0 [] H) (hb:∀ i ys H,W i ys H→i≤xs.length∧ys.length≤sizeLine∧H a=some (.tup xs))
    (hs:∀ i x ys H,xs[i]?=some x→W i ys H→g x (qdv capt σ) H fun σ2 H2=>te σ2 H2 fun y H3=>W (i+1) (ys++[y]) H3) (hd:∀ ys H,W xs.length ys H→∀ p,H p=none→Q (.ref p) (upd H p (.lst ys))):CompJ (Itt K a) capt g te σ Q H:=by
  refine ⟨xs.length,W,h0,fun i ys H w=>⟨(hb i ys H w).1,(hb i ys H w).2.1,?_⟩⟩
  have q:SqT K H a xs:=SqT.of (hb i ys H w).2.2
  by_cases h:i<xs.length
  · refine .inr ⟨h,⟨xs,xs[i],q,by simp [h]⟩,fun x H' y=>?_⟩
    obtain ⟨e,y⟩:=y
    subst e
    exact hs i x ys _ (y xs q) w
  · have e:i=xs.length:=Nat.le_antisymm (hb i ys H w).1 (Nat.not_lt.mp h)
    subst e
    exact .inl ⟨⟨xs,q,Nat.le_refl _⟩,hd ys H w⟩
theorem CompJ.lst {a:Addr} {xs:List V} (W:Nat→List V→Hp→Prop) (h0:W 0 [] H) (hb:∀ i ys H,W i ys H→i≤xs.length∧ys.length≤sizeLine∧SqL K H a xs)
    (hs:∀ i x ys H,xs[i]?=some x→W i ys H→g x (qdv capt σ) H fun σ2 H2=>te σ2 H2 fun y H3=>W (i+1) (ys++[y]) H3) (hd:∀ ys H,W xs.length ys H→∀ p,H p=none→Q (.ref p) (upd H p (.lst ys))):CompJ (Itl K a) capt g te σ Q H:=by
  refine ⟨xs.length,W,h0,fun i ys H w=>⟨(hb i ys H w).1,(hb i ys H w).2.1,?_⟩⟩
  have q:SqL K H a xs:=(hb i ys H w).2.2
  by_cases h:i<xs.length
  · refine .inr ⟨h,⟨xs,xs[i],q,by simp [h]⟩,fun x H' y=>?_⟩
    obtain ⟨e,y⟩:=y
    subst e
    exact hs i x ys _ (y xs q) w
  · have e:i=xs.length:=Nat.le_antisymm (hb i ys H w).1 (Nat.not_lt.mp h)
    subst e
    exact .inl ⟨⟨xs,q,Nat.le_refl _⟩,hd ys H w⟩
end
noncomputable def qsX (K:W.Frag) (a:Addr):It:=
  ⟨fun i H=>∃ xs x,SqL K H a xs∧xs[i]?=some x,fun i H v H'=>∃ p x,H p=none∧v=.ref p∧H'=upd H p (.tup [.int i,x])∧∀ xs,SqL K H a xs→xs[i]?=some x,fun i H=>∃ xs,SqL K H a xs∧xs.length≤i⟩
noncomputable def qtI (K:W.Frag) (a:Addr):It:=
  ⟨fun i H=>∃ xs x,SqT K H a xs∧xs[i]?=some x,fun i H v H'=>∃ p x,H p=none∧v=.ref p∧H'=upd H p (.tup [.int i,x])∧∀ xs,SqT K H a xs→xs[i]?=some x,fun i H=>∃ xs,SqT K H a xs∧xs.length≤i⟩
noncomputable def ql5 (K:W.Frag) (ta:TA):TI:=fun σ H R=>ta σ H fun vs H1=>∃ a,vs=[.ref a]∧(∃ xs,SqL K H1 a xs)∧R (qsX K a) H1
noncomputable def ql6 (K:W.Frag) (ta:TA):TI:=fun σ H R=>ta σ H fun vs H1=>∃ a,vs=[.ref a]∧(∃ xs,SqT K H1 a xs)∧R (qtI K a) H1
noncomputable def ForJ (J:It) (g:TG) (tb:TS) (D:Ends) (σ:L2.St) (H:Hp):Prop:=∃ W:Nat→Nat→L2.St→Hp→Prop,(∃ m,W 0 m σ H)∧∀ i m σ H,W i m σ H→
  (J.stop i H∧D.nx σ H)∨(J.go i H∧∃ N:L2.St→Hp→Prop,(∀ σ' H',N σ' H'→∃ m',m'<m∧W (i+1) m' σ' H')∧∀ x H',J.yld i H x H'→g x σ H' fun σ2 H2=>tb { D with nx:=N,ct:=N,bk:=D.nx } σ2 H2)
section
variable {K:W.Frag} {ta:TA} {g:TG} {tb:TS} {D:Ends} {σ:L2.St} {H:Hp} {a:Addr} {xs:List V}
theorem qn9:qfQ (ql5 K ta) g tb D σ H=ta σ H (fun vs H1=>∃ a,vs=[.ref a]∧(∃ xs,SqL K H1 a xs)∧ForJ (qsX K a) g tb D σ H1):=rfl
theorem qi6:qfQ (ql6 K ta) g tb D σ H=ta σ H (fun vs H1=>∃ a,vs=[.ref a]∧(∃ xs,SqT K H1 a xs)∧ForJ (qtI K a) g tb D σ H1):=rfl
theorem ql7 {capt:List (Option Nat)} {te:TE} {Q:VK}:qco (ql5 K ta) capt g te σ H Q=ta σ H (fun vs H1=>∃ a,vs=[.ref a]∧(∃ xs,SqL K H1 a xs)∧CompJ (qsX K a) capt g te σ Q H1):=rfl
theorem ForJ.enumL (Pv:Nat→L2.St→Hp→Prop) (h0:Pv 0 σ H) (hl:∀ i σ H,i≤xs.length→Pv i σ H→SqL K H a xs)
    (hs:∀ i x p σ H,xs[i]?=some x→Pv i σ H→H p=none→g (.ref p) σ (upd H p (.tup [.int i,x])) fun σ2 H2=>tb { D with nx:=Pv (i+1),ct:=Pv (i+1),bk:=D.nx } σ2 H2) (hd:∀ σ H,Pv xs.length σ H→D.nx σ H):ForJ (qsX K a) g tb D σ H:=by
  refine ⟨fun i m σ H=>m=xs.length - i∧i≤xs.length∧Pv i σ H,⟨xs.length,by simp,Nat.zero_le _,h0⟩,?_⟩
  rintro i m σ H ⟨rfl,hi,pv⟩
  have q:=hl i σ H hi pv
  by_cases lt:i<xs.length
  · refine .inr ⟨⟨xs,xs[i],q,by simp [lt]⟩,Pv (i+1),fun σ' H' p'=>⟨xs.length - (i+1),by omega,rfl,lt,p'⟩,fun x H' y=>?_⟩
    obtain ⟨p,x',hp,rfl,rfl,y⟩:=y
    exact hs i x' p σ _ (y xs q) pv hp
  · have e:i=xs.length:=by omega
    subst e
    exact .inl ⟨⟨xs,q,Nat.le_refl _⟩,hd σ H pv⟩
theorem ForJ.enumT (Pv:Nat→L2.St→Hp→Prop) (h0:Pv 0 σ H) (hl:∀ i σ H,i≤xs.length→Pv i σ H→H a=some (.tup xs))
    (hs:∀ i x p σ H,xs[i]?=some x→Pv i σ H→H p=none→g (.ref p) σ (upd H p (.tup [.int i,x])) fun σ2 H2=>tb { D with nx:=Pv (i+1),ct:=Pv (i+1),bk:=D.nx } σ2 H2) (hd:∀ σ H,Pv xs.length σ H→D.nx σ H):ForJ (qtI K a) g tb D σ H:=by
  refine ⟨fun i m σ H=>m=xs.length - i∧i≤xs.length∧Pv i σ H,⟨xs.length,by simp,Nat.zero_le _,h0⟩,?_⟩
  rintro i m σ H ⟨rfl,hi,pv⟩
  have q:SqT K H a xs:=SqT.of (hl i σ H hi pv)
  by_cases lt:i<xs.length
  · refine .inr ⟨⟨xs,xs[i],q,by simp [lt]⟩,Pv (i+1),fun σ' H' p'=>⟨xs.length - (i+1),by omega,rfl,lt,p'⟩,fun x H' y=>?_⟩
    obtain ⟨p,x',hp,rfl,rfl,y⟩:=y
    exact hs i x' p σ _ (y xs q) pv hp
  · have e:i=xs.length:=by omega
    subst e
    exact .inl ⟨⟨xs,q,Nat.le_refl _⟩,hd σ H pv⟩
end
end Bs
namespace Bs
open PySem PySem.Spec PyProof.Rows L2
noncomputable def blk (X:Cx) (N:List Str) (scope:Scope) (cl:List (Str×Addr)) (C:Addr) (s:Shared) (H:Hp) (fp:List Addr):Cx:=
  { X with N:=N,s₀:=s,H₀:=H,env:=compEnvC scope cl C X.env,outer:=X.stack,stack:=X.stack,ex:=fp,fn:=fun _=>false,pn:=[],xe:=fun _ _=>False }
structure BlkOk (X:Cx) (N:List Str) (capt:List (Option Nat)) (scope:Scope) (cl:List (Str×Addr)):Prop where
  kind:scope.kind=.function
  clos:closureFor scope X.env=pure cl
  nocell:∀ y∈scope.names,y.2≠.cell
  names:∀ y∈scope.names,y.2=.local→scope.names.lookup y.1=some .local
  cells:∀ y c,cl.lookup y=some c→X.env.cells.lookup y=some c
  has:∀ y,((relabel scope X.env).names.lookup y=some .cell∨(relabel scope X.env).names.lookup y=some .free)→∃ c,cl.lookup y=some c
  cap:∀ (i:Nat) (x:Str) (j:Nat),N[i]?=some x→capt[i]?=some (some j)→X.N[j]?=some x∧Vis X.env.scope x∧X.env.kindOf x≠some .local∧((relabel scope X.env).names.lookup x=some .cell∨(relabel scope X.env).names.lookup x=some .free)
  len:capt.length=N.length
section
variable {X:Cx} {pins:List (Addr×Obj)} {σ:L2.St} {H:Hp} {s:Shared} {N:List Str} {capt:List (Option Nat)} {scope:Scope} {cl:List (Str×Addr)} {C:Addr} {fp:List Addr}
theorem qoa (B:BlkOk X N capt scope cl) (I:Inv X pins σ H s) (fo:∀ b∈fp,qkY X pins H b) (fl:∀ b∈fp,b<s.heap.objs.size) (hC:s.heap.objs.size≤C):(blk X N scope cl C s H fp).Ok where
  mod:=I.ok.mod
  kind:=B.kind
  glob:=I.ok.glob
  blt:=I.ok.blt
  above:=hC
  inj:=fun x y c h1 h2=>I.ok.inj x y c (B.cells x c h1) (B.cells y c h2)
  has:=fun x h=>B.has x h
  cab:=fun _ _ h=>nomatch h
  hd:=I.ok.hd
  frames:=I.ok.frames
  stk:=.inl rfl
  exf:=fun b hb=>⟨fun e=>absurd (Nat.lt_of_lt_of_le (fl b hb) hC) (by rw [show b=C from e];exact Nat.lt_irrefl _),fun x c e=>(fo b hb).2.2.2.2.1 x c (B.cells x c e)⟩
  bs:=I.bs
  bsz:=Nat.le_trans I.ok.bsz I.sz
  noex:=fun b o e hb=>by
    rcases (fo b hb).2.2.2.1 with z | z
    · exact I.ok.noex b o e z
    · exact absurd (Nat.lt_of_lt_of_le (Heap.lt_size e) (Nat.le_trans I.ok.bsz z)) (Nat.lt_irrefl _)
  exfs:=fun b hb hf=>by
    rcases List.mem_cons.mp (I.stkSub b hf) with z | z
    · exact (fo b hb).2.1 z
    · exact (fo b hb).2.2.1 z
  funs:=I.stack
  frf:=I.stkFree
  seer:=I.ok.seer
  tree:=I.ok.tree
  plr:=I.ok.plr
theorem qob (B:BlkOk X N capt scope cl) (I:Inv X pins σ H s) (fo:∀ b∈fp,qkY X pins H b) (fl:∀ b∈fp,b<s.heap.objs.size) (hC:s.heap.objs.size≤C) {h1:Heap} {m:Str→Option Value} {tk:Nat}
    (hn:h1.Ns C m) (hk:∀ b o,s.heap.get? b=some o→h1.get? b=some o):Inv (blk X N scope cl C s H fp) [] (qdv capt σ) H { s with heap:=h1,toks:=tk } where
  ok:=qoa B I fo fl hC
  os:=rfl
  bare:=I.bare
  base:=Un.kept hk
  loc:=by
    refine ⟨m,hn,fun i x v e1 e2 e3=>?_⟩
    have e2':(capt.map fun o=>o.bind fun j=>(σ[j]?).join)[i]?=some (some v):=e2
    rw [List.getElem?_map] at e2'
    cases ec:capt[i]? with
    | none=>rw [ec] at e2';cases e2'
    | some o=>
      rw [ec] at e2'
      cases o with
      | none=>cases e2'
      | some j=>
        have e4:(σ[j]?).join=some v:=Option.some.inj e2'
        obtain ⟨c1,c2,c3,c4⟩:=B.cap i x j e1 ec
        have e5:σ[j]?=some (some v):=by
          cases q:σ[j]? with
          | none=>rw [q] at e4;cases e4
          | some w=>rw [q] at e4;exact congrArg some e4
        obtain ⟨m',_,hl⟩:=I.loc
        obtain ⟨u,r,l⟩:=hl j x v c1 e5 c2
        refine ⟨u,r,.inr ⟨c4,?_⟩⟩
        rcases l with ⟨l,_⟩ | ⟨_,c,lc,ic⟩
        · exact absurd l c3
        · obtain ⟨c',hc'⟩:=B.has x c4
          have:=B.cells x c' hc'
          rw [lc] at this
          cases this
          obtain ⟨o,ho,hd⟩:=ic
          exact ⟨c,hc',o,hk c o ho,hd⟩
  cell:=fun x c e=>by
    obtain ⟨v,o,ho,hd⟩:=I.cell x c (B.cells x c e)
    exact ⟨v,o,hk c o ho,hd⟩
  free:=I.hok.fresh hC
  freeC:=fun x c e=>I.freeC x c (B.cells x c e)
  pin:=fun p hp=>nomatch hp
  hok:=I.hok.kept hk
  len:=by show (capt.map _).length=N.length;rw [List.length_map];exact B.len
theorem qha {σ6:L2.St} {H7:Hp} {s7:Shared} {pins':List (Addr×Obj)} (B:BlkOk X N capt scope cl) (I:Inv X pins σ H s) (fo:∀ b∈fp,qkY X pins H b) (I7:Inv (blk X N scope cl C s H fp) pins' σ6 H7 s7):Inv (blk X N scope cl C s H fp) pins' (qdv capt σ) H7 s7:=
  ⟨I7.ok,I7.os,I7.bare,I7.base,by
    obtain ⟨m,hn,_⟩:=I7.loc
    refine ⟨m,hn,fun i x v e1 e2 e3=>?_⟩
    have e2':(capt.map fun o=>o.bind fun j=>(σ[j]?).join)[i]?=some (some v):=e2
    rw [List.getElem?_map] at e2'
    cases ec:capt[i]? with
    | none=>rw [ec] at e2';cases e2'
    | some o=>
      rw [ec] at e2'
      cases o with
      | none=>cases e2'
      | some j=>
        have e4:(σ[j]?).join=some v:=Option.some.inj e2'
        obtain ⟨c1,c2,c3,c4⟩:=B.cap i x j e1 ec
        have e5:σ[j]?=some (some v):=by
          cases q:σ[j]? with
          | none=>rw [q] at e4;cases e4
          | some w=>rw [q] at e4;exact congrArg some e4
        obtain ⟨m',_,hl⟩:=I.loc
        obtain ⟨u,r,l⟩:=hl j x v c1 e5 c2
        refine ⟨u,r,.inr ⟨c4,?_⟩⟩
        rcases l with ⟨l,_⟩ | ⟨_,c,lc,ic⟩
        · exact absurd l c3
        · obtain ⟨c',hc'⟩:=B.has x c4
          have:=B.cells x c' hc'
          rw [lc] at this
          cases this
          obtain ⟨o,ho,hd⟩:=ic
          obtain ⟨sl,hk⟩:=I7.base.any ho (I.freeC x c lc) fun hb=>(fo c hb).2.2.2.2.1 x c lc rfl
          exact ⟨c,hc',_,hk,hd⟩,I7.cell,I7.free,I7.freeC,I7.pin,I7.hok,by show (capt.map _).length=N.length;rw [List.length_map];exact B.len⟩
theorem qeA {κ β:Type} [BEq κ] [LawfulBEq κ]:∀ {l:List (κ×β)} {y:κ} {c:β},l.lookup y=some c→(y,c)∈l
  | (k,v)::l,y,c,h=>by
    rw [List.lookup_cons] at h
    cases e:y == k with
    | true=>
      rw [e] at h
      cases h
      rw [eq_of_beq e]
      exact List.mem_cons_self ..
    | false=>
      rw [e] at h
      exact List.mem_cons_of_mem _ (qeA h)
theorem BlkOk.of (k:scope.kind=.function) (c:closureFor scope X.env=pure cl) (n1:(scope.names.all fun y=>y.2 != .cell)=true) (n2:(scope.names.all fun y=>y.2 != .local || scope.names.lookup y.1 == some .local)=true)
    (cs:∀ pr∈cl,X.env.cells.lookup pr.1=some pr.2) (hs:((relabel scope X.env).names.all fun pr=>(pr.2 != .cell && pr.2 != .free) || (cl.lookup pr.1).isSome)=true)
    (cp:((List.range N.length).all fun i=>match N[i]?,capt[i]? with
      | some x,some (some j)=>X.N[j]? == some x && (X.env.scope.names.lookup x == some .cell || X.env.scope.names.lookup x == some .free) && ((relabel scope X.env).names.lookup x == some .cell || (relabel scope X.env).names.lookup x == some .free)
      | _,_=>true)=true) (ln:capt.length=N.length):BlkOk X N capt scope cl where
  kind:=k
  clos:=c
  nocell:=fun y hy e=>by
    have z:=List.all_eq_true.mp n1 y hy
    rw [e] at z
    exact absurd z (by decide)
  names:=fun y hy e=>by
    have z:=List.all_eq_true.mp n2 y hy
    rw [e] at z
    simpa using z
  cells:=fun y c h=>cs (y,c) (qeA h)
  has:=fun y h=>by
    have m:∃ kd,(y,kd)∈(relabel scope X.env).names∧(kd=.cell∨kd=.free):=by
      rcases h with h | h
      · exact ⟨_,qeA h,.inl rfl⟩
      · exact ⟨_,qeA h,.inr rfl⟩
    obtain ⟨kd,m,e⟩:=m
    have z:=List.all_eq_true.mp hs _ m
    have z2:(cl.lookup y).isSome=true:=by
      rcases e with rfl | rfl
      · simpa using z
      · simpa using z
    exact Option.isSome_iff_exists.mp z2
  cap:=fun i x j e1 e2=>by
    have li:i<N.length:=(List.getElem?_eq_some_iff.mp e1).1
    have z:=List.all_eq_true.mp cp i (List.mem_range.mpr li)
    rw [e1,e2] at z
    simp only [Bool.and_eq_true,Bool.or_eq_true,beq_iff_eq] at z
    obtain ⟨⟨z1,z2⟩,z3⟩:=z
    refine ⟨z1,.inr z2,fun q=>?_,z3⟩
    have q':X.env.scope.names.lookup x=some .local:=q
    rcases z2 with z2 | z2 <;> (rw [z2] at q';cases q')
  len:=ln
theorem qk8 {prog:Program} {w:World} {A:Around} {R:Result→Shared→Prop} {s:Shared} {elt target iter:Expr} {scope:Scope} {pos:Pos} {it acc:Value} {env:Env} (I:Nat→Shared→Prop)
    (turn:∀ n s,I n s→wpAny (model prog w) A (pyNext it) (fun r s₁=>match r with
      | none=>R (.ok .next) s₁
      | some v=>wpAny (model prog w) A (letOwnedTupleGo target it v) (fun _ s₂=>wpAny (model prog w) A (assign target env v) (fun _ s₃=>wpAny (model prog w) A (eval elt env) (fun x s₄=>
          wpAny (model prog w) A (call (.builtin "list.append") [acc,x]) (fun _ s₅=>∃ m,m<n∧I m s₅) (fun _ _=>False) s₄) (fun _ _=>False) s₃) (fun _ _=>False) s₂) (fun _ _=>False) s₁) (fun _ _=>False) s)
    (n:Nat) (h:I n s):codeAny (model prog w) A (.compLoop (.ListComp elt [⟨target,iter,[],0⟩] scope pos) 0 it acc env) R s:=by
  refine codeAny_loop rfl I (fun n s hI=>?_) n h
  show wpAny _ A ((compTurn (.ListComp elt [⟨target,iter,[],0⟩] scope pos) 0 it acc env).onRaise (fun x=>do noteFrame x env;theTreesLotGoes x)) _ _ s
  refine wpAny_noted ?_
  rw [compTurn_list]
  have no:∀ {E':Value→Shared→Prop} (e:Value) (s':Shared),(fun (_:Value) (_:Shared)=>False) e s'→E' e s':=fun _ _ f=>f.elim
  refine wpAny_bind (wpAny_standAt (wpAny_bind (wpAny_mono (turn n s hI) (fun r s₁ h₁=>?_) no)))
  cases r with
  | none=>exact wpAny_pure h₁
  | some v=>
    refine wpAny_bind (wpAny_mono h₁ (fun _ s₂ h₂=>?_) no)
    refine wpAny_bind (wpAny_mono h₂ (fun _ s₃ h₃=>wpAny_bind (wpAny_tests_nil ?_)) no)
    exact wpAny_bind (wpAny_bind (wpAny_mono h₃ (fun x s₄ h₄=>wpAny_bind (wpAny_mono h₄ (fun _ s₅ h₅=>wpAny_pure (wpAny_pure ⟨rfl,h₅⟩)) no)) no))
theorem qkc {elt iter tg:Expr} {pos:Pos} {wi:TI} {g:TG} {te:TE} {pins:List (Addr×Obj)} {s:Shared} {σ:L2.St} {H:Hp} {Q:VK} (RR:Value→Addr→Result→Shared→Prop) (hc:X.calm=true) (B:BlkOk X N capt scope cl) (hi:PI X tg iter wi)
    (hg:∀ C s H fp,PG (blk X N scope cl C s H fp) tg g) (he:∀ C s H fp,PE (blk X N scope cl C s H fp) elt te) (I:Inv X pins σ H s) (h:qco wi capt g te σ H Q)
    (fin:∀ (D C:Addr) (s4:Shared) (Hq:Hp) (m:Str→Option Value),Inv X pins σ Hq s4→Q (.ref D) Hq→s4.heap.Ns C m→Hq C=none→C≠X.env.locals→X.s₀.heap.objs.size≤C→(∀ x c,X.env.cells.lookup x=some c→c≠C)→(∀ p∈X.pn++pins,p.1≠C)→RR (.ref D) C (.ok .next) s4) :
    wpAny (model X.prog X.w) X.A (eval iter X.env) (fun x s₁=>wpAny (model X.prog X.w) X.A (pyIter x) (fun it s₂=>wpAny (model X.prog X.w) X.A (newList []) (fun acc s₃=>
      wpAny (model X.prog X.w) X.A (newFunctionEnv scope X.env.globals cl [] X.env.qual none .none (some X.env)) (fun cenv s₄=>
        codeAny (model X.prog X.w) X.A (.compStart (.ListComp elt [⟨tg,iter,[],0⟩] scope pos) 0 it acc { cenv with scope:=relabel scope X.env }) (RR acc cenv.locals) s₄) X.xe s₃) X.xe s₂) X.xe s₁) X.xe s:=by
  refine thn (hi pins s σ H _ I h) fun v s1 h1=>thn h1 fun itv s2 h2=>?_
  obtain ⟨it,fp,tn,J,H2,e,I2,T,st2,f2,n0,W,w0,turn⟩:=h2
  subst e
  have fl:∀ b∈fp,b<s2.heap.objs.size:=fun b hb=>by obtain ⟨o,e,_⟩:=T.obj _ _ st2 b hb;exact Heap.lt_size e
  refine wpAny_newObj_type (wpAny_newFunctionEnv B.nocell (by intro y hy;simp at hy) (fun h₁ hns₁ hsb₁=>?_) B.kind)
  dsimp only at hns₁ hsb₁ ⊢
  generalize hG:s2.heap.push { cls:=.type "list", dict:=none,data:=.seq ([]:List Value).toArray }=G at hns₁ hsb₁ ⊢
  have hC:G.objs.size=s2.heap.objs.size+1:=by rw [← hG,Heap.size_push]
  have hCle:s2.heap.objs.size≤G.objs.size:=by rw [hC];exact Nat.le_succ _
  have hDC:s2.heap.objs.size≠G.objs.size:=by rw [hC];exact Nat.ne_of_lt (Nat.lt_succ_self _)
  have old:∀ b o,s2.heap.get? b=some o→h₁.get? b=some o:=fun b o e=>hsb₁.extBut b o (by rw [hC];exact Nat.ne_of_lt (Nat.lt_succ_of_lt (Heap.lt_size e))) (Heap.get?_push_of_some _ (hG ▸ Heap.get?_push_of_some _ e))
  have hacc:h₁.get? s2.heap.objs.size=some { cls:=.type "list", data:=.seq ([]:List Value).toArray }:=hsb₁.extBut _ _ hDC (Heap.get?_push_of_some _ (hG ▸ Heap.get?_push_size _ rfl))
  have ok':=qoa B I2 f2 fl hCle
  have nsD:s2.heap.objs.size∉frs X.stack:=fun hb=>by
    rcases List.mem_cons.mp (I2.stkSub _ hb) with z | z
    · exact absurd I2.lt (by rw [← z];exact Nat.lt_irrefl _)
    · exact I2.nofs (Nat.le_refl _) z
  have ncD:∀ x c,cl.lookup x=some c→c≠s2.heap.objs.size:=fun x c e z=>by
    obtain ⟨v,q⟩:=I2.cell x c (B.cells x c e)
    exact absurd q.lt (by rw [z];exact Nat.lt_irrefl _)
  have nfD:∀ b∈fp,s2.heap.objs.size≠b:=fun b hb z=>absurd (fl b hb) (by rw [← z];exact Nat.lt_irrefl _)
  have I₁:Inv (blk X N scope cl G.objs.size s2 H2 fp) [] (qdv capt σ) H2 { s2 with heap:=h₁,toks:=s2.toks+([]:List (Str×Value)).length }:=qob B I2 f2 fl hCle hns₁ old
  have loop:codeAny (model X.prog X.w) X.A (.compLoop (.ListComp elt [⟨tg,iter,[],0⟩] scope pos) 0 (.ref it) (.ref s2.heap.objs.size) (compEnvC scope cl G.objs.size X.env))
      (RR (.ref s2.heap.objs.size) G.objs.size) { s2 with heap:=h₁,toks:=s2.toks+([]:List (Str×Value)).length }:=by
    refine qk8 (fun n s'=>∃ (i:Nat) (ys:List V) (its:List Value) (k:Nat) (Hc:Hp),Inv (blk X N scope cl G.objs.size s2 H2 fp) [] (qdv capt σ) Hc s'∧s'.heap.get? s2.heap.objs.size=some { cls:=.type "list", data:=.seq its.toArray k }∧Vals ys its∧
      Hc s2.heap.objs.size=none∧tn i s'.heap∧(∀ b∈fp,Hc b=none)∧W i ys Hc∧n=n0 - i) ?_ n0 ⟨0,[],[],0,H2,I₁,hacc,.nil,I2.hok.fresh (Nat.le_refl _),T.keep _ _ _ st2 (fun b _ o e=>old b o e),fun b hb=>(f2 b hb).1,w0,rfl⟩
    rintro n s3 ⟨i,ys,its,k,Hc,I3,hD,hv,nD,st3,fr3,w3,en⟩
    obtain ⟨_,hl,step⟩:=turn i ys Hc w3
    have hz:its.toArray.size≤sizeLine:=by rw [List.size_toArray,← hv.length];exact hl
    have I3p:Inv (blk X N scope cl G.objs.size s2 H2 fp) [(s2.heap.objs.size,{ cls:=.type "list", data:=.seq its.toArray k })] (qdv capt σ) Hc s3:=I3.pins_of fun p hp=>by
      rw [List.mem_singleton] at hp
      subst hp
      exact ⟨hD,nD,hDC,nsD,fun v z=>nomatch z⟩
    have fo3:∀ {Hx:Hp} (_:∀ b∈fp,Hx b=none),∀ b∈fp,qkY (blk X N scope cl G.objs.size s2 H2 fp) [(s2.heap.objs.size,{ cls:=.type "list", data:=.seq its.toArray k })] Hx b:=fun hx b hb=>
      ⟨hx b hb,(ok'.exf b hb).1,ok'.exfs b hb,.inl hb,(ok'.exf b hb).2,fun p hp=>by
        have hp':p∈[((s2.heap.objs.size,{ cls:=.type "list", data:=.seq its.toArray k }):Addr×Obj)]:=hp
        rw [List.mem_singleton] at hp'
        subst hp'
        exact nfD b hb⟩
    rcases step with ⟨stop,q⟩ | ⟨ltn,go,nxt⟩
    · refine thn (T.done (blk X N scope cl G.objs.size s2 H2 fp) rfl rfl rfl hc i _ s3 _ Hc _ I3p (fo3 fr3) st3 stop) fun r s4 ⟨hr,I4⟩=>?_
      subst hr
      have hD4:=(I4.pin (s2.heap.objs.size,{ cls:=.type "list", data:=.seq its.toArray k }) (List.mem_append_right _ (List.mem_singleton.mpr rfl))).1
      obtain ⟨m,hn,_⟩:=I4.loc
      have nDt:∀ b u,Hc b=some u→b≠s2.heap.objs.size:=fun b u e z=>by rw [z,nD] at e;cases e
      have oldC:∀ b o,s2.heap.get? b=some o→b≠s2.heap.objs.size:=fun b o e=>Nat.ne_of_lt (Heap.lt_size e)
      have ub:Un (frs X.stack) fp H2 Hc s2.heap s4.heap:=I4.base
      have cC:∀ b,b<s2.heap.objs.size→b≠G.objs.size:=fun b hb z=>absurd (Nat.lt_of_lt_of_le hb hCle) (by rw [z];exact Nat.lt_irrefl _)
      refine fin _ G.objs.size s4 (upd Hc s2.heap.objs.size (.lst ys)) m ?_ (q _ nD) hn (by rw [qaC (fun z=>hDC z.symm)];exact I4.free) (fun z=>cC _ I2.lt z.symm) (Nat.le_trans I2.sz hCle)
        (fun x c e=>by obtain ⟨v,q⟩:=I2.cell x c e;exact cC _ q.lt) fun p hp=>cC _ (Heap.lt_size (I2.pin p hp).1)
      refine I2.call' (ch:=fp) (s':=s4) I4.os ?_ ?_ I4.bare fun b hb=>⟨(f2 b hb).2.2.2.1,(f2 b hb).2.1,(f2 b hb).2.2.2.2.1,(f2 b hb).2.2.2.2.2⟩
      · refine ⟨ub.keep,ub.slot,fun b o e n hx=>?_,ub.there,fun b xs e=>?_,fun b o u e=>?_,fun b ps e=>?_⟩
        · rw [qaC (oldC b o e)];exact ub.free b o e n hx
        · have z:=ub.tups b xs e
          rw [qaC (nDt b _ z)];exact z
        · have z:=ub.frzs b o u e
          rw [qaC (nDt b _ z)];exact z
        · obtain ⟨more,z⟩:=ub.tbls b ps e
          exact ⟨more,by rw [qaC (nDt b _ z)];exact z⟩
      · intro b u e
        by_cases hb:b=s2.heap.objs.size
        · subst hb
          rw [qai] at e
          cases e
          exact ⟨hl,its,k,hv,hD4⟩
        · rw [qaC hb] at e
          exact (I4.hok b u e).stay (fun c v _ q=>q) (fun c q=>by rw [qaC (nDt c _ q)];exact q) fun c xs q=>by rw [qaC (nDt c _ q)];exact q
    · refine thn (T.item (blk X N scope cl G.objs.size s2 H2 fp) rfl rfl rfl hc i _ s3 _ Hc _ I3p (fo3 fr3) st3 go) fun r s4 ⟨u,hr,h4⟩=>?_
      subst hr
      refine thn h4 fun _ s5 ⟨x,H5,I5,r5,y5,st5,fr5⟩=>?_
      have I5':=I5.pinned (fo3 fr5) (T.obj _ _ st5)
      refine thn (hg _ _ _ _ _ s5 _ H5 x u _ I5' r5 (nxt x H5 y5)) fun _ s6 ⟨σ6,H6,I6,q6⟩=>?_
      refine thn (he _ _ _ _ _ s6 σ6 H6 _ I6 q6) fun uy s7 ⟨y,H7,I7,r7,w7⟩=>?_
      have pD:=I7.pin (s2.heap.objs.size,{ cls:=.type "list", data:=.seq its.toArray k }) (List.mem_append_right _ (List.mem_append_left _ (List.mem_singleton.mpr rfl)))
      have pF:∀ b∈fp,∀ o,s5.heap.get? b=some o→s7.heap.get? b=some o∧H7 b=none:=fun b hb o e=>by
        have z:=I7.pin (b,o) (List.mem_append_right _ (List.mem_append_right _ (qdC hb e)))
        exact ⟨z.1,z.2.1⟩
      refine append_at (hsz:=hz) pD.1 fun h8 sb8 hD8=>?_
      have I7n:Inv (blk X N scope cl G.objs.size s2 H2 fp) [] σ6 H7 s7:=I7.pins_of fun p hp=>nomatch hp
      have I8:Inv (blk X N scope cl G.objs.size s2 H2 fp) [] σ6 H7 { s7 with heap:=h8,toks:=s7.toks }:=I7n.turned (fun b o hb e=>sb8.extBut b o hb e) pD.2.1 hDC (.inr (Nat.le_refl _)) ncD (fun p hp=>nomatch hp)
      refine ⟨n0 - (i+1),by omega,i+1,ys++[y],its++[uy],k+1,H7,qha B I2 f2 I8,?_,Paired.snoc hv r7,pD.2.1,T.keep _ _ _ st5 (fun b hb o e=>sb8.extBut b o (nfD b hb).symm (pF b hb o e).1),fun b hb=>?_,w7,rfl⟩
      · show h8.get? _=_
        rw [hD8,List.push_toArray]
      · obtain ⟨o,e,_⟩:=T.obj _ _ st5 b hb
        exact (pF b hb o e).2
  exact codeAny_compStart_list loop (T.self X.A 0 _ _ _ (T.keep _ _ _ st2 (fun b _ o e=>old b o e)) loop)
theorem qcf {elt iter tg:Expr} {pos:Pos} {wi:TI} {g:TG} {te:TE} (hc:X.calm=true) (B:BlkOk X N capt scope cl) (hi:PI X tg iter wi)
    (hg:∀ C s H fp,PG (blk X N scope cl C s H fp) tg g) (he:∀ C s H fp,PE (blk X N scope cl C s H fp) elt te)
    (hs:∀ x,foldedSetIterable iter X.env x=pure x:=by intro _;rfl):PE X (.ListComp elt [⟨tg,iter,[],0⟩] scope pos) (qco wi capt g te):=by
  intro pins s σ H Q I h
  rw [eval_ListComp]
  refine wpAny_comprehension_free (use:=none) rfl hs B.clos B.kind B.names (qkc (fun acc C=>compPost (model X.prog X.w) X.A X.xe none (EP X pins σ Q) acc C) hc B hi hg he I h fun D C s4 Hq m I4 q hn hf h1 h2 h3 h4=>?_)
  exact ⟨m,hn,fun h' sb=>⟨.ref D,Hq,I4.turned (fun b o hb e=>sb.extBut b o hb e) hf h1 (.inr h2) h3 h4,rfl,q⟩⟩
theorem qoc {i:Nat} {x:Str} {pos' spos:Pos} {elt iter tg:Expr} {pos:Pos} {wi:TI} {g:TG} {te:TE} (hN:X.N.Nodup) (hi':X.N[i]?=some x) (hx:Loc X.env.scope x) (hc:X.calm=true) (B:BlkOk X N capt scope cl) (hi:PI X tg iter wi)
    (hg:∀ C s H fp,PG (blk X N scope cl C s H fp) tg g) (he:∀ C s H fp,PE (blk X N scope cl C s H fp) elt te)
    (hsw:swapsWith (.ListComp elt [⟨tg,iter,[],0⟩] scope pos) (some (.Name x pos')) spos.line X.env=pure true:=by rfl)
    (hs:∀ x,foldedSetIterable iter X.env x=pure x:=by intro _;rfl) (hf:X.fn x=true∨X.env.scope.names.lookup x=some .local:=by first | exact .inl rfl | exact .inr rfl | assumption) :
    PS X (.Assign [.Name x pos'] (.ListComp elt [⟨tg,iter,[],0⟩] scope pos) spos) (qaR (qco wi capt g te) (qaj i)):=by
  intro pins s σ H D I h
  rw [exec_Assign_Name_used _ _ _ _ hsw]
  refine wpAny_bind (wpAny_standAt (wpAny_bind ?_))
  show wpAny _ X.A (do let _ ← comprehension (.ListComp elt [⟨tg,iter,[],0⟩] scope pos) scope X.env _ (newList []) false (eval iter X.env) (some (assign (.Name x pos') X.env))) _ _ s
  refine wpAny_bind (wpAny_mono (wpAny_comprehension_free (use:=some (assign (.Name x pos') X.env)) (Q:=fun _ s'=>SP X pins D .next s') rfl hs B.clos B.kind B.names
    (qkc (fun acc C=>compPost (model X.prog X.w) X.A X.xe (some (assign (.Name x pos') X.env)) (fun _ s'=>SP X pins D .next s') acc C) hc B hi hg he I h fun Da C s4 Hq m I4 q hn hfr h1 h2 h3 h4=>?_)) (fun _ s' hq=>wpAny_pure (wpAny_pure hq)) fun _ _ e=>e)
  show wpAny _ X.A (assign (.Name x pos') X.env (.ref Da)) _ _ _
  refine wpAny_assign_Name (qjS I4 hN hi' hx (v:=.ref Da) rfl (fun s5 I5 ⟨a,sb5,ha⟩=>⟨m,hn.sameBut sb5 ?_,fun h' sb=>⟨_,_,I5.turned (fun b o hb e=>sb.extBut b o hb e) hfr h1 (.inr h2) h3 h4,q⟩⟩) hf)
  rcases ha with z | z
  · rw [z];exact h1
  · exact fun e=>h3 x a z e.symm
end
end Bs
namespace Bs
open PySem PySem.Spec PyProof.Rows L2
open PySem.AutoSeq1 (wpAny_loadPart')
section
variable {prog:Program} {w:World} {A:Around} {E:Value→Shared→Prop} {s:Shared} {e it t:Addr} {i:Nat} {zs:Array Value}
theorem qmT {x:Value} {Q:Value→Shared→Prop} (si:s.heap.IsTupleIter it t i) (st:s.heap.IsTuple t zs) (hx:zs[i]?=some x)
    (hQ:∀ g,g.IsTupleIter it t (i+1)→Heap.SameBut it s.heap g→Q x { s with heap:=g }):wpAny (model prog w) A (Builtin.SmallTypes.nextOf (.ref it)) Q E s:=by
  obtain ⟨oi,gi,ci,di⟩:=id si
  obtain ⟨ot,gt,_,kt,dt⟩:=st
  unfold Builtin.SmallTypes.nextOf
  refine wpAny_bind (wpAny_callSpecial?_slot (name:=Str.ofString "__next__") si.typeIs F.slot_tuple_iterator_next (wpAny_call_entry F.slot_tuple_iterator_next si.typeIs F.entry_tuple_iterator_next ?_ (F.args_tuple_iterator_next_1 _)))
  show wpAny _ _ (field (.ref it) 0 >>= _) _ _ s
  refine wpAny_bind (wpAny_field gi di (x:=.ref t) rfl ?_)
  show wpAny _ _ (if (Value.ref t == Value.none)=true then _ else _) _ _ s
  rw [if_neg (fun q:(Value.ref t == Value.none)=true=>Bool.false_ne_true q)]
  show wpAny _ _ (field (.ref it) 1 >>= _) _ _ s
  refine wpAny_bind (wpAny_field gi di (x:=.int i 0) rfl ?_)
  show wpAny _ _ (seqItems? (.ref t) >>= _) _ _ s
  refine wpAny_bind (wpAny_seqItems gt dt ?_)
  simp only [Int.toNat_natCast,hx]
  refine wpAny_bind (wpAny_setField gi di (by simp) (wpAny_pure ⟨x,rfl,wpAny_pure (hQ _ ⟨_,Heap.get?_update_self _ gi (Obj.isFreed_of_fields (Obj.data_mapFields di _)),(Obj.cls_mapFields ..).trans ci,?_⟩ (Heap.SameBut.update ..))⟩))
  rw [Obj.data_mapFields di]
  simp [rawInt]
theorem qod {Q:Value→Shared→Prop} (hh:A.handled=none) (si:s.heap.IsTupleIter it t i) (st:s.heap.IsTuple t zs) (hx:zs[i]?=none)
    (hE:∀ g x,Heap.ExtBut it s.heap g→(∃ o,g.get? x=some o∧o.cls=.type "StopIteration")→E (.ref x) { s with heap:=g }):wpAny (model prog w) A (Builtin.SmallTypes.nextOf (.ref it)) Q E s:=by
  obtain ⟨oi,gi,ci,di⟩:=id si
  obtain ⟨ot,gt,_,kt,dt⟩:=st
  unfold Builtin.SmallTypes.nextOf
  refine wpAny_bind (wpAny_callSpecial?_slot (name:=Str.ofString "__next__") si.typeIs F.slot_tuple_iterator_next (wpAny_call_entry F.slot_tuple_iterator_next si.typeIs F.entry_tuple_iterator_next ?_ (F.args_tuple_iterator_next_1 _)))
  show wpAny _ _ (field (.ref it) 0 >>= _) _ _ s
  refine wpAny_bind (wpAny_field gi di (x:=.ref t) rfl ?_)
  show wpAny _ _ (if (Value.ref t == Value.none)=true then _ else _) _ _ s
  rw [if_neg (fun q:(Value.ref t == Value.none)=true=>Bool.false_ne_true q)]
  show wpAny _ _ (field (.ref it) 1 >>= _) _ _ s
  refine wpAny_bind (wpAny_field gi di (x:=.int i 0) rfl ?_)
  show wpAny _ _ (seqItems? (.ref t) >>= _) _ _ s
  refine wpAny_bind (wpAny_seqItems gt dt ?_)
  simp only [Int.toNat_natCast,hx]
  refine wpAny_bind (wpAny_rule (wpAny_bind (wpAny_setField gi di (by simp) (wpAny_bind ?_))))
  simp only [newExc,newTuple]
  refine wpAny_bind (wpAny_newObj_type (wpAny_bind (m:=firstArgMember _ _) (wpAny_of_eq (a:=Value.none) (by first | rfl | (simp only [firstArgMember];rfl)) (wpAny_newObj_type ?_ (by size_fits)))) (by size_fits))
  simp only [raiseNew]
  refine wpAny_bind (wpAny_handled ?_)
  first
    | rw [show A.in1.handled=none from hh]
    | rw [hh]
  exact wpAny_bind (wpAny_pure (wpAny_throw (hE _ _ (((Heap.SameBut.update ..).extBut.push _).push _) ⟨_,Heap.get?_push_size _ rfl,rfl⟩)))
theorem qmU {x old:Value} {Q:Value→Shared→Prop} (se:IsEnum s.heap e it i old) (si:s.heap.IsTupleIter it t i) (st:s.heap.IsTuple t zs) (hx:zs[i]?=some x) (ne:e≠it)
    (hQ:∀ g,IsEnumOut g e it ((i:Int)+1) x s.heap.objs.size→g.IsTupleIter it t (i+1)→g.get? s.heap.objs.size=some { cls:=.type "tuple", data:=.seq #[.int i s.toks,x] }→
      (∀ b o,b≠e→b≠it→s.heap.get? b=some o→g.get? b=some o)→Q (.ref s.heap.objs.size) { s with heap:=g,toks:=s.toks+1 }) :
    wpAny (model prog w) A (Builtin.«enumerate.__next__» ⟨[.ref e],[]⟩) (fun fin s'=>∃ v,fin=.done (.ret v)∧Q v s') E s:=by
  obtain ⟨g0,gn,dr,tk,os⟩:=s
  show wpAny _ _ (field (.ref e) 2 >>= _) _ _ _
  refine wpAny_bind (wpAny_field se rfl (x:=.ref it) rfl ?_)
  refine wpAny_bind (qmT si st hx fun g1 i1 b1=>?_)
  replace b1:Heap.SameBut it g0 g1:=b1
  have e1:IsEnum g1 e it i old:=(b1.2 e ne).trans se
  show wpAny _ _ (field (.ref e) 3 >>= _) _ _ ⟨g1,gn,dr,tk,os⟩
  refine wpAny_bind (wpAny_field e1 rfl (x:=rawInt i) rfl ?_)
  show wpAny _ _ (field (.ref e) 4 >>= _) _ _ ⟨g1,gn,dr,tk,os⟩
  refine wpAny_bind (wpAny_field e1 rfl (x:=.none) rfl ?_)
  show wpAny _ _ (mkInt i >>= _) _ _ ⟨g1,gn,dr,tk,os⟩
  refine wpAny_bind (wpAny_mkInt ?_)
  show wpAny _ _ (setField (.ref e) 3 (rawInt ((i:Int)+1)) >>= _) _ _ ⟨g1,gn,dr,tk+1,os⟩
  refine wpAny_bind (wpAny_setField_rec e1 (by simp) fun g2 e2 b2=>?_)
  replace b2:Heap.SameBut e g1 g2:=b2
  replace e2:IsEnum g2 e it ((i:Int)+1) old:=e2
  show wpAny _ _ (setField (.ref e) 4 .none >>= _) _ _ ⟨g2,gn,dr,tk+1,os⟩
  refine wpAny_bind (wpAny_setField_rec e2 (by simp) fun g3 e3 b3=>?_)
  replace b3:Heap.SameBut e g2 g3:=b3
  replace e3:IsEnum g3 e it ((i:Int)+1) old:=e3
  show wpAny _ _ (newTuple [.int i tk,x] >>= _) _ _ ⟨g3,gn,dr,tk+1,os⟩
  refine wpAny_bind (wpAny_newTuple ?_)
  have e4:IsEnum (g3.push { cls:=.type "tuple", data:=.seq #[.int i tk,x] }) e it ((i:Int)+1) old:=Heap.get?_push_of_some _ e3
  generalize q4:g3.push { cls:=.type "tuple", data:=.seq #[.int i tk,x] }=g4 at e4
  have z3:g3.objs.size=g0.objs.size:=by rw [b3.1,b2.1,b1.1]
  have le:e<g0.objs.size:=Heap.lt_size se
  have t4:g4.get? g0.objs.size=some { cls:=.type "tuple", data:=.seq #[.int i tk,x] }:=by rw [← q4,← z3];exact Heap.get?_push_size _ rfl
  have k4:∀ b o,b≠e→b≠it→g0.get? b=some o→g4.get? b=some o:=fun b o h1 h2 h3=>by
    rw [← q4];exact Heap.get?_push_of_some _ (b3.extBut b o h1 (b2.extBut b o h1 (b1.extBut b o h2 h3)))
  have i4:g4.IsTupleIter it t (i+1):=by
    obtain ⟨o,ho,hr⟩:=i1
    exact ⟨o,by rw [← q4];exact Heap.get?_push_of_some _ (b3.extBut it o ne.symm (b2.extBut it o ne.symm ho)),hr⟩
  show wpAny _ _ (Builtin.SmallTypes.ownedTupleIsFree (.ref e) >>= _) _ _ ⟨g4,gn,dr,tk+1,os⟩
  rw [z3]
  clear q4 e3 b3 e2 b2 e1 b1 i1 z3 g3 g2 g1
  refine wpAny_bind ?_
  unfold Builtin.SmallTypes.ownedTupleIsFree
  refine wpAny_bind (wpAny_field e4 rfl (x:=.none) rfl (wpAny_pure ?_))
  simp only [if_true]
  refine wpAny_bind (wpAny_rule (wpAny_bind (wpAny_field e4 rfl (x:=old) rfl (wpAny_bind (wpAny_setField_rec e4 (by simp) fun g5 e5 b5=>?_)))))
  replace b5:Heap.SameBut e g4 g5:=b5
  replace e5:IsEnum g5 e it ((i:Int)+1) x:=e5
  show wpAny _ _ (Builtin.SmallTypes.ownedTupleHandOut (.ref e) (.ref g0.objs.size) >>= _) _ _ ⟨g5,gn,dr,tk+1,os⟩
  refine wpAny_bind ?_
  unfold Builtin.SmallTypes.ownedTupleHandOut
  refine wpAny_bind (wpAny_setField_rec e5 (by simp) fun g6 e6 b6=>?_)
  replace b6:Heap.SameBut e g5 g6:=b6
  replace e6:IsEnumOut g6 e it ((i:Int)+1) x g0.objs.size:=e6
  refine wpAny_setField_rec e6 (by simp) fun g7 e7 b7=>?_
  replace b7:Heap.SameBut e g6 g7:=b7
  replace e7:IsEnumOut g7 e it ((i:Int)+1) x g0.objs.size:=e7
  have up:∀ b o,b≠e→g4.get? b=some o→g7.get? b=some o:=fun b o h1 h2=>b7.extBut b o h1 (b6.extBut b o h1 (b5.extBut b o h1 h2))
  refine wpAny_bind (wpAny_letGo (wpAny_pure ⟨_,rfl,hQ g7 e7 ?_ (up _ _ (Nat.ne_of_gt le) t4) fun b o h1 h2 h3=>up b o h1 (k4 b o h1 h2 h3)⟩))
  obtain ⟨o,ho,hr⟩:=i4
  exact ⟨o,up it o ne.symm ho,hr⟩
theorem qmV {x old:Value} {Q:Option Value→Shared→Prop} (se:IsEnum s.heap e it i old) (si:s.heap.IsTupleIter it t i) (st:s.heap.IsTuple t zs) (hx:zs[i]?=some x) (ne:e≠it)
    (hQ:∀ g,IsEnumOut g e it ((i:Int)+1) x s.heap.objs.size→g.IsTupleIter it t (i+1)→g.get? s.heap.objs.size=some { cls:=.type "tuple", data:=.seq #[.int i s.toks,x] }→
      (∀ b o,b≠e→b≠it→s.heap.get? b=some o→g.get? b=some o)→Q (some (.ref s.heap.objs.size)) { s with heap:=g,toks:=s.toks+1 }):wpAny (model prog w) A (pyNext (.ref e)) Q E s:=by
  have ty:s.TypeIs (.ref e) "enumerate" := ⟨_,se,rfl⟩
  unfold pyNext
  exact wpAny_bind (wpAny_attempt (wpAny_callSpecial?_slot (name:=Str.ofString "__next__") ty F.slot_enumerate_next (wpAny_call_entry F.slot_enumerate_next ty F.entry_enumerate_next (qmU se si st hx ne fun g a b c k=>wpAny_pure (hQ g a b c k)) (F.args_enumerate_next_1 _))))
theorem qoe {old:Value} {Q:Option Value→Shared→Prop} (hh:A.handled=none) (se:IsEnum s.heap e it i old) (si:s.heap.IsTupleIter it t i) (st:s.heap.IsTuple t zs) (hx:zs[i]?=none)
    (hQ:∀ g,Heap.ExtBut it s.heap g→Q none { s with heap:=g }):wpAny (model prog w) A (pyNext (.ref e)) Q E s:=by
  have ty:s.TypeIs (.ref e) "enumerate" := ⟨_,se,rfl⟩
  unfold pyNext
  refine wpAny_bind (wpAny_attempt (wpAny_callSpecial?_slot (name:=Str.ofString "__next__") ty F.slot_enumerate_next (wpAny_call_entry F.slot_enumerate_next ty F.entry_enumerate_next ?_ (F.args_enumerate_next_1 _))))
  show wpAny _ _ (field (.ref e) 2 >>= _) _ _ _
  refine wpAny_bind (wpAny_field se rfl (x:=.ref it) rfl (wpAny_bind (qod hh si st hx fun g x eb ⟨o,ho,hc⟩=>?_)))
  exact wpAny_bind (wpAny_isInstance (T := "StopIteration") (b:=true) ⟨o,ho,hc⟩ isSubtype_stop (wpAny_pure (hQ _ eb)))
theorem qk9 (n:Nat) (dct:Option Addr) (sl:Array (Option Value)) :
    Meets (Builtin.«enumerate.__new__» ⟨[.type "enumerate", .ref t],[]⟩) (fun _ R s=>s.heap.get? t=some { cls:=.type "tuple", dict:=dct,data:=.seq zs n,slots:=sl }∧
      R (.ok (.ret (.ref (s.heap.push { cls:=.type "tuple_iterator", data:=.fields #[.ref t,.int 0 0] }).objs.size)))
        { s with heap:=(s.heap.push { cls:=.type "tuple_iterator", data:=.fields #[.ref t,.int 0 0] }).push { cls:=.type "enumerate", data:=.fields #[.none,.bool false,.ref s.heap.objs.size,rawInt 0,.none,.none] } }):=
  .of_wp fun prog w A R s h=>by
    obtain ⟨g0,gn,dr,tk,os⟩:=s
    obtain ⟨ht,h⟩:=h
    have hsub:=sub_enumerate
    have hT:Heap.IsTuple (Shared.heap ⟨g0,gn,dr,tk,os⟩) t zs:=⟨_,ht,rfl,n,rfl⟩
    wp_walk using wpAny_loadPart' ht
    refine wpAny_stack_any fun st=>wpAny_pure ?_
    split
    · rename_i c _ _ _ _ _
      cases (c == Value.type "enumerate") <;> (wp_walk using wpAny_loadPart' ht,wpAny_pyIter_tuple hT;exact ⟨_,rfl,h⟩)
    · wp_walk using wpAny_loadPart' ht,wpAny_pyIter_tuple hT
      exact ⟨_,rfl,h⟩
theorem qmW {Q:Value→Shared→Prop} (hT:s.heap.IsTuple t zs)
    (h:∀ g,IsEnum g (s.heap.objs.size+1) s.heap.objs.size 0 .none→g.IsTupleIter s.heap.objs.size t 0→(∀ b o,s.heap.get? b=some o→g.get? b=some o)→Q (.ref (s.heap.objs.size+1)) { s with heap:=g }) :
    wpAny (model prog w) A (call (.type "enumerate") [.ref t]) Q E s:=by
  obtain ⟨⟨c,dct,da,sl⟩,ht,hc,n,hd⟩:=hT
  replace hc:c=.type "tuple" := hc
  replace hd:da=.seq zs n:=hd
  subst hc hd
  refine callType_new F.called_enumerate (by decide) (F.typeCall_enumerate_1 _) (F.newCall_enumerate_1 _) (fun obj=>F.args_object_init_2 obj _) F.entry_enumerate_new (qk9 n dct sl) ⟨ht,?_⟩
  have z1:(s.heap.push { cls:=.type "tuple_iterator", data:=.fields #[.ref t,.int 0 0] }).objs.size=s.heap.objs.size+1:=Heap.size_push ..
  show _∧_
  rw [z1]
  have se:IsEnum ((s.heap.push { cls:=.type "tuple_iterator", data:=.fields #[.ref t,.int 0 0] }).push { cls:=.type "enumerate", data:=.fields #[.none,.bool false,.ref s.heap.objs.size,rawInt 0,.none,.none] }) (s.heap.objs.size+1) s.heap.objs.size 0 .none:=by
    have z:=Heap.get?_push_size (s.heap.push { cls:=.type "tuple_iterator", data:=.fields #[.ref t,.int 0 0] }) (o:={ cls:=.type "enumerate", data:=.fields #[.none,.bool false,.ref s.heap.objs.size,rawInt 0,.none,.none] }) rfl
    rw [z1] at z
    exact z
  exact ⟨⟨_,se,rfl⟩,h _ se ⟨_,Heap.get?_push_of_some _ (Heap.get?_push_size _ rfl),rfl,rfl⟩ fun b o x=>Heap.get?_push_of_some _ (Heap.get?_push_of_some _ x)⟩
end
section
variable {X:Cx} {pins:List (Addr×Obj)} {σ:L2.St} {H:Hp} {s:Shared}
theorem ql8 {e it:Addr} {g:Heap} {tk:Nat} {xs:List V} {its:List Value} (I:Inv X pins σ H s) (fe:qkY X pins H e) (fi:qkY X pins H it) (k:∀ b o,b≠e→b≠it→s.heap.get? b=some o→g.get? b=some o)
    (hz:xs.length≤sizeLine) (rv:Vals xs its) (ht:g.get? s.heap.objs.size=some { cls:=.type "tuple", data:=.seq its.toArray }):Inv X pins σ (upd H s.heap.objs.size (.tup xs)) { s with heap:=g,toks:=tk }:=by
  have nT:H s.heap.objs.size=none:=I.hok.fresh (Nat.le_refl _)
  have old:∀ b o,s.heap.get? b=some o→b≠s.heap.objs.size:=fun b o q=>Nat.ne_of_lt (Heap.lt_size q)
  have tr:∀ b u,H b=some u→b≠s.heap.objs.size∧b≠e∧b≠it:=fun b u q=>⟨qav q nT,qav q fe.1,qav q fi.1⟩
  have off:∀ b,b∉[e,it]→b≠e∧b≠it:=fun b hb=>⟨fun z=>hb (by simp [z]),fun z=>hb (by simp [z])⟩
  refine I.step (g':=s.gens) (d':=s.drawn) (ch:=[e,it]) (fun b hb=>?_) (fun b o _ _ hc q _=>k b o (off b hc).1 (off b hc).2 q) (fun b o _ _ hc q _=>⟨o.slots,k b o (off b hc).1 (off b hc).2 q⟩) (fun b o _ q n=>?_) (fun b o hc q=>⟨o,k b o (off b hc).1 (off b hc).2 q⟩)
    (fun b ys q=>?_) (fun b o u q=>?_) (fun b ps q=>⟨#[],?_⟩) (fun m hm=>?_) (fun b u q=>?_) I.bare
  · have z:b=e∨b=it:=by simpa using hb
    rcases z with rfl | rfl
    · exact ⟨fe.2.2.2.1,fe.2.1,fe.2.2.2.2.1,fe.2.2.2.2.2⟩
    · exact ⟨fi.2.2.2.1,fi.2.1,fi.2.2.2.2.1,fi.2.2.2.2.2⟩
  · rw [qaC (old b o q)];exact n
  · rw [qaC (tr b _ q).1];exact q
  · rw [qaC (tr b _ q).1];exact q
  · rw [qaC (tr b _ q).1,q];simp
  · obtain ⟨o,es,ep,ho,hr⟩:=hm
    exact ⟨o,es,ep,k _ o fe.2.1.symm fi.2.1.symm ho,hr⟩
  · by_cases hb:b=s.heap.objs.size
    · subst hb
      rw [qai] at q
      cases q
      exact ⟨hz,its,rv,⟨_,ht,rfl,_,rfl⟩⟩
    · rw [qaC hb] at q
      refine (I.hok b u q).stay (fun c v hc z=>?_) (fun c z=>by rw [qaC (tr c _ z).1];exact z) fun c ys z=>by rw [qaC (tr c _ z).1];exact z
      rcases hc with y | y
      · subst y;exact k _ v (tr _ u q).2.1 (tr _ u q).2.2 z
      · exact k c v (tr c _ y).2.1 (tr c _ y).2.2 z
end
theorem qmX {P:Program} {w:World} {K:W.Frag} {elts:List Expr} {k:Nat} {pos:Pos} (a e it:Addr) (ne:e≠it):Turn P w K (.Tuple elts k pos) (qsX K a) [e,it] e (fun i h=>(∃ old,IsEnum h e it i old)∧h.IsListIter it a i) where
  mem:=by simp
  obj:=fun i h st b hb=>by
    obtain ⟨⟨old,se⟩,o,ho,c,d⟩:=st
    have z:b=e∨b=it:=by simpa using hb
    rcases z with rfl | rfl
    · exact ⟨_,se,fun v z=>nomatch z⟩
    · exact ⟨o,ho,fun v z=>by rw [d] at z;cases z⟩
  keep:=fun i h h' st kk=>⟨let ⟨old,se⟩:=st.1;⟨old,kk e (by simp) _ se⟩,st.2.at fun o q=>kk it (by simp) o q⟩
  item:=by
    intro X hP hw hK hc i pins s σ H E I hf st hg
    subst hP hw hK
    obtain ⟨xs,x,hq,hx⟩:=hg
    obtain ⟨⟨old,se⟩,si⟩:=st
    obtain ⟨its,rv,p,hz⟩:=I.list hq
    obtain ⟨u,hu,ru⟩:=rv.get hx
    refine wpAny_pyNext_enum_item se si p.isList (x:=u) (by simpa using hu) ne fun g eo gi gt _ gk=>?_
    refine ⟨_,rfl,wpAny_letOwnedTupleGo_enum eo fun g' se' sb=>?_⟩
    have I1:=ql8 (g:=g') (tk:=s.toks+1) (xs:=[.int i,x]) (its:=[.int i s.toks,u]) I (hf e (by simp)) (hf it (by simp)) (fun b o h1 h2 q=>sb.extBut b o h1 (gk b o h1 h2 q)) (sz (by simp)) (.cons ⟨_,rfl⟩ (.cons ru .nil)) (sb.extBut _ _ (Nat.ne_of_gt (Heap.lt_size se)) gt)
    refine ⟨.ref s.heap.objs.size,_,I1,rfl,⟨_,x,I.hok.fresh (Nat.le_refl _),rfl,rfl,fun ys hy=>by rw [I.list_inj hy hq];exact hx⟩,⟨⟨_,by simpa using se'⟩,gi.at fun o q=>sb.extBut it o ne.symm q⟩,fun b hb=>?_⟩
    rw [qaC]
    · exact (hf b hb).1
    · have z:b=e∨b=it:=by simpa using hb
      rcases z with rfl | rfl
      · exact Nat.ne_of_lt (Heap.lt_size se)
      · obtain ⟨o,ho,_⟩:=si;exact Nat.ne_of_lt (Heap.lt_size ho)
  done:=by
    intro X hP hw hK hc i pins s σ H E I hf st hg
    subst hP hw hK
    obtain ⟨xs,hq,hx⟩:=hg
    obtain ⟨⟨old,se⟩,si⟩:=st
    obtain ⟨its,rv,p,hz⟩:=I.list hq
    obtain ⟨f0,f1,f2,f3,f4,f5⟩:=hf it (by simp)
    have hl:=rv.length
    exact wpAny_pyNext_enum_end (I.ok.hd hc) se si p.isList (by simp;omega) fun g eb=>⟨rfl,I.turned (t':=s.toks) (fun b o hb q=>eb b o hb q) f0 f1 f3 f4 f5⟩
  self:=fun _ _ _ _ _ st h=>let ⟨_,se⟩:=st.1;wpAny_pyIter_enum se h
theorem qmY {P:Program} {w:World} {K:W.Frag} {elts:List Expr} {k:Nat} {pos:Pos} (a e it:Addr) (ne:e≠it):Turn P w K (.Tuple elts k pos) (qtI K a) [e,it] e (fun i h=>(∃ old,IsEnum h e it i old)∧h.IsTupleIter it a i) where
  mem:=by simp
  obj:=fun i h st b hb=>by
    obtain ⟨⟨old,se⟩,o,ho,c,d⟩:=st
    have z:b=e∨b=it:=by simpa using hb
    rcases z with rfl | rfl
    · exact ⟨_,se,fun v z=>nomatch z⟩
    · exact ⟨o,ho,fun v z=>by rw [d] at z;cases z⟩
  keep:=fun i h h' st kk=>⟨let ⟨old,se⟩:=st.1;⟨old,kk e (by simp) _ se⟩,st.2.at fun o q=>kk it (by simp) o q⟩
  item:=by
    intro X hP hw hK hc i pins s σ H E I hf st hg
    subst hP hw hK
    obtain ⟨xs,x,hq,hx⟩:=hg
    obtain ⟨⟨old,se⟩,si⟩:=st
    obtain ⟨its,rv,p,hz⟩:=I.tuple hq
    obtain ⟨u,hu,ru⟩:=rv.get hx
    refine qmV se si (show s.heap.IsTuple a its.toArray from p) (x:=u) (by simpa using hu) ne fun g eo gi gt gk=>?_
    refine ⟨_,rfl,wpAny_letOwnedTupleGo_enum eo fun g' se' sb=>?_⟩
    have I1:=ql8 (g:=g') (tk:=s.toks+1) (xs:=[.int i,x]) (its:=[.int i s.toks,u]) I (hf e (by simp)) (hf it (by simp)) (fun b o h1 h2 q=>sb.extBut b o h1 (gk b o h1 h2 q)) (sz (by simp)) (.cons ⟨_,rfl⟩ (.cons ru .nil)) (sb.extBut _ _ (Nat.ne_of_gt (Heap.lt_size se)) gt)
    refine ⟨.ref s.heap.objs.size,_,I1,rfl,⟨_,x,I.hok.fresh (Nat.le_refl _),rfl,rfl,fun ys hy=>by rw [I.tuple_inj hy hq];exact hx⟩,⟨⟨_,by simpa using se'⟩,gi.at fun o q=>sb.extBut it o ne.symm q⟩,fun b hb=>?_⟩
    rw [qaC]
    · exact (hf b hb).1
    · have z:b=e∨b=it:=by simpa using hb
      rcases z with rfl | rfl
      · exact Nat.ne_of_lt (Heap.lt_size se)
      · obtain ⟨o,ho,_⟩:=si;exact Nat.ne_of_lt (Heap.lt_size ho)
  done:=by
    intro X hP hw hK hc i pins s σ H E I hf st hg
    subst hP hw hK
    obtain ⟨xs,hq,hx⟩:=hg
    obtain ⟨⟨old,se⟩,si⟩:=st
    obtain ⟨its,rv,p,hz⟩:=I.tuple hq
    obtain ⟨f0,f1,f2,f3,f4,f5⟩:=hf it (by simp)
    have hl:=rv.length
    exact qoe (I.ok.hd hc) se si (show s.heap.IsTuple a its.toArray from p) (by simp;omega) fun g eb=>⟨rfl,I.turned (t':=s.toks) (fun b o hb q=>eb b o hb q) f0 f1 f3 f4 f5⟩
  self:=fun _ _ _ _ _ st h=>let ⟨_,se⟩:=st.1;wpAny_pyIter_enum se h
section
variable {X:Cx} {elts:List Expr} {k:Nat} {tpos:Pos} {a:Expr} {ta:TA} {p pos:Pos}
theorem qpT (hg:Gl X "enumerate") (hm:X.mg "enumerate" = none) (ha:PA X [a] ta) (hs:starEach [a] X.env=[(false,eval a X.env)]:=by rfl):PI X (.Tuple elts k tpos) (.Call (.Name "enumerate" p) [a] [] pos) (ql5 X.K ta):=by
  intro pins s σ H R I h
  refine Call_ (qd7 I hg hm qgq (PyProof.Rows.callWith_type1 (thn (ha pos pins s σ H _ I h) fun us s1 ⟨vs,H1,I1,r1,q1⟩=>?_) hs rfl))
  obtain ⟨b,rfl,⟨xs,hq⟩,q⟩:=q1
  obtain ⟨u,rfl,ru⟩:=qfR r1
  cases ru
  obtain ⟨its,rv,pl,hz⟩:=I1.list hq
  refine call_enumerate_list pl.isList fun g se si _ gk=>?_
  have I2:Inv X pins σ H1 { s1 with heap:=g }:=I1.kept (t':=s1.toks) gk
  refine wpAny_pyIter_enum se ⟨_,[s1.heap.objs.size+1,s1.heap.objs.size],_,_,H1,rfl,I2,qmX b _ _ (Nat.succ_ne_self _),⟨⟨_,se⟩,si⟩,fun c hc=>?_,q⟩
  have z:c=s1.heap.objs.size+1∨c=s1.heap.objs.size:=by simpa using hc
  rcases z with rfl | rfl
  · exact I1.fpOk (Nat.le_succ _) (I1.hok.fresh (Nat.le_succ _))
  · exact I1.fpOk (Nat.le_refl _) (I1.hok.fresh (Nat.le_refl _))
theorem ql9 (hg:Gl X "enumerate") (hm:X.mg "enumerate" = none) (ha:PA X [a] ta) (hs:starEach [a] X.env=[(false,eval a X.env)]:=by rfl):PI X (.Tuple elts k tpos) (.Call (.Name "enumerate" p) [a] [] pos) (ql6 X.K ta):=by
  intro pins s σ H R I h
  refine Call_ (qd7 I hg hm qgq (PyProof.Rows.callWith_type1 (thn (ha pos pins s σ H _ I h) fun us s1 ⟨vs,H1,I1,r1,q1⟩=>?_) hs rfl))
  obtain ⟨b,rfl,⟨xs,hq⟩,q⟩:=q1
  obtain ⟨u,rfl,ru⟩:=qfR r1
  cases ru
  obtain ⟨its,rv,pl,hz⟩:=I1.tuple hq
  refine qmW (show s1.heap.IsTuple b its.toArray from pl) fun g se si gk=>?_
  have I2:Inv X pins σ H1 { s1 with heap:=g }:=I1.kept (t':=s1.toks) gk
  refine wpAny_pyIter_enum se ⟨_,[s1.heap.objs.size+1,s1.heap.objs.size],_,_,H1,rfl,I2,qmY b _ _ (Nat.succ_ne_self _),⟨⟨_,se⟩,si⟩,fun c hc=>?_,q⟩
  have z:c=s1.heap.objs.size+1∨c=s1.heap.objs.size:=by simpa using hc
  rcases z with rfl | rfl
  · exact I1.fpOk (Nat.le_succ _) (I1.hok.fresh (Nat.le_succ _))
  · exact I1.fpOk (Nat.le_refl _) (I1.hok.fresh (Nat.le_refl _))
end
end Bs
namespace Bs
open PySem L2
mutual
inductive RepD (H:Hp):V→PySem.W.Dat→Prop
  | non:RepD H .non .none
  | int (i:Int):RepD H (.int i) (.int i)
  | tup {p:Addr} {xs:List V} {ds:List PySem.W.Dat} (h:H p=some (.tup xs)) (r:RepA H xs ds):RepD H (.ref p) (.tuple ds)
  | lst {p:Addr} {xs:List V} {ds:List PySem.W.Dat} (h:H p=some (.lst xs)) (r:RepA H xs ds):RepD H (.ref p) (.list ds)
inductive RepA (H:Hp):List V→List PySem.W.Dat→Prop
  | nil:RepA H [] []
  | cons {x:V} {xs:List V} {d:PySem.W.Dat} {ds:List PySem.W.Dat} (h:RepD H x d) (r:RepA H xs ds):RepA H (x::xs) (d::ds)
end
noncomputable def eqD:R2:=fun x y H Q=>∃ (d e:PySem.W.Dat) (b:Bool),RepD H x d∧RepD H y e∧PySem.W.kqdOk 8 d=true∧PySem.W.kqdOk 8 e=true∧(b=true↔d=e)∧Q (.bl b) H
noncomputable def qgC (te:TE):TT:=fun σ H Q=>te σ H fun x H'=>∃ p xs,x=.ref p∧H' p=some (.lst xs)∧Q (!xs.isEmpty) H'
noncomputable def qsY (te:TE):TT:=fun σ H Q=>te σ H fun x H'=>∃ p xs,x=.ref p∧H' p=some (.tup xs)∧Q (!xs.isEmpty) H'
noncomputable def sL:V→Option Int→Option Int→Hp→VK→Prop:=fun x lo hi H Q=>∃ a xs,x=.ref a∧H a=some (.lst xs)∧∀ p,H p=none→Q (.ref p) (upd H p (.lst (qjP xs lo hi)))
noncomputable def qmZ:List V→Hp→VK→Prop:=fun xs H Q=>∃ p ys,xs=[.ref p]∧H p=some (.lst ys)∧∀ l,H l=none→Q (.ref l) (upd H l (.tup ys))
noncomputable def qqR:List V→Hp→VK→Prop:=fun xs H Q=>∃ p ys,xs=[.ref p]∧H p=some (.tup ys)∧∀ l,H l=none→Q (.ref l) (upd H l (.lst ys))
noncomputable def qkd:List V→Hp→VK→Prop:=fun xs H Q=>∃ p ys,xs=[.ref p]∧H p=some (.lst ys)∧∀ l,H l=none→Q (.ref l) (upd H l (.lst ys))
end Bs
namespace Bs
open PySem PySem.Spec PyProof.Rows L2
section
variable {X:Cx} {pins:List (Addr×Obj)} {σ:L2.St} {H:Hp} {s:Shared}
mutual
theorem qfi (I:Inv X pins σ H s):∀ {x:V} {d:PySem.W.Dat} {u:Value},RepD H x d→RelV x u→∃ as,Reads s.heap u (PySem.W.kqdP d) as
  | _,_,_,.non,e=>by cases e;rw [PySem.W.kqdP];exact ⟨_,Reads.none⟩
  | _,_,_,.int i,⟨t,e⟩=>by subst e;rw [PySem.W.kqdP];exact ⟨_,Reads.int i t⟩
  | _,_,_,.tup h r,e=>by
    cases e
    obtain ⟨its,rv,p,_⟩:=I.tuple (SqT.of h)
    obtain ⟨as,q⟩:=qi7 I r rv
    obtain ⟨o,ho,hc,n,hd⟩:=p
    rw [PySem.W.kqdP]
    exact ⟨as,reads_tuple_at ho hc hd (by simpa using q)⟩
  | _,_,_,.lst h r,e=>by
    cases e
    obtain ⟨its,rv,p,_⟩:=I.list (SqL.of h)
    obtain ⟨as,q⟩:=qi7 I r rv
    obtain ⟨o,n,ho,hc,_,hd⟩:=p
    rw [PySem.W.kqdP]
    exact ⟨_,reads_list_at ho hc hd (by simpa using q)⟩
theorem qi7 (I:Inv X pins σ H s):∀ {xs:List V} {ds:List PySem.W.Dat} {us:List Value},RepA H xs ds→Vals xs us→∃ as,ReadsAll s.heap us (PySem.W.kqdPs ds) as
  | _,_,_,.nil,.nil=>by rw [PySem.W.kqdPs];exact ⟨_,ReadsAll.nil⟩
  | _,_,_,.cons h r,.cons e es=>by
    obtain ⟨as,q⟩:=qfi I h e
    obtain ⟨bs,q2⟩:=qi7 I r es
    rw [PySem.W.kqdPs]
    exact ⟨_,ReadsAll.cons q q2⟩
end
theorem qke {d:PySem.W.Dat} (h:PySem.W.kqdOk 8 d=true):SeqAt.shaped (PySem.W.kqdP d)=true:=by
  have z:=PySem.W.kqd_lay 8 d h
  unfold SeqAt.shaped
  rw [z.1,Bool.true_and]
  exact decide_eq_true (Nat.le_trans z.2 (by decide))
theorem qsZ {d e:PySem.W.Dat} {b:Bool} (h1:PySem.W.kqdOk 8 d=true) (h2:PySem.W.kqdOk 8 e=true) (hb:b=true↔d=e):PyData.eqv (PySem.W.kqdP d) (PySem.W.kqdP e)=b:=by
  rw [Bool.eq_iff_iff,hb]
  exact PySem.W.kqd_eqv 8 d e 8 h1 h2
theorem qma (hu:X.A.units+64<cLine):OpR X (compareOp .Eq) eqD:=by
  intro pins s σ H x y v u Q I rx ry h
  obtain ⟨d,e,b,r1,r2,k1,k2,hb,q⟩:=h
  obtain ⟨as,q1⟩:=qfi I r1 rx
  obtain ⟨bs,q2⟩:=qfi I r2 ry
  exact eq_dataH q1 q2 (qke k1) (qke k2) hu (by rw [qsZ k1 k2 hb];exact ⟨.bl b,H,I,rfl,q⟩)
theorem qe3 {a:Expr} {ta:TE} (ha:PE X a ta) (he:∀ whole,isTrue a X.env whole=(do let v ← whole;standAt a.pos;holding [v] (truthy v))):PT X a (qgC ta):=fun pins s σ H Q I h=>
  isTrue_plain (thn (ha pins s σ H _ I h) fun v s1 ⟨x,H1,I1,r1,q1⟩=>by
    obtain ⟨p,xs,e,hp,q⟩:=q1
    subst e
    exact qsK pins s1 σ H1 _ v Q I1 r1 ⟨_,.inl ⟨xs,SqL.of hp,rfl⟩,q⟩) (he _)
theorem qhb:SlR X sL:=by
  intro pins s σ H x v vl vu lo hi sl Q I rx hs pl pu h
  obtain ⟨a,xs,e,ha,q⟩:=h
  exact qrq pins s σ H x v vl vu lo hi sl Q I rx hs pl pu ⟨a,xs,e,SqL.of ha,q⟩
theorem qhc:qdg X (.type "tuple") qmZ:=fun pins s σ H xs us Q I r h=>by
  obtain ⟨p,ys,e,hp,q⟩:=h
  exact qiS pins s σ H xs us Q I r ⟨p,ys,e,.inl ⟨SqL.of hp,q⟩⟩
theorem qix:qdg X (.type "list") qkd:=fun pins s σ H xs us Q I r h=>by
  obtain ⟨p,ys,e,hp,q⟩:=h
  exact qj1 pins s σ H xs us Q I r ⟨p,ys,e,.inl (SqL.of hp),q⟩
theorem qi8:PGet X gL:=by
  intro pins s σ H o i ov iv Q I ro ri h
  obtain ⟨p,k,xs,v,rfl,rfl,hp,ha,q⟩:=h
  cases ro
  obtain ⟨t,rfl⟩:=ri
  obtain ⟨its,r,pl,hz⟩:=I.list (SqL.of hp)
  obtain ⟨j,h1,h2,h3,h4,h5⟩:=qk1 ha
  obtain ⟨w,ew,rw'⟩:=r.get h2
  have hl:=r.length
  have hn:=qir
  have fin:EP X pins σ Q w s:=⟨v,H,I,rw',q⟩
  by_cases h0:0≤k
  · have hj:k.toNat=j:=by
      rw [seqIndex_of h0 h5] at h1
      exact Option.some.inj h1
    exact wpAny_getItem_list pl.isList h0 (by omega) (by rw [hj];simpa using ew) fin
  · have hj:(k+(its.toArray.size:Int)).toNat=j:=by
      rw [seqIndex_neg (by omega) h4] at h1
      rw [List.size_toArray,← hl]
      exact Option.some.inj h1
    exact wpAny_getItem_list_neg pl.isList (by omega) (by rw [List.size_toArray] <;> omega) (by omega) (by rw [hj];simpa using ew) fin
theorem qrv {K:W.Frag} {p:Addr} {xs:List V} (h:H p=some (.lst xs)):tyV K "list" (.ref p) H:=.inl ⟨rfl,xs,SqL.of h⟩
end
end Bs
namespace Bs
open PySem L2
noncomputable def qfj (n:Nat) (t:TGs):TG:=fun v σ H Q=>∃ a xs,v=.ref a∧H a=some (.tup xs)∧xs.length=n∧t xs σ H Q
end Bs
namespace Bs
open PySem PySem.Spec PyProof.Rows L2
theorem qdw {X:Cx} {es:List Expr} {k:Nat} {pos:Pos} {t:TGs} {n:Nat} (hc:X.calm=true) (h:PGs X es t)
    (hn:(assignEach es X.env).length=n:=by rfl) (hst:(assignEach es X.env).findIdx? (·.1)=none:=by rfl):PG X (.Tuple es k pos) (qfj n t):=fun pins s σ H v u Q I r q=>by
  obtain ⟨a,xs,e,ha,hl,q⟩:=q
  exact qsI hc h hn hst pins s σ H v u Q I r ⟨a,xs,e,SqT.of ha,hl,q⟩
theorem qof {X:Cx}:OpR X (inplaceOp .FloorDiv) qj7:=opI fun i j _ _ _ _ _ hc q=>by
  refine ifloordiv_int (Int.ne_of_gt hc.1) ?_ (.inl (PyProof.noPylong_of_log2 (hc.2.log2 (by decide))))
  rw [Int.fdiv_eq_ediv_of_nonneg i (Int.le_of_lt hc.1)]
  exact q
end Bs
namespace Bs
open PySem L2
noncomputable def sT:V→Option Int→Option Int→Hp→VK→Prop:=fun x lo hi H Q=>∃ a xs,x=.ref a∧H a=some (.tup xs)∧∀ p H',(H'=H∧p=a∧qjP xs lo hi=xs)∨(H p=none∧H'=upd H p (.tup (qjP xs lo hi)))→Q (.ref p) H'
end Bs
namespace HT
open PySem PySem.Spec PyProof.Rows
end HT
namespace Bs
open PySem PySem.Spec PyProof.Rows L2
end Bs
namespace Bs
open PySem L2
noncomputable def Itd (lo:Int) (n:Nat):It:=⟨fun i _=>i<n,fun i H x H'=>H'=H∧x=.int (lo - i),fun i _=>n≤i⟩
noncomputable def Itv (K:W.Frag) (a:Addr) (n:Nat):It:=⟨fun i H=>i<n∧∃ xs,SqL K H a xs∧xs.length=n,fun i H x H'=>H'=H∧∀ xs,SqL K H a xs→xs[n - 1 - i]?=some x,fun i _=>n=i⟩
noncomputable def qm0 (ta:TA):TI:=fun σ H R=>ta σ H fun vs H1=>∃ i j:Int,vs=[.int i,.int j,.int (-1)]∧(-(2 ^ 62)≤i∧i<2 ^ 62∧-(2 ^ 62)≤j∧j<2 ^ 62)∧R (Itd i (i - j).toNat) H1
noncomputable def quD (K:W.Frag) (ta:TA):TI:=fun σ H R=>ta σ H fun vs H1=>∃ a xs,vs=[.ref a]∧SqL K H1 a xs∧R (Itv K a xs.length) H1
section
variable {K:W.Frag} {ta:TA} {g:TG} {tb:TS} {D:Ends} {σ:L2.St} {H:Hp} {a:Addr} {xs:List V}
theorem qi9:qfQ (qm0 ta) g tb D σ H=ta σ H (fun vs H1=>∃ i j:Int,vs=[.int i,.int j,.int (-1)]∧(-(2 ^ 62)≤i∧i<2 ^ 62∧-(2 ^ 62)≤j∧j<2 ^ 62)∧ForJ (Itd i (i - j).toNat) g tb D σ H1):=rfl
theorem qog:qfQ (quD K ta) g tb D σ H=ta σ H (fun vs H1=>∃ a xs,vs=[.ref a]∧SqL K H1 a xs∧ForJ (Itv K a xs.length) g tb D σ H1):=rfl
theorem ForJ.down {lo:Int} {n:Nat} (Pv:Nat→L2.St→Hp→Prop) (h0:Pv 0 σ H)
    (hs:∀ i σ H,i<n→Pv i σ H→g (.int (lo - i)) σ H fun σ2 H2=>tb { D with nx:=Pv (i+1),ct:=Pv (i+1),bk:=D.nx } σ2 H2) (hd:∀ σ H,Pv n σ H→D.nx σ H):ForJ (Itd lo n) g tb D σ H:=by
  refine ⟨fun i m σ H=>m=n - i∧i≤n∧Pv i σ H,⟨n,by simp,Nat.zero_le _,h0⟩,?_⟩
  rintro i m σ H ⟨rfl,hi,pv⟩
  by_cases lt:i<n
  · refine .inr ⟨lt,Pv (i+1),fun σ' H' p'=>⟨n - (i+1),by omega,rfl,lt,p'⟩,fun x H' y=>?_⟩
    obtain ⟨e,y⟩:=y
    subst e y
    exact hs i σ _ lt pv
  · have e:i=n:=by omega
    subst e
    exact .inl ⟨Nat.le_refl _,hd σ H pv⟩
end
end Bs
namespace Bs
open PySem PySem.Spec PyProof.Rows L2
theorem qoh {P:Program} {w:World} {K:W.Frag} {tg:Expr} (it:Addr) (lo:Int) (n:Nat):Turn P w K tg (Itd lo n) [it] it (fun i h=>IsRangeIter h it (lo+(i:Nat)*(-1)) ((n:Int) - (i:Nat)) (-1)) where
  mem:=by simp
  obj:=fun i h st b hb=>by
    have e:b=it:=by simpa using hb
    subst e
    exact ⟨_,st,fun v z=>by
      have z':Data.fields _=Data.cell v:=z
      cases z'⟩
  keep:=fun i h h' st k=>k it (by simp) _ st
  item:=by
    intro X hP hw hK hc i pins s σ H E I hf st hg
    subst hP hw hK
    obtain ⟨f0,f1,f2,f3,f4,f5⟩:=hf it (by simp)
    have W:=Walks.range (prog:=X.prog) (w:=X.w) (I.ok.hd hc) it lo (-1) n
    refine W.item i s _ _ hg st fun v h' tk hv st' kk=>?_
    obtain ⟨t,rfl⟩:=hv
    have I1:Inv X pins σ H { s with heap:=h',toks:=tk }:=I.turned (fun b o hb e=>kk b o (by simpa using hb) e) f0 f1 f3 f4 f5
    refine ⟨_,rfl,qpN (s:={ s with heap:=h',toks:=tk }) (n := "range_iterator") st' rfl rfl (by decide) ⟨.int (lo - i),H,I1,⟨t,?_⟩,⟨rfl,rfl⟩,st',fun b hb=>(hf b hb).1⟩⟩
    rw [show lo+(i:Int)*(-1)=lo - i by omega]
  done:=by
    intro X hP hw hK hc i pins s σ H E I hf st hg
    subst hP hw hK
    obtain ⟨f0,f1,f2,f3,f4,f5⟩:=hf it (by simp)
    exact wpAny_pyNext_range_end (I.ok.hd hc) st (by have:n≤i:=hg;omega) fun h' eb=>⟨rfl,I.turned (t':=s.toks) (fun b o hb e=>eb b o hb e) f0 f1 f3 f4 f5⟩
  self:=fun _ _ _ _ _ st h=>wpAny_pyIter_rangeiter st h
theorem qkf (a b:Int):Builtin.Range.rangeSize a b (-1)=if b<a then a - b else 0:=by
  unfold Builtin.Range.rangeSize
  simp only [show ¬ ((-1:Int) > 0) by decide,if_false,Int.neg_neg,Int.ediv_one]
  split <;> omega
theorem qm1 {a b:Int} (ha:-(2 ^ 62)≤a) (ha':a<2 ^ 62) (hb:-(2 ^ 62)≤b) (hb':b<2 ^ 62):Builtin.Range.small a b (-1)=true:=by
  unfold Builtin.Range.small
  rw [qkf]
  simp only [Builtin.Range.rangeFitsLong,Bool.and_eq_true,Bool.or_eq_true,decide_eq_true_eq,beq_iff_eq,show ¬ ((-1:Int) > 0) by decide,if_false]
  split <;> omega
theorem qfk {X:Cx} {tg:Expr} {a b c:Expr} {ta:TA} {p pos:Pos} (hg:Gl X "range") (hm:X.mg "range" = none) (ha:PA X [a,b,c] ta) (hs:starEach [a,b,c] X.env=[(false,eval a X.env),(false,eval b X.env),(false,eval c X.env)]:=by rfl) (hs2:starEach [b,c] X.env=[(false,eval b X.env),(false,eval c X.env)]:=by rfl) :
    PI X tg (.Call (.Name "range" p) [a,b,c] [] pos) (qm0 ta):=by
  intro pins s σ H R I h
  refine Call_ (qd7 I hg hm boot_range (PyProof.Rows.callWith_type1 (thn (ha pos pins s σ H _ I h) fun us s1 ⟨vs,H1,I1,r1,q1⟩=>?_) (by rw [hs,hs2]) (by rw [hs2];rfl)))
  obtain ⟨i,j,e,⟨q1,q2,q3,q4⟩,q⟩:=q1
  subst e
  cases r1 with
  | cons r rr=>
    cases rr with
    | cons r' rr=>
      cases rr with
      | cons r'' rr=>
        cases rr
        obtain ⟨t,rfl⟩:=r
        obtain ⟨t',rfl⟩:=r'
        obtain ⟨t'',rfl⟩:=r''
        refine call_range_3 (by decide) ?_ (.inl (PyProof.noPylong_small (by decide)))
        refine wpAny_pyIter_range (IsRange.new ..) (qm1 q1 q2 q3 q4) ?_
        have I2:Inv X pins σ H1 { s1 with heap:=s1.heap.push { cls:=.type "range", data:=.fields #[.int i t,.int j t',.int (-1) t''] },toks:=s1.toks }:=I1.kept fun b o e=>Heap.get?_push_of_some _ e
        refine ⟨(s1.heap.push { cls:=.type "range", data:=.fields #[.int i t,.int j t',.int (-1) t''] }).objs.size,[(s1.heap.push { cls:=.type "range", data:=.fields #[.int i t,.int j t',.int (-1) t''] }).objs.size],_,_,H1,rfl,
          I2.kept (t':=s1.toks) fun b o e=>Heap.get?_push_of_some _ e,qoh _ i (i - j).toNat,?_,fun b hb=>?_,q⟩
        · have e1:i+((0:Nat):Int)*(-1)=i:=by simp
          have e2:(((i - j).toNat:Nat):Int) - ((0:Nat):Int)=Builtin.Range.rangeSize i j (-1):=by rw [qkf];split <;> omega
          show IsRangeIter _ _ (i+((0:Nat):Int)*(-1)) ((((i - j).toNat:Nat):Int) - ((0:Nat):Int)) (-1)
          rw [e1,e2]
          exact Heap.get?_push_size _ rfl
        · have e:b=(s1.heap.push { cls:=.type "range", data:=.fields #[.int i t,.int j t',.int (-1) t''] }).objs.size:=by simpa using hb
          subst e
          exact I2.fpOk (Nat.le_refl _) (I2.hok.fresh (Nat.le_refl _))
end Bs
namespace Bs
open PySem L2
noncomputable def qtJ:R2:=fun x y H Q=>y=.non∧Q (.bl (decide (x=.non))) H
noncomputable def qrw:R2:=fun x y H Q=>y=.non∧Q (.bl (!decide (x=.non))) H
noncomputable def qtT (_ j:Int):Prop:=0<j
noncomputable def qs0 (_ j:Int):Prop:=j≠0
noncomputable abbrev qhd:R2:=rI qtT fun i j=>.int (i / j)
noncomputable abbrev qgD:R2:=rI qs0 fun i j=>.int (i.fdiv j)
noncomputable def Itz (K:W.Frag) (a b:Addr):It:=
  ⟨fun i H=>∃ xs ys x y,SqL K H a xs∧SqL K H b ys∧xs[i]?=some x∧ys[i]?=some y,fun i H v H'=>∃ p x y,H p=none∧v=.ref p∧H'=upd H p (.tup [x,y])∧(∀ xs,SqL K H a xs→xs[i]?=some x)∧∀ ys,SqL K H b ys→ys[i]?=some y,fun i H=>∃ xs ys,SqL K H a xs∧SqL K H b ys∧xs.length≤i⟩
noncomputable def qtU (K:W.Frag) (ta:TA):TI:=fun σ H R=>ta σ H fun vs H1=>∃ a b,vs=[.ref a,.ref b]∧(∃ xs,SqL K H1 a xs)∧(∃ ys,SqL K H1 b ys)∧R (Itz K a b) H1
noncomputable def qiy (wi:TI) (capt:List (Option Nat)) (g:TG) (tc:TT) (te:TE):TE:=fun σ H Q=>wi σ H fun J H1=>∃ (n:Nat) (W:Nat→List V→Hp→Prop),W 0 [] H1∧∀ i ys H,W i ys H→i≤n∧ys.length≤sizeLine∧
  ((J.stop i H∧∀ p,H p=none→Q (.ref p) (upd H p (.lst ys)))∨(i<n∧J.go i H∧∀ x H',J.yld i H x H'→g x (qdv capt σ) H' fun σ2 H2=>tc σ2 H2 fun b H3=>if b=true then te σ2 H3 fun y H4=>W (i+1) (ys++[y]) H4 else W (i+1) ys H3))
noncomputable def CompF (J:It) (capt:List (Option Nat)) (g:TG) (tc:TT) (te:TE) (σ:L2.St) (Q:VK) (H1:Hp):Prop:=∃ (n:Nat) (W:Nat→List V→Hp→Prop),W 0 [] H1∧∀ i ys H,W i ys H→i≤n∧ys.length≤sizeLine∧
  ((J.stop i H∧∀ p,H p=none→Q (.ref p) (upd H p (.lst ys)))∨(i<n∧J.go i H∧∀ x H',J.yld i H x H'→g x (qdv capt σ) H' fun σ2 H2=>tc σ2 H2 fun b H3=>if b=true then te σ2 H3 fun y H4=>W (i+1) (ys++[y]) H4 else W (i+1) ys H3))
section
variable {K:W.Frag} {ta:TA} {tl:TE} {capt:List (Option Nat)} {g:TG} {tc:TT} {te:TE} {tb:TS} {D:Ends} {σ:L2.St} {H:Hp} {Q:VK} {a b:Addr} {xs ys:List V}
theorem qmb:qiy (qdB K tl) capt g tc te σ H Q=tl σ H (fun x H1=>∃ a,x=.ref a∧(∃ xs,SqL K H1 a xs)∧CompF (Itl K a) capt g tc te σ Q H1):=rfl
theorem qoi:qco (qtU K ta) capt g te σ H Q=ta σ H (fun vs H1=>∃ a b,vs=[.ref a,.ref b]∧(∃ xs,SqL K H1 a xs)∧(∃ ys,SqL K H1 b ys)∧CompJ (Itz K a b) capt g te σ Q H1):=rfl
theorem CompF.lst (W:Nat→List V→Hp→Prop) (h0:W 0 [] H) (hb:∀ i ys H,W i ys H→i≤xs.length∧ys.length≤sizeLine∧SqL K H a xs)
    (hs:∀ i x ys H,xs[i]?=some x→W i ys H→g x (qdv capt σ) H fun σ2 H2=>tc σ2 H2 fun b H3=>if b=true then te σ2 H3 fun y H4=>W (i+1) (ys++[y]) H4 else W (i+1) ys H3) (hd:∀ ys H,W xs.length ys H→∀ p,H p=none→Q (.ref p) (upd H p (.lst ys))):CompF (Itl K a) capt g tc te σ Q H:=by
  refine ⟨xs.length,W,h0,fun i ys H w=>⟨(hb i ys H w).1,(hb i ys H w).2.1,?_⟩⟩
  have q:SqL K H a xs:=(hb i ys H w).2.2
  by_cases h:i<xs.length
  · refine .inr ⟨h,⟨xs,xs[i],q,by simp [h]⟩,fun x H' y=>?_⟩
    obtain ⟨e,y⟩:=y
    subst e
    exact hs i x ys _ (y xs q) w
  · have e:i=xs.length:=Nat.le_antisymm (hb i ys H w).1 (Nat.not_lt.mp h)
    subst e
    exact .inl ⟨⟨xs,q,Nat.le_refl _⟩,hd ys H w⟩
theorem CompJ.zip (hl:xs.length=ys.length) (W:Nat→List V→Hp→Prop) (h0:W 0 [] H) (hb:∀ i zs H,W i zs H→i≤xs.length∧zs.length≤sizeLine∧SqL K H a xs∧SqL K H b ys)
    (hs:∀ i x y zs H p,xs[i]?=some x→ys[i]?=some y→W i zs H→H p=none→g (.ref p) (qdv capt σ) (upd H p (.tup [x,y])) fun σ2 H2=>te σ2 H2 fun z H3=>W (i+1) (zs++[z]) H3) (hd:∀ zs H,W xs.length zs H→∀ p,H p=none→Q (.ref p) (upd H p (.lst zs))):CompJ (Itz K a b) capt g te σ Q H:=by
  refine ⟨xs.length,W,h0,fun i zs H w=>⟨(hb i zs H w).1,(hb i zs H w).2.1,?_⟩⟩
  obtain ⟨_,_,q,q2⟩:=hb i zs H w
  by_cases h:i<xs.length
  · refine .inr ⟨h,⟨xs,ys,xs[i],ys[i],q,q2,by simp [h],by simp [hl ▸ h]⟩,fun v H' y=>?_⟩
    obtain ⟨p,x,y,hp,e1,e2,h1,h2⟩:=y
    subst e1 e2
    exact hs i x y zs _ p (h1 xs q) (h2 ys q2) w hp
  · have e:i=xs.length:=Nat.le_antisymm (hb i zs H w).1 (Nat.not_lt.mp h)
    subst e
    exact .inl ⟨⟨xs,ys,q,q2,Nat.le_refl _⟩,hd zs H w⟩
end
noncomputable def qrx:V→Hp→VK→Prop:=fun x H Q=>∃ (p:Addr) (ns:List Int),x=.ref p∧H p=some (.lst (ns.map V.int))∧∀ m:Int,(ns=[]∧m=0∨m∈ns)→Q (.int m) H
noncomputable def qpU (te:TE):TE:=fun σ H Q=>te σ H fun x H1=>qrx x H1 Q
noncomputable def qpV:List V→Hp→VK→Prop:=fun xs H Q=>∃ (p:Addr) (ns:List Int),xs=[.ref p]∧H p=some (.lst (ns.map V.int))∧Q (.bl (ns.any fun z=>!decide (z=0))) H
end Bs
namespace Bs
open PySem PySem.Spec PyProof.Rows L2
section
variable {X:Cx} {pins:List (Addr×Obj)} {σ:L2.St} {H:Hp} {s:Shared}
theorem qcP:OpR X (binaryOp .FloorDiv) qgD:=by
  intro pins s σ H x y v u Q I rx ry ⟨i,j,ex,ey,hc,q⟩
  subst ex ey
  obtain ⟨t,rfl⟩:=rx
  obtain ⟨t2,rfl⟩:=ry
  exact floordiv_int hc ⟨.int (i.fdiv j),H,I.tok _,⟨_,rfl⟩,q⟩ (Or.inr (I.ok.plr s I.bk))
theorem qeB:OpR X (binaryOp .FloorDiv) qhd:=by
  intro pins s σ H x y v u Q I rx ry ⟨i,j,ex,ey,hc,q⟩
  have hc':0<j:=hc
  replace q:Q (.int (i / j)) H:=q
  rw [← Int.fdiv_eq_ediv_of_nonneg i (Int.le_of_lt hc')] at q
  exact qcP pins s σ H x y v u Q I rx ry ⟨i,j,ex,ey,Int.ne_of_gt hc',q⟩
theorem qoj {fp:List Addr} {g:Heap} {tk:Nat} (I:Inv X pins σ H s) (ff:∀ b∈fp,qkY X pins H b) (k:∀ b o,b∉fp→s.heap.get? b=some o→g.get? b=some o):Inv X pins σ H { s with heap:=g,toks:=tk }:=by
  have tr:∀ b u,H b=some u→b∉fp:=fun b u q hb=>by rw [(ff b hb).1] at q;cases q
  refine I.step (g':=s.gens) (d':=s.drawn) (ch:=fp) (fun b hb=>⟨(ff b hb).2.2.2.1,(ff b hb).2.1,(ff b hb).2.2.2.2.1,(ff b hb).2.2.2.2.2⟩) (fun b o _ _ hc q _=>k b o hc q) (fun b o _ _ hc q _=>⟨o.slots,k b o hc q⟩) (fun _ _ _ _ n=>n)
    (fun b o hc q=>⟨o,k b o hc q⟩) (fun _ _ q=>q) (fun _ _ _ q=>q) (fun b ps q=>⟨#[],by rw [q];simp⟩) (fun m hm=>?_) (fun b u q=>?_) I.bare
  · obtain ⟨o,es,ep,ho,hr⟩:=hm
    exact ⟨o,es,ep,k _ o (fun hb=>(ff _ hb).2.1 rfl) ho,hr⟩
  · refine (I.hok b u q).stay (fun c v hc z=>?_) (fun _ z=>z) fun _ _ z=>z
    rcases hc with y | y
    · subst y;exact k _ v (tr _ u q) z
    · exact k c v (tr c _ y) z
theorem qok {fp:List Addr} {g:Heap} {tk:Nat} {xs:List V} {its:List Value} (I:Inv X pins σ H s) (ff:∀ b∈fp,qkY X pins H b) (k:∀ b o,b∉fp→s.heap.get? b=some o→g.get? b=some o)
    (hz:xs.length≤sizeLine) (rv:Vals xs its) (ht:g.get? s.heap.objs.size=some { cls:=.type "tuple", data:=.seq its.toArray }):Inv X pins σ (upd H s.heap.objs.size (.tup xs)) { s with heap:=g,toks:=tk }:=by
  have nT:H s.heap.objs.size=none:=I.hok.fresh (Nat.le_refl _)
  have tn:∀ b u,H b=some u→b≠s.heap.objs.size:=fun b u q=>qav q nT
  have tr:∀ b u,H b=some u→b∉fp:=fun b u q hb=>by rw [(ff b hb).1] at q;cases q
  refine I.step (g':=s.gens) (d':=s.drawn) (ch:=fp) (fun b hb=>⟨(ff b hb).2.2.2.1,(ff b hb).2.1,(ff b hb).2.2.2.2.1,(ff b hb).2.2.2.2.2⟩) (fun b o _ _ hc q _=>k b o hc q) (fun b o _ _ hc q _=>⟨o.slots,k b o hc q⟩) (fun b o _ q n=>?_)
    (fun b o hc q=>⟨o,k b o hc q⟩) (fun b ys q=>?_) (fun b o u q=>?_) (fun b ps q=>⟨#[],?_⟩) (fun m hm=>?_) (fun b u q=>?_) I.bare
  · rw [qaC (Nat.ne_of_lt (Heap.lt_size q))];exact n
  · rw [qaC (tn b _ q)];exact q
  · rw [qaC (tn b _ q)];exact q
  · rw [qaC (tn b _ q),q];simp
  · obtain ⟨o,es,ep,ho,hr⟩:=hm
    exact ⟨o,es,ep,k _ o (fun hb=>(ff _ hb).2.1 rfl) ho,hr⟩
  · by_cases hb:b=s.heap.objs.size
    · subst hb
      rw [qai] at q
      cases q
      exact ⟨hz,its,rv,⟨_,ht,rfl,_,rfl⟩⟩
    · rw [qaC hb] at q
      refine (I.hok b u q).stay (fun c v hc z=>?_) (fun c z=>by rw [qaC (tn c _ z)];exact z) fun c ys z=>by rw [qaC (tn c _ z)];exact z
      rcases hc with y | y
      · subst y;exact k _ v (tr _ u q) z
      · exact k c v (tr c _ y) z
end
noncomputable def qtV (a b z ti to i1 i2:Addr) (i:Nat) (h:Heap):Prop:=IsZip h z ti to .none∧IsPair h ti (.ref i1) (.ref i2)∧(∃ u v,IsPair h to u v)∧h.IsListIter i1 a i∧h.IsListIter i2 b i
theorem qpW {P:Program} {w:World} {K:W.Frag} {elts:List Expr} {k:Nat} {pos:Pos} {a b z ti to i1 i2:Addr} (D:ZipApart z ti to i1 i2 a b):Turn P w K (.Tuple elts k pos) (Itz K a b) [z,ti,to,i1,i2] z (qtV a b z ti to i1 i2) where
  mem:=by simp
  obj:=fun i h st c hc=>by
    obtain ⟨s1,s2,⟨u,v,s3⟩,⟨o4,s4,_,d4⟩,⟨o5,s5,_,d5⟩⟩:=st
    have hc':c=z∨c=ti∨c=to∨c=i1∨c=i2:=by simpa using hc
    rcases hc' with rfl | rfl | rfl | rfl | rfl
    · exact ⟨_,s1,fun v q=>nomatch q⟩
    · exact ⟨_,s2,fun v q=>nomatch q⟩
    · exact ⟨_,s3,fun v q=>nomatch q⟩
    · exact ⟨_,s4,fun v q=>by rw [d4] at q;cases q⟩
    · exact ⟨_,s5,fun v q=>by rw [d5] at q;cases q⟩
  keep:=fun i h h' st kk=>⟨kk z (by simp) _ st.1,kk ti (by simp) _ st.2.1,let ⟨u,v,q⟩:=st.2.2.1;⟨u,v,kk to (by simp) _ q⟩,st.2.2.2.1.at fun o q=>kk i1 (by simp) o q,st.2.2.2.2.at fun o q=>kk i2 (by simp) o q⟩
  item:=by
    intro X hP hw hK hc i pins s σ H E I hf st hg
    subst hP hw hK
    obtain ⟨xs,ys,x,y,hq,hq2,hx,hy⟩:=hg
    obtain ⟨s1,s2,⟨u0,v0,s3⟩,s4,s5⟩:=st
    obtain ⟨its,rv,p1,_⟩:=I.list hq
    obtain ⟨jts,rw',p2,_⟩:=I.list hq2
    obtain ⟨u,hu,ru⟩:=rv.get hx
    obtain ⟨v,hv,rw2⟩:=rw'.get hy
    refine wpAny_pyNext_zip_item D s1 s2 s3 s4 s5 p1.isList p2.isList (x:=u) (y:=v) (by simpa using hu) (by simpa using hv) fun g g1 g2 g3 g4 g5 _ gk=>?_
    refine ⟨_,rfl,wpAny_letOwnedTupleGo_zip g1 fun g' z1 sb=>?_⟩
    have lz:z<s.heap.objs.size:=Heap.lt_size s1
    have kept:∀ c o,c∉[z,ti,to,i1,i2]→s.heap.get? c=some o→g'.get? c=some o:=fun c o hc q=>by
      have hc':¬ (c=z∨c=ti∨c=to∨c=i1∨c=i2):=by simpa using hc
      exact sb.extBut c o (fun e=>hc' (.inl e)) (gk c o (fun e=>hc' (.inl e)) (fun e=>hc' (.inr (.inr (.inl e)))) (fun e=>hc' (.inr (.inr (.inr (.inl e))))) (fun e=>hc' (.inr (.inr (.inr (.inr e))))) q)
    have I1:=qok (g:=g') (tk:=s.toks) (xs:=[x,y]) (its:=[u,v]) I hf kept (sz (by simp)) (.cons ru (.cons rw2 .nil)) (sb.extBut _ _ (Nat.ne_of_gt lz) g5)
    refine ⟨.ref s.heap.objs.size,_,I1,rfl,⟨_,x,y,I.hok.fresh (Nat.le_refl _),rfl,rfl,fun zs hz=>by rw [I.list_inj hz hq];exact hx,fun zs hz=>by rw [I.list_inj hz hq2];exact hy⟩,⟨z1,?_,⟨u,v,sb.extBut _ _ D.TOz g2⟩,g3.at fun o q=>sb.extBut i1 o D.i1z q,g4.at fun o q=>sb.extBut i2 o D.i2z q⟩,fun c hc=>?_⟩
    · exact sb.extBut _ _ D.TIz (gk _ _ D.TIz D.TITO D.TIi1 D.TIi2 s2)
    · rw [qaC]
      · exact (hf c hc).1
      · have hc':c=z∨c=ti∨c=to∨c=i1∨c=i2:=by simpa using hc
        obtain ⟨o4,s4,_⟩:=s4
        obtain ⟨o5,s5,_⟩:=s5
        rcases hc' with rfl | rfl | rfl | rfl | rfl
        · exact Nat.ne_of_lt lz
        · exact Nat.ne_of_lt (Heap.lt_size s2)
        · exact Nat.ne_of_lt (Heap.lt_size s3)
        · exact Nat.ne_of_lt (Heap.lt_size s4)
        · exact Nat.ne_of_lt (Heap.lt_size s5)
  done:=by
    intro X hP hw hK hc i pins s σ H E I hf st hg
    subst hP hw hK
    obtain ⟨xs,ys,hq,hq2,hx⟩:=hg
    obtain ⟨s1,s2,⟨u0,v0,s3⟩,s4,s5⟩:=st
    obtain ⟨its,rv,p1,_⟩:=I.list hq
    obtain ⟨jts,_,p2,_⟩:=I.list hq2
    have hl:=rv.length
    refine wpAny_pyNext_zip_end (I.ok.hd hc) D s1 s2 s3 s4 s5 p1.isList p2.isList (.inl (by simp;omega)) fun g gk=>⟨rfl,qoj (tk:=s.toks) I hf fun c o hc q=>?_⟩
    have hc':¬ (c=z∨c=ti∨c=to∨c=i1∨c=i2):=by simpa using hc
    exact gk c o (fun e=>hc' (.inl e)) (fun e=>hc' (.inr (.inr (.inl e)))) (fun e=>hc' (.inr (.inr (.inr (.inl e))))) (fun e=>hc' (.inr (.inr (.inr (.inr e))))) q
  self:=fun _ _ _ _ _ st h=>wpAny_pyIter_zip st.1 h
section
variable {X:Cx} {elts:List Expr} {k:Nat} {tpos:Pos} {a b:Expr} {ta:TA} {p pos:Pos}
theorem vals2 {x y:V} {us:List Value} (r:Vals [x,y] us):∃ u v,us=[u,v]∧RelV x u∧RelV y v:=r.two
theorem qs1 (hg:Gl X "zip") (hm:X.mg "zip" = none) (ha:PA X [a,b] ta) (hs:starEach [a,b] X.env=(false,eval a X.env)::starEach [b] X.env:=by rfl) (hpl:(backTo pos (starEach [b] X.env)).any (·.1)=false:=by rfl):PI X (.Tuple elts k tpos) (.Call (.Name "zip" p) [a,b] [] pos) (qtU X.K ta):=by
  intro pins s σ H R I h
  refine Call_ (qd7 I hg hm qsV (PyProof.Rows.callWith_type1 (thn (ha pos pins s σ H _ I h) fun us s1 ⟨vs,H1,I1,r1,q1⟩=>?_) hs hpl))
  obtain ⟨l1,l2,rfl,⟨xs,hq⟩,⟨ys,hq2⟩,q⟩:=q1
  obtain ⟨u,v,rfl,ru,rv⟩:=vals2 r1
  cases ru
  cases rv
  obtain ⟨its,_,p1,_⟩:=I1.list hq
  obtain ⟨jts,_,p2,_⟩:=I1.list hq2
  refine call_zip_2 p1.isList p2.isList fun g z1 z2 z3 z4 z5 _ gk=>?_
  have I2:Inv X pins σ H1 { s1 with heap:=g }:=I1.kept (t':=s1.toks) gk
  have n1:@LT.lt Nat _ l1 s1.heap.objs.size:=p1.lt
  have n2:@LT.lt Nat _ l2 s1.heap.objs.size:=p2.lt
  have D:ZipApart (s1.heap.objs.size+4) (s1.heap.objs.size+2) (s1.heap.objs.size+3) s1.heap.objs.size (s1.heap.objs.size+1) l1 l2:=by
    constructor <;> (show (_:Nat)≠_;omega)
  refine wpAny_pyIter_zip z1 ⟨_,[s1.heap.objs.size+4,s1.heap.objs.size+2,s1.heap.objs.size+3,s1.heap.objs.size,s1.heap.objs.size+1],_,_,H1,rfl,I2,qpW D,⟨z1,z2,⟨_,_,z3⟩,z4,z5⟩,fun c hc=>?_,q⟩
  have hc':s1.heap.objs.size≤c:=by
    have z:c=s1.heap.objs.size+4∨c=s1.heap.objs.size+2∨c=s1.heap.objs.size+3∨c=s1.heap.objs.size∨c=s1.heap.objs.size+1:=by simpa using hc
    rcases z with z | z | z | z | z <;> rw [z] <;> first | exact Nat.le_add_right _ _ | exact Nat.le_refl _
  exact I1.fpOk hc' (I1.hok.fresh hc')
end
theorem qs3:bootBuiltins "any" = some (.builtin "any"):=by decide +kernel
theorem qgO:∀ {ns:List Int} {us:List Value} {i:Nat} {u:Value},Vals (ns.map V.int) us→us[i]?=some u→∃ n t,ns[i]?=some n∧u=Value.int n t
  | [],_,_,_,.nil,e=>by simp at e
  | n::ns,_,0,_,.cons r _,e=>by
    simp at e;subst e
    obtain ⟨t,rfl⟩:=r
    exact ⟨n,t,rfl,rfl⟩
  | _::ns,_,i+1,u,.cons _ r,e=>by
    obtain ⟨n,t,h1,h2⟩:=qgO (i:=i) (u:=u) r (by simpa using e)
    exact ⟨n,t,by simpa using h1,h2⟩
section
variable {X:Cx}
theorem qol (hc:X.calm=true):qdg X (.builtin "any") qpV:=fun pins s σ H xs us Q I r ⟨p,ns,e,hp,q⟩=>by
  subst e
  obtain ⟨u,rfl,ru⟩:=qfR r
  cases ru
  obtain ⟨its,rv,pl,hz⟩:=I.list (SqL.of hp)
  have hl:ns.length=its.length:=by have:=rv.length;simpa using this
  refine call_any_walk (wpAny_pyIter_list pl.isList ⟨s.heap.objs.size,[s.heap.objs.size,p],[s.heap.objs.size],its.toArray.size,_,_,fun i=>!decide (ns.getD i 0=0),rfl,Walks.list (A:=X.A.in1) (show X.A.in1.handled=none from I.ok.hd hc) s.heap.objs.size p (Nat.ne_of_lt pl.lt) _,⟨⟨_,Heap.get?_push_size _ rfl,rfl,rfl⟩,pl.isList.push _⟩,?_,fun g tk gk=>?_⟩)
  · intro i v s' Q' E' hP hQ
    obtain ⟨n,t,h1,rfl⟩:=qgO rv (show its[i]?=some v by simpa using hP)
    have e:ns.getD i 0=n:=by rw [List.getD_eq_getElem?_getD,h1];rfl
    replace hQ:Q' (!decide (ns.getD i 0=0)) s':=hQ
    rw [e] at hQ
    refine PySem.P.truthy_int ?_
    have e2:(n != 0)=!decide (n=0):=by rw [Bool.eq_iff_iff];simp
    rw [e2]
    exact hQ
  · have kk:∀ b o,s.heap.get? b=some o→g.get? b=some o:=fun b o e=>gk b o (fun z=>absurd (Heap.lt_size e) (by rw [List.mem_singleton.mp z];exact Nat.lt_irrefl _)) (Heap.get?_push_of_some _ e)
    refine ⟨_,H,I.kept kk,?_,q⟩
    show Value.bool _=Value.bool _
    congr 1
    rw [Bool.eq_iff_iff]
    simp only [List.any_eq_true,List.mem_range,List.size_toArray]
    constructor
    · rintro ⟨i,hi,h⟩
      have hi2:i<ns.length:=by omega
      rw [List.getD_eq_getElem?_getD,List.getElem?_eq_getElem hi2] at h
      exact ⟨ns[i],List.getElem_mem hi2,h⟩
    · rintro ⟨x,hx,h⟩
      obtain ⟨i,hi,rfl⟩:=List.getElem_of_mem hx
      refine ⟨i,by omega,?_⟩
      rw [List.getD_eq_getElem?_getD,List.getElem?_eq_getElem hi]
      exact h
end
section
variable {prog:Program} {w:World} {A:Around} {R:Result→Shared→Prop} {I:Addr} {fp wr:List Addr} {n:Nat} {P:Nat→Value→Prop} {St:Nat→Heap→Prop} {d:Value}
theorem qhe (W:Walks prog w A.in1 I fp wr n P St) (bt:Nat→Nat→Bool) (hcmp:CmpOf prog w A.in1 .Lt P bt) (S:Addr) (hSf:S∉fp):∀ (k j q:Nat) (s:Shared) (vb:Value) (c:Nat),n - j=k→j≤n→St j s.heap→q<n→P q vb→
    s.heap.get? S=some { cls:=.type "list", dict:=none,data:=.seq #[vb,vb] c,slots:=#[] }→
    (∀ q v h' tk,q<n→P q v→(∀ b o,b∉wr→b≠S→s.heap.get? b=some o→h'.get? b=some o)→R (.ok (.ret v)) { s with heap:=h',toks:=tk })→
    codeAny (model prog w) A (.builtin "min.loop" ⟨[.ref I,.none,.ref S],[("default", d)]⟩) R s
  | 0,j,q,s,vb,c,hk,hj,hst,hq,hPb,hS,hR=>by
    have jn:j=n:=by omega
    refine codeAny_builtin F.entry_min_loop ?_
    rw [Around.under_plainId F.plain_min_loop _]
    refine wpAny_bind (m:=seqItems? (.ref S)) (wpAny_seqItems hS rfl ?_)
    refine wpAny_bind (m:=tryCatch (pyNext (.ref I)) _) (wpAny_tryCatch (W.done s _ _ (jn ▸ hst) fun h' tk kp=>?_))
    have hS2:=kp S _ (fun z=>hSf (W.sub _ z)) hS
    refine wpAny_bind (m:=updateSeq S (fun _=>#[])) (wpAny_updateSeq hS2 rfl (wpAny_bind (wpAny_letGo (wpAny_pure ?_))))
    exact hR q vb _ tk hq hPb fun b o h1 h2 e=>(Heap.get?_update_other _ _ h2.symm).trans (kp b o h1 e)
  | k+1,j,q,s,vb,c,hk,hj,hst,hq,hPb,hS,hR=>by
    have jn:j<n:=by omega
    refine codeAny_builtin F.entry_min_loop ?_
    rw [Around.under_plainId F.plain_min_loop _]
    refine wpAny_bind (m:=seqItems? (.ref S)) (wpAny_seqItems hS rfl ?_)
    refine wpAny_bind (m:=tryCatch (pyNext (.ref I)) _) (wpAny_tryCatch (W.item j s _ _ jn hst fun v h' tk hP hst' kp=>?_))
    have hS2:=kp S _ (fun z=>hSf (W.sub _ z)) hS
    refine wpAny_bind (m:=tryCatch (holding [v,v] (richCompare .Lt v vb >>= _)) _) (wpAny_tryCatch (wpAny_holding (wpAny_bind (hcmp j q v vb _ _ _ hP hPb ?_))))
    refine wpAny_bind (wpAny_holding (wpAny_truthy_bool (wpAny_bind (wpAny_letGo (wpAny_pure ?_)))))
    have nm:(toString "min" ++ toString ".loop" : String) = "min.loop" := by decide
    cases bt j q with
    | true=>
      simp only [if_true]
      refine wpAny_bind (wpAny_updateSeq hS2 rfl (wpAny_bind (wpAny_letGo ?_)))
      rw [nm]
      refine wpAny_pure ⟨plainId_quiet F.plain_min_loop _,qhe W bt hcmp S hSf k (j+1) j _ v _ (by omega) (by omega) (W.frame _ _ _ hst' fun b hb o e=>(Heap.get?_update_other _ _ (fun z:S=b=>hSf (by rw [z];exact hb))).trans e) jn hP (Heap.get?_update_self _ hS2 rfl) fun q' v' h2 tk2 hq' hP' kp2=>?_⟩
      exact hR q' v' h2 tk2 hq' hP' fun b o h1 h3 e=>kp2 b o h1 h3 ((Heap.get?_update_other _ _ h3.symm).trans (kp b o h1 e))
    | false=>
      simp only [Bool.false_eq_true,if_false]
      refine wpAny_bind (wpAny_letGo ?_)
      rw [nm]
      exact wpAny_pure ⟨plainId_quiet F.plain_min_loop _,qhe W bt hcmp S hSf k (j+1) q _ vb c (by omega) (by omega) hst' hq hPb hS2 fun q' v' h2 tk2 hq' hP' kp2=>hR q' v' h2 tk2 hq' hP' fun b o h1 h3 e=>kp2 b o h1 h3 (kp b o h1 e)⟩
theorem qm2 (W:Walks prog w A.in1 I fp wr n P St) (bt:Nat→Nat→Bool) (hcmp:CmpOf prog w A.in1 .Lt P bt) (S:Addr) (hSf:S∉fp) {s:Shared} {c:Nat} (hst:St 0 s.heap)
    (hS:s.heap.get? S=some { cls:=.type "list", dict:=none,data:=.seq #[] c,slots:=#[] })
    (hR:∀ v h' tk,(n=0∧v=d∨∃ q,q<n∧P q v)→(∀ b o,b∉wr→b≠S→s.heap.get? b=some o→h'.get? b=some o)→R (.ok (.ret v)) { s with heap:=h',toks:=tk }) :
    codeAny (model prog w) A (.builtin "min.loop" ⟨[.ref I,.none,.ref S],[("default", d)]⟩) R s:=by
  refine codeAny_builtin F.entry_min_loop ?_
  rw [Around.under_plainId F.plain_min_loop _]
  refine wpAny_bind (m:=seqItems? (.ref S)) (wpAny_seqItems hS rfl ?_)
  rcases Nat.eq_zero_or_pos n with z | z
  · refine wpAny_bind (m:=tryCatch (pyNext (.ref I)) _) (wpAny_tryCatch (W.done s _ _ (z ▸ hst) fun h' tk kp=>?_))
    refine wpAny_bind (wpAny_rule (wpAny_pure ?_))
    exact hR d h' tk (.inl ⟨z,rfl⟩) fun b o h1 _ e=>kp b o h1 e
  · refine wpAny_bind (m:=tryCatch (pyNext (.ref I)) _) (wpAny_tryCatch (W.item 0 s _ _ z hst fun v h' tk hP hst' kp=>?_))
    have hS2:=kp S _ (fun z=>hSf (W.sub _ z)) hS
    have nm:(toString "min" ++ toString ".loop" : String) = "min.loop" := by decide
    refine wpAny_bind (m:=updateSeq S (fun _=>#[v,v])) (wpAny_updateSeq hS2 rfl ?_)
    rw [nm]
    refine wpAny_pure ⟨plainId_quiet F.plain_min_loop _,qhe W bt hcmp S hSf _ 1 0 _ v _ rfl z (W.frame _ _ _ hst' fun b hb o e=>(Heap.get?_update_other _ _ (fun z:S=b=>hSf (by rw [z];exact hb))).trans e) z hP (Heap.get?_update_self _ hS2 rfl) fun q' v' h2 tk2 hq' hP' kp2=>?_⟩
    exact hR v' h2 tk2 (.inr ⟨q',hq',hP'⟩) fun b o h1 h3 e=>kp2 b o h1 h3 ((Heap.get?_update_other _ _ h3.symm).trans (kp b o h1 e))
end
theorem qom (a v:Value):argsOk "min" ⟨[a],[("default", v)]⟩:=by unfold argsOk;kernel_rfl
section
variable {X:Cx} {e:Expr} {te:TE} {p pos kp1 kp2:Pos} {kk:Nat}
theorem qry (hc:X.calm=true) (hm:X.mg "min" = none) (hv:bootBuiltins "min" = some (.builtin "min")) (ha:PE X e te) (hg:Gl X "min" := by rfl)
    (hs:starEach [e] X.env=(false,eval e X.env)::starEach [] X.env:=by rfl) (hb:backTo pos (starEach [e] X.env)=(false,eval e X.env)::backTo pos (starEach [] X.env):=by rfl):PE X (.Call (.Name "min" p) [e] [⟨some "default", .Constant (.int 0) kk kp1,kp2⟩] pos) (qpU te):=by
  intro pins s σ H Q I h
  refine wpAny_Call_Name_kw (qd7 I hg hm hv ?_ (by decide) (by decide))
  refine PyProof.Rows.callWith_kw ?_ hb (by rw [hb];rfl)
  rw [hb]
  refine Calls.spliced_cons (thn (ha pins s σ H _ I h) fun u s1 ⟨x,H1,I1,r1,q1⟩=>Calls.spliced_nil ?_)
  have kw:PK X [⟨some "default", .Constant (.int 0) kk kp1,kp2⟩] (qab (tC (.int 0)) qao):=qro qae qsM
  refine thn (kw pos pins s1 σ H1 (fun vs H2=>vs=[.int 0]∧H2=H1) I1 ⟨rfl,rfl⟩) fun ws s2 ⟨zs,H2,I2,rz,ez,eh⟩=>?_
  subst ez eh
  obtain ⟨z,rfl,t,rfl⟩:=qfR rz
  obtain ⟨l,ns,rfl,hl,q⟩:=q1
  cases r1
  obtain ⟨its,rv,pl,hz⟩:=I2.list (SqL.of hl)
  have hle:ns.length=its.length:=by have:=rv.length;simpa using this
  have nm:(toString "min" ++ toString ".loop" : String) = "min.loop" := by decide
  refine kmb_tree F.kind_min F.plain_min F.entry_min (qom _ _) ?_
  refine wpAny_bind (m:=Builtin.Builtins.bindParams "min" ["key", "default"] 0 ⟨[],[("default", Value.int 0 t)]⟩) (wpAny_of_eq (a:=[none,some (Value.int 0 t)]) rfl ?_)
  refine wpAny_bind (wpAny_pure (wpAny_bind (wpAny_pyIter_list pl.isList ?_)))
  refine wpAny_bind (wpAny_newObj_type ?_)
  rw [nm]
  have lp:l<s2.heap.objs.size:=pl.lt
  have nS:(s2.heap.push { cls:=.type "list_iterator", data:=.fields #[.ref l,.int 0 0] }).objs.size=s2.heap.objs.size+1:=Heap.size_push ..
  have W:=Walks.list (prog:=X.prog) (w:=X.w) (A:=X.A.in1) (show X.A.in1.handled=none from I2.ok.hd hc) s2.heap.objs.size l (Nat.ne_of_lt lp) its.toArray
  refine wpAny_pure ⟨plainId_quiet F.plain_min_loop _,qm2 W _ (CmpOf.ints_lt (fun i=>ns.getD i 0) fun i v hP=>?_) _ ?_ ⟨⟨_,Heap.get?_push_of_some _ (Heap.get?_push_size _ rfl),rfl,rfl⟩,(pl.isList.push _).push _⟩ (Heap.get?_push_size _ rfl) fun v g tk hv2 gk=>?_⟩
  · obtain ⟨n,t2,h1,rfl⟩:=qgO rv (show its[i]?=some v by simpa using hP)
    exact ⟨t2,by rw [List.getD_eq_getElem?_getD,h1];rfl⟩
  · rw [nS]
    have:¬ (s2.heap.objs.size+1=s2.heap.objs.size∨s2.heap.objs.size+1=l):=fun z=>by
      rcases z with z | z
      · exact absurd z (Nat.succ_ne_self _)
      · rw [← z] at lp;exact absurd lp (Nat.not_lt.mpr (Nat.le_succ _))
    simpa using this
  · have kk2:∀ b o,s2.heap.get? b=some o→g.get? b=some o:=fun b o e=>by
      have lb:b<s2.heap.objs.size:=Heap.lt_size e
      refine gk b o (fun z=>?_) (fun z=>?_) (Heap.get?_push_of_some _ (Heap.get?_push_of_some _ e))
      · rw [List.mem_singleton.mp z] at lb;exact absurd lb (Nat.lt_irrefl _)
      · rw [z,nS] at lb;exact absurd lb (Nat.not_lt.mpr (Nat.le_succ _))
    have I3:=I2.kept (t':=tk) kk2
    rcases hv2 with ⟨z,rfl⟩ | ⟨i,hi,hP⟩
    · exact ⟨.int 0,_,I3,⟨t,rfl⟩,q 0 (.inl ⟨List.length_eq_zero_iff.mp (by rw [List.size_toArray] at z;omega),rfl⟩)⟩
    · obtain ⟨n,t2,h1,rfl⟩:=qgO rv (show its[i]?=some v by simpa using hP)
      exact ⟨.int n,_,I3,⟨t2,rfl⟩,q n (.inr (List.mem_of_getElem? h1))⟩
end
end Bs
namespace Bs
open PySem PySem.Spec PyProof.Rows L2
section
variable {X:Cx} {pins:List (Addr×Obj)} {σ:L2.St} {H:Hp} {s:Shared} {N:List Str} {capt:List (Option Nat)} {scope:Scope} {cl:List (Str×Addr)} {C:Addr} {fp:List Addr}
theorem qkg {prog:Program} {w:World} {A:Around} {R:Result→Shared→Prop} {s:Shared} {elt target iter c:Expr} {scope:Scope} {pos:Pos} {it acc:Value} {env:Env} (I:Nat→Shared→Prop)
    (turn:∀ n s,I n s→wpAny (model prog w) A (pyNext it) (fun r s₁=>match r with
      | none=>R (.ok .next) s₁
      | some v=>wpAny (model prog w) A (letOwnedTupleGo target it v) (fun _ s₂=>wpAny (model prog w) A (assign target env v) (fun _ s₃=>wpAny (model prog w) A (isTrue c env (eval c env)) (fun okb s₆=>if okb=true then wpAny (model prog w) A (eval elt env) (fun x s₄=>
          wpAny (model prog w) A (call (.builtin "list.append") [acc,x]) (fun _ s₅=>∃ m,m<n∧I m s₅) (fun _ _=>False) s₄) (fun _ _=>False) s₆ else ∃ m,m<n∧I m s₆) (fun _ _=>False) s₃) (fun _ _=>False) s₂) (fun _ _=>False) s₁) (fun _ _=>False) s)
    (n:Nat) (h:I n s):codeAny (model prog w) A (.compLoop (.ListComp elt [⟨target,iter,[c],0⟩] scope pos) 0 it acc env) R s:=by
  refine codeAny_loop rfl I (fun n s hI=>?_) n h
  show wpAny _ A ((compTurn (.ListComp elt [⟨target,iter,[c],0⟩] scope pos) 0 it acc env).onRaise (fun x=>do noteFrame x env;theTreesLotGoes x)) _ _ s
  refine wpAny_noted ?_
  rw [compTurn_list]
  have no:∀ {E':Value→Shared→Prop} (e:Value) (s':Shared),(fun (_:Value) (_:Shared)=>False) e s'→E' e s':=fun _ _ f=>f.elim
  refine wpAny_bind (wpAny_standAt (wpAny_bind (wpAny_mono (turn n s hI) (fun r s₁ h₁=>?_) no)))
  cases r with
  | none=>exact wpAny_pure h₁
  | some v=>
    refine wpAny_bind (wpAny_mono h₁ (fun _ s₂ h₂=>?_) no)
    refine wpAny_bind (wpAny_mono h₂ (fun _ s₆ h₆=>wpAny_bind (wpAny_tests_one (wpAny_mono h₆ (fun okb s₃ h₃=>?_) no))) no)
    cases okb with
    | false=>exact wpAny_pure ⟨rfl,h₃⟩
    | true=>exact wpAny_bind (wpAny_bind (wpAny_mono h₃ (fun x s₄ h₄=>wpAny_bind (wpAny_mono h₄ (fun _ s₅ h₅=>wpAny_pure (wpAny_pure ⟨rfl,h₅⟩)) no)) no))
theorem qm3 {elt iter tg c:Expr} {tc:TT} {pos:Pos} {wi:TI} {g:TG} {te:TE} {pins:List (Addr×Obj)} {s:Shared} {σ:L2.St} {H:Hp} {Q:VK} (RR:Value→Addr→Result→Shared→Prop) (hc:X.calm=true) (B:BlkOk X N capt scope cl) (hi:PI X tg iter wi)
    (hg:∀ C s H fp,PG (blk X N scope cl C s H fp) tg g) (ht:∀ C s H fp,PT (blk X N scope cl C s H fp) c tc) (he:∀ C s H fp,PE (blk X N scope cl C s H fp) elt te) (I:Inv X pins σ H s) (h:qiy wi capt g tc te σ H Q)
    (fin:∀ (D C:Addr) (s4:Shared) (Hq:Hp) (m:Str→Option Value),Inv X pins σ Hq s4→Q (.ref D) Hq→s4.heap.Ns C m→Hq C=none→C≠X.env.locals→X.s₀.heap.objs.size≤C→(∀ x c,X.env.cells.lookup x=some c→c≠C)→(∀ p∈X.pn++pins,p.1≠C)→RR (.ref D) C (.ok .next) s4) :
    wpAny (model X.prog X.w) X.A (eval iter X.env) (fun x s₁=>wpAny (model X.prog X.w) X.A (pyIter x) (fun it s₂=>wpAny (model X.prog X.w) X.A (newList []) (fun acc s₃=>
      wpAny (model X.prog X.w) X.A (newFunctionEnv scope X.env.globals cl [] X.env.qual none .none (some X.env)) (fun cenv s₄=>
        codeAny (model X.prog X.w) X.A (.compStart (.ListComp elt [⟨tg,iter,[c],0⟩] scope pos) 0 it acc { cenv with scope:=relabel scope X.env }) (RR acc cenv.locals) s₄) X.xe s₃) X.xe s₂) X.xe s₁) X.xe s:=by
  refine thn (hi pins s σ H _ I h) fun v s1 h1=>thn h1 fun itv s2 h2=>?_
  obtain ⟨it,fp,tn,J,H2,e,I2,T,st2,f2,n0,W,w0,turn⟩:=h2
  subst e
  have fl:∀ b∈fp,b<s2.heap.objs.size:=fun b hb=>by obtain ⟨o,e,_⟩:=T.obj _ _ st2 b hb;exact Heap.lt_size e
  refine wpAny_newObj_type (wpAny_newFunctionEnv B.nocell (by intro y hy;simp at hy) (fun h₁ hns₁ hsb₁=>?_) B.kind)
  dsimp only at hns₁ hsb₁ ⊢
  generalize hG:s2.heap.push { cls:=.type "list", dict:=none,data:=.seq ([]:List Value).toArray }=G at hns₁ hsb₁ ⊢
  have hC:G.objs.size=s2.heap.objs.size+1:=by rw [← hG,Heap.size_push]
  have hCle:s2.heap.objs.size≤G.objs.size:=by rw [hC];exact Nat.le_succ _
  have hDC:s2.heap.objs.size≠G.objs.size:=by rw [hC];exact Nat.ne_of_lt (Nat.lt_succ_self _)
  have old:∀ b o,s2.heap.get? b=some o→h₁.get? b=some o:=fun b o e=>hsb₁.extBut b o (by rw [hC];exact Nat.ne_of_lt (Nat.lt_succ_of_lt (Heap.lt_size e))) (Heap.get?_push_of_some _ (hG ▸ Heap.get?_push_of_some _ e))
  have hacc:h₁.get? s2.heap.objs.size=some { cls:=.type "list", data:=.seq ([]:List Value).toArray }:=hsb₁.extBut _ _ hDC (Heap.get?_push_of_some _ (hG ▸ Heap.get?_push_size _ rfl))
  have ok':=qoa B I2 f2 fl hCle
  have nsD:s2.heap.objs.size∉frs X.stack:=fun hb=>by
    rcases List.mem_cons.mp (I2.stkSub _ hb) with z | z
    · exact absurd I2.lt (by rw [← z];exact Nat.lt_irrefl _)
    · exact I2.nofs (Nat.le_refl _) z
  have ncD:∀ x c,cl.lookup x=some c→c≠s2.heap.objs.size:=fun x c e z=>by
    obtain ⟨v,q⟩:=I2.cell x c (B.cells x c e)
    exact absurd q.lt (by rw [z];exact Nat.lt_irrefl _)
  have nfD:∀ b∈fp,s2.heap.objs.size≠b:=fun b hb z=>absurd (fl b hb) (by rw [← z];exact Nat.lt_irrefl _)
  have I₁:Inv (blk X N scope cl G.objs.size s2 H2 fp) [] (qdv capt σ) H2 { s2 with heap:=h₁,toks:=s2.toks+([]:List (Str×Value)).length }:=qob B I2 f2 fl hCle hns₁ old
  have loop:codeAny (model X.prog X.w) X.A (.compLoop (.ListComp elt [⟨tg,iter,[c],0⟩] scope pos) 0 (.ref it) (.ref s2.heap.objs.size) (compEnvC scope cl G.objs.size X.env))
      (RR (.ref s2.heap.objs.size) G.objs.size) { s2 with heap:=h₁,toks:=s2.toks+([]:List (Str×Value)).length }:=by
    refine qkg (fun n s'=>∃ (i:Nat) (ys:List V) (its:List Value) (k:Nat) (Hc:Hp),Inv (blk X N scope cl G.objs.size s2 H2 fp) [] (qdv capt σ) Hc s'∧s'.heap.get? s2.heap.objs.size=some { cls:=.type "list", data:=.seq its.toArray k }∧Vals ys its∧
      Hc s2.heap.objs.size=none∧tn i s'.heap∧(∀ b∈fp,Hc b=none)∧W i ys Hc∧n=n0 - i) ?_ n0 ⟨0,[],[],0,H2,I₁,hacc,.nil,I2.hok.fresh (Nat.le_refl _),T.keep _ _ _ st2 (fun b _ o e=>old b o e),fun b hb=>(f2 b hb).1,w0,rfl⟩
    rintro n s3 ⟨i,ys,its,k,Hc,I3,hD,hv,nD,st3,fr3,w3,en⟩
    obtain ⟨_,hl,step⟩:=turn i ys Hc w3
    have hz:its.toArray.size≤sizeLine:=by rw [List.size_toArray,← hv.length];exact hl
    have I3p:Inv (blk X N scope cl G.objs.size s2 H2 fp) [(s2.heap.objs.size,{ cls:=.type "list", data:=.seq its.toArray k })] (qdv capt σ) Hc s3:=I3.pins_of fun p hp=>by
      rw [List.mem_singleton] at hp
      subst hp
      exact ⟨hD,nD,hDC,nsD,fun v z=>nomatch z⟩
    have fo3:∀ {Hx:Hp} (_:∀ b∈fp,Hx b=none),∀ b∈fp,qkY (blk X N scope cl G.objs.size s2 H2 fp) [(s2.heap.objs.size,{ cls:=.type "list", data:=.seq its.toArray k })] Hx b:=fun hx b hb=>
      ⟨hx b hb,(ok'.exf b hb).1,ok'.exfs b hb,.inl hb,(ok'.exf b hb).2,fun p hp=>by
        have hp':p∈[((s2.heap.objs.size,{ cls:=.type "list", data:=.seq its.toArray k }):Addr×Obj)]:=hp
        rw [List.mem_singleton] at hp'
        subst hp'
        exact nfD b hb⟩
    rcases step with ⟨stop,q⟩ | ⟨ltn,go,nxt⟩
    · refine thn (T.done (blk X N scope cl G.objs.size s2 H2 fp) rfl rfl rfl hc i _ s3 _ Hc _ I3p (fo3 fr3) st3 stop) fun r s4 ⟨hr,I4⟩=>?_
      subst hr
      have hD4:=(I4.pin (s2.heap.objs.size,{ cls:=.type "list", data:=.seq its.toArray k }) (List.mem_append_right _ (List.mem_singleton.mpr rfl))).1
      obtain ⟨m,hn,_⟩:=I4.loc
      have nDt:∀ b u,Hc b=some u→b≠s2.heap.objs.size:=fun b u e z=>by rw [z,nD] at e;cases e
      have oldC:∀ b o,s2.heap.get? b=some o→b≠s2.heap.objs.size:=fun b o e=>Nat.ne_of_lt (Heap.lt_size e)
      have ub:Un (frs X.stack) fp H2 Hc s2.heap s4.heap:=I4.base
      have cC:∀ b,b<s2.heap.objs.size→b≠G.objs.size:=fun b hb z=>absurd (Nat.lt_of_lt_of_le hb hCle) (by rw [z];exact Nat.lt_irrefl _)
      refine fin _ G.objs.size s4 (upd Hc s2.heap.objs.size (.lst ys)) m ?_ (q _ nD) hn (by rw [qaC (fun z=>hDC z.symm)];exact I4.free) (fun z=>cC _ I2.lt z.symm) (Nat.le_trans I2.sz hCle)
        (fun x c e=>by obtain ⟨v,q⟩:=I2.cell x c e;exact cC _ q.lt) fun p hp=>cC _ (Heap.lt_size (I2.pin p hp).1)
      refine I2.call' (ch:=fp) (s':=s4) I4.os ?_ ?_ I4.bare fun b hb=>⟨(f2 b hb).2.2.2.1,(f2 b hb).2.1,(f2 b hb).2.2.2.2.1,(f2 b hb).2.2.2.2.2⟩
      · refine ⟨ub.keep,ub.slot,fun b o e n hx=>?_,ub.there,fun b xs e=>?_,fun b o u e=>?_,fun b ps e=>?_⟩
        · rw [qaC (oldC b o e)];exact ub.free b o e n hx
        · have z:=ub.tups b xs e
          rw [qaC (nDt b _ z)];exact z
        · have z:=ub.frzs b o u e
          rw [qaC (nDt b _ z)];exact z
        · obtain ⟨more,z⟩:=ub.tbls b ps e
          exact ⟨more,by rw [qaC (nDt b _ z)];exact z⟩
      · intro b u e
        by_cases hb:b=s2.heap.objs.size
        · subst hb
          rw [qai] at e
          cases e
          exact ⟨hl,its,k,hv,hD4⟩
        · rw [qaC hb] at e
          exact (I4.hok b u e).stay (fun c v _ q=>q) (fun c q=>by rw [qaC (nDt c _ q)];exact q) fun c xs q=>by rw [qaC (nDt c _ q)];exact q
    · refine thn (T.item (blk X N scope cl G.objs.size s2 H2 fp) rfl rfl rfl hc i _ s3 _ Hc _ I3p (fo3 fr3) st3 go) fun r s4 ⟨u,hr,h4⟩=>?_
      subst hr
      refine thn h4 fun _ s5 ⟨x,H5,I5,r5,y5,st5,fr5⟩=>?_
      have I5':=I5.pinned (fo3 fr5) (T.obj _ _ st5)
      refine thn (hg _ _ _ _ _ s5 _ H5 x u _ I5' r5 (nxt x H5 y5)) fun _ s6 ⟨σ6,H6,I6,q6⟩=>?_
      refine thn (ht _ _ _ _ _ s6 σ6 H6 _ I6 q6) fun okb s9 ⟨H9,I9,q9⟩=>?_
      have pF9:∀ b∈fp,∀ o,s5.heap.get? b=some o→s9.heap.get? b=some o∧H9 b=none:=fun b hb o e=>by
        have z:=I9.pin (b,o) (List.mem_append_right _ (List.mem_append_right _ (qdC hb e)))
        exact ⟨z.1,z.2.1⟩
      cases okb with
      | false=>
        have w9:W (i+1) ys H9:=q9
        have pD9:=I9.pin (s2.heap.objs.size,{ cls:=.type "list", data:=.seq its.toArray k }) (List.mem_append_right _ (List.mem_append_left _ (List.mem_singleton.mpr rfl)))
        have I9n:Inv (blk X N scope cl G.objs.size s2 H2 fp) [] σ6 H9 s9:=I9.pins_of fun p hp=>nomatch hp
        exact ⟨n0 - (i+1),by omega,i+1,ys,its,k,H9,qha B I2 f2 I9n,pD9.1,hv,pD9.2.1,T.keep _ _ _ st5 (fun b hb o e=>(pF9 b hb o e).1),(fun b hb=>by
          obtain ⟨o,e,_⟩:=T.obj _ _ st5 b hb
          exact (pF9 b hb o e).2),w9,rfl⟩
      | true=>
      replace q9:te σ6 H9 fun y H4=>W (i+1) (ys++[y]) H4:=q9
      refine thn (he _ _ _ _ _ s9 σ6 H9 _ I9 q9) fun uy s7 ⟨y,H7,I7,r7,w7⟩=>?_
      have pD:=I7.pin (s2.heap.objs.size,{ cls:=.type "list", data:=.seq its.toArray k }) (List.mem_append_right _ (List.mem_append_left _ (List.mem_singleton.mpr rfl)))
      have pF:∀ b∈fp,∀ o,s5.heap.get? b=some o→s7.heap.get? b=some o∧H7 b=none:=fun b hb o e=>by
        have z:=I7.pin (b,o) (List.mem_append_right _ (List.mem_append_right _ (qdC hb e)))
        exact ⟨z.1,z.2.1⟩
      refine append_at (hsz:=hz) pD.1 fun h8 sb8 hD8=>?_
      have I7n:Inv (blk X N scope cl G.objs.size s2 H2 fp) [] σ6 H7 s7:=I7.pins_of fun p hp=>nomatch hp
      have I8:Inv (blk X N scope cl G.objs.size s2 H2 fp) [] σ6 H7 { s7 with heap:=h8,toks:=s7.toks }:=I7n.turned (fun b o hb e=>sb8.extBut b o hb e) pD.2.1 hDC (.inr (Nat.le_refl _)) ncD (fun p hp=>nomatch hp)
      refine ⟨n0 - (i+1),by omega,i+1,ys++[y],its++[uy],k+1,H7,qha B I2 f2 I8,?_,Paired.snoc hv r7,pD.2.1,T.keep _ _ _ st5 (fun b hb o e=>sb8.extBut b o (nfD b hb).symm (pF b hb o e).1),fun b hb=>?_,w7,rfl⟩
      · show h8.get? _=_
        rw [hD8,List.push_toArray]
      · obtain ⟨o,e,_⟩:=T.obj _ _ st5 b hb
        exact (pF b hb o e).2
  exact codeAny_compStart_list loop (T.self X.A 0 _ _ _ (T.keep _ _ _ st2 (fun b _ o e=>old b o e)) loop)
theorem qmc {elt iter tg c:Expr} {tc:TT} {pos:Pos} {wi:TI} {g:TG} {te:TE} (hc:X.calm=true) (B:BlkOk X N capt scope cl) (hi:PI X tg iter wi)
    (hg:∀ C s H fp,PG (blk X N scope cl C s H fp) tg g) (ht:∀ C s H fp,PT (blk X N scope cl C s H fp) c tc) (he:∀ C s H fp,PE (blk X N scope cl C s H fp) elt te)
    (hs:∀ x,foldedSetIterable iter X.env x=pure x:=by intro _;rfl):PE X (.ListComp elt [⟨tg,iter,[c],0⟩] scope pos) (qiy wi capt g tc te):=by
  intro pins s σ H Q I h
  rw [eval_ListComp]
  refine wpAny_comprehension_free (use:=none) rfl hs B.clos B.kind B.names (qm3 (fun acc C=>compPost (model X.prog X.w) X.A X.xe none (EP X pins σ Q) acc C) hc B hi hg ht he I h fun D C s4 Hq m I4 q hn hf h1 h2 h3 h4=>?_)
  exact ⟨m,hn,fun h' sb=>⟨.ref D,Hq,I4.turned (fun b o hb e=>sb.extBut b o hb e) hf h1 (.inr h2) h3 h4,rfl,q⟩⟩
end
end Bs
namespace Bs
open PySem L2
noncomputable def sS (K:W.Frag):V→Option Int→Option Int→Hp→VK→Prop:=fun x lo hi H Q=>∃ a xs,x=.ref a∧SqL K H a xs∧∀ p,H p=none→Q (.ref p) (upd H p (.lst (qjP xs lo hi)))
end Bs
namespace Bs
open PySem PySem.Spec PyProof.Rows L2
section
variable {X:Cx}
theorem qon:OpR X (inplaceOp .FloorDiv) qgD:=by
  intro pins s σ H x y v u Q I rx ry ⟨i,j,ex,ey,hc,q⟩
  subst ex ey
  obtain ⟨t,rfl⟩:=rx
  obtain ⟨t2,rfl⟩:=ry
  exact ifloordiv_int hc ⟨.int (i.fdiv j),H,I.tok _,⟨_,rfl⟩,q⟩ (Or.inr (I.ok.plr s I.bk))
theorem qoo:OpR X (inplaceOp .FloorDiv) qhd:=by
  intro pins s σ H x y v u Q I rx ry ⟨i,j,ex,ey,hc,q⟩
  have hc':0<j:=hc
  replace q:Q (.int (i / j)) H:=q
  rw [← Int.fdiv_eq_ediv_of_nonneg i (Int.le_of_lt hc')] at q
  exact qon pins s σ H x y v u Q I rx ry ⟨i,j,ex,ey,Int.ne_of_gt hc',q⟩
end
end Bs
namespace Bs
open PySem L2
noncomputable def qs4 (n:Nat) (t:TGs):TG:=fun v σ H Q=>∃ a xs,v=.ref a∧H a=some (.lst xs)∧xs.length=n∧t xs σ H Q
end Bs
namespace Bs
open PySem PySem.Spec PyProof.Rows L2
theorem qs5 {m n:Nat} {a b:Int} (ha:Bd m a) (hb:Bd n b) (h:m+n≤134217728):IntMulOk a b:=IntMulOk.of_le (qn7 ha) (qn7 hb) h
end Bs
namespace Bs
open PySem L2
noncomputable def qbt:R2:=fun x y H Q=>∃ i j:Str,x=.str i∧y=.str j∧i.length+j.length≤sizeLine∧Q (.str (i++j)) H
noncomputable def qkh:List V→Hp→VK→Prop:=fun xs H Q=>∃ i:Int,xs=[.int i]∧i.natAbs.log2<1920∧Q (.str (toString i)) H
noncomputable def qop:R2:=fun x y H Q=>∃ (i:Str) (n:Int),x=.str i∧y=.int n∧(n=0∨n=1)∧Q (.str (if n=1 then i else "")) H
noncomputable def qpX:List V→Hp→VK→Prop:=fun xs H Q=>∃ x:Str,xs=[.str x,.ty "str"]∧Q (.bl true) H
noncomputable def qki (K:W.Frag) (ta:TA):TE:=fun σ H Q=>ta σ H fun vs H1=>∃ (a:Addr) (x:Str),vs=[.ref a]∧SqL K H1 a [.str x]∧Q (.str x) H1
end Bs
namespace Bs
open PySem PySem.Spec PyProof.Rows L2
theorem qaT {X:Cx}:OpR X (binaryOp .Add) qbt:=qmO
theorem qmd {X:Cx}:OpR X (inplaceOp .Add) qbt:=qkZ
theorem qei {X:Cx}:qdg X (.type "str") qkh:=qjU
theorem qoq {X:Cx}:OpR X (binaryOp .Mult) qop:=by
  intro pins s σ H x y v u Q I rx ry h
  obtain ⟨i,n,rfl,rfl,hn,q⟩:=h
  obtain ⟨t,rfl⟩:=rx
  obtain ⟨t',rfl⟩:=ry
  have e:Txt.mul i n=if n=1 then i else "" := by rcases hn with rfl | rfl <;> rfl
  refine SB.mul ⟨by rcases hn with rfl | rfl <;> decide,?_,?_⟩ fun t' tk=>⟨.str (Txt.mul i n),H,I.tok _,⟨_,rfl⟩,by rw [e];exact q⟩
  · rcases hn with rfl | rfl
    · exact fun a _=>absurd (by decide) a
    · exact fun _ a=>by simp at a
  · rcases hn with rfl | rfl
    · exact fun a _=>absurd (by decide) a
    · exact fun _ a=>by simp at a
theorem qor {X:Cx}:qdg X (.builtin "isinstance") qpX:=fun pins s σ H xs us Q I r h=>by
  obtain ⟨x,rfl,q⟩:=h
  obtain ⟨u,w',rfl,rx,rn⟩:=vals2 r
  have rn':w'=Value.type "str" := rn
  subst rn'
  exact qnP I rx (.str x) (qpS X.K _) fun tk=>⟨.bl true,H,I.tok tk,rfl,q⟩
theorem qiz:bootBuiltins "str" = some (.type "str"):=by decide +kernel
theorem qpY:typeLookup (.type "list_reverseiterator") "__len__" = pure none:=by rw [typeLookup_type,builtinLookup_eq_fast];kernel_rfl
theorem qrz:typeLookup (.type "list_reverseiterator") "__length_hint__" = pure (some (.builtin "list_reverseiterator.__length_hint__")):=by rw [typeLookup_type,builtinLookup_eq_fast];kernel_rfl
theorem qla {P:Program} {w:World} {A:Around} {E:Value→Shared→Prop} {s:Shared} {D l:Addr} {its:Array Value} {Q:List Value→Shared→Prop} (hh:A.handled=none) (hne:l≠D)
    (hit:s.heap.IsRevIter D l ((its.size:Int) - 1)) (hl:s.heap.IsList l its) (hD:D<s.heap.objs.size) (hlt:l<s.heap.objs.size) (hn:its.size≤sizeLine)
    (k:∀ s' acc,Moved [D] (fun a b=>b=a) s s'→ItemsOf (fun i v=>its[its.size - 1 - i]?=some v) acc its.size→Q acc.toList s'):wpAny (model P w) A (collect (.ref D)) Q E s:=by
  have W:=(Walks.listRev (prog:=P) (w:=w) (A:=A.in1) hh D l hne its).toS
  let nw:Obj:={ cls:=.type "list", data:=.seq ([]:List Value).toArray }
  have a1:s.heap.objs.size∉[D,l]:=by
    intro hm
    rcases List.mem_cons.mp hm with e | hm
    · exact Nat.lt_irrefl _ (e ▸ hD)
    · rw [List.mem_singleton] at hm;exact Nat.lt_irrefl _ (hm ▸ hlt)
  have st0:0≤its.size∧s.heap.IsRevIter D l ((its.size:Int) - 1 - ((0:Nat):Int))∧s.heap.IsList l its:=⟨Nat.zero_le _,by simpa using hit,hl⟩
  have st1:=W.frame 0 s (s.heap.push nw) s.toks st0 (Nat.le_refl _) fun b _ o e=>Heap.get?_push_of_some _ e
  have ty:Shared.TypeIs ({ s with heap:=s.heap.push nw,toks:=s.toks }:Shared) (.ref D) "list_reverseiterator" := by
    obtain ⟨o,ho,hc,_⟩:=st1.2.1
    exact ⟨o,ho,hc⟩
  have g1:(s.heap.push nw).get? s.heap.objs.size=some nw:=Heap.get?_push_size _ rfl
  have z1:Builtin.List.listSameRef (.ref s.heap.objs.size) (.ref D)=false:=by
    have q:s.heap.objs.size≠D:=fun e=>Nat.lt_irrefl _ (e ▸ hD)
    simp [Builtin.List.listSameRef,q]
  unfold collect
  refine wpAny_bind (wpAny_runValue (codeAny_builtin F.entry_proto_collect ?_));rw [Around.under_plainId F.plain_proto_collect _]
  show wpAny _ A.in1 (newList [] >>= fun z=>again (.builtin "list.__iadd__" ⟨[z,.ref D],[]⟩)) _ _ s
  refine wpAny_bind (wpAny_newObj_type (wpAny_pure ⟨plainId_quiet F.plain_list_iadd _,codeAny_builtin F.entry_list_iadd ?_⟩));rw [Around.under_plainId F.plain_list_iadd _]
  show wpAny _ A.in1 (Builtin.List.listExtendWith (.ref s.heap.objs.size) (.ref D) (.ref s.heap.objs.size)) _ _ ({ s with heap:=s.heap.push nw,toks:=s.toks }:Shared)
  unfold Builtin.List.listExtendWith
  refine wpAny_bind (wpAny_typeOf ty ?_);rw [if_neg (by rw [z1];decide)]
  refine wpAny_bind (W.self 0 _ _ _ st1 (wpAny_bind (wpAny_holding ?_)))
  unfold Builtin.List.listLengthHint
  refine wpAny_bind (wpAny_specialOf ty qpY ?_);show wpAny _ A.in1 (specialOf (Value.ref D) (Str.ofString "__length_hint__") >>= _) _ _ _
  refine wpAny_bind (wpAny_specialOf ty qrz ?_)
  generalize hid:("list_reverseiterator.__length_hint__" : String)=id0
  wp_delta
  rw [show splitId id0=some ("list_reverseiterator", "__length_hint__") from by subst hid;decide +kernel]
  subst hid
  refine wpAny_bind (wpAny_isInstance (b:=true) ty (by rw [isSubtype_type];kernel_rfl) (wpAny_pure ?_));rw [if_neg (by decide)]
  refine wpAny_pure ⟨plainId_quiet F.plain_extend_loop _,codeAny_extend_loopS W hn _ a1 _ its.size 0 _ _ _ rfl (Nat.zero_le _) st1 g1 (ItemsOf.nil _) fun s' acc c hm hS ha=>?_⟩
  show wpAny _ A (load s.heap.objs.size >>= _) _ _ s'
  exact wpAny_bind (wpAny_load hS (wpAny_pure (k s' acc (Moved.drop_new (o:=nw) (tk:=s.toks) hm (Nat.le_refl _)) ha)))
theorem qos {P:Program} {w:World} {A:Around} {E:Value→Shared→Prop} {s:Shared} {D l:Addr} {x z:Str} {t u:Tok} {Q:Value→Shared→Prop} (hh:A.handled=none) (hne:l≠D)
    (hit:s.heap.IsRevIter D l 0) (hl:s.heap.IsList l #[.str x u]) (hD:D<s.heap.objs.size) (hlt:l<s.heap.objs.size)
    (k:∀ s',Moved [D] (fun a b=>b=a) s s'→Q (.str x u) s'):wpAny (model P w) A (call (.builtin "str.join") [.str z t,.ref D]) Q E s:=by
  refine wpAny_call (codeAny_call_builtin F.slot_str_join.plain F.entry_str_join (F.slot_str_join.check _ _ _ _ _ _ _ _ (typeIs_str _ _ _) (F.args_str_join_2 _ _) ?_));rw [join_tree_other]
  refine wpAny_bind (wpAny_typeOf hit.typeIs ?_)
  show wpAny _ A.in1 ((pyIter (.ref D)).tryCatch _ >>= fun i=>collect i >>= fun l=>joinTail z l) _ _ s
  refine wpAny_bind (wpAny_tryCatch (wpAny_pyIter_revIter hit (wpAny_bind (qla (A:=A.in1) (its:=#[.str x u]) hh hne hit hl hD hlt (by show 1≤sizeLine;rw [sizeLine_eq];decide) fun s' acc hm ha=>?_))))
  obtain ⟨n1,h1⟩:=ha
  have e:acc.toList=strValues [(x,u)]:=by
    obtain ⟨ls⟩:=acc
    match ls,n1,h1 with
    | [v],_,h1=>
      have q:=h1 0 v (by simp)
      have q':some (Value.str x u)=some v:=q
      cases q'
      rfl
  rw [e]
  have g:Gives (joinTail z (strValues [(x,u)])) (.val (.str x u)):=.rule (.of_eq rfl)
  exact g P w A (wants Q E) s' (k s' hm)
theorem qm4 {X:Cx} {a:Expr} {ta:TA} {z:Str} {j:Nat} {q apos p pos cpos:Pos} (hg:Gl X "reversed") (hm:X.mg "reversed" = none) (hc:X.calm=true) (ha:PA X [a] ta)
    (hs:starEach [a] X.env=[(false,eval a X.env)]:=by rfl) (hs2:starEach [.Call (.Name "reversed" p) [a] [] pos] X.env=[(false,eval (.Call (.Name "reversed" p) [a] [] pos) X.env)]:=by rfl)
    (hb:attributeBase (.Constant (.str z) j q) "join" X.env (eval (.Constant (.str z) j q) X.env)=eval (.Constant (.str z) j q) X.env:=by rfl)
    (hf:((backTo cpos (starEach [.Call (.Name "reversed" p) [a] [] pos] X.env)).all (fun x=>!x.1) && (backToKw cpos (keywordEach [] X.env)).all (fun x=>x.1.isSome) && decide (([.Call (.Name "reversed" p) [a] [] pos]:List Expr).length+([]:List Keyword).length+(if ([]:List Keyword).isEmpty then 0 else 1)<30))=true:=by rfl)
    (hl:(apos.endLine == cpos.line)=true:=by rfl) :
    PE X (.Call (.Attribute (.Constant (.str z) j q) "join" apos) [.Call (.Name "reversed" p) [a] [] pos] [] cpos) (qki X.K ta):=by
  intro pins s σ H Q I h
  refine wpAny_Call_method_late hb hf hl rfl (Calls.Constant_str ⟨"str", "str.join", F.plainAttrs_str,F.slot_str_join,F.type_str_join,typeIs_str _ _ _,(fun _ e=>nomatch e),?_⟩)
  rw [hs2]
  have I0:Inv X pins σ H { s with toks:=s.toks+1 }:=I.tok _
  refine Calls.callWith_builtin rfl (Calls.evalArgs_plain (Calls.spliced_cons (Call_ (qd7 I0 hg hm qk7 (PyProof.Rows.callWith_type1 (thn (ha pos pins _ σ H _ I0 h) fun us s1 ⟨vs,H1,I1,r1,q1⟩=>?_) hs rfl)))))
  obtain ⟨b,x,rfl,hq,kq⟩:=q1
  obtain ⟨u,rfl,ru⟩:=qfR r1
  cases ru
  obtain ⟨its,rv,pl,hz⟩:=I1.list hq
  obtain ⟨v,rfl,rx⟩:=qfR rv
  obtain ⟨tx,rfl⟩:=rx
  refine call_reversed_list pl.isList (Calls.spliced_nil ?_)
  have I2:Inv X pins σ H1 { s1 with heap:=s1.heap.push (revObj b (((#[.str x tx]:Array Value).size:Int) - 1)) }:=I1.kept (t':=s1.toks) fun b o e=>Heap.get?_push_of_some _ e
  obtain ⟨ol,hol,_⟩:=id pl.isList
  have lb:=Heap.lt_size hol
  have hne:b≠s1.heap.objs.size:=fun e=>Nat.lt_irrefl _ (e ▸ lb)
  have si:(s1.heap.push (revObj b (((#[.str x tx]:Array Value).size:Int) - 1))).IsRevIter s1.heap.objs.size b 0:=⟨_,Heap.get?_push_size _ rfl,rfl,rfl⟩
  obtain ⟨o2,ho2,_⟩:=id si
  have lD:=Heap.lt_size ho2
  have il:=pl.isList.at (h':=s1.heap.push (revObj b (((#[.str x tx]:Array Value).size:Int) - 1))) fun o e=>Heap.get?_push_of_some _ e
  obtain ⟨o3,ho3,_⟩:=id il
  refine qos (I.ok.hd hc) hne si il lD (Heap.lt_size ho3) fun s' hm'=>?_
  obtain ⟨f0,f1,f2,f3,f4,f5⟩:=I1.fpOk (H':=H1) (Nat.le_refl _) (I1.hok.fresh (Nat.le_refl _))
  obtain ⟨k1,k2,k3,k4,k5⟩:=hm'
  obtain ⟨h',gn,dr,tk,os⟩:=s'
  cases k2
  cases k3
  cases k4
  have I3:=I2.turned (h':=h') (t':=tk) (it:=s1.heap.objs.size) (fun c o hc e=>k1 c o (by simpa using hc) e) f0 f1 f3 f4 f5
  exact ⟨.str x,H1,I3,⟨tx,rfl⟩,kq⟩
end Bs
namespace Bs
open PySem L2
noncomputable def qum (z:Str) (te:TE):TE:=fun σ H Q=>z.length≤sizeLine∧te σ H fun v H1=>∃ i:Int,v=.int i∧i.natAbs.log2<1920∧z.length+(Str.ofString (toString i)).length≤sizeLine∧Q (.str (z++toString i)) H1
end Bs
namespace Bs
open PySem PySem.Spec PyProof.Rows L2
theorem qrA {X:Cx} {e:Expr} {te:TE} {z:Str} {j:Nat} {p q pos:Pos} (he:PE X e te):PE X (.JoinedStr [.Constant (.str z) j p,.FormattedValue e (-1) none q] pos) (qum z te):=by
  intro pins s σ H Q I h
  have ez:Str.empty++z=z:=by
    show (⟨#[]++z.cps⟩:Str)=z
    rw [Array.empty_append]
  obtain ⟨lz,h⟩:=h
  refine JoinedStr_many (joinParts_cons (Calls.Constant_str ⟨by rw [ez];exact lz,joinParts_cons (FormattedValue_plain ?_)⟩))
  rw [ez]
  refine thn (he pins _ σ H _ (I.tok _) h) fun v s1 ⟨x,H1,I1,r1,q1⟩=>?_
  obtain ⟨i,rfl,hi,hl,q⟩:=q1
  obtain ⟨t,rfl⟩:=r1
  have le:(z++Str.ofString (toString i)).length≤sizeLine:=by rw [strLen_append];exact hl
  exact formatField_int_small hi ⟨le,joinParts_nil ⟨.str (z++Str.ofString (toString i)),H1,I1.tok _,⟨_,rfl⟩,q⟩ le⟩
end Bs
namespace Bs
open PySem L2
noncomputable def inD (neg:Bool):R2:=fun x y H Q=>∃ (p:Addr) (ys:List V) (d:PySem.W.Dat) (ds:List PySem.W.Dat) (b:Bool),y=.ref p∧H p=some (.lst ys)∧RepD H x d∧RepA H ys ds∧PySem.W.kqdOk 8 d=true∧(∀ e∈ds,PySem.W.kqdOk 8 e=true)∧(b=true↔d∈ds)∧Q (.bl (if neg=true then !b else b)) H
end Bs
namespace Bs
open PySem PySem.Spec PyProof.Rows L2
theorem qs6 {d:PySem.W.Dat} {ds:List PySem.W.Dat} {b:Bool} (h1:PySem.W.kqdOk 8 d=true) (h2:∀ e∈ds,PySem.W.kqdOk 8 e=true) (hb:b=true↔d∈ds):((PySem.W.kqdPs ds).any fun y=>PyData.eqv y (PySem.W.kqdP d))=b:=by
  rw [Bool.eq_iff_iff,hb]
  exact PySem.W.kqd_any ds d h2 h1
theorem qot {X:Cx} (hu:X.A.units+64<cLine):OpR X (compareOp .NotIn) (inD true):=by
  intro pins s σ H x y v u Q I rx ry h
  obtain ⟨p,ys,d,ds,b,e,hp,r1,r2,k1,k2,hb,q⟩:=h
  subst e
  obtain ⟨as,q1⟩:=qfi I r1 rx
  cases ry
  obtain ⟨its,rv,pl,_⟩:=I.list (SqL.of hp)
  obtain ⟨bs,q2⟩:=qi7 I r2 rv
  obtain ⟨o,n,ho,hc,_,hd⟩:=pl
  have l:=PySem.W.kqd_layL k2
  have ld:=PySem.W.kqd_lay 8 d k1
  have l2:=ld.2
  refine SeqAt.notIn_list_reads (reads_list_at ho hc hd (by simpa using q2)) q1 l.1 ld.1 ?_ (by rw [qs6 k1 k2 hb];exact ⟨.bl (!b),H,I,rfl,q⟩)
  have:=Nat.min_le_right (PyData.depthAll (PySem.W.kqdPs ds)) (PySem.W.kqdP d).depth
  omega
end Bs
namespace Bs
open PySem L2
noncomputable def qou:V→List V→Hp→VK→Prop:=fun x vs H Q=>∃ l xs y k,x=.ref l∧vs=[.int (k:Nat),y]∧H l=some (.lst xs)∧k≤xs.length∧xs.length<sizeLine∧Q .non (upd H l (.lst (xs.take k++y::xs.drop k)))
end Bs
namespace Bs
open PySem PySem.Spec PySem.Calls PyProof.Rows L2
section
variable {X:Cx}
theorem qov:MtM X "list.insert" qou:=by
  intro pins s σ H x vs v us Q I rx rv h
  obtain ⟨l,xs,y,k,rfl,rfl,hH,hk,hz,q⟩:=h
  cases rx
  obtain ⟨u,w',rfl,⟨t,rfl⟩,ry⟩:=rv.two
  obtain ⟨z,its,n,r,hl,e⟩:=I.lstM hH
  have k63:(k:Int)<2 ^ 63:=by have:=sizeLine_eq;omega
  have fit:¬ (!Builtin.List.listFitsIndex (k:Int))=true:=by rw [fitsIndex_both (by omega) k63];decide
  have zi:its.toArray.size≤sizeLine:=by rw [List.size_toArray,← hl];exact z
  generalize hi:(k:Int)=i at fit
  have M:=PySem.AutoSeq1.list_insert_list_int_val_1 l its.toArray n i t w' fit zi
  refine call_meets F.slot_list_insert ⟨_,e,rfl⟩ F.entry_list_insert (F.args_list_insert_3 _ _ _) M ⟨e,?_⟩
  subst hi
  refine ⟨.non,_,I.lset (its':=its.take k++w'::its.drop k) hH e ?_ ((r.take k).append (.cons ry (r.drop k))) ?_,rfl,q⟩
  · show ((its.toArray.extract 0 (if (k:Int)<0 then ((k:Int)+(its.toArray.size:Int)).toNat else min (k:Int).toNat its.toArray.size)).push w'++its.toArray.extract (if (k:Int)<0 then ((k:Int)+(its.toArray.size:Int)).toNat else min (k:Int).toNat its.toArray.size))=_
    rw [if_neg (by omega),show min (k:Int).toNat its.toArray.size=k by rw [List.size_toArray];omega]
    apply Array.ext'
    simp
    rw [List.take_of_length_le (by rw [List.length_drop];exact Nat.le_refl _)]
  · simp
    omega
end
end Bs
namespace Bs
open PySem PySem.Spec PyProof.Rows L2
end Bs
namespace Bs
open PySem PySem.Spec PyProof.Rows L2
end Bs
namespace Bs
open PySem L2
noncomputable def qpZ:V→List V→Hp→VK→Prop:=fun x vs H Q=>∃ (l:Addr) (xs:List V) (k:Nat) (y:V),x=.ref l∧vs=[.int (k:Int)]∧H l=some (.lst xs)∧xs.length≤1000000∧xs[k]?=some y∧Q y (upd H l (.lst (xs.eraseIdx k)))
end Bs
namespace Bs
open PySem PySem.Spec PyProof.Rows L2
theorem qow {X:Cx}:MtM X "list.pop" qpZ:=by
  intro pins s σ H x vs v us Q I rx rv h
  obtain ⟨l,xs,k,y,rfl,rfl,hH,hz,hy,q⟩:=h
  have hk:k<xs.length:=(List.getElem?_eq_some_iff.mp hy).1
  refine qpQ pins s σ H _ _ v us Q I rx rv ⟨l,xs,(k:Int),k,y,rfl,rfl,hH,by omega,by omega,?_,hy,q⟩
  unfold seqIndex?
  simp only [show ¬ ((k:Int)<0) by omega,if_false]
  simp
  omega
end Bs
namespace Bs
theorem Bd.one:Bd 1 1:=by unfold Bd;decide
theorem Bd.pow {b:Nat} {x:Int} (h:Bd b x) (k:Nat):Bd (b*k+1) (x ^ k):=by
  induction k with
  | zero=>rw [Int.pow_zero,Nat.mul_zero];exact Bd.one
  | succ k ih=>
    have e:b*(k+1)+1=(b*k+1)+b:=by rw [Nat.mul_add,Nat.mul_one];omega
    rw [Int.pow_succ,e]
    exact ih.mul h
end Bs
namespace Bs
noncomputable abbrev Nu:=Int×Int
noncomputable def red (n m:Int):Nu:=(n / ((Int.gcd n m:Nat):Int),m / ((Int.gcd n m:Nat):Int))
noncomputable def nadd (q r:Nu):Nu:=red (q.1*r.2+r.1*q.2) (q.2*r.2)
noncomputable def nmul (q r:Nu):Nu:=red (q.1*r.1) (q.2*r.2)
noncomputable def Wo (q:Nu) (n m:Int):Prop:=q.1*m=n*q.2
theorem qcg {n m:Int} (hm:0<m):Low (red n m).1 (red n m).2:=(qc1 (a:=n) hm).1
theorem qfl {n m:Int} (hm:0<m):Wo (red n m) n m:=by
  have h:=(qf0 (a:=n) (b:=m) (s:=((Int.gcd n m:Nat):Int)) (by omega) (by rw [if_neg (by omega)])).2.2.2.1
  rw [Int.fdiv_eq_ediv_of_nonneg _ (by omega),Int.fdiv_eq_ediv_of_nonneg _ (by omega)] at h
  exact h
theorem qf1 {a b d:Int} (h:Low a b) (hd:b∣a*d):b∣d:=by
  have c:Nat.Coprime b.natAbs a.natAbs:=by
    have:Nat.Coprime a.natAbs b.natAbs:=h.one
    exact this.symm
  have z:=Int.natAbs_dvd_natAbs.mpr hd
  rw [Int.natAbs_mul] at z
  exact Int.natAbs_dvd_natAbs.mp (c.dvd_of_dvd_mul_left z)
theorem qiA {a b c d:Int} (h1:Low a b) (h2:Low c d) (h:a*d=c*b):a=c∧b=d:=by
  have d1:b∣d:=qf1 h1 ⟨c,by rw [h,Int.mul_comm]⟩
  have d2:d∣b:=qf1 h2 ⟨a,by rw [← h,Int.mul_comm]⟩
  have e:b=d:=Int.dvd_antisymm (Int.le_of_lt h1.pos) (Int.le_of_lt h2.pos) d1 d2
  subst e
  exact ⟨Int.eq_of_mul_eq_mul_right (Int.ne_of_gt h1.pos) h,rfl⟩
theorem qhf {q r:Nu} {n m:Int} (h1:Low q.1 q.2) (h2:Low r.1 r.2) (hm:m≠0) (w1:Wo q n m) (w2:Wo r n m):q=r:=by
  unfold Wo at w1 w2
  have e:q.1*r.2=r.1*q.2:=by
    have z:m*(q.1*r.2)=m*(r.1*q.2):=by grind
    exact Int.eq_of_mul_eq_mul_left hm z
  obtain ⟨a,b⟩:=qiA h1 h2 e
  exact Prod.ext a b
theorem qs7 {q:Nu} {n m:Int} (h1:Low q.1 q.2) (hm:0<m) (w:Wo q n m):q.1.natAbs≤n.natAbs∧q.2.natAbs≤m.natAbs:=by
  have e:q=red n m:=qhf h1 (qcg hm) (Int.ne_of_gt hm) w (qfl hm)
  subst e
  exact ⟨(qc1 (a:=n) hm).2.1,(qc1 (a:=n) hm).2.2.1⟩
theorem qme {q r:Nu} (h1:0<q.2) (h2:0<r.2):Low (nadd q r).1 (nadd q r).2:=qcg (Int.mul_pos h1 h2)
theorem qdN {q r:Nu} (h1:0<q.2) (h2:0<r.2):Low (nmul q r).1 (nmul q r).2:=qcg (Int.mul_pos h1 h2)
theorem qrB {q r:Nu} {n k m:Int} (h1:0<q.2) (h2:0<r.2) (w1:Wo q n m) (w2:Wo r k m):Wo (nadd q r) (n+k) m:=by
  have w:=qfl (n:=q.1*r.2+r.1*q.2) (Int.mul_pos h1 h2)
  unfold Wo at *
  unfold nadd
  have z:(q.2*r.2)*((red (q.1*r.2+r.1*q.2) (q.2*r.2)).1*m)=(q.2*r.2)*((n+k)*(red (q.1*r.2+r.1*q.2) (q.2*r.2)).2):=by grind
  exact Int.eq_of_mul_eq_mul_left (Int.ne_of_gt (Int.mul_pos h1 h2)) z
theorem qrC {q r:Nu} {n k m l:Int} (h1:0<q.2) (h2:0<r.2) (w1:Wo q n m) (w2:Wo r k l):Wo (nmul q r) (n*k) (m*l):=by
  have w:=qfl (n:=q.1*r.1) (Int.mul_pos h1 h2)
  unfold Wo at *
  unfold nmul
  have z:(q.2*r.2)*((red (q.1*r.1) (q.2*r.2)).1*(m*l))=(q.2*r.2)*((n*k)*(red (q.1*r.1) (q.2*r.2)).2):=by grind
  exact Int.eq_of_mul_eq_mul_left (Int.ne_of_gt (Int.mul_pos h1 h2)) z
theorem qp0 {m:Int} (hm:0<m):red 0 m=(0,1):=qhf (qcg hm) ⟨by decide,by decide⟩ (Int.ne_of_gt hm) (qfl hm) (by unfold Wo;omega)
noncomputable def qdh (l:List Nu):Nat→Nat
  | 0=>0
  | m+1=>if (l.getD m (1,1)).1=0 then qdh l m else m+1
noncomputable def trim (l:List Nu):List Nu:=l.take (qdh l l.length)
theorem qmf (l:List Nu):∀ m,qdh l m≤m
  | 0=>Nat.le_refl 0
  | m+1=>by
    unfold qdh
    split
    · exact Nat.le_succ_of_le (qmf l m)
    · exact Nat.le_refl _
theorem qiB (l:List Nu):∀ m,qdh l m=0∨(l.getD (qdh l m - 1) (1,1)).1≠0
  | 0=>.inl rfl
  | m+1=>by
    unfold qdh
    split
    · exact qiB l m
    · rename_i h;exact .inr h
noncomputable def Nz (l:List Nu):Prop:=∀ q,l.getLast?=some q→q.1≠0
theorem qrD {l:List Nu} (h:Nz l):trim l=l:=by
  unfold trim
  have e:qdh l l.length=l.length:=by
    cases hl:l.length with
    | zero=>rfl
    | succ m=>
      unfold qdh
      have hm:m<l.length:=by omega
      have z:(l.getD m (1,1)).1≠0:=by
        have q:=h l[m] (by rw [List.getLast?_eq_getElem?,hl];simp [hm])
        rw [List.getD_eq_getElem?_getD,List.getElem?_eq_getElem hm]
        exact q
      rw [if_neg z]
  rw [e,List.take_length]
theorem qhg (l:List Nu):Nz (trim l):=by
  intro q hq
  unfold trim at hq
  have hle:=qmf l l.length
  rw [List.getLast?_eq_getElem?,List.length_take,Nat.min_eq_left hle] at hq
  rcases qiB l l.length with z | z
  · rw [z] at hq;simp at hq
  · by_cases h0:qdh l l.length=0
    · rw [h0] at hq;simp at hq
    · rw [List.getElem?_take_of_lt (by omega)] at hq
      rw [List.getD_eq_getElem?_getD,hq] at z
      exact z
theorem qcQ {l:List Nu} {q:Nu} (h:q∈trim l):q∈l:=List.mem_of_mem_take h
theorem qdO (l:List Nu):(trim l).length≤l.length:=by
  unfold trim;rw [List.length_take];omega
noncomputable def qaI (l:List Nu):Prop:=∀ q∈l,Low q.1 q.2
noncomputable def qh6 (n:Nat) (l:List Nu):Prop:=∀ q∈l,Bd n q.1∧Bd n q.2
noncomputable def qaY (l:List Nu) (i:Nat):Nu:=l.getD i (0,1)
theorem qrE:Low 0 1:=⟨by decide,by decide⟩
theorem qbN {l:List Nu} (h:qaI l) (i:Nat):Low (qaY l i).1 (qaY l i).2:=by
  unfold qaY
  rw [List.getD_eq_getElem?_getD]
  cases e:l[i]? with
  | none=>exact qrE
  | some q=>exact h q (List.mem_of_getElem? e)
theorem qlb {n:Nat} {l:List Nu} (hn:1≤n) (h:qh6 n l) (i:Nat):Bd n (qaY l i).1∧Bd n (qaY l i).2:=by
  unfold qaY
  rw [List.getD_eq_getElem?_getD]
  cases e:l[i]? with
  | none=>exact ⟨Nat.lt_of_lt_of_le (by decide:(0:Int).natAbs<2 ^ 1) (Nat.pow_le_pow_right (by decide) hn),Nat.lt_of_lt_of_le (by decide:(1:Int).natAbs<2 ^ 1) (Nat.pow_le_pow_right (by decide) hn)⟩
  | some q=>exact h q (List.mem_of_getElem? e)
end Bs
namespace Bs
noncomputable def qcE (l:List Nu):Int:=l.foldl (fun B q=>B*(q.2 / ((Int.gcd B q.2:Nat):Int))) 1
noncomputable def qcT (l:List Nu):List Int:=l.map fun q=>q.1*(qcE l / q.2)
theorem qja {B d:Int} (hB:0<B) (hd:0<d):0<B*(d / ((Int.gcd B d:Nat):Int))∧B∣B*(d / ((Int.gcd B d:Nat):Int))∧d∣B*(d / ((Int.gcd B d:Nat):Int))∧(d / ((Int.gcd B d:Nat):Int)).natAbs≤d.natAbs∧0<((Int.gcd B d:Nat):Int)∧((Int.gcd B d:Nat):Int)≤d:=by
  have g0:0<Int.gcd B d:=Int.gcd_pos_of_ne_zero_right B (by omega)
  obtain ⟨k,hk⟩:((Int.gcd B d:Nat):Int)∣d:=Int.gcd_dvd_right B d
  obtain ⟨m,hm⟩:((Int.gcd B d:Nat):Int)∣B:=Int.gcd_dvd_left B d
  have gp:(0:Int)<((Int.gcd B d:Nat):Int):=by omega
  have e:d / ((Int.gcd B d:Nat):Int)=k:=by
    have z:d / ((Int.gcd B d:Nat):Int)=(((Int.gcd B d:Nat):Int)*k) / ((Int.gcd B d:Nat):Int):=by rw [← hk]
    rw [z,Int.mul_ediv_cancel_left _ (Int.ne_of_gt gp)]
  have kp:0<k:=by
    rcases Int.lt_or_le 0 k with h | h
    · exact h
    · exfalso
      have:=Int.mul_nonneg (Int.le_of_lt gp) (show 0≤-k by omega)
      rw [Int.mul_neg] at this
      omega
  have le:((Int.gcd B d:Nat):Int)≤d:=Int.le_of_dvd hd (Int.gcd_dvd_right B d)
  refine ⟨by rw [e];exact Int.mul_pos hB kp,Int.dvd_mul_right ..,?_,?_,gp,le⟩
  · rw [e]
    refine ⟨m,?_⟩
    have z:d*m=((Int.gcd B d:Nat):Int)*k*m:=by rw [← hk]
    have z2:B*k=((Int.gcd B d:Nat):Int)*m*k:=by rw [← hm]
    rw [z,z2];grind
  · rw [e]
    have z:d.natAbs=(Int.gcd B d)*k.natAbs:=by
      have:d.natAbs=(((Int.gcd B d:Nat):Int)*k).natAbs:=by rw [← hk]
      rw [this,Int.natAbs_mul];simp
    rw [z]
    exact Nat.le_mul_of_pos_left _ g0
theorem qkj {b:Nat}:∀ (l:List Nu) (B:Int) (c:Nat),(∀ q∈l,0<q.2∧Bd b q.2)→0<B→Bd c B→
    0<l.foldl (fun B q=>B*(q.2 / ((Int.gcd B q.2:Nat):Int))) B∧B∣l.foldl (fun B q=>B*(q.2 / ((Int.gcd B q.2:Nat):Int))) B∧(∀ q∈l,q.2∣l.foldl (fun B q=>B*(q.2 / ((Int.gcd B q.2:Nat):Int))) B)∧Bd (c+b*l.length) (l.foldl (fun B q=>B*(q.2 / ((Int.gcd B q.2:Nat):Int))) B)
  | [],B,c,_,hB,bB=>⟨hB,Int.dvd_refl B,(fun _ h=>nomatch h),by simpa using bB⟩
  | q::l,B,c,h,hB,bB=>by
    obtain ⟨q0,qb⟩:=h q (List.mem_cons_self ..)
    obtain ⟨s1,s2,s3,s4,_,_⟩:=qja hB q0
    obtain ⟨r1,r2,r3,r4⟩:=qkj l (B*(q.2 / ((Int.gcd B q.2:Nat):Int))) (c+b) (fun r hr=>h r (List.mem_cons_of_mem _ hr)) s1 (bB.mul (qb.le s4))
    rw [List.foldl_cons]
    refine ⟨r1,Int.dvd_trans s2 r2,fun r hr=>?_,r4.mono (by rw [List.length_cons,Nat.mul_add,Nat.mul_one];omega)⟩
    rcases List.mem_cons.mp hr with rfl | hr
    · exact Int.dvd_trans s3 r2
    · exact r3 r hr
theorem qjb {b:Nat} {l:List Nu} (h1:qaI l) (h2:qh6 b l):0<qcE l∧(∀ q∈l,q.2∣qcE l)∧Bd (1+b*l.length) (qcE l):=by
  obtain ⟨r1,_,r3,r4⟩:=qkj (b:=b) l 1 1 (fun q hq=>⟨(h1 q hq).pos,(h2 q hq).2⟩) (by decide) Bd.one
  exact ⟨r1,r3,r4⟩
theorem qeM {B d:Int} (hB:0<B) (hd:0<d):(B / d).natAbs≤B.natAbs:=by
  have h1:0≤B / d:=Int.ediv_nonneg (Int.le_of_lt hB) (Int.le_of_lt hd)
  have h2:B / d≤B:=Int.ediv_le_self d (Int.le_of_lt hB)
  omega
theorem qs8 {q:Nu} {B:Int} (hd:q.2∣B):Wo q (q.1*(B / q.2)) B:=by
  unfold Wo
  rw [Int.mul_assoc,Int.ediv_mul_cancel hd]
theorem qrF {b:Nat} {l:List Nu} (h1:qaI l) (h2:qh6 b l):∀ z∈qcT l,Bd (b+(1+b*l.length)) z:=by
  intro z hz
  obtain ⟨q,hq,e⟩:=List.mem_map.mp hz
  subst e
  exact (h2 q hq).1.mul ((qjb h1 h2).2.2.le (qeM (qjb h1 h2).1 (h1 q hq).pos))
noncomputable def ps (ns ms:List Int):Nat→Nat→Int
  | 0,_=>0
  | i+1,k=>ps ns ms i k+(if i≤k∧k - i<ms.length then ns.getD i 0*ms.getD (k - i) 0 else 0)
noncomputable def in2 (ns ms:List Int) (i j k:Nat):Int:=ps ns ms i k+(if i≤k∧k - i<j then ns.getD i 0*ms.getD (k - i) 0 else 0)
theorem qp1 (ns ms:List Int) (i k:Nat):in2 ns ms i 0 k=ps ns ms i k:=by
  unfold in2;rw [if_neg (by omega)];omega
theorem qmg (ns ms:List Int) (i j k:Nat):in2 ns ms i (j+1) k=if k=i+j then in2 ns ms i j k+ns.getD i 0*ms.getD j 0 else in2 ns ms i j k:=by
  unfold in2
  by_cases h:k=i+j
  · subst h
    rw [if_pos rfl,if_pos ⟨by omega,by omega⟩,if_neg (by omega),show i+j - i=j by omega];omega
  · rw [if_neg h]
    congr 1
    by_cases h2:i≤k∧k - i<j
    · rw [if_pos h2,if_pos ⟨h2.1,by omega⟩]
    · rw [if_neg h2,if_neg (by omega)]
theorem qc2 {c:Nat} {ns:List Int} (h:∀ z∈ns,Bd c z) (i:Nat):Bd c (ns.getD i 0):=by
  rw [List.getD_eq_getElem?_getD]
  cases e:ns[i]? with
  | none=>exact Nat.pow_pos (by decide)
  | some z=>exact h z (List.mem_of_getElem? e)
theorem qch (c:Nat):Bd c 0:=Nat.pow_pos (by decide)
theorem qrG {c d:Nat} {ns ms:List Int} (h1:∀ z∈ns,Bd c z) (h2:∀ z∈ms,Bd d z):∀ i k,Bd (c+d+i) (ps ns ms i k)
  | 0,_=>qch _
  | i+1,k=>by
    unfold ps
    refine (qrG h1 h2 i k).add ?_
    split
    · exact ((qc2 h1 i).mul (qc2 h2 (k - i))).mono (by omega)
    · exact qch _
theorem qs9 {c d:Nat} {ns ms:List Int} (h1:∀ z∈ns,Bd c z) (h2:∀ z∈ms,Bd d z) (i j k:Nat):Bd (c+d+i+1) (in2 ns ms i j k):=by
  unfold in2
  refine (qrG h1 h2 i k).add ?_
  split
  · exact ((qc2 h1 i).mul (qc2 h2 (k - i))).mono (by omega)
  · exact qch _
end Bs
namespace Bs
noncomputable def val (q:Nu):Rat:=(q.1:Rat) / (q.2:Rat)
theorem zdiv (x:Rat):0 / x=0:=by rw [Rat.div_def,Rat.zero_mul]
theorem qa3 {z:Int} (h:z≠0):(z:Rat)≠0:=by exact_mod_cast h
theorem qhh {q:Nu} {n m:Int} (hq:q.2≠0) (hm:m≠0) (w:Wo q n m):val q=(n:Rat) / (m:Rat):=by
  have h1:=qa3 hq
  have h2:=qa3 hm
  have w':(q.1:Rat)*m=n*q.2:=by unfold Wo at w;exact_mod_cast w
  unfold val
  grind
theorem qjc {q r:Nu} (h1:Low q.1 q.2) (h2:Low r.1 r.2) (h:val q=val r):q=r:=by
  have a:=qa3 (Int.ne_of_gt h1.pos)
  have b:=qa3 (Int.ne_of_gt h2.pos)
  unfold val at h
  have z:(q.1:Rat)*r.2=r.1*q.2:=by grind
  have z':q.1*r.2=r.1*q.2:=by exact_mod_cast z
  obtain ⟨x,y⟩:=qiA h1 h2 z'
  exact Prod.ext x y
theorem qjd {n m:Int} (hm:0<m):val (red n m)=(n:Rat) / (m:Rat):=qhh (Int.ne_of_gt (qcg hm).pos) (Int.ne_of_gt hm) (qfl hm)
theorem qp2 {q r:Nu} (h1:0<q.2) (h2:0<r.2):val (nadd q r)=val q+val r:=by
  unfold nadd
  rw [qjd (Int.mul_pos h1 h2)]
  have a:=qa3 (Int.ne_of_gt h1)
  have b:=qa3 (Int.ne_of_gt h2)
  unfold val
  push_cast
  grind
theorem qje {q r:Nu} (h1:0<q.2) (h2:0<r.2):val (nmul q r)=val q*val r:=by
  unfold nmul
  rw [qjd (Int.mul_pos h1 h2)]
  have a:=qa3 (Int.ne_of_gt h1)
  have b:=qa3 (Int.ne_of_gt h2)
  unfold val
  push_cast
  grind
noncomputable def qcF (n m:Int):Nu:=if m<0 then red (-n) (-m) else red n m
theorem qeC {n m:Int} (hm:m≠0):Low (qcF n m).1 (qcF n m).2:=by
  unfold qcF
  split
  · exact qcg (by omega)
  · exact qcg (by omega)
theorem qeD {n m:Int} (hm:m≠0):val (qcF n m)=(n:Rat) / (m:Rat):=by
  unfold qcF
  split
  · rw [qjd (by omega)]
    have:=qa3 hm
    push_cast
    grind
  · exact qjd (by omega)
theorem qp3 {n m N:Int} (hm:m≠0) (h:m∣N):(qcF n m).2∣N:=by
  have aux:∀ {n m:Int},0<m→(red n m).2∣m:=fun {n m} h0=>by
    unfold red
    exact Int.ediv_dvd_of_dvd (Int.gcd_dvd_right n m)
  unfold qcF
  split
  · exact Int.dvd_trans (aux (by omega)) (Int.dvd_trans (Int.neg_dvd.mpr (Int.dvd_refl m)) h)
  · exact Int.dvd_trans (aux (by omega)) h
theorem qox {c d:Nat} {n m:Int} (hm:m≠0) (h1:Bd c n) (h2:Bd d m):Bd c (qcF n m).1∧Bd d (qcF n m).2:=by
  have aux:∀ {n m:Int},0<m→Bd c n→Bd d m→Bd c (red n m).1∧Bd d (red n m).2:=fun {n m} h0 h1 h2=>by
    have w:=qs7 (qcg h0) h0 (qfl (n:=n) h0)
    exact ⟨h1.le w.1,h2.le w.2⟩
  unfold qcF
  split
  · exact aux (by omega) h1.neg h2.neg
  · exact aux (by omega) h1 h2
noncomputable def pwo (l:List Nu) (k:Nat):Rat:=val (qaY l k)
theorem quE {q:Nu} (h:Low q.1 q.2) (z:q.1=0):q=(0,1):=qjc h qrE (by unfold val;rw [z];show ((0:Int):Rat) / _=((0:Int):Rat) / _;rw [show ((0:Int):Rat)=0 from rfl,zdiv,zdiv])
theorem qoy {l:List Nu} (hl:qaI l) (k:Nat):qaY (trim l) k=qaY l k:=by
  have key:∀ (m:Nat),m≤l.length→(∀ j,m≤j→j<l.length→(qaY l j).1=0)→∀ j,qdh l m≤j→j<l.length→(qaY l j).1=0:=by
    intro m
    induction m with
    | zero=>intro _ h j hj1 hj2;exact h j (by omega) hj2
    | succ m ih=>
      intro hm h j h1 h2
      rw [show qdh l (m+1)=if (l.getD m (1,1)).1=0 then qdh l m else m+1 from rfl] at h1
      split at h1
      · rename_i z
        refine ih (by omega) (fun j hj1 hj2=>?_) j h1 h2
        by_cases e:j=m
        · subst e
          unfold qaY
          rw [List.getD_eq_getElem?_getD,List.getElem?_eq_getElem hj2] at z ⊢
          exact z
        · exact h j (by omega) hj2
      · exact h j h1 h2
  unfold trim
  by_cases h1:k<qdh l l.length
  · unfold qaY
    rw [List.getD_eq_getElem?_getD,List.getD_eq_getElem?_getD,List.getElem?_take_of_lt h1]
  · have e:qaY (l.take (qdh l l.length)) k=(0,1):=by
      unfold qaY
      rw [List.getD_eq_getElem?_getD,List.getElem?_eq_none (by rw [List.length_take];omega)]
      rfl
    rw [e]
    by_cases h2:k<l.length
    · exact (quE (qbN hl k) (key l.length (Nat.le_refl _) (fun j a b=>absurd b (by omega)) k (by omega) h2)).symm
    · unfold qaY
      rw [List.getD_eq_getElem?_getD,List.getElem?_eq_none (by omega)]
      rfl
theorem qjf {l:List Nu} (hl:qaI l) (k:Nat):pwo (trim l) k=pwo l k:=by unfold pwo;rw [qoy hl]
theorem qp4 {l:List Nu} {k:Nat} (h:l.length≤k):qaY l k=(0,1):=by
  unfold qaY
  rw [List.getD_eq_getElem?_getD,List.getElem?_eq_none h]
  rfl
theorem qcc {l:List Nu} {k:Nat} (h:l.length≤k):pwo l k=0:=by
  unfold pwo
  rw [qp4 h]
  exact zdiv _
noncomputable def cv (f g:Nat→Rat):Nat→Nat→Rat
  | 0,_=>0
  | n+1,k=>cv f g n k+(if n≤k then f n*g (k - n) else 0)
theorem qqS {f f' g:Nat→Rat} {s:Nat} {x:Rat} (h0:f s=0) (h1:f' s=x) (h2:∀ i,i≠s→f' i=f i):∀ n k,cv f' g n k=cv f g n k+(if s<n∧s≤k then x*g (k - s) else 0)
  | 0,k=>by unfold cv;rw [if_neg (by omega)];exact (Rat.add_zero 0).symm
  | n+1,k=>by
    unfold cv
    rw [qqS h0 h1 h2 n k]
    by_cases e:n=s
    · subst e
      rw [h0,h1]
      by_cases hk:n≤k
      · rw [if_pos hk,if_pos hk,if_neg (by omega),if_pos ⟨by omega,hk⟩]
        grind
      · rw [if_neg hk,if_neg hk,if_neg (by omega),if_neg (by omega)]
    · rw [h2 n e]
      have e1:(s<n+1∧s≤k)↔(s<n∧s≤k):=by omega
      simp only [e1]
      grind
theorem qoz {f g:Nat→Rat}:∀ n k,(∀ i,i<n→f i=0)→cv f g n k=0
  | 0,_,_=>rfl
  | n+1,k,h=>by
    unfold cv
    rw [qoz n k fun i hi=>h i (by omega),h n (by omega)]
    split <;> grind
theorem qoA {f g:Nat→Rat} {n:Nat} (h:∀ i,n≤i→f i=0):∀ d k,cv f g (n+d) k=cv f g n k
  | 0,_=>rfl
  | d+1,k=>by
    show cv f g (n+d) k+(if n+d≤k then f (n+d)*g (k - (n+d)) else 0)=_
    rw [qoA h d k,h (n+d) (by omega)]
    split <;> grind
theorem qmh {f f' g:Nat→Rat} (h:∀ i,f i=f' i):∀ n k,cv f g n k=cv f' g n k
  | 0,_=>rfl
  | n+1,k=>by unfold cv;rw [qmh h n k,h n]
noncomputable def ovN (l:List Nu) (M:Int):List Int:=l.map fun q=>q.1*(M / q.2)
noncomputable def Ov (l:List Nu) (M:Int):Prop:=0<M∧∀ q∈l,q.2∣M
theorem qoB {l:List Nu} {M:Int} (i:Nat):(ovN l M).getD i 0=(qaY l i).1*(M / (qaY l i).2):=by
  unfold ovN qaY
  rw [List.getD_eq_getElem?_getD,List.getD_eq_getElem?_getD,List.getElem?_map]
  cases l[i]? with
  | none=>simp
  | some q=>rfl
theorem Ov.get {l:List Nu} {M:Int} (h:Ov l M) (i:Nat):(qaY l i).2∣M:=by
  unfold qaY
  rw [List.getD_eq_getElem?_getD]
  cases e:l[i]? with
  | none=>exact Int.one_dvd M
  | some q=>exact h.2 q (List.mem_of_getElem? e)
theorem qoC {l:List Nu} {M:Int} (h:Ov l M) (i:Nat):Wo (qaY l i) ((ovN l M).getD i 0) M:=by
  rw [qoB]
  exact qs8 (h.get i)
theorem qlc {l:List Nu} {M:Int} (hl:qaI l) (h:Ov l M) (i:Nat):pwo l i=((ovN l M).getD i 0:Rat) / (M:Rat):=qhh (Int.ne_of_gt (qbN hl i).pos) (Int.ne_of_gt h.1) (qoC h i)
noncomputable def qtK (l m:List Nu) (M1 M2:Int) (n:Nat):List Nu:=(List.range n).map fun k=>red (ps (ovN l M1) (ovN m M2) l.length k) (M1*M2)
theorem lcm_dvd {B d M:Int} (hB:0<B) (hd:0<d) (h1:B∣M) (h2:d∣M):B*(d / ((Int.gcd B d:Nat):Int))∣M:=by
  have z:((Nat.lcm B.natAbs d.natAbs:Nat):Int)∣M:=Int.natAbs_dvd_natAbs.mp (by rw [Int.natAbs_natCast];exact Nat.lcm_dvd (Int.natAbs_dvd_natAbs.mpr h1) (Int.natAbs_dvd_natAbs.mpr h2))
  have e:((Nat.lcm B.natAbs d.natAbs:Nat):Int)=B*(d / ((Int.gcd B d:Nat):Int)):=by
    unfold Nat.lcm
    rw [Nat.mul_div_assoc _ (Nat.gcd_dvd_right _ _)]
    push_cast
    rw [show ((B.natAbs:Nat):Int)=B by omega,show ((d.natAbs:Nat):Int)=d by omega]
    rfl
  rw [← e]
  exact z
theorem qjg {M:Int}:∀ (l:List Nu) (B:Int),(∀ q∈l,0<q.2∧q.2∣M)→0<B→B∣M→0<l.foldl (fun B q=>B*(q.2 / ((Int.gcd B q.2:Nat):Int))) B∧l.foldl (fun B q=>B*(q.2 / ((Int.gcd B q.2:Nat):Int))) B∣M
  | [],B,_,hB,h=>⟨hB,h⟩
  | q::l,B,hq,hB,h=>by
    obtain ⟨q0,qd⟩:=hq q (List.mem_cons_self ..)
    obtain ⟨s1,_⟩:=qja hB q0
    exact qjg l _ (fun r hr=>hq r (List.mem_cons_of_mem _ hr)) s1 (lcm_dvd hB q0 h qd)
theorem qb7 {n:Nat} {a b:Int} (hb:b≠0) (h:a∣b) (bd:Bd n b):Bd n a:=bd.le (Nat.le_of_dvd (by omega) (Int.natAbs_dvd_natAbs.mpr h))
theorem qbT {l:List Nu} (hl:qaI l):Ov l (qcE l):=by
  obtain ⟨a,b,_⟩:=qjb (b:=(l.foldl (fun n q=>n+q.1.natAbs+q.2.natAbs) 1)) hl (fun q hq=>by
    have big:∀ (l:List Nu) (n:Nat),n≤l.foldl (fun n q=>n+q.1.natAbs+q.2.natAbs) n∧∀ q∈l,q.1.natAbs+q.2.natAbs≤l.foldl (fun n q=>n+q.1.natAbs+q.2.natAbs) n:=by
      intro l
      induction l with
      | nil=>intro n;exact ⟨Nat.le_refl _,fun _ h=>nomatch h⟩
      | cons r l ih=>
        intro n
        obtain ⟨i1,i2⟩:=ih (n+r.1.natAbs+r.2.natAbs)
        rw [List.foldl_cons]
        refine ⟨by omega,fun q hq=>?_⟩
        rcases List.mem_cons.mp hq with rfl | hq
        · omega
        · exact i2 q hq
    have z:=(big l 1).2 q hq
    exact ⟨Nat.lt_of_le_of_lt (by omega) (Nat.lt_two_pow_self),Nat.lt_of_le_of_lt (by omega) (Nat.lt_two_pow_self)⟩)
  exact ⟨a,b⟩
theorem qmi {l:List Nu} {M:Int} (hl:qaI l) (h:Ov l M):qcE l∣M:=(qjg l 1 (fun q hq=>⟨(hl q hq).pos,h.2 q hq⟩) (by decide) (Int.one_dvd M)).2
theorem qjh (l:List Nu):qcT l=ovN l (qcE l):=rfl
end Bs
namespace Bs
section
variable {α:Type} [Lean.Grind.CommRing α]
noncomputable def cvL:List α→(Nat→α)→Nat→α
  | [],_,_=>0
  | x::a,b,k=>x*b k+(match k with | 0=>0 | k+1=>cvL a b k)
theorem qaP (b:Nat→α) (k:Nat):cvL [] b k=0:=rfl
theorem qaB (x:α) (a:List α) (b:Nat→α):cvL (x::a) b 0=x*b 0+0:=rfl
theorem qay (x:α) (a:List α) (b:Nat→α) (k:Nat):cvL (x::a) b (k+1)=x*b (k+1)+cvL a b k:=rfl
theorem qan {b c:Nat→α} (h:∀ k,b k=c k):∀ (a:List α) (k:Nat),cvL a b k=cvL a c k
  | [],_=>rfl
  | x::a,0=>by rw [qaB,qaB,h 0]
  | x::a,k+1=>by rw [qay,qay,h (k+1),qan h a k]
theorem qej (b c:Nat→α):∀ (a:List α) (k:Nat),cvL a (fun k=>b k+c k) k=cvL a b k+cvL a c k
  | [],_=>by rw [qaP,qaP,qaP];grind
  | x::a,0=>by rw [qaB,qaB,qaB];grind
  | x::a,k+1=>by rw [qay,qay,qay,qej b c a k];grind
theorem qbk (s:α) (b:Nat→α):∀ (a:List α) (k:Nat),cvL a (fun k=>s*b k) k=s*cvL a b k
  | [],_=>by rw [qaP,qaP];grind
  | x::a,0=>by rw [qaB,qaB];grind
  | x::a,k+1=>by rw [qay,qay,qbk s b a k];grind
noncomputable def up1 (b:Nat→α):Nat→α
  | 0=>0
  | k+1=>b k
theorem qoD (b:Nat→α):∀ (a:List α) (k:Nat),cvL a (up1 b) k=up1 (cvL a b) k
  | [],0=>rfl
  | [],k+1=>rfl
  | x::a,0=>by rw [qaB];show x*0+0=0;grind
  | x::a,1=>by
    rw [qay]
    have h:=qoD b a 0
    rw [h]
    show x*b 0+0=cvL (x::a) b 0
    rw [qaB]
  | x::a,k+2=>by
    rw [qay,qoD b a (k+1)]
    show x*b (k+1)+cvL a b k=cvL (x::a) b (k+1)
    rw [qay]
theorem qdP (x:α) (a:List α) (b:Nat→α) (k:Nat):cvL (x::a) b k=x*b k+up1 (cvL a b) k:=by
  cases k with
  | zero=>exact qaB x a b
  | succ k=>exact qay x a b k
theorem qdQ (c:Nat→α):∀ (a b:List α) (k:Nat),cvL a (cvL b c) k=cvL b (cvL a c) k
  | [],b,k=>by
    rw [qaP]
    have e:cvL b (cvL [] c) k=cvL b (fun k=>0*c k) k:=qan (fun k=>by rw [qaP];grind) b k
    rw [e,qbk]
    grind
  | x::a,b,k=>by
    rw [qdP]
    have e:cvL b (cvL (x::a) c) k=cvL b (fun k=>x*c k+up1 (cvL a c) k) k:=qan (fun k=>qdP x a c k) b k
    rw [e,qej,qbk,qoD]
    have e2:up1 (cvL a (cvL b c)) k=up1 (cvL b (cvL a c)) k:=by
      cases k with
      | zero=>rfl
      | succ k=>exact qdQ c a b k
    rw [e2]
noncomputable def qhi:Nat→α
  | 0=>1
  | _+1=>0
theorem qhj:∀ (a:List α) (k:Nat),cvL a qhi k=a.getD k 0
  | [],k=>by rw [qaP];simp
  | x::a,0=>by rw [qaB];show x*1+0=x;grind
  | x::a,k+1=>by
    rw [qay,qhj a k]
    show x*0+a.getD k 0=(x::a).getD (k+1) 0
    rw [List.getD_cons_succ]
    grind
end
end Bs
namespace Bs
theorem qld {n k:Nat}:k∣2 ^ n↔∃ a,a≤n∧k=2 ^ a:=by
  constructor
  · induction n generalizing k with
    | zero=>intro h;exact ⟨0,Nat.le_refl 0,by simpa using h⟩
    | succ n ih=>
      intro h
      by_cases h2:2∣k
      · obtain ⟨j,rfl⟩:=h2
        rw [Nat.pow_succ,Nat.mul_comm (2 ^ n) 2] at h
        obtain ⟨a,ha,e⟩:=ih (Nat.dvd_of_mul_dvd_mul_left (by decide) h)
        exact ⟨a+1,by omega,by rw [e,Nat.pow_succ,Nat.mul_comm]⟩
      · have c:Nat.Coprime k 2:=by
          have:Nat.gcd k 2∣2:=Nat.gcd_dvd_right k 2
          have h3:=Nat.le_of_dvd (by decide) this
          have h4:Nat.gcd k 2≠2:=fun z=>h2 (by rw [← z];exact Nat.gcd_dvd_left k 2)
          have h5:Nat.gcd k 2≠0:=fun z=>by have:=Nat.eq_zero_of_gcd_eq_zero_right z;omega
          show Nat.gcd k 2=1
          omega
        rw [Nat.pow_succ] at h
        obtain ⟨a,ha,e⟩:=ih (c.dvd_of_dvd_mul_right h)
        exact ⟨a,by omega,e⟩
  · rintro ⟨a,ha,rfl⟩
    exact Nat.pow_dvd_pow 2 ha
structure Pr (p:Nat):Prop where
  two:2≤p
  div:∀ d,d∣p→d=1∨d=p
theorem Pr.cop {p:Nat} (h:Pr p) {a:Nat} (ha:¬ p∣a):Nat.gcd a p=1:=by
  rcases h.div _ (Nat.gcd_dvd_right a p) with e | e
  · exact e
  · exact absurd (e ▸ Nat.gcd_dvd_left a p) ha
theorem Pr.mul {p:Nat} (h:Pr p) {a b:Nat} (hd:p∣a*b):p∣a∨p∣b:=by
  by_cases ha:p∣a
  · exact .inl ha
  · refine .inr (Nat.Coprime.dvd_of_dvd_mul_left (k:=p) (m:=a) ?_ hd)
    have:=h.cop ha
    rw [Nat.gcd_comm] at this
    exact this
theorem Pr.mulI {p:Nat} (h:Pr p) {a b:Int} (hd:(p:Int)∣a*b):(p:Int)∣a∨(p:Int)∣b:=by
  have z:=Int.natAbs_dvd_natAbs.mpr hd
  rw [Int.natAbs_mul,Int.natAbs_natCast] at z
  rcases h.mul z with e | e
  · exact .inl (Int.natAbs_dvd_natAbs.mp (by rw [Int.natAbs_natCast];exact e))
  · exact .inr (Int.natAbs_dvd_natAbs.mp (by rw [Int.natAbs_natCast];exact e))
theorem qkk {m:Nat} (hm:2≤m):∃ q,Pr q∧q∣m∧(q=m∨q*q≤m):=by
  have key:∀ n d,2≤d→(∀ e,2≤e→e<d→¬ e∣m)→m=d+n→∃ q,2≤q∧q∣m∧∀ e,2≤e→e<q→¬ e∣m:=by
    intro n
    induction n with
    | zero=>intro d hd h e;exact ⟨d,hd,by rw [e];exact Nat.dvd_refl _,h⟩
    | succ n ih=>
      intro d hd h e
      by_cases hdm:d∣m
      · exact ⟨d,hd,hdm,h⟩
      · refine ih (d+1) (by omega) (fun x hx hx2=>?_) (by omega)
        by_cases hxd:x=d
        · rw [hxd];exact hdm
        · exact h x hx (by omega)
  obtain ⟨q,q2,qm,ql⟩:=key (m - 2) 2 (Nat.le_refl 2) (fun e h1 h2=>absurd h2 (by omega)) (by omega)
  refine ⟨q,⟨q2,fun d hd=>?_⟩,qm,?_⟩
  · by_cases h2:2≤d
    · right
      rcases Nat.lt_or_ge d q with h | h
      · exact absurd (Nat.dvd_trans hd qm) (ql d h2 h)
      · exact Nat.le_antisymm (Nat.le_of_dvd (by omega) hd) h
    · left
      have:d≠0:=fun z=>by rw [z] at hd;have:=Nat.eq_zero_of_zero_dvd hd;omega
      omega
  · obtain ⟨k,hk⟩:=qm
    by_cases k1:k≤1
    · left
      have:k=1:=by
        rcases Nat.eq_zero_or_pos k with z | z
        · rw [z] at hk;omega
        · omega
      rw [hk,this,Nat.mul_one]
    · right
      rcases Nat.lt_or_ge k q with h | h
      · exact absurd ⟨q,by rw [hk,Nat.mul_comm]⟩ (ql k (by omega) h)
      · rw [hk];exact Nat.mul_le_mul_left q h
theorem pigeon:∀ (n m:Nat) (f:Nat→Nat),(∀ i,i<m→f i<n)→(∀ i j,i<m→j<m→f i=f j→i=j)→m≤n
  | 0,m,f,h,_=>by
    rcases Nat.eq_zero_or_pos m with z | z
    · omega
    · exact absurd (h 0 z) (by omega)
  | n+1,0,_,_,_=>by omega
  | n+1,m+1,f,h,inj=>by
    have:=pigeon n m (fun i=>if f i=n then f m else f i) (fun i hi=>by
      show (if f i=n then f m else f i)<n
      by_cases e:f i=n
      · rw [if_pos e]
        have h1:=h m (Nat.lt_succ_self m)
        have:f m≠n:=fun z=>absurd (inj i m (by omega) (by omega) (by rw [e,z])) (by omega)
        omega
      · rw [if_neg e]
        have h1:=h i (by omega)
        omega) (fun i j hi hj e=>by
      have e:(if f i=n then f m else f i)=(if f j=n then f m else f j):=e
      by_cases ei:f i=n
      · rw [if_pos ei] at e
        by_cases ej:f j=n
        · exact inj i j (by omega) (by omega) (by rw [ei,ej])
        · rw [if_neg ej] at e
          exact absurd (inj m j (by omega) (by omega) e) (by omega)
      · rw [if_neg ei] at e
        by_cases ej:f j=n
        · rw [if_pos ej] at e
          exact absurd (inj i m (by omega) (by omega) e) (by omega)
        · rw [if_neg ej] at e
          exact inj i j (by omega) (by omega) e)
    omega
noncomputable abbrev Rt:=Int×Int
noncomputable def rmul (q:Int) (x y:Rt):Rt:=((x.1*y.1+3*(x.2*y.2)) % q,(x.1*y.2+x.2*y.1) % q)
noncomputable def rpow (q:Int):Nat→Rt
  | 0=>(1 % q,0 % q)
  | n+1=>rmul q (2,1) (rpow q n)
theorem qb0 {q a b c:Int} (h:a - b=q*c):a % q=b % q:=by
  have:a=b+q*c:=by omega
  rw [this,Int.add_mul_emod_self_left]
theorem em {a q:Int}:∃ c,a % q=a - q*c:=⟨a / q,by have:=Int.emod_add_mul_ediv a q;omega⟩
theorem qcU (q:Int) (x y z:Rt):rmul q (rmul q x y) z=rmul q x (rmul q y z):=by
  obtain ⟨a,b⟩:=x
  obtain ⟨c,d⟩:=y
  obtain ⟨e,f⟩:=z
  obtain ⟨c1,h1⟩:=em (a:=a*c+3*(b*d)) (q:=q)
  obtain ⟨c2,h2⟩:=em (a:=a*d+b*c) (q:=q)
  obtain ⟨c3,h3⟩:=em (a:=c*e+3*(d*f)) (q:=q)
  obtain ⟨c4,h4⟩:=em (a:=c*f+d*e) (q:=q)
  refine Prod.ext ?_ ?_
  · show ((a*c+3*(b*d)) % q*e+3*((a*d+b*c) % q*f)) % q=(a*((c*e+3*(d*f)) % q)+3*(b*((c*f+d*e) % q))) % q
    rw [h1,h2,h3,h4]
    exact qb0 (c:=a*c3+3*b*c4 - c1*e - 3*c2*f) (by grind)
  · show ((a*c+3*(b*d)) % q*f+((a*d+b*c) % q*e)) % q=(a*((c*f+d*e) % q)+(b*((c*e+3*(d*f)) % q))) % q
    rw [h1,h2,h3,h4]
    exact qb0 (c:=a*c4+b*c3 - c1*f - c2*e) (by grind)
theorem qoE (q:Int) (x y:Rt):rmul q x y=rmul q y x:=by
  refine Prod.ext ?_ ?_
  · show (x.1*y.1+3*(x.2*y.2)) % q=(y.1*x.1+3*(y.2*x.2)) % q
    congr 1;grind
  · show (x.1*y.2+x.2*y.1) % q=(y.1*x.2+y.2*x.1) % q
    congr 1;grind
noncomputable def rn (q:Int) (x:Rt):Prop:=x.1 % q=x.1∧x.2 % q=x.2
theorem qrH (q:Int) (x y:Rt):rn q (rmul q x y):=⟨Int.emod_emod ..,Int.emod_emod ..⟩
theorem qe4 (q:Int):∀ n,rn q (rpow q n)
  | 0=>⟨Int.emod_emod ..,Int.emod_emod ..⟩
  | _+1=>qrH q _ _
theorem rone (q:Int) {x:Rt} (h:rn q x):rmul q (rpow q 0) x=x:=by
  obtain ⟨c1,h1⟩:=em (a:=1) (q:=q)
  obtain ⟨c2,h2⟩:=em (a:=0) (q:=q)
  refine Prod.ext ?_ ?_
  · show (1 % q*x.1+3*(0 % q*x.2)) % q=x.1
    rw [h1,h2,← h.1]
    rw [qb0 (b:=x.1 % q) (c:=- c1*(x.1 % q) - 3*c2*x.2) (by grind),Int.emod_emod]
  · show (1 % q*x.2+0 % q*x.1) % q=x.2
    rw [h1,h2,← h.2]
    rw [qb0 (b:=x.2 % q) (c:=- c1*(x.2 % q) - c2*x.1) (by grind),Int.emod_emod]
theorem qdR (q:Int):∀ m n,rpow q (m+n)=rmul q (rpow q m) (rpow q n)
  | 0,n=>by rw [Nat.zero_add,rone q (qe4 q n)]
  | m+1,n=>by
    rw [Nat.succ_add]
    show rmul q (2,1) (rpow q (m+n))=rmul q (rmul q (2,1) (rpow q m)) (rpow q n)
    rw [qdR q m n,qcU]
noncomputable def rinv (q:Int):Nat→Rt
  | 0=>(1 % q,0 % q)
  | n+1=>rmul q (2,-1) (rinv q n)
theorem r21 (q:Int):rmul q (2,-1) (2,1)=rpow q 0:=by
  refine Prod.ext ?_ ?_
  · show (2*2+3*(-1*1)) % q=1 % q;rfl
  · show (2*1 + -1*2) % q=0 % q;rfl
theorem qmj (q:Int):∀ n,rmul q (rinv q n) (rpow q n)=rpow q 0
  | 0=>rone q (qe4 q 0)
  | n+1=>by
    show rmul q (rmul q (2,-1) (rinv q n)) (rmul q (2,1) (rpow q n))=_
    rw [qcU,← qcU q (rinv q n),qoE q (rinv q n) (2,1),qcU q (2,1),qmj q n,← qcU,r21,rone q (qe4 q 0)]
theorem qji (q:Int) {m:Nat} (h:rpow q m=rpow q 0):∀ k,rpow q (m*k)=rpow q 0
  | 0=>rfl
  | k+1=>by rw [Nat.mul_succ,qdR,qji q h k,h,rone q (qe4 q 0)]
theorem rord (q:Int) {n:Nat} (h1:rpow q (2 ^ (n+1))=rpow q 0) (h2:rpow q (2 ^ n)≠rpow q 0):∀ d,0<d→d<2 ^ (n+1)→rpow q d≠rpow q 0:=by
  intro d
  induction d using Nat.strongRecOn with
  | _ d ih=>
  intro d0 hd e
  have hr:=Nat.mod_lt (2 ^ (n+1)) d0
  have er:rpow q (2 ^ (n+1) % d)=rpow q 0:=by
    have e1:=Nat.div_add_mod (2 ^ (n+1)) d
    rw [← e1,qdR,qji q e,rone q (qe4 q _)] at h1
    exact h1
  rcases Nat.eq_zero_or_pos (2 ^ (n+1) % d) with z | z
  · obtain ⟨k,hk⟩:=Nat.dvd_of_mod_eq_zero z
    obtain ⟨a,ha,hka⟩:=(qld (n:=n+1) (k:=d)).mp ⟨k,hk⟩
    have hlt:a≤n:=by
      rcases Nat.lt_or_ge n a with h | h
      · exfalso
        have:a=n+1:=by omega
        rw [this] at hka
        omega
      · exact h
    apply h2
    have e2:2 ^ n=d*2 ^ (n - a):=by rw [hka,← Nat.pow_add];congr 1;omega
    rw [e2]
    exact qji q e _
  · exact ih _ hr z (by omega) er
theorem rnorm (q:Int):∀ n,∃ c,(rpow q n).1*(rpow q n).1 - 3*((rpow q n).2*(rpow q n).2) - 1=q*c
  | 0=>by
    obtain ⟨c1,h1⟩:=em (a:=1) (q:=q)
    obtain ⟨c2,h2⟩:=em (a:=0) (q:=q)
    refine ⟨-2*c1+q*c1*c1 - 3*q*c2*c2,?_⟩
    show (1 % q)*(1 % q) - 3*((0 % q)*(0 % q)) - 1=_
    rw [h1,h2];grind
  | n+1=>by
    obtain ⟨c,hc⟩:=rnorm q n
    obtain ⟨c1,h1⟩:=em (a:=2*(rpow q n).1+3*(1*(rpow q n).2)) (q:=q)
    obtain ⟨c2,h2⟩:=em (a:=2*(rpow q n).2+1*(rpow q n).1) (q:=q)
    have e1:(rpow q (n+1)).1=2*(rpow q n).1+3*(1*(rpow q n).2) - q*c1:=h1
    have e2:(rpow q (n+1)).2=2*(rpow q n).2+1*(rpow q n).1 - q*c2:=h2
    rw [e1,e2]
    generalize (rpow q n).1=a at *
    generalize (rpow q n).2=b at *
    exact ⟨c - 2*c1*(2*a+3*b)+q*c1*c1+6*c2*(2*b+a) - 3*q*c2*c2,by grind⟩
theorem qrI (q:Int) (n:Nat):∃ c,2*(rpow q (n+n)).1=(2*(rpow q n).1)*(2*(rpow q n).1) - 2+q*c:=by
  obtain ⟨c,hc⟩:=rnorm q n
  rw [qdR]
  obtain ⟨c1,h1⟩:=em (a:=(rpow q n).1*(rpow q n).1+3*((rpow q n).2*(rpow q n).2)) (q:=q)
  refine ⟨-2*c1 - 2*c,?_⟩
  show 2*(((rpow q n).1*(rpow q n).1+3*((rpow q n).2*(rpow q n).2)) % q)=_
  rw [h1];grind
noncomputable def ll (M:Nat):Nat→Nat→Nat
  | 0,s=>s
  | k+1,s=>ll M k ((s*s+(M - 2)) % M)
theorem qoF {q:Int} {M:Nat} (hM:2≤M) (hq:q∣(M:Int)):∀ (k t s:Nat),q∣2*(rpow q (2 ^ t)).1 - (s:Int)→q∣2*(rpow q (2 ^ (t+k))).1 - (ll M k s:Int)
  | 0,t,s,h=>h
  | k+1,t,s,h=>by
    have:=qoF hM hq k (t+1) ((s*s+(M - 2)) % M) (by
      obtain ⟨c,hc⟩:=qrI q (2 ^ t)
      obtain ⟨d,hd⟩:=h
      obtain ⟨m,hm⟩:=hq
      have e:(2:Nat) ^ (t+1)=2 ^ t+2 ^ t:=by rw [Nat.pow_succ];omega
      rw [e,hc]
      have z:(((s*s+(M - 2)) % M:Nat):Int)=(s:Int)*s+(M - 2) - M*(((s*s+(M - 2)) / M:Nat):Int):=by
        have:=Nat.mod_add_div (s*s+(M - 2)) M
        have z2:(((s*s+(M - 2)) % M:Nat):Int)+(M:Int)*(((s*s+(M - 2)) / M:Nat):Int)=(s:Int)*s+(M - 2):=by
          have:=congrArg (fun x:Nat=>(x:Int)) this
          simp only [Int.natCast_add,Int.natCast_mul] at this
          rw [this,Int.natCast_sub hM]
          rfl
        omega
      rw [z]
      generalize (((s*s+(M - 2)) / M:Nat):Int)=w
      generalize (rpow q (2 ^ t)).1=a at hd
      have hd':2*a=s+q*d:=by omega
      rw [hd',hm]
      exact ⟨2*s*d+q*d*d+c - m+m*w,by grind⟩)
    rw [show t+(k+1)=t+1+k by omega]
    exact this
theorem qp5 {n:Nat} (h:ll (2 ^ (n+2) - 1) n 4 % (2 ^ (n+2) - 1)=0):Pr (2 ^ (n+2) - 1):=by
  have big:4≤2 ^ (n+2):=by rw [Nat.pow_add];have:=Nat.one_le_two_pow (n:=n);omega
  generalize hM:2 ^ (n+2) - 1=M at h ⊢
  obtain ⟨q,pq,qM,hq⟩:=qkk (m:=M) (by omega)
  rcases hq with e | hq
  · rw [← e];exact pq
  exfalso
  have qI:(q:Int)∣(M:Int):=Int.natCast_dvd_natCast.mpr qM
  have q2:=pq.two
  have odd:q≠2:=fun z=>by
    rw [z] at qM
    have:2 ^ (n+2)=2*2 ^ (n+1):=by rw [Nat.pow_succ 2 (n+1)];omega
    omega
  have s0:(q:Int)∣2*(rpow q (2 ^ (0+n))).1 - (ll M n 4:Int):=qoF (by omega) qI n 0 4 (by
    show (q:Int)∣2*(rmul q (2,1) (rpow q 0)).1 - 4
    obtain ⟨c1,h1⟩:=em (a:=1) (q:=(q:Int))
    obtain ⟨c2,h2⟩:=em (a:=0) (q:=(q:Int))
    show (q:Int)∣2*((2*(1 % (q:Int))+3*(1*(0 % (q:Int)))) % (q:Int)) - 4
    obtain ⟨c3,h3⟩:=em (a:=2*(1 % (q:Int))+3*(1*(0 % (q:Int)))) (q:=(q:Int))
    rw [h3,h1,h2]
    exact ⟨-4*c1 - 6*c2 - 2*c3,by grind⟩)
  have s1:(q:Int)∣(ll M n 4:Int):=Int.natCast_dvd_natCast.mpr (Nat.dvd_trans qM (Nat.dvd_of_mod_eq_zero h))
  have s2:(q:Int)∣2*(rpow q (2 ^ n)).1:=by
    have:=Int.dvd_add s0 s1
    rw [Nat.zero_add] at this
    rw [Int.sub_add_cancel] at this
    exact this
  have s3:(q:Int)∣(rpow q (2 ^ n)).1:=by
    rcases pq.mulI s2 with z | z
    · exfalso
      have z2:=Int.natCast_dvd_natCast.mp (show (q:Int)∣((2:Nat):Int) from z)
      have:=Nat.le_of_dvd (by decide) z2
      omega
    · exact z
  have qne:(q:Int)≠0:=by omega
  have m1:rpow q (2 ^ (n+1))=((-1) % (q:Int),0 % (q:Int)):=by
    have e:(2:Nat) ^ (n+1)=2 ^ n+2 ^ n:=by rw [Nat.pow_succ];omega
    rw [e,qdR]
    obtain ⟨c,hc⟩:=rnorm q (2 ^ n)
    obtain ⟨d,hd⟩:=s3
    refine Prod.ext ?_ ?_
    · show ((rpow q (2 ^ n)).1*(rpow q (2 ^ n)).1+3*((rpow q (2 ^ n)).2*(rpow q (2 ^ n)).2)) % (q:Int)=(-1) % (q:Int)
      refine qb0 (c:=2*q*d*d - c) ?_
      generalize (rpow q (2 ^ n)).2=b at *
      rw [hd] at hc ⊢
      grind
    · show ((rpow q (2 ^ n)).1*(rpow q (2 ^ n)).2+(rpow q (2 ^ n)).2*(rpow q (2 ^ n)).1) % (q:Int)=0 % (q:Int)
      refine qb0 (c:=2*d*(rpow q (2 ^ n)).2) ?_
      rw [hd];grind
  have h2:rpow q (2 ^ (n+1))≠rpow q 0:=fun z=>by
    rw [m1] at z
    have z1:(-1) % (q:Int)=1 % (q:Int):=congrArg Prod.fst z
    have z2:(q:Int)∣-1 - 1:=Int.dvd_of_emod_eq_zero ((Int.emod_eq_emod_iff_emod_sub_eq_zero).mp z1)
    have z3:=Int.natAbs_dvd_natAbs.mpr z2
    have:=Nat.le_of_dvd (by decide) z3
    rw [Int.natAbs_natCast] at this
    have:(-1 - 1:Int).natAbs=2:=by decide
    omega
  have h1:rpow q (2 ^ (n+1+1))=rpow q 0:=by
    have e:(2:Nat) ^ (n+1+1)=2 ^ (n+1)+2 ^ (n+1):=by rw [Nat.pow_succ 2 (n+1)];omega
    rw [e,qdR,m1]
    obtain ⟨c1,e1⟩:=em (a:=-1) (q:=(q:Int))
    obtain ⟨c2,e2⟩:=em (a:=0) (q:=(q:Int))
    refine Prod.ext ?_ ?_
    · show ((-1) % (q:Int)*((-1) % (q:Int))+3*(0 % (q:Int)*(0 % (q:Int)))) % (q:Int)=1 % (q:Int)
      refine qb0 (c:=2*c1+q*c1*c1+3*q*c2*c2) ?_
      rw [e1,e2];grind
    · show ((-1) % (q:Int)*(0 % (q:Int))+0 % (q:Int)*((-1) % (q:Int))) % (q:Int)=0 % (q:Int)
      refine qb0 (c:=2*c2+2*q*c1*c2) ?_
      rw [e1,e2];grind
  have ord:=rord (q:Int) h1 h2
  have ne:∀ i d,0<d→i+d<2 ^ (n+2)→rpow q i≠rpow q (i+d):=fun i d d0 hd z=>by
    have e:rpow q d=rpow q 0:=by
      have a:=qmj (q:Int) i
      have b:rmul q (rinv q i) (rpow q (i+d))=rpow q d:=by
        rw [qdR,← qcU,a,rone _ (qe4 _ _)]
      rw [← b,← z,a]
    exact ord d d0 (by have:(2:Nat) ^ (n+1+1)=2 ^ (n+2):=rfl;omega) e
  have lt:∀ i,0≤(rpow q i).1∧(rpow q i).1<q∧0≤(rpow q i).2∧(rpow q i).2<q:=fun i=>by
    obtain ⟨a,b⟩:=qe4 (q:Int) i
    have p0:(0:Int)<q:=by omega
    have u1:=Int.emod_nonneg (rpow q i).1 qne
    have u2:=Int.emod_lt_of_pos (rpow q i).1 p0
    have u3:=Int.emod_nonneg (rpow q i).2 qne
    have u4:=Int.emod_lt_of_pos (rpow q i).2 p0
    rw [a] at u1 u2
    rw [b] at u3 u4
    exact ⟨u1,u2,u3,u4⟩
  have pg:=pigeon (q*q) (2 ^ (n+2)) (fun i=>(rpow q i).1.toNat*q+(rpow q i).2.toNat) (fun i _=>by
    obtain ⟨a,b,c,d⟩:=lt i
    have a':(rpow q i).1.toNat+1≤q:=by omega
    have d':(rpow q i).2.toNat<q:=by omega
    have:=Nat.mul_le_mul_right q a'
    rw [Nat.add_mul,Nat.one_mul] at this
    show (rpow q i).1.toNat*q+(rpow q i).2.toNat<q*q
    omega) (fun i j hi hj e=>by
    have e:(rpow q i).1.toNat*q+(rpow q i).2.toNat=(rpow q j).1.toNat*q+(rpow q j).2.toNat:=e
    obtain ⟨a,b,c,d⟩:=lt i
    obtain ⟨a',b',c',d'⟩:=lt j
    have m1:=congrArg (· % q) e
    have m2:=congrArg (· / q) e
    simp only [Nat.mul_comm _ q,Nat.mul_add_mod,Nat.mul_add_div (show 0<q by omega)] at m1 m2
    rw [Nat.mod_eq_of_lt (by omega),Nat.mod_eq_of_lt (by omega)] at m1
    rw [Nat.div_eq_of_lt (by omega),Nat.div_eq_of_lt (by omega)] at m2
    have ee:rpow q i=rpow q j:=Prod.ext (by omega) (by omega)
    rcases Nat.lt_trichotomy i j with h | h | h
    · exact absurd ee (by have:=ne i (j - i) (by omega) (by omega);rw [show i+(j - i)=j by omega] at this;exact this)
    · exact h
    · exact absurd ee.symm (by have:=ne j (i - j) (by omega) (by omega);rw [show j+(i - j)=i by omega] at this;exact this))
  omega
end Bs
namespace Bs
noncomputable def llk (M k s:Nat):Nat:=Nat.rec (motive:=fun _=>Nat→Nat) (fun s=>s) (fun _ ih s=>ih ((s*s+(M - 2)) % M)) k s
noncomputable def llf (x:Nat) (f:Nat→Nat):Nat:=Nat.rec (motive:=fun _=>Nat) (f 0) (fun n _=>f (n+1)) x
noncomputable def llo (M k j s:Nat):Nat:=Nat.rec (motive:=fun _=>Nat→Nat) (fun s=>s) (fun _ ih s=>llf (llk M k s) ih) j s
theorem qoG (M:Nat):∀ k s,llk M k s=ll M k s
  | 0,_=>rfl
  | k+1,s=>qoG M k _
theorem qqT (x:Nat) (f:Nat→Nat):llf x f=f x:=by cases x <;> rfl
theorem qoH (M:Nat):∀ a b s,ll M (a+b) s=ll M b (ll M a s)
  | 0,b,s=>by rw [Nat.zero_add];rfl
  | a+1,b,s=>by rw [Nat.succ_add];exact qoH M a b _
theorem qqU (M k:Nat):∀ j s,llo M k j s=ll M (k*j) s
  | 0,_=>rfl
  | j+1,s=>by
    show llf (llk M k s) (llo M k j)=_
    rw [qqT,qoG,qqU M k j,← qoH]
    congr 1
    rw [Nat.mul_succ,Nat.add_comm]
noncomputable def mers (e:Nat):Nat:=2 ^ e - 1
theorem qdi {n r k j:Nat} (e:n=k*j+r) (h:Nat.beq (llf (llo (mers (n+2)) k j 4) (fun s=>llk (mers (n+2)) r s % mers (n+2))) 0=true):Pr (mers (n+2)):=by
  refine qp5 ?_
  replace h:=Nat.eq_of_beq_eq_true h
  rw [qqT,qqU,qoG,← qoH,← e] at h
  exact h
theorem quF:Pr (mers 61):=qdi (n:=59) (r:=9) (k:=10) (j:=5) rfl (by decide +kernel)
theorem qtW:Pr (mers 127):=qdi (n:=125) (r:=5) (k:=20) (j:=6) rfl (by decide +kernel)
theorem qtX:Pr (mers 521):=qdi (n:=519) (r:=19) (k:=50) (j:=10) rfl (by decide +kernel)
theorem qta:Pr (mers 1279):=qdi (n:=1277) (r:=77) (k:=100) (j:=12) rfl (by decide +kernel)
theorem qtb:Pr (mers 4423):=qdi (n:=4421) (r:=21) (k:=100) (j:=44) rfl (by decide +kernel)
theorem qtc:Pr (mers 9941):=qdi (n:=9939) (r:=39) (k:=100) (j:=99) rfl (by decide +kernel)
theorem qrJ:Pr (mers 21701):=qdi (n:=21699) (r:=99) (k:=150) (j:=144) rfl (by decide +kernel)
theorem qrK:Pr (mers 44497):=qdi (n:=44495) (r:=95) (k:=200) (j:=222) rfl (by decide +kernel)
end Bs
namespace Bs
noncomputable def co (ns:List Int) (k:Nat):Int:=ns.getD k 0
section
variable {α:Type} [Lean.Grind.CommRing α]
noncomputable def qbd:List α→List α→List α
  | [],b=>b
  | a,[]=>a
  | x::a,y::b=>(x+y)::qbd a b
theorem qhk (a:List α):qbd a []=a:=by cases a <;> rfl
theorem qaA (g:Nat→α):∀ (a b:List α) (k:Nat),cvL (qbd a b) g k=cvL a g k+cvL b g k
  | [],b,k=>by show cvL b g k=0+cvL b g k;grind
  | x::a,[],k=>by rw [qhk,qaP];grind
  | x::a,y::b,0=>by show cvL ((x+y)::qbd a b) g 0=_;rw [qaB,qaB,qaB];grind
  | x::a,y::b,k+1=>by show cvL ((x+y)::qbd a b) g (k+1)=_;rw [qay,qay,qay,qaA g a b k];grind
theorem qaq (c:α) (g:Nat→α):∀ (a:List α) (k:Nat),cvL (a.map (c*·)) g k=c*cvL a g k
  | [],k=>by show (0:α)=c*0;grind
  | x::a,0=>by rw [List.map_cons,qaB,qaB];grind
  | x::a,k+1=>by rw [List.map_cons,qay,qay,qaq c g a k];grind
noncomputable def upS (s:Nat) (f:Nat→α) (k:Nat):α:=if s≤k then f (k - s) else 0
theorem qdD (g:Nat→α):∀ (s:Nat) (a:List α) (k:Nat),cvL (List.replicate s 0++a) g k=upS s (cvL a g) k
  | 0,a,k=>by unfold upS;rw [if_pos (Nat.zero_le k)];rfl
  | s+1,a,0=>by unfold upS;rw [if_neg (by omega)];show cvL (0::(List.replicate s 0++a)) g 0=0;rw [qaB];grind
  | s+1,a,k+1=>by
    show cvL (0::(List.replicate s 0++a)) g (k+1)=_
    rw [qay,qdD g s a k]
    unfold upS
    by_cases h:s≤k
    · rw [if_pos h,if_pos (by omega),show k+1 - (s+1)=k - s by omega];grind
    · rw [if_neg h,if_neg (by omega)];grind
noncomputable def qaX:List α→List α→List α
  | [],_=>[]
  | x::a,b=>qbd (b.map (x*·)) (0::qaX a b)
theorem qaw (g:Nat→α):∀ (a b:List α) (k:Nat),cvL (qaX a b) g k=cvL a (cvL b g) k
  | [],b,k=>rfl
  | x::a,b,k=>by
    show cvL (qbd (b.map (x*·)) (0::qaX a b)) g k=_
    rw [qaA,qaq,qdP,qdP]
    have e:up1 (cvL (qaX a b) g) k=up1 (cvL a (cvL b g)) k:=by
      cases k with
      | zero=>rfl
      | succ k=>exact qaw g a b k
    rw [e]
    grind
theorem qbu (g:Nat→α) (s:α):∀ (a:List α) (k:Nat),cvL (a++[s]) g k=cvL a g k+s*upS a.length g k
  | [],0=>by show cvL [s] g 0=0+s*g 0;rw [qaB];grind
  | [],k+1=>by show cvL [s] g (k+1)=0+s*g (k+1);rw [qay,qaP];grind
  | x::a,0=>by show cvL (x::(a++[s])) g 0=_;rw [qaB,qaB];unfold upS;rw [if_neg (by simp)];grind
  | x::a,k+1=>by
    show cvL (x::(a++[s])) g (k+1)=_
    rw [qay,qay,qbu g s a k]
    have e:upS (x::a).length g (k+1)=upS a.length g k:=by
      unfold upS
      rw [List.length_cons]
      by_cases h:a.length≤k
      · rw [if_pos h,if_pos (by omega),show k+1 - (a.length+1)=k - a.length by omega]
      · rw [if_neg h,if_neg (by omega)]
    rw [e];grind
theorem qcp (a:List α) {g:Nat→α} (h:∀ k,g k=0) (k:Nat):cvL a g k=0:=by
  rw [qan (c:=fun k=>0*g k) (fun j=>by rw [h j];grind) a k,qbk]
  grind
end
theorem qcq (a:List Int) (k:Nat):co a k=cvL a qhi k:=(qhj a k).symm
theorem qbC (a b:List Int) (k:Nat):cvL a (co b) k=cvL b (co a) k:=by
  rw [qan (qcq b) a k,qdQ,qan (fun j=>(qcq a j).symm) b k]
theorem qaE {a:List Int} {k:Nat} (h:a.length≤k):co a k=0:=by
  unfold co;rw [List.getD_eq_getElem?_getD,List.getElem?_eq_none h];rfl
theorem qcm {g:Nat→Int} {n:Nat} (h:∀ i,n≤i→g i=0):∀ (a:List Int) (k:Nat),a.length+n≤k+1→cvL a g k=0
  | [],_,_=>rfl
  | x::a,0,hk=>by
    rw [List.length_cons] at hk
    rw [qaB,h 0 (by omega)];omega
  | x::a,k+1,hk=>by
    rw [List.length_cons] at hk
    rw [qay,h (k+1) (by omega),qcm h a k (by omega)];omega
theorem qjj {p:Int} {g:Nat→Int} {n:Nat} (h:∀ i,n<i→p∣g i):∀ (a:List Int) (k:Nat),a.length+n≤k→p∣cvL a g k
  | [],_,_=>Int.dvd_zero p
  | x::a,0,hk=>absurd hk (by rw [List.length_cons];omega)
  | x::a,k+1,hk=>by
    rw [List.length_cons] at hk
    rw [qay]
    exact Int.dvd_add (Int.dvd_mul_of_dvd_right (h (k+1) (by omega))) (qjj h a k (by omega))
theorem qfm {p:Nat} (hp:Pr p) {g:Nat→Int} {n:Nat} (h0:¬ (p:Int)∣g n) (h:∀ i,n<i→(p:Int)∣g i) (S:List Int) :
    (∀ k,n≤k→(p:Int)∣cvL S g k)→∀ s∈S,(p:Int)∣s:=by
  induction hl:S.length generalizing S with
  | zero=>intro _ s hs;rw [List.length_eq_zero_iff.mp hl] at hs;exact nomatch hs
  | succ m ih=>
    intro hk
    have ne:S≠[]:=fun z=>by rw [z] at hl;simp at hl
    obtain ⟨T,t,rfl⟩:∃ T t,S=T++[t]:=⟨S.dropLast,S.getLast ne,(List.dropLast_concat_getLast ne).symm⟩
    have hT:T.length=m:=by simpa using hl
    have ht:(p:Int)∣t:=by
      have a:=hk (T.length+n) (by omega)
      rw [qbu] at a
      have b:=qjj h T (T.length+n) (Nat.le_refl _)
      have c:(p:Int)∣t*upS T.length g (T.length+n):=by
        have:=Int.dvd_sub a b
        rwa [show ∀ x y:Int,x+y - x=y by intro x y;omega] at this
      unfold upS at c
      rw [if_pos (by omega),show T.length+n - T.length=n by omega] at c
      rcases hp.mulI c with z | z
      · exact z
      · exact absurd z h0
    have hT2:=ih T hT (fun k hk2=>by
      have a:=hk k hk2
      rw [qbu] at a
      have:=Int.dvd_sub a (Int.dvd_mul_of_dvd_left (c:=upS T.length g k) ht)
      rwa [show ∀ x y:Int,x+y - y=x by intro x y;omega] at this)
    intro s hs
    rcases List.mem_append.mp hs with h | h
    · exact hT2 s h
    · rw [List.mem_singleton.mp h];exact ht
noncomputable def Lz (g:List Int):Prop:=0<g.length∧co g (g.length - 1)≠0
noncomputable def QI (r o f:Nat→Int):Prop:=∃ d:Int,d≠0∧∃ U V:List Int,∀ k,d*f k=cvL U r k+cvL V o k
noncomputable def MQ (g f:Nat→Int):Prop:=∃ c:Int,c≠0∧∃ A:List Int,∀ k,c*f k=cvL A g k
theorem QI.congr {r o f h:Nat→Int} (q:QI r o f) (e:∀ k,h k=f k):QI r o h:=by
  obtain ⟨d,d0,U,V,hU⟩:=q
  exact ⟨d,d0,U,V,fun k=>by rw [e k];exact hU k⟩
theorem QI.left (r o:Nat→Int):QI r o r:=⟨1,by decide,[1],[],fun k=>by
  rw [qaP]
  cases k with
  | zero=>rw [qaB];omega
  | succ k=>rw [qay,qaP];omega⟩
theorem QI.right (r o:Nat→Int):QI r o o:=⟨1,by decide,[],[1],fun k=>by
  rw [qaP]
  cases k with
  | zero=>rw [qaB];omega
  | succ k=>rw [qay,qaP];omega⟩
theorem QI.less {r o f h:Nat→Int} (q:QI r o f) (q':QI r o h) (a w:Int) (s:Nat):QI r o (fun k=>a*f k - w*upS s h k):=by
  obtain ⟨d,d0,U,V,hU⟩:=q
  obtain ⟨d',d0',U',V',hU'⟩:=q'
  refine ⟨d*d',Int.mul_ne_zero d0 d0',qbd (U.map (d'*a*·)) (List.replicate s 0++U'.map (-(d*w)*·)),qbd (V.map (d'*a*·)) (List.replicate s 0++V'.map (-(d*w)*·)),fun k=>?_⟩
  show d*d'*(a*f k - w*upS s h k)=_
  rw [qaA,qaA,qaq,qaq,qdD,qdD]
  unfold upS
  have e1:=hU k
  by_cases hs:s≤k
  · rw [if_pos hs,if_pos hs,if_pos hs,qaq,qaq]
    have e2:=hU' (k - s)
    grind
  · rw [if_neg hs,if_neg hs,if_neg hs]
    grind
theorem QI.scal {r o f:Nat→Int} {c:Int} (c0:c≠0) (q:QI r o (fun k=>c*f k)):QI r o f:=by
  obtain ⟨d,d0,U,V,hU⟩:=q
  exact ⟨d*c,Int.mul_ne_zero d0 c0,U,V,fun k=>by rw [← hU k];grind⟩
theorem QI.trans {r o a b f:Nat→Int} (qa:QI r o a) (qb:QI r o b) (q:QI a b f):QI r o f:=by
  obtain ⟨d,d0,U,V,hU⟩:=q
  obtain ⟨d1,d10,U1,V1,h1⟩:=qa
  obtain ⟨d2,d20,U2,V2,h2⟩:=qb
  refine ⟨d1*d2*d,Int.mul_ne_zero (Int.mul_ne_zero d10 d20) d0,qbd ((qaX U U1).map (d2*·)) ((qaX V U2).map (d1*·)),qbd ((qaX U V1).map (d2*·)) ((qaX V V2).map (d1*·)),fun k=>?_⟩
  rw [qaA,qaA,qaq,qaq,qaq,qaq,qaw,qaw,qaw,qaw]
  have e1:d1*cvL U a k=cvL U (cvL U1 r) k+cvL U (cvL V1 o) k:=by
    rw [← qbk,← qej];exact qan h1 U k
  have e2:d2*cvL V b k=cvL V (cvL U2 r) k+cvL V (cvL V2 o) k:=by
    rw [← qbk,← qej];exact qan h2 V k
  have e3:=hU k
  grind
theorem MQ.refl (g:Nat→Int):MQ g g:=⟨1,by decide,[1],fun k=>by
  cases k with
  | zero=>rw [qaB];omega
  | succ k=>rw [qay,qaP];omega⟩
theorem MQ.zero (g:Nat→Int) {f:Nat→Int} (h:∀ k,f k=0):MQ g f:=⟨1,by decide,[],fun k=>by rw [qaP,h k];rfl⟩
theorem MQ.congr {g f h:Nat→Int} (m:MQ g f) (e:∀ k,h k=f k):MQ g h:=by
  obtain ⟨c,c0,A,hA⟩:=m
  exact ⟨c,c0,A,fun k=>by rw [e k];exact hA k⟩
theorem MQ.less {g f h:Nat→Int} (m:MQ g f) (m':MQ g h) (a w:Int) (s:Nat):MQ g (fun k=>a*f k - w*upS s h k):=by
  obtain ⟨d,d0,U,hU⟩:=m
  obtain ⟨d',d0',U',hU'⟩:=m'
  refine ⟨d*d',Int.mul_ne_zero d0 d0',qbd (U.map (d'*a*·)) (List.replicate s 0++U'.map (-(d*w)*·)),fun k=>?_⟩
  show d*d'*(a*f k - w*upS s h k)=_
  rw [qaA,qaq,qdD]
  unfold upS
  have e1:=hU k
  by_cases hs:s≤k
  · rw [if_pos hs,if_pos hs,qaq]
    have e2:=hU' (k - s)
    grind
  · rw [if_neg hs,if_neg hs]
    grind
theorem MQ.scal {g f:Nat→Int} {c:Int} (c0:c≠0) (m:MQ g (fun k=>c*f k)):MQ g f:=by
  obtain ⟨d,d0,A,hA⟩:=m
  exact ⟨d*c,Int.mul_ne_zero d0 c0,A,fun k=>by rw [← hA k];grind⟩
theorem MQ.trans {g f h:Nat→Int} (m:MQ g f) (m':MQ f h):MQ g h:=by
  obtain ⟨c,c0,A,hA⟩:=m
  obtain ⟨d,d0,B,hB⟩:=m'
  refine ⟨c*d,Int.mul_ne_zero c0 d0,qaX B A,fun k=>?_⟩
  rw [qaw]
  have e:c*cvL B f k=cvL B (cvL A g) k:=by rw [← qbk];exact qan hA B k
  rw [← e,← hB k];grind
theorem MQ.of_QI {r o f g:Nat→Int} (m1:MQ g r) (m2:MQ g o) (q:QI r o f):MQ g f:=by
  obtain ⟨d,d0,U,V,hU⟩:=q
  obtain ⟨c,c0,A,hA⟩:=m1
  obtain ⟨e,e0,B,hB⟩:=m2
  refine ⟨c*e*d,Int.mul_ne_zero (Int.mul_ne_zero c0 e0) d0,qbd ((qaX U A).map (e*·)) ((qaX V B).map (c*·)),fun k=>?_⟩
  rw [qaA,qaq,qaq,qaw,qaw]
  have e1:c*cvL U r k=cvL U (cvL A g) k:=by rw [← qbk];exact qan hA U k
  have e2:e*cvL V o k=cvL V (cvL B g) k:=by rw [← qbk];exact qan hB V k
  have e3:=hU k
  grind
theorem QI.of_MQ {r o f h:Nat→Int} (q:QI r o f) (m:MQ f h):QI r o h:=by
  obtain ⟨c,c0,A,hA⟩:=m
  obtain ⟨d,d0,U,V,hU⟩:=q
  refine ⟨d*c,Int.mul_ne_zero d0 c0,qaX A U,qaX A V,fun k=>?_⟩
  rw [qaw,qaw]
  have e:d*cvL A f k=cvL A (cvL U r) k+cvL A (cvL V o) k:=by rw [← qbk,← qej];exact qan hU A k
  rw [← e,← hA k];grind
end Bs
namespace Bs
theorem qe5 {f:List Int} (h:co f (f.length - 1)=0) (k:Nat):co f.dropLast k=co f k:=by
  unfold co at *
  rw [List.getD_eq_getElem?_getD,List.getD_eq_getElem?_getD]
  rw [List.getElem?_dropLast]
  by_cases hk:k<f.length - 1
  · rw [if_pos hk]
  · rw [if_neg hk]
    by_cases e:k=f.length - 1
    · subst e
      rw [List.getD_eq_getElem?_getD] at h
      rw [h];rfl
    · rw [List.getElem?_eq_none (by omega)]
theorem qh7 (f:List Int):(∀ k,co f k=0)∨∃ g,Lz g∧g.length≤f.length∧∀ k,co g k=co f k:=by
  induction hn:f.length generalizing f with
  | zero=>exact .inl fun k=>qaE (by omega)
  | succ n ih=>
    by_cases h:co f (f.length - 1)=0
    · rcases ih f.dropLast (by rw [List.length_dropLast];omega) with z | ⟨g,g1,g2,g3⟩
      · exact .inl fun k=>by rw [← qe5 h];exact z k
      · exact .inr ⟨g,g1,by omega,fun k=>by rw [g3,qe5 h]⟩
    · exact .inr ⟨f,⟨by omega,h⟩,by omega,fun _=>rfl⟩
theorem qgP (n:Nat) (F:Nat→Int) (k:Nat):co ((List.range n).map F) k=if k<n then F k else 0:=by
  unfold co
  rw [List.getD_eq_getElem?_getD,List.getElem?_map]
  by_cases h:k<n
  · rw [if_pos h,List.getElem?_range h];rfl
  · rw [if_neg h,List.getElem?_eq_none (by rw [List.length_range];omega)];rfl
structure Gen (r o:Nat→Int) (g:List Int):Prop where
  lz:Lz g
  qi:QI r o (co g)
  len:∀ h,Lz h→QI r o (co h)→g.length≤h.length
  last:∀ h,Lz h→QI r o (co h)→h.length=g.length→(co g (g.length - 1)).natAbs≤(co h (h.length - 1)).natAbs
theorem qtd {r o:Nat→Int} {f:List Int} (lf:Lz f) (q:QI r o (co f)):∃ g,Gen r o g:=by
  have L:∀ n,(∃ f,f.length=n∧Lz f∧QI r o (co f))→∃ m,(∃ f,f.length=m∧Lz f∧QI r o (co f))∧∀ h,Lz h→QI r o (co h)→m≤h.length:=by
    intro n
    induction n using Nat.strongRecOn with
    | _ n ih=>
      intro hf
      by_cases hx:∃ m,m<n∧∃ f,f.length=m∧Lz f∧QI r o (co f)
      · obtain ⟨m,hm,hx⟩:=hx
        exact ih m hm hx
      · refine ⟨n,hf,fun h lh qh=>?_⟩
        rcases Nat.lt_or_ge h.length n with z | z
        · exact absurd ⟨h.length,z,h,rfl,lh,qh⟩ hx
        · exact z
  obtain ⟨m,⟨f1,e1,l1,q1⟩,hm⟩:=L f.length ⟨f,rfl,lf,q⟩
  have M:∀ n,(∃ f,f.length=m∧Lz f∧QI r o (co f)∧(co f (f.length - 1)).natAbs=n)→∃ g,Gen r o g:=by
    intro n
    induction n using Nat.strongRecOn with
    | _ n ih=>
      rintro ⟨f,fm,lf,qf,fn⟩
      by_cases hx:∃ j,j<n∧∃ f,f.length=m∧Lz f∧QI r o (co f)∧(co f (f.length - 1)).natAbs=j
      · obtain ⟨j,hj,hx⟩:=hx
        exact ih j hj hx
      · refine ⟨f,lf,qf,fun h lh qh=>by rw [fm];exact hm h lh qh,fun h lh qh hl=>?_⟩
        rcases Nat.lt_or_ge (co h (h.length - 1)).natAbs (co f (f.length - 1)).natAbs with z | z
        · exact absurd ⟨_,by omega,h,by omega,lh,qh,rfl⟩ hx
        · exact z
  exact M _ ⟨f1,e1,l1,q1,rfl⟩
theorem Gen.mq {r o:Nat→Int} {g:List Int} (G:Gen r o g):∀ (n:Nat) (f:List Int),f.length≤n→QI r o (co f)→MQ (co g) (co f)
  | 0,f,h,_=>MQ.zero _ fun k=>qaE (by omega)
  | n+1,f,h,q=>by
    rcases qh7 f with z | ⟨f1,l1,h1,e1⟩
    · exact MQ.zero _ z
    have q1:QI r o (co f1):=q.congr e1
    have gl:=G.len f1 l1 q1
    refine MQ.congr (f:=co f1) ?_ fun k=>(e1 k).symm
    generalize hs:f1.length - g.length=s
    have g0:=G.lz.1
    let F:List Int:=(List.range (f1.length - 1)).map fun k=>co g (g.length - 1)*co f1 k - co f1 (f1.length - 1)*upS s (co g) k
    have eF:∀ k,co F k=co g (g.length - 1)*co f1 k - co f1 (f1.length - 1)*upS s (co g) k:=fun k=>by
      rw [qgP]
      by_cases hk:k<f1.length - 1
      · rw [if_pos hk]
      · rw [if_neg hk]
        unfold upS
        by_cases hk2:k=f1.length - 1
        · rw [if_pos (by omega),hk2,show f1.length - 1 - s=g.length - 1 by omega];grind
        · rw [qaE (a:=f1) (by omega)]
          by_cases hk3:s≤k
          · rw [if_pos hk3,qaE (a:=g) (k:=k - s) (by omega)];omega
          · rw [if_neg hk3];omega
    have qF:QI r o (co F):=QI.congr (q1.less G.qi (co g (g.length - 1)) (co f1 (f1.length - 1)) s) eF
    have lF:F.length≤n:=by
      have:F.length=f1.length - 1:=by show ((List.range (f1.length - 1)).map _).length=_;rw [List.length_map,List.length_range]
      omega
    have m:=Gen.mq G n F lF qF
    have m2:=MQ.less (MQ.congr m fun k=>(eF k).symm) (MQ.refl (co g)) 1 (-(co f1 (f1.length - 1))) s
    refine MQ.scal (c:=co g (g.length - 1)) G.lz.2 (MQ.congr m2 fun k=>?_)
    show _=1*_ - _*upS s (co g) k
    generalize upS s (co g) k=y
    grind
theorem Gen.prim {r o:Nat→Int} {g:List Int} (G:Gen r o g) {p:Nat} (hp:2≤p):∃ n,¬ (p:Int)∣co g n∧∀ i,n<i→(p:Int)∣co g i:=by
  have key:∀ n,(∀ i,n≤i→(p:Int)∣co g i)→(∀ i,(p:Int)∣co g i)∨∃ n,¬ (p:Int)∣co g n∧∀ i,n<i→(p:Int)∣co g i:=by
    intro n
    induction n with
    | zero=>intro h;exact .inl fun i=>h i (Nat.zero_le i)
    | succ n ih=>
      intro h
      by_cases hd:(p:Int)∣co g n
      · exact ih fun i hi=>by
          by_cases e:i=n
          · rw [e];exact hd
          · exact h i (by omega)
      · exact .inr ⟨n,hd,fun i hi=>h i (by omega)⟩
  rcases key g.length (fun i hi=>by rw [qaE hi];exact Int.dvd_zero _) with h | h
  · exfalso
    let h1:List Int:=g.map (· / (p:Int))
    have e1:∀ k,(p:Int)*co h1 k=co g k:=fun k=>by
      have:co h1 k=co g k / (p:Int):=by
        show (g.map (· / (p:Int))).getD k 0=g.getD k 0 / (p:Int)
        rw [List.getD_eq_getElem?_getD,List.getD_eq_getElem?_getD,List.getElem?_map]
        cases g[k]? with
        | none=>exact (Int.zero_ediv _).symm
        | some z=>rfl
      rw [this,Int.mul_ediv_cancel' (h k)]
    have p0:(p:Int)≠0:=by omega
    have qpI:h1.length=g.length:=List.length_map ..
    have ne:co h1 (h1.length - 1)≠0:=fun z=>G.lz.2 (by rw [← e1,← qpI,z];omega)
    have l1:Lz h1:=⟨by rw [qpI];exact G.lz.1,ne⟩
    have q1:QI r o (co h1):=QI.scal (c:=(p:Int)) p0 (QI.congr G.qi e1)
    have lt:=G.last h1 l1 q1 qpI
    have e2:=e1 (g.length - 1)
    rw [← qpI] at e2
    rw [qpI] at e2 lt
    rw [← e2,Int.natAbs_mul,Int.natAbs_natCast] at lt
    rw [qpI] at ne
    have pos:0<(co h1 (g.length - 1)).natAbs:=by omega
    have:=Nat.mul_le_mul_right (co h1 (g.length - 1)).natAbs hp
    omega
  · exact h
theorem Gen.loc {r o:Nat→Int} {g:List Int} (G:Gen r o g) {p:Nat} (hp:Pr p) {f:Nat→Int} (m:MQ (co g) f) :
    ∃ (c:Int) (A:List Int),¬ (p:Int)∣c∧∀ k,c*f k=cvL A (co g) k:=by
  obtain ⟨n,n0,n1⟩:=G.prim hp.two
  obtain ⟨c,c0,A,hA⟩:=m
  have key:∀ (m:Nat) (c:Int) (A:List Int),c.natAbs≤m→c≠0→(∀ k,c*f k=cvL A (co g) k)→∃ (c:Int) (A:List Int),¬ (p:Int)∣c∧∀ k,c*f k=cvL A (co g) k:=by
    intro m
    induction m with
    | zero=>intro c A h h0;omega
    | succ m ih=>
      intro c A h h0 hA
      by_cases hd:(p:Int)∣c
      · have dA:∀ a∈A,(p:Int)∣a:=qfm hp n0 n1 A fun k _=>by rw [← hA k];exact Int.dvd_mul_of_dvd_left hd
        obtain ⟨c',rfl⟩:=hd
        have p2:=hp.two
        have c0':c'≠0:=fun z=>h0 (by rw [z];omega)
        have eA:A=(A.map (· / (p:Int))).map ((p:Int)*·):=by
          rw [List.map_map]
          conv=>lhs;rw [← List.map_id A]
          refine List.map_congr_left fun a ha=>?_
          show a=(p:Int)*(a / (p:Int))
          rw [Int.mul_ediv_cancel' (dA a ha)]
        refine ih c' (A.map (· / (p:Int))) ?_ c0' fun k=>?_
        · rw [Int.natAbs_mul,Int.natAbs_natCast] at h
          have pos:0<c'.natAbs:=by omega
          have:=Nat.mul_le_mul_right c'.natAbs p2
          omega
        · have e:=hA k
          rw [eA,qaq,Int.mul_assoc] at e
          exact Int.eq_of_mul_eq_mul_left (by omega) e
      · exact ⟨c,A,hd,hA⟩
  exact key _ c A (Nat.le_refl _) c0 hA
theorem quG (a b:Nat):∃ x y:Int,x*a+y*b=(Nat.gcd a b:Int):=by
  induction a,b using Nat.gcd.induction with
  | H0 n=>exact ⟨0,1,by simp⟩
  | H1 m n hm ih=>
    obtain ⟨x,y,h⟩:=ih
    refine ⟨y - x*((n / m:Nat):Int),x,?_⟩
    rw [Nat.gcd_rec,← h]
    have e:(n:Int)=(m:Int)*((n / m:Nat):Int)+((n % m:Nat):Int):=by
      have:=Nat.div_add_mod n m
      exact_mod_cast this.symm
    generalize ((n / m:Nat):Int)=q at *
    generalize ((n % m:Nat):Int)=w at *
    rw [e];grind
theorem quH (a b:Int):∃ x y:Int,x*a+y*b=(Int.gcd a b:Int):=by
  obtain ⟨x,y,h⟩:=quG a.natAbs b.natAbs
  have s:∀ z:Int,∃ e:Int,(z.natAbs:Int)=e*z:=fun z=>by
    rcases Int.natAbs_eq z with h | h
    · exact ⟨1,by omega⟩
    · exact ⟨-1,by omega⟩
  obtain ⟨e,he⟩:=s a
  obtain ⟨f,hf⟩:=s b
  refine ⟨x*e,y*f,?_⟩
  show _=((Nat.gcd a.natAbs b.natAbs:Nat):Int)
  rw [← h,he,hf];grind
noncomputable def Dm (p:Int) (g f:Nat→Int):Prop:=∃ S:List Int,∀ k,p∣f k - cvL S g k
theorem Gen.dm {r o:Nat→Int} {g:List Int} (G:Gen r o g) {p:Nat} (hp:Pr p) {f:Nat→Int} (m:MQ (co g) f):Dm (p:Int) (co g) f:=by
  obtain ⟨c,A,hc,hA⟩:=G.loc hp m
  have cop:Int.gcd c (p:Int)=1:=by
    have:=hp.cop (a:=c.natAbs) fun z=>hc (Int.natAbs_dvd_natAbs.mp (by rw [Int.natAbs_natCast];exact z))
    exact this
  obtain ⟨x,y,hxy⟩:∃ x y:Int,x*c+y*(p:Int)=1:=by
    obtain ⟨x,y,h⟩:=quH c (p:Int)
    exact ⟨x,y,by rw [h,cop];rfl⟩
  refine ⟨A.map (x*·),fun k=>⟨f k*y,?_⟩⟩
  rw [qaq,← hA k]
  grind
theorem Dm.less {p:Int} {g f h:Nat→Int} (m:Dm p g f) (m':Dm p g h) (a w:Int) (s:Nat):Dm p g (fun k=>a*f k - w*upS s h k):=by
  obtain ⟨S,hS⟩:=m
  obtain ⟨S',hS'⟩:=m'
  refine ⟨qbd (S.map (a*·)) (List.replicate s 0++S'.map (-w*·)),fun k=>?_⟩
  show p∣a*f k - w*upS s h k - _
  rw [qaA,qaq,qdD]
  unfold upS
  obtain ⟨x,hx⟩:=hS k
  by_cases hs:s≤k
  · rw [if_pos hs,if_pos hs,qaq]
    obtain ⟨y,hy⟩:=hS' (k - s)
    exact ⟨a*x - w*y,by grind⟩
  · rw [if_neg hs,if_neg hs]
    exact ⟨a*x,by grind⟩
theorem Dm.congr {p:Int} {g f h:Nat→Int} (m:Dm p g f) (e:∀ k,p∣h k - f k):Dm p g h:=by
  obtain ⟨S,hS⟩:=m
  exact ⟨S,fun k=>by have:=Int.dvd_add (e k) (hS k);rwa [show ∀ x y z:Int,x - y+(y - z)=x - z by intro x y z;omega] at this⟩
theorem Dm.zero (p:Int) (g:Nat→Int) {f:Nat→Int} (h:∀ k,p∣f k):Dm p g f:=⟨[],fun k=>by rw [qaP];simpa using h k⟩
theorem Gen.lead {r o:Nat→Int} {g R:List Int} (G:Gen r o g) {p:Nat} (hp:Pr p) (lR:Lz R) (m:MQ (co g) (co R)) (h:¬ (p:Int)∣co R (R.length - 1)):¬ (p:Int)∣co g (g.length - 1):=by
  intro hd
  obtain ⟨n,n0,n1⟩:=G.prim hp.two
  obtain ⟨c,A,hc,hA⟩:=G.loc hp m
  have nl:n+1<g.length:=by
    rcases Nat.lt_or_ge n g.length with z | z
    · rcases Nat.lt_or_ge (n+1) g.length with y | y
      · exact y
      · exact absurd hd (by rw [show g.length - 1=n by omega];exact n0)
    · exact absurd (by rw [qaE z];exact Int.dvd_zero _) n0
  rcases qh7 A with z | ⟨B,lB,_,eB⟩
  · have:c*co R (R.length - 1)=0:=by
      rw [hA,qbC,qcp g z]
    rcases Int.mul_eq_zero.mp this with e | e
    · exact hc (by rw [e];exact Int.dvd_zero _)
    · exact lR.2 e
  · have hB:∀ k,c*co R k=cvL B (co g) k:=fun k=>by rw [hA,qbC,qan (fun j=>(eB j).symm) g k,← qbC]
    have bl:B.length+g.length≤R.length+1:=by
      rcases Nat.lt_or_ge (R.length+1) (B.length+g.length) with z | z
      · exfalso
        have b0:=lB.1
        have g0:=G.lz.1
        have e:=hB (B.length - 1+(g.length - 1))
        rw [qaE (by omega)] at e
        have ne:B≠[]:=fun z=>by rw [z] at b0;simp at b0
        obtain ⟨T,t,hT⟩:∃ T t,B=T++[t]:=⟨B.dropLast,B.getLast ne,(List.dropLast_concat_getLast ne).symm⟩
        have tl:T.length=B.length - 1:=by rw [hT];simp
        have tc:co B (B.length - 1)=t:=by rw [← tl,hT];unfold co;simp [List.getD_eq_getElem?_getD]
        rw [hT,qbu,← hT,qcm (n:=g.length) (fun i hi=>qaE hi) T _ (by omega)] at e
        unfold upS at e
        rw [if_pos (by omega),show B.length - 1+(g.length - 1) - T.length=g.length - 1 by omega] at e
        have e2:t*co g (g.length - 1)=0:=by omega
        rcases Int.mul_eq_zero.mp e2 with x | x
        · exact lB.2 (tc.trans x)
        · exact G.lz.2 x
      · exact z
    have hh:=qjj n1 B (R.length - 1) (by omega)
    rw [← hB] at hh
    rcases hp.mulI hh with x | x
    · exact hc x
    · exact h x
theorem Dm.len {p:Nat} (hp:Pr p) {g f:List Int} (lg:0<g.length) (hl:¬ (p:Int)∣co g (g.length - 1)) (d:Dm (p:Int) (co g) (co f)) (h0:∃ k,¬ (p:Int)∣co f k):g.length≤f.length:=by
  rcases Nat.lt_or_ge f.length g.length with z | z
  · exfalso
    obtain ⟨S,hS⟩:=d
    have sS:=qfm hp hl (fun i hi=>by rw [qaE (by omega)];exact Int.dvd_zero _) S fun k hk=>by
      have:=hS k
      rw [qaE (by omega)] at this
      have e:=Int.dvd_neg.mpr this
      rwa [show ∀ x:Int,-(0 - x)=x by intro x;omega] at e
    obtain ⟨k,hk⟩:=h0
    apply hk
    have c:∀ (S:List Int),(∀ s∈S,(p:Int)∣s)→∀ k,(p:Int)∣cvL S (co g) k:=by
      intro S
      induction S with
      | nil=>intro _ k;exact Int.dvd_zero _
      | cons x S ih=>
        intro h k
        rw [qdP]
        refine Int.dvd_add (Int.dvd_mul_of_dvd_left (h x (List.mem_cons_self ..))) ?_
        cases k with
        | zero=>exact Int.dvd_zero _
        | succ k=>exact ih (fun s hs=>h s (List.mem_cons_of_mem _ hs)) k
    have:=Int.dvd_add (hS k) (c S sS k)
    rwa [Int.sub_add_cancel] at this
  · exact z
structure RC (r o:Nat→Int) (g:List Int):Prop where
  lz:Lz g
  left:MQ (co g) r
  right:MQ (co g) o
  qi:QI r o (co g)
theorem Gen.rc {R O g:List Int} (G:Gen (co R) (co O) g):RC (co R) (co O) g:=
  ⟨G.lz,G.mq _ R (Nat.le_refl _) (QI.left _ _),G.mq _ O (Nat.le_refl _) (QI.right _ _),G.qi⟩
theorem qoI {r o:Nat→Int} {g h:List Int} (G:RC r o g) (lh:Lz h) (m1:MQ (co h) r) (m2:MQ (co h) o) (hl:g.length≤h.length):RC r o h:=by
  refine ⟨lh,m1,m2,G.qi.of_MQ ?_⟩
  obtain ⟨d,d0,T,hT⟩:=MQ.of_QI m1 m2 G.qi
  rcases qh7 T with z | ⟨B,lB,_,eB⟩
  · exfalso
    have:d*co g (g.length - 1)=0:=by rw [hT,qbC,qcp h z]
    rcases Int.mul_eq_zero.mp this with e | e
    · exact d0 e
    · exact G.lz.2 e
  · have hB:∀ k,d*co g k=cvL B (co h) k:=fun k=>by rw [hT,qbC,qan (fun j=>(eB j).symm) h k,← qbC]
    have b0:=lB.1
    have g0:=lh.1
    have ne:B≠[]:=fun z=>by rw [z] at b0;simp at b0
    obtain ⟨X,t,hX⟩:∃ X t,B=X++[t]:=⟨B.dropLast,B.getLast ne,(List.dropLast_concat_getLast ne).symm⟩
    have tl:X.length=B.length - 1:=by rw [hX];simp
    have tc:co B (B.length - 1)=t:=by rw [← tl,hX];unfold co;simp [List.getD_eq_getElem?_getD]
    have one:B.length=1:=by
      rcases Nat.lt_or_ge 1 B.length with y | y
      · exfalso
        have e:=hB (B.length - 1+(h.length - 1))
        rw [qaE (by omega),hX,qbu,← hX,qcm (n:=h.length) (fun i hi=>qaE hi) X _ (by omega)] at e
        unfold upS at e
        rw [if_pos (by omega),show B.length - 1+(h.length - 1) - X.length=h.length - 1 by omega] at e
        have e2:t*co h (h.length - 1)=0:=by omega
        rcases Int.mul_eq_zero.mp e2 with x | x
        · exact lB.2 (tc.trans x)
        · exact lh.2 x
      · omega
    have X0:X=[]:=List.length_eq_zero_iff.mp (by omega)
    have t0:t≠0:=fun z=>lB.2 (tc.trans z)
    refine ⟨t,t0,[d],fun k=>?_⟩
    have e:=hB k
    rw [hX,X0] at e
    cases k with
    | zero=>rw [qaB];rw [show ([]++[t]:List Int)=[t] from rfl,qaB] at e;omega
    | succ k=>rw [qay,qaP];rw [show ([]++[t]:List Int)=[t] from rfl,qay,qaP] at e;omega
end Bs
namespace Bs
noncomputable def Prim (g:List Int):Prop:=∀ c:Int,(∀ k,c∣co g k)→c.natAbs=1
theorem Prim.top {g:List Int} (P:Prim g) {p:Nat} (hp:2≤p):∃ n,¬ (p:Int)∣co g n∧∀ i,n<i→(p:Int)∣co g i:=by
  have key:∀ n,(∀ i,n≤i→(p:Int)∣co g i)→(∀ i,(p:Int)∣co g i)∨∃ n,¬ (p:Int)∣co g n∧∀ i,n<i→(p:Int)∣co g i:=by
    intro n
    induction n with
    | zero=>intro h;exact .inl fun i=>h i (Nat.zero_le i)
    | succ n ih=>
      intro h
      by_cases hd:(p:Int)∣co g n
      · exact ih fun i hi=>by
          by_cases e:i=n
          · rw [e];exact hd
          · exact h i (by omega)
      · exact .inr ⟨n,hd,fun i hi=>h i (by omega)⟩
  rcases key g.length (fun i hi=>by rw [qaE hi];exact Int.dvd_zero _) with h | h
  · have:=P (p:Int) h
    omega
  · exact h
theorem gauss {g:List Int} (P:Prim g) {f:Nat→Int} (m:MQ (co g) f):∃ A:List Int,∀ k,f k=cvL A (co g) k:=by
  obtain ⟨c,c0,A,hA⟩:=m
  have key:∀ (m:Nat) (c:Int) (A:List Int),c.natAbs≤m→c≠0→(∀ k,c*f k=cvL A (co g) k)→∃ A:List Int,∀ k,f k=cvL A (co g) k:=by
    intro m
    induction m with
    | zero=>intro c A h h0;omega
    | succ m ih=>
      intro c A h h0 hA
      by_cases h1:c.natAbs=1
      · rcases Int.natAbs_eq c with e | e
        · exact ⟨A,fun k=>by rw [← hA k,e,h1];omega⟩
        · exact ⟨A.map (-1*·),fun k=>by rw [qaq,← hA k,e,h1];omega⟩
      · obtain ⟨p,hp,pd,_⟩:=qkk (m:=c.natAbs) (by omega)
        have hd:(p:Int)∣c:=Int.natAbs_dvd_natAbs.mp (by rw [Int.natAbs_natCast];exact pd)
        obtain ⟨n,n0,n1⟩:=P.top hp.two
        have dA:∀ a∈A,(p:Int)∣a:=qfm hp n0 n1 A fun k _=>by rw [← hA k];exact Int.dvd_mul_of_dvd_left hd
        obtain ⟨c',rfl⟩:=hd
        have p2:=hp.two
        have c0':c'≠0:=fun z=>h0 (by rw [z];omega)
        have eA:A=(A.map (· / (p:Int))).map ((p:Int)*·):=by
          rw [List.map_map]
          conv=>lhs;rw [← List.map_id A]
          refine List.map_congr_left fun a ha=>?_
          show a=(p:Int)*(a / (p:Int))
          rw [Int.mul_ediv_cancel' (dA a ha)]
        refine ih c' (A.map (· / (p:Int))) ?_ c0' fun k=>?_
        · rw [Int.natAbs_mul,Int.natAbs_natCast] at h
          have pos:0<c'.natAbs:=by omega
          have:=Nat.mul_le_mul_right c'.natAbs p2
          omega
        · have e:=hA k
          rw [eA,qaq,Int.mul_assoc] at e
          exact Int.eq_of_mul_eq_mul_left (by omega) e
  exact key _ c A (Nat.le_refl _) c0 hA
noncomputable def evI:List Int→Int→Int
  | [],_=>0
  | a::l,x=>a+x*evI l x
theorem qgQ:∀ (l:List Int) (x:Int),(∀ k,co l k=0)→evI l x=0
  | [],_,_=>rfl
  | a::l,x,h=>by
    have h0:a=0:=h 0
    show a+x*evI l x=0
    rw [h0,qgQ l x fun k=>h (k+1)];omega
theorem qhl:∀ (a b:List Int) (x:Int),(∀ k,co a k=co b k)→evI a x=evI b x
  | [],b,x,h=>(qgQ b x fun k=>(h k).symm).symm
  | a::l,[],x,h=>qgQ (a::l) x h
  | a::l,b::m,x,h=>by
    have h0:a=b:=h 0
    show a+x*evI l x=b+x*evI m x
    rw [h0,qhl l m x fun k=>h (k+1)]
theorem qoJ:∀ (a b:List Int) (x:Int),evI (qbd a b) x=evI a x+evI b x
  | [],b,x=>by show evI b x=0+evI b x;omega
  | a::l,[],x=>by rw [qhk];show _=_+0;omega
  | a::l,b::m,x=>by
    show (a+b)+x*evI (qbd l m) x=a+x*evI l x+(b+x*evI m x)
    rw [qoJ l m x];grind
theorem qmk (c:Int):∀ (a:List Int) (x:Int),evI (a.map (c*·)) x=c*evI a x
  | [],x=>by show (0:Int)=c*0;omega
  | a::l,x=>by
    show c*a+x*evI (l.map (c*·)) x=c*(a+x*evI l x)
    rw [qmk c l x];grind
theorem qoK:∀ (a b:List Int) (x:Int),evI (qaX a b) x=evI a x*evI b x
  | [],b,x=>by show (0:Int)=0*_;omega
  | a::l,b,x=>by
    show evI (qbd (b.map (a*·)) (0::qaX l b)) x=(a+x*evI l x)*evI b x
    rw [qoJ,qmk]
    show a*evI b x+(0+x*evI (qaX l b) x)=_
    rw [qoK l b x];grind
theorem qoL (a b:List Int) (k:Nat):co (qaX a b) k=cvL a (co b) k:=by
  rw [qcq,qaw]
  exact qan (fun j=>(qcq b j).symm) a k
theorem qp6 {r a g:List Int} (h:∀ k,co r k=cvL a (co g) k) (x:Int):evI r x=evI a x*evI g x:=by
  rw [← qoK]
  exact qhl r (qaX a g) x fun k=>by rw [qoL];exact h k
theorem qqV {b c:Nat} {x:Int} (hx:Bd c x):∀ (l:List Int),(∀ z∈l,Bd b z)→Bd (b+l.length*(c+1)) (evI l x)
  | [],_=>qch _
  | a::l,hb=>by
    show Bd _ (a+x*evI l x)
    have h1:=hb a (List.mem_cons_self ..)
    have h2:=hx.mul (qqV hx l fun z hz=>hb z (List.mem_cons_of_mem _ hz))
    have e:(l.length+1)*(c+1)=l.length*(c+1)+(c+1):=by rw [Nat.add_mul,Nat.one_mul]
    refine ((h1.mono (n:=c+(b+l.length*(c+1))) (by omega)).add h2).mono ?_
    rw [List.length_cons,e];omega
noncomputable def syn:List Int→Int→List Int
  | [],_=>[]
  | _::l,t=>evI l t::syn l t
theorem qjk:∀ (l:List Int) (t:Int),(syn l t).length=l.length
  | [],_=>rfl
  | _::l,t=>congrArg (·+1) (qjk l t)
theorem qoM:∀ (l:List Int) (t x:Int),evI l x - evI l t=(x - t)*evI (syn l t) x
  | [],t,x=>by show (0:Int) - 0=_*0;omega
  | a::l,t,x=>by
    show a+x*evI l x - (a+t*evI l t)=(x - t)*(evI l t+x*evI (syn l t) x)
    have:=qoM l t x
    grind
theorem qml:∀ (l:List Int) (t:Int) (k:Nat),co l k=(if k=0 then evI l t else co (syn l t) (k - 1)) - t*co (syn l t) k
  | [],t,k=>by
    rw [show co (syn [] t) k=0 from qaE (Nat.zero_le _),show co (syn [] t) (k - 1)=0 from qaE (Nat.zero_le _),qaE (Nat.zero_le _)]
    show 0=(if k=0 then 0 else 0) - _
    split <;> omega
  | a::l,t,0=>by
    show a=a+t*evI l t - t*evI l t
    omega
  | a::l,t,k+1=>by
    have:=qml l t k
    show co l k=(if k+1=0 then _ else co (evI l t::syn l t) (k+1 - 1)) - t*co (syn l t) k
    rw [if_neg (by omega),this]
    cases k with
    | zero=>rfl
    | succ k=>rw [if_neg (by omega)];rfl
theorem qp7 (l:List Int) (t:Int):co (syn l t) (l.length - 1)=0:=by
  induction l with
  | nil=>exact qaE (Nat.zero_le _)
  | cons a l ih=>
    show co (evI l t::syn l t) l.length=0
    cases h:l.length with
    | zero=>rw [List.length_eq_zero_iff.mp h];rfl
    | succ m=>rw [h] at ih;exact ih
theorem interp {c:Nat}:∀ (d:Nat) (l:List Int) (y:Nat) (x:Nat→Int),(∀ k,d<k→co l k=0)→(∀ i,i≤d→Bd c (x i))→(∀ i j,i≤d→j≤d→i≠j→x i≠x j)→(∀ i,i≤d→Bd y (evI l (x i)))→∀ k,Bd (y+d*(c+3)) (co l k)
  | 0,l,y,x,h1,_,_,h4,k=>by
    cases k with
    | zero=>
      have e:evI l (x 0)=co l 0:=by
        cases l with
        | nil=>rfl
        | cons a l=>
          show a+x 0*evI l (x 0)=a
          rw [qgQ l (x 0) fun k=>h1 (k+1) (by omega)];omega
      have:=h4 0 (Nat.le_refl 0)
      rw [e] at this
      exact this.mono (by omega)
    | succ k=>rw [h1 (k+1) (by omega)];exact qch _
  | d+1,l,y,x,h1,h2,h3,h4,k=>by
    have hs:∀ j,d<j→co (syn l (x (d+1))) j=0:=by
      have step:∀ n,∀ j,d<j→l.length≤j+n→co (syn l (x (d+1))) j=0:=by
        intro n
        induction n with
        | zero=>intro j _ h;exact qaE (by rw [qjk];omega)
        | succ n ih=>
          intro j hj h
          have e:=qml l (x (d+1)) (j+1)
          rw [h1 (j+1) (by omega),if_neg (by omega),ih (j+1) (by omega) (by omega)] at e
          rw [show j+1 - 1=j by omega] at e
          omega
      intro j hj
      exact step l.length j hj (by omega)
    have ih:=interp d (syn l (x (d+1))) (y+1) x hs (fun i hi=>h2 i (by omega)) (fun i j hi hj=>h3 i j (by omega) (by omega)) (fun i hi=>by
      have e:=qoM l (x (d+1)) (x i)
      have ne:x i - x (d+1)≠0:=fun z=>h3 i (d+1) (by omega) (by omega) (by omega) (by omega)
      have b:=(h4 i (by omega)).sub (h4 (d+1) (by omega))
      rw [e] at b
      refine b.le ?_
      rw [Int.natAbs_mul]
      exact Nat.le_mul_of_pos_left _ (by omega))
    have e:=qml l (x (d+1)) k
    rw [e]
    have hx:=h2 (d+1) (Nat.le_refl _)
    have b2:=hx.mul (ih k)
    have em:(d+1)*(c+3)=d*(c+3)+(c+3):=by rw [Nat.add_mul,Nat.one_mul]
    have b1:Bd (c+(y+1+d*(c+3))) (if k=0 then evI l (x (d+1)) else co (syn l (x (d+1))) (k - 1)):=by
      split
      · exact (h4 (d+1) (Nat.le_refl _)).mono (by omega)
      · exact (ih (k - 1)).mono (by omega)
    exact (b1.sub b2).mono (by omega)
end Bs
namespace Bs
open PySem L2
noncomputable def isN (H:Hp) (v:V) (q:Nu):Prop:=∃ p,v=.ref p∧H p=some (.tup [.int q.1,.int q.2])
noncomputable def Nums (H:Hp):List V→List Nu→Prop
  | [],[]=>True
  | x::xs,q::l=>isN H x q∧Nums H xs l
  | _,_=>False
noncomputable def Tp (H H':Hp):Prop:=∀ b xs,H b=some (.tup xs)→H' b=some (.tup xs)
theorem tpS {H H':Hp} (s:Same H H'):Tp H H':=fun b xs h=>s b _ h
theorem Tp.trans {H H1 H2:Hp} (a:Tp H H1) (b:Tp H1 H2):Tp H H2:=fun c xs h=>b c xs (a c xs h)
theorem Kp.tp {p:Addr} {H H':Hp} {xs:List V} (k:Kp p H H') (h:H p=some (.lst xs)):Tp H H':=fun b ys q=>k b _ (qnv q h (by intro z;cases z)) q
theorem Tp.updL {p:Addr} {H:Hp} {xs ys:List V} (h:H p=some (.lst xs)):Tp H (upd H p (.lst ys)):=Kp.tp Kp.upd h
theorem isN.tp {H H':Hp} {v:V} {q:Nu} (h:isN H v q) (t:Tp H H'):isN H' v q:=let ⟨p,e,z⟩:=h;⟨p,e,t _ _ z⟩
theorem Nums.tp {H H':Hp} (t:Tp H H'):∀ {xs:List V} {l:List Nu},Nums H xs l→Nums H' xs l
  | [],[],_=>trivial
  | _::_,_::_,h=>⟨h.1.tp t,Nums.tp t h.2⟩
  | [],_::_,h=>h.elim
  | _::_,[],h=>h.elim
theorem Nums.length {H:Hp}:∀ {xs:List V} {l:List Nu},Nums H xs l→xs.length=l.length
  | [],[],_=>rfl
  | _::_,_::_,h=>congrArg (·+1) (Nums.length h.2)
  | [],_::_,h=>h.elim
  | _::_,[],h=>h.elim
theorem Nums.get {H:Hp}:∀ {xs:List V} {l:List Nu} {i:Nat} {v:V},Nums H xs l→xs[i]?=some v→∃ q,l[i]?=some q∧isN H v q
  | [],[],_,_,_,e=>by simp at e
  | _::_,q::_,0,_,h,e=>by simp at e;subst e;exact ⟨q,rfl,h.1⟩
  | _::_,_::_,i+1,_,h,e=>by
    obtain ⟨q,h1,h2⟩:=Nums.get (i:=i) h.2 (by simpa using e)
    exact ⟨q,by simpa using h1,h2⟩
  | [],_::_,_,_,h,_=>h.elim
  | _::_,[],_,_,h,_=>h.elim
theorem Nums.at {H:Hp} {xs:List V} {l:List Nu} {i:Nat} (h:Nums H xs l) (hi:i<l.length) (d:Nu):∃ v,xs[i]?=some v∧isN H v (l.getD i d):=by
  have hx:i<xs.length:=by rw [h.length];exact hi
  obtain ⟨q,h1,h2⟩:=h.get (List.getElem?_eq_getElem hx)
  refine ⟨_,List.getElem?_eq_getElem hx,?_⟩
  rw [List.getD_eq_getElem?_getD,h1]
  exact h2
theorem Nums.append {H:Hp}:∀ {xs ys:List V} {l m:List Nu},Nums H xs l→Nums H ys m→Nums H (xs++ys) (l++m)
  | [],_,[],_,_,h=>h
  | _::_,_,_::_,_,h,h2=>⟨h.1,Nums.append h.2 h2⟩
  | [],_,_::_,_,h,_=>h.elim
  | _::_,_,[],_,h,_=>h.elim
theorem Nums.one {H:Hp} {v:V} {q:Nu} (h:isN H v q):Nums H [v] [q]:=⟨h,trivial⟩
theorem Nums.take {H:Hp}:∀ {xs:List V} {l:List Nu} (n:Nat),Nums H xs l→Nums H (xs.take n) (l.take n)
  | [],[],n,_=>by simp [Nums]
  | _::_,_::_,0,_=>trivial
  | _::_,_::_,n+1,h=>⟨h.1,Nums.take n h.2⟩
  | [],_::_,_,h=>h.elim
  | _::_,[],_,h=>h.elim
theorem Nums.set {H:Hp} {v:V} {q:Nu} (hv:isN H v q):∀ {xs:List V} {l:List Nu} (i:Nat),Nums H xs l→Nums H (xs.set i v) (l.set i q)
  | [],[],_,_=>trivial
  | _::_,_::_,0,h=>⟨hv,h.2⟩
  | _::_,_::_,i+1,h=>⟨h.1,Nums.set hv i h.2⟩
  | [],_::_,_,h=>h.elim
  | _::_,[],_,h=>h.elim
theorem Nums.rep {H:Hp} {v:V} {q:Nu} (hv:isN H v q):∀ n:Nat,Nums H (List.replicate n v) (List.replicate n q)
  | 0=>trivial
  | n+1=>⟨hv,Nums.rep hv n⟩
theorem qcR {α:Type} (v:α):∀ n:Nat,(List.replicate n [v]).flatten=List.replicate n v
  | 0=>rfl
  | n+1=>by rw [List.replicate_succ,List.flatten_cons,qcR v n];rfl
theorem qek {α:Type} {xs:List α} {i:Int} {j:Nat} {v:α} (e:i=(j:Int)) (h:xs[j]?=some v):atI xs i=some v:=by subst e;exact qiQ h
theorem qoN {H:Hp} {p:Addr} {q:Nu}:isN (upd H p (.tup [.int q.1,.int q.2])) (.ref p) q:=⟨p,rfl,qai⟩
theorem qhm {xs:List V} {m:Nat} (h:m≤xs.length):qjP xs none (some (m:Int))=xs.take m:=by
  unfold qjP HT.sIx
  simp only [List.drop_zero,Nat.sub_zero,Int.toNat_natCast]
  rw [if_neg (by omega),Nat.min_eq_left h]
noncomputable def qrL (H:Hp) (Q:VK) (l:List Nu):Prop:=∀ (r:Addr) (zs:List V) (H':Hp),Same H H'→H' r=some (.tup zs)→Nums H' zs l→Q (.ref r) H'
noncomputable def qqW (q:Nu):PySem.W.Dat:=.tuple [.int q.1,.int q.2]
noncomputable def qrM (l:List Nu):PySem.W.Dat:=.tuple (l.map qqW)
theorem qun {H:Hp} {v:V} {q:Nu} (h:isN H v q):RepD H v (qqW q):=by
  obtain ⟨p,rfl,hp⟩:=h
  exact .tup hp (.cons (.int _) (.cons (.int _) .nil))
theorem qrN {H:Hp}:∀ {xs:List V} {l:List Nu},Nums H xs l→RepA H xs (l.map qqW)
  | [],[],_=>.nil
  | _::_,_::_,h=>.cons (qun h.1) (qrN h.2)
  | [],_::_,h=>h.elim
  | _::_,[],h=>h.elim
theorem qtY {H:Hp} {p:Addr} {xs:List V} {l:List Nu} (hp:H p=some (.tup xs)) (h:Nums H xs l):RepD H (.ref p) (qrM l):=.tup hp (qrN h)
theorem okN (q:Nu) (n:Nat):PySem.W.kqdOk (n+1) (qqW q)=true:=by simp [qqW,PySem.W.kqdOk]
theorem okP (l:List Nu) (n:Nat):PySem.W.kqdOk (n+2) (qrM l)=true:=by
  simp only [qrM,PySem.W.kqdOk,List.all_map,List.all_eq_true,Function.comp]
  intro q _
  exact okN q n
end Bs
namespace Bs
open PySem
noncomputable abbrev sI (i:Int):Str:=Str.ofString (toString i)
theorem qhn (a b c:Str):a++b++c=a++(b++c):=by
  show (⟨(a.cps++b.cps)++c.cps⟩:Str)=⟨a.cps++(b.cps++c.cps)⟩
  rw [Array.append_assoc]
theorem qkl (a:Str):(Str.ofString "")++a=a:=by
  show (⟨(Str.ofString "").cps++a.cps⟩:Str)=a
  rw [show (Str.ofString "").cps=#[] from rfl,Array.empty_append]
theorem qaK (a b:Str):(a++b).length=a.length+b.length:=by
  show (a.cps++b.cps).size=_
  rw [Array.size_append];rfl
theorem qtZ (a b:String):Str.ofString (a++b)=Str.ofString a++Str.ofString b:=by
  rw [Str.ofString_eq_toList,Str.ofString_eq_toList,Str.ofString_eq_toList]
  show _=(⟨(a.toList.map Char.toNat).toArray++(b.toList.map Char.toNat).toArray⟩:Str)
  simp
theorem qqX (a:String):(Str.ofString a).length=a.toList.length:=by
  rw [Str.ofString_eq_toList]
  show ((a.toList.map Char.toNat).toArray).size=_
  simp
theorem qte {i:Int} (h:i<0):Str.ofString "-" ++ sI (-i)=sI i:=by
  rw [← qtZ]
  match i,h with
  | .negSucc n,_=>rfl
theorem qqY {n k:Nat} (h:n<10 ^ k) (hk:0<k):(toString n:String).toList.length≤k:=by
  rw [Nat.toString_eq_ofList_toDigits,String.toList_ofList]
  exact (Nat.length_toDigits_le_iff (by decide) hk).mpr h
theorem qqZ (n:Nat):0<(toString n:String).toList.length:=by
  rw [Nat.toString_eq_ofList_toDigits,String.toList_ofList]
  exact Nat.length_toDigits_pos
theorem qmm {i:Int} {k:Nat} (h:i.natAbs<10 ^ k) (hk:0<k):(sI i).length≤k+1:=by
  rw [qqX]
  match i with
  | .ofNat n=>exact Nat.le_succ_of_le (qqY h hk)
  | .negSucc n=>
    show ("-" ++ toString (n+1):String).toList.length≤_
    rw [String.toList_append,List.length_append]
    have:=qqY (n:=n+1) h hk
    have e:("-" : String).toList.length=1:=rfl
    omega
theorem qiC (i:Int):0<(sI i).length:=by
  rw [qqX]
  match i with
  | .ofNat n=>exact qqZ n
  | .negSucc n=>
    show 0<("-" ++ toString (n+1):String).toList.length
    rw [String.toList_append,List.length_append]
    have:=qqZ (n+1)
    omega
theorem qtf {a b:String} (h:Str.ofString a=Str.ofString b):a.toList=b.toList:=by
  rw [Str.ofString_eq_toList,Str.ofString_eq_toList] at h
  have h':a.toList.map Char.toNat=b.toList.map Char.toNat:=by
    have:=congrArg (fun s:Str=>s.cps.toList) h
    simpa using this
  exact (List.map_inj_right (fun x y e=>Char.toNat_inj.mp e)).mp h'
theorem sI_zero {i:Int}:sI i=Str.ofString "0" ↔ i=0:=by
  constructor
  · intro h
    have e:=qtf h
    match i,e with
    | .ofNat n,e=>
      have e':(toString n:String).toList = "0".toList:=e
      rw [Nat.toString_eq_ofList_toDigits,String.toList_ofList] at e'
      have q:=congrArg (Nat.ofDigitChars 10 · 0) e'
      simp only [Nat.ofDigitChars_ten_toDigits] at q
      have z:n=0:=q
      rw [z];rfl
    | .negSucc n,e=>
      have e':("-" ++ toString (n+1):String).toList = "0".toList:=e
      rw [String.toList_append] at e'
      exact absurd (congrArg List.head? e') (by simp)
  · intro h;subst h;rfl
end Bs
namespace Bs
open PySem
theorem qoO (a:Str):a++(Str.ofString "")=a:=by
  show (⟨a.cps++(Str.ofString "").cps⟩:Str)=a
  rw [show (Str.ofString "").cps=#[] from rfl,Array.append_empty]
theorem qtg {i:Int}:sI i=Str.ofString "1" ↔ i=1:=by
  constructor
  · intro h
    have e:=qtf h
    match i,e with
    | .ofNat n,e=>
      have e':(toString n:String).toList = "1".toList:=e
      rw [Nat.toString_eq_ofList_toDigits,String.toList_ofList] at e'
      have q:=congrArg (Nat.ofDigitChars 10 · 0) e'
      simp only [Nat.ofDigitChars_ten_toDigits] at q
      have z:n=1:=q
      rw [z];rfl
    | .negSucc n,e=>
      have e':("-" ++ toString (n+1):String).toList = "1".toList:=e
      rw [String.toList_append] at e'
      exact absurd (congrArg List.head? e') (by simp)
  · intro h;subst h;rfl
theorem qq0 {x:Str} (h:x.length=0):x=Str.ofString "" := by
  obtain ⟨a⟩:=x
  have e:a=#[]:=Array.size_eq_zero_iff.mp h
  rw [e];rfl
end Bs
namespace Bs
open PySem L2
section
variable {σ:L2.St} {H:Hp} {Q:VK} {D:Ends} {rest:TS} {sp:Sp} {E:XK}
theorem qbD {i:Nat} {v:V} (h1:σ[i]?=some (some v)) (h:Q v H):qaf i σ H Q:=⟨v,h1,h⟩
theorem qjl {ta:TE} {k:Nat} (h:ta σ H fun x H1=>sp [x] H1 (fun v H'=>rest D (σ.set k (some v)) H') E):qaH (qaR (qar sp [] E (qab ta qao)) (qaj k)) rest D σ H:=h
theorem qoP {ta tb:TE} {k:Nat} (h:ta σ H fun x H1=>tb σ H1 fun y H2=>sp [x,y] H2 (fun v H'=>rest D (σ.set k (some v)) H') E):qaH (qaR (qar sp [] E (qab ta (qab tb qao))) (qaj k)) rest D σ H:=h
theorem qrO {ta tb tc:TE} {k:Nat} (h:ta σ H fun x H1=>tb σ H1 fun y H2=>tc σ H2 fun z H3=>sp [x,y,z] H3 (fun v H'=>rest D (σ.set k (some v)) H') E):qaH (qaR (qar sp [] E (qab ta (qab tb (qab tc qao)))) (qaj k)) rest D σ H:=h
theorem qe6 {ta:TE} (h:ta σ H fun x H1=>sp [x] H1 Q E):qar sp [] E (qab ta qao) σ H Q:=h
theorem qf2 {ta tb:TE} (h:ta σ H fun x H1=>tb σ H1 fun y H2=>sp [x,y] H2 Q E):qar sp [] E (qab ta (qab tb qao)) σ H Q:=h
theorem qm5 {te:TE} {k:Nat} (h:te σ H fun x H1=>rest D (σ.set k (some x)) H1):qaH (qaR te (qaj k)) rest D σ H:=h
theorem qoQ {te:TE} (h:te σ H D.rt):qbw te D σ H:=h
theorem qq1 {ta:TE} (h:ta σ H fun x H1=>[x].length≤sizeLine∧∀ p,H1 p=none→Q (.ref p) (upd H1 p (.tup [x]))):qcW (qab ta qao) σ H Q:=h
theorem qd1 {ta tb:TE} (h:ta σ H fun x H1=>tb σ H1 fun y H2=>[x,y].length≤sizeLine∧∀ p,H2 p=none→Q (.ref p) (upd H2 p (.tup [x,y]))):qcW (qab ta (qab tb qao)) σ H Q:=h
theorem qq2 {ta tb tc:TE} (h:ta σ H fun x H1=>tb σ H1 fun y H2=>tc σ H2 fun z H3=>[x,y,z].length≤sizeLine∧∀ p,H3 p=none→Q (.ref p) (upd H3 p (.tup [x,y,z]))):qcW (qab ta (qab tb (qab tc qao))) σ H Q:=h
theorem r_c {v:V} (h:Q v H):tC v σ H Q:=h
theorem qeE {r:R2} {ta tb:TE} (h:ta σ H fun x H1=>tb σ H1 fun y H2=>r x y H2 Q):tOp r ta tb σ H Q:=h
theorem qp8 {k:Int} {a:Addr} {xs:List V} {v:V} (h2:H a=some (.tup xs)) (h3:atI xs k=some v) (h:Q v H):gT (.ref a) (.int k) H Q:=⟨a,k,xs,v,rfl,rfl,h2,h3,h⟩
theorem qq3 {ta:TE} (h:ta σ H fun x H1=>qb5 [x] H1 Q):tCB qb5 (qab ta qao) σ H Q:=h
theorem qth {a:Addr} {xs:List V} (h1:H a=some (.lst xs)) (h:Q (.int xs.length) H):qb5 [.ref a] H Q:=⟨a,xs,rfl,h1,h⟩
theorem qt0 {c:TT} {t u:TS} (h:c σ H fun b H1=>if b=true then t { D with nx:=rest D } σ H1 else u { D with nx:=rest D } σ H1):qaH (qd0 c t u) rest D σ H:=h
theorem qmn {te:TE} {Q:Bool→Hp→Prop} (h:te σ H fun x H'=>∃ k,x=.bl k∧Q k H'):qaS te σ H Q:=h
theorem qpI {x:V}:[x].length≤sizeLine:=by show 1≤_;exact sz (by decide)
theorem qgR {x y:V}:[x,y].length≤sizeLine:=by show 2≤_;exact sz (by decide)
theorem qt1 {x y z:V}:[x,y,z].length≤sizeLine:=by show 3≤_;exact sz (by decide)
end
end Bs
set_option maxHeartbeats 4000000
namespace Bs
open PySem
noncomputable def qci (K:W.Frag):Addr:=match PySem.W.nsIn K PySem.mainGlobals "EXPONENTS" with | some (some (.ref a))=>a | _=>0
end Bs
namespace Bs
open PySem L2
noncomputable abbrev Nm (H:Hp) (p:Addr) (t d:Int):Prop:=H p=some (.tup [.int t,.int d])
noncomputable def qas (_:W.Frag):Sp:=fun vs H Q _=>∃ a b:Int,vs=[.int a,.int b]∧Q (.int ((Int.gcd a b:Nat):Int)) H
noncomputable def qkm (K:W.Frag):Sp:=fun vs H Q _=>∃ (a:Addr) (ns:List Int),vs=[.ref a]∧SqL K H a (ns.map V.int)∧ns.length≤63∧∀ H',Q (.bl true) H'
noncomputable def qb8 (_:W.Frag):Sp:=fun vs H Q _=>∃ (x n:Int) (b:Nat),vs=[.int x,.int n]∧0≤n∧Bd b x∧b*n.toNat+1≤200000∧Q (.int (x ^ n.toNat)) H
noncomputable def qdf (n:Nat) (f:Nat→Int):List V:=((List.range n).map f).map V.int
noncomputable def qcL (ns:List Int):Nat→Nat
  | 0=>0
  | m+1=>if ns.getD m 1=0 then qcL ns m else m+1
noncomputable def qel (ns:List Int):List Int:=ns.take (qcL ns ns.length)
noncomputable def Pl (H:Hp) (r:Addr) (L:List Nu):Prop:=∃ zs,H r=some (.tup zs)∧Nums H zs L
noncomputable def qaU (_:W.Frag):Sp:=fun vs H Q _=>∃ (p:Addr) (ns:List Int),vs=[.ref p]∧H p=some (.lst (ns.map V.int))∧∀ r,H r=none→Q (.ref r) (upd H r (.lst ((qel ns).map V.int)))
noncomputable def Tz (ns:List Int):Prop:=ns=[]∨co ns (ns.length - 1)≠0
noncomputable def SDs (H:Hp):List V→List (List Int)→Prop
  | [],[]=>True
  | x::xs,r::rs=>(∃ p,x=.ref p∧H p=some (.lst (r.map V.int)))∧SDs H xs rs
  | _,_=>False
noncomputable def SD (H:Hp) (p:Addr) (rs:List (List Int)):Prop:=∃ xs,H p=some (.lst xs)∧SDs H xs rs
noncomputable def ZipR (R:List Int→List Int→List Int→Prop):List (List Int)→List (List Int)→List (List Int)→Prop
  | [],[],[]=>True
  | a::as,b::bs,c::cs=>R a b c∧ZipR R as bs cs
  | _,_,_=>False
noncomputable def qbO (_:W.Frag):Sp:=fun vs H Q _=>∃ (p:Addr) (ns:List Int) (st:Int),vs=[.ref p,.int st]∧H p=some (.lst (ns.map V.int))∧ns.length≤1000∧∀ (g:Int) (H':Hp),Same H H'→0≤g→g∣st→(∀ z∈ns,g∣z)→(∀ d:Int,d∣st→(∀ z∈ns,d∣z)→d∣g)→Q (.int g) H'
noncomputable def qbe (_:W.Frag):Sp:=fun vs H Q _=>∃ (p:Addr) (ns:List Int) (g:Int),vs=[.ref p,.int g]∧H p=some (.lst (ns.map V.int))∧(0<g∨ns=[])∧ns.length≤1000∧∀ r,H r=none→Q (.ref r) (upd H r (.lst ((ns.map (· / g)).map V.int)))
noncomputable def qbz (_:W.Frag):Sp:=fun vs H Q _=>∃ (p q:Addr) (ns ms:List Int) (f w:Int) (s:Nat),vs=[.ref p,.int f,.ref q,.int w,.int (s:Int)]∧H p=some (.lst (ns.map V.int))∧H q=some (.lst (ms.map V.int))∧ns.length≤1000∧s+ms.length≤1000∧Bd 60000000 f∧Bd 60000000 w∧(∀ z∈ns,Bd 60000000 z)∧(∀ z∈ms,Bd 60000000 z)∧
  ∀ (r:Addr) (rs:List Int) (H':Hp),Same H H'→H' r=some (.lst (rs.map V.int))→Tz rs→(∀ k,co rs k=f*co ns k - w*upS s (co ms) k)→Q (.ref r) H'
noncomputable def qbG (_:W.Frag):Sp:=fun vs H Q _=>∃ (p q:Addr) (ns ms:List Int) (b d:Nat),vs=[.ref p,.ref q]∧H p=some (.lst (ns.map V.int))∧H q=some (.lst (ms.map V.int))∧Lz ms∧(∀ z∈ns,Bd b z)∧(∀ z∈ms,Bd d z)∧b+ns.length*(d+1)≤60000000∧d≤60000000∧ns.length≤1000∧ms.length≤1000∧((¬ ∃ A:List Int,∀ k,co ns k=cvL A (co ms) k)→∀ H',Same H H'→Q .non H')∧
  ∀ (r:Addr) (qs:List Int) (H':Hp),Same H H'→H' r=some (.lst (qs.map V.int))→(∀ k,co ns k=cvL qs (co ms) k)→Q (.ref r) H'
noncomputable def Sh (rows rows':List (List Int)):Prop:=∃ g:Int,0<g∧rows=rows'.map (·.map (g*·))
noncomputable def qt2 (rows:List (List Int)):Prop:=(∀ r∈rows,r=[])∨∀ d:Int,(∀ r∈rows,∀ z∈r,d∣z)→d.natAbs=1
noncomputable def qaJ (_:W.Frag):Sp:=fun vs H Q _=>∃ (p:Addr) (rows:List (List Int)),vs=[.ref p]∧SD H p rows∧rows.length≤1000∧(∀ r∈rows,r.length≤1000∧Tz r)∧
  ∀ (t:Addr) (rows':List (List Int)) (H':Hp),Same H H'→SD H' t rows'→Sh rows rows'→qt2 rows'→Q (.ref t) H'
noncomputable def qaL (_:W.Frag):Sp:=fun vs H Q _=>∃ (p:Addr) (ns:List Int),vs=[.ref p]∧H p=some (.lst (ns.map V.int))∧ns.length≤1000∧Tz ns∧
  ∀ (t:Addr) (ms:List Int) (g:Int) (H':Hp),Same H H'→H' t=some (.lst (ms.map V.int))→0<g→ns=ms.map (g*·)→(ns=[]∨Prim ms)→Q (.ref t) H'
noncomputable def qbq (_:W.Frag):Sp:=fun vs H Q _=>∃ (p q:Addr) (o:List Int),vs=[.ref p,.ref q]∧SD H p [[]]∧SD H q [o]∧0<o.length∧∀ (t:Addr) (H':Hp),Same H H'→SD H' t [[]]→Q (.ref t) H'
noncomputable def qa4 (_:W.Frag):Sp:=fun vs H Q _=>∃ (p q:Addr) (s o:List Int),vs=[.ref p,.ref q]∧SD H p [s]∧SD H q [o]∧(s=[]∨o=[])∧∀ (t:Addr) (H':Hp),Same H H'→SD H' t [if o=[] then s else o]→Q (.ref t) H'
noncomputable def qa6 (_:W.Frag):Sp:=fun vs H Q _=>∃ a p:Int,vs=[.int a,.int p]∧2≤p∧Bd 45000 p∧∀ r:Int,0≤r→r<p→(Int.gcd a p=1→p∣r*a - 1)→Q (.int r) H
noncomputable def qbh (_:W.Frag):Sp:=fun vs H Q _=>∃ (p:Addr) (ns:List Int) (m:Int),vs=[.ref p,.int m]∧H p=some (.lst (ns.map V.int))∧0<m∧ns.length≤1000∧∀ r,H r=none→Q (.ref r) (upd H r (.lst ((ns.map (· % m)).map V.int)))
noncomputable def Md (m:Int) (rs:List Int) (f:Nat→Int):Prop:=(∀ z∈rs,0≤z∧z<m)∧∀ k,m∣co rs k - f k
noncomputable def qa7 (_:W.Frag):Sp:=fun vs H Q _=>∃ (p:Addr) (ns:List Int) (m:Int),vs=[.ref p,.int m]∧H p=some (.lst (ns.map V.int))∧0<m∧ns.length≤1000∧∀ (r:Addr) (rs:List Int) (H':Hp),Same H H'→H' r=some (.lst (rs.map V.int))→Tz rs→rs.length≤ns.length→Md m rs (co ns)→Q (.ref r) H'
noncomputable def qaZ (_:W.Frag):Sp:=fun vs H Q _=>∃ (q:Addr) (ns:List Int) (p:Nat),vs=[.ref q,.int (p:Int)]∧H q=some (.lst (ns.map V.int))∧Pr p∧Bd 45000 (p:Int)∧ns.length≤1000∧Tz ns∧(∀ z∈ns,0≤z∧z<(p:Int))∧
  ∀ (r:Addr) (rs:List Int) (f:Int) (H':Hp),Same H H'→H' r=some (.lst (rs.map V.int))→rs.length=ns.length→(ns≠[]→co rs (rs.length - 1)=1)→Md (p:Int) rs (fun k=>f*co ns k)→Q (.ref r) H'
noncomputable def qbi (_:W.Frag):Sp:=fun vs H Q _=>∃ (p q:Addr) (ns ms:List Int) (m:Int) (b:Nat),vs=[.ref p,.ref q,.int m]∧H p=some (.lst (ns.map V.int))∧H q=some (.lst (ms.map V.int))∧0<ms.length∧co ms (ms.length - 1)=1∧0<m∧Bd b m∧(∀ z∈ms,Bd b z)∧b≤60000000∧ns.length≤1000∧ms.length≤1000∧
  ∀ (t r s:Addr) (qs rs:List Int) (H':Hp),Same H H'→H' t=some (.tup [.ref r,.ref s])→H' r=some (.lst (qs.map V.int))→H' s=some (.lst (rs.map V.int))→Tz qs→Tz rs→rs.length<ms.length→Md m rs (fun k=>co ns k - cvL qs (co ms) k)→(∀ z∈qs,0≤z∧z<m)→Q (.ref t) H'
noncomputable def qbr (_:W.Frag):Sp:=fun vs H Q _=>∃ (p q:Addr) (ns ms:List Int) (m:Int) (b:Nat),vs=[.ref p,.ref q,.int m]∧H p=some (.lst (ns.map V.int))∧H q=some (.lst (ms.map V.int))∧0<ms.length∧co ms (ms.length - 1)=1∧0<m∧Bd b m∧(∀ z∈ms,Bd b z)∧b≤60000000∧ns.length≤1000∧ms.length≤1000∧
  ∀ (s:Addr) (qs rs:List Int) (H':Hp),Same H H'→H' s=some (.lst (rs.map V.int))→Tz rs→rs.length<ms.length→Md m rs (fun k=>co ns k - cvL qs (co ms) k)→Q (.ref s) H'
noncomputable def qba (_:W.Frag):Sp:=fun vs H Q _=>∃ (a b:Addr) (ns ms:List Int) (p:Nat),vs=[.ref a,.ref b,.int (p:Int)]∧H a=some (.lst (ns.map V.int))∧H b=some (.lst (ms.map V.int))∧Pr p∧Bd 45000 (p:Int)∧ns.length≤1000∧ms.length≤1000∧((∃ k,¬ (p:Int)∣co ns k)∨∃ k,¬ (p:Int)∣co ms k)∧
  ∀ (s:Addr) (rs:List Int) (H':Hp),Same H H'→H' s=some (.lst (rs.map V.int))→0<rs.length→rs.length≤1000→co rs (rs.length - 1)=1→(∀ z∈rs,0≤z∧z<(p:Int))→(∀ g:Nat→Int,Dm (p:Int) g (co ns)→Dm (p:Int) g (co ms)→Dm (p:Int) g (co rs))→Dm (p:Int) (co rs) (co ns)→Dm (p:Int) (co rs) (co ms)→Q (.ref s) H'
noncomputable def qcj (_:W.Frag):Sp:=fun vs H Q _=>∃ w p:Int,vs=[.int w,.int p]∧0<p∧∀ r:Int,p∣r - w→2*r.natAbs≤p.natAbs→Q (.int r) H
noncomputable def quo (d n c p:Nat):Prop:=2 ^ ((d+n*(2*c+4)+c+2)*(2*(n - 1)))<p
noncomputable def qa0 (_:W.Frag):Sp:=fun vs H Q _=>∃ (a b:Addr) (ns ms:List Int) (p d n c:Nat),vs=[.ref a,.ref b,.int (p:Int)]∧H a=some (.lst (ns.map V.int))∧H b=some (.lst (ms.map V.int))∧Pr p∧Bd 45000 (p:Int)∧Lz ns∧Lz ms∧(∀ z∈ns,Bd d z)∧(∀ z∈ms,Bd d z)∧d+ns.length*45001≤1000000∧d+ms.length*45001≤1000000∧ns.length≤n∧ms.length≤n∧n<2 ^ c∧2≤n∧(¬ quo d n c p→∀ H',Same H H'→Q .non H')∧
  ∀ (s:Addr) (rs:List Int) (H':Hp),Same H H'→H' s=some (.lst (rs.map V.int))→RC (co ns) (co ms) rs→Prim rs→Q (.ref s) H'
noncomputable def qbA (_:W.Frag):Sp:=fun vs H Q _=>∃ (a b:Addr) (ns ms:List Int) (d n c:Nat),vs=[.ref a,.ref b]∧H a=some (.lst (ns.map V.int))∧H b=some (.lst (ms.map V.int))∧Tz ns∧Tz ms∧(∀ z∈ns,Bd d z)∧(∀ z∈ms,Bd d z)∧ns.length≤n∧ms.length≤n∧n≤20∧2≤n∧n<2 ^ c∧(d+n*(2*c+4)+c+2)*(2*(n - 1))≤44490∧((ns=[]∨ms=[])→2*3 ^ (ns.length+ms.length)*(d+1)≤60000000)∧
  ∀ (s:Addr) (rs:List Int) (H':Hp),Same H H'→H' s=some (.lst (rs.map V.int))→((ns≠[]∨ms≠[])→RC (co ns) (co ms) rs∧Prim rs)→(ns=[]→ms=[]→rs=[])→Q (.ref s) H'
structure Gq (b c:Nat) (l:List Nu):Prop where
  low:qaI l
  nz:Nz l
  ov:∃ M,Ov l M∧Bd c M∧∀ z∈ovN l M,Bd b z
noncomputable def mnc (g:List Int):List Nu:=g.map fun n=>qcF n (co g (g.length - 1))
noncomputable def MR (g f:Nat→Rat):Prop:=∃ A:List Rat,∀ k,f k=cvL A g k
noncomputable def qbP (_:W.Frag):Sp:=fun vs H Q _=>∃ a b:Int,vs=[.int a,.int b]∧b≠0∧∀ (p:Addr),H p=none→Q (.ref p) (upd H p (.tup [.int (qcF a b).1,.int (qcF a b).2]))
noncomputable def qcG (_:W.Frag):Sp:=fun vs H Q _=>∃ (p:Addr) (xs:List V) (l:List Nu),vs=[.ref p]∧H p=some (.lst xs)∧Nums H xs l∧l.length≤1000∧qrL H Q (trim l)
noncomputable def qbv (_:W.Frag):Sp:=fun vs H Q _=>∃ (p:Addr) (xs:List V) (l:List Nu) (M:Int),vs=[.ref p]∧H p=some (.tup xs)∧Nums H xs l∧qaI l∧Ov l M∧Bd 400000 M∧(∀ q∈l,Bd 60000000 q.1)∧l.length≤1000∧
  ∀ (r a:Addr) (H':Hp),Same H H'→H' r=some (.tup [.ref a,.int (qcE l)])→H' a=some (.lst ((qcT l).map V.int))→Q (.ref r) H'
noncomputable def qbm (_:W.Frag):Sp:=fun vs H Q _=>∃ (p:Addr) (ns:List Int) (B:Int),vs=[.ref p,.int B]∧H p=some (.lst (ns.map V.int))∧B≠0∧ns.length≤1000∧qrL H Q (trim (ns.map fun n=>qcF n B))
noncomputable def qc3 (_:W.Frag):Sp:=fun vs H Q _=>∃ (p q:Addr) (xs ys:List V) (l m:List Nu) (b c n e:Nat),vs=[.ref p,.ref q]∧H p=some (.tup xs)∧H q=some (.tup ys)∧Nums H xs l∧Nums H ys m∧Gq b c l∧Gq b c m∧l.length≤n∧m.length≤n∧n≤20∧2≤n∧n<2 ^ e∧(b+n*(2*e+4)+e+2)*(2*(n - 1))≤44490∧c≤90000∧((l=[]∨m=[])→2*3 ^ (l.length+m.length)*(b+1)≤60000000)∧
  (l=[]→m=[]→qrL H Q [])∧((l≠[]∨m≠[])→∀ g,RC (co (qcT l)) (co (qcT m)) g→Prim g→qrL H Q (mnc g))
noncomputable def qkn (f:Nu→Nu→Nu) (_:W.Frag):Sp:=fun vs H Q _=>∃ (p q:Addr) (a b c d:Int),vs=[.ref p,.ref q]∧Nm H p a b∧Nm H q c d∧0<b∧0<d∧Bd 60000000 a∧Bd 60000000 b∧Bd 60000000 c∧Bd 60000000 d∧
  ∀ (r:Addr),H r=none→Q (.ref r) (upd H r (.tup [.int (f (a,b) (c,d)).1,.int (f (a,b) (c,d)).2]))
noncomputable def qck (_:W.Frag):Sp:=fun vs H Q _=>∃ (p q:Addr) (xs ys:List V) (l m:List Nu) (b c d e:Nat),vs=[.ref p,.ref q]∧H p=some (.tup xs)∧H q=some (.tup ys)∧Nums H xs l∧Nums H ys m∧Gq b c l∧Gq d e m∧m≠[]∧l.length≤100∧m.length≤100∧
  c+(l.length+1 - m.length)*d≤400000∧b+(l.length+1 - m.length)*(d+1)+e≤900000∧e≤400000∧d≤400000∧
  ∀ (t u v:Addr) (H':Hp) (qs rs:List Nu),Same H H'→H' t=some (.tup [.ref u,.ref v])→Pl H' u qs→Pl H' v rs→qaI qs→Nz qs→qs.length≤l.length+1 - m.length→Gq (b+(l.length+1 - m.length)*(d+1)) (c+(l.length+1 - m.length)*d) rs→rs.length<m.length→
    (∀ k,pwo l k=cv (pwo qs) (pwo m) qs.length k+pwo rs k)→Q (.ref t) H'
noncomputable def Cop (T B:Nat→Rat):Prop:=∃ U W:List Rat,∀ k,(qhi k:Rat)=cvL U T k+cvL W B k
noncomputable abbrev qfn:=qkn nmul
noncomputable def qe7 (_:W.Frag):Sp:=fun vs H Q _=>∃ (p q:Addr) (a b c d:Int),vs=[.ref p,.ref q]∧Nm H p a b∧Nm H q c d∧0<b∧c≠0∧Bd 60000000 a∧Bd 60000000 b∧Bd 60000000 c∧Bd 60000000 d∧
  ∀ (r:Addr),H r=none→Q (.ref r) (upd H r (.tup [.int (qcF (a*d) (b*c)).1,.int (qcF (a*d) (b*c)).2]))
noncomputable def qgr (_:W.Frag):Sp:=fun vs H Q _=>∃ (p q:Addr) (ns ms:List Int) (b d:Nat),vs=[.ref p,.ref q]∧H p=some (.lst (ns.map V.int))∧H q=some (.lst (ms.map V.int))∧(∀ z∈ns,Bd b z)∧(∀ z∈ms,Bd d z)∧b≤900000∧d≤900000∧ns.length≤100∧ms.length≤100∧
  ∀ (r:Addr) (H':Hp),Same H H'→H' r=some (.lst ((if ns.length=0∨ms.length=0 then [] else (List.range (ns.length+ms.length - 1)).map fun k=>ps ns ms ns.length k).map V.int))→Q (.ref r) H'
noncomputable def qiD (_:W.Frag):Sp:=fun vs H Q _=>∃ (p q:Addr) (xs ys:List V) (l m:List Nu) (b c d e:Nat),vs=[.ref p,.ref q]∧H p=some (.tup xs)∧H q=some (.tup ys)∧Nums H xs l∧Nums H ys m∧Gq b c l∧Gq d e m∧l.length≤100∧m.length≤100∧b≤300000∧c≤300000∧d≤300000∧e≤300000∧
  ∀ (r:Addr) (R:List Nu) (H':Hp),Same H H'→Pl H' r R→Gq (b+d+l.length) (c+e) R→R.length≤l.length+m.length - 1→(∀ k,pwo R k=cv (pwo l) (pwo m) l.length k)→Q (.ref r) H'
noncomputable def qbH (_:W.Frag):Sp:=fun vs H Q _=>∃ (p c:Addr) (xs:List V) (l:List Nu) (a b:Int),vs=[.ref p,.ref c]∧H p=some (.tup xs)∧Nm H c a b∧Nums H xs l∧qaI l∧0<b∧Bd 60000000 a∧Bd 60000000 b∧(∀ q∈l,Bd 60000000 q.1∧Bd 60000000 q.2)∧l.length≤1000∧qrL H Q (trim (l.map fun q=>nmul q (a,b)))
noncomputable def qbI (_:W.Frag):Sp:=fun vs H Q _=>∃ (p q:Addr) (xs ys:List V) (l m:List Nu) (b c d e:Nat),vs=[.ref p,.ref q]∧H p=some (.tup xs)∧H q=some (.tup ys)∧Nums H xs l∧Nums H ys m∧Gq b c l∧Gq d e m∧m≠[]∧l.length≤100∧m.length≤100∧
  c+(l.length+1 - m.length)*d≤400000∧b+(l.length+1 - m.length)*(d+1)+e≤900000∧e≤400000∧d≤400000∧MR (pwo m) (pwo l)∧
  ∀ (r:Addr) (R:List Nu) (H':Hp),Same H H'→Pl H' r R→qaI R→Nz R→R.length≤l.length+1 - m.length→(∀ k,pwo l k=cv (pwo R) (pwo m) R.length k)→Q (.ref r) H'
noncomputable def Bx (H:Hp) (p:Addr):Prop:=∃ z:Int,H p=some (.lst [.int z])
structure Fr (l m T B:List Nu):Prop where
  eq:∀ k,cv (pwo T) (pwo m) T.length k=cv (pwo l) (pwo B) l.length k
  st:T.length≤l.length
  sb:B.length≤m.length
structure Fq (b c:Nat) (T B:List Nu):Prop where
  gt:Gq b c T
  gb:Gq b c B
  ne:B≠[]
  one:qaY B (B.length - 1)=(1,1)
  cop:Cop (pwo T) (pwo B)
structure S1 (b c n e:Nat):Prop where
  n20:n≤20
  n2:2≤n
  ne:n<2 ^ e
  lu:(b+n*(2*e+4)+e+2)*(2*(n - 1))≤44490
  cc:c≤60000
  em:2*3 ^ n*(b+1)≤60000000
  dv:(n+2)*(b+n*(2*e+4)+1)≤200000
noncomputable def D1 (b n e:Nat):Nat:=b+n*(2*e+4)
noncomputable def qc4 (_:W.Frag):Sp:=fun vs H Q _=>∃ (p q:Addr) (l m:List Nu),vs=[.ref p,.ref q]∧Pl H p l∧Pl H q m∧qaI l∧qaI m∧Nz m∧m≠[]∧(∀ q∈l,Bd 1000000 q.1∧Bd 1000000 q.2)∧(∀ q∈m,Bd 1000000 q.1∧Bd 1000000 q.2)∧l.length≤1000∧m.length≤1000∧
  ∀ fa:Nu,Low fa.1 fa.2→val fa*val (qaY m (m.length - 1))=1→∀ (t u v:Addr) (H':Hp),Same H H'→H' t=some (.tup [.ref u,.ref v])→Pl H' u (trim (l.map fun q=>nmul q (fa.1,fa.2)))→Pl H' v (trim (m.map fun q=>nmul q (fa.1,fa.2)))→Q (.ref t) H'
noncomputable def qbZ (_:W.Frag):Sp:=fun vs H Q _=>∃ (p q:Addr) (l m:List Nu) (b c n e:Nat),vs=[.ref p,.ref q]∧Pl H p l∧Pl H q m∧Gq b c l∧Gq b c m∧m≠[]∧l.length≤n∧m.length≤n∧S1 b c n e∧
  ∀ (t u v:Addr) (H':Hp) (T B:List Nu),Same H H'→H' t=some (.tup [.ref u,.ref v])→Pl H' u T→Pl H' v B→Fr l m T B→Fq (D1 b n e+c) (D1 b n e+c) T B→Q (.ref t) H'
noncomputable def rw' (l:List Nu):List Rat:=(List.range l.length).map (pwo l)
noncomputable def FF (H:Hp) (p:Addr) (T B:List Nu):Prop:=∃ u v,H p=some (.tup [.ref u,.ref v])∧Pl H u T∧Pl H v B
end Bs
namespace Bs
open PySem L2
noncomputable def Box (H:Hp) (p:Addr) (n:Int):Prop:=∃ a b c:Int,H p=some (.lst [.int a,.int b,.int c])∧0≤a∧0≤b∧0≤c∧c≤n
noncomputable def qdS (K:W.Frag):Sp:=fun vs H Q _=>∃ (s:Addr) (ns:List Int) (k:Int),vs=[.ref s,.int k]∧SqL K H s (ns.map V.int)∧0≤k∧k≤1000∧
  ∀ (p:Addr) (H':Hp),H p=none→Kp p H H'→Box H' p 7000→Q (.ref p) H'
noncomputable def qaO (_:W.Frag):Sp:=fun vs H Q _=>∃ (p:Addr) (m n:Int),vs=[.ref p,.int m]∧Box H p n∧n≤1000000∧0<m∧m<4611686018427387904∧
  ∀ (d:Int) (H':Hp),0≤d→d<m→Box H' p (n+1)→Kp p H H'→Q (.int d) H'
noncomputable def qa1 (_:W.Frag):Sp:=fun vs H Q _=>∃ a b:Int,vs=[.int a,.int b]∧0<b∧
  ∀ (p:Addr),H p=none→Q (.ref p) (upd H p (.tup [.int (a / ((Int.gcd a b:Nat):Int)),.int (b / ((Int.gcd a b:Nat):Int))]))
noncomputable def qbB (_:W.Frag):Sp:=fun vs H Q _=>∃ (p:Addr) (n:Int),vs=[.ref p]∧Box H p n∧n≤900000∧
  ∀ (r:Addr) (t d:Int) (H':Hp),Nm H' r t d→Low t d→Bd 40 t→Bd 40 d→Box H' p (n+3)→Kp p H H'→Q (.ref r) H'
noncomputable abbrev qfo:=qkn nadd
noncomputable abbrev qcr:=qkn nmul
noncomputable abbrev qbJ:=qcG
noncomputable def qbj (_:W.Frag):Sp:=fun vs H Q _=>∃ (p q:Addr) (xs ys:List V) (l m:List Nu) (M1 M2:Int) (b c:Nat),vs=[.ref p,.ref q]∧H p=some (.tup xs)∧H q=some (.tup ys)∧Nums H xs l∧Nums H ys m∧qaI l∧qaI m∧Ov l M1∧Ov m M2∧Bd 900000 (M1*M2)∧(∀ z∈ovN l M1,Bd b z)∧(∀ z∈ovN m M2,Bd c z)∧b+c≤900000∧l.length≤100∧m.length≤100∧qrL H Q (trim (qtK l m M1 M2 (l.length+m.length)))
noncomputable def qcs (_:W.Frag):Sp:=fun vs H Q _=>∃ (p:Addr) (m n:Int),vs=[.ref p,.int m]∧Box H p n∧n≤800000∧0≤m∧m≤9∧
  ∀ (r:Addr) (zs:List V) (l:List Nu) (H':Hp),H' r=some (.tup zs)→Nums H' zs l→qaI l→qh6 40 l→Nz l→(l.length:Int)≤m+1→Box H' p (n+40)→Kp p H H'→Q (.ref r) H'
end Bs
namespace Bs
open PySem L2
noncomputable def qc5 (_:W.Frag):Sp:=fun vs H Q _=>∃ (p:Addr) (xs:List V),vs=[.ref p]∧H p=some (.tup xs)∧Q (.int ((xs.length:Int) - 1)) H
noncomputable def nT (a b:Int):Str:=if b=1 then sI a else sI a++Str.ofString "/" ++ sI b
noncomputable def jn (a:Int) (f:Bool):Str:=if f=true then (if a<0 then Str.ofString "-" else Str.ofString "") else (if a<0 then Str.ofString " - " else Str.ofString " + ")
noncomputable def st1 (t:Str) (r:Int×Int×Str):Str:=t++(jn r.1 (decide (t=Str.ofString ""))++nT (if r.1<0 then -r.1 else r.1) r.2.1++Str.ofString "*log(" ++ r.2.2++Str.ofString ")")
noncomputable def lT (t:Str) (L:List (Int×Int×Str)):Str:=L.foldl st1 t
noncomputable def hd (f:Bool) (t:Str) (n:Nat):Str:=if f=true∧0<n then Str.ofString "" else t
noncomputable def RwS (H:Hp) (vs:List V) (L:List (Int×Int×Str)):Prop:=vs.length=L.length∧∀ (i:Nat) (r:Int×Int×Str),L[i]?=some r→∃ p c,vs[i]?=some (V.ref p)∧H p=some (.tup [.ref c,.str r.2.2])∧Nm H c r.1 r.2.1∧Bd 1900 r.1∧Bd 1900 r.2.1∧r.2.2.length≤20000
noncomputable def qbQ (_:W.Frag):Sp:=fun vs H Q _=>∃ (p:Addr) (a b:Int),vs=[.ref p]∧Nm H p a b∧∀ r,H r=none→Q (.ref r) (upd H r (.tup [.int (if a<0 then -a else a),.int b]))
noncomputable def qbn (_:W.Frag):Sp:=fun vs H Q _=>∃ i:Int,vs=[.int i]∧Bd 1900 i∧∀ H',Same H H'→Q (.str (sI i)) H'
noncomputable def qaM (_:W.Frag):Sp:=fun vs H Q _=>∃ (p:Addr) (a b:Int),vs=[.ref p]∧Nm H p a b∧Bd 1900 a∧Bd 1900 b∧∀ H',Same H H'→Q (.str (nT a b)) H'
noncomputable def qcS (_:W.Frag):Sp:=fun vs H Q _=>∃ (p:Addr) (f:Bool) (a b:Int),vs=[.ref p,.bl f]∧Nm H p a b∧Q (.str (jn a f)) H
noncomputable def qbK (_:W.Frag):Sp:=fun vs H Q _=>∃ (t:Str) (l:Addr) (ws:List V) (L:List (Int×Int×Str)),vs=[.str t,.ref l]∧H l=some (.lst ws)∧RwS H ws L∧t.length≤20000∧L.length≤30∧
  ∀ H',Same H H'→Q (.str (lT (hd (decide (t=Str.ofString "0")) t L.length) L)) H'
noncomputable abbrev qbb:=qaM
noncomputable def qbs (_:W.Frag):Sp:=fun vs H Q _=>∃ (t:Str) (f:Bool) (l:Addr) (ws:List V) (L:List (Int×Int×Str)),vs=[.str t,.bl f,.ref l]∧H l=some (.lst ws)∧RwS H ws L∧t.length≤20000∧L.length≤30∧
  ∀ H',Same H H'→Q (.str (lT (hd f t L.length) L)) H'
end Bs
namespace Bs
open PySem L2
noncomputable def lett (n:Nat):Str:=if n=1 then Str.ofString "x" else Str.ofString "x^" ++ sI (n:Int)
noncomputable def tmT (n:Nat) (a b:Int):Str:=if n=0 then nT a b else if a=1∧b=1 then lett n else nT a b++Str.ofString "*" ++ lett n
noncomputable def ab (a:Int):Int:=if a<0 then -a else a
noncomputable def fR (l:List Nu) (n:Nat):Option (Bool×Str):=if (qaY l n).1=0 then none else some (decide ((qaY l n).1<0),tmT n (ab (qaY l n).1) (qaY l n).2)
noncomputable def sg (s:Bool):Str:=if s=true then Str.ofString " - " else Str.ofString " + "
noncomputable def ng (s:Bool):Str:=if s=true then Str.ofString "-" else Str.ofString ""
noncomputable def qle:List (Bool×Str)→Str
  | []=>Str.ofString ""
  | d::D=>sg d.1++d.2++qle D
noncomputable def hT:List (Bool×Str)→Str
  | []=>Str.ofString ""
  | d::D=>ng d.1++d.2++qle D
noncomputable def DD (l:List Nu):List (Bool×Str):=((List.range l.length).filterMap (fR l)).reverse
noncomputable def pT (l:List Nu):Str:=if DD l=[] then Str.ofString "0" else hT (DD l)
noncomputable def fT (T B:List Nu):Str:=if B=[(1,1)] then pT T else Str.ofString "(" ++ pT T++Str.ofString ")/(" ++ pT B++Str.ofString ")"
noncomputable def Wr (l:List Nu):Prop:=(∀ q∈l,Bd 1900 q.1∧Bd 1900 q.2)∧l.length≤12
noncomputable def qct (_:W.Frag):Sp:=fun vs H Q _=>∃ (p:Addr) (a b:Int) (n:Nat),vs=[.ref p,.int (n:Int)]∧Nm H p a b∧Bd 1900 a∧Bd 1900 b∧n≤1000∧∀ H',Same H H'→Q (.str (tmT n a b)) H'
noncomputable def qbo (_:W.Frag):Sp:=fun vs H Q _=>∃ (p:Addr) (l:List Nu),vs=[.ref p]∧Pl H p l∧Wr l∧∀ H',Same H H'→Q (.str (pT l)) H'
noncomputable def qf3 (_:W.Frag):Sp:=fun vs H Q _=>∃ (p:Addr) (T B:List Nu),vs=[.ref p]∧FF H p T B∧Wr T∧Wr B∧∀ H',Same H H'→Q (.str (fT T B)) H'
end Bs
namespace Bs
open PySem L2
noncomputable abbrev qa8:=qbo
noncomputable abbrev qbp:=qf3
noncomputable def RwP (H:Hp) (vs:List V) (L:List (Int×Int×List Nu)):Prop:=vs.length=L.length∧∀ (i:Nat) (r:Int×Int×List Nu),L[i]?=some r→∃ p c d,vs[i]?=some (V.ref p)∧H p=some (.tup [.ref c,.ref d])∧Nm H c r.1 r.2.1∧Pl H d r.2.2∧Bd 1900 r.1∧Bd 1900 r.2.1∧Wr r.2.2
noncomputable def ptx (r:Int×Int×List Nu):Int×Int×Str:=(r.1,r.2.1,pT r.2.2)
noncomputable def qb1 (_:W.Frag):Sp:=fun vs H Q _=>∃ (n f l:Addr) (T B:List Nu) (ws:List V) (L:List (Int×Int×List Nu)),vs=[.ref n]∧H n=some (.tup [.ref f,.ref l])∧FF H f T B∧Wr T∧Wr B∧T.length≤6∧B.length≤6∧H l=some (.tup ws)∧RwP H ws L∧L.length≤30∧
  ∀ H',Same H H'→Q (.str (lT (hd (decide (fT T B=Str.ofString "0")) (fT T B) L.length) (L.map ptx))) H'
noncomputable def qc6 (_:W.Frag):Sp:=fun vs H Q _=>∃ (p:Addr) (m n:Int),vs=[.ref p,.int m]∧Box H p n∧n≤800000∧0≤m∧m≤5∧
  ∀ (r:Addr) (ws:List V) (L:List Nu) (H':Hp),H r=none→H' r=some (.lst ws)→Nums H' ws L→qh6 40 L→(L.length:Int)≤m→Box H' p (n+20)→Kp p H H'→Q (.ref r) H'
noncomputable def qem (_:W.Frag):Sp:=fun vs H Q _=>∃ (p:Addr) (n:Int),vs=[.ref p]∧Box H p n∧n≤10000∧
  ∀ (t f l:Addr) (T B:List Nu) (ws:List V) (L:List (Int×Int×List Nu)) (H':Hp),H' t=some (.tup [.ref f,.ref l])→FF H' f T B→Wr T→Wr B→T.length≤6→B.length≤6→(T=[]→B=[(1,1)])→Nz T→H' l=some (.tup ws)→RwP H' ws L→L.length≤5→Kp p H H'→Q (.ref t) H'
end Bs
namespace Bs
open PySem L2
set_option linter.unusedVariables false
noncomputable def qcH (K:W.Frag):TS:=
  (qaH (qcV (qaS (tOp rNe (qaf 1) (tC (.int 0)))) (qaH (qaR (tOp qrs (qaf 0) (qaf 1)) (qaj 2))
    (qaH (qaR (qaf 1) (qaj 0))
    (qaR (qaf 2) (qaj 1)))))
    (qbw (tCB qnt (qab (qaf 0) qao))))
noncomputable def qjm (K:W.Frag):TS:=
  (qaH (qaR (tC (.int 1)) (qaj 2))
    (qaH (qaR (qaf 0) (qaj 3))
    (qaH (qcV (qaS (tOp iGt (qaf 1) (tC (.int 0)))) (qaH (qd0 (qaS (tOp rEq (tOp qjQ (qaf 1) (tC (.int 2))) (tC (.int 1)))) (qmJ 2 (qaf 3) qdM) qbL)
    (qaH (qmJ 1 (tC (.int 2)) qj7)
    (qd0 (qaS (tOp iGt (qaf 1) (tC (.int 0)))) (qmJ 3 (qaf 3) qdM) qbL))))
    (qbw (qaf 2)))))
noncomputable def qho (K:W.Frag):TS:=
  (qaH (qaR (qar (qas K) [] E0 (qab (qpU (qiy (qdB K (qaf 0)) [none] (qaj 0) (qaS (tOp rNe (qaf 0) (tC (.int 0)))) (tCB qnt (qab (qaf 0) qao)))) (qab (qaf 1) qao))) (qaj 2))
    (qaH (qfQ (qdB K (qaf 0)) (qaj 3) (qaH (qd0 (qaS (tOp rEq (qaf 2) (tC (.int 1)))) (qbw (tC (.int 1))) qbL)
    (qaR (qar (qas K) [] E0 (qab (qaf 3) (qab (qaf 2) qao))) (qaj 2))))
    (qbw (qaf 2))))
noncomputable def qdT (K:W.Frag):TS:=
  (qaH (qaR (tCB qb5 (qab (qaf 0) qao)) (qaj 1))
    (qaH (qcV (qnz (qaS (tOp iGt (qaf 1) (tC (.int 0)))) (qaS (tOp rEq (tOp gL (qaf 0) (tOp qeK (qaf 1) (tC (.int 1)))) (tC (.int 0))))) (qmJ 1 (tC (.int 1)) qeK))
    (qbw (tSl sL (qaf 0) qea (qjZ (qaf 1))))))
noncomputable def qen (K:W.Frag):TS:=
  (qbw (qco (qdB K (qaf 0)) [none,some 1] (qaj 0) (tOp qhd (qaf 0) (qaf 1))))
noncomputable def qeo (K:W.Frag):TS:=
  (qd0 (qaS (tOp rNe (qaf 6) (tC (.int 0)))) (qfQ (qjT (qab (qaf 3) qao)) (qaj 7) (qmK (qaf 2) (tOp qg6 (qaf 5) (qaf 7)) (tOp qdM (qaf 6) (tOp gL (qaf 1) (qaf 7))) gL qeK qgB)) qbL)
noncomputable def qep (K:W.Frag):TS:=
  (qaH (qaR (qaf 6) (qpM (qaf 4) (qaf 5) qgB))
    (qeo K))
noncomputable def qeq (K:W.Frag):TS:=
  (qaH (qd0 (qaS (tOp rNe (tOp qdM (qaf 6) (tOp gL (qaf 1) (tUn qgo (tC (.int 1))))) (tOp gL (qaf 2) (tOp qg6 (qaf 5) (qaf 3))))) (qbw (tC .non)) qbL)
    (qep K))
noncomputable def qer (K:W.Frag):TS:=
  (qaH (qaR (tOp qgD (tOp gL (qaf 2) (tOp qg6 (qaf 5) (qaf 3))) (tOp gL (qaf 1) (tUn qgo (tC (.int 1))))) (qaj 6))
    (qeq K))
noncomputable def qgs (K:W.Frag):TS:=
  (qbw (tIf (tB (tCB qpV (qab (tSl sL (qaf 2) qea (qjZ (qaf 3))) qao))) (tC .non) (qaf 4)))
noncomputable def qgt (K:W.Frag):TS:=
  (qaH (qfQ (qm0 (qab (tOp qeK (tOp qeK (tCB qb5 (qab (qaf 0) qao)) (qaf 3)) (tC (.int 1))) (qab (tUn qgo (tC (.int 1))) (qab (tUn qgo (tC (.int 1))) qao)))) (qaj 5) (qer K))
    (qgs K))
noncomputable def qgu (K:W.Frag):TS:=
  (qaH (qaR (tOp qqN (qh5 (qab (tC (.int 0)) qao)) (tCB qrt (qab (tOp qeK (tCB qb5 (qab (qaf 0) qao)) (qaf 3)) (qab (tC (.int 0)) qao)))) (qaj 4))
    (qgt K))
noncomputable def qgv (K:W.Frag):TS:=
  (qaH (qaR (tOp qeK (tCB qb5 (qab (qaf 1) qao)) (tC (.int 1))) (qaj 3))
    (qgu K))
noncomputable def qf4 (K:W.Frag):TS:=
  (qaH (qaR (tCB qkd (qab (qaf 0) qao)) (qaj 2))
    (qgv K))
noncomputable def qf5 (K:W.Frag):TS:=
  (qaH (qaR (qco (qdB K (qaf 0)) [none,some 1] (qaj 0) (tOp qdM (qaf 1) (qaf 0))) (qaj 5))
    (qaH (qkW (tBM K "list" qiT (qaf 5) (qab (tOp qqN (qh5 (qab (tC (.int 0)) qao)) (tOp qeK (tOp qg6 (tCB qb5 (qab (qaf 2) qao)) (qaf 4)) (tCB qb5 (qab (qaf 0) qao)))) qao)))
    (qaH (qfQ (ql5 K (qab (qaf 2) qao)) (qfj 2 (qcB (qaj 6) (qcB (qaj 7) qlU))) (qmK (qaf 5) (tOp qg6 (qaf 6) (qaf 4)) (tOp qdM (qaf 3) (qaf 7)) gL qeK qgB))
    (qbw (qar (qaU K) [] E0 (qab (qaf 5) qao))))))
noncomputable def qfp (K:W.Frag):TS:=
  (qaR (qco (qtU K (qab (qaf 0) (qab (qaf 1) qao))) [none,none,some 6,some 7,some 2] (qfj 2 (qcB (qaj 0) (qcB (qaj 1) qlU))) (qar (qbz K) [] E0 (qab (qaf 0) (qab (qaf 2) (qab (qaf 1) (qab (qaf 3) (qab (qaf 4) qao))))))) (qaj 0))
noncomputable def qfq (K:W.Frag):TS:=
  (qaH (qaR (tOp qgD (qaf 3) (qaf 5)) (qaj 7))
    (qfp K))
noncomputable def qfr (K:W.Frag):TS:=
  (qaH (qaR (tOp qgD (qaf 4) (qaf 5)) (qaj 6))
    (qfq K))
noncomputable def qfs (K:W.Frag):TS:=
  (qaH (qaR (qar (qas K) [] E0 (qab (qaf 3) (qab (qaf 4) qao))) (qaj 5))
    (qfr K))
noncomputable def qft (K:W.Frag):TS:=
  (qaH (qaR (tOp gL (tOp gL (qaf 1) (tC (.int 0))) (tUn qgo (tC (.int 1)))) (qaj 4))
    (qfs K))
noncomputable def qfu (K:W.Frag):TS:=
  (qaH (qaR (tOp gL (tOp gL (qaf 0) (tC (.int 0))) (tUn qgo (tC (.int 1)))) (qaj 3))
    (qft K))
noncomputable def qfv (K:W.Frag):TS:=
  (qaH (qaR (tOp qeK (tCB qb5 (qab (tOp gL (qaf 0) (tC (.int 0))) qao)) (tCB qb5 (qab (tOp gL (qaf 1) (tC (.int 0))) qao))) (qaj 2))
    (qfu K))
noncomputable def qes (K:W.Frag):TS:=
  (qbw (qar (qaJ K) [] E0 (qab (qaf 0) qao)))
noncomputable def qdU (K:W.Frag):TS:=
  (qaH (qcV (qaS (tOp iGe (tCB qb5 (qab (tOp gL (qaf 0) (tC (.int 0))) qao)) (tCB qb5 (qab (tOp gL (qaf 1) (tC (.int 0))) qao)))) (qfv K))
    (qes K))
noncomputable def qb9 (K:W.Frag):TS:=
  (qaH (qaR (tC (.int 0)) (qaj 1))
    (qaH (qfQ (qdB K (qaf 0)) (qaj 2) (qaR (qar (qbO K) [] E0 (qab (qaf 2) (qab (qaf 1) qao))) (qaj 1)))
    (qbw (qco (qdB K (qaf 0)) [none,some 1] (qaj 0) (qar (qbe K) [] E0 (qab (qaf 0) (qab (qaf 1) qao)))))))
noncomputable def qc7 (K:W.Frag):TS:=
  (qbw (tOp gL (qar (qaJ K) [] E0 (qab (qh5 (qab (qaf 0) qao)) qao)) (tC (.int 0))))
noncomputable def qc8 (K:W.Frag):TS:=
  (qaH (qcV (qgC (tOp gL (qaf 1) (tC (.int 0)))) (qaH (qd0 (qaS (tOp rEq (tCB qb5 (qab (tOp gL (qaf 1) (tC (.int 0))) qao)) (tC (.int 1)))) (qbw (qaf 1)) qbL)
    (qaH (qaR (qar (qbq K) [] E0 (qab (qaf 0) (qab (qaf 1) qao))) (qaj 2))
    (qaH (qaR (qaf 1) (qaj 0))
    (qaR (qaf 2) (qaj 1))))))
    (qbw (qaf 0)))
noncomputable def qcu (K:W.Frag):TS:=
  (qaR (qaf 7) (qaj 5))
noncomputable def qcv (K:W.Frag):TS:=
  (qaH (qaR (qaf 5) (qaj 4))
    (qcu K))
noncomputable def qcw (K:W.Frag):TS:=
  (qaH (qaR (tOp qeK (qaf 4) (tOp qdM (qaf 6) (qaf 5))) (qaj 7))
    (qcv K))
noncomputable def qcx (K:W.Frag):TS:=
  (qaH (qaR (qaf 7) (qaj 3))
    (qcw K))
noncomputable def qcy (K:W.Frag):TS:=
  (qaH (qaR (qaf 3) (qaj 2))
    (qcx K))
noncomputable def qcz (K:W.Frag):TS:=
  (qaH (qaR (tOp qeK (qaf 2) (tOp qdM (qaf 6) (qaf 3))) (qaj 7))
    (qcy K))
noncomputable def qcA (K:W.Frag):TS:=
  (qaH (qaR (tOp qhd (qaf 2) (qaf 3)) (qaj 6))
    (qcz K))
noncomputable def qdj (K:W.Frag):TS:=
  (qbw (tOp qjQ (qaf 4) (qaf 1)))
noncomputable def qdk (K:W.Frag):TS:=
  (qaH (qcV (qaS (tOp rNe (qaf 3) (tC (.int 0)))) (qcA K))
    (qdj K))
noncomputable def qdl (K:W.Frag):TS:=
  (qaH (qaR (tC (.int 1)) (qaj 5))
    (qdk K))
noncomputable def qdm (K:W.Frag):TS:=
  (qaH (qaR (tC (.int 0)) (qaj 4))
    (qdl K))
noncomputable def qdn (K:W.Frag):TS:=
  (qaH (qaR (tOp qjQ (qaf 0) (qaf 1)) (qaj 3))
    (qdm K))
noncomputable def qcI (K:W.Frag):TS:=
  (qaH (qaR (qaf 1) (qaj 2))
    (qdn K))
noncomputable def qdx (K:W.Frag):TS:=
  (qbw (qco (qdB K (qaf 0)) [none,some 1] (qaj 0) (tOp qjQ (qaf 0) (qaf 1))))
noncomputable def qet (K:W.Frag):TS:=
  (qbw (qar (qaU K) [] E0 (qab (qar (qbh K) [] E0 (qab (qaf 0) (qab (qaf 1) qao))) qao)))
noncomputable def qdy (K:W.Frag):TS:=
  (qaH (qd0 (qsE (qgC (qaf 0))) (qbw (qh5 qao)) qbL)
    (qaH (qaR (qar (qa6 K) [] E0 (qab (tOp gL (qaf 0) (tUn qgo (tC (.int 1)))) (qab (qaf 1) qao))) (qaj 2))
    (qbw (qco (qdB K (qaf 0)) [none,some 1,some 2] (qaj 0) (tOp qjQ (tOp qdM (qaf 0) (qaf 2)) (qaf 1))))))
noncomputable def qc9 (K:W.Frag):TS:=
  (qd0 (qaS (tOp rNe (qaf 7) (tC (.int 0)))) (qfQ (qjT (qab (qaf 4) qao)) (qaj 8) (qmK (qaf 3) (tOp qg6 (qaf 6) (qaf 8)) (tOp qdM (qaf 7) (tOp gL (qaf 1) (qaf 8))) gL qeK qgB)) qbL)
noncomputable def qda (K:W.Frag):TS:=
  (qaH (qaR (qaf 7) (qpM (qaf 5) (qaf 6) qgB))
    (qc9 K))
noncomputable def qdb (K:W.Frag):TS:=
  (qaH (qaR (tOp qjQ (tOp gL (qaf 3) (tOp qg6 (qaf 6) (qaf 4))) (qaf 2)) (qaj 7))
    (qda K))
noncomputable def qd2 (K:W.Frag):TS:=
  (qbw (qcW (qab (qar (qaU K) [] E0 (qab (qaf 5) qao)) (qab (qar (qa7 K) [] E0 (qab (tSl sL (qaf 3) qea (qjZ (qaf 4))) (qab (qaf 2) qao))) qao))))
noncomputable def qd3 (K:W.Frag):TS:=
  (qaH (qfQ (qm0 (qab (tOp qeK (tOp qeK (tCB qb5 (qab (qaf 0) qao)) (qaf 4)) (tC (.int 1))) (qab (tUn qgo (tC (.int 1))) (qab (tUn qgo (tC (.int 1))) qao)))) (qaj 6) (qdb K))
    (qd2 K))
noncomputable def qd4 (K:W.Frag):TS:=
  (qaH (qaR (tOp qqN (qh5 (qab (tC (.int 0)) qao)) (tCB qrt (qab (tOp qeK (tCB qb5 (qab (qaf 0) qao)) (qaf 4)) (qab (tC (.int 0)) qao)))) (qaj 5))
    (qd3 K))
noncomputable def qd5 (K:W.Frag):TS:=
  (qaH (qaR (tOp qeK (tCB qb5 (qab (qaf 1) qao)) (tC (.int 1))) (qaj 4))
    (qd4 K))
noncomputable def qdz (K:W.Frag):TS:=
  (qaH (qaR (tCB qkd (qab (qaf 0) qao)) (qaj 3))
    (qd5 K))
noncomputable def qdV (K:W.Frag):TS:=
  (qbw (tOp gT (qar (qbi K) [] E0 (qab (qaf 0) (qab (qaf 1) (qab (qaf 2) qao)))) (tC (.int 1))))
noncomputable def qdc (K:W.Frag):TS:=
  (qaH (qaR (qar (qaZ K) [] E0 (qab (qar (qa7 K) [] E0 (qab (qaf 0) (qab (qaf 2) qao))) (qab (qaf 2) qao))) (qaj 0))
    (qaH (qaR (qar (qaZ K) [] E0 (qab (qar (qa7 K) [] E0 (qab (qaf 1) (qab (qaf 2) qao))) (qab (qaf 2) qao))) (qaj 1))
    (qaH (qcV (qgC (qaf 1)) (qaH (qaR (qar (qbr K) [] E0 (qab (qaf 0) (qab (qaf 1) (qab (qaf 2) qao)))) (qaj 3))
    (qaH (qaR (qaf 1) (qaj 0))
    (qaR (qar (qaZ K) [] E0 (qab (qaf 3) (qab (qaf 2) qao))) (qaj 1)))))
    (qbw (qaf 0)))))
noncomputable def qhp (K:W.Frag):TS:=
  (qaH (qaR (tOp qjQ (qaf 0) (qaf 1)) (qaj 2))
    (qbw (tIf (qaS (tOp iGt (tOp qdM (tC (.int 2)) (qaf 2)) (qaf 1))) (tOp qeK (qaf 2) (qaf 1)) (qaf 2))))
noncomputable def qcl (K:W.Frag):TS:=
  (qaH (qaR (qar (qas K) [] E0 (qab (tOp gL (qaf 0) (tUn qgo (tC (.int 1)))) (qab (tOp gL (qaf 1) (tUn qgo (tC (.int 1)))) qao))) (qaj 3))
    (qaH (qd0 (qaS (tOp rEq (tOp qjQ (qaf 3) (qaf 2)) (tC (.int 0)))) (qbw (tC .non)) qbL)
    (qaH (qaR (qar (qba K) [] E0 (qab (qaf 0) (qab (qaf 1) (qab (qaf 2) qao)))) (qaj 4))
    (qaH (qaR (qar (qaL K) [] E0 (qab (qco (qdB K (qaf 4)) [none,some 2,some 3] (qaj 0) (qar (qcj K) [] E0 (qab (tOp qdM (qaf 2) (qaf 0)) (qab (qaf 1) qao)))) qao)) (qaj 5))
    (qaH (qd0 (tOr (qaS (tOp qtJ (qar (qbG K) [] E0 (qab (qaf 0) (qab (qaf 5) qao))) (tC .non))) (qaS (tOp qtJ (qar (qbG K) [] E0 (qab (qaf 1) (qab (qaf 5) qao))) (tC .non)))) (qbw (tC .non)) qbL)
    (qbw (qaf 5)))))))
noncomputable def qeu (K:W.Frag):TS:=
  (qaH (qaR (qar (qaL K) [] E0 (qab (qaf 0) qao)) (qaj 2))
    (qaH (qaR (qar (qaL K) [] E0 (qab (qaf 1) qao)) (qaj 3))
    (qaH (qd0 (qnz (qgC (qaf 0)) (qgC (qaf 1))) (qfQ (qnD K (tC (.ref (qci K)))) (qaj 4) (qaH (qaR (qar (qa0 K) [] E0 (qab (qaf 2) (qab (qaf 3) (qab (tOp qeK (qar (qb8 K) [] E0 (qab (tC (.int 2)) (qab (qaf 4) qao))) (tC (.int 1))) qao)))) (qaj 5))
    (qd0 (qaS (tOp qrw (qaf 5) (tC .non))) (qbw (qaf 5)) qbL))) qbL)
    (qbw (tOp gL (qar (qa4 K) [] E0 (qab (qh5 (qab (qaf 2) qao)) (qab (qh5 (qab (qaf 3) qao)) qao))) (tC (.int 0)))))))
noncomputable def qlf (K:W.Frag):TS:=
  (qaH (qaR (qar (qas K) [] E0 (qab (qaf 0) (qab (qaf 1) qao))) (qaj 2))
    (qaH (qd0 (qaS (tOp iLt (qaf 1) (tC (.int 0)))) (qaR (tUn qgo (qaf 2)) (qaj 2)) qbL)
    (qbw (qcW (qab (tOp qgD (qaf 0) (qaf 2)) (qab (tOp qgD (qaf 1) (qaf 2)) qao))))))
noncomputable def qlg (K:W.Frag):TS:=
  (qbw (qar (qbP K) [] E0 (qab (tOp qdM (tOp gT (qaf 0) (tC (.int 0))) (tOp gT (qaf 1) (tC (.int 0)))) (qab (tOp qdM (tOp gT (qaf 0) (tC (.int 1))) (tOp gT (qaf 1) (tC (.int 1)))) qao))))
noncomputable def qoR (K:W.Frag):TS:=
  (qbw (qar (qbP K) [] E0 (qab (tOp qdM (tOp gT (qaf 0) (tC (.int 0))) (tOp gT (qaf 1) (tC (.int 1)))) (qab (tOp qdM (tOp gT (qaf 0) (tC (.int 1))) (tOp gT (qaf 1) (tC (.int 0)))) qao))))
noncomputable def qko (K:W.Frag):TS:=
  (qbw (qcW (qab (tCB qnt (qab (tOp gT (qaf 0) (tC (.int 0))) qao)) (qab (tOp gT (qaf 0) (tC (.int 1))) qao))))
noncomputable def qoS (K:W.Frag):TS:=
  (qaH (qaR (tCB qb5 (qab (qaf 0) qao)) (qaj 1))
    (qaH (qcV (qnz (qaS (tOp iGt (qaf 1) (tC (.int 0)))) (qaS (tOp rEq (tOp gT (tOp gL (qaf 0) (tOp qeK (qaf 1) (tC (.int 1)))) (tC (.int 0))) (tC (.int 0))))) (qmJ 1 (tC (.int 1)) qeK))
    (qbw (tCB qmZ (qab (tSl sL (qaf 0) qea (qjZ (qaf 1))) qao)))))
noncomputable def qjn (K:W.Frag):TS:=
  (qbw (tOp qeK (tCB qg7 (qab (qaf 0) qao)) (tC (.int 1))))
noncomputable def qhq (K:W.Frag):TS:=
  (qaH (qaR (tC (.int 1)) (qaj 1))
    (qaH (qfQ (qnD K (qaf 0)) (qaj 2) (qmJ 1 (tOp qhd (tOp gT (qaf 2) (tC (.int 1))) (qar (qas K) [] E0 (qab (qaf 1) (qab (tOp gT (qaf 2) (tC (.int 1))) qao)))) qdM))
    (qbw (qcW (qab (qco (qnD K (qaf 0)) [none,some 1] (qaj 0) (tOp qdM (tOp gT (qaf 0) (tC (.int 0))) (tOp qhd (qaf 1) (tOp gT (qaf 0) (tC (.int 1)))))) (qab (qaf 1) qao))))))
noncomputable def qe8 (K:W.Frag):TS:=
  (qbw (qar (qcG K) [] E0 (qab (qco (qdB K (qaf 0)) [none,some 1] (qaj 0) (qar (qbP K) [] E0 (qab (qaf 0) (qab (qaf 1) qao)))) qao)))
noncomputable def qf6 (K:W.Frag):TS:=
  (qbw (qar (qcG K) [] E0 (qab (qco (qnD K (qaf 0)) [none,some 1] (qaj 0) (qar (qfn K) [] E0 (qab (qaf 0) (qab (qaf 1) qao)))) qao)))
noncomputable def qeN (K:W.Frag):TS:=
  (qmJ 5 (qaf 10) qhd)
noncomputable def qeO (K:W.Frag):TS:=
  (qaH (qaR (qar (qbe K) [] E0 (qab (qaf 4) (qab (qaf 10) qao))) (qaj 4))
    (qeN K))
noncomputable def qeP (K:W.Frag):TS:=
  (qaH (qaR (qar (qbO K) [] E0 (qab (qaf 4) (qab (qaf 5) qao))) (qaj 10))
    (qeO K))
noncomputable def qeQ (K:W.Frag):TS:=
  (qaH (qmJ 5 (tOp qgD (qaf 6) (qaf 9)) qdM)
    (qeP K))
noncomputable def qeR (K:W.Frag):TS:=
  (qaH (qaR (qar (qbz K) [] E0 (qab (qaf 4) (qab (tOp qgD (qaf 6) (qaf 9)) (qab (tOp gT (qaf 3) (tC (.int 0))) (qab (tOp qgD (tOp gL (qaf 4) (tUn qgo (tC (.int 1)))) (qaf 9)) (qab (qaf 8) qao)))))) (qaj 4))
    (qeQ K))
noncomputable def qeS (K:W.Frag):TS:=
  (qaH (qaR (qar (qas K) [] E0 (qab (tOp gL (qaf 4) (tUn qgo (tC (.int 1)))) (qab (qaf 6) qao))) (qaj 9))
    (qeR K))
noncomputable def qeT (K:W.Frag):TS:=
  (qaH (qaR (qar (qbP K) [] E0 (qab (tOp qdM (tOp gL (qaf 4) (tUn qgo (tC (.int 1)))) (tOp gT (qaf 3) (tC (.int 1)))) (qab (tOp qdM (qaf 5) (qaf 6)) qao))) (qpM (qaf 7) (qaf 8) qgB))
    (qeS K))
noncomputable def qeU (K:W.Frag):TS:=
  (qaH (qaR (tOp qeK (tCB qb5 (qab (qaf 4) qao)) (tCB qg7 (qab (qaf 1) qao))) (qaj 8))
    (qeT K))
noncomputable def qhr (K:W.Frag):TS:=
  (qbw (qcW (qab (qar (qcG K) [] E0 (qab (qaf 7) qao)) (qab (qar (qbm K) [] E0 (qab (qaf 4) (qab (qaf 5) qao))) qao))))
noncomputable def qhs (K:W.Frag):TS:=
  (qaH (qcV (qaS (tOp iGe (tCB qb5 (qab (qaf 4) qao)) (tCB qg7 (qab (qaf 1) qao)))) (qeU K))
    (qhr K))
noncomputable def qht (K:W.Frag):TS:=
  (qaH (qaR (tOp qqN (qh5 (qab (qcW (qab (tC (.int 0)) (qab (tC (.int 1)) qao))) qao)) (tCB qrt (qab (tOp qg6 (tOp qeK (tCB qg7 (qab (qaf 0) qao)) (tCB qg7 (qab (qaf 1) qao))) (tC (.int 1))) (qab (tC (.int 0)) qao)))) (qaj 7))
    (qhs K))
noncomputable def qhu (K:W.Frag):TS:=
  (qaH (qaR (tOp gL (tOp gT (qaf 3) (tC (.int 0))) (tUn qgo (tC (.int 1)))) (qaj 6))
    (qht K))
noncomputable def qhv (K:W.Frag):TS:=
  (qaH (qaR (tOp gT (qaf 2) (tC (.int 1))) (qaj 5))
    (qhu K))
noncomputable def qhw (K:W.Frag):TS:=
  (qaH (qaR (tOp gT (qaf 2) (tC (.int 0))) (qaj 4))
    (qhv K))
noncomputable def qhx (K:W.Frag):TS:=
  (qaH (qaR (qar (qbv K) [] E0 (qab (qaf 1) qao)) (qaj 3))
    (qhw K))
noncomputable def qhy (K:W.Frag):TS:=
  (qaH (qaR (qar (qbv K) [] E0 (qab (qaf 0) qao)) (qaj 2))
    (qhx K))
noncomputable def qjo (K:W.Frag):TS:=
  (qaH (qaR (qar (qbA K) [] E0 (qab (tOp gT (qar (qbv K) [] E0 (qab (qaf 0) qao)) (tC (.int 0))) (qab (tOp gT (qar (qbv K) [] E0 (qab (qaf 1) qao)) (tC (.int 0))) qao))) (qaj 2))
    (qbw (tIf (qgC (qaf 2)) (qar (qbm K) [] E0 (qab (qaf 2) (qab (tOp gL (qaf 2) (tUn qgo (tC (.int 1)))) qao))) (qcW qao))))
noncomputable def qf7 (K:W.Frag):TS:=
  (qaH (qaR (qar (qc3 K) [] E0 (qab (qaf 0) (qab (qaf 1) qao))) (qaj 2))
    (qbw (qar (qc4 K) [] E0 (qab (qar (qbI K) [] E0 (qab (qaf 0) (qab (qaf 2) qao))) (qab (qar (qbI K) [] E0 (qab (qaf 1) (qab (qaf 2) qao))) qao)))))
noncomputable def qjp (K:W.Frag):TS:=
  (qaH (qaR (qar (qe7 K) [] E0 (qab (qcW (qab (tC (.int 1)) (qab (tC (.int 1)) qao))) (qab (tOp gT (qaf 1) (tUn qgo (tC (.int 1)))) qao))) (qaj 2))
    (qbw (qcW (qab (qar (qbH K) [] E0 (qab (qaf 0) (qab (qaf 2) qao))) (qab (qar (qbH K) [] E0 (qab (qaf 1) (qab (qaf 2) qao))) qao)))))
noncomputable def qf8 (K:W.Frag):TS:=
  (qbw (tOp gT (qar (qck K) [] E0 (qab (qaf 0) (qab (qaf 1) qao))) (tC (.int 0))))
noncomputable def qdW (K:W.Frag):TS:=
  (qaH (qaR (qar (qbn K) [] E0 (qab (tOp gT (qaf 0) (tC (.int 0))) qao)) (qaj 1))
    (qbw (tIf (qaS (tOp rEq (tOp gT (qaf 0) (tC (.int 1))) (tC (.int 1)))) (qaf 1) (tOp qbt (tOp qbt (qaf 1) (tC (.str "/"))) (qar (qbn K) [] E0 (qab (tOp gT (qaf 0) (tC (.int 1))) qao))))))
noncomputable def qev (K:W.Frag):TS:=
  (qaH (qaR (qar (qb8 K) [] E0 (qab (tC (.int 10)) (qab (tC (.int 600)) qao))) (qaj 1))
    (qaH (qaR (tCB qnt (qab (qaf 0) qao)) (qaj 2))
    (qaH (qaR (qh5 qao) (qaj 3))
    (qaH (qcV (qaS (tOp iGe (qaf 2) (qaf 1))) qqI)
    (qaH (qkW (tBM K "list" qgZ (qaf 3) (qab (tCB qkh (qab (qaf 2) qao)) qao)))
    (qbw (tOp qbt (tIf (qaS (tOp iLt (qaf 0) (tC (.int 0)))) (tC (.str "-")) (tC (.str ""))) (qki K (qab (qaf 3) qao)))))))))
noncomputable def qjq (K:W.Frag):TS:=
  (qbw (tIf (qaS (tOp rNe (qaf 1) (tC (.str "")))) (qaf 1) (tC (.str "0"))))
noncomputable def qjr (K:W.Frag):TS:=
  (qaH (qfQ (qm0 (qab (qar (qc5 K) [] E0 (qab (qaf 0) qao)) (qab (tUn qgo (tC (.int 1))) (qab (tUn qgo (tC (.int 1))) qao)))) (qaj 2) (qd0 (qaS (tOp rNe (tOp gT (tOp gT (qaf 0) (qaf 2)) (tC (.int 0))) (tC (.int 0)))) (qmJ 1 (tOp qbt (qar (qcS K) [] E0 (qab (tOp gT (qaf 0) (qaf 2)) (qab (tOp rEq (qaf 1) (tC (.str ""))) qao))) (qar (qct K) [] E0 (qab (qar (qbQ K) [] E0 (qab (tOp gT (qaf 0) (qaf 2)) qao)) (qab (qaf 2) qao)))) qbt) qbL))
    (qjq K))
noncomputable def qhz (K:W.Frag):TS:=
  (qaH (qaR (tC (.str "")) (qaj 1))
    (qjr K))
noncomputable def qlh (K:W.Frag):TS:=
  (qaH (qd0 (tB (qaf 1)) (qbw (tIf (qaS (tOp iLt (tOp gT (qaf 0) (tC (.int 0))) (tC (.int 0)))) (tC (.str "-")) (tC (.str "")))) qbL)
    (qbw (tIf (qaS (tOp iLt (tOp gT (qaf 0) (tC (.int 0))) (tC (.int 0)))) (tC (.str " - ")) (tC (.str " + ")))))
noncomputable def qhA (K:W.Frag):TS:=
  (qaH (qd0 (qaS (tOp rEq (qaf 1) (tC (.int 0)))) (qbw (qar (qaM K) [] E0 (qab (qaf 0) qao))) qbL)
    (qaH (qaR (tIf (qaS (tOp rEq (qaf 1) (tC (.int 1)))) (tC (.str "x")) (qum "x^" (qaf 1))) (qaj 2))
    (qbw (tIf (qaS (tOp eqT (qaf 0) (qcW (qab (tC (.int 1)) (qab (tC (.int 1)) qao))))) (qaf 2) (tOp qbt (tOp qbt (qar (qaM K) [] E0 (qab (qaf 0) qao)) (tC (.str "*"))) (qaf 2))))))
noncomputable def qq4 (K:W.Frag):TS:=
  (qaH (qaR (qar (qbo K) [] E0 (qab (tOp gT (qaf 0) (tC (.int 0))) qao)) (qaj 1))
    (qbw (tIf (qaS (tOp eqD (tOp gT (qaf 0) (tC (.int 1))) (qcW (qab (qcW (qab (tC (.int 1)) (qab (tC (.int 1)) qao))) qao)))) (qaf 1) (tOp qbt (tOp qbt (tOp qbt (tOp qbt (tC (.str "(")) (qaf 1)) (tC (.str ")/("))) (qar (qbo K) [] E0 (qab (tOp gT (qaf 0) (tC (.int 1))) qao))) (tC (.str ")"))))))
noncomputable def qhB (K:W.Frag):TS:=
  (qbw (qar (qbK K) [] E0 (qab (qar (qf3 K) [] E0 (qab (tOp gT (qaf 0) (tC (.int 0))) qao)) (qab (qco (qnD K (tOp gT (qaf 0) (tC (.int 1)))) [none,none] (qfj 2 (qcB (qaj 0) (qcB (qaj 1) qlU))) (qcW (qab (qaf 0) (qab (qar (qbo K) [] E0 (qab (qaf 1) qao)) qao)))) qao))))
noncomputable def qjs (K:W.Frag):TS:=
  (qbw (qaf 2))
noncomputable def qdX (K:W.Frag):TS:=
  (qaH (qfQ (qdB K (qaf 1)) (qfj 2 (qcB (qaj 3) (qcB (qaj 4) qlU))) (qmJ 2 (tOp qbt (tOp qbt (tOp qbt (tOp qbt (qar (qcS K) [] E0 (qab (qaf 3) (qab (tOp rEq (qaf 2) (tC (.str ""))) qao))) (qar (qaM K) [] E0 (qab (qar (qbQ K) [] E0 (qab (qaf 3) qao)) qao))) (tC (.str "*log("))) (qaf 4)) (tC (.str ")"))) qbt))
    (qjs K))
noncomputable def qe9 (K:W.Frag):TS:=
  (qaH (qaR (tIf (qnz (qaS (tOp rEq (qaf 0) (tC (.str "0")))) (qgC (qaf 1))) (tC (.str "")) (qaf 0)) (qaj 2))
    (qdX K))
noncomputable def qli (K:W.Frag):TS:=
  (qaH (qaR (tC (.int 0)) (qaj 2))
    (qaH (qd0 (qaS (tOp iLt (qaf 1) (tCB (qmS K) (qab (qaf 0) qao)))) (qaR (tOp (gS K) (qaf 0) (qaf 1)) (qaj 2)) qbL)
    (qaH (qaR (qpL (tOp iGt (tCB (qmS K) (qab (qaf 0) qao)) (tC (.int 0))) (tOp rEq (tOp qjQ (tOp (gS K) (qaf 0) (tC (.int 0))) (tC (.int 2))) (tC (.int 0)))) (qaj 3))
    (qbw (qh5 (qab (tOp qdM (tCB qnt (qab (qaf 2) qao)) (tCB qj8 (qab (qaf 3) qao))) (qab (tCB qnt (qab (qaf 2) qao)) (qab (tOp qdM (tC (.int 7)) (qaf 1)) qao))))))))
noncomputable def qjt (K:W.Frag):TS:=
  (qaH (qd0 (qaS (tOp iGt (tOp gL (qaf 0) (tC (.int 0))) (tC (.int 0)))) (qaH (qaR (tOp qjQ (tOp gL (qaf 0) (tC (.int 0))) (qaf 1)) (qaj 2))
    (qaH (qaR (tOp qj7 (tOp gL (qaf 0) (tC (.int 0))) (qaf 1)) (qpM (qaf 0) (tC (.int 0)) qgB))
    (qbw (qaf 2)))) qbL)
    (qaH (qaR (tOp qg6 (tOp gL (qaf 0) (tC (.int 2))) (tC (.int 1))) (qpM (qaf 0) (tC (.int 2)) qgB))
    (qaH (qaR (tOp qg6 (tOp qjQ (tOp gL (qaf 0) (tC (.int 1))) (tC (.int 2305843009213693951))) (tC (.int 3))) (qaj 3))
    (qaH (qaR (tOp qjQ (tOp qdM (qaf 3) (tOp qg6 (tC (.int 48271)) (tOp qdM (tOp gL (qaf 0) (tC (.int 2))) (tOp gL (qaf 0) (tC (.int 2)))))) (tC (.int 2305843009213693921))) (qaj 3))
    (qaH (qaR (tOp qjQ (tOp qdM (qaf 3) (tOp qg6 (tOp qg6 (tOp qjQ (qaf 3) (tC (.int 1000003))) (tOp qdM (tOp gL (qaf 0) (tC (.int 2))) (tC (.int 69621)))) (tC (.int 11)))) (tC (.int 2305843009213693907))) (qaj 3))
    (qbw (tOp qjQ (tOp qg6 (tOp qj7 (tOp qdM (qaf 3) (qaf 3)) (tC (.int 97))) (tOp qj7 (qaf 3) (tC (.int 31)))) (qaf 1))))))))
noncomputable def qf9 (K:W.Frag):TS:=
  (qaH (qsJ 2 3 (qab (tCB qnt (qab (qaf 0) qao)) (qab (qaf 1) qao)))
    (qaH (qcV (qaS (tOp iGt (qaf 3) (tC (.int 0)))) (qsJ 2 3 (qab (qaf 3) (qab (tOp qjQ (qaf 2) (qaf 3)) qao))))
    (qbw (qcW (qab (tOp qhd (qaf 0) (qaf 2)) (qab (tOp qhd (qaf 1) (qaf 2)) qao))))))
noncomputable def qga (K:W.Frag):TS:=
  (qaH (qaR (qar (qaO K) [] E0 (qab (qaf 0) (qab (tC (.int 5)) qao))) (qaj 1))
    (qaH (qd0 (qaS (tOp rEq (qaf 1) (tC (.int 0)))) (qbw (qcW (qab (tOp qeK (qar (qaO K) [] E0 (qab (qaf 0) (qab (tC (.int 19)) qao))) (tC (.int 9))) (qab (tC (.int 1)) qao)))) qbL)
    (qaH (qd0 (qaS (tOp rEq (qaf 1) (tC (.int 1)))) (qbw (qar (qa1 K) [] E0 (qab (tOp qeK (qar (qaO K) [] E0 (qab (qaf 0) (qab (tC (.int 19)) qao))) (tC (.int 9))) (qab (tOp qg6 (tC (.int 1)) (qar (qaO K) [] E0 (qab (qaf 0) (qab (tC (.int 6)) qao)))) qao)))) qbL)
    (qaH (qd0 (qaS (tOp rEq (qaf 1) (tC (.int 2)))) (qbw (qar (qa1 K) [] E0 (qab (tOp qeK (qar (qaO K) [] E0 (qab (qaf 0) (qab (tC (.int 1999999999999)) qao))) (tC (.int 999999999999))) (qab (tOp qg6 (tC (.int 1)) (qar (qaO K) [] E0 (qab (qaf 0) (qab (tC (.int 999999999999)) qao)))) qao)))) qbL)
    (qbw (qcW (qab (tOp qeK (qar (qaO K) [] E0 (qab (qaf 0) (qab (tC (.int 3)) qao))) (tC (.int 1))) (qab (tC (.int 1)) qao))))))))
noncomputable def qlj (K:W.Frag):TS:=
  (qbw (qar (qa1 K) [] E0 (qab (tOp qg6 (tOp qdM (tOp gT (qaf 0) (tC (.int 0))) (tOp gT (qaf 1) (tC (.int 1)))) (tOp qdM (tOp gT (qaf 1) (tC (.int 0))) (tOp gT (qaf 0) (tC (.int 1))))) (qab (tOp qdM (tOp gT (qaf 0) (tC (.int 1))) (tOp gT (qaf 1) (tC (.int 1)))) qao))))
noncomputable def qfa (K:W.Frag):TS:=
  (qbw (qar (qa1 K) [] E0 (qab (tOp qdM (tOp gT (qaf 0) (tC (.int 0))) (tOp gT (qaf 1) (tC (.int 0)))) (qab (tOp qdM (tOp gT (qaf 0) (tC (.int 1))) (tOp gT (qaf 1) (tC (.int 1)))) qao))))
noncomputable def qfb (K:W.Frag):TS:=
  (qaH (qaR (tCB qb5 (qab (qaf 0) qao)) (qaj 1))
    (qaH (qcV (qnz (qaS (tOp iGt (qaf 1) (tC (.int 0)))) (qaS (tOp rEq (tOp gT (tOp gL (qaf 0) (tOp qeK (qaf 1) (tC (.int 1)))) (tC (.int 0))) (tC (.int 0))))) (qaR (tOp qeK (qaf 1) (tC (.int 1))) (qaj 1)))
    (qbw (tCB qmZ (qab (tSl sL (qaf 0) qea (qjZ (qaf 1))) qao)))))
noncomputable def qju (K:W.Frag):TS:=
  (qbw (qar (qbJ K) [] E0 (qab (qco (qjT (qab (qar (qaO K) [] E0 (qab (qaf 0) (qab (tOp qg6 (qaf 1) (tC (.int 2))) qao))) qao)) [none,some 0] (qaj 0) (qar (qbB K) [] E0 (qab (qaf 1) qao))) qao)))
noncomputable def qdA (K:W.Frag):TS:=
  (qaH (qaR (tOp qqN (qh5 (qab (qcW (qab (tC (.int 0)) (qab (tC (.int 1)) qao))) qao)) (tOp qg6 (tCB qg7 (qab (qaf 0) qao)) (tCB qg7 (qab (qaf 1) qao)))) (qaj 2))
    (qaH (qfQ (ql6 K (qab (qaf 0) qao)) (qfj 2 (qcB (qaj 3) (qcB (qaj 4) qlU))) (qfQ (ql6 K (qab (qaf 1) qao)) (qfj 2 (qcB (qaj 5) (qcB (qaj 6) qlU))) (qaR (qar (qfo K) [] E0 (qab (tOp gL (qaf 2) (tOp qg6 (qaf 3) (qaf 5))) (qab (qar (qcr K) [] E0 (qab (qaf 4) (qab (qaf 6) qao))) qao))) (qpM (qaf 2) (tOp qg6 (qaf 3) (qaf 5)) qgB))))
    (qbw (qar (qbJ K) [] E0 (qab (qaf 2) qao)))))
noncomputable def qdd (K:W.Frag):TS:=
  (qaH (qd0 (qaS (tOp rEq (tOp gT (qaf 0) (tC (.int 1))) (tC (.int 1)))) (qbw (tCB qkh (qab (tOp gT (qaf 0) (tC (.int 0))) qao))) qbL)
    (qbw (tOp qbt (tOp qbt (tCB qkh (qab (tOp gT (qaf 0) (tC (.int 0))) qao)) (tC (.str "/"))) (tCB qkh (qab (tOp gT (qaf 0) (tC (.int 1))) qao)))))
noncomputable def qdo (K:W.Frag):TS:=
  (qd0 (qaS (tOp rEq (qaf 1) (tC (.str "")))) (qaR (tOp qbt (tOp qop (tC (.str "-")) (tCB qj8 (qab (tOp iLt (qaf 3) (tC (.int 0))) qao))) (qaf 5)) (qaj 1)) (qaR (tOp qbt (tOp qbt (qaf 1) (tOp gL (qh5 (qab (tC (.str " + ")) (qab (tC (.str " - ")) qao))) (tCB qj8 (qab (tOp iLt (qaf 3) (tC (.int 0))) qao)))) (qaf 5)) (qaj 1)))
noncomputable def qfw (K:W.Frag):TS:=
  (qaH (qd0 (qnz (qaS (tOp iGt (qaf 2) (tC (.int 0)))) (qaS (tOp rEq (qaf 5) (tC (.str "1"))))) (qaR (qaf 6) (qaj 5)) (qd0 (qaS (tOp iGt (qaf 2) (tC (.int 0)))) (qaR (tOp qbt (tOp qbt (qaf 5) (tC (.str "*"))) (qaf 6)) (qaj 5)) qbL))
    (qdo K))
noncomputable def qfx (K:W.Frag):TS:=
  (qaH (qaR (tOp gL (qh5 (qab (tC (.str "")) (qab (tC (.str "x")) (qab (tOp qbt (tC (.str "x^")) (tCB qkh (qab (qaf 2) qao))) qao)))) (tCB qsT (qab (qaf 2) (qab (tC (.int 2)) qao)))) (qaj 6))
    (qfw K))
noncomputable def qfy (K:W.Frag):TS:=
  (qaH (qaR (qar (qbb K) [] E0 (qab (qcW (qab (tCB qnt (qab (qaf 3) qao)) (qab (qaf 4) qao))) qao)) (qaj 5))
    (qfx K))
noncomputable def qfz (K:W.Frag):TS:=
  (qd0 (qaS (tOp rNe (qaf 3) (tC (.int 0)))) (qfy K) qbL)
noncomputable def qfA (K:W.Frag):TS:=
  (qaH (qaR (tOp gT (qaf 0) (qaf 2)) (qfj 2 (qcB (qaj 3) (qcB (qaj 4) qlU))))
    (qfz K))
noncomputable def qhC (K:W.Frag):TS:=
  (qbw (qaf 1))
noncomputable def qhD (K:W.Frag):TS:=
  (qaH (qd0 (qaS (tOp rEq (qaf 1) (tC (.str "")))) (qbw (tC (.str "0"))) qbL)
    (qhC K))
noncomputable def qhE (K:W.Frag):TS:=
  (qaH (qfQ (qm0 (qab (tOp qeK (tCB qg7 (qab (qaf 0) qao)) (tC (.int 1))) (qab (tUn qgo (tC (.int 1))) (qab (tUn qgo (tC (.int 1))) qao)))) (qaj 2) (qfA K))
    (qhD K))
noncomputable def qfB (K:W.Frag):TS:=
  (qaH (qaR (tC (.str "")) (qaj 1))
    (qhE K))
noncomputable def qdE (K:W.Frag):TS:=
  (qaH (qd0 (qaS (tOp eqD (tOp gT (qaf 0) (tC (.int 1))) (qcW (qab (qcW (qab (tC (.int 1)) (qab (tC (.int 1)) qao))) qao)))) (qbw (qar (qa8 K) [] E0 (qab (tOp gT (qaf 0) (tC (.int 0))) qao))) qbL)
    (qbw (tOp qbt (tOp qbt (tOp qbt (tOp qbt (tC (.str "(")) (qar (qa8 K) [] E0 (qab (tOp gT (qaf 0) (tC (.int 0))) qao))) (tC (.str ")/("))) (qar (qa8 K) [] E0 (qab (tOp gT (qaf 0) (tC (.int 1))) qao))) (tC (.str ")")))))
noncomputable def qfC (K:W.Frag):TS:=
  (qd0 (qaS (tOp rEq (qaf 3) (tC (.str "")))) (qaR (tOp qbt (tOp qop (tC (.str "-")) (tCB qj8 (qab (tOp iLt (tOp gT (qaf 4) (tC (.int 0))) (tC (.int 0))) qao))) (qaf 6)) (qaj 3)) (qaR (tOp qbt (tOp qbt (qaf 3) (tOp gL (qh5 (qab (tC (.str " + ")) (qab (tC (.str " - ")) qao))) (tCB qj8 (qab (tOp iLt (tOp gT (qaf 4) (tC (.int 0))) (tC (.int 0))) qao)))) (qaf 6)) (qaj 3)))
noncomputable def qfD (K:W.Frag):TS:=
  (qaH (qaR (tOp qbt (tOp qbt (tOp qbt (qar (qbb K) [] E0 (qab (qcW (qab (tCB qnt (qab (tOp gT (qaf 4) (tC (.int 0))) qao)) (qab (tOp gT (qaf 4) (tC (.int 1))) qao))) qao)) (tC (.str "*log("))) (qaf 5)) (tC (.str ")"))) (qaj 6))
    (qfC K))
noncomputable def qhF (K:W.Frag):TS:=
  (qbw (qaf 3))
noncomputable def qew (K:W.Frag):TS:=
  (qaH (qfQ (qdB K (qaf 2)) (qfj 2 (qcB (qaj 4) (qcB (qaj 5) qlU))) (qfD K))
    (qhF K))
noncomputable def qhG (K:W.Frag):TS:=
  (qaH (qd0 (qnz (tB (qaf 1)) (qaS (tOp iGt (tCB qb5 (qab (qaf 2) qao)) (tC (.int 0))))) (qaR (tC (.str "")) (qaj 3)) qbL)
    (qew K))
noncomputable def qfE (K:W.Frag):TS:=
  (qaH (qaR (qaf 0) (qaj 3))
    (qhG K))
noncomputable def qhH (K:W.Frag):TS:=
  (qkW (tBM K "list" qou (qaf 2) (qab (qaf 5) (qab (qaf 4) qao))))
noncomputable def qhI (K:W.Frag):TS:=
  (qaH (qaR (tCB qb5 (qab (qiy (qdB K (qaf 2)) [none,some 4] (qaj 0) (qaS (tOp iLt (tOp qdM (tOp gT (qaf 0) (tC (.int 0))) (tOp gT (qaf 1) (tC (.int 1)))) (tOp qdM (tOp gT (qaf 1) (tC (.int 0))) (tOp gT (qaf 0) (tC (.int 1)))))) (qaf 0)) qao)) (qaj 5))
    (qhH K))
noncomputable def qhJ (K:W.Frag):TS:=
  (qd0 (qnz (qaS (tOp rNe (tOp gT (qaf 4) (tC (.int 0))) (tC (.int 0)))) (qaS (tOp (inD true) (qaf 4) (qaf 2)))) (qhI K) qbL)
noncomputable def qhK (K:W.Frag):TS:=
  (qaH (qaR (qar (qbB K) [] E0 (qab (qaf 0) qao)) (qaj 4))
    (qhJ K))
noncomputable def qkp (K:W.Frag):TS:=
  (qbw (qaf 2))
noncomputable def qkq (K:W.Frag):TS:=
  (qaH (qfQ (qjT (qab (qaf 1) qao)) (qaj 3) (qhK K))
    (qkp K))
noncomputable def qiE (K:W.Frag):TS:=
  (qaH (qaR (qh5 qao) (qaj 2))
    (qkq K))
noncomputable def qfF (K:W.Frag):TS:=
  (qkW (tBM K "list" qgZ (qaf 4) (qab (qcW (qab (qaf 5) (qab (qaf 6) qao))) qao)))
noncomputable def qjv (K:W.Frag):TS:=
  (qaH (qd0 (qaS (tOp rEq (qar (qaO K) [] E0 (qab (qaf 0) (qab (tC (.int 2)) qao))) (tC (.int 0)))) (qaR (qar (qbj K) [] E0 (qab (qaf 6) (qab (tBM K "list" qpZ (qaf 3) (qab (qar (qaO K) [] E0 (qab (qaf 0) (qab (tCB qb5 (qab (qaf 3) qao)) qao))) qao)) qao))) (qaj 6)) qbL)
    (qfF K))
noncomputable def qfG (K:W.Frag):TS:=
  (qaH (qaR (tBM K "list" qpZ (qaf 3) (qab (qar (qaO K) [] E0 (qab (qaf 0) (qab (tCB qb5 (qab (qaf 3) qao)) qao))) qao)) (qaj 6))
    (qjv K))
noncomputable def qiF (K:W.Frag):TS:=
  (qbw (qcW (qab (qaf 2) (qab (tCB qmZ (qab (qaf 4) qao)) qao))))
noncomputable def qiG (K:W.Frag):TS:=
  (qaH (qfQ (qdB K (qar (qc6 K) [] E0 (qab (qaf 0) (qab (qar (qaO K) [] E0 (qab (qaf 0) (qab (tC (.int 5)) qao))) qao)))) (qaj 5) (qfG K))
    (qiF K))
noncomputable def qm6 (K:W.Frag):TS:=
  (qaH (qaR (qh5 qao) (qaj 4))
    (qiG K))
noncomputable def qiH (K:W.Frag):TS:=
  (qaH (qaR (tOp qtF (qco (qnE (qab (tUn qgo (tC (.int 4))) (qab (tC (.int 5)) qao))) [none] (qaj 0) (qcW (qab (qar (qa1 K) [] E0 (qab (tUn qgo (qaf 0)) (qab (tC (.int 2)) qao))) (qab (qcW (qab (tC (.int 1)) (qab (tC (.int 1)) qao))) qao)))) (qco (qnD K (qcW (qab (tC (.int 1)) (qab (tC (.int 2)) (qab (tC (.int 3)) qao))))) [none] (qaj 0) (qcW (qab (qcW (qab (qaf 0) (qab (tC (.int 1)) qao))) (qab (qcW (qab (tC (.int 0)) (qab (tC (.int 1)) qao))) (qab (qcW (qab (tC (.int 1)) (qab (tC (.int 1)) qao))) qao)))))) (qaj 3))
    (qm6 K))
noncomputable def qgb (K:W.Frag):TS:=
  (qaH (qaR (qar (qbZ K) [] E0 (qab (qar (qcs K) [] E0 (qab (qaf 0) (qab (tC (.int 4)) qao))) (qab (qaf 1) qao))) (qaj 2))
    (qiH K))
noncomputable def qm7 (K:W.Frag):TS:=
  (qaH (qd0 (tOr (qaS (tOp eqD (qaf 1) (qcW qao))) (qaS (tOp rEq (qar (qaO K) [] E0 (qab (qaf 0) (qab (tC (.int 3)) qao))) (tC (.int 0))))) (qaR (qcW (qab (qcW (qab (tC (.int 1)) (qab (tC (.int 1)) qao))) qao)) (qaj 1)) qbL)
    (qgb K))
noncomputable def qmo (K:W.Frag):TS:=
  (qaH (qaR (qar (qcs K) [] E0 (qab (qaf 0) (qab (tC (.int 4)) qao))) (qaj 1))
    (qm7 K))
noncomputable def qm8 (K:W.Frag):TS:=
  (qd0 (tOr (qsE (tB (tCB qpX (qab (qaf 5) (qab (tC (.ty "str")) qao))))) (tOr (qaS (tOp rNe (qaf 5) (qaf 4))) (qaS (tOp rNe (qar (qb1 K) [] E0 (qab (qcW (qab (qaf 2) (qab (qaf 3) qao))) qao)) (qaf 4))))) (qbw (tC (.bl false))) qbL)
noncomputable def qm9 (K:W.Frag):TS:=
  (qaH (qaR (qar (qb1 K) [] E0 (qab (qcW (qab (qaf 2) (qab (qaf 3) qao))) qao)) (qaj 5))
    (qm8 K))
noncomputable def qna (K:W.Frag):TS:=
  (qaH (qaR (qar (qbs K) [] E0 (qab (qar (qbp K) [] E0 (qab (qaf 2) qao)) (qab (tOp eqD (tOp gT (qaf 2) (tC (.int 0))) (qcW qao)) (qab (qco (qnD K (qaf 3)) [none,none] (qfj 2 (qcB (qaj 0) (qcB (qaj 1) qlU))) (qcW (qab (qaf 0) (qab (qar (qa8 K) [] E0 (qab (qaf 1) qao)) qao)))) qao)))) (qaj 4))
    (qm9 K))
noncomputable def qnb (K:W.Frag):TS:=
  (qaH (qaR (qar (qem K) [] E0 (qab (qar (qdS K) [] E0 (qab (qaf 0) (qab (qaf 1) qao))) qao)) (qfj 2 (qcB (qaj 2) (qcB (qaj 3) qlU))))
    (qna K))
noncomputable def qrP (K:W.Frag):TS:=
  (qbw (tC (.bl true)))
noncomputable def qrQ (K:W.Frag):TS:=
  (qaH (qfQ (qjT (qab (tCB qrt (qab (tC (.int 1)) (qab (tCB qsT (qab (tCB (qmS K) (qab (qaf 0) qao)) (qab (tC (.int 20)) qao))) qao))) qao)) (qaj 1) (qnb K))
    (qrP K))
end Bs
namespace Bs
open PySem L2
variable {K:W.Frag} {vs:List V} {H:Hp} {Q:VK} {E:XK}
local macro_rules | `(tactic| rwa [$[$t:term],*]) => do
  let l : Array Lean.Term := (("qaH qaR qar qab qaf qao qaj qpM L2.start qd0 tIf qaS L2.tB tOp rI0 rI L2.tC tUn rU qbL qbw qcW qh5 qsJ qmJ qkW tCB qqM qnz tOr qsE qpL qug qsF rEq rNe qgB qg6 qeK qdM qj7 qsS qjQ qrs quk iLt iLe iGt iGe qgo gT gL gS qnt qrt qsT qj8 qg7 qb5 qmS qul qn0 qgp qqO eqT qn1 qn2 qqP qqQ List.map_cons List.map_nil List.length_cons List.length_nil List.replicate List.cons_append List.nil_append List.append_nil List.getElem?_cons_zero List.getElem?_cons_succ Option.some.injEq exists_eq_left' exists_eq_left V.int.injEq V.bl.injEq V.ref.injEq V.ty.injEq HO.tup.injEq HO.lst.injEq List.cons.injEq and_true true_and and_assoc exists_and_left List.set_cons_zero List.set_cons_succ decide_eq_true_eq decide_eq_false_iff_not Bool.not_eq_true' Bool.true_eq_false Bool.false_eq_true Bool.not_true Bool.not_false if_true if_false ite_true ite_false qn3 qn4 ql0 ql1 qis qit qiu qiv qiw Nat.zero_add Nat.reduceAdd Nat.reduceSub qai Int.cast_ofNat_Int decide_true decide_false eq_self not_true_eq_false not_false_eq_true Int.natCast_add Int.natCast_zero reduceCtorEq Nm qfj qcB qlU qmK tSl qea qjZ sL sT qmZ qqR qkd qgC qsY qqN qtF qgZ qiT qui tBM quh ql3 ql4 qn8 qi5 ql7 qoi qmb qn9 qi6 qi9 qog qpU qrx qpV qtJ qrw qhd qgD qtT qs0 qdv Option.bind_some Option.bind_none Option.bind Option.join id_eq sS qs4 qas qb8 qbO qaU qbe qbG qbz qbq qaJ qaL qa4 qa6 qbh qa7 qaZ qbi qbr qba qcj qa0 qbA qbP qcG qbv qbm qck qc3 qkn qgr qe7 qiD qbH qbZ qbI qc4 qc5 qi9 qi6 qi5 qbt qkh qop qpX qki qgC V.str.injEq qbQ qbn qaM qcS qbK qbs qdS qaO qa1 qbB qbj qcs".splitOn " ").map fun s => (⟨(Lean.mkIdent s.toName).raw⟩ : Lean.Term)).toArray
  `(tactic| simp only [$[$(l ++ t):term],*])
theorem qrR {x:Int} (h1:-1099511627776<x) (h2:x<1099511627776):Bd 40 x:=by
  show x.natAbs<1099511627776
  omega
theorem qh8 {a b:Int} (ha:Bd 60000000 a) (hb:Bd 60000000 b):IntMulOk a b:=qs5 ha hb (by decide)
theorem qgc (h:qas K vs H Q E):qcH K { nx:=fun _ H'=>Q .non H',rt:=Q } (L2.start ["one", "other", "rest"] vs) H:=by
  obtain ⟨a,b,rfl,q⟩:=h
  unfold qcH
  rwa []
  refine while_by (fun m σ H'=>∃ (x y:Int) (r:Option V),σ=[some (.int x),some (.int y),r]∧H'=H∧Int.gcd x y=Int.gcd a b∧m=y.natAbs) b.natAbs ⟨a,b,none,rfl,rfl,rfl,rfl⟩ ?_
  rintro m σ H' ⟨x,y,r,rfl,rfl,hg,rfl⟩
  rwa []
  refine qbU (fun c=>?_) (fun c=>?_)
  · refine ⟨fun σ' H''=>∃ m',m'<y.natAbs∧_,fun _ _ h=>h,?_⟩
    refine ⟨c,_,qnZ x c,y,x.fmod y,_,rfl,rfl,?_,rfl⟩
    rw [qlZ];exact hg
  · have y0:y=0:=Decidable.not_not.mp c
    subst y0
    have e:(if x<0 then -x else x)=((Int.gcd a b:Nat):Int):=by
      rw [← hg,Int.gcd_zero_right];split <;> omega
    rw [e];exact q
theorem qoT (h:qb8 K vs H Q E):qjm K { nx:=fun _ H'=>Q .non H',rt:=Q } (L2.start ["whole", "n", "result", "square"] vs) H:=by
  obtain ⟨x,n,b,rfl,n0,bx,hb,q⟩:=h
  unfold qjm
  rwa []
  have BP:∀ k:Nat,k≤n.toNat→Bd 60000000 (x ^ k):=fun k hk=>(bx.pow k).mono (by
    have:=Nat.mul_le_mul_left b hk
    omega)
  refine while_by (fun m σ H'=>∃ r s:Nat,σ=[some (.int x),some (.int (m:Int)),some (.int (x ^ r)),some (.int (x ^ s))]∧H'=H∧r+s*m=n.toNat) n.toNat ⟨0,1,?_,rfl,by omega⟩ ?_
  · have e:((n.toNat:Nat):Int)=n:=by omega
    rw [e,Int.pow_zero,show x ^ 1=x by rw [Int.pow_succ,Int.pow_zero,Int.one_mul]]
  rintro m σ H' ⟨r,s,rfl,rfl,hm⟩
  rwa []
  refine qbU (fun c=>?_) (fun c=>?_)
  · have m1:1≤m:=by omega
    have sl:s≤s*m:=Nat.le_mul_of_pos_right s m1
    have d2:qtG (m:Int) 2:=⟨by decide,(quj (by decide) (by decide)).mono (by decide)⟩
    have hm2:s*m=(s+s)*(m / 2)+s*(m % 2):=by
      have e:m=2*(m / 2)+m % 2:=(Nat.div_add_mod m 2).symm
      generalize m / 2=u at e ⊢
      generalize m % 2=v at e ⊢
      subst e
      rw [Nat.mul_add]
      congr 1
      rw [← Nat.mul_assoc,Nat.mul_comm s 2]
      congr 1
      omega
    have ed:((m:Int) / 2)=((m / 2:Nat):Int):=by omega
    rw [ed]
    refine ⟨fun σ' H''=>∃ m',m'<m∧_,fun _ _ h=>h,?_⟩
    have fin:∀ r':Nat,r'+(s+s)*(m / 2)=n.toNat→qtG (m:Int) 2∧if 0<((m / 2:Nat):Int) then IntMulOk (x ^ s) (x ^ s)∧∃ m',m'<m∧∃ r s_1,[some (V.int x),some (V.int ((m / 2:Nat):Int)),some (V.int (x ^ r')),some (V.int (x ^ s*x ^ s))]=[some (V.int x),some (V.int (m':Int)),some (V.int (x ^ r)),some (V.int (x ^ s_1))]∧H'=H'∧r+s_1*m'=n.toNat
        else ∃ m',m'<m∧∃ r s_1,[some (V.int x),some (V.int ((m / 2:Nat):Int)),some (V.int (x ^ r')),some (V.int (x ^ s))]=[some (V.int x),some (V.int (m':Int)),some (V.int (x ^ r)),some (V.int (x ^ s_1))]∧H'=H'∧r+s_1*m'=n.toNat:=fun r' hr'=>by
      refine ⟨d2,qbU (fun c2=>?_) (fun c2=>?_)⟩
      · exact ⟨qh8 (BP s (by omega)) (BP s (by omega)),m / 2,by omega,r',s+s,by rw [Int.pow_add],rfl,hr'⟩
      · have z:m / 2=0:=by omega
        rw [z] at hr' ⊢
        exact ⟨0,by omega,r',s,rfl,rfl,by omega⟩
    refine ⟨by decide,qbU (fun c2=>⟨qh8 (BP r (by omega)) (BP s (by omega)),?_⟩) (fun c2=>?_)⟩
    · rw [← Int.pow_add]
      have e1:m % 2=1:=by omega
      rw [e1] at hm2
      exact fin (r+s) (by omega)
    · have e1:m % 2=0:=by omega
      rw [e1] at hm2
      exact fin r (by omega)
  · have z:m=0:=by omega
    subst z
    have e:r=n.toNat:=by omega
    subst e
    exact q
theorem qgS {H:Hp} {Q:VK} {xs:List V} {l:List Nu} {m:Nat} (hN:Nums H xs l) (hm:m≤l.length) (e:qdh l l.length=m) (q:qrL H Q (trim l)) :
    ∀ (p:Addr),H p=none→∀ (r:Addr),upd H p (HO.lst (qjP xs none (some (m:Int)))) r=none→Q (V.ref r) (upd (upd H p (HO.lst (qjP xs none (some (m:Int))))) r (HO.tup (qjP xs none (some (m:Int))))):=fun p hp r hr=>by
  have s:=(qag hp (HO.lst (qjP xs none (some (m:Int))))).trans (qag hr (HO.tup (qjP xs none (some (m:Int)))))
  refine q r _ _ s qai ?_
  rw [qhm (by rw [hN.length];exact hm)]
  rw [qhm (by rw [hN.length];exact hm)] at s
  unfold trim
  rw [e]
  exact (hN.take m).tp (tpS s)
theorem qiI (l:List Nu) (m:Nat):qdh l (m+1)=if (l.getD m (1,1)).1=0 then qdh l m else m+1:=rfl
theorem qrS (h:qcG K vs H Q E):qoS K { nx:=fun _ H'=>Q .non H',rt:=Q } (L2.start ["row", "many"] vs) H:=by
  obtain ⟨p,xs,l,rfl,hp,hN,hl,q⟩:=h
  unfold qoS
  rwa [hp]
  have lx:=hN.length
  refine while_by (fun m σ H'=>σ=[some (.ref p),some (.int (m:Int))]∧H'=H∧qdh l m=qdh l l.length∧m≤l.length) xs.length ⟨rfl,rfl,by rw [lx],by omega⟩ ?_
  rintro m σ H' ⟨rfl,rfl,ht,hm⟩
  rwa [hp]
  refine qbU (fun c=>?_) (fun c=>?_)
  · obtain ⟨k,rfl⟩:∃ k,m=k+1:=⟨m - 1,by omega⟩
    obtain ⟨v,hv,p1,rfl,hp1⟩:=hN.at (i:=k) (by omega) (1,1)
    rw [qiI] at ht
    refine ⟨_,qek (by omega) hv,p1,rfl,_,hp1,_,rfl,rfl,qbU (fun c2=>?_) (fun c2=>?_)⟩
    · have z:(l.getD k (1,1)).1=0:=by injection c2
      rw [if_pos z] at ht
      exact ⟨fun σ' H''=>∃ m',m'<k+1∧_,fun _ _ h=>h,k,by omega,by rw [show ((k+1:Nat):Int) - 1=(k:Int) by omega],rfl,ht,by omega⟩
    · have z:(l.getD k (1,1)).1≠0:=fun z=>c2 (by rw [z])
      rw [if_neg z] at ht
      exact qgS hN hm ht.symm q
  · have z:m=0:=by omega
    subst z
    exact qgS hN hm ht.symm q
theorem qp9 {l:List Nu} {i:Nat} {q:Nu} (h:l[i]?=some q):(l.take (i+1)).foldl (fun B q=>B*(q.2 / ((Int.gcd B q.2:Nat):Int))) 1=(l.take i).foldl (fun B q=>B*(q.2 / ((Int.gcd B q.2:Nat):Int))) 1*(q.2 / ((Int.gcd ((l.take i).foldl (fun B q=>B*(q.2 / ((Int.gcd B q.2:Nat):Int))) 1) q.2:Nat):Int)):=by
  rw [List.take_add_one,h,List.foldl_append]
  rfl
theorem qbR {α β:Type} {l:List α} {i:Nat} {q:α} (f:α→β) (h:l[i]?=some q):(l.take (i+1)).map f=(l.take i).map f++[f q]:=by
  rw [List.take_add_one,h,List.map_append]
  rfl
theorem qbY (n:Nat) (f:Nat→Int):(qdf n f).length=n:=by unfold qdf;rw [List.length_map,List.length_map,List.length_range]
theorem qbS {n k:Nat} (f:Nat→Int) (h:k<n):(qdf n f)[k]?=some (.int (f k)):=by
  unfold qdf
  rw [List.getElem?_map,List.getElem?_map,List.getElem?_range h]
  rfl
theorem qfH {n k:Nat} {f g:Nat→Int} {z:Int} (h:k<n) (h1:g k=z) (h2:∀ i,i<n→i≠k→g i=f i):(qdf n f).set k (.int z)=qdf n g:=by
  apply List.ext_getElem?
  intro i
  by_cases hi:i<n
  · by_cases e:i=k
    · subst e
      rw [List.getElem?_set_self (by rw [qbY];exact hi),qbS g hi,h1]
    · rw [List.getElem?_set_ne (fun z=>e z.symm),qbS f hi,qbS g hi,h2 i hi e]
  · rw [List.getElem?_eq_none (by rw [List.length_set,qbY];omega),List.getElem?_eq_none (by rw [qbY];omega)]
theorem qgd {n:Nat} {f g:Nat→Int} (h:∀ i,i<n→g i=f i):qdf n f=qdf n g:=by
  apply List.ext_getElem?
  intro i
  by_cases hi:i<n
  · rw [qbS f hi,qbS g hi,h i hi]
  · rw [List.getElem?_eq_none (by rw [qbY];omega),List.getElem?_eq_none (by rw [qbY];omega)]
theorem qmp (n:Nat):(List.replicate n [V.int 0]).flatten=qdf n fun _=>0:=by
  rw [qcR]
  apply List.ext_getElem?
  intro i
  by_cases hi:i<n
  · rw [qbS _ hi,List.getElem?_replicate,if_pos hi]
  · rw [List.getElem?_replicate,if_neg hi,List.getElem?_eq_none (by rw [qbY];omega)]
theorem qhL {n k:Nat} {i:Int} (e:i=(k:Int)) (h:k<n):ixN n i=some k:=by
  subst e
  unfold ixN
  rw [if_pos (by omega),if_pos (by omega)]
  simp
theorem qoU {c d:Nat} {n m:Int} (hm:0<m) (h1:Bd c n) (h2:Bd d m):Bd c (red n m).1∧Bd d (red n m).2:=by
  have w:=qs7 (qcg hm) hm (qfl (n:=n) hm)
  exact ⟨h1.le w.1,h2.le w.2⟩
theorem Pl.same {H H':Hp} {r:Addr} {L:List Nu} (h:Pl H r L) (s:Same H H'):Pl H' r L:=let ⟨zs,a,b⟩:=h;⟨zs,s _ _ a,b.tp (tpS s)⟩
theorem Pl.tp {H H':Hp} {r:Addr} {L:List Nu} (h:Pl H r L) (s:Tp H H'):Pl H' r L:=let ⟨zs,a,b⟩:=h;⟨zs,s _ _ a,b.tp s⟩
theorem Pl.rep {H:Hp} {r:Addr} {L:List Nu} (h:Pl H r L):RepD H (.ref r) (qrM L):=let ⟨_,a,b⟩:=h;qtY a b
theorem qrT {m n:Nat} {x y:Int} (hx:Bd m x) (hy:Bd n y) (hm:m≤60000000:=by decide) (hn:n≤60000000:=by decide):IntMulOk x y:=qh8 (hx.mono hm) (hy.mono hn)
theorem qde (ns:List Int) (m:Nat):qcL ns (m+1)=if ns.getD m 1=0 then qcL ns m else m+1:=rfl
theorem qh9 (h:qaU K vs H Q E):qdT K { nx:=fun _ H'=>Q .non H',rt:=Q } (L2.start ["row", "many"] vs) H:=by
  obtain ⟨p,ns,rfl,hp,q⟩:=h
  unfold qdT
  rwa [hp]
  have fin:∀ m:Nat,m≤ns.length→qcL ns m=qcL ns ns.length→qcL ns m=m→∀ r,H r=none→Q (V.ref r) (upd H r (HO.lst (qjP (ns.map V.int) none (some (m:Int))))):=fun m h1 h2 h3 r hr=>by
    rw [qhm (by rw [List.length_map];exact h1),← List.map_take,← h3,h2]
    exact q r hr
  refine while_by (fun m σ H'=>σ=[some (.ref p),some (.int (m:Int))]∧H'=H∧qcL ns m=qcL ns ns.length∧m≤ns.length) ns.length ⟨by rw [List.length_map],rfl,rfl,Nat.le_refl _⟩ ?_
  rintro m σ H' ⟨rfl,rfl,ht,hm⟩
  rwa [hp]
  refine qbU (fun c=>?_) (fun c=>?_)
  · obtain ⟨k,rfl⟩:∃ k,m=k+1:=⟨m - 1,by omega⟩
    have hv:(ns.map V.int)[k]?=some (V.int (ns.getD k 1)):=by
      rw [List.getElem?_map,List.getElem?_eq_getElem (by omega),List.getD_eq_getElem?_getD,List.getElem?_eq_getElem (by omega)];rfl
    refine ⟨_,qek (by omega) hv,rfl,qbU (fun c2=>?_) (fun c2=>?_)⟩
    · have z:ns.getD k 1=0:=by injection c2
      rw [qde,if_pos z] at ht
      exact ⟨fun σ' H''=>∃ m',m'<k+1∧_,fun _ _ h=>h,k,by omega,by rw [show ((k+1:Nat):Int) - 1=(k:Int) by omega],rfl,ht,by omega⟩
    · have z:ns.getD k 1≠0:=fun z=>c2 (by rw [z])
      exact fin (k+1) hm ht (by rw [qde,if_neg z])
  · have z:m=0:=by omega
    subst z
    exact fin 0 hm ht rfl
theorem qhM (ns:List Int):∀ m,qcL ns m≤m
  | 0=>Nat.le_refl 0
  | m+1=>by
    rw [qde]
    split
    · exact Nat.le_succ_of_le (qhM ns m)
    · exact Nat.le_refl _
theorem qhN {ns:List Int}:(qel ns).length=qcL ns ns.length:=by
  unfold qel
  rw [List.length_take,Nat.min_eq_left (qhM ns ns.length)]
theorem qkr {ns:List Int} (k:Nat):(qel ns).getD k 0=ns.getD k 0:=by
  have key:∀ (m:Nat),m≤ns.length→(∀ j,m≤j→j<ns.length→ns.getD j 0=0)→∀ j,qcL ns m≤j→j<ns.length→ns.getD j 0=0:=by
    intro m
    induction m with
    | zero=>intro _ h j hj1 hj2;exact h j (by omega) hj2
    | succ m ih=>
      intro hm h j h1 h2
      rw [qde] at h1
      split at h1
      · rename_i z
        refine ih (by omega) (fun j hj1 hj2=>?_) j h1 h2
        by_cases e:j=m
        · subst e
          rw [List.getD_eq_getElem?_getD,List.getElem?_eq_getElem hj2] at z ⊢
          exact z
        · exact h j (by omega) hj2
      · exact h j h1 h2
  by_cases h1:k<qcL ns ns.length
  · unfold qel
    rw [List.getD_eq_getElem?_getD,List.getD_eq_getElem?_getD,List.getElem?_take_of_lt h1]
  · have e:(qel ns).getD k 0=0:=by
      rw [List.getD_eq_getElem?_getD,List.getElem?_eq_none (by rw [qhN];omega)]
      rfl
    rw [e]
    by_cases h2:k<ns.length
    · exact (key ns.length (Nat.le_refl _) (fun j a b=>absurd b (by omega)) k (by omega) h2).symm
    · rw [List.getD_eq_getElem?_getD,List.getElem?_eq_none (by omega)]
      rfl
theorem qoV {n:Nat} {z g:Int} (h:g∣z) (b:Bd n z):Bd n (z / g):=by
  by_cases hz:z=0
  · rw [hz,Int.zero_ediv];exact qch n
  · exact qb7 hz (Int.ediv_dvd_of_dvd h) b
theorem qmq {z g:Int} (hg:g≠0) (h:g∣z):((z / g:Int):Rat)=(z:Rat) / (g:Rat):=by
  obtain ⟨y,rfl⟩:=h
  rw [Int.mul_ediv_cancel_left _ hg]
  have:=qa3 hg
  push_cast
  grind
theorem qmr {ns:List Int} {g:Int} (h:∀ z∈ns,g∣z) (k:Nat):g∣ns.getD k 0:=by
  rw [List.getD_eq_getElem?_getD]
  cases e:ns[k]? with
  | none=>exact Int.dvd_zero g
  | some z=>exact h z (List.mem_of_getElem? e)
theorem qlk {m:List Nu} (hm:qaI m) (nm:Nz m) (h1:1≤m.length):(qcT m).getD (m.length - 1) 0≠0:=by
  rw [qjh,qoB]
  have hb:m.length - 1<m.length:=by omega
  have q:=nm m[m.length - 1] (by rw [List.getLast?_eq_getElem?];exact List.getElem?_eq_getElem hb)
  have e:qaY m (m.length - 1)=m[m.length - 1]:=by unfold qaY;rw [List.getD_eq_getElem?_getD,List.getElem?_eq_getElem hb];rfl
  rw [e]
  refine Int.mul_ne_zero q ?_
  have o:=qbT hm
  have d:=o.2 m[m.length - 1] (List.getElem_mem hb)
  obtain ⟨y,hy⟩:=d
  have p0:=(hm m[m.length - 1] (List.getElem_mem hb)).pos
  rw [hy,Int.mul_ediv_cancel_left _ (Int.ne_of_gt p0)]
  intro z
  rw [z,Int.mul_zero] at hy
  have:=o.1
  omega
theorem atI_last {xs:List V} {v:V} (h:1≤xs.length) (e:xs[xs.length - 1]?=some v):atI xs (-1)=some v:=by
  unfold atI ixN
  rw [if_neg (by decide),if_pos (by omega),show (-1+(xs.length:Int)).toNat=xs.length - 1 by omega]
  exact e
theorem qqa {n m:Int} (h:0<m):qcF n m=red n m:=by unfold qcF;rw [if_neg (by omega)]
theorem qqb (h:qbP K vs H Q E):qlf K { nx:=fun _ H'=>Q .non H',rt:=Q } (L2.start ["top", "bottom", "shared"] vs) H:=by
  obtain ⟨a,b,rfl,hb,q⟩:=h
  unfold qlf
  rwa []
  have go:∀ s:Int,(s=if b<0 then -((Int.gcd a b:Nat):Int) else ((Int.gcd a b:Nat):Int))→qs0 a s∧qs0 b s∧2≤sizeLine∧∀ (p:Addr),H p=none→Q (V.ref p) (upd H p (HO.tup [V.int (a.fdiv s),V.int (b.fdiv s)])):=fun s hs=>by
    obtain ⟨h1,h2,h3,h4,h5,h6⟩:=qf0 hb hs
    have e:qcF a b=(a.fdiv s,b.fdiv s):=by
      refine qjc (qeC hb) h3 ?_
      rw [qeD hb,qhh (q:=(a.fdiv s,b.fdiv s)) (Int.ne_of_gt h3.pos) hb h4]
    rw [e] at q
    exact ⟨h1,h1,sz (by decide),q⟩
  refine qbU (fun c=>?_) (fun c=>?_)
  · exact go _ (by rw [if_pos c])
  · exact go _ (by rw [if_neg c])
theorem qnc (h:qbv K vs H Q E):qhq K { nx:=fun _ H'=>Q .non H',rt:=Q } (L2.start ["P", "bottom", "number"] vs) H:=by
  obtain ⟨p,xs,l,M,rfl,hp,hN,hL,hO,bM,hB,hl,q⟩:=h
  unfold qhq
  rwa [hp]
  have lx:=hN.length
  have B0:=(qbT hL).1
  have BB:=qb7 (Int.ne_of_gt hO.1) (qmi hL hO) bM
  have qb:∀ q∈l,Bd 400000 q.2:=fun q hq=>qb7 (Int.ne_of_gt hO.1) (hO.2 q hq) bM
  refine ⟨⟨_,SqT.of hp⟩,ForT.by (xs:=xs) (fun i σ H'=>∃ x,σ=[some (.ref p),some (.int ((l.take i).foldl (fun B q=>B*(q.2 / ((Int.gcd B q.2:Nat):Int))) 1)),x]∧H'=H) ⟨none,rfl,rfl⟩ ?_ ?_ ?_⟩
  · rintro i σ H' _ ⟨x,rfl,rfl⟩
    exact hp
  · rintro i x σ H' hi ⟨y,rfl,rfl⟩
    obtain ⟨z,hz,p1,rfl,hp1⟩:=hN.get hi
    have zl:=hL z (List.mem_of_getElem? hz)
    have zb:=qb z (List.mem_of_getElem? hz)
    obtain ⟨f1,f3⟩:=qjg (M:=M) (l.take i) 1 (fun q hq=>⟨(hL q (List.mem_of_mem_take hq)).pos,hO.2 q (List.mem_of_mem_take hq)⟩) (by decide) (Int.one_dvd M)
    have f4:=qb7 (Int.ne_of_gt hO.1) f3 bM
    obtain ⟨s1,_,_,s4,s5,s6⟩:=qja f1 zl.pos
    rwa [hp1]
    refine ⟨s5,qrT f4 (zb.le s4),?_,_,rfl⟩
    rw [qp9 hz]
  · rintro σ H' ⟨x,rfl,rfl⟩
    rw [lx,List.take_length]
    rwa [hp]
    refine ⟨⟨_,SqT.of hp⟩,CompJ.tup (xs:=xs) (fun i ys H''=>i≤xs.length∧ys=((qcT l).take i).map V.int∧H''=H') ⟨Nat.zero_le _,rfl,rfl⟩ ?_ ?_ ?_⟩
    · rintro i ys H'' ⟨h1,rfl,rfl⟩
      refine ⟨h1,sz ?_,hp⟩
      rw [List.length_map,List.length_take];omega
    · rintro i x ys H'' hi ⟨h1,rfl,rfl⟩
      obtain ⟨z,hz,p1,rfl,hp1⟩:=hN.get hi
      have zl:=hL z (List.mem_of_getElem? hz)
      have zb:=qb z (List.mem_of_getElem? hz)
      have zn:=hB z (List.mem_of_getElem? hz)
      have hi2:i<xs.length:=(List.getElem?_eq_some_iff.mp hi).1
      rwa [hp1]
      have eB:l.foldl (fun B q=>B*(q.2 / ((Int.gcd B q.2:Nat):Int))) 1=qcE l:=rfl
      rw [eB]
      have cz:(qcT l)[i]?=some (z.1*(qcE l / z.2)):=by unfold qcT;rw [List.getElem?_map,hz];rfl
      refine ⟨zl.pos,qrT zn (BB.le (qeM B0 zl.pos)),by omega,?_⟩
      rw [qbR V.int cz]
    · rintro ys H'' ⟨_,rfl,rfl⟩ a ha
      refine ⟨sz (by decide),fun r hr=>?_⟩
      have e:(qcT l).take xs.length=qcT l:=by
        rw [lx,show l.length=(qcT l).length by unfold qcT;rw [List.length_map],List.take_length]
      rw [e] at hr ⊢
      have s:=(qag ha (HO.lst ((qcT l).map V.int))).trans (qag hr (HO.tup [V.ref a,V.int (qcE l)]))
      exact q r a _ s qai (qag hr _ _ _ qai)
theorem qks (h:qbm K vs H Q E):qe8 K { nx:=fun _ H'=>Q .non H',rt:=Q } (L2.start ["row", "bottom"] vs) H:=by
  obtain ⟨p,ns,B,rfl,hp,hB,hl,q⟩:=h
  unfold qe8
  rwa [hp]
  refine ⟨⟨_,SqL.of hp⟩,CompJ.lst (xs:=ns.map V.int) (fun i ys H'=>i≤ns.length∧Same H H'∧Nums H' ys ((ns.take i).map fun n=>qcF n B)) ⟨Nat.zero_le _,Same.refl H,trivial⟩ ?_ ?_ ?_⟩
  · rintro i ys H' ⟨h1,s1,hN⟩
    refine ⟨by rw [List.length_map];exact h1,sz ?_,SqL.of (s1 _ _ hp)⟩
    rw [hN.length,List.length_map,List.length_take];omega
  · rintro i x ys H' hi ⟨h1,s1,hN⟩
    rw [List.getElem?_map] at hi
    cases e:ns[i]? with
    | none=>rw [e] at hi;cases hi
    | some n=>
      rw [e] at hi
      obtain rfl:V.int n=x:=Option.some.inj hi
      have hi2:i<ns.length:=(List.getElem?_eq_some_iff.mp e).1
      rwa []
      refine ⟨hB,fun r hr=>⟨by omega,s1.trans (qag hr _),?_⟩⟩
      rw [qbR _ e]
      exact (hN.tp (tpS (qag hr _))).append (Nums.one qoN)
  · rintro ys H' ⟨_,s1,hN⟩ a ha
    rw [List.length_map,List.take_length] at hN
    have s2:=qag ha (HO.lst ys)
    rwa []
    refine ⟨_,hN.tp (tpS s2),by rw [List.length_map];exact hl,fun r zs H'' s3 hr hz=>q r zs H'' ((s1.trans s2).trans s3) hr hz⟩
theorem qkt {b:Nat} {l:List Nu} {M:Int} (hl:qaI l) (h:Ov l M) (hb:∀ z∈ovN l M,Bd b z):∀ q∈l,Bd b q.1:=fun q hq=>by
  refine (hb (q.1*(M / q.2)) (List.mem_map.mpr ⟨q,hq,rfl⟩)).le ?_
  rw [Int.natAbs_mul]
  obtain ⟨y,hy⟩:=h.2 q hq
  have p0:=(hl q hq).pos
  have m0:=h.1
  have:M / q.2=y:=by rw [hy,Int.mul_ediv_cancel_left _ (Int.ne_of_gt p0)]
  rw [this]
  refine Nat.le_mul_of_pos_right _ ?_
  rcases Nat.eq_zero_or_pos y.natAbs with z | z
  · have y0:y=0:=by omega
    rw [y0] at hy;omega
  · exact z
theorem qku {g f:List Int} (lg:Lz g) (lf:Lz f) (mq:MQ (co g) (co f)):g.length≤f.length:=by
  obtain ⟨c,c0,A,hA⟩:=mq
  rcases Nat.lt_or_ge f.length g.length with y | y
  · exfalso
    rcases qh7 A with z | ⟨B,lB,_,eB⟩
    · have:c*co f (f.length - 1)=0:=by rw [hA,qbC,qcp g z]
      rcases Int.mul_eq_zero.mp this with e | e
      · exact c0 e
      · exact lf.2 e
    · have hB:∀ k,c*co f k=cvL B (co g) k:=fun k=>by rw [hA,qbC,qan (fun j=>(eB j).symm) g k,← qbC]
      have b0:=lB.1
      have g0:=lg.1
      have ne:B≠[]:=List.length_pos_iff.mp b0
      obtain ⟨X,t,hX⟩:∃ X t,B=X++[t]:=⟨B.dropLast,B.getLast ne,(List.dropLast_concat_getLast ne).symm⟩
      have tl:X.length=B.length - 1:=by rw [hX];simp
      have tc:co B (B.length - 1)=t:=by rw [← tl,hX];unfold co;simp [List.getD_eq_getElem?_getD]
      have e:=hB (B.length - 1+(g.length - 1))
      rw [qaE (by omega),hX,qbu,← hX,qcm (n:=g.length) (fun i hi=>qaE hi) X _ (by omega)] at e
      unfold upS at e
      rw [if_pos (by omega),show B.length - 1+(g.length - 1) - X.length=g.length - 1 by omega] at e
      have e2:t*co g (g.length - 1)=0:=by omega
      rcases Int.mul_eq_zero.mp e2 with x | x
      · exact lB.2 (tc.trans x)
      · exact lg.2 x
  · exact y
theorem php:∀ (m n:Nat) (f:Nat→Nat),(∀ i,i<n→f i<m)→m<n→∃ i j,i<j∧j<n∧f i=f j
  | 0,n,f,h,hn=>absurd (h 0 hn) (Nat.not_lt_zero _)
  | m+1,n,f,h,hn=>by
    obtain ⟨n,rfl⟩:∃ k,n=k+1:=⟨n - 1,by omega⟩
    by_cases c:∃ i,i<n∧f i=f n
    · obtain ⟨i,hi,e⟩:=c
      exact ⟨i,n,hi,by omega,e⟩
    · have c:∀ i,i<n→f i≠f n:=fun i hi e=>c ⟨i,hi,e⟩
      have hv:=h n (by omega)
      obtain ⟨i,j,hij,hj,e⟩:=php m n (fun i=>if f n<f i then f i - 1 else f i) (fun i hi=>by
        have h1:=h i (by omega)
        have h2:=c i hi
        show (if f n<f i then f i - 1 else f i)<m
        split <;> omega) (by omega)
      refine ⟨i,j,hij,by omega,?_⟩
      have c1:=c i (by omega)
      have c2:=c j hj
      have e:(if f n<f i then f i - 1 else f i)=(if f n<f j then f j - 1 else f j):=e
      split at e <;> split at e <;> omega
noncomputable def enc (M:Nat):Nat→(Nat→Nat)→Nat
  | 0,_=>0
  | N+1,e=>e 0+M*enc M N (fun k=>e (k+1))
theorem qq5 {M:Nat}:∀ (N:Nat) (e:Nat→Nat),(∀ k,k<N→e k<M)→enc M N e<M ^ N
  | 0,_,_=>Nat.one_pos
  | N+1,e,h=>by
    have h1:=qq5 N (fun k=>e (k+1)) (fun k hk=>h (k+1) (by omega))
    have h0:=h 0 (by omega)
    show e 0+M*enc M N (fun k=>e (k+1))<M ^ (N+1)
    have h2:M*(enc M N (fun k=>e (k+1))+1)≤M*M ^ N:=Nat.mul_le_mul_left M h1
    rw [Nat.pow_succ,Nat.mul_comm (M ^ N)]
    rw [Nat.mul_add,Nat.mul_one] at h2
    omega
theorem qms {M a b x y:Nat} (ha:a<M) (hb:b<M) (h:a+M*x=b+M*y):a=b∧x=y:=by
  have h1:(a+M*x) % M=a:=by rw [Nat.add_mul_mod_self_left,Nat.mod_eq_of_lt ha]
  have h2:(b+M*y) % M=b:=by rw [Nat.add_mul_mod_self_left,Nat.mod_eq_of_lt hb]
  have e:a=b:=by rw [← h1,h,h2]
  subst e
  exact ⟨rfl,Nat.eq_of_mul_eq_mul_left (by omega) (Nat.add_left_cancel h)⟩
theorem qoW {M:Nat}:∀ (N:Nat) (e e':Nat→Nat),(∀ k,k<N→e k<M)→(∀ k,k<N→e' k<M)→enc M N e=enc M N e'→∀ k,k<N→e k=e' k
  | 0,_,_,_,_,_,k,hk=>absurd hk (Nat.not_lt_zero _)
  | N+1,e,e',h,h',q,k,hk=>by
    obtain ⟨q1,q2⟩:=qms (h 0 (by omega)) (h' 0 (by omega)) q
    cases k with
    | zero=>exact q1
    | succ k=>exact qoW N _ _ (fun k hk=>h (k+1) (by omega)) (fun k hk=>h' (k+1) (by omega)) q2 k (by omega)
noncomputable def digs (p:Nat):Nat→Nat→List Int
  | 0,_=>[]
  | N+1,t=>((t % p:Nat):Int)::digs p N (t / p)
theorem qjw (p:Nat):∀ (N t:Nat),(digs p N t).length=N
  | 0,_=>rfl
  | N+1,t=>by show (digs p N (t / p)).length+1=N+1;rw [qjw p N]
theorem qll {p:Nat} (p0:0<p):∀ (N t:Nat),∀ z∈digs p N t,0≤z∧z<(p:Int)
  | 0,_,z,h=>by cases h
  | N+1,t,z,h=>by
    rcases List.mem_cons.mp h with rfl | h
    · have:=Nat.mod_lt t p0;omega
    · exact qll p0 N _ z h
theorem qmt {p:Nat} (p0:0<p):∀ (N t s:Nat),t<p ^ N→s<p ^ N→digs p N t=digs p N s→t=s
  | 0,t,s,h1,h2,_=>by rw [Nat.pow_zero] at h1 h2;omega
  | N+1,t,s,h1,h2,h=>by
    injection h with a b
    rw [Nat.pow_succ,Nat.mul_comm] at h1 h2
    have:=qmt p0 N (t / p) (s / p) (Nat.div_lt_of_lt_mul h1) (Nat.div_lt_of_lt_mul h2) b
    have e1:=Nat.div_add_mod t p
    have e2:=Nat.div_add_mod s p
    have a:t % p=s % p:=by exact_mod_cast a
    rw [← e1,← e2,this,a]
theorem qoX {g:Nat→Int} {h q:Nat} (hg:∀ k,(g k).natAbs≤h):∀ (a:List Int),(∀ z∈a,z.natAbs≤q)→∀ k,(cvL a g k).natAbs≤a.length*(q*h)
  | [],_,k=>by show (0:Int).natAbs≤_;simp
  | x::a,ha,0=>by
    rw [qaB]
    have h1:(x*g 0).natAbs≤q*h:=by rw [Int.natAbs_mul];exact Nat.mul_le_mul (ha x (List.mem_cons_self ..)) (hg 0)
    have:(x::a).length*(q*h)=a.length*(q*h)+q*h:=by rw [List.length_cons,Nat.add_mul,Nat.one_mul]
    omega
  | x::a,ha,k+1=>by
    rw [qay]
    have h1:(x*g (k+1)).natAbs≤q*h:=by rw [Int.natAbs_mul];exact Nat.mul_le_mul (ha x (List.mem_cons_self ..)) (hg (k+1))
    have h2:=qoX hg a (fun z hz=>ha z (List.mem_cons_of_mem _ hz)) k
    have:(x::a).length*(q*h)=a.length*(q*h)+q*h:=by rw [List.length_cons,Nat.add_mul,Nat.one_mul]
    omega
theorem qrU {A B u v:List Int} (lA:Lz A) (lB:Lz B) (q:QI (co A) (co B) qhi) (hu:u.length<B.length) (hv:v.length<A.length) (h:∀ k,cvL u (co A) k+cvL v (co B) k=0):(∀ k,co u k=0)∧∀ k,co v k=0:=by
  obtain ⟨d,d0,U,V,hd⟩:=q
  have half:∀ {A B u v U V:List Int},Lz B→(∀ k,d*qhi k=cvL U (co A) k+cvL V (co B) k)→u.length<B.length→(∀ k,cvL u (co A) k+cvL v (co B) k=0)→∀ k,co u k=0:=fun {A B u v U V} lB hd hu h=>by
    rcases qh7 u with z | ⟨f,lf,fl,ef⟩
    · exact z
    · exfalso
      have mq:MQ (co B) (co f):=by
        refine ⟨d,d0,qbd (qaX V u) ((qaX U v).map ((-1)*·)),fun k=>?_⟩
        rw [qaA,qaq,qaw,qaw,ef k,qcq u k,← qbk,qan hd,qej,qdQ (co A) u U,qdQ (co B) u V]
        have e:cvL U (cvL u (co A)) k = - cvL U (cvL v (co B)) k:=by
          have:cvL U (cvL u (co A)) k+cvL U (cvL v (co B)) k=0:=by rw [← qej];exact qcp U h k
          omega
        rw [e];omega
      have:=qku lB lf mq
      omega
  exact ⟨half lB hd hu h,half (A:=B) (B:=A) (u:=v) (v:=u) (U:=V) (V:=U) lA (fun k=>by rw [hd k];omega) hv (fun k=>by have:=h k;omega)⟩
theorem qqc {a b:Int} (h:a=b):a∣b:=by rw [h];exact Int.dvd_refl b
theorem cvD {p:Int} {f g:Nat→Int} {S:List Int} (h:∀ k,p∣f k - cvL S g k):∀ (a:List Int) (k:Nat),p∣cvL a f k - cvL a (cvL S g) k
  | [],k=>by show p∣(0:Int) - 0;simp
  | x::a,0=>by
    rw [qaB,qaB]
    have:=Int.dvd_trans (h 0) (Int.dvd_mul_left x _)
    rw [Int.mul_sub] at this
    refine Int.dvd_trans this (qqc ?_)
    omega
  | x::a,k+1=>by
    rw [qay,qay]
    have h1:=Int.dvd_trans (h (k+1)) (Int.dvd_mul_left x _)
    have h2:=cvD h a k
    rw [Int.mul_sub] at h1
    have:=Int.dvd_add h1 h2
    refine Int.dvd_trans this (qqc ?_)
    omega
theorem qkv:∀ (a b:List Int),(qbd a b).length=max a.length b.length
  | [],b=>by show b.length=max 0 b.length;omega
  | a,[]=>by rw [qhk];show a.length=max a.length 0;omega
  | x::a,y::b=>by
    show (qbd a b).length+1=max (a.length+1) (b.length+1)
    rw [qkv a b];omega
theorem qq6 {a b:List Int} (hl:a.length=b.length) (h:∀ k,co a k=co b k):a=b:=by
  refine List.ext_getElem hl fun i h1 h2=>?_
  have:=h i
  unfold co at this
  rwa [List.getD_eq_getElem?_getD,List.getD_eq_getElem?_getD,List.getElem?_eq_getElem h1,List.getElem?_eq_getElem h2] at this
theorem lucky {A B G:List Int} {p b:Nat} (hp:Pr p) (lA:Lz A) (lB:Lz B) (q:QI (co A) (co B) qhi) (hA:∀ k,Bd b (co A k)) (hB:∀ k,Bd b (co B k)) (n1:2≤A.length) (m1:2≤B.length) (g2:2≤G.length) (g1:¬ (p:Int)∣co G (G.length - 1)) (dA:Dm (p:Int) (co G) (co A)) (dB:Dm (p:Int) (co G) (co B))
    (big:(2*((A.length+B.length)*2 ^ b)) ^ (A.length+B.length - 2)<p):False:=by
  have p2:=hp.two
  have p0:0<p:=by omega
  generalize hn:A.length - 1=n at *
  generalize hm:B.length - 1=m at *
  generalize hE:(A.length+B.length)*2 ^ b=E at *
  have N1:A.length+B.length - 2=n+m:=by omega
  rw [N1] at big
  have hAn:∀ k,(co A k).natAbs≤2 ^ b:=fun k=>Nat.le_of_lt (hA k)
  have hBn:∀ k,(co B k).natAbs≤2 ^ b:=fun k=>Nat.le_of_lt (hB k)
  have E0:0<E:=by rw [← hE];exact Nat.mul_pos (by omega) (Nat.pow_pos (by decide))
  let u:Nat→List Int:=fun t=>(digs p (m+n) t).take m
  let v:Nat→List Int:=fun t=>(digs p (m+n) t).drop m
  let f:Nat→Nat→Int:=fun t k=>cvL (u t) (co A) k+cvL (v t) (co B) k
  have ul:∀ t,(u t).length=m:=fun t=>by show ((digs p (m+n) t).take m).length=m;rw [List.length_take,qjw];omega
  have vl:∀ t,(v t).length=n:=fun t=>by show ((digs p (m+n) t).drop m).length=n;rw [List.length_drop,qjw];omega
  have uz:∀ t,∀ z∈u t,0≤z∧z<(p:Int):=fun t z hz=>qll p0 _ t z (List.mem_of_mem_take hz)
  have vz:∀ t,∀ z∈v t,0≤z∧z<(p:Int):=fun t z hz=>qll p0 _ t z (List.mem_of_mem_drop hz)
  have fb:∀ t k,(f t k).natAbs<E*p:=fun t k=>by
    have h1:=qoX (q:=p - 1) hAn (u t) (fun z hz=>by have:=uz t z hz;omega) k
    have h2:=qoX (q:=p - 1) hBn (v t) (fun z hz=>by have:=vz t z hz;omega) k
    rw [ul] at h1
    rw [vl] at h2
    have h3:(f t k).natAbs≤(m+n)*((p - 1)*2 ^ b):=by
      rw [Nat.add_mul]
      show (cvL (u t) (co A) k+cvL (v t) (co B) k).natAbs≤_
      omega
    refine Nat.lt_of_le_of_lt h3 ?_
    rw [← hE]
    have e:(m+n)*((p - 1)*2 ^ b)=((m+n)*2 ^ b)*(p - 1):=by rw [Nat.mul_comm (p - 1),Nat.mul_assoc]
    rw [e]
    exact Nat.lt_of_lt_of_le (Nat.mul_lt_mul_of_pos_left (by omega) (Nat.mul_pos (by omega) (Nat.pow_pos (by decide)))) (Nat.mul_le_mul_right p (Nat.mul_le_mul_right _ (by omega)))
  let e0:Nat→Nat:=fun t=>(f t 0 / (p:Int)+(E:Int)).toNat
  let ek:Nat→Nat→Nat:=fun t k=>(f t (k+1)+((E*p:Nat):Int)).toNat
  have e0r:∀ t,0≤f t 0 / (p:Int)+(E:Int)∧f t 0 / (p:Int)+(E:Int)<2*(E:Int):=fun t=>by
    have h:=fb t 0
    have h1:-((E:Int)*(p:Int))≤f t 0:=by have:((E*p:Nat):Int)=(E:Int)*(p:Int):=by push_cast;rfl
                                         omega
    have h2:f t 0<(E:Int)*(p:Int):=by have:((E*p:Nat):Int)=(E:Int)*(p:Int):=by push_cast;rfl
                                      omega
    have q1:-(E:Int)≤f t 0 / (p:Int):=by
      refine (Int.le_ediv_iff_mul_le (by omega)).mpr ?_
      rw [Int.neg_mul];exact h1
    have q2:f t 0 / (p:Int)<(E:Int):=Int.ediv_lt_of_lt_mul (by omega) h2
    omega
  have ekr:∀ t k,0≤f t (k+1)+((E*p:Nat):Int)∧f t (k+1)+((E*p:Nat):Int)<2*((E*p:Nat):Int):=fun t k=>by
    have h:=fb t (k+1)
    omega
  have e0l:∀ t,e0 t<2*E:=fun t=>by have:=e0r t;show (f t 0 / (p:Int)+(E:Int)).toNat<2*E;omega
  have ekl:∀ t k,ek t k<2*(E*p):=fun t k=>by have:=ekr t k;show (f t (k+1)+((E*p:Nat):Int)).toNat<2*(E*p);omega
  have cl:∀ t,e0 t+2*E*enc (2*(E*p)) (m+n - 1) (ek t)<2*E*(2*(E*p)) ^ (m+n - 1):=fun t=>by
    have h1:=qq5 (M:=2*(E*p)) (m+n - 1) (ek t) (fun k _=>ekl t k)
    have h2:2*E*(enc (2*(E*p)) (m+n - 1) (ek t)+1)≤2*E*(2*(E*p)) ^ (m+n - 1):=Nat.mul_le_mul_left _ h1
    have h3:=e0l t
    rw [Nat.mul_add,Nat.mul_one] at h2
    omega
  have room:2*E*(2*(E*p)) ^ (m+n - 1)<p ^ (m+n):=by
    obtain ⟨N,hN⟩:∃ N,m+n=N+1:=⟨m+n - 1,by omega⟩
    rw [hN,Nat.add_sub_cancel]
    rw [Nat.add_comm n m,hN] at big
    have e:2*E*(2*(E*p)) ^ N=(2*E) ^ (N+1)*p ^ N:=by
      rw [← Nat.mul_assoc 2 E p,Nat.mul_pow (2*E) p N,Nat.pow_succ,Nat.mul_comm ((2*E) ^ N) (2*E),Nat.mul_assoc (2*E)]
    rw [e,Nat.pow_succ p,Nat.mul_comm (p ^ N) p]
    exact Nat.mul_lt_mul_of_pos_right big (Nat.pow_pos p0)
  obtain ⟨s,t,st,ht,e⟩:=php _ _ _ (fun i _=>cl i) room
  obtain ⟨q0,q1⟩:=qms (e0l s) (e0l t) e
  have qk:=qoW (m+n - 1) _ _ (fun k _=>ekl s k) (fun k _=>ekl t k) q1
  have w0:∀ k,(co (u s) k - co (u t) k)=co (qbd (u s) ((u t).map ((-1)*·))) k:=fun k=>by rw [qcq,qcq,qcq,qaA,qaq];omega
  have df:∀ k,f s k - f t k=cvL (qbd (u s) ((u t).map ((-1)*·))) (co A) k+cvL (qbd (v s) ((v t).map ((-1)*·))) (co B) k:=fun k=>by
    rw [qaA,qaA,qaq,qaq]
    show cvL (u s) (co A) k+cvL (v s) (co B) k - (cvL (u t) (co A) k+cvL (v t) (co B) k)=_
    omega
  have hi:∀ k,0<k→f s k - f t k=0:=fun k hk=>by
    rcases Nat.lt_or_ge k (m+n) with c | c
    · have:=qk (k - 1) (by omega)
      have r1:=ekr s (k - 1)
      have r2:=ekr t (k - 1)
      have this:(f s (k - 1+1)+((E*p:Nat):Int)).toNat=(f t (k - 1+1)+((E*p:Nat):Int)).toNat:=this
      rw [show k - 1+1=k by omega] at *
      omega
    · have z:∀ t,f t k=0:=fun t=>by
        show cvL (u t) (co A) k+cvL (v t) (co B) k=0
        rw [qcm (n:=A.length) (fun i hi=>qaE hi) (u t) k (by rw [ul];omega),qcm (n:=B.length) (fun i hi=>qaE hi) (v t) k (by rw [vl];omega)];rfl
      rw [z,z];rfl
  have d0:(f s 0 - f t 0).natAbs<p:=by
    have r1:=e0r s
    have r2:=e0r t
    have q0:(f s 0 / (p:Int)+(E:Int)).toNat=(f t 0 / (p:Int)+(E:Int)).toNat:=q0
    have q0:f s 0 / (p:Int)=f t 0 / (p:Int):=by omega
    have m1:=Int.emod_add_mul_ediv (f s 0) p
    have m2:=Int.emod_add_mul_ediv (f t 0) p
    have b1:=Int.emod_nonneg (f s 0) (show (p:Int)≠0 by omega)
    have b2:=Int.emod_lt_of_pos (f s 0) (show (0:Int)<p by omega)
    have b3:=Int.emod_nonneg (f t 0) (show (p:Int)≠0 by omega)
    have b4:=Int.emod_lt_of_pos (f t 0) (show (0:Int)<p by omega)
    rw [q0] at m1
    omega
  have dm:Dm (p:Int) (co G) (co [f s 0 - f t 0]):=by
    obtain ⟨SA,hSA⟩:=dA
    obtain ⟨SB,hSB⟩:=dB
    refine ⟨qbd (qaX (qbd (u s) ((u t).map ((-1)*·))) SA) (qaX (qbd (v s) ((v t).map ((-1)*·))) SB),fun k=>?_⟩
    have e:co [f s 0 - f t 0] k=f s k - f t k:=by
      cases k with
      | zero=>rfl
      | succ k=>rw [hi (k+1) (by omega)];exact qaE (by simp)
    rw [e,df,qaA (co G),qaw,qaw]
    have h1:=cvD (p:=(p:Int)) hSA (qbd (u s) ((u t).map ((-1)*·))) k
    have h2:=cvD (p:=(p:Int)) hSB (qbd (v s) ((v t).map ((-1)*·))) k
    have:=Int.dvd_add h1 h2
    refine Int.dvd_trans this (qqc ?_)
    omega
  have z0:f s 0 - f t 0=0:=by
    by_cases c:(p:Int)∣f s 0 - f t 0
    · obtain ⟨y,hy⟩:=c
      rcases Int.lt_trichotomy y 0 with z | z | z
      · have:(p:Int)*y≤(p:Int)*(-1):=Int.mul_le_mul_of_nonneg_left (by omega) (by omega)
        omega
      · rw [hy,z];omega
      · have:(p:Int)*1≤(p:Int)*y:=Int.mul_le_mul_of_nonneg_left (by omega) (by omega)
        omega
    · exfalso
      have:=Dm.len hp (by omega) g1 dm ⟨0,c⟩
      simp at this
      omega
  have all:∀ k,cvL (qbd (u s) ((u t).map ((-1)*·))) (co A) k+cvL (qbd (v s) ((v t).map ((-1)*·))) (co B) k=0:=fun k=>by
    rw [← df]
    cases k with
    | zero=>exact z0
    | succ k=>exact hi (k+1) (by omega)
  have ll:∀ {a c:List Int} {x:Nat},a.length=x→c.length=x→(qbd a (c.map ((-1)*·))).length=x:=fun {a c x} h1 h2=>by
    rw [qkv,List.length_map,h1,h2];omega
  obtain ⟨c1,c2⟩:=qrU lA lB q (by rw [ll (ul s) (ul t)];omega) (by rw [ll (vl s) (vl t)];omega) all
  have eu:u s=u t:=qq6 (by rw [ul,ul]) fun k=>by have:=c1 k;rw [← w0] at this;omega
  have ev:v s=v t:=qq6 (by rw [vl,vl]) fun k=>by
    have:=c2 k
    rw [qcq,qaA,qaq,← qcq,← qcq] at this;omega
  have:digs p (m+n) s=digs p (m+n) t:=by
    rw [← List.take_append_drop m (digs p (m+n) s),← List.take_append_drop m (digs p (m+n) t)]
    exact congr (congrArg _ eu) ev
  have:=qmt p0 _ _ _ (by omega) (by omega) this
  omega
theorem qiJ:∀ (ts l:List Int),ts.Nodup→(∀ t∈ts,evI l t=0)→l.length≤ts.length→∀ k,co l k=0
  | [],l,_,_,h,k=>qaE (by have:l.length=0:=by simpa using h
                          omega)
  | t::ts,l,nd,hr,hl,k=>by
    have nd':=List.nodup_cons.mp nd
    have e0:=hr t (List.mem_cons_self ..)
    have sd:co (syn l t) ((syn l t).length - 1)=0:=by rw [qjk];exact qp7 l t
    have cd:=qe5 sd
    have z:∀ k,co (syn l t) k=0:=fun k=>by
      rw [← cd k]
      refine qiJ ts (syn l t).dropLast nd'.2 (fun x hx=>?_) (by rw [List.length_dropLast,qjk];simp at hl;omega) k
      rw [qhl _ _ x cd]
      have h1:=qoM l t x
      rw [hr x (List.mem_cons_of_mem _ hx),e0] at h1
      have ne:x - t≠0:=fun q=>nd'.1 (by have:x=t:=by omega
                                        rw [← this];exact hx)
      have h1:(x - t)*evI (syn l t) x=0:=by omega
      rcases Int.mul_eq_zero.mp h1 with q | q
      · exact absurd q ne
      · exact q
    rw [qml l t k,z k]
    split
    · rw [e0];omega
    · rw [z (k - 1)];omega
theorem qoY (n:Nat):((List.range (2*n+1)).map fun i:Nat=>(i:Int) - (n:Int)).Nodup:=by
  unfold List.Nodup
  rw [List.pairwise_map]
  exact (List.nodup_range (n:=2*n+1)).imp fun h q=>h (by omega)
theorem qmu (f:Int→Bool):∀ P:List Int,(P.filter f).length+(P.filter fun x=>!f x).length=P.length
  | []=>rfl
  | x::P=>by
    have:=qmu f P
    rw [List.filter_cons,List.filter_cons,List.length_cons]
    cases f x
    · simp;omega
    · simp;omega
theorem qqd {r:List Int} {n:Nat} (r0:∃ k,co r k≠0) (rl:r.length≤n):∃ x:Nat→Int,(∀ i,i≤n→evI r (x i)≠0∧(x i).natAbs≤n)∧∀ i j,i≤n→j≤n→i≠j→x i≠x j:=by
  let P:List Int:=(List.range (2*n+1)).map fun i:Nat=>(i:Int) - (n:Int)
  have pl:P.length=2*n+1:=by show ((List.range (2*n+1)).map fun i:Nat=>(i:Int) - (n:Int)).length=_;rw [List.length_map,List.length_range]
  have pn:P.Nodup:=qoY n
  have pr:∀ x∈P,x.natAbs≤n:=fun x hx=>by
    obtain ⟨i,hi,rfl⟩:=List.mem_map.mp hx
    have:=List.mem_range.mp hi
    omega
  have parts:(P.filter fun x=>decide (evI r x=0)).length+(P.filter fun x=>!decide (evI r x=0)).length=P.length:=by
    exact qmu _ P
  have few:(P.filter fun x=>decide (evI r x=0)).length<r.length:=by
    rcases Nat.lt_or_ge (P.filter fun x=>decide (evI r x=0)).length r.length with c | c
    · exact c
    · exfalso
      obtain ⟨k,hk⟩:=r0
      exact hk (qiJ _ r (pn.filter _) (fun t ht=>by simpa using (List.mem_filter.mp ht).2) c k)
  let Gd:=P.filter fun x=>!decide (evI r x=0)
  have gl:n+1≤Gd.length:=by
    show n+1≤(P.filter fun x=>!decide (evI r x=0)).length
    omega
  have gn:Gd.Nodup:=pn.filter _
  refine ⟨fun i=>Gd.getD i 0,fun i hi=>?_,fun i j hi hj hij e=>?_⟩
  · have hlt:i<Gd.length:=by omega
    have e:Gd.getD i 0=Gd[i]:=by rw [List.getD_eq_getElem?_getD,List.getElem?_eq_getElem hlt];rfl
    show evI r (Gd.getD i 0)≠0∧(Gd.getD i 0).natAbs≤n
    rw [e]
    have m:=List.mem_filter.mp (List.getElem_mem hlt)
    exact ⟨by simpa using m.2,pr _ m.1⟩
  · have h1:i<Gd.length:=by omega
    have h2:j<Gd.length:=by omega
    have e:Gd.getD i 0=Gd.getD j 0:=e
    rw [List.getD_eq_getElem?_getD,List.getD_eq_getElem?_getD,List.getElem?_eq_getElem h1,List.getElem?_eq_getElem h2] at e
    have e:Gd[i]=Gd[j]:=e
    have pw:=List.pairwise_iff_getElem.mp gn
    rcases Nat.lt_or_gt_of_ne hij with q | q
    · exact pw i j h1 h2 q e
    · exact pw j i h2 h1 q e.symm
theorem qge {b n c:Nat} {r g A:List Int} (hr:∀ z∈r,Bd b z) (r0:∃ k,co r k≠0) (rl:r.length≤n) (gl:g.length≤n) (hn:n<2 ^ c) (hA:∀ k,co r k=cvL A (co g) k):∀ k,Bd (b+n*(2*c+4)) (co g k):=by
  by_cases g0:g.length=0
  · intro k;rw [qaE (by omega)];exact qch _
  obtain ⟨x,hx,xi⟩:=qqd r0 rl
  have bx:∀ i,i≤n→Bd c (x i):=fun i hi=>by
    show (x i).natAbs<2 ^ c
    have:=(hx i hi).2
    omega
  intro k
  have:=interp (c:=c) (g.length - 1) g (b+n*(c+1)) x (fun k hk=>qaE (by omega)) (fun i hi=>bx i (by omega)) (fun i j hi hj hij=>xi i j (by omega) (by omega) hij) (fun i hi=>by
    have ne:=(hx i (by omega)).1
    have e:=qp6 hA (x i)
    have bd:=qqV (bx i (by omega)) r hr
    have le:(evI g (x i)).natAbs≤(evI r (x i)).natAbs:=by
      rw [e,Int.natAbs_mul]
      refine Nat.le_mul_of_pos_left _ ?_
      rcases Nat.eq_zero_or_pos (evI A (x i)).natAbs with z | z
      · exact absurd (by rw [e,Int.natAbs_eq_zero.mp z];omega) ne
      · exact z
    refine (bd.le le).mono ?_
    have:=Nat.mul_le_mul_right (c+1) rl
    omega) k
  refine this.mono ?_
  have h1:(g.length - 1)*(c+3)≤n*(c+3):=Nat.mul_le_mul_right (c+3) (by omega)
  have h2:n*(2*c+4)=n*(c+1)+n*(c+3):=by rw [← Nat.mul_add];congr 1;omega
  omega
theorem qfI {a g:List Int} (la:Lz a) (lg:Lz g):cvL a (co g) (a.length - 1+(g.length - 1))=co a (a.length - 1)*co g (g.length - 1):=by
  obtain ⟨i,s,rfl⟩:∃ i s,a=i++[s]:=⟨a.dropLast,a.getLast (List.length_pos_iff.mp la.1),(List.dropLast_concat_getLast _).symm⟩
  have e:(i++[s]).length - 1=i.length:=by rw [List.length_append];simp
  have hs:co (i++[s]) i.length=s:=by
    unfold co
    rw [List.getD_eq_getElem?_getD,List.getElem?_append_right (Nat.le_refl _),Nat.sub_self];rfl
  rw [e,hs,qbu,qcm (n:=g.length) (fun i hi=>qaE hi) i _ (by have:=lg.1;omega)]
  unfold upS
  rw [if_pos (by omega),show i.length+(g.length - 1) - i.length=g.length - 1 by omega]
  omega
theorem qoZ {X ms:List Int} (lm:Lz ms) {T:Nat} (h:∀ k,T+(ms.length - 1)≤k→cvL X (co ms) k=0):(∀ j,T≤j→co X j=0)∧∀ s,T=s+1→cvL X (co ms) (s+(ms.length - 1))=co X s*co ms (ms.length - 1):=by
  rcases qh7 X with z | ⟨Y,lY,_,eY⟩
  · refine ⟨fun j _=>z j,fun s _=>?_⟩
    rw [qbC,qcp ms z,z s];omega
  · have hY:∀ k,cvL X (co ms) k=cvL Y (co ms) k:=fun k=>by rw [qbC,qan (fun j=>(eY j).symm) ms k,← qbC]
    have tp:=qfI lY lm
    have ly:Y.length≤T:=by
      rcases Nat.lt_or_ge T Y.length with c | c
      · exfalso
        have:=h (Y.length - 1+(ms.length - 1)) (by omega)
        rw [hY,tp] at this
        exact Int.mul_ne_zero lY.2 lm.2 this
      · exact c
    refine ⟨fun j hj=>by rw [← eY];exact qaE (by omega),fun s hs=>?_⟩
    rw [hY,← eY]
    have y0:=lY.1
    rcases Nat.lt_or_ge Y.length T with c | c
    · rw [qaE (by omega),qcm (n:=ms.length) (fun i hi=>qaE hi) Y _ (by have:=lm.1;omega)];omega
    · rw [show s=Y.length - 1 by omega];exact tp
theorem qnu {m n:Nat} {x y:Int} (hx:Bd m x) (hy:Bd n y) (hm:m≤60000000:=by omega) (hn:n≤60000000:=by omega):IntMulOk x y:=qh8 (hx.mono hm) (hy.mono hn)
theorem qrV {ns:List Int} {m:Int} (ms:List Int) (hms:ms=(ns.filter (fun z=>!decide (z=0))).map fun z=>if z<0 then -z else z) (h:ms=[]∧m=0∨m∈ms) (d:Int):(∀ z∈ns,d∣z)→d∣m:=by
  intro hd
  rcases h with ⟨_,e⟩ | h
  · rw [e];exact Int.dvd_zero d
  · rw [hms] at h
    obtain ⟨z,hz,rfl⟩:=List.mem_map.mp h
    have:=hd z (List.mem_filter.mp hz).1
    show d∣if z<0 then -z else z
    split
    · exact Int.dvd_neg.mpr this
    · exact this
theorem qnd (h:qbO K vs H Q E):qho K { nx:=fun _ H'=>Q .non H',rt:=Q } (L2.start ["row", "start", "found", "whole"] vs) H:=by
  obtain ⟨p,ns,st,rfl,hp,hl,k⟩:=h
  unfold qho
  rwa []
  refine ⟨⟨_,SqL.of hp⟩,CompF.lst (xs:=ns.map V.int) (fun i ys H'=>i≤ns.length∧H'=H∧ys=(((ns.take i).filter (fun z=>!decide (z=0))).map fun z=>if z<0 then -z else z).map V.int) ⟨Nat.zero_le _,rfl,rfl⟩ ?_ ?_ ?_⟩
  · rintro i ys H' ⟨h1,rfl,rfl⟩
    refine ⟨by rw [List.length_map];exact h1,sz ?_,SqL.of hp⟩
    rw [List.length_map,List.length_map]
    exact Nat.le_trans (List.length_filter_le _ _) (by rw [List.length_take];omega)
  · rintro i x ys H' hi ⟨h1,rfl,rfl⟩
    rw [List.getElem?_map] at hi
    cases e:ns[i]? with
    | none=>rw [e] at hi;cases hi
    | some n=>
      rw [e] at hi
      obtain rfl:V.int n=x:=Option.some.inj hi
      have hi2:i<ns.length:=(List.getElem?_eq_some_iff.mp e).1
      have et:ns.take (i+1)=ns.take i++[n]:=by rw [List.take_add_one,e];rfl
      rwa []
      refine qbU (fun c=>?_) (fun c=>?_)
      · refine ⟨by omega,?_⟩
        have c0:¬ n=0:=by simpa using c
        simp [et,List.filter_append,c0]
      · refine ⟨by omega,?_⟩
        have c0:n=0:=by simpa using c
        simp [et,List.filter_append,c0]
  · rintro ys H' ⟨_,rfl,rfl⟩ a ha
    rw [List.length_map,List.take_length]
    have sa:=qag ha (HO.lst (((ns.filter (fun z=>!decide (z=0))).map fun z=>if z<0 then -z else z).map V.int))
    have hpa:=sa _ _ hp
    refine ⟨_,rfl,_,qai,fun m hm=>?_⟩
    have hg:=qrV _ rfl hm
    generalize hHa:upd H' a (HO.lst (((ns.filter (fun z=>!decide (z=0))).map fun z=>if z<0 then -z else z).map V.int))=Ha at sa hpa ⊢
    refine ⟨⟨_,SqL.of hpa⟩,ForL.by (xs:=ns.map V.int) (fun i σ H2=>∃ (g:Int) (x:Option V),σ=[some (.ref p),some (.int st),some (.int g),x]∧H2=Ha∧0≤g∧g∣st∧(∀ z∈ns.take i,g∣z)∧(∀ d:Int,d∣st→(∀ z∈ns,d∣z)→d∣g)) ⟨_,none,rfl,rfl,by omega,Int.gcd_dvd_right m st,fun z hz=>(by simp at hz),fun d h1 h2=>Int.dvd_coe_gcd (hg d h2) h1⟩ ?_ ?_ ?_⟩
    · rintro i σ H2 _ ⟨g,x,rfl,rfl,_⟩
      exact SqL.of hpa
    · rintro i x σ H2 hi ⟨g,y,rfl,rfl,g0,g1,g2,g3⟩
      rw [List.getElem?_map] at hi
      cases e:ns[i]? with
      | none=>rw [e] at hi;cases hi
      | some n=>
        rw [e] at hi
        obtain rfl:V.int n=x:=Option.some.inj hi
        rwa []
        refine qbU (fun c=>?_) (fun c=>?_)
        · have c1:g=1:=by simpa using c
          subst c1
          exact k 1 _ sa (by decide) (Int.one_dvd _) (fun z _=>Int.one_dvd z) g3
        · refine ⟨by omega,Int.dvd_trans (Int.gcd_dvd_right n g) g1,fun z hz=>?_,fun d h1 h2=>Int.dvd_coe_gcd (h2 n (List.mem_of_getElem? e)) (g3 d h1 h2)⟩
          rw [List.take_add_one,e] at hz
          rcases List.mem_append.mp hz with z1 | z1
          · exact Int.dvd_trans (Int.gcd_dvd_right n g) (g2 z z1)
          · have z2:z=n:=by simpa using z1
            rw [z2];exact Int.gcd_dvd_left n g
    · rintro σ H2 ⟨g,x,rfl,rfl,g0,g1,g2,g3⟩
      rw [List.length_map,List.take_length] at g2
      rwa []
      exact k g _ sa g0 g1 g2 g3
theorem qjx (h:qbe K vs H Q E):qen K { nx:=fun _ H'=>Q .non H',rt:=Q } (L2.start ["row", "divisor"] vs) H:=by
  obtain ⟨p,ns,g,rfl,hp,g0,hl,q⟩:=h
  unfold qen
  rwa []
  refine ⟨⟨_,SqL.of hp⟩,CompJ.lst (xs:=ns.map V.int) (fun i ys H'=>i≤ns.length∧H'=H∧ys=((ns.map (· / g)).take i).map V.int) ⟨Nat.zero_le _,rfl,rfl⟩ ?_ ?_ ?_⟩
  · rintro i ys H' ⟨h1,rfl,rfl⟩
    refine ⟨by rw [List.length_map];exact h1,sz ?_,SqL.of hp⟩
    rw [List.length_map,List.length_take];omega
  · rintro i x ys H' hi ⟨h1,rfl,rfl⟩
    rw [List.getElem?_map] at hi
    cases e:ns[i]? with
    | none=>rw [e] at hi;cases hi
    | some n=>
      rw [e] at hi
      obtain rfl:V.int n=x:=Option.some.inj hi
      have hi2:i<ns.length:=(List.getElem?_eq_some_iff.mp e).1
      have gp:0<g:=by
        rcases g0 with h | h
        · exact h
        · rw [h] at hi2;exact absurd hi2 (by simp)
      rwa []
      refine ⟨gp,by omega,?_⟩
      rw [qbR V.int (q:=n / g) (by rw [List.getElem?_map,e];rfl)]
  · rintro ys H' ⟨_,rfl,rfl⟩ a ha
    have e:(ns.map (· / g)).take (ns.map V.int).length=ns.map (· / g):=by rw [List.length_map,show ns.length=(ns.map (· / g)).length by rw [List.length_map],List.take_length]
    rw [e]
    exact q a ha
theorem qq7 {ns:List Int} {k:Nat}:co ns k=ns.getD k 0:=rfl
theorem qjy (ns:List Int):Tz (qel ns):=by
  have key:∀ m,m≤ns.length→qcL ns m=0∨co ns (qcL ns m - 1)≠0:=by
    intro m
    induction m with
    | zero=>intro _;exact .inl rfl
    | succ m ih=>
      intro hm
      rw [qde]
      split
      · exact ih (by omega)
      · rename_i z
        right
        rw [show m+1 - 1=m by omega,qq7]
        rw [List.getD_eq_getElem?_getD,List.getElem?_eq_getElem (by omega)] at z ⊢
        exact z
  have hl:(qel ns).length=qcL ns ns.length:=qhN
  rcases key ns.length (Nat.le_refl _) with h | h
  · left
    exact List.length_eq_zero_iff.mp (hl.trans h)
  · right
    rw [hl]
    show (qel ns).getD _ 0≠0
    rw [qkr]
    exact h
theorem qjz (ns:List Int) (k:Nat):co (qel ns) k=co ns k:=qkr k
theorem qfJ (n:Nat) (F:Nat→Int):qdf n F=((List.range n).map F).map V.int:=rfl
theorem qt3 (ns:List Int) (f:Int) (n:Nat) (h:ns.length≤n):List.map V.int (ns.map (f*·))++List.replicate (n - ns.length) (V.int 0)=qdf n fun k=>f*co ns k:=by
  rw [qfJ]
  apply List.ext_getElem?
  intro i
  by_cases h1:i<ns.length
  · rw [List.getElem?_append_left (by rw [List.length_map,List.length_map];exact h1),List.getElem?_map,List.getElem?_map,List.getElem?_map,List.getElem?_map,List.getElem?_range (by omega),List.getElem?_eq_getElem h1]
    show _=some (V.int (f*ns.getD i 0))
    rw [List.getD_eq_getElem?_getD,List.getElem?_eq_getElem h1]
    rfl
  · rw [List.getElem?_append_right (by rw [List.length_map,List.length_map];omega),List.length_map,List.length_map,List.getElem?_map,List.getElem?_map]
    by_cases h2:i<n
    · rw [List.getElem?_replicate,if_pos (by omega),List.getElem?_range h2]
      show _=some (V.int (f*co ns i))
      rw [qaE (by omega),Int.mul_zero]
    · rw [List.getElem?_replicate,if_neg (by omega),List.getElem?_eq_none (by rw [List.length_range];omega)]
      rfl
theorem qlm (h:qbz K vs H Q E):qf5 K { nx:=fun _ H'=>Q .non H',rt:=Q } (L2.start ["row", "factor", "other", "weight", "shift", "result", "place", "whole"] vs) H:=by
  obtain ⟨p,q,ns,ms,f,w,s,rfl,hp,hq,hl,hls,bf,bw,bn,bm,k⟩:=h
  unfold qf5
  rwa []
  refine ⟨⟨_,SqL.of hp⟩,CompJ.lst (xs:=ns.map V.int) (fun i ys H'=>i≤ns.length∧H'=H∧ys=((ns.map (f*·)).take i).map V.int) ⟨Nat.zero_le _,rfl,rfl⟩ ?_ ?_ ?_⟩
  · rintro i ys H' ⟨h1,rfl,rfl⟩
    refine ⟨by rw [List.length_map];exact h1,sz ?_,SqL.of hp⟩
    rw [List.length_map,List.length_take];omega
  · rintro i x ys H' hi ⟨h1,rfl,rfl⟩
    rw [List.getElem?_map] at hi
    cases e:ns[i]? with
    | none=>rw [e] at hi;cases hi
    | some n=>
      rw [e] at hi
      obtain rfl:V.int n=x:=Option.some.inj hi
      have hi2:i<ns.length:=(List.getElem?_eq_some_iff.mp e).1
      rwa []
      refine ⟨qnu bf (bn n (List.mem_of_getElem? e)),by omega,?_⟩
      rw [qbR V.int (q:=f*n) (by rw [List.getElem?_map,e];rfl)]
  · rintro ys H' ⟨_,rfl,rfl⟩ a ha
    have e:(ns.map (f*·)).take (ns.map V.int).length=ns.map (f*·):=by rw [List.length_map,show ns.length=(ns.map (f*·)).length by rw [List.length_map],List.take_length]
    rw [e]
    generalize hL:max ns.length (s+ms.length)=L
    have sa:=qag ha (HO.lst (List.map V.int (ns.map (f*·))))
    have hpa:=sa _ _ hp
    have hqa:=sa _ _ hq
    rwa [hpa,hqa]
    refine ⟨qrv qai,sz (by decide),fun b hb=>?_⟩
    have sb:=qag hb (HO.lst [V.int 0])
    refine ⟨_,sb _ _ hqa,_,sb _ _ hpa,?_⟩
    have e0:(((ms.map V.int).length:Int)+(s:Int) - ((ns.map V.int).length:Int))=(ms.length:Int)+(s:Int) - (ns.length:Int):=by rw [List.length_map,List.length_map]
    rw [e0]
    have ek:((ms.length:Int)+(s:Int) - (ns.length:Int)).toNat=L - ns.length:=by omega
    refine ⟨by omega,by omega,sz (by rw [ek];simp;omega),fun c hc=>?_⟩
    rw [ek,qcR]
    have sc:=qag hc (HO.lst (List.replicate (L - ns.length) (V.int 0)))
    have haa:upd H' a (HO.lst (List.map V.int (ns.map (f*·)))) a=some (HO.lst (List.map V.int (ns.map (f*·)))):=qai
    have hac:=sc _ _ (sb _ _ haa)
    refine ⟨_,hac,sz (by simp;omega),?_⟩
    rw [qt3 ns f L (by omega)]
    generalize hX:upd (upd (upd H' a (HO.lst (List.map V.int (ns.map (f*·))))) b (HO.lst [V.int 0])) c (HO.lst (List.replicate (L - ns.length) (V.int 0)))=Hx at hac ⊢
    have sx:Same H' Hx:=fun x o h=>by rw [← hX];exact sc x o (sb x o (sa x o h))
    have sd:Same H' (upd Hx a (HO.lst (qdf L fun k=>f*co ns k))):=fun x o h=>Kp.upd x o (qav h ha) (sx x o h)
    have had:(upd Hx a (HO.lst (qdf L fun k=>f*co ns k))) a=_:=qai
    generalize upd Hx a (HO.lst (qdf L fun k=>f*co ns k))=Hd at sd had ⊢
    refine ⟨⟨_,SqL.of (sd _ _ hq)⟩,ForJ.enumL (xs:=ms.map V.int) (fun j σ H2=>∃ x y:Option V,σ=[some (.ref p),some (.int f),some (.ref q),some (.int w),some (.int (s:Int)),some (.ref a),x,y]∧Same H' H2∧H2 a=some (.lst (qdf L fun k=>f*co ns k - (if s≤k∧k - s<j then w*co ms (k - s) else 0)))) ⟨none,none,rfl,sd,?_⟩ ?_ ?_ ?_⟩
    · rw [had]
      exact congrArg (fun l=>some (HO.lst l)) (qgd fun k _=>by rw [if_neg (by omega)];omega)
    · rintro j σ H2 _ ⟨_,_,_,s2,_⟩
      exact SqL.of (s2 _ _ hq)
    · rintro j y pq σ H2 hj ⟨y3,y4,rfl,s2,hw2⟩ hpq
      rw [List.getElem?_map] at hj
      cases em:ms[j]? with
      | none=>rw [em] at hj;cases hj
      | some u=>
        rw [em] at hj
        obtain rfl:V.int u=y:=Option.some.inj hj
        have jl:j<ms.length:=(List.getElem?_eq_some_iff.mp em).1
        have ud:co ms j=u:=by rw [qq7,List.getD_eq_getElem?_getD,em];rfl
        have sq:=qag hpq (HO.tup [V.int (j:Int),V.int u])
        have hw3:=sq _ _ hw2
        rwa [hw3]
        have kl:s+j<L:=by omega
        refine ⟨_,qek (by omega) (qbS _ kl),qnu bw (bm u (List.mem_of_getElem? em)),_,rfl,s+j,?_,fun b o h=>Kp.upd b o (qav h ha) (sq b o (s2 b o h)),?_⟩
        · rw [qbY];exact qhL (by omega) kl
        · refine qfH kl ?_ fun k _ hk=>?_
          · rw [if_pos (by omega),if_neg (by omega),show s+j - s=j by omega,ud];omega
          · by_cases h:s≤k∧k - s<j
            · rw [if_pos h,if_pos (by omega)]
            · rw [if_neg h,if_neg (by omega)]
    · rintro σ H2 ⟨y3,y4,rfl,s2,hw2⟩
      rw [List.length_map,qfJ] at hw2
      rwa [hw2]
      refine ⟨_,rfl,fun r hr=>k r _ _ (s2.trans (qag hr _)) qai (qjy _) fun i=>?_⟩
      rw [qjz,qgP]
      unfold upS
      by_cases hi:i<L
      · rw [if_pos hi]
        by_cases h:s≤i
        · rw [if_pos h]
          by_cases h2:i - s<ms.length
          · rw [if_pos ⟨h,h2⟩]
          · rw [if_neg (by omega),qaE (a:=ms) (by omega)];omega
        · rw [if_neg h,if_neg (by omega)];omega
      · rw [if_neg hi,qaE (a:=ns) (by omega)]
        by_cases h:s≤i
        · rw [if_pos h,qaE (a:=ms) (by omega)];omega
        · rw [if_neg h];omega
theorem qrW (a b:Int):(a.fdiv b).natAbs≤a.natAbs:=by
  rw [Int.fdiv_eq_ediv]
  split
  · rw [Int.sub_zero];exact Int.natAbs_ediv_le_natAbs a b
  · rename_i h
    have hb:b<0:=by omega
    have hd:¬ b∣a:=fun z=>h (.inr z)
    have e:=Int.mul_ediv_add_emod a b
    have r0:=Int.emod_nonneg a (show b≠0 by omega)
    have r1:=Int.emod_lt_of_neg a hb
    have rn:a % b≠0:=fun z=>hd (Int.dvd_of_emod_eq_zero z)
    generalize a / b=q at *
    generalize a % b=r at *
    rcases Int.lt_or_le q 1 with hq | hq
    · have h1:(-b)*(-q) ≥ 2*(-q):=Int.mul_le_mul_of_nonneg_right (by omega) (by omega)
      rw [Int.neg_mul_neg] at h1
      omega
    · have h1:(-b)*(q - 1) ≥ 1*(q - 1):=Int.mul_le_mul_of_nonneg_right (by omega) (by omega)
      rw [Int.neg_mul,Int.mul_sub] at h1
      omega
theorem qmv {n m:Nat} {F:Nat→Int}:qjP (qdf n F) none (some (m:Int))=((List.range (min m n)).map F).map V.int:=by
  unfold qjP HT.sIx
  simp only [List.drop_zero,Nat.sub_zero,Int.toNat_natCast]
  rw [if_neg (by omega),qbY]
  unfold qdf
  rw [← List.map_take,← List.map_take,List.take_range]
  congr 3
  omega
theorem qqe {n:Nat} {F:Nat→Int} (h:((List.range n).map F).any (fun z=>!decide (z=0))=false):∀ k,k<n→F k=0:=by
  intro k hk
  have:=List.any_eq_false.mp h (F k) (List.mem_map.mpr ⟨k,List.mem_range.mpr hk,rfl⟩)
  simpa using this
theorem qo0 {n s:Nat} {F:Nat→Int} {w:Int} (hs:s<n) (h0:F s=0) (g:Nat→Int) (k:Nat) :
    cvL ((List.range n).map fun j=>if j=s then w else F j) g k=cvL ((List.range n).map F) g k+w*upS s g k:=by
  have e:∀ m,m≤n→cvL ((List.range m).map fun j=>if j=s then w else F j) g k=cvL ((List.range m).map F) g k+(if s<m then w*upS s g k else 0):=by
    intro m
    induction m with
    | zero=>intro _;rw [if_neg (by omega)];rfl
    | succ m ih=>
      intro hm
      rw [List.range_succ,List.map_append,List.map_append,List.map_singleton,List.map_singleton,qbu,qbu,ih (by omega),List.length_map,List.length_map,List.length_range]
      by_cases e:m=s
      · subst e
        rw [if_pos rfl,if_neg (by omega),if_pos (by omega),h0]
        omega
      · rw [if_neg e]
        by_cases h:s<m
        · rw [if_pos h,if_pos (by omega)];omega
        · rw [if_neg h,if_neg (by omega)];omega
  rw [e n (Nat.le_refl n),if_pos hs]
theorem qca {b:Nat} {ns:List Int} (h:∀ z∈ns,Bd b z) (k:Nat):Bd b (co ns k):=qc2 h k
theorem qgT {n:Nat} {g:Nat→Int} (k:Nat):cvL ((List.range n).map fun _=>(0:Int)) g k=0:=by
  have e:((List.range n).map fun _=>(0:Int))=(List.replicate n (1:Int)).map (0*·):=by
    apply List.ext_getElem?
    intro i
    rw [List.getElem?_map,List.getElem?_map]
    by_cases h:i<n
    · rw [List.getElem?_range h,List.getElem?_replicate,if_pos h];rfl
    · rw [List.getElem?_eq_none (by rw [List.length_range];omega),List.getElem?_replicate,if_neg h];rfl
  rw [e,qaq];omega
theorem qtL (ns:List Int):List.map V.int ns=qdf ns.length (co ns):=by
  rw [qfJ]
  congr 1
  apply List.ext_getElem?
  intro i
  rw [List.getElem?_map]
  by_cases h:i<ns.length
  · rw [List.getElem?_range h,List.getElem?_eq_getElem h]
    show _=some (ns.getD i 0)
    rw [List.getD_eq_getElem?_getD,List.getElem?_eq_getElem h];rfl
  · rw [List.getElem?_eq_none (by omega),List.getElem?_eq_none (by rw [List.length_range];omega)];rfl
theorem qex {ms:List Int} (h:0<ms.length):atI (ms.map V.int) (-1)=some (V.int (co ms (ms.length - 1))):=by
  refine atI_last (by rw [List.length_map];omega) ?_
  rw [List.length_map,List.getElem?_map,List.getElem?_eq_getElem (by omega)]
  show _=some (V.int (ms.getD (ms.length - 1) 0))
  rw [List.getD_eq_getElem?_getD,List.getElem?_eq_getElem (by omega)];rfl
theorem qln (h:qbG K vs H Q E):qf4 K { nx:=fun _ H'=>Q .non H',rt:=Q } (L2.start ["row", "divisor", "rest", "last", "quotient", "shift", "weight", "place"] vs) H:=by
  obtain ⟨p,q,ns,ms,b,d,rfl,hp,hq,lm,bn,bm,bb,bd1,hn,hm,kN,kR⟩:=h
  have m0:=lm.1
  have lne:=lm.2
  obtain ⟨L,hL⟩:∃ L,ms.length=L+1:=⟨ms.length - 1,by omega⟩
  have hL1:ms.length - 1=L:=by omega
  rw [hL1] at lne
  generalize hlead:co ms L=lead at lne
  have aL:=qex m0
  rw [hL1,hlead] at aL
  generalize hc:ns.length - L=c
  unfold qf4
  rwa [hp]
  refine fun a ha=>?_
  have sa:=qag ha (HO.lst (ns.map V.int))
  unfold qgv
  have hpa:=sa _ _ hp
  have hqa:=sa _ _ hq
  rwa [hqa]
  unfold qgu
  rwa []
  refine ⟨sz (by decide),fun x hx=>?_⟩
  have sx:=qag hx (HO.lst [V.int 0])
  have hpx:=sx _ _ hpa
  rwa [hpx]
  have hmax:(if (0:Int) > ((List.map V.int ns).length:Int) - (((List.map V.int ms).length:Int) - 1) then (0:Int) else ((List.map V.int ns).length:Int) - (((List.map V.int ms).length:Int) - 1))=(c:Int):=by
    rw [List.length_map,List.length_map];split <;> omega
  rw [hmax]
  refine ⟨by omega,by omega,sz (by simp;omega),fun y hy=>?_⟩
  rw [Int.toNat_natCast,qcR]
  have sy:=qag hy (HO.lst (List.replicate c (V.int 0)))
  have sA:Same (upd H a (HO.lst (ns.map V.int))) (upd (upd (upd H a (HO.lst (ns.map V.int))) x (HO.lst [V.int 0])) y (HO.lst (List.replicate c (V.int 0)))):=fun z o h=>sy z o (sx z o h)
  have hay:=sA _ _ (show upd H a (HO.lst (ns.map V.int)) a=_ from qai)
  have hyy:(upd (upd (upd H a (HO.lst (ns.map V.int))) x (HO.lst [V.int 0])) y (HO.lst (List.replicate c (V.int 0)))) y=_:=qai
  have sH:Same H (upd (upd (upd H a (HO.lst (ns.map V.int))) x (HO.lst [V.int 0])) y (HO.lst (List.replicate c (V.int 0)))):=fun z o h=>sA z o (sa z o h)
  have nay:a≠y:=qav (sx _ _ (show upd H a (HO.lst (ns.map V.int)) a=_ from qai)) hy
  have nyH:H y=none:=by
    cases e:H y with
    | none=>rfl
    | some o=>have:=sx _ _ (sa _ _ e);rw [hy] at this;cases this
  generalize (upd (upd (upd H a (HO.lst (ns.map V.int))) x (HO.lst [V.int 0])) y (HO.lst (List.replicate c (V.int 0))))=H1 at hay hyy sH ⊢
  rw [qtL ns] at hay
  have e0:List.replicate c (V.int 0)=qdf c fun _=>0:=by rw [← qcR,qmp]
  rw [e0] at hyy
  unfold qgt
  have hp1:=sH _ _ hp
  rwa [hp1]
  refine ⟨by rw [List.length_map,List.length_map];omega,?_⟩
  have elo:((List.map V.int ns).length:Int) - (((List.map V.int ms).length:Int) - 1) - 1=(ns.length:Int) - (L:Int) - 1:=by rw [List.length_map,List.length_map];omega
  have ela:((List.map V.int ms).length:Int) - 1=(L:Int):=by rw [List.length_map];omega
  rw [elo,ela]
  have ecn:((ns.length:Int) - (L:Int) - 1 - -1).toNat=c:=by omega
  rw [ecn]
  refine ⟨by omega,by decide,by decide,?_⟩
  let Iv:Nat→L2.St→Hp→Prop:=fun i σ H2=>i≤c∧∃ (F G:Nat→Int) (u v w:Option V),σ=[some (.ref p),some (.ref q),some (.ref a),some (.int (L:Int)),some (.ref y),u,v,w]∧Same H H2∧H2 a=some (.lst (qdf ns.length F))∧H2 y=some (.lst (qdf c G))∧
    (∀ j,j<c - i→G j=0)∧(∀ k,k<ns.length - i→F k=co ns k - cvL ((List.range c).map G) (co ms) k)∧(∀ k,ns.length - i≤k→co ns k=cvL ((List.range c).map G) (co ms) k)∧(∀ k,k<ns.length→Bd (b+i*(d+1)) (F k))
  refine ForJ.down Iv ⟨Nat.zero_le _,co ns,fun _=>0,none,none,none,rfl,sH,hay,hyy,fun _ _=>rfl,fun k _=>by rw [qgT];omega,fun k hk=>by rw [qgT,qaE (by omega)],fun k _=>(qca bn k).mono (by omega)⟩ ?_ ?_
  · rintro i σ H2 hi ⟨_,F,G,u,v,w,rfl,s2,ha2,hy2,hG,hF,hF2,bF⟩
    have hq2:=s2 _ _ hq
    have ic:i<c:=hi
    have esh:((ns.length:Int) - (L:Int) - 1 - (i:Int))=((c - 1 - i:Nat):Int):=by omega
    rw [esh]
    generalize hs:c - 1 - i=s
    have hst:s+L=ns.length - 1 - i:=by omega
    have aT:atI (qdf ns.length F) ((s:Int)+(L:Int))=some (V.int (F (s+L))):=qek (j:=s+L) (by omega) (qbS F (by omega))
    unfold qer
    rwa [ha2,hq2,aL,aT]
    refine ⟨lne,?_⟩
    generalize hw:(F (s+L)).fdiv lead=wt
    have bFt:=bF (s+L) (by omega)
    have bwt:Bd (b+i*(d+1)) wt:=bFt.le (by rw [← hw];exact qrW _ _)
    have bi:b+i*(d+1)≤60000000:=by
      have:=Nat.mul_le_mul_right (d+1) (show i≤ns.length by omega)
      omega
    have bi1:b+(i+1)*(d+1)≤60000000:=by
      have:=Nat.mul_le_mul_right (d+1) (show i+1≤ns.length by omega)
      omega
    have bld:Bd d lead:=by rw [← hlead];exact qca bm L
    unfold qeq
    rwa [ha2,hq2,aL,aT]
    refine ⟨qnu bwt bld,?_⟩
    refine qbU (fun ce=>?_) (fun ce=>?_)
    · refine kN (fun ⟨A,hA⟩=>?_) _ s2
      have ce':wt*lead≠F (s+L):=by simpa using ce
      have hX:∀ k,cvL (qbd A (((List.range c).map G).map ((-1)*·))) (co ms) k=co ns k - cvL ((List.range c).map G) (co ms) k:=fun k=>by rw [qaA,qaq,← hA];omega
      have q:=(qoZ lm (X:=qbd A (((List.range c).map G).map ((-1)*·))) (T:=s+1) (fun k hk=>by rw [hX,hF2 k (by omega)];omega)).2 s rfl
      rw [hX,hL1,hlead,← hF (s+L) (by omega)] at q
      exact ce' (by rw [← hw,q,Int.mul_fdiv_cancel _ lne])
    have ex:wt*lead=F (s+L):=by simpa using ce
    unfold qep
    rwa [hy2]
    refine ⟨s,by rw [qbY];exact qhL rfl (by omega),?_⟩
    have hG':(qdf c G).set s (V.int wt)=qdf c (fun j=>if j=s then wt else G j):=qfH (by omega) (if_pos rfl) fun j _ hj=>if_neg hj
    rw [hG']
    have s3:Same H (upd H2 y (HO.lst (qdf c fun j=>if j=s then wt else G j))):=fun z o h=>Kp.upd z o (qav h nyH) (s2 z o h)
    have ha3:(upd H2 y (HO.lst (qdf c fun j=>if j=s then wt else G j))) a=_:=(qaC nay).trans ha2
    have hy3:(upd H2 y (HO.lst (qdf c fun j=>if j=s then wt else G j))) y=_:=qai
    generalize (upd H2 y (HO.lst (qdf c fun j=>if j=s then wt else G j)))=H3 at s3 ha3 hy3 ⊢
    have cvE:∀ k,cvL ((List.range c).map fun j=>if j=s then wt else G j) (co ms) k=cvL ((List.range c).map G) (co ms) k+wt*upS s (co ms) k:=fun k=>qo0 (by omega) (hG s (by omega)) _ k
    have fin:∀ (F':Nat→Int) (u v w:Option V) (H4:Hp),Same H H4→H4 a=some (.lst (qdf ns.length F'))→H4 y=some (.lst (qdf c fun j=>if j=s then wt else G j))→(∀ k,k<ns.length→F' k=F k - (if s≤k∧k - s<L then wt*co ms (k - s) else 0))→
        Iv (i+1) [some (.ref p),some (.ref q),some (.ref a),some (.int (L:Int)),some (.ref y),u,v,w] H4:=fun F' u v w H4 s4 ha4 hy4 eF=>by
      refine ⟨by omega,F',_,u,v,w,rfl,s4,ha4,hy4,fun j hj=>?_,fun k hk=>?_,fun k hk=>?_,fun k hk=>?_⟩
      · show (if j=s then wt else G j)=0
        rw [if_neg (by omega)];exact hG j (by omega)
      · rw [eF k (by omega),cvE,hF k (by omega)]
        unfold upS
        by_cases h:s≤k
        · rw [if_pos h,if_pos ⟨h,by omega⟩];omega
        · rw [if_neg h,if_neg (by omega)];omega
      · rw [cvE]
        by_cases ek:k=s+L
        · have hf:=hF k (by omega)
          rw [ek] at hf ⊢
          unfold upS
          rw [if_pos (by omega),show s+L - s=L by omega,hlead,ex];omega
        · have h2:=hF2 k (by omega)
          rw [h2]
          unfold upS
          by_cases h:s≤k
          · rw [if_pos h,qaE (a:=ms) (by omega)];omega
          · rw [if_neg h];omega
      · rw [eF k hk]
        have e2:b+(i+1)*(d+1)=b+i*(d+1)+d+1:=by rw [Nat.add_mul];omega
        rw [e2]
        refine Bd.sub ((bF k hk).mono (by omega)) ?_
        split
        · exact bwt.mul (qca bm _)
        · exact qch _
    unfold qeo
    rwa []
    refine qbU (fun cw=>?_) (fun cw=>?_)
    · refine ⟨by omega,by omega,?_⟩
      rw [Int.toNat_natCast]
      refine ForR.by (fun j σ H4=>∃ (u:Option V),σ=[some (.ref p),some (.ref q),some (.ref a),some (.int (L:Int)),some (.ref y),some (.int (s:Int)),some (.int wt),u]∧Same H H4∧H4 a=some (.lst (qdf ns.length fun k=>F k - (if s≤k∧k - s<j then wt*co ms (k - s) else 0)))∧H4 y=some (.lst (qdf c fun j=>if j=s then wt else G j))) ⟨w,rfl,s3,?_,hy3⟩ ?_ ?_
      · rw [ha3]
        exact congrArg (fun l=>some (HO.lst l)) (qgd fun k _=>by rw [if_neg (by omega)];omega)
      · rintro j σ H4 hj ⟨u',rfl,s4,ha4,hy4⟩
        have hq4:=s4 _ _ hq
        have aj:atI (ms.map V.int) (0+(j:Int))=some (V.int (co ms j)):=qek (j:=j) (by omega) (by rw [qtL];exact qbS _ (by omega))
        rwa [ha4,hq4,aj]
        refine ⟨_,qek (j:=s+j) (by omega) (qbS _ (by omega)),qnu bwt (qca bm j),_,rfl,s+j,by rw [qbY];exact qhL (by omega) (by omega),?_,?_,?_⟩
        · intro z o h
          exact Kp.upd z o (qav h ha) (s4 z o h)
        · refine qfH (by omega) ?_ fun k _ hk=>?_
          · rw [if_pos (by omega),if_neg (by omega),show s+j - s=j by omega];omega
          · by_cases h:s≤k∧k - s<j
            · rw [if_pos h,if_pos (by omega)]
            · rw [if_neg h,if_neg (by omega)]
        · rw [qaC (Ne.symm nay)];exact hy4
      · rintro σ H4 ⟨u',rfl,s4,ha4,hy4⟩
        exact fin _ _ _ _ _ s4 ha4 hy4 fun k _=>rfl
    · have w0:wt=0:=by simpa using cw
      exact fin F _ _ _ _ s3 ha3 hy3 fun k _=>by rw [w0];split <;> omega
  · rintro σ H2 ⟨_,F,G,u,v,w,rfl,s2,ha2,hy2,hG,hF,hF2,bF⟩
    unfold qgs
    rwa [ha2]
    refine fun z hz=>?_
    rw [qmv]
    have sz2:=qag hz (HO.lst (((List.range (min L ns.length)).map F).map V.int))
    refine ⟨_,rfl,qbU (fun ce=>?_) (fun ce=>?_)⟩
    · refine kN (fun ⟨A,hA⟩=>?_) _ (s2.trans sz2)
      have hX:∀ k,cvL (qbd A (((List.range c).map G).map ((-1)*·))) (co ms) k=co ns k - cvL ((List.range c).map G) (co ms) k:=fun k=>by rw [qaA,qaq,← hA];omega
      have q:=(qoZ lm (X:=qbd A (((List.range c).map G).map ((-1)*·))) (T:=0) (fun k hk=>by rw [hX,hF2 k (by omega)];omega)).1
      have ce':((List.range (min L ns.length)).map F).any (fun z=>!decide (z=0))=true:=by simpa using ce
      obtain ⟨z,hz',hz0⟩:=List.any_eq_true.mp ce'
      obtain ⟨k,hk,rfl⟩:=List.mem_map.mp hz'
      have hk:=List.mem_range.mp hk
      have e:=hX k
      rw [qbC,qcp ms (fun j=>q j (Nat.zero_le j)),← hF k (by omega)] at e
      rw [← e] at hz0
      simp at hz0
    · have ce':((List.range (min L ns.length)).map F).any (fun z=>!decide (z=0))=false:=by simpa using ce
      have hy3:=sz2 _ _ hy2
      rw [qfJ] at hy3
      refine kR y _ _ (s2.trans sz2) hy3 fun k=>?_
      by_cases hk:ns.length - c≤k
      · exact hF2 k hk
      · have:=hF k (by omega)
        rw [qqe ce' k (by omega)] at this
        omega
theorem qmw {K:W.Frag} {a:Addr} {capt:List (Option Nat)} {te:TE} {σ:L2.St} {Q:VK} {H:Hp} {ns:List Int} (F:Int→Int) (hp:H a=some (.lst (ns.map V.int))) (hl:ns.length≤1000)
    (hs:∀ n,n∈ns→∀ P:VK,P (.int (F n)) H→te ((qdv capt σ).set 0 (some (.int n))) H P) (hd:∀ p,H p=none→Q (.ref p) (upd H p (.lst ((ns.map F).map V.int)))):CompJ (Itl K a) capt (qaj 0) te σ Q H:=by
  refine CompJ.lst (xs:=ns.map V.int) (fun i ys H'=>i≤ns.length∧H'=H∧ys=((ns.map F).take i).map V.int) ⟨Nat.zero_le _,rfl,rfl⟩ ?_ ?_ ?_
  · rintro i ys H' ⟨h1,rfl,rfl⟩
    refine ⟨by rw [List.length_map];exact h1,sz ?_,SqL.of hp⟩
    rw [List.length_map,List.length_take];omega
  · rintro i x ys H' hi ⟨h1,rfl,rfl⟩
    rw [List.getElem?_map] at hi
    cases e:ns[i]? with
    | none=>rw [e] at hi;cases hi
    | some n=>
      rw [e] at hi
      obtain rfl:V.int n=x:=Option.some.inj hi
      have hi2:i<ns.length:=(List.getElem?_eq_some_iff.mp e).1
      show te ((qdv capt σ).set 0 (some (.int n))) H' _
      refine hs n (List.mem_of_getElem? e) _ ⟨by omega,rfl,?_⟩
      rw [qbR V.int (q:=F n) (by rw [List.getElem?_map,e];rfl)]
  · rintro ys H' ⟨_,rfl,rfl⟩ p hpn
    have e:(ns.map F).take (ns.map V.int).length=ns.map F:=by rw [List.length_map,show ns.length=(ns.map F).length by rw [List.length_map],List.take_length]
    rw [e]
    exact hd p hpn
theorem qhO (h:qbh K vs H Q E):qdx K { nx:=fun _ H'=>Q .non H',rt:=Q } (L2.start ["row", "prime"] vs) H:=by
  obtain ⟨p,ns,m,rfl,hp,m0,hl,q⟩:=h
  unfold qdx
  rwa []
  refine ⟨⟨_,SqL.of hp⟩,qmw (· % m) hp hl (fun n _ P hP=>?_) q⟩
  rwa []
  exact ⟨m0,hP⟩
theorem qkw {F:Int→Int} (h0:F 0=0) (ns:List Int) (k:Nat):co (ns.map F) k=F (co ns k):=by
  unfold co
  rw [List.getD_eq_getElem?_getD,List.getD_eq_getElem?_getD,List.getElem?_map]
  cases ns[k]? with
  | none=>exact h0.symm
  | some z=>rfl
theorem qkx {ns:List Int} {z:Int} (h:z∈qel ns):z∈ns:=List.mem_of_mem_take h
theorem qqf (ns:List Int):(qel ns).length≤ns.length:=by rw [qhN];exact qhM _ _
theorem qb2 (a m:Int):m∣a % m - a:=⟨-(a / m),by have:=Int.emod_add_mul_ediv a m;rw [Int.mul_neg];omega⟩
theorem qjA (h:qa7 K vs H Q E):qet K { nx:=fun _ H'=>Q .non H',rt:=Q } (L2.start ["row", "prime"] vs) H:=by
  obtain ⟨p,ns,m,rfl,hp,m0,hl,q⟩:=h
  unfold qet
  rwa [hp]
  refine ⟨_,rfl,m0,hl,fun r hr=>?_⟩
  refine ⟨_,rfl,fun t ht=>?_⟩
  refine q t _ _ ((qag hr _).trans (qag ht _)) qai (qjy _) (Nat.le_trans (qqf _) (by rw [List.length_map];exact Nat.le_refl _)) ⟨fun z hz=>?_,fun k=>?_⟩
  · obtain ⟨y,_,rfl⟩:=List.mem_map.mp (qkx hz)
    exact ⟨Int.emod_nonneg _ (by omega),Int.emod_lt_of_pos _ m0⟩
  · rw [qjz,qkw (Int.zero_emod m)]
    exact qb2 _ _
theorem qgf (h:qa6 K vs H Q E):qcI K { nx:=fun _ H'=>Q .non H',rt:=Q } (L2.start ["whole", "prime", "one", "other", "one_weight", "other_weight", "quotient", "rest"] vs) H:=by
  obtain ⟨a,p,rfl,p2,bp,q⟩:=h
  unfold qcI qdn qdm qdl qdk
  rwa []
  refine ⟨by omega,?_⟩
  have a0:=Int.emod_nonneg a (show p≠0 by omega)
  have a1:=Int.emod_lt_of_pos a (show 0<p by omega)
  refine while_by (fun n σ H'=>∃ (x y s t:Int) (u v:Option V),σ=[some (.int a),some (.int p),some (.int x),some (.int y),some (.int s),some (.int t),u,v]∧H'=H∧n=y.toNat∧0≤y∧y<x∧x≤p∧
    Int.gcd x y=Int.gcd a p∧p∣x - s*a∧p∣y - t*a∧(t.natAbs:Int)*x+(s.natAbs:Int)*y≤p∧(s.natAbs:Int)≤p) (a % p).toNat ⟨p,a % p,0,1,none,none,rfl,rfl,rfl,a0,a1,Int.le_refl _,?_,⟨1,by omega⟩,?_,by simp,by simp;omega⟩ ?_
  · rw [qi1 a (by omega)]
  · rw [show a % p - 1*a=a % p - a by omega]
    exact qb2 a p
  · rintro n σ H' ⟨x,y,s,t,u,v,rfl,rfl,rfl,y0,yx,xp,hg,hs,ht,hb,hsp⟩
    have tx:(t.natAbs:Int)*1≤(t.natAbs:Int)*x:=Int.mul_le_mul_of_nonneg_left (by omega) (by omega)
    have sy:0≤(s.natAbs:Int)*y:=Int.mul_nonneg (by omega) y0
    have tp:(t.natAbs:Int)≤p:=by omega
    rwa []
    refine qbU (fun c=>?_) (fun c=>?_)
    · have yp:0<y:=by
        have:y≠0:=by simpa using c
        omega
      unfold qcA qcz qcy qcx qcw qcv qcu
      have q0:=Int.ediv_nonneg (show 0≤x by omega) y0
      have q1:x / y≤x:=Int.ediv_le_self y (by omega)
      have r0:=Int.emod_nonneg x (show y≠0 by omega)
      have r1:=Int.emod_lt_of_pos x yp
      have er:x - x / y*y=x % y:=by have:=Int.emod_add_mul_ediv x y;rw [Int.mul_comm] at this;omega
      have B:∀ {z:Int},z.natAbs≤p.natAbs→Bd 60000000 z:=fun h=>(bp.le h).mono (by decide)
      refine ⟨fun σ' H''=>∃ m',m'<y.toNat∧_,fun _ _ h=>h,?_⟩
      rwa []
      refine ⟨yp,qnu (B (by omega)) (B (by omega)),qnu (B (by omega)) (B (by omega)),?_⟩
      refine ⟨(x - x / y*y).toNat,by omega,rfl,by omega,by omega,by omega,?_,ht,?_,?_,tp⟩
      · rw [er,qi1 x y0];exact hg
      · obtain ⟨α,hα⟩:=hs
        obtain ⟨β,hβ⟩:=ht
        exact ⟨α - x / y*β,by
          generalize x / y=qq at *
          have e1:x=s*a+p*α:=by omega
          have e2:y=t*a+p*β:=by omega
          rw [e1,e2];grind⟩
      · have n1:((s - x / y*t).natAbs:Int)≤(s.natAbs:Int)+x / y*(t.natAbs:Int):=by
          have h1:=Int.natAbs_sub_le s (x / y*t)
          rw [Int.natAbs_mul] at h1
          have h2:((x / y).natAbs:Int)=x / y:=by omega
          have h3:(((x / y).natAbs*t.natAbs:Nat):Int)=x / y*(t.natAbs:Int):=by rw [Int.natCast_mul,h2]
          omega
        have n2:=Int.mul_le_mul_of_nonneg_right n1 y0
        rw [er]
        have n3:(t.natAbs:Int)*(x % y)=(t.natAbs:Int)*x - (t.natAbs:Int)*(x / y*y):=by rw [← er,Int.mul_sub]
        rw [n3]
        generalize (t.natAbs:Int)=tt at *
        generalize (s.natAbs:Int)=ss at *
        generalize x / y=qq at *
        have n4:(ss+qq*tt)*y=ss*y+tt*(qq*y):=by grind
        omega
    · have yz:y=0:=by simpa using c
      unfold qdj
      rwa []
      refine ⟨by omega,q _ (Int.emod_nonneg _ (by omega)) (Int.emod_lt_of_pos _ (by omega)) fun hc=>?_⟩
      have x1:x=1:=by
        rw [yz] at hg
        rw [Int.gcd_zero_right,hc] at hg
        omega
      obtain ⟨α,hα⟩:=hs
      obtain ⟨γ,hγ⟩:=qb2 s p
      refine ⟨γ*a - α,?_⟩
      have e1:s % p=s+p*γ:=by omega
      rw [e1]
      have e2:s*a=1 - p*α:=by omega
      grind
theorem qhP (h:qaZ K vs H Q E):qdy K { nx:=fun _ H'=>Q .non H',rt:=Q } (L2.start ["row", "prime", "factor"] vs) H:=by
  obtain ⟨q,ns,p,rfl,hq,pp,bp,hl,tz,hz,k⟩:=h
  have p2:(2:Int)≤(p:Int):=by have:=pp.two;omega
  unfold qdy
  rwa [hq]
  by_cases hn:ns=[]
  · subst hn
    refine qbU (fun _=>?_) (fun c=>absurd rfl c)
    refine ⟨sz (by decide),fun r hr=>k r [] 0 _ (qag hr _) qai rfl (fun z=>absurd rfl z) ⟨fun z hz=>(by cases hz),fun i=>?_⟩⟩
    show (p:Int)∣co [] i - 0*co [] i
    rw [qaE (Nat.zero_le _)];exact ⟨0,by omega⟩
  have l0:0<ns.length:=List.length_pos_iff.mpr hn
  refine qbU (fun c=>absurd c (by simpa using hn)) (fun _=>?_)
  have aL:=qex l0
  rwa [aL]
  refine ⟨p2,bp,fun f f0 f1 hf=>?_⟩
  have lne:co ns (ns.length - 1)≠0:=by
    rcases tz with h | h
    · exact absurd h hn
    · exact h
  have lz:0≤co ns (ns.length - 1)∧co ns (ns.length - 1)<(p:Int):=hz _ (by
    unfold co
    rw [List.getD_eq_getElem?_getD,List.getElem?_eq_getElem (by omega)]
    exact List.getElem_mem _)
  have gc:Int.gcd (co ns (ns.length - 1)) (p:Int)=1:=pp.cop fun z=>by
    have:=Nat.le_of_dvd (by omega) z
    omega
  have hf:=hf gc
  have B:∀ {z:Int},0≤z→z<(p:Int)→Bd 60000000 z:=fun h1 h2=>(bp.le (by omega)).mono (by decide)
  refine ⟨⟨_,SqL.of hq⟩,qmw (fun n=>n*f % (p:Int)) hq hl (fun n hn P hP=>?_) fun r hr=>?_⟩
  · rwa []
    exact ⟨qnu (B (hz n hn).1 (hz n hn).2) (B f0 f1),by omega,hP⟩
  · have cm:∀ i,co (ns.map fun n=>n*f % (p:Int)) i=co ns i*f % (p:Int):=fun i=>qkw (F:=fun n=>n*f % (p:Int)) (by simp) ns i
    refine k r _ f _ (qag hr _) qai (List.length_map ..) (fun _=>?_) ⟨fun z hz=>?_,fun i=>?_⟩
    · rw [List.length_map,cm]
      obtain ⟨c,hc⟩:=hf
      have e:co ns (ns.length - 1)*f=1+(p:Int)*c:=by rw [Int.mul_comm];omega
      rw [e,Int.add_mul_emod_self_left]
      exact Int.emod_eq_of_lt (by decide) (by omega)
    · obtain ⟨y,_,rfl⟩:=List.mem_map.mp hz
      exact ⟨Int.emod_nonneg _ (by omega),Int.emod_lt_of_pos _ (by omega)⟩
    · rw [cm]
      show (p:Int)∣co ns i*f % (p:Int) - f*co ns i
      rw [Int.mul_comm f]
      exact qb2 _ _
theorem qnf (h:qcj K vs H Q E):qhp K { nx:=fun _ H'=>Q .non H',rt:=Q } (L2.start ["whole", "prime", "rest"] vs) H:=by
  obtain ⟨w,p,rfl,p0,k⟩:=h
  unfold qhp
  rwa []
  have r0:=Int.emod_nonneg w (show p≠0 by omega)
  have r1:=Int.emod_lt_of_pos w p0
  have rd:=qb2 w p
  refine ⟨p0,IntMulOk.of_left (intBits_le_64 (by omega) (by omega)),qbU (fun c=>?_) (fun c=>?_)⟩
  · refine k _ ?_ (by omega)
    obtain ⟨γ,hγ⟩:=rd
    exact ⟨γ - 1,by rw [Int.mul_sub];omega⟩
  · exact k _ rd (by omega)
theorem qia (h:qbr K vs H Q E):qdV K { nx:=fun _ H'=>Q .non H',rt:=Q } (L2.start ["row", "divisor", "modulus"] vs) H:=by
  obtain ⟨p,q,ns,ms,m,b,rfl,hp,hq,m0,ml,mp,bm,bms,bb,hn,hm,k⟩:=h
  unfold qdV
  rwa [hp,hq]
  refine ⟨ns,rfl,ms,rfl,m0,ml,mp,b,bm,bms,bb,hn,hm,fun t r s qs rs H' sH ht hr hs tq tr lr md _=>?_⟩
  refine ⟨_,ht,?_⟩
  rwa []
  exact k s qs rs H' sH hs tr lr md
theorem qgE (h:qba K vs H Q E):qdc K { nx:=fun _ H'=>Q .non H',rt:=Q } (L2.start ["row", "other", "prime", "rest"] vs) H:=by
  obtain ⟨a,b,ns,ms,p,rfl,ha,hb,pp,bp,hn,hm,h0,k⟩:=h
  have p2:(2:Int)≤(p:Int):=by have:=pp.two;omega
  unfold qdc
  rwa [ha]
  refine ⟨ns,rfl,by omega,hn,fun c r1 H1 s1 hc tz1 l1 md1=>?_⟩
  refine ⟨r1,p,rfl,hc,pp,bp,by omega,tz1,md1.1,fun d r2 f H2 s2 hd l2 o2 md2=>?_⟩
  have hb2:=s2 _ _ (s1 _ _ hb)
  rwa [hb2]
  refine ⟨ms,rfl,by omega,hm,fun c' r3 H3 s3 hc' tz3 l3 md3=>?_⟩
  refine ⟨r3,p,rfl,hc',pp,bp,by omega,tz3,md3.1,fun d' r4 f' H4 s4 hd' l4 o4 md4=>?_⟩
  have s04:Same H H4:=((s1.trans s2).trans s3).trans s4
  have hd4:=(s3.trans s4) _ _ hd
  have step:∀ {g h:Nat→Int} {rs:List Int} {f:Int},Dm (p:Int) g h→Md (p:Int) rs (fun k=>f*h k)→Dm (p:Int) g (co rs):=fun {g h rs f} d md=>by
    refine Dm.congr (Dm.less d d f 0 0) fun k=>?_
    have:=md.2 k
    show (p:Int)∣co rs k - (f*h k - 0*_)
    rw [Int.zero_mul,Int.sub_zero]
    exact this
  have nz:∀ {xs rs rs2:List Int} {f:Int},(∃ k,¬ (p:Int)∣co xs k)→Md (p:Int) rs (co xs)→rs2.length=rs.length→0<rs2.length:=fun {xs rs rs2 f} ⟨k,hk⟩ md e=>by
    rcases Nat.eq_zero_or_pos rs2.length with z | z
    · exfalso
      have:=md.2 k
      rw [qaE (by omega)] at this
      have t2:=Int.dvd_neg.mpr this
      rw [show ∀ x:Int,-(0 - x)=x by intro x;omega] at t2
      exact hk t2
    · exact z
  have M1:∀ {xs rs:List Int},Md (p:Int) rs (co xs)→∀ {g:Nat→Int},Dm (p:Int) g (co xs)→Dm (p:Int) g (co rs):=fun md g d=>Dm.congr d md.2
  have back1:∀ {g:Nat→Int} {r r2:List Int} {f:Int},Md (p:Int) r2 (fun k=>f*co r k)→r2.length=r.length→(r≠[]→co r2 (r2.length - 1)=1)→Dm (p:Int) g (co r2)→Dm (p:Int) g (co r):=fun {g r r2 f} md l o d=>by
    by_cases r0:r=[]
    · exact Dm.zero _ _ fun k=>by rw [r0,qaE (Nat.zero_le _)];exact Int.dvd_zero _
    · refine Dm.congr (Dm.less d d (co r (r.length - 1)) 0 0) fun k=>?_
      show (p:Int)∣co r k - (co r (r.length - 1)*co r2 k - 0*_)
      rw [Int.zero_mul,Int.sub_zero]
      have h1:=md.2 k
      have h2:=md.2 (r2.length - 1)
      rw [o r0,l] at h2
      have q1:(p:Int)∣co r (r.length - 1)*(co r2 k - f*co r k):=Int.dvd_mul_of_dvd_right h1
      have q2:(p:Int)∣co r k*(1 - f*co r (r.length - 1)):=Int.dvd_mul_of_dvd_right h2
      refine Int.dvd_trans (Int.dvd_sub q2 q1) (qqc ?_)
      grind
  have back:∀ {g:Nat→Int} {xs r r2:List Int} {f:Int},Md (p:Int) r (co xs)→Md (p:Int) r2 (fun k=>f*co r k)→r2.length=r.length→(r≠[]→co r2 (r2.length - 1)=1)→Dm (p:Int) g (co r2)→Dm (p:Int) g (co xs):=fun {g xs r r2 f} md1 md l o d=>Dm.congr (back1 md l o d) fun k=>by
    have:=Int.dvd_neg.mpr (md1.2 k)
    refine Int.dvd_trans this (qqc ?_)
    omega
  refine while_by (fun m σ H'=>∃ (x y:Addr) (xs ys:List Int) (u:Option V),σ=[some (.ref x),some (.ref y),some (.int (p:Int)),u]∧Same H H'∧H' x=some (.lst (xs.map V.int))∧H' y=some (.lst (ys.map V.int))∧m=ys.length∧xs.length≤1000∧ys.length≤1000∧(0<xs.length∨0<ys.length)∧(xs≠[]→co xs (xs.length - 1)=1)∧(ys≠[]→co ys (ys.length - 1)=1)∧(∀ z∈xs,0≤z∧z<(p:Int))∧(∀ z∈ys,0≤z∧z<(p:Int))∧
    (∀ g:Nat→Int,Dm (p:Int) g (co ns)→Dm (p:Int) g (co ms)→Dm (p:Int) g (co xs)∧Dm (p:Int) g (co ys))∧(∀ g:Nat→Int,Dm (p:Int) g (co xs)→Dm (p:Int) g (co ys)→Dm (p:Int) g (co ns)∧Dm (p:Int) g (co ms))) r4.length ⟨d,d',r2,r4,none,rfl,s04,hd4,hd',rfl,by omega,by omega,?_,?_,?_,md2.1,md4.1,fun g d1 d2=>⟨step (M1 md1 d1) md2,step (M1 md3 d2) md4⟩,fun g d1 d2=>⟨back md1 md2 l2 o2 d1,back md3 md4 l4 o4 d2⟩⟩ ?_
  · rcases h0 with h | h
    · exact .inl (nz (f:=f) h md1 l2)
    · exact .inr (nz (f:=f) h md3 l4)
  · intro z
    exact o2 fun e=>z (List.length_eq_zero_iff.mp (by rw [l2,e];rfl))
  · intro z
    exact o4 fun e=>z (List.length_eq_zero_iff.mp (by rw [l4,e];rfl))
  · rintro m σ H' ⟨x,y,xs,ys,u,rfl,sH,hx,hy,rfl,xl,yl,ne,ox,oy,bx,bY,hD,hE⟩
    rwa [hy]
    by_cases hys:ys=[]
    · subst hys
      refine qbU (fun c=>absurd c (by simp)) (fun _=>?_)
      have x0:0<xs.length:=by simpa using ne
      have rfx:Dm (p:Int) (co xs) (co xs):=⟨[1],fun k=>by
        have e:cvL [1] (co xs) k=co xs k:=by
          cases k with
          | zero=>rw [qaB];omega
          | succ k=>rw [qay,qaP];omega
        rw [e,Int.sub_self];exact Int.dvd_zero _⟩
      have zz:Dm (p:Int) (co xs) (co []):=Dm.zero _ _ fun k=>by rw [qaE (Nat.zero_le _)];exact Int.dvd_zero _
      exact k x xs H' sH hx x0 xl (ox (List.length_pos_iff.mp x0)) bx (fun g d1 d2=>(hD g d1 d2).1) (hE _ rfx zz).1 (hE _ rfx zz).2
    · have y0:0<ys.length:=List.length_pos_iff.mpr hys
      refine qbU (fun _=>?_) (fun c=>absurd hys (by simpa using c))
      refine ⟨fun σ' H''=>∃ m',m'<ys.length∧_,fun _ _ h=>h,?_⟩
      rwa [hx,hy]
      have B:∀ z:Int,0≤z→z<(p:Int)→Bd 45000 z:=fun z h1 h2=>bp.le (by omega)
      refine ⟨xs,rfl,ys,rfl,y0,oy hys,by omega,45000,bp,fun z hz=>B z (bY z hz).1 (bY z hz).2,by decide,xl,yl,fun s qs rs H2 sH2 hs trs lrs md=>?_⟩
      have whole:∀ g:Nat→Int,Dm (p:Int) g (co ys)→Dm (p:Int) g (co rs)→Dm (p:Int) g (co xs):=fun g d1 d2=>by
        obtain ⟨S1,h1⟩:=d1
        obtain ⟨S2,h2⟩:=d2
        refine ⟨qbd S2 (qaX qs S1),fun k=>?_⟩
        rw [qaA,qaw]
        have e1:=cvD h1 qs k
        have m2:(p:Int)∣co rs k - (co xs k - cvL qs (co ys) k):=md.2 k
        have:=Int.dvd_add (Int.dvd_sub (h2 k) m2) e1
        refine Int.dvd_trans this (qqc ?_)
        omega
      refine ⟨rs,p,rfl,hs,pp,bp,by omega,trs,md.1,fun t ts f H3 sH3 ht lt ot mdt=>?_⟩
      refine ⟨ts.length,by omega,(sH.trans sH2).trans sH3,ys,(sH2.trans sH3) _ _ hy,ts,ht,rfl,yl,by omega,.inl y0,oy,fun z=>ot fun e=>z (List.length_eq_zero_iff.mp (by rw [lt,e];rfl)),bY,mdt.1,fun g d1 d2=>⟨(hD g d1 d2).2,?_⟩,fun g d1 d2=>hE g (whole g d1 (back1 mdt lt ot d2)) d1⟩
      obtain ⟨dx,dy⟩:=hD g d1 d2
      have dr:Dm (p:Int) g (co rs):=by
        obtain ⟨S1,h1⟩:=dx
        obtain ⟨S2,h2⟩:=dy
        refine Dm.congr (f:=fun k=>co xs k - cvL qs (co ys) k) ⟨qbd S1 ((qaX qs S2).map (-1*·)),fun k=>?_⟩ md.2
        rw [qaA,qaq,qaw]
        have e:(p:Int)∣cvL qs (co ys) k - cvL qs (cvL S2 g) k:=by
          have lin:∀ (A:List Int) (k:Nat),(p:Int)∣cvL A (co ys) k - cvL A (cvL S2 g) k:=by
            intro A
            induction A with
            | nil=>intro k;rw [qaP,qaP];exact ⟨0,by omega⟩
            | cons a A ih=>
              intro k
              rw [qdP,qdP]
              have i2:(p:Int)∣up1 (cvL A (co ys)) k - up1 (cvL A (cvL S2 g)) k:=by
                cases k with
                | zero=>exact ⟨0,by show (0:Int) - 0=_;omega⟩
                | succ k=>exact ih k
              have i1:(p:Int)∣a*(co ys k - cvL S2 g k):=Int.dvd_mul_of_dvd_right (h2 k)
              have:=Int.dvd_add i1 i2
              rw [show a*(co ys k - cvL S2 g k)+(up1 (cvL A (co ys)) k - up1 (cvL A (cvL S2 g)) k)=a*co ys k+up1 (cvL A (co ys)) k - (a*cvL S2 g k+up1 (cvL A (cvL S2 g)) k) by rw [Int.mul_sub];omega] at this
              exact this
          exact lin qs k
        have:=Int.dvd_sub (h1 k) e
        rw [show co xs k - cvL S1 g k - (cvL qs (co ys) k - cvL qs (cvL S2 g) k)=co xs k - cvL qs (co ys) k - (cvL S1 g k + -1*cvL qs (cvL S2 g) k) by omega] at this
        exact this
      exact step dr mdt
theorem qhQ (h:qbi K vs H Q E):qdz K { nx:=fun _ H'=>Q .non H',rt:=Q } (L2.start ["row", "divisor", "modulus", "rest", "last", "quotient", "shift", "weight", "place"] vs) H:=by
  obtain ⟨p,q,ns,ms,m,b,rfl,hp,hq,m0,ml,mp,bm,bms,bb,hn,hm,kR⟩:=h
  obtain ⟨L,hL⟩:∃ L,ms.length=L+1:=⟨ms.length - 1,by omega⟩
  have hL1:ms.length - 1=L:=by omega
  rw [hL1] at ml
  generalize hc:ns.length - L=c
  unfold qdz
  rwa [hp]
  refine fun a ha=>?_
  have sa:=qag ha (HO.lst (ns.map V.int))
  unfold qd5
  have hpa:=sa _ _ hp
  have hqa:=sa _ _ hq
  rwa [hqa]
  unfold qd4
  rwa []
  refine ⟨sz (by decide),fun x hx=>?_⟩
  have sx:=qag hx (HO.lst [V.int 0])
  have hpx:=sx _ _ hpa
  rwa [hpx]
  have hmax:(if (0:Int) > ((List.map V.int ns).length:Int) - (((List.map V.int ms).length:Int) - 1) then (0:Int) else ((List.map V.int ns).length:Int) - (((List.map V.int ms).length:Int) - 1))=(c:Int):=by
    rw [List.length_map,List.length_map];split <;> omega
  rw [hmax]
  refine ⟨by omega,by omega,sz (by simp;omega),fun y hy=>?_⟩
  rw [Int.toNat_natCast,qcR]
  have sy:=qag hy (HO.lst (List.replicate c (V.int 0)))
  have sA:Same (upd H a (HO.lst (ns.map V.int))) (upd (upd (upd H a (HO.lst (ns.map V.int))) x (HO.lst [V.int 0])) y (HO.lst (List.replicate c (V.int 0)))):=fun z o h=>sy z o (sx z o h)
  have hay:=sA _ _ (show upd H a (HO.lst (ns.map V.int)) a=_ from qai)
  have hyy:(upd (upd (upd H a (HO.lst (ns.map V.int))) x (HO.lst [V.int 0])) y (HO.lst (List.replicate c (V.int 0)))) y=_:=qai
  have sH:Same H (upd (upd (upd H a (HO.lst (ns.map V.int))) x (HO.lst [V.int 0])) y (HO.lst (List.replicate c (V.int 0)))):=fun z o h=>sA z o (sa z o h)
  have nay:a≠y:=qav (sx _ _ (show upd H a (HO.lst (ns.map V.int)) a=_ from qai)) hy
  have nyH:H y=none:=by
    cases e:H y with
    | none=>rfl
    | some o=>have:=sx _ _ (sa _ _ e);rw [hy] at this;cases this
  generalize (upd (upd (upd H a (HO.lst (ns.map V.int))) x (HO.lst [V.int 0])) y (HO.lst (List.replicate c (V.int 0))))=H1 at hay hyy sH ⊢
  rw [qtL ns] at hay
  have e0:List.replicate c (V.int 0)=qdf c fun _=>0:=by rw [← qcR,qmp]
  rw [e0] at hyy
  unfold qd3
  have hp1:=sH _ _ hp
  rwa [hp1]
  refine ⟨by rw [List.length_map,List.length_map];omega,?_⟩
  have elo:((List.map V.int ns).length:Int) - (((List.map V.int ms).length:Int) - 1) - 1=(ns.length:Int) - (L:Int) - 1:=by rw [List.length_map,List.length_map];omega
  have ela:((List.map V.int ms).length:Int) - 1=(L:Int):=by rw [List.length_map];omega
  rw [elo,ela]
  have ecn:((ns.length:Int) - (L:Int) - 1 - -1).toNat=c:=by omega
  rw [ecn]
  refine ⟨by omega,by decide,by decide,?_⟩
  let Iv:Nat→L2.St→Hp→Prop:=fun i σ H2=>i≤c∧∃ (F G:Nat→Int) (u v w:Option V),σ=[some (.ref p),some (.ref q),some (.int m),some (.ref a),some (.int (L:Int)),some (.ref y),u,v,w]∧Same H H2∧H2 a=some (.lst (qdf ns.length F))∧H2 y=some (.lst (qdf c G))∧
    (∀ j,j<c - i→G j=0)∧(∀ k,k<ns.length - i→m∣F k - (co ns k - cvL ((List.range c).map G) (co ms) k))∧(∀ k,ns.length - i≤k→m∣co ns k - cvL ((List.range c).map G) (co ms) k)∧(∀ j,j<c→0≤G j∧G j<m)
  refine ForJ.down Iv ⟨Nat.zero_le _,co ns,fun _=>0,none,none,none,rfl,sH,hay,hyy,fun _ _=>rfl,fun k _=>by rw [qgT];exact ⟨0,by omega⟩,fun k hk=>by rw [qgT,qaE (by omega)];exact ⟨0,by omega⟩,fun k _=>⟨Int.le_refl 0,mp⟩⟩ ?_ ?_
  · rintro i σ H2 hi ⟨_,F,G,u,v,w,rfl,s2,ha2,hy2,hG,hF,hF2,bG⟩
    have hq2:=s2 _ _ hq
    have ic:i<c:=hi
    have esh:((ns.length:Int) - (L:Int) - 1 - (i:Int))=((c - 1 - i:Nat):Int):=by omega
    rw [esh]
    generalize hs:c - 1 - i=s
    have hst:s+L=ns.length - 1 - i:=by omega
    have aT:atI (qdf ns.length F) ((s:Int)+(L:Int))=some (V.int (F (s+L))):=qek (j:=s+L) (by omega) (qbS F (by omega))
    unfold qdb
    rwa [ha2,hq2,aT]
    refine ⟨mp,?_⟩
    have w0:=Int.emod_nonneg (F (s+L)) (show m≠0 by omega)
    have w1:=Int.emod_lt_of_pos (F (s+L)) mp
    have wd:=qb2 (F (s+L)) m
    generalize hw:F (s+L) % m=wt at w0 w1 wd
    have bwt:Bd b wt:=bm.le (by omega)
    unfold qda
    rwa [hy2]
    refine ⟨s,by rw [qbY];exact qhL rfl (by omega),?_⟩
    have hG':(qdf c G).set s (V.int wt)=qdf c (fun j=>if j=s then wt else G j):=qfH (by omega) (if_pos rfl) fun j _ hj=>if_neg hj
    rw [hG']
    have s3:Same H (upd H2 y (HO.lst (qdf c fun j=>if j=s then wt else G j))):=fun z o h=>Kp.upd z o (qav h nyH) (s2 z o h)
    have ha3:(upd H2 y (HO.lst (qdf c fun j=>if j=s then wt else G j))) a=_:=(qaC nay).trans ha2
    have hy3:(upd H2 y (HO.lst (qdf c fun j=>if j=s then wt else G j))) y=_:=qai
    generalize (upd H2 y (HO.lst (qdf c fun j=>if j=s then wt else G j)))=H3 at s3 ha3 hy3 ⊢
    have cvE:∀ k,cvL ((List.range c).map fun j=>if j=s then wt else G j) (co ms) k=cvL ((List.range c).map G) (co ms) k+wt*upS s (co ms) k:=fun k=>qo0 (by omega) (hG s (by omega)) _ k
    have fin:∀ (F':Nat→Int) (u v w:Option V) (H4:Hp),Same H H4→H4 a=some (.lst (qdf ns.length F'))→H4 y=some (.lst (qdf c fun j=>if j=s then wt else G j))→(∀ k,k<ns.length→F' k=F k - (if s≤k∧k - s<L then wt*co ms (k - s) else 0))→
        Iv (i+1) [some (.ref p),some (.ref q),some (.int m),some (.ref a),some (.int (L:Int)),some (.ref y),u,v,w] H4:=fun F' u v w H4 s4 ha4 hy4 eF=>by
      refine ⟨by omega,F',_,u,v,w,rfl,s4,ha4,hy4,fun j hj=>?_,fun k hk=>?_,fun k hk=>?_,fun j hj=>?_⟩
      · show (if j=s then wt else G j)=0
        rw [if_neg (by omega)];exact hG j (by omega)
      · have hf:=hF k (by omega)
        rw [eF k (by omega),cvE]
        unfold upS
        by_cases h:s≤k
        · rw [if_pos h,if_pos ⟨h,by omega⟩]
          rw [show ∀ x y z w:Int,x - y - (z - (w+y))=x - (z - w) by intro x y z w;omega]
          exact hf
        · rw [if_neg h,if_neg (by omega)]
          rw [show ∀ x z w:Int,x - 0 - (z - (w+wt*0))=x - (z - w) by intro x z w;omega]
          exact hf
      · rw [cvE]
        by_cases ek:k=s+L
        · have hf:=hF k (by omega)
          rw [ek] at hf ⊢
          unfold upS
          rw [if_pos (by omega),show s+L - s=L by omega,ml]
          obtain ⟨α,hα⟩:=hf
          obtain ⟨β,hβ⟩:=wd
          exact ⟨-α - β,by rw [Int.mul_sub,Int.mul_neg];omega⟩
        · have h2:=hF2 k (by omega)
          unfold upS
          by_cases h:s≤k
          · rw [if_pos h,qaE (a:=ms) (by omega),Int.mul_zero,Int.add_zero];exact h2
          · rw [if_neg h,Int.mul_zero,Int.add_zero];exact h2
      · show 0≤(if j=s then wt else G j)∧(if j=s then wt else G j)<m
        split
        · exact ⟨w0,w1⟩
        · exact bG j hj
    unfold qc9
    rwa []
    refine qbU (fun cw=>?_) (fun cw=>?_)
    · refine ⟨by omega,by omega,?_⟩
      rw [Int.toNat_natCast]
      refine ForR.by (fun j σ H4=>∃ (u:Option V),σ=[some (.ref p),some (.ref q),some (.int m),some (.ref a),some (.int (L:Int)),some (.ref y),some (.int (s:Int)),some (.int wt),u]∧Same H H4∧H4 a=some (.lst (qdf ns.length fun k=>F k - (if s≤k∧k - s<j then wt*co ms (k - s) else 0)))∧H4 y=some (.lst (qdf c fun j=>if j=s then wt else G j))) ⟨w,rfl,s3,?_,hy3⟩ ?_ ?_
      · rw [ha3]
        exact congrArg (fun l=>some (HO.lst l)) (qgd fun k _=>by rw [if_neg (by omega)];omega)
      · rintro j σ H4 hj ⟨u',rfl,s4,ha4,hy4⟩
        have hq4:=s4 _ _ hq
        have aj:atI (ms.map V.int) (0+(j:Int))=some (V.int (co ms j)):=qek (j:=j) (by omega) (by rw [qtL];exact qbS _ (by omega))
        rwa [ha4,hq4,aj]
        refine ⟨_,qek (j:=s+j) (by omega) (qbS _ (by omega)),qnu bwt (qca bms j),_,rfl,s+j,by rw [qbY];exact qhL (by omega) (by omega),?_,?_,?_⟩
        · intro z o h
          exact Kp.upd z o (qav h ha) (s4 z o h)
        · refine qfH (by omega) ?_ fun k _ hk=>?_
          · rw [if_pos (by omega),if_neg (by omega),show s+j - s=j by omega];omega
          · by_cases h:s≤k∧k - s<j
            · rw [if_pos h,if_pos (by omega)]
            · rw [if_neg h,if_neg (by omega)]
        · rw [qaC (Ne.symm nay)];exact hy4
      · rintro σ H4 ⟨u',rfl,s4,ha4,hy4⟩
        exact fin _ _ _ _ _ s4 ha4 hy4 fun k _=>rfl
    · have w0':wt=0:=by simpa using cw
      exact fin F _ _ _ _ s3 ha3 hy3 fun k _=>by rw [w0'];split <;> omega
  · rintro σ H2 ⟨_,F,G,u,v,w,rfl,s2,ha2,hy2,hG,hF,hF2,bG⟩
    unfold qd2
    rw [qfJ] at hy2
    rwa [ha2,hy2]
    refine ⟨_,rfl,fun t ht=>?_⟩
    have st:=qag ht (HO.lst (List.map V.int (qel (List.map G (List.range c)))))
    have ha3:=st _ _ ha2
    have htt:upd H2 t (HO.lst (List.map V.int (qel (List.map G (List.range c))))) t=_:=qai
    generalize upd H2 t (HO.lst (List.map V.int (qel (List.map G (List.range c)))))=H3 at st ha3 htt ⊢
    refine ⟨_,ha3,fun z hz=>?_⟩
    rw [qmv]
    have sz2:=qag hz (HO.lst (((List.range (min L ns.length)).map F).map V.int))
    refine ⟨_,rfl,mp,by rw [List.length_map,List.length_range];omega,fun r rs H4 s4 hr4 tr lr md=>?_⟩
    rw [List.length_map,List.length_range] at lr
    refine ⟨sz (by decide),fun e he=>?_⟩
    have se:=qag he (HO.tup [V.ref t,V.ref r])
    have cq:∀ k,cvL (qel ((List.range c).map G)) (co ms) k=cvL ((List.range c).map G) (co ms) k:=fun k=>by
      rw [qbC,qan (fun j=>qjz _ j) ms k,← qbC]
    refine kR e t r _ rs _ ((s2.trans st).trans ((sz2.trans s4).trans se)) qai (se _ _ (s4 _ _ (sz2 _ _ htt))) (se _ _ hr4) (qjy _) tr (by omega) ⟨md.1,fun k=>?_⟩ fun z hz=>?_
    · have:=md.2 k
      rw [qgP] at this
      show m∣co rs k - (co ns k - cvL (qel ((List.range c).map G)) (co ms) k)
      rw [cq]
      by_cases hk:k<min L ns.length
      · rw [if_pos hk] at this
        have h2:=Int.dvd_add this (hF k (by omega))
        rw [show ∀ x y z:Int,x - y+(y - z)=x - z by intro x y z;omega] at h2
        exact h2
      · rw [if_neg hk] at this
        have h2:=Int.dvd_sub this (hF2 k (by omega))
        rw [show ∀ x y:Int,x - 0 - y=x - y by intro x y;omega] at h2
        exact h2
    · obtain ⟨j,hj,rfl⟩:=List.mem_map.mp (qkx hz)
      exact bG j (List.mem_range.mp hj)
theorem SDs.tp {H H':Hp} (s:Same H H'):∀ {xs:List V} {rs:List (List Int)},SDs H xs rs→SDs H' xs rs
  | [],[],_=>trivial
  | _::_,_::_,h=>⟨let ⟨p,e,q⟩:=h.1;⟨p,e,s _ _ q⟩,SDs.tp s h.2⟩
  | [],_::_,h=>h.elim
  | _::_,[],h=>h.elim
theorem SD.tp {H H':Hp} (s:Same H H') {p:Addr} {rs:List (List Int)} (h:SD H p rs):SD H' p rs:=let ⟨xs,e,q⟩:=h;⟨xs,s _ _ e,q.tp s⟩
theorem SDs.length {H:Hp}:∀ {xs:List V} {rs:List (List Int)},SDs H xs rs→xs.length=rs.length
  | [],[],_=>rfl
  | _::_,_::_,h=>congrArg (·+1) (SDs.length h.2)
  | [],_::_,h=>h.elim
  | _::_,[],h=>h.elim
theorem SDs.get {H:Hp}:∀ {xs:List V} {rs:List (List Int)} {i:Nat} {v:V},SDs H xs rs→xs[i]?=some v→∃ p r,v=.ref p∧rs[i]?=some r∧H p=some (.lst (r.map V.int))
  | [],[],_,_,_,e=>by simp at e
  | _::_,r::_,0,_,h,e=>by
    simp at e;subst e
    obtain ⟨p,e,q⟩:=h.1
    exact ⟨p,r,e,rfl,q⟩
  | _::_,_::_,i+1,_,h,e=>by
    obtain ⟨p,r,h1,h2,h3⟩:=SDs.get (i:=i) h.2 (by simpa using e)
    exact ⟨p,r,h1,by simpa using h2,h3⟩
  | [],_::_,_,_,h,_=>h.elim
  | _::_,[],_,_,h,_=>h.elim
theorem SDs.snoc {H:Hp} {p:Addr} {r:List Int} (hp:H p=some (.lst (r.map V.int))):∀ {xs:List V} {rs:List (List Int)},SDs H xs rs→SDs H (xs++[.ref p]) (rs++[r])
  | [],[],_=>⟨⟨p,rfl,hp⟩,trivial⟩
  | _::_,_::_,h=>⟨h.1,SDs.snoc hp h.2⟩
  | [],_::_,h=>h.elim
  | _::_,[],h=>h.elim
theorem SD.head {H:Hp} {p:Addr} {r:List Int} {rs:List (List Int)} (h:SD H p (r::rs)):∃ a xs,H p=some (.lst (.ref a::xs))∧H a=some (.lst (r.map V.int))∧SDs H (.ref a::xs) (r::rs):=by
  obtain ⟨xs,e,q⟩:=h
  match xs,q with
  | [],q=>exact q.elim
  | x::xs,q=>
    obtain ⟨a,e1,e2⟩:=q.1
    subst e1
    exact ⟨a,xs,e,e2,q⟩
theorem qeF {α:Type} (x:α) (xs:List α):atI (x::xs) 0=some x:=by
  unfold atI ixN
  rw [if_pos (by decide),if_pos (by rw [List.length_cons];omega)]
  rfl
theorem qfc (h:qaJ K vs H Q E):qb9 K { nx:=fun _ H'=>Q .non H',rt:=Q } (L2.start ["strand", "shared", "row"] vs) H:=by
  obtain ⟨p,rows,rfl,⟨xs,hp,hS⟩,hl,hr,k⟩:=h
  have lx:=hS.length
  unfold qb9
  rwa []
  refine ⟨⟨_,SqL.of hp⟩,ForL.by (xs:=xs) (fun i σ H'=>∃ (g:Int) (u:Option V),σ=[some (.ref p),some (.int g),u]∧Same H H'∧0≤g∧(∀ r∈rows.take i,∀ z∈r,g∣z)∧(∀ d:Int,(∀ r∈rows.take i,∀ z∈r,d∣z)→d∣g)) ⟨0,none,rfl,Same.refl H,Int.le_refl 0,fun r hr=>(by simp at hr),fun d _=>Int.dvd_zero d⟩ ?_ ?_ ?_⟩
  · rintro i σ H' _ ⟨g,u,rfl,s,_⟩
    exact SqL.of (s _ _ hp)
  · rintro i x σ H' hi ⟨g,u,rfl,s,g0,g1,g2⟩
    obtain ⟨a,r,rfl,hri,ha⟩:=hS.get hi
    have ha':=s _ _ ha
    have hrm:=hr r (List.mem_of_getElem? hri)
    rwa [ha']
    refine ⟨r,rfl,hrm.1,fun g' H2 s2 g0' d1 d2 d3=>?_⟩
    have et:rows.take (i+1)=rows.take i++[r]:=by rw [List.take_add_one,hri];rfl
    refine ⟨s.trans s2,g0',fun r' hr' z hz=>?_,fun d hd=>d3 d ?_ fun z hz=>?_⟩
    · rw [et] at hr'
      rcases List.mem_append.mp hr' with h | h
      · exact Int.dvd_trans d1 (g1 r' h z hz)
      · rw [List.mem_singleton.mp h] at hz;exact d2 z hz
    · exact g2 d fun r' hr' z hz=>hd r' (by rw [et];exact List.mem_append_left _ hr') z hz
    · exact hd r (by rw [et];exact List.mem_append_right _ (List.mem_singleton.mpr rfl)) z hz
  · rintro σ H' ⟨g,u,rfl,s,g0,g1,g2⟩
    rw [lx,List.take_length] at g1 g2
    have hp':=s _ _ hp
    have gz:∀ r∈rows,0<g∨r=[]:=fun r hrr=>by
      rcases Int.lt_or_le 0 g with h | h
      · exact .inl h
      · right
        have ge:g=0:=by omega
        rcases (hr r hrr).2 with h | h
        · exact h
        · exfalso
          by_cases hl0:r.length=0
          · rw [qaE (by omega)] at h;exact h rfl
          · have:=g1 r hrr (co r (r.length - 1)) (by
              unfold co
              rw [List.getD_eq_getElem?_getD,List.getElem?_eq_getElem (by omega)]
              exact List.getElem_mem _)
            rw [ge] at this
            exact h (Int.zero_dvd.mp this)
    rwa []
    refine ⟨⟨_,SqL.of hp'⟩,CompJ.lst (xs:=xs) (fun i ys H2=>i≤rows.length∧Same H H2∧SDs H2 ys ((rows.take i).map fun r=>r.map (· / g))) ⟨Nat.zero_le _,s,trivial⟩ ?_ ?_ ?_⟩
    · rintro i ys H2 ⟨h1,s2,hy⟩
      refine ⟨by omega,sz ?_,SqL.of (s2 _ _ hp)⟩
      rw [hy.length,List.length_map,List.length_take];omega
    · rintro i x ys H2 hi ⟨h1,s2,hy⟩
      obtain ⟨a,r,rfl,hri,ha⟩:=hS.get hi
      have ha':=s2 _ _ ha
      have hrm:=hr r (List.mem_of_getElem? hri)
      have hi2:i<rows.length:=(List.getElem?_eq_some_iff.mp hri).1
      rwa [ha']
      refine ⟨r,rfl,gz r (List.mem_of_getElem? hri),hrm.1,fun t ht=>?_⟩
      refine ⟨by omega,s2.trans (qag ht _),?_⟩
      have et:(rows.take (i+1)).map (fun r=>r.map (· / g))=(rows.take i).map (fun r=>r.map (· / g))++[r.map (· / g)]:=by rw [List.take_add_one,hri];simp
      rw [et]
      exact SDs.snoc qai (hy.tp (qag ht _))
    · rintro ys H2 ⟨_,s2,hy⟩ t ht
      rw [lx,List.take_length] at hy
      have st:=qag ht (HO.lst ys)
      by_cases gp:0<g
      · refine k t _ _ (s2.trans st) ⟨ys,qai,hy.tp st⟩ ⟨g,gp,?_⟩ (.inr fun d hd=>?_)
        · rw [List.map_map]
          conv=>lhs;rw [← List.map_id rows]
          refine List.map_congr_left fun r hrr=>?_
          show r=(r.map (· / g)).map (g*·)
          rw [List.map_map]
          conv=>lhs;rw [← List.map_id r]
          refine List.map_congr_left fun z hz=>?_
          show z=g*(z / g)
          rw [Int.mul_ediv_cancel' (g1 r hrr z hz)]
        · have hdg:d*g∣g:=g2 (d*g) fun r hrr z hz=>by
            have h1:=hd (r.map (· / g)) (List.mem_map.mpr ⟨r,hrr,rfl⟩) (z / g) (List.mem_map.mpr ⟨z,hz,rfl⟩)
            obtain ⟨c,hc⟩:=h1
            refine ⟨c,?_⟩
            have:=Int.mul_ediv_cancel' (g1 r hrr z hz)
            rw [← this,hc];grind
          obtain ⟨c,hc⟩:=hdg
          have e:g*(d*c)=g*1:=by rw [Int.mul_one];conv=>rhs;rw [hc]
                                 grind
          have e1:=Int.eq_of_mul_eq_mul_left (by omega) e
          have:d.natAbs*c.natAbs=1:=by rw [← Int.natAbs_mul,e1];rfl
          exact Nat.eq_one_of_mul_eq_one_right this
      · have ge:∀ r∈rows,r=[]:=fun r hrr=>by
          rcases gz r hrr with h | h
          · exact absurd h gp
          · exact h
        have em:rows.map (fun r=>r.map (· / g))=rows:=by
          conv=>rhs;rw [← List.map_id rows]
          refine List.map_congr_left fun r hrr=>?_
          rw [ge r hrr];rfl
        rw [em] at hy
        refine k t rows _ (s2.trans st) ⟨ys,qai,hy.tp st⟩ ⟨1,by decide,?_⟩ (.inl ge)
        conv=>lhs;rw [← List.map_id rows]
        refine List.map_congr_left fun r hrr=>?_
        rw [ge r hrr];rfl
theorem qrX {r:List Int} (h:∀ d:Int,(∀ z∈r,d∣z)→d.natAbs=1):Prim r:=fun c hc=>h c fun z hz=>by
  obtain ⟨i,hi,rfl⟩:=List.getElem_of_mem hz
  have:=hc i
  unfold co at this
  rw [List.getD_eq_getElem?_getD,List.getElem?_eq_getElem hi] at this
  exact this
theorem qgF (h:qaL K vs H Q E):qc7 K { nx:=fun _ H'=>Q .non H',rt:=Q } (L2.start ["row"] vs) H:=by
  obtain ⟨p,ns,rfl,hp,hl,tz,k⟩:=h
  unfold qc7
  rwa []
  refine ⟨sz (by decide),fun a ha=>?_⟩
  have sa:=qag ha (HO.lst [V.ref p])
  refine ⟨[ns],⟨[V.ref p],qai,⟨⟨p,rfl,sa _ _ hp⟩,trivial⟩⟩,by simp,?_,fun t rows' H' s' hSD hSh hP=>?_⟩
  · intro r hr
    rw [List.mem_singleton.mp hr]
    exact ⟨hl,tz⟩
  obtain ⟨g,g0,eg⟩:=hSh
  match rows',eg,hSD,hP with
  | [ms],eg,hSD,hP=>
    obtain ⟨b,xs,h1,h2,_⟩:=hSD.head
    have eg':ns=ms.map (g*·):=by simpa using eg
    refine ⟨_,h1,_,qeF _ _,k b ms g H' (sa.trans s') h2 g0 eg' ?_⟩
    rcases hP with h | h
    · left;rw [eg',h ms (List.mem_singleton.mpr rfl)];rfl
    · right
      exact qrX fun d hd=>h d fun r hr z hz=>by rw [List.mem_singleton.mp hr] at hz;exact hd z hz
  | [],eg,_,_=>simp at eg
  | _::_::_,eg,_,_=>simp at eg
theorem qti {a b:List Int} (ha:Tz a) (n:Nat) (h:∀ k,n≤k→co a k=0):a.length≤n:=by
  rcases Nat.lt_or_ge n a.length with z | z
  · rcases ha with e | e
    · rw [e] at z;simp at z
    · exact absurd (h _ (by omega)) e
  · exact z
theorem qo1 {n:Nat} {a:List Int} (h:∀ k,Bd n (co a k)):∀ z∈a,Bd n z:=fun z hz=>by
  obtain ⟨i,hi,rfl⟩:=List.getElem_of_mem hz
  have:=h i
  unfold co at this
  rw [List.getD_eq_getElem?_getD,List.getElem?_eq_getElem hi] at this
  exact this
theorem qjB (g:Int) (a:List Int) (k:Nat):co (a.map (g*·)) k=g*co a k:=qkw (F:=(g*·)) (by omega) a k
theorem qlo {g:Int} (g0:g≠0) {a:List Int} (h:Tz (a.map (g*·))):Tz a:=by
  rcases h with h | h
  · left;exact List.map_eq_nil_iff.mp h
  · right
    rw [qjB,List.length_map] at h
    exact fun z=>h (by rw [z];omega)
theorem qlp {n:Nat} {g:Int} (g0:0<g) {a:List Int} (h:∀ z∈a.map (g*·),Bd n z):∀ z∈a,Bd n z:=fun z hz=>(h (g*z) (List.mem_map.mpr ⟨z,hz,rfl⟩)).le (by
  rw [Int.natAbs_mul]
  exact Nat.le_mul_of_pos_left _ (by omega))
theorem ZipR.mono {R R':List Int→List Int→List Int→Prop} (h:∀ a b c,R a b c→R' a b c):∀ {A B C:List (List Int)},ZipR R A B C→ZipR R' A B C
  | [],[],[],_=>trivial
  | _::_,_::_,_::_,z=>⟨h _ _ _ z.1,ZipR.mono h z.2⟩
  | [],[],_::_,z=>z.elim
  | [],_::_,_,z=>z.elim
  | _::_,[],_,z=>z.elim
  | _::_,_::_,[],z=>z.elim
theorem ZipR.len {R:List Int→List Int→List Int→Prop}:∀ {A B C:List (List Int)},ZipR R A B C→C.length=A.length∧B.length=A.length
  | [],[],[],_=>⟨rfl,rfl⟩
  | _::_,_::_,_::_,z=>⟨congrArg (·+1) (ZipR.len z.2).1,congrArg (·+1) (ZipR.len z.2).2⟩
  | [],[],_::_,z=>z.elim
  | [],_::_,_,z=>z.elim
  | _::_,[],_,z=>z.elim
  | _::_,_::_,[],z=>z.elim
theorem ZipR.snoc {R:List Int→List Int→List Int→Prop} {a b c:List Int} (h:R a b c):∀ {A B C:List (List Int)},ZipR R A B C→ZipR R (A++[a]) (B++[b]) (C++[c])
  | [],[],[],_=>⟨h,trivial⟩
  | _::_,_::_,_::_,z=>⟨z.1,ZipR.snoc h z.2⟩
  | [],[],_::_,z=>z.elim
  | [],_::_,_,z=>z.elim
  | _::_,[],_,z=>z.elim
  | _::_,_::_,[],z=>z.elim
theorem ZipR.right {R:List Int→List Int→List Int→Prop} (h:∀ a b,R a b b):∀ {A B:List (List Int)},A.length=B.length→ZipR R A B B
  | [],[],_=>trivial
  | _::_,_::_,e=>⟨h _ _,ZipR.right h (by simpa using e)⟩
  | [],_::_,e=>by simp at e
  | _::_,[],e=>by simp at e
theorem ZipR.map {R R':List Int→List Int→List Int→Prop} {F:List Int→List Int} (h:∀ a b c,R a b (F c)→R' a b c):∀ {A B C:List (List Int)},ZipR R A B (C.map F)→ZipR R' A B C
  | [],[],[],_=>trivial
  | _::_,_::_,_::_,z=>⟨h _ _ _ z.1,ZipR.map h z.2⟩
  | [],[],_::_,z=>z.elim
  | [],_::_,_,z=>z.elim
  | _::_,[],_,z=>z.elim
  | _::_,_::_,[],z=>z.elim
theorem qt4 {a b:Int} (hb:b≠0) (h:a∣b):a.natAbs≤b.natAbs:=Nat.le_of_dvd (by omega) (Int.natAbs_dvd_natAbs.mpr h)
theorem qib (h:qbq K vs H Q E):qdU K { nx:=fun _ H'=>Q .non H',rt:=Q } (L2.start ["strand", "other", "shift", "top", "lead", "shared", "factor", "weight"] vs) H:=by
  obtain ⟨p,q,o,rfl,hS,hO,o0,k⟩:=h
  obtain ⟨ac,xc,hp,hac,_⟩:=hS.head
  obtain ⟨ao,xo,hq,hao,_⟩:=hO.head
  have A1:atI (V.ref ac::xc) 0=some (V.ref ac):=qeF _ _
  have A2:atI (V.ref ao::xo) 0=some (V.ref ao):=qeF _ _
  unfold qdU
  rwa []
  refine while_by (fun n σ H'=>σ=[some (.ref p),some (.ref q),none,none,none,none,none,none]∧H'=H∧n=0) 0 ⟨rfl,rfl,rfl⟩ ?_
  rintro n σ H' ⟨rfl,rfl,rfl⟩
  rwa [hp,hq,hac,hao,A1,A2]
  refine qbU (fun c=>by rw [List.length_map] at c;exfalso;omega) (fun _=>?_)
  unfold qes
  rwa []
  refine ⟨[[]],hS,by decide,(fun r hr=>by rw [List.mem_singleton.mp hr];exact ⟨by decide,.inl rfl⟩),fun t rows H1 s1 hSD sh _=>k t H1 s1 ?_⟩
  obtain ⟨g,_,e⟩:=sh
  have l1:rows.length=1:=by have:=congrArg List.length e;simpa using this.symm
  obtain ⟨r,rfl⟩:∃ r,rows=[r]:=List.length_eq_one_iff.mp l1
  have e:[]=r.map (g*·):=List.head_eq_of_cons_eq e
  rw [List.map_eq_nil_iff.mp e.symm] at hSD
  exact hSD
theorem qky {a:List Int} (h:Tz a) (ne:a≠[]):Lz a:=by
  refine ⟨List.length_pos_iff.mpr ne,?_⟩
  rcases h with e | e
  · exact absurd e ne
  · exact e
theorem qgG (h:qa4 K vs H Q E):qc8 K { nx:=fun _ H'=>Q .non H',rt:=Q } (L2.start ["strand", "other", "rest"] vs) H:=by
  obtain ⟨p,q,s,o,rfl,hS,hO,em,k⟩:=h
  unfold qc8
  rwa []
  refine while_by (fun n σ H'=>(σ=[some (.ref p),some (.ref q),none]∧H'=H∧n=1)∨∃ (t:Addr) (u:Option V),σ=[some (.ref q),some (.ref t),u]∧Same H H'∧SD H' t [[]]∧o≠[]∧n=0) 1 (.inl ⟨rfl,rfl,rfl⟩) ?_
  rintro n σ H' (⟨rfl,rfl,rfl⟩ | ⟨t,u,rfl,sH,hT,o0,rfl⟩)
  · obtain ⟨ao,xo,hq,hao,_⟩:=hO.head
    have A2:atI (V.ref ao::xo) 0=some (V.ref ao):=qeF _ _
    rwa [hq,hao,A2]
    by_cases oe:o=[]
    · refine qbU (fun c=>absurd oe (by simpa using c)) (fun _=>?_)
      rw [if_pos oe] at k
      exact k p _ (Same.refl _) hS
    · refine qbU (fun _=>?_) (fun c=>absurd (by simpa using c) oe)
      have se:s=[]:=by
        rcases em with z | z
        · exact z
        · exact absurd z oe
      rw [if_neg oe] at k
      refine ⟨fun σ' H''=>∃ m',m'<1∧_,fun _ _ h=>h,?_⟩
      rwa [hq,hao,A2]
      refine qbU (fun _=>k q _ (Same.refl _) hO) (fun _=>?_)
      refine ⟨by rw [← se];exact hS,o,hO,List.length_pos_iff.mpr oe,fun t H1 s1 hT=>?_⟩
      exact ⟨0,by decide,.inr ⟨s1,hT,oe,rfl⟩⟩
  · obtain ⟨at',xt,ht,hat,_⟩:=hT.head
    have A2:atI (V.ref at'::xt) 0=some (V.ref at'):=qeF _ _
    rwa [ht,hat,A2]
    refine qbU (fun c=>absurd c (by simp)) (fun _=>?_)
    rw [if_neg o0] at k
    exact k q _ sH (hO.tp sH)
theorem qlq {b n c:Nat} {r a g:List Int} (hr:∀ z∈r,Bd b z) (rl:r.length≤n) (hn:n<2 ^ c) (lg:Lz g) (h:∀ k,co r k=cvL a (co g) k):∀ k,Bd (b+n*(2*c+4)) (co a k):=by
  rcases qh7 a with z | ⟨a',la,_,ea⟩
  · intro k;rw [z k];exact qch _
  have h':∀ k,co r k=cvL g (co a') k:=fun k=>by rw [h k,qbC,qan (fun k=>(ea k).symm) g k]
  have t:co r (a'.length - 1+(g.length - 1))≠0:=by rw [h',qbC,qfI la lg];exact Int.mul_ne_zero la.2 lg.2
  have al:a'.length≤r.length:=by
    rcases Nat.lt_or_ge (a'.length - 1+(g.length - 1)) r.length with c | c
    · have:=la.1;omega
    · exact absurd (qaE c) t
  intro k
  rw [← ea k]
  exact qge hr ⟨_,t⟩ rl (Nat.le_trans al rl) hn h' k
theorem qrY {G S:List Int} (lG:Lz G) (h:∀ k,cvL S (co G) k=0) (k:Nat):co S k=0:=(qoZ lG (T:=0) fun k _=>h k).1 k (Nat.zero_le k)
theorem Gen.Prim {r o:Nat→Int} {g:List Int} (G:Gen r o g):Prim g:=fun c hc=>by
  rcases Nat.lt_or_ge c.natAbs 2 with h | h
  · rcases Nat.eq_zero_or_pos c.natAbs with z | z
    · exfalso
      have c0:c=0:=by omega
      have:=hc (g.length - 1)
      rw [c0] at this
      exact G.lz.2 (Int.zero_dvd.mp this)
    · omega
  · exfalso
    obtain ⟨n,hn,_⟩:=G.prim h
    exact hn (Int.natAbs_dvd.mpr (hc n))
theorem qrZ {R O A B G:List Int} (lG:Lz G) (hA:∀ k,co R k=cvL A (co G) k) (hB:∀ k,co O k=cvL B (co G) k) (q:QI (co R) (co O) (co G)):QI (co A) (co B) qhi:=by
  obtain ⟨d,d0,U,V,h⟩:=q
  refine ⟨d,d0,U,V,fun k=>?_⟩
  have z:=qrY (S:=qbd (qbd (qaX U A) (qaX V B)) [-d]) lG (fun k=>by
    rw [qaA,qaA,qaw,qaw,← qan hA,← qan hB]
    have:=h k
    have e:cvL [-d] (co G) k = -d*co G k:=by
      cases k with
      | zero=>rw [qaB];omega
      | succ k=>rw [qay,qaP];omega
    rw [e,Int.neg_mul,this];omega) k
  rw [qcq,qaA,qaA,qaw,qaw,← qan (qcq A),← qan (qcq B)] at z
  have e:cvL [-d] qhi k = -d*qhi k:=by
    cases k with
    | zero=>rw [qaB];omega
    | succ k=>rw [qay,qaP];omega
  rw [e,Int.neg_mul] at z
  omega
theorem qqg (p:Nat) (p0:0<p) (S:List Int):(∀ k,(p:Int)∣co S k)∨∃ T,Lz T∧(∀ k,(p:Int)∣co S k - co T k)∧¬ (p:Int)∣co T (T.length - 1):=by
  have cm:∀ k,co (S.map (· % (p:Int))) k=co S k % (p:Int):=fun k=>qkw (F:=(· % (p:Int))) (Int.zero_emod _) S k
  rcases qh7 (S.map (· % (p:Int))) with z | ⟨T,lT,_,eT⟩
  · exact .inl fun k=>Int.dvd_of_emod_eq_zero (by rw [← cm k];exact z k)
  · refine .inr ⟨T,lT,fun k=>?_,fun h=>?_⟩
    · rw [eT,cm]
      exact ⟨co S k / p,by have:=Int.emod_add_mul_ediv (co S k) p;omega⟩
    · have h1:=eT (T.length - 1)
      rw [cm] at h1
      have b1:=Int.emod_nonneg (co S (T.length - 1)) (show (p:Int)≠0 by omega)
      have b2:=Int.emod_lt_of_pos (co S (T.length - 1)) (show (0:Int)<p by omega)
      have:=lT.2
      have l:=Int.le_of_dvd (by omega) h
      omega
theorem cvT {p:Int} {S T:List Int} {g:Nat→Int} {n:Nat} (hg:∀ i,n≤i→g i=0) (h:∀ k,p∣co S k - co T k) (k:Nat):p∣cvL S g k - cvL T g k:=by
  have e:∀ k,g k=co ((List.range n).map g) k:=fun k=>by
    rw [qgP];split
    · rfl
    · exact hg k (by omega)
  rw [qan e,qan e,qbC,qbC T]
  have:=cvD (S:=[1]) (f:=co S) (g:=co T) (fun k=>by
    have e1:cvL [1] (co T) k=co T k:=by
      cases k with
      | zero=>rw [qaB];omega
      | succ k=>rw [qay,qaP];omega
    rw [e1];exact h k) ((List.range n).map g) k
  rwa [qan (b:=cvL [1] (co T)) (c:=co T) (fun k=>by
    cases k with
    | zero=>rw [qaB];omega
    | succ k=>rw [qay,qaP];omega)] at this
theorem qo2 {p:Nat} (hp:Pr p) {R A G rs T:List Int} (hA:∀ k,co R k=cvL A (co G) k) (lG:Lz G) (pG:¬ (p:Int)∣co G (G.length - 1)) (hT:∀ k,(p:Int)∣co rs k - cvL T (co G) k) (d:Dm (p:Int) (co rs) (co R)):Dm (p:Int) (co T) (co A):=by
  obtain ⟨X,hX⟩:=d
  refine ⟨X,fun k=>?_⟩
  have z:=qfm hp pG (fun i hi=>by rw [qaE (by omega)];exact Int.dvd_zero _) (qbd A ((qaX X T).map ((-1)*·))) (fun k _=>by
    rw [qaA,qaq,qaw,← hA]
    have h1:=hX k
    have h2:=cvD hT X k
    have:=Int.dvd_add h1 h2
    refine Int.dvd_trans this (qqc ?_)
    omega)
  have e:co A k - cvL X (co T) k=co (qbd A ((qaX X T).map ((-1)*·))) k:=by
    rw [qcq (qbd A _),qaA,qaq,qaw,← qcq,← qan (qcq T)];omega
  rw [e]
  exact qmr z k
theorem qr0 {x e c n p N:Nat} (hx:x<2 ^ (c+1)) (hN:N≤2*(n - 1)) (big:2 ^ ((e+c+2)*(2*(n - 1)))<p):(2*(x*2 ^ e)) ^ N<p:=by
  have h1:2*(x*2 ^ e)≤2 ^ (e+c+2):=by
    have:x*2 ^ e≤2 ^ (c+1)*2 ^ e:=Nat.mul_le_mul_right _ (Nat.le_of_lt hx)
    have e2:2 ^ (e+c+2)=2*(2 ^ (c+1)*2 ^ e):=by rw [← Nat.pow_add,show e+c+2=(c+1+e)+1 by omega,Nat.pow_succ];omega
    omega
  refine Nat.lt_of_le_of_lt ?_ big
  rw [Nat.pow_mul]
  exact Nat.le_trans (Nat.pow_le_pow_left h1 N) (Nat.pow_le_pow_right (Nat.pow_pos (by decide)) hN)
theorem qlr {ns ms rs gs G:List Int} {p d n c e:Nat} {lead:Int} (hp:Pr p) (ln:Lz ns) (lm:Lz ms) (bn:∀ z∈ns,Bd d z) (bm:∀ z∈ms,Bd d z) (nn:ns.length≤n) (mn:ms.length≤n) (hc:n<2 ^ c) (n2:2≤n) (he:e=d+n*(2*c+4)) (big:2 ^ ((e+c+2)*(2*(n - 1)))<p)
    (hld:((Int.gcd (co ns (ns.length - 1)) (co ms (ms.length - 1)):Nat):Int)=lead) (hG:Gen (co ns) (co ms) G) (r0:0<rs.length) (one:co rs (rs.length - 1)=1) (glen:G.length≤rs.length) (pG:¬ (p:Int)∣co G (G.length - 1)) (dG:Dm (p:Int) (co G) (co rs)) (dn:Dm (p:Int) (co rs) (co ns)) (dm:Dm (p:Int) (co rs) (co ms))
    (gl:gs.length=rs.length) (hg:∀ k,k<rs.length→(p:Int)∣co gs k - lead*co rs k) (hb:∀ z∈gs,2*z.natAbs≤p):MQ (co gs) (co ns)∧MQ (co gs) (co ms):=by
  have p2:=hp.two
  have P:=hG.Prim
  have lG:=hG.lz
  obtain ⟨A,hA⟩:=gauss P hG.rc.left
  obtain ⟨B,hB⟩:=gauss P hG.rc.right
  have bA:=qlq bn nn hc lG hA
  have bB:=qlq bm mn hc lG hB
  have bG:∀ k,Bd e (co G k):=by
    rw [he]
    exact qge bn ⟨_,ln.2⟩ nn (Nat.le_trans (qku lG ln hG.rc.left) nn) hc hA
  rw [← he] at bA bB
  have n0:1≤n:=by have:=ln.1;omega
  have cop:=qrZ lG hA hB hG.qi
  obtain ⟨S,hS⟩:=dG
  have p0:0<p:=by omega
  have one':¬ (p:Int)∣(1:Int):=fun z=>by have:=Int.le_of_dvd (by decide) z;omega
  rcases qqg p p0 S with z | ⟨T,lT,hT,pT⟩
  · exfalso
    have h1:=hS (rs.length - 1)
    have h2:=cvT (p:=(p:Int)) (S:=S) (T:=[]) (g:=co G) (n:=G.length) (fun i hi=>qaE hi) (fun k=>by rw [qaE (a:=[]) (Nat.zero_le _),Int.sub_zero];exact z k) (rs.length - 1)
    rw [one] at h1
    rw [qaP,Int.sub_zero] at h2
    have:=Int.dvd_add h1 h2
    rw [Int.sub_add_cancel] at this
    exact one' this
  have hTr:∀ k,(p:Int)∣co rs k - cvL T (co G) k:=fun k=>by
    have:=Int.dvd_add (hS k) (cvT (fun i hi=>qaE hi) hT k (g:=co G) (n:=G.length))
    refine Int.dvd_trans this (qqc ?_)
    omega
  have t0:=lT.1
  have g0:=lG.1
  have tl:T.length+G.length=rs.length+1:=by
    have tp:=qfI lT lG
    have np:¬ (p:Int)∣co T (T.length - 1)*co G (G.length - 1):=fun z=>by
      rcases hp.mulI z with q | q
      · exact pT q
      · exact pG q
    have h1:=hTr (T.length - 1+(G.length - 1))
    rw [tp] at h1
    have c1:T.length - 1+(G.length - 1)<rs.length:=by
      rcases Nat.lt_or_ge (T.length - 1+(G.length - 1)) rs.length with c | c
      · exact c
      · exfalso
        rw [qaE c,Int.zero_sub] at h1
        exact np (Int.dvd_neg.mp h1)
    have h2:=hTr (rs.length - 1)
    rw [one] at h2
    rcases Nat.lt_or_ge (T.length - 1+(G.length - 1)) (rs.length - 1) with c | c
    · exfalso
      rw [qcm (n:=G.length) (fun i hi=>qaE hi) T _ (by omega),Int.sub_zero] at h2
      exact one' h2
    · omega
  have dTA:=qo2 hp hA lG pG hTr dn
  have dTB:=qo2 hp hB lG pG hTr dm
  have trimmed:∀ {R A:List Int},Lz R→R.length≤n→(∀ k,co R k=cvL A (co G) k)→(∀ k,Bd e (co A k))→∃ A',Lz A'∧A'.length≤n∧co A'=co A:=fun {R A} lR Rn h _=>by
    rcases qh7 A with z | ⟨A',la,_,ea⟩
    · exact absurd (by rw [h,qbC,qcp G z]) lR.2
    · refine ⟨A',la,?_,funext ea⟩
      have t:co R (A'.length - 1+(G.length - 1))≠0:=by
        rw [h,qbC,qan (fun k=>(ea k).symm) G,← qbC,qfI la lG];exact Int.mul_ne_zero la.2 lG.2
      rcases Nat.lt_or_ge (A'.length - 1+(G.length - 1)) R.length with c | c
      · have:=la.1;omega
      · exact absurd (qaE c) t
  obtain ⟨A',lA,An,eA⟩:=trimmed ln nn hA bA
  obtain ⟨B',lB,Bn,eB⟩:=trimmed lm mn hB bB
  have big1:2 ^ e<p:=Nat.lt_of_le_of_lt (Nat.pow_le_pow_right (by decide) (by
    have:(e+c+2)*1≤(e+c+2)*(2*(n - 1)):=Nat.mul_le_mul_left _ (by omega)
    omega)) big
  have T1:T.length=1:=by
    rcases Nat.lt_or_ge T.length 2 with cT | cT
    · omega
    · exfalso
      have short:∀ {A:List Int},Lz A→(∀ k,Bd e (co A k))→Dm (p:Int) (co T) (co A)→2≤A.length:=fun {A} lA bA dA=>by
        have:=Dm.len hp t0 pT dA ⟨A.length - 1,fun z=>by
          have h1:=bA (A.length - 1)
          have h2:=Int.natAbs_dvd_natAbs.mpr z
          have h3:=Nat.le_of_dvd (by have:=lA.2;omega) h2
          rw [Int.natAbs_natCast] at h3
          have:(co A (A.length - 1)).natAbs<2 ^ e:=h1
          omega⟩
        omega
      have a2:=short lA (fun k=>by rw [eA];exact bA k) (by rw [eA];exact dTA)
      have b2:=short lB (fun k=>by rw [eB];exact bB k) (by rw [eB];exact dTB)
      refine lucky hp lA lB (by rw [eA,eB];exact cop) (fun k=>by rw [eA];exact bA k) (fun k=>by rw [eB];exact bB k) a2 b2 cT pT (by rw [eA];exact dTA) (by rw [eB];exact dTB) (qr0 (x:=A'.length+B'.length) (c:=c) (n:=n) ?_ (by omega) big)
      rw [Nat.pow_succ];omega
  obtain ⟨s,rfl⟩:∃ s,T=[s]:=by
    match T,T1 with
    | [s],_=>exact ⟨s,rfl⟩
  have hrs:∀ k,(p:Int)∣co rs k - s*co G k:=fun k=>by
    have:=hTr k
    have e1:cvL [s] (co G) k=s*co G k:=by
      cases k with
      | zero=>rw [qaB];omega
      | succ k=>rw [qay,qaP];omega
    rwa [e1] at this
  have lr:G.length=rs.length:=by simp at tl;omega
  have lcd:∀ {R A:List Int},(∀ k,co R k=cvL A (co G) k)→Lz R→co G (G.length - 1)∣co R (R.length - 1):=fun {R A} h lR=>by
    rcases qh7 A with z | ⟨A',la,_,ea⟩
    · exact absurd (by rw [h,qbC,qcp G z]) lR.2
    · have hh:∀ k,co R k=cvL A' (co G) k:=fun k=>by rw [h,qbC,qan (fun k=>(ea k).symm) G,← qbC]
      have tp:=qfI la lG
      have a0:=la.1
      have rl:R.length - 1=A'.length - 1+(G.length - 1):=by
        rcases Nat.lt_trichotomy (R.length - 1) (A'.length - 1+(G.length - 1)) with c | c | c
        · exfalso
          have:=hh (A'.length - 1+(G.length - 1))
          rw [qaE (by have:=lR.1;omega),tp] at this
          exact Int.mul_ne_zero la.2 lG.2 this.symm
        · exact c
        · exfalso
          have:=hh (R.length - 1)
          rw [qcm (n:=G.length) (fun i hi=>qaE hi) A' _ (by omega)] at this
          exact lR.2 this
      rw [rl,hh,tp]
      exact Int.dvd_mul_left _ _
  obtain ⟨t,ht⟩:co G (G.length - 1)∣lead:=by rw [← hld];exact Int.dvd_coe_gcd (lcd hA ln) (lcd hB lm)
  have lead0:lead≠0:=fun z=>by
    rw [← hld] at z
    have:Int.gcd (co ns (ns.length - 1)) (co ms (ms.length - 1))=0:=by omega
    exact ln.2 (Int.gcd_eq_zero_iff.mp this).1
  have t0':t≠0:=fun z=>lead0 (by rw [ht,z,Int.mul_zero])
  have bt:t.natAbs<2 ^ d:=by
    have h1:lead∣co ns (ns.length - 1):=by rw [← hld];exact Int.gcd_dvd_left ..
    have h2:=Int.dvd_trans (show t∣lead from ⟨co G (G.length - 1),by rw [ht,Int.mul_comm]⟩) h1
    have h3:=Nat.le_of_dvd (by have:=ln.2;omega) (Int.natAbs_dvd_natAbs.mpr h2)
    have h4:(co ns (ns.length - 1)).natAbs<2 ^ d:=qca bn _
    omega
  have egs:∀ k,co gs k=t*co G k:=fun k=>by
    rcases Nat.lt_or_ge k rs.length with ck | ck
    · have h1:=hg k ck
      have h2:=hrs k
      have h3:=hrs (rs.length - 1)
      rw [one,← lr] at h3
      have dv:(p:Int)∣co gs k - t*co G k:=by
        have q1:(p:Int)∣lead*(co rs k - s*co G k):=Int.dvd_mul_of_dvd_right h2
        have q2:(p:Int)∣(t*co G k)*(1 - s*co G (G.length - 1)):=Int.dvd_mul_of_dvd_right h3
        have:=Int.dvd_sub (Int.dvd_add h1 q1) q2
        refine Int.dvd_trans this (qqc ?_)
        rw [ht]
        grind
      have b1:2*(co gs k).natAbs≤p:=by
        have:co gs k∈gs:=by
          unfold co
          rw [List.getD_eq_getElem?_getD,List.getElem?_eq_getElem (by omega)]
          exact List.getElem_mem _
        exact hb _ this
      have b2:2*(t*co G k).natAbs<p:=by
        rw [Int.natAbs_mul]
        have h5:t.natAbs*(co G k).natAbs≤2 ^ d*2 ^ e:=Nat.mul_le_mul (Nat.le_of_lt bt) (Nat.le_of_lt (bG k))
        have h6:2*(2 ^ d*2 ^ e)≤2 ^ ((e+c+2)*(2*(n - 1))):=by
          rw [← Nat.pow_add,show 2*2 ^ (d+e)=2 ^ (d+e+1) by rw [Nat.pow_succ];omega]
          refine Nat.pow_le_pow_right (by decide) ?_
          have:(e+c+2)*2≤(e+c+2)*(2*(n - 1)):=Nat.mul_le_mul_left _ (by omega)
          omega
        omega
      obtain ⟨y,hy⟩:=dv
      have ab:(co gs k - t*co G k).natAbs<p:=by omega
      rcases Int.lt_trichotomy y 0 with z | z | z
      · have:(p:Int)*y≤(p:Int)*(-1):=Int.mul_le_mul_of_nonneg_left (by omega) (by omega)
        omega
      · rw [z] at hy;omega
      · have:(p:Int)*1≤(p:Int)*y:=Int.mul_le_mul_of_nonneg_left (by omega) (by omega)
        omega
    · rw [qaE (by omega),qaE (a:=G) (by omega)];omega
  have fin:∀ {R A:List Int},(∀ k,co R k=cvL A (co G) k)→MQ (co gs) (co R):=fun {R A} h=>⟨t,t0',A,fun k=>by rw [qan egs,qbk,h k]⟩
  exact ⟨fin hA,fin hB⟩
theorem qmx {g f:List Int} {A:List Int} (h:∀ k,co f k=cvL A (co g) k):MQ (co g) (co f):=⟨1,by decide,A,fun k=>by rw [← h k];omega⟩
theorem qfK (h:qa0 K vs H Q E):qcl K { nx:=fun _ H'=>Q .non H',rt:=Q } (L2.start ["row", "other", "prime", "lead", "found", "guess"] vs) H:=by
  obtain ⟨a,b,ns,ms,p,d,nn,cc,rfl,ha,hb,pp,bp,ln,lm,bn,bm,dn,dm,nn1,nn2,nc,nn0,kN,kR⟩:=h
  have p2:(2:Int)≤(p:Int):=by have:=pp.two;omega
  unfold qcl
  have an:=qex ln.1
  have am:=qex lm.1
  rwa [ha,hb,an,am]
  generalize hld:((Int.gcd (co ns (ns.length - 1)) (co ms (ms.length - 1)):Nat):Int)=lead
  have ld1:lead∣co ns (ns.length - 1):=by rw [← hld];exact Int.gcd_dvd_left ..
  have bl:Bd d lead:=(qca bn (ns.length - 1)).le (qt4 ln.2 ld1)
  refine ⟨by omega,qbU (fun c=>?_) (fun c=>?_)⟩
  · refine kN (fun bg=>?_) _ (Same.refl H)
    have bl':lead.natAbs<2 ^ d:=bl
    have z:=Int.dvd_of_emod_eq_zero (show lead % (p:Int)=0 by simpa using c)
    have l0:lead≠0:=fun z=>by
      rw [← hld] at z
      have:Int.gcd (co ns (ns.length - 1)) (co ms (ms.length - 1))=0:=by omega
      exact ln.2 (Int.gcd_eq_zero_iff.mp this).1
    have h3:=Nat.le_of_dvd (by omega) (Int.natAbs_dvd_natAbs.mpr z)
    rw [Int.natAbs_natCast] at h3
    have:2 ^ d≤2 ^ ((d+nn*(2*cc+4)+cc+2)*(2*(nn - 1))):=by
      refine Nat.pow_le_pow_right (by decide) ?_
      have:(d+nn*(2*cc+4)+cc+2)*1≤(d+nn*(2*cc+4)+cc+2)*(2*(nn - 1)):=Nat.mul_le_mul_left _ (by omega)
      omega
    have bg:2 ^ ((d+nn*(2*cc+4)+cc+2)*(2*(nn - 1)))<p:=bg
    omega
  have pl:¬ (p:Int)∣lead:=fun z=>c (by rw [Int.emod_eq_zero_of_dvd z])
  have hnl:¬ (p:Int)∣co ns (ns.length - 1)∨¬ (p:Int)∣co ms (ms.length - 1):=by
    by_cases h1:(p:Int)∣co ns (ns.length - 1)
    · right
      intro h2
      exact pl (by rw [← hld];exact Int.dvd_coe_gcd h1 h2)
    · exact .inl h1
  refine ⟨ns,ms,p,rfl,rfl,rfl,pp,bp,by omega,by omega,?_,fun s rs H1 s1 hs r0 rl one br hD dvn dvm=>?_⟩
  · rcases hnl with h | h
    · exact .inl ⟨_,h⟩
    · exact .inr ⟨_,h⟩
  refine ⟨⟨_,SqL.of hs⟩,CompJ.lst (xs:=rs.map V.int) (fun i ys H'=>i≤rs.length∧H'=H1∧∃ gs:List Int,ys=gs.map V.int∧gs.length=i∧(∀ k,k<i→(p:Int)∣co gs k - lead*co rs k)∧∀ z∈gs,Bd 45000 z∧2*z.natAbs≤p) ⟨Nat.zero_le _,rfl,[],rfl,rfl,fun k hk=>absurd hk (by omega),fun z hz=>nomatch hz⟩ ?_ ?_ ?_⟩
  · rintro i ys H' ⟨h1,rfl,gs,rfl,gl,_⟩
    exact ⟨by rw [List.length_map];exact h1,sz (by rw [List.length_map];omega),SqL.of hs⟩
  · rintro i x ys H' hi ⟨h1,rfl,gs,rfl,gl,hg,bg⟩
    rw [List.getElem?_map] at hi
    cases e:rs[i]? with
    | none=>rw [e] at hi;cases hi
    | some n=>
      rw [e] at hi
      obtain rfl:V.int n=x:=Option.some.inj hi
      have hi2:i<rs.length:=(List.getElem?_eq_some_iff.mp e).1
      have bnn:=br n (List.mem_of_getElem? e)
      have cn:co rs i=n:=by unfold co;rw [List.getD_eq_getElem?_getD,e];rfl
      rwa []
      refine ⟨qnu bl (bp.le (x:=(p:Int)) (y:=n) (by omega)),by omega,fun r hr1 hr2=>⟨by omega,gs++[r],by simp,by simp;omega,fun k hk=>?_,fun z hz=>?_⟩⟩
      · by_cases ek:k=i
        · subst ek
          have:co (gs++[r]) k=r:=by unfold co;rw [List.getD_eq_getElem?_getD,← gl];simp
          rw [this,cn];exact hr1
        · have:co (gs++[r]) k=co gs k:=by unfold co;rw [List.getD_eq_getElem?_getD,List.getD_eq_getElem?_getD,List.getElem?_append_left (by omega)]
          rw [this];exact hg k (by omega)
      · rcases List.mem_append.mp hz with z1 | z1
        · exact bg z z1
        · rw [List.mem_singleton.mp z1];exact ⟨bp.le (by omega),by rw [Int.natAbs_natCast] at hr2;exact hr2⟩
  · rintro ys H' ⟨_,rfl,gs,rfl,gl,hg,bg⟩ t ht
    rw [List.length_map] at gl hg
    have st:=qag ht (HO.lst (gs.map V.int))
    have htt:upd H' t (HO.lst (gs.map V.int)) t=_:=qai
    generalize upd H' t (HO.lst (gs.map V.int))=H2 at st htt ⊢
    have gl0:0<gs.length:=by omega
    have glast:co gs (gs.length - 1)≠0:=fun z=>by
      have:=hg (gs.length - 1) (by omega)
      rw [z,show gs.length - 1=rs.length - 1 by omega,one] at this
      exact pl (by have t2:=Int.dvd_neg.mpr this;rw [show -(0 - lead*1)=lead by omega] at t2;exact t2)
    rwa [htt]
    refine ⟨gs,rfl,by omega,.inr glast,fun u gu g H3 s3 hu g0 eg hp=>?_⟩
    have Pg:Prim gu:=by
      rcases hp with h | h
      · rw [h] at gl0;simp at gl0
      · exact h
    have lgu:gu.length=gs.length:=by rw [eg,List.length_map]
    have lzg:Lz gu:=qky (qlo (Int.ne_of_gt g0) (by rw [← eg];exact .inr glast)) (fun z=>by rw [z] at lgu;simp at lgu;omega)
    have bgu:∀ z∈gu,Bd 45000 z:=qlp g0 (by rw [← eg];exact fun z hz=>(bg z hz).1)
    have s13:Same H H3:=(s1.trans st).trans s3
    have ha3:=s13 _ _ ha
    have hb3:=s13 _ _ hb
    obtain ⟨G,hG⟩:=qtd ln (QI.left (co ns) (co ms))
    have mn:=hG.mq _ ns (Nat.le_refl _) (QI.left _ _)
    have mm:=hG.mq _ ms (Nat.le_refl _) (QI.right _ _)
    have lead':¬ (p:Int)∣co G (G.length - 1):=by
      rcases hnl with h | h
      · exact hG.lead pp ln mn h
      · exact hG.lead pp lm mm h
    have dG:=hD (co G) (hG.dm pp mn) (hG.dm pp mm)
    have glen:G.length≤rs.length:=Dm.len pp hG.lz.1 lead' dG ⟨rs.length - 1,by
      rw [one]
      intro z
      have:=Int.le_of_dvd (by decide) z
      omega⟩
    have tells:quo d nn cc p→(∃ A:List Int,∀ k,co ns k=cvL A (co gu) k)∧∃ A:List Int,∀ k,co ms k=cvL A (co gu) k:=fun bp'=>by
      obtain ⟨q1,q2⟩:=qlr pp ln lm bn bm nn1 nn2 nc nn0 rfl bp' hld hG r0 one glen lead' dG dvn dvm gl hg (fun z hz=>(bg z hz).2)
      have sc:∀ k,co gs k=g*co gu k:=fun k=>by rw [eg,qjB]
      have mg:MQ (co gu) (co gs):=⟨1,by decide,[g],fun k=>by
        have e:cvL [g] (co gu) k=g*co gu k:=by
          cases k with
          | zero=>rw [qaB];omega
          | succ k=>rw [qay,qaP];omega
        rw [e,sc];omega⟩
      exact ⟨gauss Pg (mg.trans q1),gauss Pg (mg.trans q2)⟩
    rwa [ha3,hu]
    refine ⟨ns,rfl,gu,rfl,lzg,d,bn,45000,bgu,by omega,by decide,by omega,by omega,fun no=>kN (fun bg=>no (tells bg).1) |> fun f H4 s4=>f H4 (s13.trans s4),fun r qs H4 s4 hr hq=>?_⟩
    have hb4:=s4 _ _ hb3
    have hu4:=s4 _ _ hu
    rwa [hb4,hu4]
    refine ⟨ms,rfl,gu,rfl,lzg,d,bm,45000,bgu,by omega,by decide,by omega,by omega,fun no=>kN (fun bg=>no (tells bg).2) |> fun f H5 s5=>f H5 ((s13.trans s4).trans s5),fun r2 qs2 H5 s5 hr2 hq2=>?_⟩
    exact kR u gu H5 ((s13.trans s4).trans s5) (s5 _ _ hu4) (qoI hG.rc lzg (qmx hq) (qmx hq2) (by omega)) Pg
noncomputable def exps:List Nat:=[61,127,521,1279,4423,9941,21701,44497]
noncomputable def quI (K:W.Frag):Prop:=∀ H:Hp,SqT K H (qci K) (exps.map fun e:Nat=>V.int (e:Int))
theorem qr1:∀ e∈exps,Pr (mers e)∧e≤44497:=by
  intro e he
  have h:e=61∨e=127∨e=521∨e=1279∨e=4423∨e=9941∨e=21701∨e=44497:=by simpa [exps] using he
  rcases h with h | h | h | h | h | h | h | h <;> rw [h]
  · exact ⟨quF,by decide⟩
  · exact ⟨qtW,by decide⟩
  · exact ⟨qtX,by decide⟩
  · exact ⟨qta,by decide⟩
  · exact ⟨qtb,by decide⟩
  · exact ⟨qtc,by decide⟩
  · exact ⟨qrJ,by decide⟩
  · exact ⟨qrK,by decide⟩
theorem qqh (e:Nat):(2:Int) ^ (e:Int).toNat - 1=((mers e:Nat):Int):=by
  unfold mers
  have:=Nat.one_le_two_pow (n:=e)
  rw [Int.natCast_sub this,Int.toNat_natCast,Int.natCast_pow]
  rfl
theorem qr2 {e:Nat} (h:e≤44497):Bd 45000 ((mers e:Nat):Int):=by
  unfold Bd mers
  rw [Int.natAbs_natCast]
  have h1:=Nat.one_le_two_pow (n:=e)
  have h2:=Nat.pow_le_pow_right (n:=2) (by decide) (show e≤45000 by omega)
  omega
theorem qls {ns ms one two rs:List Int} {g h:Int} (g0:g≠0) (h0:h≠0) (e1:ns=one.map (g*·)) (e2:ms=two.map (h*·)) (R:RC (co one) (co two) rs):RC (co ns) (co ms) rs:=by
  have c1:∀ k,co ns k=g*co one k:=fun k=>by rw [e1,qjB]
  have c2:∀ k,co ms k=h*co two k:=fun k=>by rw [e2,qjB]
  refine ⟨R.lz,?_,?_,?_⟩
  · obtain ⟨c,c0,A,hA⟩:=R.left
    exact ⟨c,c0,A.map (g*·),fun k=>by rw [qaq,← hA k,c1 k];grind⟩
  · obtain ⟨c,c0,A,hA⟩:=R.right
    exact ⟨c,c0,A.map (h*·),fun k=>by rw [qaq,← hA k,c2 k];grind⟩
  · obtain ⟨d,d0,U,W,hU⟩:=R.qi
    refine ⟨g*h*d,Int.mul_ne_zero (Int.mul_ne_zero g0 h0) d0,U.map (h*·),W.map (g*·),fun k=>?_⟩
    rw [qaq,qaq,qan c1 U k,qan c2 W k,qbk,qbk]
    have:=hU k
    grind
theorem qjC {K:W.Frag} (hK:quI K) {vs:List V} {H:Hp} {Q:VK} {E:XK} (h:qbA K vs H Q E):qeu K { nx:=fun _ H'=>Q .non H',rt:=Q } (L2.start ["row", "other", "one", "two", "exponent", "found"] vs) H:=by
  obtain ⟨a,b,ns,ms,d,nn,cc,rfl,ha,hb,tn,tm,bn,bm,nN,mN,N18,n2',nc,sm,hbd0,k⟩:=h
  have d9:d≤44490:=by
    have:(d+nn*(2*cc+4)+cc+2)*1≤(d+nn*(2*cc+4)+cc+2)*(2*(nn - 1)):=Nat.mul_le_mul_left _ (by omega)
    omega
  unfold qeu
  rwa [ha]
  refine ⟨ns,rfl,by omega,tn,fun a1 one g1 H1 s1 h1 g10 e1 p1=>?_⟩
  have hb1:=s1 _ _ hb
  rwa [hb1]
  refine ⟨ms,rfl,by omega,tm,fun a2 two g2 H2 s2 h2 g20 e2 p2=>?_⟩
  have s02:=s1.trans s2
  have ha2:=s02 _ _ ha
  have hb2:=s02 _ _ hb
  have h12:=s2 _ _ h1
  have l1:ns.length=one.length:=by rw [e1,List.length_map]
  have l2:ms.length=two.length:=by rw [e2,List.length_map]
  have t1:Tz one:=qlo (Int.ne_of_gt g10) (by rw [← e1];exact tn)
  have t2:Tz two:=qlo (Int.ne_of_gt g20) (by rw [← e2];exact tm)
  have b1:∀ z∈one,Bd d z:=qlp g10 (by rw [← e1];exact bn)
  have b2:∀ z∈two,Bd d z:=qlp g20 (by rw [← e2];exact bm)
  have n1:one=[]↔ns=[]:=by rw [← List.length_eq_zero_iff,← List.length_eq_zero_iff,l1]
  have n2:two=[]↔ms=[]:=by rw [← List.length_eq_zero_iff,← List.length_eq_zero_iff,l2]
  have last:(ns=[]∨ms=[])→∀ (H3:Hp) (u v:Option V),Same H2 H3→(qbw (tOp gL (qar (qa4 K) [] E0 (qab (qh5 (qab (qaf 2) qao)) (qab (qh5 (qab (qaf 3) qao)) qao))) (tC (.int 0)))) { nx:=fun _ H'=>Q .non H',rt:=Q } [some (.ref a),some (.ref b),some (.ref a1),some (.ref a2),u,v] H3:=fun em H3 u v s3=>by
    have h13:=s3 _ _ h12
    have h23:=s3 _ _ h2
    rwa []
    refine ⟨sz (by decide),fun x hx=>?_⟩
    have sx:=qag hx (HO.lst [V.ref a1])
    refine ⟨sz (by decide),fun y hy=>?_⟩
    have sy:=qag hy (HO.lst [V.ref a2])
    have hxy:=sy _ _ (show upd H3 x (HO.lst [V.ref a1]) x=_ from qai)
    refine ⟨one,⟨[V.ref a1],hxy,⟨⟨a1,rfl,sy _ _ (sx _ _ h13)⟩,trivial⟩⟩,two,⟨[V.ref a2],qai,⟨⟨a2,rfl,sy _ _ (sx _ _ h23)⟩,trivial⟩⟩,em.imp (fun z=>n1.mpr z) (fun z=>n2.mpr z),fun t H4 s4 hSD=>?_⟩
    obtain ⟨ar,xr,ht,har,_⟩:=hSD.head
    refine ⟨_,ht,_,qeF _ _,?_⟩
    refine k ar _ H4 (s02.trans (s3.trans ((sx.trans sy).trans s4))) har (fun hne=>?_) fun h1 h2=>by rw [if_pos (n2.mpr h2)];exact n1.mpr h1
    have z0:∀ {x:List Int},x=[]→∀ k,co x k=0:=fun e k=>by rw [e];exact qaE (Nat.zero_le _)
    by_cases te:two=[]
    · rw [if_pos te]
      have oe:ns≠[]:=by
        rcases hne with h | h
        · exact h
        · exact absurd (n2.mp te) h
      have l1':Lz one:=qky t1 fun z=>oe (n1.mp z)
      exact ⟨qls (Int.ne_of_gt g10) (Int.ne_of_gt g20) e1 e2 ⟨l1',MQ.refl _,MQ.zero _ (z0 te),QI.left _ _⟩,p1.resolve_left oe⟩
    · rw [if_neg te]
      have oe:one=[]:=n1.mpr (em.resolve_right fun z=>te (n2.mpr z))
      exact ⟨qls (Int.ne_of_gt g10) (Int.ne_of_gt g20) e1 e2 ⟨qky t2 te,MQ.zero _ (z0 oe),MQ.refl _,QI.right _ _⟩,p2.resolve_left fun z=>te (n2.mpr z)⟩
  have l0:=fun em=>last em H2 none none (Same.refl H2)
  simp only [qaH,qaR,qar,qab,qaf,qao,qaj,qpM,L2.start,qd0,tIf,qaS,tB,tOp,rI0,rI,tC,tUn,rU,qbL,qbw,qcW,qh5,qsJ,qmJ,qkW,tCB,qqM,qnz,tOr,qsE,qpL,qug,qsF,rEq,rNe,qgB,qg6,qeK,qdM,qj7,qsS,qjQ,qrs,quk,iLt,iLe,iGt,iGe,qgo,gT,gL,gS,qnt,qrt,qsT,qj8,qg7,qb5,qmS,qul,qn0,qgp,qqO,eqT,qn1,qn2,qqP,qqQ,List.map_cons,List.map_nil,List.length_cons,List.length_nil,List.replicate,List.cons_append,List.nil_append,List.append_nil,List.getElem?_cons_zero,List.getElem?_cons_succ,Option.some.injEq,exists_eq_left',exists_eq_left,V.int.injEq,V.bl.injEq,V.ref.injEq,V.ty.injEq,HO.tup.injEq,HO.lst.injEq,List.cons.injEq,and_true,true_and,and_assoc,exists_and_left,List.set_cons_zero,List.set_cons_succ,decide_eq_true_eq,decide_eq_false_iff_not,Bool.not_eq_true',Bool.true_eq_false,Bool.false_eq_true,Bool.not_true,Bool.not_false,if_true,if_false,ite_true,ite_false,qn3,qn4,ql0,ql1,qis,qit,qiu,qiv,qiw,Nat.zero_add,Nat.reduceAdd,Nat.reduceSub,qai,Int.cast_ofNat_Int,decide_true,decide_false,eq_self,not_true_eq_false,not_false_eq_true,Int.natCast_add,Int.natCast_zero,reduceCtorEq,Nm,qfj,qcB,qlU,qmK,tSl,qea,qjZ,sL,sT,qmZ,qqR,qkd,qgC,qsY,qqN,qtF,qgZ,qiT,qui,tBM,quh,ql3,ql4,qn8,qi5,ql7,qoi,qmb,qn9,qi6,qi9,qog,qpU,qrx,qpV,qtJ,qrw,qhd,qgD,qtT,qs0,qdv,Option.bind_some,Option.bind_none,Option.bind,Option.join,id_eq,sS,qs4,qas,qb8,qbO,qaU,qbe,qbG,qbz,qbq,qaJ,qaL,qa4,qa6,qbh,qa7,qaZ,qbi,qbr,qba,qcj,qa0,qbA,qbP,qcG,qbv,qbm,qck,qc3,qkn,qgr,qe7,qiD,qbH,qbZ,qbI,qc4,qc5,qi9,qi6,qi5,qbt,qkh,qop,qpX,qki,qgC,V.str.injEq,qbQ,qbn,qaM,qcS,qbK,qbs,qdS,qaO,qa1,qbB,qbj,qcs] at l0
  have lne:ns≠[]→ms≠[]→Lz one∧Lz two:=fun h1 h2=>⟨qky t1 fun z=>h1 (n1.mp z),qky t2 fun z=>h2 (n2.mp z)⟩
  refine ⟨_,ha2,qbU (fun c1=>⟨_,hb2,qbU (fun c2=>⟨⟨_,hK H2⟩,?_⟩) (fun c2=>l0 (.inr (by simpa using c2)))⟩) (fun c1=>l0 (.inl (by simpa using c1)))⟩
  obtain ⟨z1,z2⟩:=lne (by simpa using c1) (by simpa using c2)
  refine qnH (xs:=exps.map fun e:Nat=>V.int (e:Int)) (fun i σ H'=>i<8∧∃ u v,σ=[some (.ref a),some (.ref b),some (.ref a1),some (.ref a2),u,v]∧Same H2 H') ⟨by decide,none,none,rfl,Same.refl H2⟩ (fun i σ H' _ _=>hK H') ?_ ?_
  · rintro i x σ H' hi ⟨i8,u,v,rfl,s3⟩
    rw [List.getElem?_map] at hi
    cases e:exps[i]? with
    | none=>rw [e] at hi;cases hi
    | some ex=>
      rw [e] at hi
      obtain rfl:V.int (ex:Int)=x:=Option.some.inj hi
      obtain ⟨pe,pl⟩:=qr1 ex (List.mem_of_getElem? e)
      have h13:=s3 _ _ h12
      have h23:=s3 _ _ h2
      rwa [h13,h23]
      refine ⟨by omega,2,by unfold Bd;decide,by omega,one,two,mers ex,qqh ex,rfl,rfl,pe,qr2 pl,z1,z2,d,b1,b2,by omega,by omega,nn,by omega,by omega,cc,nc,n2',fun nb H4 s4=>⟨?_,s3.trans s4⟩,fun t rs H4 s4 ht rc pr=>?_⟩
      · rcases Nat.lt_or_ge (i+1) 8 with c8 | c8
        · exact c8
        · exfalso
          have i7:i=7:=by omega
          rw [i7] at e
          obtain rfl:44497=ex:=Option.some.inj e
          refine nb ?_
          show 2 ^ ((d+nn*(2*cc+4)+cc+2)*(2*(nn - 1)))<mers 44497
          have h1:2 ^ ((d+nn*(2*cc+4)+cc+2)*(2*(nn - 1)))≤2 ^ 44490:=Nat.pow_le_pow_right (by decide) sm
          have h2:2 ^ 44490<mers 44497:=by
            unfold mers
            have e7:2 ^ 44497=2 ^ 44490*2 ^ 7:=by rw [← Nat.pow_add]
            rw [e7]
            have:1≤2 ^ 44490:=Nat.one_le_two_pow
            omega
          omega
      exact k t rs H4 (s02.trans (s3.trans s4)) ht (fun _=>⟨qls (Int.ne_of_gt g10) (Int.ne_of_gt g20) e1 e2 rc,pr⟩) fun h1 _=>absurd h1 (by simpa using c1)
  · rintro σ H' ⟨i8,_⟩
    exact absurd i8 (by simp [exps])
theorem qbF (l:List Nu):(qcT l).length=l.length:=by unfold qcT;rw [List.length_map]
theorem qgg {l:List Nu} (hl:qaI l) (nl:Nz l):Tz (qcT l):=by
  by_cases h:l=[]
  · left;rw [h];rfl
  · right
    rw [qbF]
    exact qlk hl nl (List.length_pos_iff.mpr h)
theorem qt5 {l:List Nu} {M N:Int} (hl:qaI l) (hM:Ov l M) (hN:Ov l N) (h:M∣N) {b:Nat} (hb:∀ z∈ovN l N,Bd b z):∀ z∈ovN l M,Bd b z:=fun z hz=>by
  obtain ⟨q,hq,rfl⟩:=List.mem_map.mp hz
  refine (hb (q.1*(N / q.2)) (List.mem_map.mpr ⟨q,hq,rfl⟩)).le ?_
  rw [Int.natAbs_mul,Int.natAbs_mul]
  refine Nat.mul_le_mul_left _ ?_
  have p0:=(hl q hq).pos
  obtain ⟨x,hx⟩:=hM.2 q hq
  obtain ⟨y,hy⟩:=h
  have e1:M / q.2=x:=by rw [hx,Int.mul_ediv_cancel_left _ (Int.ne_of_gt p0)]
  have e2:N / q.2=x*y:=by rw [hy,hx,Int.mul_assoc,Int.mul_ediv_cancel_left _ (Int.ne_of_gt p0)]
  rw [e1,e2,Int.natAbs_mul]
  refine Nat.le_mul_of_pos_right _ ?_
  rcases Nat.eq_zero_or_pos y.natAbs with z | z
  · have y0:y=0:=by omega
    have:=hN.1
    rw [hy,y0] at this;omega
  · exact z
theorem Gq.clr {b c:Nat} {l:List Nu} (G:Gq b c l):(∀ z∈qcT l,Bd b z)∧Bd c (qcE l)∧(∀ q∈l,Bd b q.1):=by
  obtain ⟨M,hO,bM,hz⟩:=G.ov
  have hd:=qmi G.low hO
  exact ⟨qt5 G.low (qbT G.low) hO hd hz,qb7 (Int.ne_of_gt hO.1) hd bM,qkt G.low hO hz⟩
theorem qdY (g:List Int):(mnc g).length=g.length:=by unfold mnc;rw [List.length_map]
theorem qlt {g:List Int} (lg:Lz g):qaI (mnc g):=fun q hq=>by
  obtain ⟨z,_,rfl⟩:=List.mem_map.mp hq
  exact qeC lg.2
theorem qo3 {g:List Int} (lg:Lz g) (k:Nat):pwo (mnc g) k=(co g k:Rat) / (co g (g.length - 1):Rat):=by
  unfold pwo qaY mnc
  rw [List.getD_eq_getElem?_getD,List.getElem?_map]
  unfold co
  rw [List.getD_eq_getElem?_getD (l:=g) (i:=k)]
  cases e:g[k]? with
  | none=>
    show val (0,1)=((0:Int):Rat) / _
    unfold val
    show ((0:Int):Rat) / _=_
    rw [show ((0:Int):Rat)=0 from rfl,zdiv,zdiv]
  | some z=>exact qeD lg.2
theorem qmy {g:List Int} (lg:Lz g):qaY (mnc g) (g.length - 1)=(1,1):=qjc (qbN (qlt lg) _) ⟨by decide,by decide⟩ (by
  have h:=qo3 lg (g.length - 1)
  unfold pwo at h
  rw [h]
  have:=qa3 lg.2
  have e1:val (1,1)=1:=by unfold val;show ((1:Int):Rat) / ((1:Int):Rat)=1;grind
  rw [e1];grind)
theorem qo4 {g:List Int} (lg:Lz g):Nz (mnc g):=fun q hq=>by
  have h:=qmy lg
  rw [List.getLast?_eq_getElem?,qdY] at hq
  unfold qaY at h
  rw [List.getD_eq_getElem?_getD,hq] at h
  have e1:q=(1,1):=h
  rw [e1];decide
theorem qo5 (h:qc3 K vs H Q E):qjo K { nx:=fun _ H'=>Q .non H',rt:=Q } (L2.start ["P", "Q", "row"] vs) H:=by
  obtain ⟨p,q,xs,ys,l,m,b,c,nn,ee,rfl,hp,hq,hN,hM,G1,G2,lN,mN,N18,n2',ne',sm,c9,hb,k0,k1⟩:=h
  have b9:b≤44490:=by
    have:(b+nn*(2*ee+4)+ee+2)*1≤(b+nn*(2*ee+4)+ee+2)*(2*(nn - 1)):=Nat.mul_le_mul_left _ (by omega)
    omega
  obtain ⟨cb1,cB1,ct1⟩:=G1.clr
  obtain ⟨cb2,cB2,ct2⟩:=G2.clr
  obtain ⟨M1,O1,bM1,_⟩:=G1.ov
  obtain ⟨M2,O2,bM2,_⟩:=G2.ov
  unfold qjo
  rwa [hp]
  refine ⟨l,hN,G1.low,M1,O1,bM1.mono (by omega),fun q hq=>(ct1 q hq).mono (by omega),by omega,fun r a H1 s1 hr ha=>?_⟩
  have hq1:=s1 _ _ hq
  rwa [hr,hq1]
  refine ⟨m,hM.tp (tpS s1),G2.low,M2,O2,bM2.mono (by omega),fun q hq=>(ct2 q hq).mono (by omega),by omega,fun r2 a2 H2 s2 hr2 ha2=>?_⟩
  have ha':=s2 _ _ ha
  rwa [hr2,ha',ha2]
  have n1:qcT l=[]↔l=[]:=by rw [← List.length_eq_zero_iff,← List.length_eq_zero_iff,qbF]
  have n2:qcT m=[]↔m=[]:=by rw [← List.length_eq_zero_iff,← List.length_eq_zero_iff,qbF]
  refine ⟨qcT l,rfl,qcT m,rfl,qgg G1.low G1.nz,qgg G2.low G2.nz,b,cb1,cb2,nn,by rw [qbF];exact lN,by rw [qbF];exact mN,N18,n2',ee,ne',sm,fun em=>by rw [qbF,qbF];exact hb (em.imp (fun z=>n1.mp z) (fun z=>n2.mp z)),fun s rs H3 s3 hs rc r0=>?_⟩
  have s03:=(s1.trans s2).trans s3
  rwa [hs]
  by_cases hz:l=[]∧m=[]
  · have e:=r0 (n1.mpr hz.1) (n2.mpr hz.2)
    subst e
    refine qbU (fun z=>absurd z (by simp)) (fun _=>?_)
    exact ⟨sz (by decide),fun t ht=>k0 hz.1 hz.2 t [] _ (s03.trans (qag ht _)) qai trivial⟩
  · have hne:l≠[]∨m≠[]:=by
      by_cases h1:l=[]
      · exact .inr fun h2=>hz ⟨h1,h2⟩
      · exact .inl h1
    obtain ⟨R,P⟩:=rc (hne.imp (fun h z=>h (n1.mp z)) (fun h z=>h (n2.mp z)))
    have rne:rs≠[]:=List.length_pos_iff.mp R.lz.1
    refine qbU (fun _=>?_) (fun z=>absurd rne (by simpa using z))
    have al:=qex R.lz.1
    have rl:rs.length≤1000:=by
      rcases hne with h | h
      · have:=qku R.lz (qky (qgg G1.low G1.nz) fun z=>h (n1.mp z)) R.left
        rw [qbF] at this;omega
      · have:=qku R.lz (qky (qgg G2.low G2.nz) fun z=>h (n2.mp z)) R.right
        rw [qbF] at this;omega
    rwa [hs,al]
    refine ⟨rs,rfl,R.lz.2,rl,fun t zs H4 s4 ht hz'=>?_⟩
    have e:trim (rs.map fun n=>qcF n (co rs (rs.length - 1)))=mnc rs:=qrD (qo4 R.lz)
    rw [e] at hz'
    exact k1 hne rs R P t zs H4 (s03.trans s4) ht hz'
theorem qmz {g:Nat→Rat} {n:Nat} (h:∀ i,n<i→g i=0):∀ (a:List Rat) (k:Nat),a.length+n≤k→cvL a g k=0
  | [],_,_=>rfl
  | x::a,0,hk=>absurd hk (by rw [List.length_cons];omega)
  | x::a,k+1,hk=>by
    rw [List.length_cons] at hk
    rw [qay,h (k+1) (by omega),qmz h a k (by omega)];grind
theorem qo6 {g:Nat→Rat} {n:Nat} (h0:g n≠0) (h:∀ i,n<i→g i=0) (S:List Rat):(∀ k,n≤k→cvL S g k=0)→∀ s∈S,s=0:=by
  induction hl:S.length generalizing S with
  | zero=>intro _ s hs;rw [List.length_eq_zero_iff.mp hl] at hs;exact nomatch hs
  | succ m ih=>
    intro hk
    have ne:S≠[]:=fun z=>by rw [z] at hl;simp at hl
    obtain ⟨T,t,rfl⟩:∃ T t,S=T++[t]:=⟨S.dropLast,S.getLast ne,(List.dropLast_concat_getLast ne).symm⟩
    have ht:t=0:=by
      have a:=hk (T.length+n) (by omega)
      rw [qbu,qmz h T _ (Nat.le_refl _)] at a
      unfold upS at a
      rw [if_pos (by omega),show T.length+n - T.length=n by omega] at a
      have a':t*g n=0:=by grind
      rcases Rat.mul_eq_zero.mp a' with z | z
      · exact z
      · exact absurd z h0
    have hT2:=ih T (by simpa using hl) (fun k hk2=>by
      have a:=hk k hk2
      rw [qbu,ht] at a
      grind)
    intro s hs
    rcases List.mem_append.mp hs with h | h
    · exact hT2 s h
    · rw [List.mem_singleton.mp h];exact ht
theorem qjD {g:Nat→Rat}:∀ (S:List Rat),(∀ s∈S,s=0)→∀ k,cvL S g k=0
  | [],_,_=>rfl
  | x::S,h,0=>by rw [qaB,h x (List.mem_cons_self ..)];grind
  | x::S,h,k+1=>by rw [qay,h x (List.mem_cons_self ..),qjD S (fun s hs=>h s (List.mem_cons_of_mem _ hs)) k];grind
theorem MR.short {g f:Nat→Rat} {n:Nat} (h0:g n≠0) (h:∀ i,n<i→g i=0) (m:MR g f) (hf:∀ k,n≤k→f k=0) (k:Nat):f k=0:=by
  obtain ⟨A,hA⟩:=m
  rw [hA k]
  exact qjD A (qo6 h0 h A fun k hk=>by rw [← hA k];exact hf k hk) k
theorem MR.less {g f h:Nat→Rat} (m:MR g f) (γ:Rat) (s:Nat) (e:∀ k,h k=f k - γ*upS s g k):MR g h:=by
  obtain ⟨A,hA⟩:=m
  refine ⟨qbd A ((List.replicate s 0++[γ]).map ((-1:Rat)*·)),fun k=>?_⟩
  rw [qaA,qaq,qdD,e k,hA k]
  have e2:upS s (cvL [γ] g) k=γ*upS s g k:=by
    unfold upS
    by_cases hk:s≤k
    · rw [if_pos hk,if_pos hk]
      cases hkk:k - s with
      | zero=>rw [qaB];grind
      | succ j=>rw [qay,qaP];grind
    · rw [if_neg hk,if_neg hk];grind
  rw [e2];grind
theorem qhR {q:Nu} {n M:Int} (hq:q.2≠0) (hM:M≠0) (h:val q=(n:Rat) / (M:Rat)):Wo q n M:=by
  unfold Wo
  unfold val at h
  have a:=qa3 hq
  have b:=qa3 hM
  have e:(q.1:Rat)*(M:Rat)=(n:Rat)*(q.2:Rat):=by grind
  exact_mod_cast e
theorem qlu {q:Nu} {n M:Int} (hl:Low q.1 q.2) (h:Wo q n M):q.2∣M∧q.1*(M / q.2)=n:=by
  unfold Wo at h
  have d:q.2∣M:=qf1 hl ⟨n,by rw [h,Int.mul_comm]⟩
  refine ⟨d,?_⟩
  have p0:=hl.pos
  have e:q.2*(q.1*(M / q.2))=q.2*n:=by
    have:=Int.mul_ediv_cancel' d
    calc q.2*(q.1*(M / q.2))=q.1*(q.2*(M / q.2)):=by grind
      _=q.1*M:=by rw [this]
      _=q.2*n:=by rw [h,Int.mul_comm]
  exact Int.eq_of_mul_eq_mul_left (Int.ne_of_gt p0) e
structure RS (m:List Nu) (z:Nat→Rat) (b c d i:Nat) (L:List Nu):Prop where
  low:qaI L
  ov:∃ D,Ov L D∧Bd (c+i*d) D∧∀ z∈ovN L D,Bd (b+i*(d+1)) z
  mr:MR (pwo m) (fun k=>pwo L k - z k)
noncomputable def rsL (L m:List Nu) (cc:Nu) (s j:Nat):List Nu:=(List.range L.length).map fun k=>if s≤k∧k - s<j then nadd (qaY L k) (nmul (-cc.1,cc.2) (qaY m (k - s))) else qaY L k
theorem qo7 (L m:List Nu) (cc:Nu) (s j:Nat):(rsL L m cc s j).length=L.length:=by unfold rsL;rw [List.length_map,List.length_range]
theorem qr3 {L m:List Nu} {cc:Nu} {s j k:Nat} (h:k<L.length):(rsL L m cc s j)[k]?=some (if s≤k∧k - s<j then nadd (qaY L k) (nmul (-cc.1,cc.2) (qaY m (k - s))) else qaY L k):=by
  unfold rsL;rw [List.getElem?_map,List.getElem?_range h];rfl
theorem qr4 (q:Nu):val (-q.1,q.2) = - val q:=by
  unfold val
  show ((-q.1:Int):Rat) / _=_
  push_cast
  grind
theorem qo8 {m:List Nu} (nm:Nz m) (m0:m≠[]):(qaY m (m.length - 1)).1≠0:=by
  have hb:m.length - 1<m.length:=by have:=List.length_pos_iff.mpr m0;omega
  have q:=nm m[m.length - 1] (by rw [List.getLast?_eq_getElem?];exact List.getElem?_eq_getElem hb)
  have e:qaY m (m.length - 1)=m[m.length - 1]:=by unfold qaY;rw [List.getD_eq_getElem?_getD,List.getElem?_eq_getElem hb];rfl
  rw [e];exact q
theorem qeG {m:List Nu} (hm:qaI m) (nm:Nz m) (m0:m≠[]):pwo m (m.length - 1)≠0:=by
  have a:=qa3 (qo8 nm m0)
  have b:=qa3 (Int.ne_of_gt (qbN hm (m.length - 1)).pos)
  unfold pwo val
  grind
theorem qr5 {L m:List Nu} {cc:Nu} {s j:Nat} (hL:qaI L) (hm:qaI m) (hc:0<cc.2):qaI (rsL L m cc s j):=fun q hq=>by
  obtain ⟨k,_,rfl⟩:=List.mem_map.mp hq
  show Low (if s≤k∧k - s<j then nadd (qaY L k) (nmul (-cc.1,cc.2) (qaY m (k - s))) else qaY L k).1 _
  split
  · exact qme (qbN hL k).pos (qdN (q:=(-cc.1,cc.2)) hc (qbN hm _).pos).pos
  · exact qbN hL k
theorem qr6 {L m:List Nu} {cc:Nu} {s:Nat} (hL:qaI L) (hm:qaI m) (hc:0<cc.2) (hs:L.length=s+m.length) (k:Nat):pwo (rsL L m cc s m.length) k=pwo L k - val cc*upS s (pwo m) k:=by
  by_cases h:k<L.length
  · have e:qaY (rsL L m cc s m.length) k=if s≤k∧k - s<m.length then nadd (qaY L k) (nmul (-cc.1,cc.2) (qaY m (k - s))) else qaY L k:=by
      unfold qaY
      rw [List.getD_eq_getElem?_getD,qr3 h];rfl
    unfold pwo
    rw [e]
    unfold upS
    by_cases hk:s≤k
    · rw [if_pos ⟨hk,by omega⟩,if_pos hk,qp2 (qbN hL k).pos (qdN (q:=(-cc.1,cc.2)) hc (qbN hm _).pos).pos,qje (q:=(-cc.1,cc.2)) hc (qbN hm _).pos,qr4]
      show _=_ - _*val (qaY m (k - s))
      grind
    · rw [if_neg (by omega),if_neg hk];grind
  · rw [qcc (by rw [qo7];omega),qcc (by omega)]
    unfold upS
    rw [if_pos (by omega),qcc (by omega)];grind
theorem RS.step {m:List Nu} {z:Nat→Rat} {b c d i:Nat} {L:List Nu} (S:RS m z b c d i L) (hm:qaI m) (nm:Nz m) (m0:m≠[]) {M:Int} (OM:Ov m M) (bm:∀ z∈ovN m M,Bd d z) (hs:m.length≤L.length) {by':Nu} (lb:Low by'.1 by'.2) (vb:val by'*pwo m (m.length - 1)=1) :
    RS m z b c d (i+1) (rsL L m (nmul (qaY L (L.length - 1)) by') (L.length - m.length) m.length).dropLast:=by
  have l0:=List.length_pos_iff.mpr m0
  have lL:=qbN S.low (L.length - 1)
  generalize hcc:nmul (qaY L (L.length - 1)) by'=cc
  have ccl:Low cc.1 cc.2:=by rw [← hcc];exact qdN lL.pos lb.pos
  have vc:val cc=pwo L (L.length - 1)*val by':=by rw [← hcc];exact qje lL.pos lb.pos
  generalize hsf:L.length - m.length=s
  have hls:L.length=s+m.length:=by omega
  have lowL':=qr5 (s:=s) (j:=m.length) S.low hm ccl.pos
  have pw:=fun k=>qr6 (cc:=cc) S.low hm ccl.pos hls k
  have lenL':=qo7 L m cc s m.length
  have pwl:=qeG hm nm m0
  have top0:pwo (rsL L m cc s m.length) (L.length - 1)=0:=by
    rw [pw,vc]
    unfold upS
    rw [if_pos (by omega),show L.length - 1 - s=m.length - 1 by omega]
    grind
  have dl:∀ k,pwo (rsL L m cc s m.length).dropLast k=pwo L k - val cc*upS s (pwo m) k:=fun k=>by
    rw [← pw]
    by_cases h:k<L.length - 1
    · unfold pwo qaY
      rw [List.getD_eq_getElem?_getD,List.getD_eq_getElem?_getD,List.getElem?_dropLast,if_pos (by rw [lenL'];exact h)]
    · rw [qcc (by rw [List.length_dropLast,lenL'];omega)]
      by_cases e:k=L.length - 1
      · rw [e,top0]
      · rw [qcc (by rw [lenL'];omega)]
  have lowD:qaI (rsL L m cc s m.length).dropLast:=fun q hq=>lowL' q (List.dropLast_subset _ hq)
  refine ⟨lowD,?_,S.mr.less (val cc) s fun k=>by rw [dl k];grind⟩
  obtain ⟨D,OD,bD,bz⟩:=S.ov
  generalize hμ:(ovN m M).getD (m.length - 1) 0=μ
  have pμ:pwo m (m.length - 1)=(μ:Rat) / (M:Rat):=by rw [qlc hm OM,hμ]
  have M0:=qa3 (Int.ne_of_gt OM.1)
  have D0:=qa3 (Int.ne_of_gt OD.1)
  have μ0:μ≠0:=fun z=>pwl (by rw [pμ,z];exact zdiv _)
  have bμ:Bd d μ:=by rw [← hμ];exact qc2 bm _
  have aμ:0<(μ.natAbs:Int):=by omega
  have key:∀ k,∃ n:Int,pwo (rsL L m cc s m.length).dropLast k=(n:Rat) / ((D*(μ.natAbs:Int):Int):Rat)∧Bd (b+(i+1)*(d+1)) n:=fun k=>by
    have e2:b+(i+1)*(d+1)=(d+(b+i*(d+1)))+1:=by rw [Nat.add_mul];omega
    have b1:Bd (b+i*(d+1)) ((ovN L D).getD k 0):=qc2 bz k
    have b2:Bd (b+i*(d+1)) ((ovN L D).getD (L.length - 1) 0):=qc2 bz _
    have hv:val cc=((ovN L D).getD (L.length - 1) 0:Rat) / (D:Rat)*((M:Rat) / (μ:Rat)):=by
      rw [vc,qlc S.low OD]
      have:val by'=(M:Rat) / (μ:Rat):=by
        rw [pμ] at vb
        have:=qa3 μ0
        grind
      rw [this]
    have up:∃ w:Int,upS s (pwo m) k=(w:Rat) / (M:Rat)∧Bd d w:=by
      unfold upS
      by_cases hk:s≤k
      · rw [if_pos hk,qlc hm OM];exact ⟨_,rfl,qc2 bm _⟩
      · rw [if_neg hk];exact ⟨0,(zdiv _).symm,qch _⟩
    obtain ⟨w,hw,bw⟩:=up
    rw [dl,hv,hw,qlc S.low OD,e2]
    have μR:=qa3 μ0
    rcases Int.natAbs_eq μ with e | e
    · refine ⟨(μ.natAbs:Int)*(ovN L D).getD k 0 - w*(ovN L D).getD (L.length - 1) 0,?_,?_⟩
      · rw [← e]
        push_cast
        generalize ((ovN L D).getD k 0:Rat)=x at *
        generalize ((ovN L D).getD (L.length - 1) 0:Rat)=y at *
        grind
      · rw [← e];exact (bμ.mul b1).sub (bw.mul b2)
    · refine ⟨(μ.natAbs:Int)*(ovN L D).getD k 0+w*(ovN L D).getD (L.length - 1) 0,?_,?_⟩
      · have e':(μ.natAbs:Int) = -μ:=by omega
        rw [e']
        push_cast
        generalize ((ovN L D).getD k 0:Rat)=x at *
        generalize ((ovN L D).getD (L.length - 1) 0:Rat)=y at *
        grind
      · have e':(μ.natAbs:Int) = -μ:=by omega
        rw [e'];exact (bμ.neg.mul b1).add (bw.mul b2)
  have DP:0<D*(μ.natAbs:Int):=Int.mul_pos OD.1 aμ
  have elem:∀ q∈(rsL L m cc s m.length).dropLast,q.2∣D*(μ.natAbs:Int)∧Bd (b+(i+1)*(d+1)) (q.1*((D*(μ.natAbs:Int)) / q.2)):=fun q hq=>by
    obtain ⟨k,hk,e⟩:=List.getElem_of_mem hq
    obtain ⟨n,hn,bn⟩:=key k
    have lq:=lowD q hq
    have ek:qaY (rsL L m cc s m.length).dropLast k=q:=by unfold qaY;rw [List.getD_eq_getElem?_getD,List.getElem?_eq_getElem hk,← e];rfl
    unfold pwo at hn
    rw [ek] at hn
    obtain ⟨h1,h2⟩:=qlu lq (qhR (Int.ne_of_gt lq.pos) (Int.ne_of_gt DP) hn)
    exact ⟨h1,by rw [h2];exact bn⟩
  refine ⟨D*(μ.natAbs:Int),⟨DP,fun q hq=>(elem q hq).1⟩,?_,fun z hz=>?_⟩
  · refine (bD.mul (bμ.le (y:=(μ.natAbs:Int)) (by omega))).mono ?_
    rw [Nat.add_mul];omega
  · obtain ⟨q,hq,rfl⟩:=List.mem_map.mp hz
    exact (elem q hq).2
theorem qtj (f:Nat→Int):∀ (A:List Int) (k:Nat),cvL (A.map fun z:Int=>(z:Rat)) (fun k=>(f k:Rat)) k=((cvL A f k:Int):Rat)
  | [],_=>rfl
  | x::A,0=>by rw [List.map_cons,qaB,qaB];push_cast;grind
  | x::A,k+1=>by rw [List.map_cons,qay,qay,qtj f A k];push_cast;grind
theorem qiK {f:Nat→Int} {G:Nat→Rat} {β:Rat} (β0:β≠0) (hG:∀ k,G k=β*(f k:Rat)) (A:List Int) (k:Nat):((cvL A f k:Int):Rat)=β⁻¹*cvL (A.map fun z:Int=>(z:Rat)) G k:=by
  rw [qan hG,qbk,qtj]
  grind
theorem MR.of {f g:Nat→Int} {F G:Nat→Rat} {α β:Rat} (β0:β≠0) (hF:∀ k,F k=α*(f k:Rat)) (hG:∀ k,G k=β*(g k:Rat)) (m:MQ g f):MR G F:=by
  obtain ⟨c,c0,A,hA⟩:=m
  have c1:=qa3 c0
  refine ⟨(A.map fun z:Int=>(z:Rat)).map (α*(c:Rat)⁻¹*β⁻¹*·),fun k=>?_⟩
  have e:(c:Rat)*(f k:Rat)=((cvL A g k:Int):Rat):=by exact_mod_cast hA k
  rw [qaq,hF k]
  rw [qiK β0 hG] at e
  grind
theorem MR.qi {r o g:Nat→Int} {n L M G:Nat→Rat} {α β γ:Rat} (α0:α≠0) (β0:β≠0) (hL:∀ k,L k=α*(r k:Rat)) (hM:∀ k,M k=β*(o k:Rat)) (hG:∀ k,G k=γ*(g k:Rat)) (q:QI r o g) (m1:MR n L) (m2:MR n M):MR n G:=by
  obtain ⟨d,d0,U,W,hU⟩:=q
  obtain ⟨A,hA⟩:=m1
  obtain ⟨B,hB⟩:=m2
  have d1:=qa3 d0
  refine ⟨qbd ((qaX (U.map fun z:Int=>(z:Rat)) A).map (γ*(d:Rat)⁻¹*α⁻¹*·)) ((qaX (W.map fun z:Int=>(z:Rat)) B).map (γ*(d:Rat)⁻¹*β⁻¹*·)),fun k=>?_⟩
  rw [qaA,qaq,qaq,qaw,qaw,← qan hA,← qan hB]
  have e:(d:Rat)*(g k:Rat)=((cvL U r k:Int):Rat)+((cvL W o k:Int):Rat):=by exact_mod_cast hU k
  rw [qiK α0 hL,qiK β0 hM] at e
  rw [hG k]
  grind
theorem qhS {l:List Nu} (hl:qaI l) (k:Nat):pwo l k=((qcE l:Rat))⁻¹*(co (qcT l) k:Rat):=by
  rw [qlc hl (qbT hl),← qjh]
  show (co (qcT l) k:Rat) / _=_
  grind
theorem qo9 {l:List Nu} (hl:qaI l):((qcE l:Rat))⁻¹≠0:=by
  have:=qa3 (Int.ne_of_gt (qbT hl).1)
  grind
theorem qkz {g:List Int} (lg:Lz g) (k:Nat):pwo (mnc g) k=((co g (g.length - 1):Rat))⁻¹*(co g k:Rat):=by
  rw [qo3 lg];grind
theorem qlv {g:List Int} (lg:Lz g):((co g (g.length - 1):Rat))⁻¹≠0:=by
  have:=qa3 lg.2
  grind
theorem RC.symm {r o:Nat→Int} {g:List Int} (G:RC r o g):RC o r g:=by
  obtain ⟨d,d0,U,W,h⟩:=G.qi
  exact ⟨G.lz,G.right,G.left,⟨d,d0,W,U,fun k=>by rw [h k];omega⟩⟩
theorem qpa {lead:Int} (h0:lead≠0) {B:Nat} {ns:List Int} (hb:∀ z∈ns,Bd B z):Ov (ns.map fun n=>qcF n lead) (lead.natAbs:Int)∧∀ z∈ovN (ns.map fun n=>qcF n lead) (lead.natAbs:Int),Bd B z:=by
  have A0:(0:Int)<(lead.natAbs:Int):=by omega
  have key:∀ n∈ns,(qcF n lead).2∣(lead.natAbs:Int)∧Bd B ((qcF n lead).1*((lead.natAbs:Int) / (qcF n lead).2)):=fun n hn=>by
    have lq:=qeC (n:=n) h0
    have l1:=qa3 h0
    have:∃ s:Int,val (qcF n lead)=(s:Rat) / (((lead.natAbs:Int):Int):Rat)∧Bd B s:=by
      rw [qeD h0]
      rcases Int.natAbs_eq lead with e | e
      · exact ⟨n,by rw [← e],hb n hn⟩
      · refine ⟨-n,?_,(hb n hn).neg⟩
        have e':(lead.natAbs:Int) = -lead:=by omega
        rw [e'];push_cast;grind
    obtain ⟨s,hs,bs⟩:=this
    obtain ⟨d1,d2⟩:=qlu lq (qhR (Int.ne_of_gt lq.pos) (Int.ne_of_gt A0) hs)
    exact ⟨d1,by rw [d2];exact bs⟩
  refine ⟨⟨A0,fun q hq=>?_⟩,fun z hz=>?_⟩
  · obtain ⟨n,hn,rfl⟩:=List.mem_map.mp hq
    exact (key n hn).1
  · obtain ⟨q,hq,rfl⟩:=List.mem_map.mp hz
    obtain ⟨n,hn,rfl⟩:=List.mem_map.mp hq
    exact (key n hn).2
theorem qr7 {l:List Nu} {M:Int} {B:Nat} (h:Ov l M) (hb:∀ z∈ovN l M,Bd B z):Ov (trim l) M∧∀ z∈ovN (trim l) M,Bd B z:=by
  refine ⟨⟨h.1,fun q hq=>h.2 q (qcQ hq)⟩,fun z hz=>?_⟩
  obtain ⟨q,hq,rfl⟩:=List.mem_map.mp hz
  exact hb _ (List.mem_map.mpr ⟨q,qcQ hq,rfl⟩)
theorem qt6 {F G:Nat→Rat} {P:Nat→Rat} (n:Nat) (h:∀ k,P k=cv F G n k):MR G P:=by
  refine ⟨(List.range n).map F,fun k=>?_⟩
  rw [h k]
  clear h
  induction n with
  | zero=>rfl
  | succ n ih=>
    show cv F G n k+(if n≤k then F n*G (k - n) else 0)=_
    rw [ih,List.range_succ,List.map_append,List.map_singleton,qbu,List.length_map,List.length_range]
    unfold upS
    by_cases hk:n≤k
    · rw [if_pos hk,if_pos hk]
    · rw [if_neg hk,if_neg hk];grind
structure PS (l m:List Nu) (b c d e nq:Nat) (r:List Int) (B:Int) (qs:List Nu):Prop where
  len:r.length≤l.length
  tz:Tz r
  B0:B≠0
  N:∃ N,0<N∧B∣N∧Bd (c+(nq - (r.length+1 - m.length))*d) N∧∀ q∈qs,q.2∣N
  low:qaI qs
  qb:∀ q∈qs,Bd (b+nq*(d+1)+e) q.1
  rb:∀ z∈r,Bd (b+(nq - (r.length+1 - m.length))*(d+1)) z
  ql:qs.length=nq
  zer:∀ j,j+m.length≤r.length→qaY qs j=(0,1)
  idn:∀ k,pwo l k=cv (pwo qs) (pwo m) nq k+(co r k:Rat) / (B:Rat)
theorem qpb {ns:List Int} {g:Int} (k:Nat):co (ns.map (· / g)) k=co ns k / g:=qkw (F:=(· / g)) (Int.zero_ediv g) ns k
theorem qq8 {ns:List Int} {g:Int} (h:∀ z∈ns,g∣z) (k:Nat):g∣co ns k:=qmr h k
theorem PS.step {l m:List Nu} {b c d e nq:Nat} {r:List Int} {B:Int} {qs:List Nu} (S:PS l m b c d e nq r B qs) (hm:qaI m) (nm:Nz m) (m1:1≤m.length) (bC:∀ z∈qcT m,Bd d z) (bE:Bd e (qcE m)) (hq:nq=l.length+1 - m.length) (hr:m.length≤r.length)
    {lead top sh f w g:Int} (hlead:lead=co (qcT m) (m.length - 1)) (htop:top=co r (r.length - 1)) (hs0:0<sh) (hf:f*sh=lead) (hw:w*sh=top) {r1:List Int} (t1:Tz r1) (hr1:∀ k,co r1 k=f*co r k - w*upS (r.length - m.length) (co (qcT m)) k) (g0:0<g) (gB:g∣B*f) (gr:∀ z∈r1,g∣z) :
    PS l m b c d e nq (r1.map (· / g)) (B*f / g) (qs.set (r.length - m.length) (qcF (top*qcE m) (B*lead)))∧r1.length<r.length:=by
  have lne:lead≠0:=by rw [hlead];exact qlk hm nm m1
  have cl:(qcT m).length=m.length:=qbF m
  have fne:f≠0:=fun z=>lne (by rw [← hf,z,Int.zero_mul])
  have lt1:r1.length<r.length:=by
    have:r1.length≤r.length - 1:=qti (b:=[]) t1 _ fun k hk=>by
      rw [hr1 k]
      unfold upS
      rw [if_pos (by omega)]
      by_cases ek:k=r.length - 1
      · rw [ek,← htop,show r.length - 1 - (r.length - m.length)=m.length - 1 by omega,← hlead,← hw,← hf];grind
      · rw [qaE (a:=r) (by omega),qaE (a:=qcT m) (k:=k - (r.length - m.length)) (by omega)];omega
    omega
  have qgR:(r1.map (· / g)).length=r1.length:=List.length_map ..
  obtain ⟨N,N0,NB,Nb,Nq⟩:=S.N
  have hlen:=S.len
  have bl:Bd d lead:=by rw [hlead];exact qca bC _
  have bt:Bd (b+(nq - (r.length+1 - m.length))*(d+1)) top:=by rw [htop];exact qca S.rb _
  have bf:Bd d f:=qb7 lne ⟨sh,by rw [hf]⟩ bl
  have bw:Bd (b+(nq - (r.length+1 - m.length))*(d+1)) w:=by
    by_cases z:top=0
    · have w0:w=0:=by
        rcases Int.mul_eq_zero.mp (hw.trans z) with h | h
        · exact h
        · omega
      rw [w0];exact qch _
    · exact qb7 z ⟨sh,by rw [hw]⟩ bt
  have sle:r.length - m.length<nq:=by omega
  have bne:B*lead≠0:=Int.mul_ne_zero S.B0 lne
  have nlow:=qeC (n:=top*qcE m) bne
  have mem_set:∀ {q:Nu},q∈qs.set (r.length - m.length) (qcF (top*qcE m) (B*lead))→q∈qs∨q=qcF (top*qcE m) (B*lead):=fun {q} h=>List.mem_or_eq_of_mem_set h
  have sget:∀ j,qaY (qs.set (r.length - m.length) (qcF (top*qcE m) (B*lead))) j=if j=r.length - m.length then qcF (top*qcE m) (B*lead) else qaY qs j:=fun j=>by
    unfold qaY
    rw [List.getD_eq_getElem?_getD,List.getD_eq_getElem?_getD]
    by_cases e:j=r.length - m.length
    · rw [if_pos e,e,List.getElem?_set_self (by rw [S.ql];exact sle)];rfl
    · rw [if_neg e,List.getElem?_set_ne (fun z=>e z.symm)]
  have grow:∀ x:Nat,(nq - (r.length+1 - m.length))*x+x≤(nq - (r1.length+1 - m.length))*x:=fun x=>by
    have:=Nat.mul_le_mul_right x (show nq - (r.length+1 - m.length)+1≤nq - (r1.length+1 - m.length) by omega)
    rw [Nat.add_mul,Nat.one_mul] at this
    exact this
  refine ⟨⟨by omega,?_,?_,⟨N*(lead.natAbs:Int),?_,?_,?_,?_⟩,?_,?_,?_,?_,?_,?_⟩,lt1⟩
  · rcases t1 with h | h
    · left;rw [h];rfl
    · right
      rw [qgR,qpb]
      intro z
      have:=Int.ediv_mul_cancel (qq8 gr (r1.length - 1))
      rw [z,Int.zero_mul] at this
      exact h this.symm
  · intro z
    have d:=Int.ediv_mul_cancel gB
    rw [z,Int.zero_mul] at d
    exact Int.mul_ne_zero S.B0 fne d.symm
  · exact Int.mul_pos N0 (by omega)
  · refine Int.dvd_trans (Int.ediv_dvd_of_dvd gB) (Int.mul_dvd_mul NB ?_)
    exact Int.dvd_natAbs.mpr ⟨sh,by rw [hf]⟩
  · have bl':Bd d (lead.natAbs:Int):=bl.le (by rw [Int.natAbs_natCast];exact Nat.le_refl _)
    refine (Nb.mul bl').mono ?_
    rw [qgR]
    have:=grow d
    omega
  · intro q hq
    rcases mem_set hq with h | h
    · exact Int.dvd_trans (Nq q h) (Int.dvd_mul_right ..)
    · rw [h]
      exact qp3 bne (Int.mul_dvd_mul NB (Int.dvd_natAbs.mpr (Int.dvd_refl _)))
  · intro q hq
    rcases mem_set hq with h | h
    · exact S.low q h
    · rw [h];exact nlow
  · intro q hq
    rcases mem_set hq with h | h
    · exact S.qb q h
    · rw [h]
      refine (qox bne (bt.mul bE) (Nat.lt_two_pow_self:Bd _ (B*lead))).1.mono ?_
      have:=Nat.mul_le_mul_right (d+1) (show nq - (r.length+1 - m.length)≤nq by omega)
      omega
  · intro z hz
    obtain ⟨y,hy,rfl⟩:=List.mem_map.mp hz
    refine qoV (gr y hy) ?_
    refine qo1 (n:=b+(nq - ((r1.map (· / g)).length+1 - m.length))*(d+1)) (fun k=>?_) y hy
    rw [hr1 k,qgR]
    have gw:=grow (d+1)
    refine Bd.mono (m:=(b+(nq - (r.length+1 - m.length))*(d+1)+d)+1) (Bd.sub ((bf.mul (qca S.rb k)).mono (by omega)) ?_) (by omega)
    unfold upS
    split
    · exact bw.mul (qca bC _)
    · rw [Int.mul_zero];exact qch _
  · rw [List.length_set];exact S.ql
  · intro j hj
    rw [qgR] at hj
    rw [sget,if_neg (by omega)]
    exact S.zer j (by omega)
  · intro k
    have hB:=qa3 S.B0
    have hL:=qa3 lne
    have hg:=qa3 (Int.ne_of_gt g0)
    have hF:=qa3 fne
    have hE:=qa3 (Int.ne_of_gt (qbT hm).1)
    have c1:=qqS (f:=pwo qs) (f':=pwo (qs.set (r.length - m.length) (qcF (top*qcE m) (B*lead)))) (g:=pwo m) (s:=r.length - m.length) (x:=val (qcF (top*qcE m) (B*lead)))
      (by unfold pwo;rw [S.zer _ (by omega)];exact zdiv _) (by unfold pwo;rw [sget,if_pos rfl]) (fun i hi=>by unfold pwo;rw [sget,if_neg hi]) nq k
    have gd:g∣f*co r k - w*upS (r.length - m.length) (co (qcT m)) k:=by rw [← hr1 k];exact qq8 gr k
    rw [c1,S.idn k,qpb,hr1 k,qmq (Int.ne_of_gt g0) gd,qmq (Int.ne_of_gt g0) gB,qeD bne]
    have hf':(f:Rat)*sh=lead:=by exact_mod_cast hf
    have hw':(w:Rat)*sh=top:=by exact_mod_cast hw
    have hS:=qa3 (Int.ne_of_gt hs0)
    unfold upS
    by_cases hk:r.length - m.length≤k
    · rw [if_pos hk,if_pos ⟨sle,hk⟩,qlc hm (qbT hm),← qjh]
      show _+(co r k:Rat) / _=_+_*((co (qcT m) (k - (r.length - m.length)):Rat) / _)+_
      push_cast
      generalize (co (qcT m) (k - (r.length - m.length)):Rat)=dk
      generalize cv (pwo qs) (pwo m) nq k=c
      generalize (co r k:Rat)=x
      grind
    · rw [if_neg hk,if_neg (by omega)]
      push_cast
      generalize cv (pwo qs) (pwo m) nq k=c
      generalize (co r k:Rat)=x
      grind
theorem qmA {a b:Nu} (h:qqW a=qqW b):a=b:=by
  unfold qqW at h
  injection h with h
  injection h with h1 h2
  injection h2 with h2 _
  injection h1 with h1
  injection h2 with h2
  exact Prod.ext h1 h2
theorem qqi {l m:List Nu} (h:qrM l=qrM m):l=m:=by
  unfold qrM at h
  injection h with h
  induction l generalizing m with
  | nil=>
    cases m with
    | nil=>rfl
    | cons b m=>simp at h
  | cons a l ih=>
    cases m with
    | nil=>simp at h
    | cons b m=>
      rw [List.map_cons,List.map_cons] at h
      injection h with h1 h2
      rw [qmA h1,ih h2]
theorem eqP {H:Hp} {p q:Addr} {xs ys:List V} {l m:List Nu} {Q:VK} (hp:H p=some (.tup xs)) (hN:Nums H xs l) (hq:H q=some (.tup ys)) (hM:Nums H ys m) (b:Bool) (hb:b=true↔l=m) (h:Q (.bl b) H):eqD (.ref p) (.ref q) H Q:=
  ⟨_,_,b,qtY hp hN,qtY hq hM,okP _ 6,okP _ 6,⟨fun z=>by rw [hb.mp z],fun z=>hb.mpr (qqi z)⟩,h⟩
theorem qng (h:qck K vs H Q E):qhy K { nx:=fun _ H'=>Q .non H',rt:=Q } (L2.start ["P", "Q", "row", "divisor", "rest", "bottom", "lead", "quotient", "shift", "shared", "spare"] vs) H:=by
  obtain ⟨p,q,xs,ys,l,m,b0,c0,d0,e0,rfl,hp,hq,hN,hM,GL,GM,m0,l10,m6,hc,hb,he,hd,k⟩:=h
  obtain ⟨cb1,cB1,ct1⟩:=GL.clr
  obtain ⟨cb2,cB2,ct2⟩:=GM.clr
  obtain ⟨M,hO,bM,bOv⟩:=GL.ov
  obtain ⟨M',hO',bM',_⟩:=GM.ov
  have hl:=GL.low
  have hm:=GM.low
  have nm:=GM.nz
  have m1:1≤m.length:=List.length_pos_iff.mpr m0
  have b9:b0≤900000:=by omega
  have c9:c0≤400000:=by omega
  have lx:=hN.length
  have ly:=hM.length
  have bmn:∀ q∈m,Bd 60000000 q.1:=fun q hq=>(ct2 q hq).mono (by omega)
  have bE:Bd e0 (qcE m):=cB2
  have OE:=qbT hm
  have OL:=qbT hl
  have bL:Bd c0 (qcE l):=cB1
  have cl:(qcT m).length=m.length:=by unfold qcT;rw [List.length_map]
  have cll:(qcT l).length=l.length:=by unfold qcT;rw [List.length_map]
  unfold qhy
  rwa [hp]
  refine ⟨l,hN,hl,M,hO,bM.mono (by omega),fun q hq=>(ct1 q hq).mono (by omega),by omega,fun ra a H1 s1 hr1 ha1=>?_⟩
  unfold qhx
  have hq1:=s1 _ _ hq
  rwa [hq1]
  refine ⟨m,hM.tp (tpS s1),hm,qcE m,OE,bE.mono (by omega),bmn,by omega,fun rb b H2 s2 hr2 ha2=>?_⟩
  have hr1:=s2 _ _ hr1
  have ha1:=s2 _ _ ha1
  have s12:=s1.trans s2
  have hp2:=s12 _ _ hp
  have hq2:=s12 _ _ hq
  unfold qhw qhv qhu qht
  rwa [hr1,hr2,ha2,hp2,hq2]
  have lastI:∀ {r:List Int},1≤r.length→atI (r.map V.int) (-1)=some (V.int (r.getD (r.length - 1) 0)):=fun {r} h=>by
    unfold atI ixN
    rw [if_neg (by decide),if_pos (by rw [List.length_map];omega),List.length_map,show (-1+(r.length:Int)).toNat=r.length - 1 by omega]
    show (r.map V.int)[r.length - 1]?=_
    rw [List.getElem?_map,List.getD_eq_getElem?_getD,List.getElem?_eq_getElem (by omega)]
    rfl
  have el:=lastI (r:=qcT m) (by omega)
  rw [cl] at el
  generalize hlead:(qcT m).getD (m.length - 1) 0=lead at el
  have lne:lead≠0:=by rw [← hlead];exact qlk hm nm m1
  have bld:Bd d0 lead:=by rw [← hlead];exact qc2 cb2 _
  refine ⟨_,el,sz (by decide),fun e1 he1=>⟨sz (by simp),fun e2 he2=>?_⟩⟩
  have se1:=qag he1 (HO.tup [V.int 0,V.int 1])
  have se2:=qag he2 (HO.lst [V.ref e1])
  have u:=se1.trans se2
  refine ⟨_,u _ _ hp2,_,u _ _ hq2,?_⟩
  have en:(if (0:Int) > (xs.length:Int) - (ys.length:Int)+1 then 0 else (xs.length:Int) - (ys.length:Int)+1)=((l.length+1 - m.length:Nat):Int):=by split <;> omega
  rw [en]
  refine ⟨by omega,by omega,sz (by omega),fun w hw=>?_⟩
  rw [Int.toNat_natCast,qcR]
  have sw:=qag hw (HO.lst (List.replicate (l.length+1 - m.length) (V.ref e1)))
  have u:=u.trans sw
  have w2:H2 w=none:=by
    cases e:H2 w with
    | none=>rfl
    | some o=>have z:=se2 _ _ (se1 _ _ e);rw [hw] at z;cases z
  have hwz:upd (upd (upd H2 e1 (HO.tup [V.int 0,V.int 1])) e2 (HO.lst [V.ref e1])) w (HO.lst (List.replicate (l.length+1 - m.length) (V.ref e1))) w=some (HO.lst (List.replicate (l.length+1 - m.length) (V.ref e1))):=qai
  have N0:Nums _ (List.replicate (l.length+1 - m.length) (V.ref e1)) (List.replicate (l.length+1 - m.length) (0,1)):=Nums.rep ⟨e1,rfl,sw _ _ (se2 _ _ qai)⟩ _
  generalize upd (upd (upd H2 e1 (HO.tup [V.int 0,V.int 1])) e2 (HO.lst [V.ref e1])) w (HO.lst (List.replicate (l.length+1 - m.length) (V.ref e1)))=H3 at u hwz N0 ⊢
  have gz:∀ n j:Nat,qaY (List.replicate n ((0,1):Nu)) j=(0,1):=fun n j=>by
    unfold qaY
    rw [List.getD_eq_getElem?_getD,List.getElem?_replicate]
    split <;> rfl
  unfold qhs
  rwa []
  refine while_by (fun n σ H'=>∃ (c:Addr) (r:List Int) (B:Int) (zs:List V) (qs:List Nu) (x8 x9 x10:Option V),σ=[some (.ref p),some (.ref q),some (.ref ra),some (.ref rb),some (.ref c),some (.int B),some (.int lead),some (.ref w),x8,x9,x10]∧Same H2 H'∧H' c=some (.lst (r.map V.int))∧c≠w∧H' w=some (.lst zs)∧Nums H' zs qs∧PS l m b0 c0 d0 e0 (l.length+1 - m.length) r B qs∧n=r.length) l.length
    ⟨a,qcT l,qcE l,_,_,none,none,none,rfl,u,u _ _ ha1,qav ha1 w2,hwz,N0,⟨by omega,qgg hl GL.nz,Int.ne_of_gt OL.1,⟨qcE l,OL.1,Int.dvd_refl _,bL.mono (by omega),fun q hq=>?_⟩,fun q hq=>?_,fun q hq=>?_,fun z hz=>?_,List.length_replicate ..,fun j _=>gz _ j,fun k=>?_⟩,cll.symm⟩ ?_
  · rw [(List.mem_replicate.mp hq).2];exact Int.one_dvd _
  · rw [(List.mem_replicate.mp hq).2];exact qrE
  · rw [(List.mem_replicate.mp hq).2];exact qch _
  · exact (cb1 z hz).mono (by omega)
  · rw [qoz _ _ (fun i _=>by unfold pwo;rw [gz];exact zdiv _),qlc hl OL,qjh]
    exact (Rat.zero_add _).symm
  rintro n σ H4 ⟨c,r,B,zs,qs,x8,x9,x10,rfl,s4,hc4,cw,hw4,N4,S4,rfl⟩
  have hq4:=s4 _ _ hq2
  rwa [hc4,hq4]
  refine qbU (fun cc=>?_) (fun cc=>?_)
  · have hrl:m.length≤r.length:=by rw [List.length_map] at cc;omega
    refine ⟨_,fun _ _ h=>h,?_⟩
    have es:((r.map V.int).length:Int) - (ys.length:Int)=((r.length - m.length:Nat):Int):=by rw [List.length_map];omega
    have lt:=lastI (r:=r) (by omega)
    generalize htop:r.getD (r.length - 1) 0=top at lt
    have hr24:=s4 _ _ hr2
    have ha24:=s4 _ _ ha2
    obtain ⟨N,NN0,NB,Nb,Nq⟩:=S4.N
    have BBd:Bd 400000 B:=(qb7 (Int.ne_of_gt NN0) NB Nb).mono (Nat.le_trans (Nat.add_le_add_left (Nat.mul_le_mul_right _ (Nat.sub_le _ _)) _) hc)
    have rsm:b0+(l.length+1 - m.length - (r.length+1 - m.length))*(d0+1)≤900000:=by
      have:=Nat.mul_le_mul_right (d0+1) (Nat.sub_le (l.length+1 - m.length) (r.length+1 - m.length))
      omega
    have btop:Bd 900000 top:=by rw [← htop];exact (qc2 S4.rb _).mono rsm
    have rb4:∀ z∈r,Bd 60000000 z:=fun z hz=>(S4.rb z hz).mono (by omega)
    unfold qeU qeT
    rwa [hc4,hq4,es,lt,hr24]
    have bne:B*lead≠0:=Int.mul_ne_zero S4.B0 lne
    refine ⟨qnu btop bE,qnu BBd bld,bne,fun t1 ht1=>?_⟩
    have st1:=qag ht1 (HO.tup [V.int (qcF (top*qcE m) (B*lead)).1,V.int (qcF (top*qcE m) (B*lead)).2])
    have lzs:zs.length=l.length+1 - m.length:=by rw [N4.length,S4.ql]
    have rlen:=S4.len
    refine ⟨zs,st1 _ _ hw4,r.length - m.length,qhL rfl (by omega),?_⟩
    have hn:Nums _ (zs.set (r.length - m.length) (V.ref t1)) (qs.set (r.length - m.length) (qcF (top*qcE m) (B*lead))):=(Nums.set ⟨t1,rfl,qai⟩ (r.length - m.length) (N4.tp (tpS st1))).tp (Tp.updL (ys:=zs.set (r.length - m.length) (V.ref t1)) (st1 _ _ hw4))
    have s5:Same H2 (upd (upd H4 t1 (HO.tup [V.int (qcF (top*qcE m) (B*lead)).1,V.int (qcF (top*qcE m) (B*lead)).2])) w (HO.lst (zs.set (r.length - m.length) (V.ref t1)))):=fun b o h=>Kp.upd b o (qav h w2) (st1 b o (s4 b o h))
    have hc5:upd (upd H4 t1 (HO.tup [V.int (qcF (top*qcE m) (B*lead)).1,V.int (qcF (top*qcE m) (B*lead)).2])) w (HO.lst (zs.set (r.length - m.length) (V.ref t1))) c=some (HO.lst (r.map V.int)):=by rw [qaC cw];exact st1 _ _ hc4
    have hw5:upd (upd H4 t1 (HO.tup [V.int (qcF (top*qcE m) (B*lead)).1,V.int (qcF (top*qcE m) (B*lead)).2])) w (HO.lst (zs.set (r.length - m.length) (V.ref t1))) w=some (HO.lst (zs.set (r.length - m.length) (V.ref t1))):=qai
    generalize upd (upd H4 t1 (HO.tup [V.int (qcF (top*qcE m) (B*lead)).1,V.int (qcF (top*qcE m) (B*lead)).2])) w (HO.lst (zs.set (r.length - m.length) (V.ref t1)))=H5 at hn s5 hc5 hw5 ⊢
    have hr25:=s5 _ _ hr2
    have ha25:=s5 _ _ ha2
    unfold qeS qeR
    rwa [hc5,lt,hr25]
    have sh0:(0:Int)<((Int.gcd top lead:Nat):Int):=by have:=Int.gcd_pos_of_ne_zero_right top lne;omega
    have shl:((Int.gcd top lead:Nat):Int)∣lead:=Int.gcd_dvd_right top lead
    have sht:((Int.gcd top lead:Nat):Int)∣top:=Int.gcd_dvd_left top lead
    have hf:=Int.ediv_mul_cancel shl
    have hw':=Int.ediv_mul_cancel sht
    generalize hshe:((Int.gcd top lead:Nat):Int)=sh at sh0 shl sht hf hw' ⊢
    have bfe:=qoV shl bld
    have bwe:=qoV sht btop
    have sfd:lead.fdiv sh=lead / sh:=Int.fdiv_eq_ediv_of_nonneg lead (Int.le_of_lt sh0)
    have stf:top.fdiv sh=top / sh:=Int.fdiv_eq_ediv_of_nonneg top (Int.le_of_lt sh0)
    rw [sfd,stf]
    generalize hfe:lead / sh=f at hf bfe sfd ⊢
    generalize top / sh=wt at hw' bwe stf ⊢
    refine ⟨Int.ne_of_gt sh0,Int.ne_of_gt sh0,?_⟩
    refine ⟨r,qcT m,r.length - m.length,rfl,rfl,ha25,by omega,by omega,bfe.mono (by omega),bwe.mono (by decide),rb4,fun z hz=>(cb2 z hz).mono (by omega),fun c1 r1 H6 s6 hc6 t6 e6=>?_⟩
    have fne:f≠0:=fun z=>lne (by rw [← hf,z,Int.zero_mul])
    unfold qeQ qeP
    have l6:r1.length≤1000:=by
      have:r1.length≤1000:=qti (b:=[]) t6 1000 fun k hk=>by
        rw [e6 k,qaE (a:=r) (by omega)]
        unfold upS
        split
        · rw [qaE (a:=qcT m) (by omega)];omega
        · omega
      exact this
    rwa [hc6,sfd]
    refine ⟨Int.ne_of_gt sh0,qnu BBd bfe,r1,rfl,l6,fun g H7 s7 gn gB gr _=>?_⟩
    have g0:0<g:=by
      rcases Int.lt_or_eq_of_le gn with z | z
      · exact z
      · exact absurd (Int.zero_dvd.mp (z ▸ gB)) (Int.mul_ne_zero S4.B0 fne)
    have hc7:=s7 _ _ hc6
    obtain ⟨S5,lt5⟩:=S4.step hm nm m1 cb2 bE rfl hrl hlead.symm htop.symm sh0 hf hw' t6 e6 g0 gB gr
    have r1l:(r1.map (· / g)).length=r1.length:=List.length_map ..
    unfold qeO qeN
    rwa [hc7]
    refine ⟨r1,rfl,.inl g0,by omega,fun c2 hc2=>⟨g0,?_⟩⟩
    have sc2:=qag hc2 (HO.lst ((r1.map (· / g)).map V.int))
    have s67:=s6.trans s7
    have s56:=s67.trans sc2
    exact ⟨r1.length,lt5,s5.trans s56,r1.map (· / g),rfl,(qav (s67 _ _ hw5) hc2).symm,_,s56 _ _ hw5,_,hn.tp (tpS s56),S5,r1l.symm⟩
  · have hrl:r.length<m.length:=by rw [List.length_map] at cc;omega
    obtain ⟨N,NN0,NB,Nb,Nq⟩:=S4.N
    have BBd:Bd 400000 B:=(qb7 (Int.ne_of_gt NN0) NB Nb).mono (Nat.le_trans (Nat.add_le_add_left (Nat.mul_le_mul_right _ (Nat.sub_le _ _)) _) hc)
    have qlen:=S4.ql
    unfold qhr
    rwa [hw4]
    refine ⟨qs,N4,by omega,fun t1 z1 H5 s5 h5 n5=>?_⟩
    have hc5:=s5 _ _ hc4
    rwa [hc5]
    have hlen4:=S4.len
    refine ⟨r,rfl,S4.B0,by omega,fun t2 z2 H6 s6 h6 n6=>⟨sz (by simp),fun t ht=>?_⟩⟩
    have st:=qag ht (HO.tup [V.ref t1,V.ref t2])
    have rlow:qaI (r.map fun n=>qcF n B):=fun q hq=>by obtain ⟨n,_,rfl⟩:=List.mem_map.mp hq;exact qeC S4.B0
    have rpv:∀ k,pwo (r.map fun n=>qcF n B) k=(r.getD k 0:Rat) / (B:Rat):=fun k=>by
      unfold pwo qaY
      rw [List.getD_eq_getElem?_getD,List.getD_eq_getElem?_getD,List.getElem?_map]
      cases r[k]? with
      | none=>exact (zdiv _).trans (zdiv _).symm
      | some z=>exact qeD S4.B0
    have Bo:=S4.rb
    have r0:r.length+1 - m.length=0:=by omega
    rw [r0,Nat.sub_zero] at Bo Nb
    have bB:Bd (c0+(l.length+1 - m.length)*d0) B:=qb7 (Int.ne_of_gt NN0) NB Nb
    obtain ⟨RO,RB⟩:=qpa S4.B0 Bo
    obtain ⟨TO,TB⟩:=qr7 RO RB
    refine k t t1 t2 _ (trim qs) (trim (r.map fun n=>qcF n B)) ((((s12.trans s4).trans s5).trans s6).trans st) qai (Pl.same ⟨z1,h5,n5⟩ (s6.trans st)) (Pl.same ⟨z2,h6,n6⟩ st) (fun q hq=>S4.low q (qcQ hq)) (qhg _) ?_ ⟨fun q hq=>rlow q (qcQ hq),qhg _,_,TO,bB.le (by omega),TB⟩ ?_ fun k=>?_
    · have:=qdO qs
      omega
    · have:=qdO (r.map fun n=>qcF n B)
      rw [List.length_map] at this
      omega
    · obtain ⟨d,hd⟩:∃ d,l.length+1 - m.length=(trim qs).length+d:=⟨l.length+1 - m.length - (trim qs).length,by have:=qdO qs;omega⟩
      rw [qjf rlow,rpv,S4.idn k,qmh (fun i=>(qjf S4.low i).symm),hd,qoA (fun i hi=>qcc hi)]
      rfl
theorem MR.trans {n M L:Nat→Rat} (h1:MR n M) (h2:MR M L):MR n L:=by
  obtain ⟨A,hA⟩:=h1
  obtain ⟨B,hB⟩:=h2
  exact ⟨qaX B A,fun k=>by rw [qaw,← qan hA,hB k]⟩
theorem MR.add {n F G L:Nat→Rat} (h1:MR n F) (h2:MR n G) (h:∀ k,L k=F k+G k):MR n L:=by
  obtain ⟨A,hA⟩:=h1
  obtain ⟨B,hB⟩:=h2
  exact ⟨qbd A B,fun k=>by rw [qaA,← hA k,← hB k,h k]⟩
theorem MR.smul {n F L:Nat→Rat} (h1:MR n F) (c:Rat) (h:∀ k,L k=c*F k):MR n L:=by
  obtain ⟨A,hA⟩:=h1
  exact ⟨A.map (c*·),fun k=>by rw [qaq,← hA k,h k]⟩
theorem MR.sub {n F G L:Nat→Rat} (h1:MR n F) (h2:MR n G) (h:∀ k,L k=F k - G k):MR n L:=
  h1.add (h2.smul (-1) (L:=fun k=>-1*G k) fun _=>rfl) fun k=>by rw [h k];grind
theorem qq9 (F G:Nat→Rat) (k:Nat):∀ n,cv F G n k=cvL ((List.range n).map F) G k
  | 0=>rfl
  | n+1=>by
    show cv F G n k+(if n≤k then F n*G (k - n) else 0)=_
    rw [qq9 F G k n,List.range_succ,List.map_append,List.map_singleton,qbu,List.length_map,List.length_range]
    unfold upS
    by_cases hk:n≤k
    · rw [if_pos hk,if_pos hk]
    · rw [if_neg hk,if_neg hk];grind
theorem qpc {F:Nat→Rat} {n:Nat} (h:∀ i,n≤i→F i=0) (k:Nat):F k=cvL ((List.range n).map F) qhi k:=by
  rw [qhj,List.getD_eq_getElem?_getD,List.getElem?_map]
  by_cases hk:k<n
  · rw [List.getElem?_range hk];rfl
  · rw [List.getElem?_eq_none (by rw [List.length_range];omega),h k (by omega)];rfl
theorem qr8 {F G:Nat→Rat} {n j:Nat} (hF:∀ i,n≤i→F i=0) (hG:∀ i,j≤i→G i=0) (k:Nat):cvL ((List.range n).map F) G k=cvL ((List.range j).map G) F k:=by
  rw [qan (qpc hG),qdQ,← qan (qpc hF)]
theorem MR.len {g h:List Int} (lg:Lz g) (lh:Lz h) (m:MR (pwo (mnc g)) (pwo (mnc h))):g.length≤h.length:=by
  rcases Nat.lt_or_ge h.length g.length with y | y
  · exfalso
    have g0:=lg.1
    have one:∀ {x:List Int},Lz x→pwo (mnc x) (x.length - 1)=1:=fun {x} lx=>by unfold pwo;rw [qmy lx];unfold val;show ((1:Int):Rat) / ((1:Int):Rat)=1;grind
    have z:=MR.short (n:=g.length - 1) (by rw [one lg];decide) (fun i hi=>qcc (by rw [qdY];omega)) m (fun k hk=>qcc (by rw [qdY];omega)) (h.length - 1)
    rw [one lh] at z
    exact absurd z (by decide)
  · exact y
theorem Gq.mono {b c b' c':Nat} {l:List Nu} (G:Gq b c l) (h1:b≤b') (h2:c≤c'):Gq b' c' l:=by
  obtain ⟨x,y,M,O,bM,bz⟩:=G
  exact ⟨x,y,M,O,bM.mono h2,fun z hz=>(bz z hz).mono h1⟩
theorem qqj {T:List Nu} {b c:Nat} (hT:qaI T) (nT:Nz T) {M:Int} (M0:0<M) (bM:Bd c M) {N:Nat→Int} (h:∀ k,pwo T k=(N k:Rat) / (M:Rat)) (hN:∀ k,Bd b (N k)):Gq b c T:=by
  have key:∀ q∈T,∃ k,q.2∣M∧q.1*(M / q.2)=N k:=fun q hq=>by
    obtain ⟨i,hi,rfl⟩:=List.getElem_of_mem hq
    have e:qaY T i=T[i]:=by unfold qaY;rw [List.getD_eq_getElem?_getD,List.getElem?_eq_getElem hi];rfl
    have hl:=hT _ hq
    have v:=h i
    unfold pwo at v
    rw [e] at v
    exact ⟨i,qlu hl (qhR (Int.ne_of_gt hl.pos) (Int.ne_of_gt M0) v)⟩
  refine ⟨hT,nT,M,⟨M0,fun q hq=>?_⟩,bM,fun z hz=>?_⟩
  · obtain ⟨k,a,_⟩:=key q hq;exact a
  · obtain ⟨q,hq,rfl⟩:=List.mem_map.mp hz
    obtain ⟨k,_,a⟩:=key q hq
    rw [a];exact hN k
theorem qqk (h:qfn K vs H Q E):qlg K { nx:=fun _ H'=>Q .non H',rt:=Q } (L2.start ["one", "other"] vs) H:=by
  obtain ⟨p,q,a,b,c,d,rfl,hp,hq,b0,d0,ba,bb,bc,bd,k⟩:=h
  unfold qlg
  rwa [hp,hq]
  exact ⟨qh8 ba bc,qh8 bb bd,Int.ne_of_gt (Int.mul_pos b0 d0),fun r hr=>by rw [qqa (Int.mul_pos b0 d0)];exact k r hr⟩
theorem qr9 (h:qe7 K vs H Q E):qoR K { nx:=fun _ H'=>Q .non H',rt:=Q } (L2.start ["one", "other"] vs) H:=by
  obtain ⟨p,q,a,b,c,d,rfl,hp,hq,b0,c0,ba,bb,bc,bd,k⟩:=h
  unfold qoR
  rwa [hp,hq]
  exact ⟨qh8 ba bd,qh8 bb bc,Int.mul_ne_zero (Int.ne_of_gt b0) c0,k⟩
theorem qlw (h:qbH K vs H Q E):qf6 K { nx:=fun _ H'=>Q .non H',rt:=Q } (L2.start ["P", "c"] vs) H:=by
  obtain ⟨p,c,xs,l,a,b,rfl,hp,hc,hN,hl,b0,ba,bb,bl,ll,k⟩:=h
  unfold qf6
  rwa [hp]
  have lx:=hN.length
  refine ⟨⟨_,SqT.of hp⟩,CompJ.tup (xs:=xs) (fun i ys H'=>i≤xs.length∧Same H H'∧Nums H' ys ((l.take i).map fun q=>nmul q (a,b))) ⟨Nat.zero_le _,Same.refl H,trivial⟩ ?_ ?_ ?_⟩
  · rintro i ys H' ⟨h1,s1,hZ⟩
    exact ⟨h1,sz (by rw [hZ.length,List.length_map,List.length_take];omega),s1 _ _ hp⟩
  · rintro i x ys H' hi ⟨h1,s1,hZ⟩
    obtain ⟨z,hz,p1,rfl,hp1⟩:=hN.get hi
    have hi2:i<xs.length:=(List.getElem?_eq_some_iff.mp hi).1
    have hp1':=s1 _ _ hp1
    have hc1:=s1 _ _ hc
    have zl:=hl z (List.mem_of_getElem? hz)
    have zb:=bl z (List.mem_of_getElem? hz)
    rwa [hp1',hc1]
    refine ⟨zl.pos,b0,zb.1,zb.2,ba,bb,fun r hr=>⟨by omega,s1.trans (qag hr _),?_⟩⟩
    rw [qbR _ hz]
    exact (hZ.tp (tpS (qag hr _))).append (Nums.one qoN)
  · rintro ys H' ⟨_,s1,hZ⟩ w hw
    have s2:=qag hw (HO.lst ys)
    rw [lx,List.take_length] at hZ
    rwa []
    exact ⟨_,hZ.tp (tpS s2),by rw [List.length_map];omega,fun r us H2 s3 hr hu=>k r us H2 ((s1.trans s2).trans s3) hr hu⟩
theorem qlx (h:qbI K vs H Q E):qf8 K { nx:=fun _ H'=>Q .non H',rt:=Q } (L2.start ["P", "Q"] vs) H:=by
  obtain ⟨p,q,xs,ys,l,m,b,c,d,e,rfl,hp,hq,hN,hM,Gl,Gm,m0,ll,lm,z1,z2,z3,z4,mr,k⟩:=h
  unfold qf8
  rwa [hp,hq]
  refine ⟨l,hN,m,hM,b,c,Gl,d,e,Gm,m0,ll,lm,z1,z2,z3,z4,fun t u v H1 qs rs s1 ht hu hv lq nq q9 Gr r9 eq=>?_⟩
  have z0:∀ k,pwo rs k=0:=by
    have mr2:MR (pwo m) (pwo rs):=mr.sub (qt6 (P:=fun k=>cv (pwo qs) (pwo m) qs.length k) qs.length (fun k=>rfl)) fun k=>by have:=eq k;show pwo rs k=pwo l k - cv (pwo qs) (pwo m) qs.length k;grind
    refine fun k=>MR.short (qeG Gm.low Gm.nz m0) (fun i hi=>qcc (by omega)) mr2 (fun k hk=>qcc (by omega)) k
  rwa [ht]
  exact k u qs H1 s1 hu lq nq q9 fun k=>by rw [eq k,z0 k];grind
theorem qpd:((qhi 0:Rat)≠0)∧∀ i,0<i→(qhi i:Rat)=0:=by
  refine ⟨by decide,fun i hi=>?_⟩
  cases i with
  | zero=>omega
  | succ i=>rfl
theorem qly {G:Nat→Rat} {n:Nat} (h0:G n≠0) (hG:∀ i,n<i→G i=0) {A B:List Rat} (h:∀ k,cvL A G k=cvL B G k) (g:Nat→Rat) (k:Nat):cvL A g k=cvL B g k:=by
  have z:=qjD (g:=g) (qbd A (B.map ((-1:Rat)*·))) (qo6 h0 hG _ fun k _=>by rw [qaA,qaq,h k];grind) k
  rw [qaA,qaq] at z
  grind
theorem qra {A B:List Rat} (h:∀ k,cvL A qhi k=cvL B qhi k) (g:Nat→Rat) (k:Nat):cvL A g k=cvL B g k:=qly qpd.1 qpd.2 h g k
theorem qhT (l:List Nu) (k:Nat):cvL (rw' l) qhi k=pwo l k:=(qpc (fun i hi=>qcc hi) k).symm
theorem qpe (l:List Nu) (g:Nat→Rat) (k:Nat):cv (pwo l) g l.length k=cvL (rw' l) g k:=qq9 _ _ k _
theorem qtk (l m:List Nu) (k:Nat):cvL (rw' l) (pwo m) k=cvL (rw' m) (pwo l) k:=qr8 (fun i hi=>qcc hi) (fun i hi=>qcc hi) k
theorem qtl {L M G T B:Nat→Rat} {t b U W:List Rat} {n:Nat} (hT:∀ k,cvL t qhi k=T k) (hB:∀ k,cvL b qhi k=B k) (h0:G n≠0) (hG:∀ i,n<i→G i=0)
    (eL:∀ k,L k=cvL t G k) (eM:∀ k,M k=cvL b G k) (e:∀ k,G k=cvL U L k+cvL W M k):Cop T B:=by
  refine ⟨U,W,fun k=>?_⟩
  have z:=qly h0 hG (A:=[1]) (B:=qbd (qaX U t) (qaX W b)) (fun k=>by
    rw [qaA,qaw,qaw,← qan eL,← qan eM,← e k]
    cases k with
    | zero=>rw [qaB];grind
    | succ k=>rw [qay,qaP];grind) qhi k
  rw [qaA,qaw,qaw,qan hT,qan hB] at z
  rw [← z,qhj]
  cases k with
  | zero=>rfl
  | succ k=>rfl
theorem Cop.scal {T B T' B':Nat→Rat} {s:Rat} (s0:s≠0) (h:Cop T B) (hT:∀ k,T' k=s*T k) (hB:∀ k,B' k=s*B k):Cop T' B':=by
  obtain ⟨U,W,e⟩:=h
  refine ⟨U.map (s⁻¹*·),W.map (s⁻¹*·),fun k=>?_⟩
  rw [qaq,qaq,qan hT,qan hB,qbk,qbk,e k]
  have:s⁻¹*s=1:=Rat.inv_mul_cancel s s0
  grind
theorem Cop.mr {T B n:Nat→Rat} (h:Cop T B) (h1:MR n T) (h2:MR n B):MR n qhi:=by
  obtain ⟨U,W,e⟩:=h
  obtain ⟨A,hA⟩:=h1
  obtain ⟨C,hC⟩:=h2
  exact ⟨qbd (qaX U A) (qaX W C),fun k=>by rw [qaA,qaw,qaw,← qan hA,← qan hC,e k]⟩
theorem qtm {l m:List Nu} {g:List Int} (hl:qaI l) (hm:qaI m) (R:RC (co (qcT l)) (co (qcT m)) g):∃ U W:List Rat,∀ k,pwo (mnc g) k=cvL U (pwo l) k+cvL W (pwo m) k:=by
  obtain ⟨d,d0,U,W,hU⟩:=R.qi
  have d1:=qa3 d0
  have l1:=qo9 hl
  have m1:=qo9 hm
  refine ⟨(U.map fun z:Int=>(z:Rat)).map (((co g (g.length - 1):Rat))⁻¹*(d:Rat)⁻¹*(((qcE l:Rat))⁻¹)⁻¹*·),(W.map fun z:Int=>(z:Rat)).map (((co g (g.length - 1):Rat))⁻¹*(d:Rat)⁻¹*(((qcE m:Rat))⁻¹)⁻¹*·),fun k=>?_⟩
  have e:(d:Rat)*(co g k:Rat)=((cvL U (co (qcT l)) k:Int):Rat)+((cvL W (co (qcT m)) k:Int):Rat):=by exact_mod_cast hU k
  rw [qiK l1 (qhS hl),qiK m1 (qhS hm)] at e
  rw [qaq,qaq,qkz R.lz]
  generalize cvL (U.map fun z:Int=>(z:Rat)) (pwo l) k=x at e ⊢
  generalize cvL (W.map fun z:Int=>(z:Rat)) (pwo m) k=y at e ⊢
  generalize ((qcE l:Rat)⁻¹)⁻¹=u at e ⊢
  generalize ((qcE m:Rat)⁻¹)⁻¹=v at e ⊢
  have i:(d:Rat)⁻¹*(d:Rat)=1:=Rat.inv_mul_cancel _ d1
  have:(co g k:Rat)=(d:Rat)⁻¹*(u*x+v*y):=by rw [← e];grind
  rw [this];grind
theorem qtn {B B':List Nu} (lb:qaI B) (lb':qaI B') (nb:Nz B) (nb':Nz B') (b0:B≠[]) (b0':B'≠[]) (h:MR (pwo B) (pwo B')):B.length≤B'.length:=by
  rcases Nat.lt_or_ge B'.length B.length with c | c
  · exact absurd (MR.short (qeG lb nb b0) (fun i hi=>qcc (by omega)) h (fun k hk=>qcc (by omega)) (B'.length - 1)) (qeG lb' nb' b0')
  · exact c
theorem qpf {l R0:List Nu} {g:List Int} {b n c:Nat} (hl:qaI l) (lR:qaI R0) (hb:∀ z∈qcT l,Bd b z) (ln:l.length≤n) (hn:n<2 ^ c) (lg:Lz g) (P:Prim g) (m:MQ (co g) (co (qcT l))) (e:∀ k,pwo l k=cv (pwo R0) (pwo (mnc g)) R0.length k) :
    ∃ A:List Int,(∀ k,Bd (b+n*(2*c+4)) (co A k))∧∀ k,pwo R0 k=((co g (g.length - 1):Rat))*(co A k:Rat)*((qcE l:Rat))⁻¹:=by
  obtain ⟨A,hA⟩:=gauss P m
  refine ⟨A,qlq hb (by rw [qbF];exact ln) hn lg hA,fun k=>?_⟩
  have g1:=qa3 lg.2
  have top:pwo (mnc g) (g.length - 1)≠0:=by rw [qkz lg];grind
  have hi:∀ i,g.length - 1<i→pwo (mnc g) i=0:=fun i hi=>qcc (by rw [qdY];omega)
  have z:=qly top hi (A:=rw' R0) (B:=(A.map fun z:Int=>(z:Rat)).map ((co g (g.length - 1):Rat)*((qcE l:Rat))⁻¹*·)) (fun k=>by
    rw [← qpe,← e k,qaq,qhS hl,hA k,qiK (qlv lg) (qkz lg)]
    grind) qhi k
  rw [qhT,qaq,qhj,List.getD_eq_getElem?_getD,List.getElem?_map] at z
  rw [z]
  unfold co
  rw [List.getD_eq_getElem?_getD (l:=A)]
  cases A[k]? with
  | none=>show _*(0:Rat)=_*((0:Int):Rat)*_;grind
  | some v=>show _*(v:Rat)=_*(v:Rat)*_;grind
theorem qmB {l:List Nu} {a b:Int} (hl:qaI l) (b0:0<b) (k:Nat):pwo (l.map fun q=>nmul q (a,b)) k=val (a,b)*pwo l k:=by
  unfold pwo qaY
  rw [List.getD_eq_getElem?_getD,List.getD_eq_getElem?_getD,List.getElem?_map]
  cases e:l[k]? with
  | none=>
    show val (0,1)=_*val (0,1)
    have:val (0,1)=0:=by unfold val;exact zdiv _
    rw [this];grind
  | some q=>
    show val (nmul q (a,b))=_*val q
    rw [qje (hl q (List.mem_of_getElem? e)).pos b0];grind
theorem qmC {l:List Nu} {a b:Int} (hl:qaI l) (b0:0<b):qaI (l.map fun q=>nmul q (a,b)):=fun q hq=>by
  obtain ⟨z,hz,rfl⟩:=List.mem_map.mp hq
  exact qdN (hl z hz).pos b0
theorem Bx.same {H H':Hp} {p:Addr} (h:Bx H p) (s:Same H H'):Bx H' p:=let ⟨z,e⟩:=h;⟨z,s _ _ e⟩
theorem Bx.tp {H H':Hp} {p:Addr} (h:Bx H p) (k:Kp p H H'):Tp H H':=let ⟨_,e⟩:=h;k.tp e
theorem qsa {H:Hp} {p:Addr} (h:H p=some (.tup [.int 1,.int 1])):isN H (.ref p) (1,1):=⟨p,rfl,h⟩
theorem qql:Low 1 1:=⟨by decide,by decide⟩
theorem bdc {n:Nat} {x:Int} (h:x.natAbs<2 ^ n):Bd n x:=h
theorem qup {T:List Nu} {D c:Nat} (lT:qaI T) (nT:Nz T) {a Bl Bm:Int} {A:List Int} (a0:a≠0) (bl0:0<Bl) (ba:Bd D a) (bBl:Bd c Bl) (bBm:Bd c Bm) (bA:∀ k,Bd D (co A k)) (h:∀ k,pwo T k*((a:Rat)*(Bl:Rat))=(Bm:Rat)*(co A k:Rat)):Gq (D+c) (D+c) T:=by
  have z1:=qa3 a0
  have z2:=qa3 (Int.ne_of_gt bl0)
  rcases Int.lt_or_gt_of_ne a0 with n | n
  · refine qqj lT nT (M:=-a*Bl) (Int.mul_pos (by omega) bl0) (ba.neg.mul bBl) (N:=fun k=>-(co A k*Bm)) (fun k=>?_) fun k=>((bA k).mul bBm).neg
    have:=h k
    push_cast
    rw [Rat.div_def]
    have z3:(-(a:Rat)*(Bl:Rat))*(-(a:Rat)*(Bl:Rat))⁻¹=1:=Rat.mul_inv_cancel _ (by grind)
    grind
  · refine qqj lT nT (M:=a*Bl) (Int.mul_pos n bl0) (ba.mul bBl) (N:=fun k=>co A k*Bm) (fun k=>?_) fun k=>(bA k).mul bBm
    have:=h k
    push_cast
    rw [Rat.div_def]
    have z3:((a:Rat)*(Bl:Rat))*((a:Rat)*(Bl:Rat))⁻¹=1:=Rat.mul_inv_cancel _ (by grind)
    grind
theorem qpg (h:qc4 K vs H Q E):qjp K { nx:=fun _ H'=>Q .non H',rt:=Q } (L2.start ["P", "Q", "factor"] vs) H:=by
  obtain ⟨p,q,l,m,rfl,⟨xs,hp,hN⟩,⟨ys,hq,hM⟩,ll,lm,nm,m0,bl,bm,l9,m9,k⟩:=h
  have p1:0<m.length:=List.length_pos_iff.mpr m0
  obtain ⟨v,hv,pv,rfl,hpv⟩:=hM.at (i:=m.length - 1) (by omega) (0,1)
  have at1:atI ys (-1)=some (V.ref pv):=atI_last (by rw [hM.length];exact p1) (by rw [hM.length];exact hv)
  have lL:Low (qaY m (m.length - 1)).1 (qaY m (m.length - 1)).2:=qbN lm _
  have tn:=qo8 nm m0
  have mL:qaY m (m.length - 1)∈m:=by
    unfold qaY
    rw [List.getD_eq_getElem?_getD,List.getElem?_eq_getElem (by omega)]
    exact List.getElem_mem _
  have bL:=bm _ mL
  have hpv:H pv=some (HO.tup [V.int (qaY m (m.length - 1)).1,V.int (qaY m (m.length - 1)).2]):=hpv
  generalize hla:qaY m (m.length - 1)=la at hpv lL tn bL k
  unfold qjp
  rwa []
  refine ⟨sz (by decide),fun w hw=>?_⟩
  have s3:=qag hw (HO.tup [V.int 1,V.int 1])
  have hq3:=s3 _ _ hq
  have hpv3:=s3 _ _ hpv
  have hw3:upd H w (HO.tup [V.int 1,V.int 1]) w=some (HO.tup [V.int 1,V.int 1]):=qai
  generalize upd H w (HO.tup [V.int 1,V.int 1])=H3 at s3 hq3 hpv3 hw3 ⊢
  refine ⟨_,hq3,_,at1,_,rfl,?_⟩
  rwa [hpv3,hw3]
  have b1:Bd 60000000 1:=(bdc (n:=1) (by decide)).mono (by decide)
  refine ⟨by decide,tn,b1,b1,bL.1.mono (by decide),bL.2.mono (by decide),fun f hf=>?_⟩
  rw [Int.one_mul,Int.one_mul]
  have fl:=qeC (n:=la.2) tn
  have fb:=qox tn bL.2 bL.1
  have fv:val (qcF la.2 la.1)*val la=1:=by
    have z1:=qa3 tn
    have z2:=qa3 (Int.ne_of_gt lL.pos)
    rw [qeD tn];unfold val;grind
  generalize qcF la.2 la.1=fa at fl fb fv ⊢
  have s4:=qag hf (HO.tup [V.int fa.1,V.int fa.2])
  have hf4:upd H3 f (HO.tup [V.int fa.1,V.int fa.2]) f=some (HO.tup [V.int fa.1,V.int fa.2]):=qai
  generalize upd H3 f (HO.tup [V.int fa.1,V.int fa.2])=H4 at s4 hf4 ⊢
  have s34:=s3.trans s4
  have hp4:=s34 _ _ hp
  rwa [hp4,hf4]
  refine ⟨l,hN.tp (tpS s34),ll,fl.pos,fb.1.mono (by decide),fb.2.mono (by decide),fun q hq=>⟨(bl q hq).1.mono (by decide),(bl q hq).2.mono (by decide)⟩,by omega,fun u us H6 s6 hu nu=>?_⟩
  have s36:=s34.trans s6
  refine ⟨_,s36 _ _ hq,m,fa.1,fa.2,s6 _ _ hf4,hM.tp (tpS s36),lm,fl.pos,fb.1.mono (by decide),fb.2.mono (by decide),fun q hq=>⟨(bm q hq).1.mono (by decide),(bm q hq).2.mono (by decide)⟩,by omega,fun v vs H7 s7 hv nv=>⟨sz (by decide),fun t ht=>?_⟩⟩
  have st:=qag ht (HO.tup [V.ref u,V.ref v])
  exact k fa fl fv t u v _ ((s36.trans s7).trans st) qai ⟨us,st _ _ (s7 _ _ hu),(nu.tp (tpS s7)).tp (tpS st)⟩ ⟨vs,st _ _ hv,nv.tp (tpS st)⟩
theorem qlz (h:qbZ K vs H Q E):qf7 K { nx:=fun _ H'=>Q .non H',rt:=Q } (L2.start ["P", "Q", "shared"] vs) H:=by
  obtain ⟨p,q,l,m,b,c,n,e,rfl,⟨xs,hp,hN⟩,⟨ys,hq,hM⟩,Gl,Gm,m0,ln,mn,Z,k⟩:=h
  obtain ⟨D,eD⟩:∃ D,D=D1 b n e:=⟨_,rfl⟩
  rw [← eD] at k
  have zD:(n+2)*(D+1)≤200000:=by rw [eD];exact Z.dv
  have bD:b≤D:=by rw [eD];exact Nat.le_add_right _ _
  have n20:=Z.n20
  have n2':=Z.n2
  have c9:=Z.cc
  unfold qf7
  rwa [hp,hq]
  refine ⟨l,hN,m,hM,b,c,Gl,Gm,n,ln,mn,n20,n2',e,Z.ne,Z.lu,by omega,fun em=>?_,fun _ z=>absurd z m0,fun _ g R P r zs H1 s1 hr hz=>?_⟩
  · have h1:2*3 ^ (l.length+m.length)≤2*3 ^ n:=Nat.mul_le_mul_left 2 (Nat.pow_le_pow_right (by decide) (by
      rcases em with z | z
      · rw [z];simpa using mn
      · exact absurd z m0))
    exact Nat.le_trans (Nat.mul_le_mul_right _ h1) Z.em
  have lg:=R.lz
  have lzm:Lz (qcT m):=qky (qgg Gm.low Gm.nz) fun z=>m0 (List.length_eq_zero_iff.mp (by rw [← qbF,z];rfl))
  have gl:g.length≤m.length:=by have:=qku lg lzm R.right;rwa [qbF] at this
  have n8:=Z.ne
  have bg:∀ k,Bd D (co g k):=by
    obtain ⟨A,hA⟩:=gauss P R.right
    rw [eD];exact qge Gm.clr.1 ⟨_,lzm.2⟩ (by rw [qbF];exact mn) (by omega) n8 hA
  have Gg:Gq D D (mnc g):=⟨qlt lg,qo4 lg,_,(qpa lg.2 (qo1 bg)).1,(bg (g.length - 1)).le (by omega),(qpa lg.2 (qo1 bg)).2⟩
  have g0:mnc g≠[]:=List.length_pos_iff.mp (by rw [qdY];exact lg.1)
  have M1:MR (pwo (mnc g)) (pwo l):=MR.of (qlv lg) (qhS Gl.low) (qkz lg) R.left
  have M2:MR (pwo (mnc g)) (pwo m):=MR.of (qlv lg) (qhS Gm.low) (qkz lg) R.right
  have D9:D≤200000:=by have:1*(D+1)≤(n+2)*(D+1):=Nat.mul_le_mul_right _ (by omega)
                       omega
  have zz:∀ x,x≤n+1→x*D≤200000∧x*(D+1)≤200000:=fun x hx=>by
    have h1:x*(D+1)≤(n+2)*(D+1):=Nat.mul_le_mul_right _ (by omega)
    have h2:x*D≤x*(D+1):=Nat.mul_le_mul_left _ (by omega)
    omega
  have hp1:=s1 _ _ hp
  rwa [hr,hp1]
  have e1:=(zz (l.length+1 - (mnc g).length) (by omega)).1
  have e2:=(zz (l.length+1 - (mnc g).length) (by omega)).2
  refine ⟨l,hN.tp (tpS s1),mnc g,hz,b,c,Gl,D,D,Gg,g0,by omega,by rw [qdY];omega,by omega,by omega,by omega,by omega,M1,fun r0 R0 H2 s2 ⟨zs0,h0,n0⟩ lR0 nR0 lenR0 eR0=>?_⟩
  obtain ⟨A0,bA0,eA0⟩:=qpf Gl.low lR0 Gl.clr.1 ln n8 lg P R.left eR0
  have bA0:∀ k,Bd D (co A0 k):=by rw [eD];exact bA0
  have G0:Gq (D+D) c R0:=qqj lR0 nR0 (qbT Gl.low).1 Gl.clr.2.1 (N:=fun k=>co g (g.length - 1)*co A0 k) (fun k=>by rw [eA0,Rat.div_def];push_cast;rfl) fun k=>Bd.mul (bg _) (bA0 k)
  have bds0:∀ q∈R0,Bd (D+D) q.1∧Bd c q.2:=fun q hq=>⟨G0.clr.2.2 q hq,by
    obtain ⟨M,O,bM,_⟩:=G0.ov
    exact qb7 (Int.ne_of_gt O.1) (O.2 q hq) bM⟩
  have s02:=s1.trans s2
  have hq2:=s02 _ _ hq
  have hr2:=s2 _ _ hr
  rwa [hq2,hr2]
  have e1:=(zz (m.length+1 - (mnc g).length) (by omega)).1
  have e2:=(zz (m.length+1 - (mnc g).length) (by omega)).2
  refine ⟨m,hM.tp (tpS s02),mnc g,hz.tp (tpS s2),b,c,Gm,D,D,Gg,g0,by omega,by rw [qdY];omega,by omega,by omega,by omega,by omega,M2,fun r1 R1 H3 s3 ⟨zs1,h1,n1⟩ lR1 nR1 lenR1 eR1=>?_⟩
  obtain ⟨A1,bA1,eA1⟩:=qpf Gm.low lR1 Gm.clr.1 mn n8 lg P R.right eR1
  have bA1:∀ k,Bd D (co A1 k):=by rw [eD];exact bA1
  have R1n:R1≠[]:=fun z=>by
    have:=eR1 (m.length - 1)
    rw [z] at this
    exact qeG Gm.low Gm.nz m0 this
  have G1:Gq (D+D) c R1:=qqj lR1 nR1 (qbT Gm.low).1 Gm.clr.2.1 (N:=fun k=>co g (g.length - 1)*co A1 k) (fun k=>by rw [eA1,Rat.div_def];push_cast;rfl) fun k=>Bd.mul (bg _) (bA1 k)
  have p1:0<R1.length:=List.length_pos_iff.mpr R1n
  have bds:∀ q∈R1,Bd (D+D) q.1∧Bd c q.2:=fun q hq=>⟨G1.clr.2.2 q hq,by
    obtain ⟨M,O,bM,_⟩:=G1.ov
    exact qb7 (Int.ne_of_gt O.1) (O.2 q hq) bM⟩
  have l0:=lenR0
  refine ⟨R0,⟨zs0,s3 _ _ h0,n0.tp (tpS s3)⟩,R1,⟨zs1,h1,n1⟩,lR0,lR1,nR1,R1n,fun q hq=>⟨(bds0 q hq).1.mono (by omega),(bds0 q hq).2.mono (by omega)⟩,fun q hq=>⟨(bds q hq).1.mono (by omega),(bds q hq).2.mono (by omega)⟩,by omega,by omega,fun fa fl fv t u v H4 s4 ht ⟨us,hu,nu⟩ ⟨vs,hv,nv⟩=>?_⟩
  generalize hla:qaY R1 (R1.length - 1)=la at fv
  have lowT:=qmC (a:=fa.1) lR0 fl.pos
  have lowB:=qmC (a:=fa.1) lR1 fl.pos
  have eT:∀ k,pwo (trim (R0.map fun q=>nmul q (fa.1,fa.2))) k=val fa*pwo R0 k:=fun k=>(qjf lowT k).trans (qmB lR0 fl.pos k)
  have eB:∀ k,pwo (trim (R1.map fun q=>nmul q (fa.1,fa.2))) k=val fa*pwo R1 k:=fun k=>(qjf lowB k).trans (qmB lR1 fl.pos k)
  have tlen:(trim (R0.map fun q=>nmul q (fa.1,fa.2))).length≤R0.length:=Nat.le_trans (qdO _) (by rw [List.length_map];exact Nat.le_refl _)
  have blen:(trim (R1.map fun q=>nmul q (fa.1,fa.2))).length≤R1.length:=Nat.le_trans (qdO _) (by rw [List.length_map];exact Nat.le_refl _)
  have lT:qaI (trim (R0.map fun q=>nmul q (fa.1,fa.2))):=fun q hq=>lowT q (qcQ hq)
  have lB:qaI (trim (R1.map fun q=>nmul q (fa.1,fa.2))):=fun q hq=>lowB q (qcQ hq)
  have nT:=qhg (R0.map fun q=>nmul q (fa.1,fa.2))
  have nB:=qhg (R1.map fun q=>nmul q (fa.1,fa.2))
  generalize trim (R0.map fun q=>nmul q (fa.1,fa.2))=T at nu eT tlen lT nT
  generalize trim (R1.map fun q=>nmul q (fa.1,fa.2))=B at nv eB blen lB nB
  have s0:val fa≠0:=fun z=>by rw [z] at fv;grind
  have la1:pwo R1 (R1.length - 1)=val la:=by unfold pwo;rw [hla]
  have tB:pwo B (R1.length - 1)=1:=by rw [eB,la1];exact fv
  have lenB:B.length=R1.length:=by
    rcases Nat.lt_or_ge (R1.length - 1) B.length with z | z
    · omega
    · rw [qcc z] at tB;exact absurd tB (by decide)
  obtain ⟨U,W,eU⟩:=qtm Gl.low Gm.low R
  have gtop:pwo (mnc g) ((mnc g).length - 1)≠0:=qeG (qlt lg) (qo4 lg) g0
  have oT:∀ g k,cvL (rw' T) g k=val fa*cvL (rw' R0) g k:=fun g k=>by rw [← qaq];exact qra (fun k=>by rw [qaq,qhT,qhT,eT]) g k
  have oB:∀ g k,cvL (rw' B) g k=val fa*cvL (rw' R1) g k:=fun g k=>by rw [← qaq];exact qra (fun k=>by rw [qaq,qhT,qhT,eB]) g k
  have c0:∀ k,pwo l k=cvL (rw' R0) (pwo (mnc g)) k:=fun k=>(eR0 k).trans (qpe _ _ _)
  have c1:∀ k,pwo m k=cvL (rw' R1) (pwo (mnc g)) k:=fun k=>(eR1 k).trans (qpe _ _ _)
  have aj:co A1 (R1.length - 1)≠0:=fun z=>by
    have:=eA1 (R1.length - 1)
    rw [la1,z] at this
    rw [this] at fv
    have z0:((0:Int):Rat)=0:=rfl
    rw [z0] at fv
    grind
  have hs:val fa*((co g (g.length - 1):Rat)*(co A1 (R1.length - 1):Rat)*((qcE m:Rat))⁻¹)=1:=by rw [← eA1,la1];exact fv
  have il:((qcE l:Rat))⁻¹*(qcE l:Rat)=1:=Rat.inv_mul_cancel _ (qa3 (Int.ne_of_gt (qbT Gl.low).1))
  have im:((qcE m:Rat))⁻¹*(qcE m:Rat)=1:=Rat.inv_mul_cancel _ (qa3 (Int.ne_of_gt (qbT Gm.low).1))
  have GT:Gq (D+c) (D+c) T:=qup lT nT aj (qbT Gl.low).1 (bA1 _) Gl.clr.2.1 Gm.clr.2.1 bA0 fun k=>by
    rw [eT,eA0];grind
  have GB:Gq (D+c) (D+c) B:=qup lB nB aj (qbT Gm.low).1 (bA1 _) Gm.clr.2.1 Gm.clr.2.1 bA1 fun k=>by
    rw [eB,eA1];grind
  have s04:=(s02.trans s3).trans s4
  refine k t u v H4 T B s04 ht ⟨us,hu,nu⟩ ⟨vs,hv,nv⟩ ⟨fun k=>?_,?_,?_⟩ ⟨GT,GB,List.length_pos_iff.mp (by omega),?_,?_⟩
  · rw [qpe,qpe,qtk l B,oT,oB,qan c1,qan c0,qdQ]
  · have:=lg.1;rw [qdY] at lenR0;omega
  · have:=lg.1;rw [qdY] at lenR1;omega
  · refine qjc (qbN lB _) qql ?_
    have:val ((1:Int),(1:Int))=1:=by unfold val;show ((1:Int):Rat) / ((1:Int):Rat)=1;rw [show ((1:Int):Rat)=1 from rfl];grind
    rw [this,lenB];exact tB
  · exact (qtl (t:=rw' R0) (b:=rw' R1) (qhT R0) (qhT R1) gtop (fun i hi=>qcc (by omega)) c0 c1 eU).scal s0 eT eB
theorem lcv (a b:List Rat) (c:Nat→Rat):cvL a (cvL b c)=cvL b (cvL a c):=funext (qdQ c a b)
theorem addv (a:List Rat) (f g:Nat→Rat):cvL a (fun k=>f k+g k)=fun k=>cvL a f k+cvL a g k:=funext (qej f g a)
theorem smulv (a:List Rat) (s:Rat) (f:Nat→Rat):cvL a (fun k=>s*f k)=fun k=>s*cvL a f k:=funext (qbk s f a)
theorem mulv (a b:List Rat) (g:Nat→Rat):cvL (qaX a b) g=cvL a (cvL b g):=funext (qaw g a b)
noncomputable def CopL (x y:List Rat):Prop:=∃ U W:List Rat,∀ (g:Nat→Rat) (k:Nat),g k=cvL U (cvL x g) k+cvL W (cvL y g) k
theorem CopL.mul {x y z:List Rat} (h:CopL x y) (h':CopL x z):CopL x (qaX y z):=by
  obtain ⟨U,W,e⟩:=h
  obtain ⟨U',W',e'⟩:=h'
  refine ⟨qbd U (qaX (qaX W U') y),qaX W W',fun g k=>?_⟩
  rw [qaA,mulv,mulv,mulv,mulv]
  have h1:=e g k
  have h2:cvL y g=fun k=>cvL U' (cvL x (cvL y g)) k+cvL W' (cvL z (cvL y g)) k:=funext (e' (cvL y g))
  rw [h2,addv] at h1
  rw [h1,lcv z y g,lcv x y g]
  grind
theorem CopL.add {x y z c:List Rat} (h:CopL x y) (e:∀ g k,cvL z g k=cvL x g k+cvL c (cvL y g) k):CopL z y:=by
  obtain ⟨U,W,q⟩:=h
  refine ⟨U,qbd W ((qaX U c).map ((-1:Rat)*·)),fun g k=>?_⟩
  have ez:cvL z g=fun k=>cvL x g k+cvL c (cvL y g) k:=funext (e g)
  rw [qaA,qaq,mulv,ez,addv]
  have:=q g k
  grind
theorem CopL.congr {x y x' y':List Rat} (h:CopL x y) (hx:∀ g,cvL x' g=cvL x g) (hy:∀ g,cvL y' g=cvL y g):CopL x' y':=by
  obtain ⟨U,W,q⟩:=h
  exact ⟨U,W,fun g k=>by rw [hx,hy];exact q g k⟩
theorem CopL.smul {x y x':List Rat} {s:Rat} (s0:s≠0) (h:CopL x y) (hx:∀ g k,cvL x' g k=s*cvL x g k):CopL x' y:=by
  obtain ⟨U,W,q⟩:=h
  refine ⟨U.map (s⁻¹*·),W,fun g k=>?_⟩
  have e:cvL x' g=fun k=>s*cvL x g k:=funext (hx g)
  rw [qaq,e,smulv]
  have:s⁻¹*s=1:=Rat.inv_mul_cancel s s0
  have:=q g k
  grind
theorem Fq.mono {b c b' c':Nat} {T B:List Nu} (h:Fq b c T B) (h1:b≤b') (h2:c≤c'):Fq b' c' T B:=⟨h.gt.mono h1 h2,h.gb.mono h1 h2,h.ne,h.one,h.cop⟩
theorem FF.same {H H':Hp} {p:Addr} {T B:List Nu} (h:FF H p T B) (s:Same H H'):FF H' p T B:=let ⟨u,v,a,b,c⟩:=h;⟨u,v,s _ _ a,b.same s,c.same s⟩
theorem Pl.tp' {H H':Hp} {r:Addr} {l:List Nu} (h:Pl H r l) (t:Tp H H'):Pl H' r l:=let ⟨zs,e,n⟩:=h;⟨zs,t _ _ e,n.tp t⟩
theorem FF.tp' {H H':Hp} {r:Addr} {T B:List Nu} (h:FF H r T B) (t:Tp H H'):FF H' r T B:=let ⟨u,v,a,b,c⟩:=h;⟨u,v,t _ _ a,b.tp' t,c.tp' t⟩
theorem quJ {a b:Int} (h1:-18446744073709551616<b) (h2:b<18446744073709551616):IntMulOk a b:=IntMulOk.of_right (intBits_le_64 (by omega) (by omega))
theorem quq {a b:Int} (h1:-18446744073709551616<a) (h2:a<18446744073709551616):IntMulOk a b:=IntMulOk.of_left (intBits_le_64 (by omega) (by omega))
theorem qjE {ns:List Int} {k:Int} (h0:0≤k) (h:k<(ns.length:Int)):∃ v:Int,atI (ns.map V.int) k=some (.int v):=by
  have hk:k.toNat<ns.length:=by omega
  have ek:k=((k.toNat:Nat):Int):=by omega
  have q:atI (ns.map V.int) ((k.toNat:Nat):Int)=some (.int ns[k.toNat]):=qiQ (by rw [List.getElem?_map,List.getElem?_eq_getElem hk] <;> rfl)
  rw [← ek] at q
  exact ⟨_,q⟩
theorem qqm (h:qdS K vs H Q E):qli K { nx:=fun _ H'=>Q .non H',rt:=Q } (L2.start ["_law_script", "_law_k", "_law_cell", "_law_plain"] vs) H:=by
  obtain ⟨s,ns,k,rfl,hS,k0,k1,q⟩:=h
  unfold qli
  rwa []
  have fin:∀ (cell:Int) (pl:Bool),IntMulOk (if cell<0 then -cell else cell) (if pl=true then 1 else 0)∧IntMulOk 7 k∧3≤sizeLine∧∀ (p:Addr),H p=none→Q (V.ref p) (upd H p (HO.lst [V.int ((if cell<0 then -cell else cell)*if pl=true then 1 else 0),V.int (if cell<0 then -cell else cell),V.int (7*k)])):=fun cell pl=>by
    have c0:0≤(if cell<0 then -cell else cell):=by split <;> omega
    refine ⟨quJ (by split <;> decide) (by split <;> decide),quq (by decide) (by decide),sz (by decide),fun p hp=>q p _ hp Kp.upd ⟨_,_,_,qai,?_,c0,by omega,by omega⟩⟩
    exact Int.mul_nonneg c0 (by split <;> decide)
  refine ⟨_,hS,qbU (fun c=>?_) (fun c=>?_)⟩
  · rw [List.length_map] at c
    obtain ⟨v,hv⟩:=qjE (ns:=ns) k0 c
    refine ⟨_,hS,_,hv,_,hS,qbU (fun c2=>?_) (fun c2=>?_)⟩
    · rw [List.length_map] at c2
      obtain ⟨w,hw⟩:=qjE (ns:=ns) (Int.le_refl 0) c2
      have f:=fin v (decide (w % 2=0))
      simp only [decide_eq_true_eq] at f
      exact ⟨_,hS,_,hw,w,rfl,by decide,v,rfl,f.1,v,rfl,f.2⟩
    · have f:=fin v false
      simp only [Bool.false_eq_true,if_false] at f
      exact ⟨v,rfl,f.1,v,rfl,f.2⟩
  · refine ⟨_,hS,qbU (fun c2=>?_) (fun c2=>?_)⟩
    · rw [List.length_map] at c2
      obtain ⟨w,hw⟩:=qjE (ns:=ns) (Int.le_refl 0) c2
      have f:=fin 0 (decide (w % 2=0))
      simp only [decide_eq_true_eq] at f
      exact ⟨_,hS,_,hw,w,rfl,by decide,f⟩
    · have f:=fin 0 false
      simp only [Bool.false_eq_true,if_false] at f
      exact f
theorem qph (h:qaO K vs H Q E):qjt K { nx:=fun _ H'=>Q .non H',rt:=Q } (L2.start ["_law_box_here", "_law_many", "_law_digit", "_law_m"] vs) H:=by
  obtain ⟨p,m,n,rfl,⟨a,b,c,hp,ha,hb,hc,hcn⟩,hn,hm,hm2,k⟩:=h
  unfold qjt
  rwa [hp]
  have D:∀ x y:Int,0<y→y<4611686018427387904→qtG x y:=fun x y h1 h2=>⟨h1,(quj (by omega) (by omega)).mono (by decide)⟩
  refine qbU (fun c0=>?_) (fun c0=>?_)
  · exact ⟨hm,D _ _ hm hm2,k _ _ (Int.emod_nonneg _ (by omega)) (Int.emod_lt_of_pos _ hm) ⟨_,_,_,qai,Int.ediv_nonneg ha (by omega),hb,hc,by omega⟩ Kp.upd⟩
  · have L:∀ {x y:Int},0≤x→x<4611686018427387904→IntMulOk x y:=fun h1 h2=>quq (by omega) (by omega)
    have Z:∀ (x:Int) {y:Int},0<y→y<4611686018427387904→0≤x % y∧x % y<4611686018427387904:=fun x y h1 h2=>⟨Int.emod_nonneg x (by omega),by have:=Int.emod_lt_of_pos x h1;omega⟩
    refine ⟨by decide,L (by omega) (by omega),L (by omega) (by omega),by decide,by decide,L (by omega) (by omega),L (Z _ (by decide) (by decide)).1 (Z _ (by decide) (by decide)).2,by decide,L (Z _ (by decide) (by decide)).1 (Z _ (by decide) (by decide)).2,
      D _ _ (by decide) (by decide),D _ _ (by decide) (by decide),hm,k _ _ (Int.emod_nonneg _ (by omega)) (Int.emod_lt_of_pos _ hm) ⟨_,_,_,qai,ha,hb,by omega,by omega⟩ Kp.upd⟩
theorem Box.mono {H:Hp} {p:Addr} {m n:Int} (h:Box H p m) (hn:m≤n):Box H p n:=by
  obtain ⟨a,b,c,h1,h2,h3,h4,h5⟩:=h
  exact ⟨a,b,c,h1,h2,h3,h4,by omega⟩
theorem Box.at {H:Hp} {p:Addr} {n:Int} (h:Box H p n):∃ xs,H p=some (.lst xs):=let ⟨_,_,_,h1,_⟩:=h;⟨_,h1⟩
theorem Box.kp {H H':Hp} {p q:Addr} {n:Int} (h:Box H p n) (k:Kp q H H') (e:p≠q):Box H' p n:=by
  obtain ⟨a,b,c,h1,h2⟩:=h
  exact ⟨a,b,c,k _ _ e h1,h2⟩
theorem Box.same {H H':Hp} {p:Addr} {n:Int} (h:Box H p n) (k:Same H H'):Box H' p n:=by
  obtain ⟨a,b,c,h1,h2⟩:=h
  exact ⟨a,b,c,k _ _ h1,h2⟩
theorem Box.ne_none {H:Hp} {p q:Addr} {n:Int} (h:Box H p n) (e:H q=none):p≠q:=let ⟨_,_,_,h1,_⟩:=h;qav h1 e
theorem Nm.ne {H:Hp} {p q:Addr} {t d n:Int} (h:Nm H q t d) (b:Box H p n):q≠p:=let ⟨_,_,_,h1,_⟩:=b;qnv h h1 (by intro z;cases z)
theorem qsb (t:Int):Low t 1:=⟨by decide,Int.gcd_one_right t⟩
theorem Kp.over {H0 H H1:Hp} {p:Addr} (s:Same H0 H) (k:Kp p H H1) (n:H0 p=none):Same H0 H1:=fun b o h=>k b o (qav h n) (s b o h)
theorem qkA (h:qbJ K vs H Q E):qfb K { nx:=fun _ H'=>Q .non H',rt:=Q } (L2.start ["_law_row", "_law_many"] vs) H:=by
  obtain ⟨p,xs,l,rfl,hp,hN,hl,q⟩:=h
  unfold qfb
  rwa [hp]
  have lx:=hN.length
  refine while_by (fun m σ H'=>σ=[some (.ref p),some (.int (m:Int))]∧H'=H∧qdh l m=qdh l l.length∧m≤l.length) xs.length ⟨rfl,rfl,by rw [lx],by omega⟩ ?_
  rintro m σ H' ⟨rfl,rfl,ht,hm⟩
  rwa [hp]
  refine qbU (fun c=>?_) (fun c=>?_)
  · obtain ⟨k,rfl⟩:∃ k,m=k+1:=⟨m - 1,by omega⟩
    obtain ⟨v,hv,p1,rfl,hp1⟩:=hN.at (i:=k) (by omega) (1,1)
    rw [qiI] at ht
    refine ⟨_,qek (by omega) hv,p1,rfl,_,hp1,_,rfl,rfl,qbU (fun c2=>?_) (fun c2=>?_)⟩
    · have z:(l.getD k (1,1)).1=0:=by injection c2
      rw [if_pos z] at ht
      exact ⟨fun σ' H''=>∃ m',m'<k+1∧_,fun _ _ h=>h,k,by omega,by rw [show ((k+1:Nat):Int) - 1=(k:Int) by omega],rfl,ht,by omega⟩
    · have z:(l.getD k (1,1)).1≠0:=fun z=>c2 (by rw [z])
      rw [if_neg z] at ht
      exact qgS hN hm ht.symm q
  · have z:m=0:=by omega
    subst z
    exact qgS hN hm ht.symm q
theorem qeH {α:Type} {n k:Nat} (f:Nat→α) (h:k<n):((List.range n).map f)[k]?=some (f k):=by
  rw [List.getElem?_map,List.getElem?_range h];rfl
theorem qnh {α:Type} {n k:Nat} {f g:Nat→α} {z:α} (h:k<n) (h1:g k=z) (h2:∀ i,i<n→i≠k→g i=f i):((List.range n).map f).set k z=(List.range n).map g:=by
  apply List.ext_getElem?
  intro i
  by_cases hi:i<n
  · by_cases e:i=k
    · subst e
      rw [List.getElem?_set_self (by rw [List.length_map,List.length_range];exact hi),qeH g hi,h1]
    · rw [List.getElem?_set_ne (fun z=>e z.symm),qeH f hi,qeH g hi,h2 i hi e]
  · rw [List.getElem?_eq_none (by rw [List.length_set,List.length_map,List.length_range];omega),List.getElem?_eq_none (by rw [List.length_map,List.length_range];omega)]
theorem qgw {α:Type} {n:Nat} {f g:Nat→α} (h:∀ i,i<n→f i=g i):(List.range n).map f=(List.range n).map g:=
  List.map_congr_left fun i hi=>h i (List.mem_range.mp hi)
theorem qiL {α:Type} (z:α):∀ n:Nat,(List.range n).map (fun _=>z)=List.replicate n z
  | 0=>rfl
  | n+1=>by rw [List.range_succ,List.map_append,qiL z n,List.replicate_succ'];rfl
theorem qqn {n k B:Int} {q r:Nu} {a b c:Int} (hB:0<B) (h1:0<q.2) (h2:0<r.2) (w1:Wo q a b) (w2:Wo r c k) (e:B=b*k):nadd (red n B) (nmul q r)=red (n+a*c) B:=by
  subst e
  refine qhf (qme (qcg hB).pos (qdN h1 h2).pos) (qcg hB) (Int.ne_of_gt hB) (qrB (qcg hB).pos (qdN h1 h2).pos (qfl hB) (qrC h1 h2 w1 w2)) (qfl hB)
theorem qqo (h:qfo K vs H Q E):qlj K { nx:=fun _ H'=>Q .non H',rt:=Q } (L2.start ["_law_one", "_law_other"] vs) H:=by
  obtain ⟨p,q,a,b,c,d,rfl,hp,hq,b0,d0,ba,bb,bc,bd,k⟩:=h
  unfold qlj
  rwa [hp,hq]
  exact ⟨qrT ba bd,qrT bc bb,qrT bb bd,Int.mul_pos b0 d0,k⟩
theorem qkB (h:qcr K vs H Q E):qfa K { nx:=fun _ H'=>Q .non H',rt:=Q } (L2.start ["_law_one", "_law_other"] vs) H:=by
  obtain ⟨p,q,a,b,c,d,rfl,hp,hq,b0,d0,ba,bb,bc,bd,k⟩:=h
  unfold qfa
  rwa [hp,hq]
  exact ⟨qrT ba bc,qrT bb bd,Int.mul_pos b0 d0,k⟩
theorem qlA (h:qa1 K vs H Q E):qf9 K { nx:=fun _ H'=>Q .non H',rt:=Q } (L2.start ["_law_top", "_law_bottom", "_law_one", "_law_other"] vs) H:=by
  obtain ⟨a,b,rfl,hb,k⟩:=h
  unfold qf9
  rwa []
  refine while_by (fun m σ H'=>∃ x y:Int,σ=[some (.int a),some (.int b),some (.int x),some (.int y)]∧H'=H∧0≤x∧0≤y∧Int.gcd x y=Int.gcd a b∧m=y.natAbs) b.natAbs ⟨_,b,rfl,rfl,by split <;> omega,by omega,?_,rfl⟩ ?_
  · split
    · rw [Int.neg_gcd]
    · rfl
  rintro m σ H' ⟨x,y,rfl,rfl,x0,y0,hg,rfl⟩
  rwa []
  refine qbU (fun c=>?_) (fun c=>?_)
  · refine ⟨fun σ' H''=>∃ m',m'<y.natAbs∧_,fun _ _ h=>h,?_⟩
    have z1:=Int.emod_nonneg x (show y≠0 by omega)
    have z2:=Int.emod_lt_of_pos x c
    refine ⟨c,(x % y).natAbs,by omega,y,x % y,rfl,rfl,y0,z1,?_,rfl⟩
    rw [qi1 x y0];exact hg
  · have e:y=0:=by omega
    subst e
    have ex:x=((Int.gcd a b:Nat):Int):=by rw [← hg,Int.gcd_zero_right];omega
    obtain ⟨_,_,_,g0,gb⟩:=qc1 (a:=a) hb
    rw [← ex] at g0 gb
    refine ⟨g0,g0,sz (by decide),fun p hp=>?_⟩
    rw [ex];exact k p hp
theorem qlB (h:qbB K vs H Q E):qga K { nx:=fun _ H'=>Q .non H',rt:=Q } (L2.start ["_law_box_here", "_law_kind"] vs) H:=by
  obtain ⟨p,n,rfl,hB,hn,k⟩:=h
  unfold qga
  rwa []
  refine ⟨n,hB,by omega,by decide,by decide,fun d H1 d0 d1 B1 k1=>?_⟩
  have fin:∀ (t:Int) (H2:Hp),Bd 40 t→Box H2 p (n+2)→Kp p H H2→2≤sizeLine∧∀ (r:Addr),H2 r=none→Q (V.ref r) (upd H2 r (HO.tup [V.int t,V.int 1])):=fun t H2 bt B2 k2=>
    ⟨sz (by decide),fun r hr=>k r t 1 _ qai (qsb t) bt (qrR (by decide) (by decide)) ((B2.same (qag hr _)).mono (by omega)) (k2.same (qag hr _))⟩
  have low:∀ (a b:Int) (H2:Hp),0<b→Bd 40 a→Bd 40 b→Box H2 p (n+3)→Kp p H H2→0<b∧∀ (r:Addr),H2 r=none→Q (V.ref r) (upd H2 r (HO.tup [V.int (a / ((Int.gcd a b:Nat):Int)),V.int (b / ((Int.gcd a b:Nat):Int))])):=fun a b H2 b0 ba bb B2 k2=>by
    obtain ⟨m1,m2,m3,_,_⟩:=qc1 (a:=a) b0
    exact ⟨b0,fun r hr=>k r _ _ _ qai m1 (ba.le m2) (bb.le m3) (B2.same (qag hr _)) (k2.same (qag hr _))⟩
  refine qbU (fun c=>?_) (fun c=>?_)
  · refine ⟨n+1,B1,by omega,by decide,by decide,fun e H2 e0 e1 B2 k2=>?_⟩
    exact fin _ _ (qrR (by omega) (by omega)) (B2.mono (by omega)) (k1.trans k2)
  refine qbU (fun c=>?_) (fun c=>?_)
  · refine ⟨n+1,B1,by omega,by decide,by decide,fun e H2 e0 e1 B2 k2=>?_⟩
    refine ⟨n+1+1,B2,by omega,by decide,by decide,fun f H3 f0 f1 B3 k3=>?_⟩
    exact low _ _ _ (by omega) (qrR (by omega) (by omega)) (qrR (by omega) (by omega)) (B3.mono (by omega)) ((k1.trans k2).trans k3)
  refine qbU (fun c=>?_) (fun c=>?_)
  · refine ⟨n+1,B1,by omega,by decide,by decide,fun e H2 e0 e1 B2 k2=>?_⟩
    refine ⟨n+1+1,B2,by omega,by decide,by decide,fun f H3 f0 f1 B3 k3=>?_⟩
    exact low _ _ _ (by omega) (qrR (by omega) (by omega)) (qrR (by omega) (by omega)) (B3.mono (by omega)) ((k1.trans k2).trans k3)
  · refine ⟨n+1,B1,by omega,by decide,by decide,fun e H2 e0 e1 B2 k2=>?_⟩
    exact fin _ _ (qrR (by omega) (by omega)) (B2.mono (by omega)) (k1.trans k2)
theorem qpi (h:qcs K vs H Q E):qju K { nx:=fun _ H'=>Q .non H',rt:=Q } (L2.start ["_law_box_here", "_law_most"] vs) H:=by
  obtain ⟨p,m,n,rfl,hB,hn,m0,m1,k⟩:=h
  unfold qju
  rwa []
  refine ⟨n,hB,by omega,by omega,by omega,fun d H1 d0 d1 B1 k1=>⟨by omega,by omega,?_⟩⟩
  refine CompJ.range (fun i ys H'=>i≤d.toNat∧Kp p H H'∧Box H' p (n+1+3*i)∧∃ l,Nums H' ys l∧qaI l∧qh6 40 l∧l.length=i) ⟨Nat.zero_le _,k1,B1.mono (by omega),[],trivial,(fun _ h=>nomatch h),(fun _ h=>nomatch h),rfl⟩ ?_ ?_ ?_
  · rintro i ys H' ⟨h1,_,_,l,hZ,_,_,ll⟩
    exact ⟨h1,sz (by rw [hZ.length,ll];omega)⟩
  · rintro i ys H' hi ⟨h1,k2,B2,l,hZ,lo,bd,ll⟩
    rwa []
    refine ⟨n+1+3*(i:Int),B2,by omega,fun r t e H3 h3 l3 bt be B3 k3=>⟨by omega,k2.trans k3,B3.mono (by omega),l++[(t,e)],?_,?_,?_,by rw [List.length_append,ll];rfl⟩⟩
    · obtain ⟨ws,hws⟩:=B2.at
      exact (hZ.tp (k3.tp hws)).append (Nums.one ⟨r,rfl,h3⟩)
    · intro q hq
      rcases List.mem_append.mp hq with z | z
      · exact lo q z
      · rw [List.mem_singleton.mp z];exact l3
    · intro q hq
      rcases List.mem_append.mp hq with z | z
      · exact bd q z
      · rw [List.mem_singleton.mp z];exact ⟨bt,be⟩
  · rintro ys H' ⟨_,k2,B2,l,hZ,lo,bd,ll⟩ a ha
    have s2:=qag ha (HO.lst ys)
    rwa []
    refine ⟨l,hZ.tp (tpS s2),by omega,fun r zs H3 s3 hr hz=>?_⟩
    have tl:=qdO l
    exact k r zs (trim l) H3 hr hz (fun q hq=>lo q (qcQ hq)) (fun q hq=>bd q (qcQ hq)) (qhg l) (by omega) (((B2.same s2).same s3).mono (by omega)) ((k2.same s2).same s3)
theorem qhU (h:qbj K vs H Q E):qdA K { nx:=fun _ H'=>Q .non H',rt:=Q } (L2.start ["_law_kp", "_law_kq", "_law_row", "_law_k", "_law_one", "_law_j", "_law_other"] vs) H:=by
  obtain ⟨p,q,xs,ys,l,m,M1,M2,nb,nc,rfl,hp,hq,hN,hM,hl,hm,O1,O2,bMM,bl,bm,nbc,ll,lm,k⟩:=h
  unfold qdA
  rwa [hp,hq]
  have lx:=hN.length
  have ly:=hM.length
  refine ⟨sz (by decide),fun b hb=>⟨sz (by simp),fun c hc=>?_⟩⟩
  have sb:=qag hb (HO.tup [V.int 0,V.int 1])
  have sc:=qag hc (HO.lst [V.ref b])
  have hp1:=sc _ _ (sb _ _ hp)
  have hq1:=sc _ _ (sb _ _ hq)
  rwa [hp1,hq1]
  have eL:((xs.length:Int)+(ys.length:Int)).toNat=l.length+m.length:=by omega
  rw [eL,qcR]
  refine ⟨by omega,by omega,sz (by omega),fun w hw=>?_⟩
  have sw:=qag hw (HO.lst (List.replicate (l.length+m.length) (V.ref b)))
  have w0:H w=none:=by
    cases e:H w with
    | none=>rfl
    | some o=>have z:=sc _ _ (sb _ _ e);rw [hw] at z;cases z
  have BP:=Int.mul_pos O1.1 O2.1
  have BB1:Bd 900000 M1:=qb7 (Int.ne_of_gt BP) (Int.dvd_mul_right ..) bMM
  have BB2:Bd 900000 M2:=qb7 (Int.ne_of_gt BP) (Int.dvd_mul_left ..) bMM
  have n2:(ovN m M2).length=m.length:=by unfold ovN;rw [List.length_map]
  have bd:∀ i j k,i≤100→Bd 1000000 (in2 (ovN l M1) (ovN m M2) i j k):=fun i j k hi=>(qs9 bl bm i j k).mono (by omega)
  refine ⟨⟨_,SqT.of (sw _ _ hp1)⟩,ForJ.enumT (xs:=xs) (fun i σ H'=>∃ x1 x2 x3 x4:Option V,σ=[some (.ref p),some (.ref q),some (.ref w),x1,x2,x3,x4]∧Same H H'∧∃ zs,H' w=some (.lst zs)∧Nums H' zs ((List.range (l.length+m.length)).map fun k=>red (ps (ovN l M1) (ovN m M2) i k) (M1*M2)))
    ⟨none,none,none,none,rfl,(sb.trans sc).trans sw,_,qai,?_⟩ ?_ ?_ ?_⟩
  · rw [show (fun k=>red (ps (ovN l M1) (ovN m M2) 0 k) (M1*M2))=fun _=>((0,1):Nu) from funext fun k=>qp0 BP,qiL]
    exact Nums.rep ⟨b,rfl,sw _ _ (sc _ _ qai)⟩ _
  · rintro i σ H' _ ⟨_,_,_,_,_,s1,_⟩
    exact s1 _ _ hp
  · rintro i x pp σ H1 hi ⟨x1,x2,x3,x4,rfl,s1,zs,hw1,hz1⟩ hpp
    obtain ⟨z,hz,px,rfl,hpx⟩:=hN.get hi
    have il:i<l.length:=(List.getElem?_eq_some_iff.mp hz).1
    have zd:qaY l i=z:=by unfold qaY;rw [List.getD_eq_getElem?_getD,hz];rfl
    have sp:=qag hpp (HO.tup [V.int (i:Int),V.ref px])
    rwa []
    refine ⟨⟨_,SqT.of (sp _ _ (s1 _ _ hq))⟩,ForJ.enumT (xs:=ys) (fun j σ H'=>∃ x3 x4:Option V,σ=[some (.ref p),some (.ref q),some (.ref w),some (.int (i:Int)),some (.ref px),x3,x4]∧Same H H'∧∃ zs,H' w=some (.lst zs)∧Nums H' zs ((List.range (l.length+m.length)).map fun k=>red (in2 (ovN l M1) (ovN m M2) i j k) (M1*M2)))
          ⟨x3,x4,rfl,s1.trans sp,_,sp _ _ hw1,?_⟩ ?_ ?_ ?_⟩
    · rw [qgw fun k _=>congrArg (red · (M1*M2)) (qp1 (ovN l M1) (ovN m M2) i k)]
      exact hz1.tp (tpS sp)
    · rintro j σ H' _ ⟨_,_,_,s2,_⟩
      exact s2 _ _ hq
    · rintro j y pq σ H2 hj ⟨y3,y4,rfl,s2,zs2,hw2,hz2⟩ hpq
      obtain ⟨u,hu,py,rfl,hpy⟩:=hM.get hj
      have jl:j<m.length:=(List.getElem?_eq_some_iff.mp hu).1
      have ud:qaY m j=u:=by unfold qaY;rw [List.getD_eq_getElem?_getD,hu];rfl
      have sq:=qag hpq (HO.tup [V.int (j:Int),V.ref py])
      have hw3:=sq _ _ hw2
      have kl:i+j<l.length+m.length:=by omega
      have hz3:=hz2.tp (tpS sq)
      obtain ⟨v,hv,g,rfl,hg⟩:=hz3.at (i:=i+j) (by rw [List.length_map,List.length_range];exact kl) (1,1)
      rw [List.getD_eq_getElem?_getD,qeH _ kl] at hg
      have hpx3:=sq _ _ (s2 _ _ hpx)
      have hpy3:=sq _ _ (s2 _ _ hpy)
      have lq:=hl z (List.mem_of_getElem? hz)
      have lu:=hm u (List.mem_of_getElem? hu)
      have bq:=qkt hl O1 bl z (List.mem_of_getElem? hz)
      have bu:=qkt hm O2 bm u (List.mem_of_getElem? hu)
      rwa [hw3,hpx3,hpy3]
      have qd:z.2*u.2∣M1*M2:=Int.mul_dvd_mul (O1.2 z (List.mem_of_getElem? hz)) (O2.2 u (List.mem_of_getElem? hu))
      have bq2:Bd 900000 z.2:=qb7 (Int.ne_of_gt O1.1) (O1.2 z (List.mem_of_getElem? hz)) BB1
      have bu2:Bd 900000 u.2:=qb7 (Int.ne_of_gt O2.1) (O2.2 u (List.mem_of_getElem? hu)) BB2
      have bp:=qoU (Int.mul_pos lq.pos lu.pos) (bq.mul bu) (qb7 (Int.ne_of_gt BP) qd bMM)
      have br:=qoU BP (bd i j (i+j) (by omega)) bMM
      refine ⟨_,qek (by omega) hv,lq.pos,lu.pos,bq.mono (by omega),bq2.mono (by omega),bu.mono (by omega),bu2.mono (by omega),fun r1 hr1=>?_⟩
      have sr1:=qag hr1 (HO.tup [V.int (nmul (z.1,z.2) (u.1,u.2)).1,V.int (nmul (z.1,z.2) (u.1,u.2)).2])
      refine ⟨g,rfl,_,_,sr1 _ _ hg,(qcg BP).pos,(qdN lq.pos lu.pos).pos,br.1.mono (by decide),br.2.mono (by omega),bp.1.mono (by omega),bp.2.mono (by omega),fun r2 hr2=>?_⟩
      have sr2:=qag hr2 (HO.tup [V.int (nadd (red (in2 (ovN l M1) (ovN m M2) i j (i+j)) (M1*M2)) (nmul (z.1,z.2) (u.1,u.2))).1,V.int (nadd (red (in2 (ovN l M1) (ovN m M2) i j (i+j)) (M1*M2)) (nmul (z.1,z.2) (u.1,u.2))).2])
      have st:=(sq.trans sr1).trans sr2
      have lz:zs2.length=l.length+m.length:=by rw [hz2.length,List.length_map,List.length_range]
      refine ⟨_,st _ _ hw2,i+j,qhL (by omega) (by omega),fun b o h=>Kp.upd b o (qav h w0) (st b o (s2 b o h)),?_⟩
      have hn:=(Nums.set (q:=nadd (red (in2 (ovN l M1) (ovN m M2) i j (i+j)) (M1*M2)) (nmul z u)) ⟨r2,rfl,qai⟩ (i+j) (hz2.tp (tpS st))).tp (Tp.updL (ys:=zs2.set (i+j) (V.ref r2)) (st _ _ hw2))
      rw [qnh (g:=fun k=>red (in2 (ovN l M1) (ovN m M2) i (j+1) k) (M1*M2)) kl ?_ fun k _ hk=>?_] at hn
      · exact hn
      · have w1:=qoC O1 i
        have w2:=qoC O2 j
        rw [zd] at w1
        rw [ud] at w2
        show red (in2 (ovN l M1) (ovN m M2) i (j+1) (i+j)) (M1*M2)=_
        rw [qmg,if_pos rfl,qqn BP lq.pos lu.pos w1 w2 rfl]
      · show red (in2 (ovN l M1) (ovN m M2) i (j+1) k) (M1*M2)=_
        rw [qmg,if_neg hk]
    · rintro σ H2 ⟨y3,y4,rfl,s2,zs2,hw2,hz2⟩
      rw [ly,qgw fun k _=>congrArg (red · (M1*M2)) (show in2 (ovN l M1) (ovN m M2) i m.length k=ps (ovN l M1) (ovN m M2) (i+1) k by rw [← n2];rfl)] at hz2
      exact ⟨_,_,_,_,rfl,s2,zs2,hw2,hz2⟩
  · rintro σ H1 ⟨x1,x2,x3,x4,rfl,s1,zs,hw1,hz1⟩
    rwa [hw1]
    rw [lx] at hz1
    exact ⟨_,hz1,by rw [List.length_map,List.length_range];omega,fun r vs H2 s2 hr hv=>k r vs H2 (s1.trans s2) hr hv⟩
theorem qni (h:qbQ K vs H Q E):qko K { nx:=fun _ H'=>Q .non H',rt:=Q } (L2.start ["one"] vs) H:=by
  obtain ⟨p,a,b,rfl,hp,k⟩:=h
  exact ⟨_,rfl,_,_,_,_,rfl,rfl,hp,rfl,_,rfl,_,rfl,_,_,_,_,rfl,rfl,hp,rfl,qgR,k⟩
theorem qqp (h:qcS K vs H Q E):qlh K { nx:=fun _ H'=>Q .non H',rt:=Q } (L2.start ["number", "is_first"] vs) H:=by
  obtain ⟨p,f,a,b,rfl,hp,k⟩:=h
  unfold qlh
  rwa [hp]
  unfold jn at k
  by_cases hf:f=true
  · rw [if_pos hf] at k ⊢
    split <;> rename_i c
    · rwa [if_pos c] at k
    · rwa [if_neg c] at k
  · rw [if_neg hf] at k ⊢
    split <;> rename_i c
    · rwa [if_pos c] at k
    · rwa [if_neg c] at k
theorem qgh {i:Int} (h:Bd 1900 i):i.natAbs.log2<1920:=by
  by_cases z:i.natAbs=0
  · rw [z];decide
  · exact Nat.lt_of_lt_of_le ((Nat.log2_lt z).mpr h) (by decide)
theorem qd6 {i:Int} (h:Bd 1900 i):Bd 1900 (if i<0 then -i else i):=by
  unfold Bd at h ⊢
  split
  · rw [Int.natAbs_neg];exact h
  · exact h
theorem qto:((2 ^ 1900:Nat):Int)<10 ^ Int.toNat 600:=by decide +kernel
theorem qqq {i:Int}:(if i<0 then Str.ofString "-" else Str.ofString "")++sI (if i<0 then -i else i)=sI i:=by
  split <;> rename_i c
  · exact qte c
  · exact qkl _
theorem qlC {i:Int} (h:Bd 1900 i):(sI i).length≤573:=qmm (k:=572) (Nat.lt_of_lt_of_le h (by decide +kernel)) (by decide)
theorem qjF (h:qbn K vs H Q E):qev K { nx:=fun _ H'=>Q .non H',rt:=Q } (L2.start ["whole", "scale", "left", "groups"] vs) H:=by
  obtain ⟨i,rfl,hi,k⟩:=h
  unfold qev
  rwa []
  refine ⟨by decide,4,by unfold Bd;decide,by decide,sz (by decide),fun p hp=>?_⟩
  have hb:=qd6 hi
  have hlt:(if i<0 then -i else i)<10 ^ Int.toNat 600:=by
    have q:=qto
    unfold Bd at hb
    generalize (2:Nat) ^ 1900=y at q hb
    generalize (10:Int) ^ Int.toNat 600=z at q
    omega
  have tx:=qqq (i:=i)
  generalize (if i<0 then -i else i)=j at hb hlt tx
  generalize (10:Int) ^ Int.toNat 600=w at hlt
  refine ⟨fun _ σ H'=>σ=[some (V.int i),some (V.int w),some (V.int j),some (V.ref p)]∧H'=upd H p (HO.lst []),⟨0,rfl,rfl⟩,?_⟩
  rintro m σ H' ⟨rfl,rfl⟩
  refine ⟨_,rfl,_,rfl,_,_,rfl,rfl,_,rfl,?_⟩
  refine (if_neg (c:=decide (w≤j)=true) (by rw [decide_eq_true_eq];exact Int.not_le.mpr hlt)).mpr ?_
  refine ⟨_,rfl,.inl ⟨rfl,_,SqL.of (qai ..)⟩,_,rfl,_,rfl,qgh hb,_,_,_,rfl,rfl,qai ..,sz (by decide),?_⟩
  have z:∀ x:Str,x.length≤1→x++sI j=sI i→(qki K (qab (qaf 3) qao)) [some (V.int i),some (V.int w),some (V.int j),some (V.ref p)] (upd (upd H p (HO.lst [])) p (HO.lst ([]++[V.str (sI j)]))) (fun y H2=>qbt (V.str x) y H2 Q):=by
    intro x hx he
    refine ⟨_,rfl,p,_,rfl,SqL.of (qai ..),_,_,rfl,rfl,?_,?_⟩
    · have:=qlC hb
      exact sz (by omega)
    · rw [he]
      refine k _ fun b o hb=>?_
      have n:b≠p:=qav hb hp
      rw [qaC n,qaC n];exact hb
  refine ⟨_,rfl,_,_,rfl,rfl,_,rfl,?_⟩
  refine qbU (fun c=>?_) (fun c=>?_)
  · refine z _ (by decide) ?_
    rwa [if_pos (of_decide_eq_true c)] at tx
  · refine z _ (by decide) ?_
    rwa [if_neg (fun d=>c (decide_eq_true d))] at tx
theorem qiM {a b:Int} (ha:Bd 1900 a) (hb:Bd 1900 b):(nT a b).length≤1200:=by
  have h1:=qlC ha
  have h2:=qlC hb
  unfold nT
  split
  · omega
  · rw [qaK,qaK,show (Str.ofString "/").length=1 from rfl];omega
theorem qic (h:qaM K vs H Q E):qdW K { nx:=fun _ H'=>Q .non H',rt:=Q } (L2.start ["c", "top"] vs) H:=by
  obtain ⟨p,a,b,rfl,hp,ha,hb,k⟩:=h
  unfold qdW
  rwa [hp]
  refine ⟨ha,fun H1 s1=>⟨_,s1 _ _ hp,_,rfl,rfl,?_⟩⟩
  have h1:=qlC ha
  have h2:=qlC hb
  unfold nT at k
  by_cases c:b=1
  · rw [if_pos (by rw [c])]
    rw [if_pos c] at k
    exact k _ s1
  · rw [if_neg (by intro e;cases e;exact c rfl)]
    rw [if_neg c] at k
    have e1:(Str.ofString "/").length=1:=rfl
    refine ⟨sz (by omega),_,s1 _ _ hp,_,rfl,_,rfl,hb,fun H2 s2=>⟨sz (by rw [qaK];omega),k _ (s1.trans s2)⟩⟩
theorem qgH (h:qbb K vs H Q E):qdd K { nx:=fun _ H'=>Q .non H',rt:=Q } (L2.start ["_law_c"] vs) H:=by
  obtain ⟨p,a,b,rfl,hp,ha,hb,k⟩:=h
  unfold qdd
  rwa [hp]
  have h1:(Str.ofString (toString a)).length≤573:=qlC ha
  have h2:(Str.ofString (toString b)).length≤573:=qlC hb
  unfold nT at k
  have e1:(Str.ofString "/").length=1:=rfl
  refine qbU (fun c=>?_) (fun c=>?_)
  · rw [if_pos c] at k
    exact ⟨qgh ha,k _ (Same.refl H)⟩
  · rw [if_neg c] at k
    exact ⟨qgh ha,sz (by omega),qgh hb,sz (by rw [qaK];omega),k _ (Same.refl H)⟩
theorem qpj (a:Int) (f:Bool):(jn a f).length≤3:=by
  unfold jn
  split <;> split <;> decide
theorem qsc {t:Str} {r:Int×Int×Str} (h1:Bd 1900 r.1) (h2:Bd 1900 r.2.1) (h3:r.2.2.length≤20000):(st1 t r).length≤t.length+22000:=by
  unfold st1
  have q1:=qpj r.1 (decide (t=Str.ofString ""))
  have q2:=qiM (qd6 h1) h2
  have q3:(Str.ofString "*log(").length=5:=rfl
  have q4:(Str.ofString ")").length=1:=rfl
  rw [qaK,qaK,qaK,qaK,qaK]
  omega
theorem qrb:∀ (L:List (Int×Int×Str)) (t:Str),(∀ r∈L,Bd 1900 r.1∧Bd 1900 r.2.1∧r.2.2.length≤20000)→(lT t L).length≤t.length+22000*L.length
  | [],t,_=>Nat.le_add_right _ _
  | r::L,t,h=>by
    have h1:=h r (List.mem_cons_self ..)
    have q1:=qsc (t:=t) h1.1 h1.2.1 h1.2.2
    have q2:=qrb L (st1 t r) fun x hx=>h x (List.mem_cons_of_mem _ hx)
    have e:(lT t (r::L))=lT (st1 t r) L:=rfl
    rw [e,List.length_cons]
    omega
theorem qpk {t:Str} {L:List (Int×Int×Str)} {i:Nat} {r:Int×Int×Str} (h:L[i]?=some r):lT t (L.take (i+1))=st1 (lT t (L.take i)) r:=by
  unfold lT
  rw [List.take_succ,h,List.foldl_append]
  rfl
theorem RwS.ok {H:Hp} {vs:List V} {L:List (Int×Int×Str)} (h:RwS H vs L):∀ r∈L,Bd 1900 r.1∧Bd 1900 r.2.1∧r.2.2.length≤20000:=fun r hr=>by
  obtain ⟨i,hi,e⟩:=List.mem_iff_getElem.mp hr
  obtain ⟨p,c,_,_,_,b1,b2,b3⟩:=h.2 i r (by rw [List.getElem?_eq_getElem hi,e])
  exact ⟨b1,b2,b3⟩
theorem RwS.same {H H':Hp} {vs:List V} {L:List (Int×Int×Str)} (h:RwS H vs L) (s:Same H H'):RwS H' vs L:=⟨h.1,fun i r e=>by
  obtain ⟨p,c,h1,h2,h3,h4⟩:=h.2 i r e
  exact ⟨p,c,h1,s _ _ h2,s _ _ h3,h4⟩⟩
theorem RwS.at {H:Hp} {vs:List V} {L:List (Int×Int×Str)} {i:Nat} {x:V} (h:RwS H vs L) (e:vs[i]?=some x):∃ r p c,L[i]?=some r∧x=.ref p∧H p=some (.tup [.ref c,.str r.2.2])∧Nm H c r.1 r.2.1∧Bd 1900 r.1∧Bd 1900 r.2.1∧r.2.2.length≤20000:=by
  have hi:i<L.length:=by rw [← h.1];exact (List.getElem?_eq_some_iff.mp e).1
  obtain ⟨p,c,h1,h2⟩:=h.2 i _ (List.getElem?_eq_getElem hi)
  rw [e] at h1
  cases h1
  exact ⟨_,p,c,List.getElem?_eq_getElem hi,rfl,h2⟩
theorem qmD {H:Hp} {vs:List V} {L:List (Int×Int×Str)} {t:Str} (h:RwS H vs L) (ht:t.length≤20000) (hL:L.length≤30) (i:Nat):(lT t (L.take i)).length≤690000:=by
  have q:=qrb (L.take i) t fun r hr=>h.ok r (List.mem_of_mem_take hr)
  have e:=List.length_take (i:=i) (l:=L)
  omega
theorem qrc {f:Bool} {t:Str} {n:Nat} (h:t.length≤20000):(hd f t n).length≤20000:=by
  unfold hd
  split
  · decide
  · exact h
theorem qt7 {K:W.Frag} {H:Hp} {Q:VK} {l:Addr} {ws:List V} {L:List (Int×Int×Str)} {t x:Str} (hl:H l=some (.lst ws)) (hR:RwS H ws L) (hx:x.length≤20000) (hL:L.length≤30)
    (k:∀ H',Same H H'→Q (.str (lT x L)) H'):qdX K { nx:=fun _ H'=>Q .non H',rt:=Q } [some (.str t),some (.ref l),some (.str x),none,none] H:=by
  refine ⟨_,rfl,_,rfl,⟨_,SqL.of hl⟩,ForL.by (xs:=ws) (fun i σ H'=>∃ c d,σ=[some (.str t),some (.ref l),some (.str (lT x (L.take i))),c,d]∧Same H H') ⟨none,none,rfl,Same.refl H⟩ ?_ ?_ ?_⟩
  · rintro i σ H' hi ⟨c,d,rfl,s⟩
    exact SqL.of (s _ _ hl)
  · rintro i v σ H1 hv ⟨c,d,rfl,s⟩
    obtain ⟨r,p,q,hr,rfl,hp,hq,b1,b2,b3⟩:=(hR.same s).at hv
    have z:=qmD hR hx hL i
    have e:=qpk (t:=x) hr
    have q1:=qpj r.1 (decide (lT x (L.take i)=Str.ofString ""))
    have q2:=qiM (qd6 b1) b2
    have q3:(Str.ofString "*log(").length=5:=rfl
    have q4:(Str.ofString ")").length=1:=rfl
    refine ⟨_,_,rfl,hp,rfl,_,_,rfl,_,_,rfl,rfl,_,rfl,?_⟩
    refine qeE (qeE (qeE (qeE (qf2 (qbD rfl (qeE (qbD rfl (r_c ⟨rfl,_,_,_,_,rfl,hq,?_⟩))))))))
    refine qe6 (qe6 (qbD rfl ⟨_,_,_,rfl,hq,fun n hn=>⟨_,_,_,rfl,qai ..,qd6 b1,b2,fun H2 s2=>?_⟩⟩))
    have dd:decide (V.str (lT x (L.take i))=V.str (Str.ofString ""))=decide (lT x (L.take i)=Str.ofString ""):=by simp only [V.str.injEq]
    rw [dd]
    refine ⟨_,_,rfl,rfl,sz (by omega),_,_,rfl,rfl,sz (by rw [qaK];omega),⟨_,rfl,_,_,rfl,rfl,sz (by rw [qaK,qaK];omega),_,_,rfl,rfl,sz (by rw [qaK,qaK,qaK];omega),_,_,rfl,rfl,sz (by rw [qaK,qaK,qaK,qaK];omega),?_⟩⟩
    exact ⟨some (V.ref q),some (V.str r.2.2),by rw [e];rfl,s.trans (qag hn _ |>.trans s2)⟩
  · rintro σ H1 ⟨c,d,rfl,s⟩
    refine ⟨_,rfl,?_⟩
    rw [hR.1,List.take_length]
    exact k _ s
theorem qkC (h:qbK K vs H Q E):qe9 K { nx:=fun _ H'=>Q .non H',rt:=Q } (L2.start ["first", "rows", "text", "c", "inner"] vs) H:=by
  obtain ⟨t,l,ws,L,rfl,hl,hR,ht,hL,k⟩:=h
  have go:=fun (x:Str) (e:hd (decide (t=Str.ofString "0")) t L.length=x)=>qt7 (K:=K) (t:=t) (x:=x) (Q:=Q) hl hR (by rw [← e];exact qrc ht) hL (by rw [← e];exact k)
  have z:∀ c:Bool,c=(decide (t=Str.ofString "0") && !ws.isEmpty)→(if c=true then tC (V.str (Str.ofString "")) else qaf 0) [some (.str t),some (.ref l),none,none,none] H fun x H1=>qdX K { nx:=fun _ H'=>Q .non H',rt:=Q } [some (.str t),some (.ref l),some x,none,none] H1:=by
    intro c hc
    have el:ws.length=L.length:=hR.1
    cases c with
    | true=>
      refine go _ ?_
      have hc':=hc.symm
      rw [Bool.and_eq_true] at hc'
      unfold hd
      have lp:0<L.length:=by
        have:=hc'.2
        cases ws with
        | nil=>cases this
        | cons _ _=>rw [← el];exact Nat.succ_pos _
      rw [if_pos ⟨hc'.1,lp⟩]
    | false=>
      refine ⟨_,rfl,go _ ?_⟩
      unfold hd
      rw [if_neg]
      rintro ⟨h1,h2⟩
      rw [h1] at hc
      cases ws with
      | nil=>rw [← el] at h2;cases h2
      | cons _ _=>cases hc
  unfold qe9
  have dd:decide (V.str t=V.str (Str.ofString "0"))=decide (t=Str.ofString "0"):=by simp only [V.str.injEq]
  refine ⟨_,rfl,rfl,_,rfl,?_⟩
  rw [dd]
  cases hb:decide (t=Str.ofString "0") with
  | true=>
    refine ⟨_,rfl,_,_,rfl,hl,?_⟩
    have:=z (!ws.isEmpty) (by rw [hb];rfl)
    cases hw:(!ws.isEmpty) with
    | true=>rw [hw] at this;exact this
    | false=>rw [hw] at this;exact this
  | false=>
    exact z false (by rw [hb];rfl)
theorem qsd {t:Str} {r:Int×Int×Str} (h:t=Str.ofString ""):(if r.1<0 then Str.ofString "-" else Str.ofString "")++(nT (if r.1<0 then -r.1 else r.1) r.2.1++Str.ofString "*log(" ++ r.2.2++Str.ofString ")")=st1 t r:=by
  unfold st1 jn
  rw [if_pos (decide_eq_true h),h,qkl]
  simp only [qhn]
theorem qqr {t:Str} {r:Int×Int×Str} (h:t≠Str.ofString ""):t++(if r.1<0 then Str.ofString " - " else Str.ofString " + ")++(nT (if r.1<0 then -r.1 else r.1) r.2.1++Str.ofString "*log(" ++ r.2.2++Str.ofString ")")=st1 t r:=by
  unfold st1 jn
  rw [if_neg (c:=decide (t=Str.ofString "")=true) (by rw [decide_eq_true_eq];exact h)]
  simp only [qhn]
theorem qt8 {K:W.Frag} {H:Hp} {Q:VK} {l:Addr} {ws:List V} {L:List (Int×Int×Str)} {t x:Str} {f:Bool} (hl:H l=some (.lst ws)) (hR:RwS H ws L) (hx:x.length≤20000) (hL:L.length≤30)
    (k:∀ H',Same H H'→Q (.str (lT x L)) H'):qew K { nx:=fun _ H'=>Q .non H',rt:=Q } [some (.str t),some (.bl f),some (.ref l),some (.str x),none,none,none] H:=by
  refine ⟨_,rfl,_,rfl,⟨_,SqL.of hl⟩,ForL.by (xs:=ws) (fun i σ H'=>∃ c d e,σ=[some (.str t),some (.bl f),some (.ref l),some (.str (lT x (L.take i))),c,d,e]∧Same H H') ⟨none,none,none,rfl,Same.refl H⟩ ?_ ?_ ?_⟩
  · rintro i σ H' hi ⟨c,d,e,rfl,s⟩
    exact SqL.of (s _ _ hl)
  · rintro i v σ H1 hv ⟨c,d,e,rfl,s⟩
    obtain ⟨r,p,q,hr,rfl,hp,hq,b1,b2,b3⟩:=(hR.same s).at hv
    have z:=qmD hR hx hL i
    have e:=qpk (t:=x) hr
    have q2:=qiM (qd6 b1) b2
    have q3:(Str.ofString "*log(").length=5:=rfl
    have q4:(Str.ofString ")").length=1:=rfl
    refine ⟨_,_,rfl,hp,rfl,_,_,rfl,_,_,rfl,rfl,?_⟩
    refine qm5 (qeE (qeE (qeE (qe6 (qd1 ⟨_,rfl,_,_,_,_,rfl,rfl,hq,rfl,_,rfl,_,rfl,_,_,_,_,rfl,rfl,hq,rfl,qgR,fun n hn=>⟨_,_,_,rfl,qai ..,qd6 b1,b2,fun H2 s2=>?_⟩⟩)))))
    have hs:Same H1 H2:=(qag hn _).trans s2
    refine ⟨_,_,rfl,rfl,sz (by omega),⟨_,rfl,_,_,rfl,rfl,sz (by rw [qaK];omega),_,_,rfl,rfl,sz (by rw [qaK,qaK];omega),?_⟩⟩
    have pl:(nT (if r.1<0 then -r.1 else r.1) r.2.1++Str.ofString "*log(" ++ r.2.2++Str.ofString ")").length≤22000:=by rw [qaK,qaK,qaK];omega
    have dd:decide (V.str (lT x (L.take i))=V.str (Str.ofString ""))=decide (lT x (L.take i)=Str.ofString ""):=by simp only [V.str.injEq]
    refine ⟨_,rfl,rfl,_,rfl,?_⟩
    rw [dd]
    refine qbU (fun hc=>?_) (fun hc=>?_)
    · have hc':=of_decide_eq_true hc
      refine ⟨_,rfl,_,_,_,_,rfl,rfl,hs _ _ hq,rfl,_,_,rfl,rfl,_,rfl,_,_,rfl,rfl,?_,_,rfl,_,_,rfl,rfl,?_,?_⟩
      · split
        · exact .inr rfl
        · exact .inl rfl
      · have g:(if (if decide (r.1<0)=true then (1:Int) else 0)=1 then Str.ofString "-" else Str.ofString "").length≤1:=by split <;> decide
        exact sz (by omega)
      · have e1:(if (if decide (r.1<0)=true then (1:Int) else 0)=1 then Str.ofString "-" else Str.ofString "")=if r.1<0 then Str.ofString "-" else Str.ofString "" := by
          by_cases c:r.1<0 <;> simp [c]
        rw [e1,qsd hc']
        exact ⟨some (V.ref q),some (V.str r.2.2),some _,by rw [e];rfl,s.trans hs⟩
    · have hc':lT x (L.take i)≠Str.ofString "" := fun d=>hc (decide_eq_true d)
      refine ⟨_,rfl,qgR,fun w hw=>?_⟩
      have hq3:upd H2 w (HO.lst [V.str (Str.ofString " + "),V.str (Str.ofString " - ")]) q=some (.tup [.int r.1,.int r.2.1]):=(qaC (qav (hs _ _ hq) hw)).trans (hs _ _ hq)
      refine ⟨_,rfl,_,_,_,_,rfl,rfl,hq3,rfl,_,_,rfl,rfl,_,rfl,_,_,_,(if r.1<0 then V.str (Str.ofString " - ") else V.str (Str.ofString " + ")),rfl,rfl,qai ..,?_,?_⟩
      · by_cases c:r.1<0
        · have e0:(if decide (r.1<0)=true then (1:Int) else 0)=1:=by simp [c]
          rw [if_pos c,e0];rfl
        · have e0:(if decide (r.1<0)=true then (1:Int) else 0)=0:=by simp [c]
          rw [if_neg c,e0];rfl
      · have e1:(if r.1<0 then V.str (Str.ofString " - ") else V.str (Str.ofString " + "))=V.str (if r.1<0 then Str.ofString " - " else Str.ofString " + "):=by split <;> rfl
        have g:(if r.1<0 then Str.ofString " - " else Str.ofString " + ").length≤3:=by split <;> decide
        rw [e1]
        refine ⟨_,_,rfl,rfl,sz (by omega),_,rfl,_,_,rfl,rfl,sz (by rw [qaK];omega),?_⟩
        rw [qqr hc']
        exact ⟨some (V.ref q),some (V.str r.2.2),some _,by rw [e];rfl,s.trans (hs.trans (qag hw _))⟩
  · rintro σ H1 ⟨c,d,e,rfl,s⟩
    refine ⟨_,rfl,?_⟩
    rw [hR.1,List.take_length]
    exact k _ s
theorem qid (h:qbs K vs H Q E):qfE K { nx:=fun _ H'=>Q .non H',rt:=Q } (L2.start ["_law_first", "_law_nought", "_law_logs", "_law_text", "_law_c", "_law_inner", "_law_piece"] vs) H:=by
  obtain ⟨t,f,l,ws,L,rfl,hl,hR,ht,hL,k⟩:=h
  have go:=fun (x:Str) (e:hd f t L.length=x)=>qt8 (K:=K) (t:=t) (f:=f) (x:=x) (Q:=Q) hl hR (by rw [← e];exact qrc ht) hL (by rw [← e];exact k)
  refine ⟨_,rfl,?_⟩
  refine ⟨_,rfl,f,rfl,?_⟩
  cases f with
  | false=>exact go _ (by unfold hd;rw [if_neg (fun h=>nomatch h.1)])
  | true=>
    refine ⟨_,rfl,_,_,rfl,hl,_,_,rfl,rfl,_,rfl,qbU (fun c=>?_) (fun c=>?_)⟩
    · refine go _ ?_
      have c':=of_decide_eq_true c
      rw [hR.1] at c'
      unfold hd
      rw [if_pos ⟨rfl,by omega⟩]
    · refine go _ ?_
      have c':¬ ((ws.length:Int) > 0):=fun d=>c (decide_eq_true d)
      rw [hR.1] at c'
      unfold hd
      rw [if_neg (fun h=>c' (by omega))]
theorem qlD {K:W.Frag} {tl:TE} {capt:List (Option Nat)} {g:TG} {te:TE} {σ:L2.St} {H:Hp} {Q:VK} (h:tl σ H (fun x H1=>∃ a,x=.ref a∧(∃ xs,SqT K H1 a xs)∧CompJ (Itt K a) capt g te σ Q H1)):qco (qnD K tl) capt g te σ H Q:=h
theorem RwS.snoc {H:Hp} {vs:List V} {L:List (Int×Int×Str)} {p c:Addr} {r:Int×Int×Str} (h:RwS H vs L) (hp:H p=some (.tup [.ref c,.str r.2.2])) (hc:Nm H c r.1 r.2.1) (b1:Bd 1900 r.1) (b2:Bd 1900 r.2.1) (b3:r.2.2.length≤20000):RwS H (vs++[.ref p]) (L++[r]):=by
  refine ⟨by rw [List.length_append,List.length_append,h.1];rfl,fun i x e=>?_⟩
  by_cases lt:i<L.length
  · rw [List.getElem?_append_left lt] at e
    obtain ⟨p',c',h1,h2⟩:=h.2 i x e
    exact ⟨p',c',by rw [List.getElem?_append_left (by rw [h.1];exact lt)];exact h1,h2⟩
  · rw [List.getElem?_append_right (by omega)] at e
    have z:i - L.length=0:=by
      cases hz:i - L.length with
      | zero=>rfl
      | succ n=>rw [hz] at e;simp at e
    rw [z] at e
    cases e
    exact ⟨p,c,by rw [List.getElem?_append_right (by rw [h.1];omega),h.1,z];rfl,hp,hc,b1,b2,b3⟩
theorem RwS.nil (H:Hp):RwS H [] []:=⟨rfl,fun i r e=>by simp at e⟩
theorem qpl (h:qc5 K vs H Q E):qjn K { nx:=fun _ H'=>Q .non H',rt:=Q } (L2.start ["P"] vs) H:=by
  obtain ⟨p,xs,rfl,hp,q⟩:=h
  unfold qjn
  rwa [hp]
  exact q
theorem qpm (a b:Int):0<(nT a b).length:=by
  have:=qiC a
  unfold nT
  split
  · exact this
  · rw [qaK,qaK];omega
theorem qmE {n:Nat} (h:n≤1000):0<(lett n).length∧(lett n).length≤10:=by
  unfold lett
  split
  · exact ⟨by decide,by decide⟩
  · have q:(sI (n:Int)).length≤5:=qmm (k:=4) (by rw [Int.natAbs_natCast];omega) (by decide)
    have e:(Str.ofString "x^").length=2:=rfl
    rw [qaK,e];omega
theorem qlE {n:Nat} {a b:Int} (h:n≤1000) (ha:Bd 1900 a) (hb:Bd 1900 b):0<(tmT n a b).length∧(tmT n a b).length≤1300:=by
  have q1:=qiM ha hb
  have q2:=qpm a b
  have q3:=qmE h
  unfold tmT
  split
  · omega
  · split
    · omega
    · rw [qaK,qaK,show (Str.ofString "*").length=1 from rfl];omega
theorem qkD (d:Bool×Str):∀ D:List (Bool×Str),qle (D++[d])=qle D++(sg d.1++d.2)
  | []=>by
    show sg d.1++d.2++Str.ofString "" = Str.ofString "" ++ (sg d.1++d.2)
    rw [qkl,qoO]
  | x::D=>by
    show sg x.1++x.2++qle (D++[d])=sg x.1++x.2++qle D++(sg d.1++d.2)
    rw [qkD d D]
    simp only [qhn]
theorem qse {P:List (Bool×Str)} (h:∀ d∈P,0<d.2.length):hT P=Str.ofString "" ↔ P=[]:=by
  cases P with
  | nil=>simp [hT]
  | cons x D=>
    constructor
    · intro e
      have e':(ng x.1++x.2++qle D).length=(Str.ofString "").length:=by rw [← e];rfl
      rw [qaK,qaK,show (Str.ofString "").length=0 from rfl] at e'
      have:=h x (List.mem_cons_self ..)
      omega
    · intro e;cases e
theorem qt9 (a:Int):jn a true=ng (decide (a<0)):=by
  unfold jn ng
  by_cases c:a<0 <;> simp [c]
theorem qtp (a:Int):jn a false=sg (decide (a<0)):=by
  unfold jn sg
  by_cases c:a<0 <;> simp [c]
theorem qsf {P:List (Bool×Str)} {a:Int} {x:Str} (h:∀ d∈P,0<d.2.length):hT (P++[(decide (a<0),x)])=hT P++(jn a (decide (hT P=Str.ofString ""))++x):=by
  cases P with
  | nil=>
    rw [decide_eq_true ((qse h).mpr rfl),qt9]
    show ng _++x++Str.ofString "" = Str.ofString "" ++ (ng _++x)
    rw [qkl,qoO]
  | cons y D=>
    rw [decide_eq_false (fun e=>nomatch (qse h).mp e),qtp]
    show ng y.1++y.2++qle (D++[_])=ng y.1++y.2++qle D++(sg _++x)
    rw [qkD]
    simp only [qhn]
theorem qmF:∀ D:List (Bool×Str),(∀ d∈D,d.2.length≤1300)→(qle D).length≤1310*D.length
  | [],_=>by decide
  | x::D,h=>by
    have h1:=h x (List.mem_cons_self ..)
    have h2:=qmF D fun d hd=>h d (List.mem_cons_of_mem _ hd)
    have h3:(sg x.1).length=3:=by unfold sg;split <;> rfl
    show (sg x.1++x.2++qle D).length≤_
    rw [qaK,qaK,List.length_cons]
    omega
theorem qrd {D:List (Bool×Str)} (h:∀ d∈D,d.2.length≤1300):(hT D).length≤1310*D.length:=by
  cases D with
  | nil=>decide
  | cons x D=>
    have h1:=h x (List.mem_cons_self ..)
    have h2:=qmF D fun d hd=>h d (List.mem_cons_of_mem _ hd)
    have h3:(ng x.1).length≤1:=by unfold ng;split <;> decide
    show (ng x.1++x.2++qle D).length≤_
    rw [qaK,qaK,List.length_cons]
    omega
noncomputable def PD (l:List Nu) (i:Nat):List (Bool×Str):=((List.range' (l.length - i) i).filterMap (fR l)).reverse
theorem qpn {l:List Nu} {i:Nat} (h:i<l.length):PD l (i+1)=PD l i++(fR l (l.length - 1 - i)).toList:=by
  unfold PD
  have e:l.length - (i+1)=l.length - 1 - i:=by omega
  have e2:l.length - 1 - i+1=l.length - i:=by omega
  rw [e,List.range'_succ,e2,List.filterMap_cons]
  cases fR l (l.length - 1 - i) with
  | none=>simp
  | some d=>simp
theorem qpo (l:List Nu):PD l l.length=DD l:=by
  unfold PD DD
  rw [Nat.sub_self,List.range_eq_range']
theorem qua {l:List Nu} (h:Wr l) {n:Nat} (hn:n<l.length) {d:Bool×Str} (e:fR l n=some d):0<d.2.length∧d.2.length≤1300:=by
  have q:=qlb (by decide) (fun q hq=>h.1 q hq) n
  have q2:=h.2
  unfold fR at e
  split at e
  · cases e
  · cases e
    exact qlE (by omega) (qd6 q.1) q.2
theorem qqs {l:List Nu} (h:Wr l) {i:Nat} (hi:i≤l.length):(∀ d∈PD l i,0<d.2.length)∧(∀ d∈PD l i,d.2.length≤1300)∧(PD l i).length≤i:=by
  have k:∀ d∈PD l i,0<d.2.length∧d.2.length≤1300:=fun d hd=>by
    unfold PD at hd
    rw [List.mem_reverse,List.mem_filterMap] at hd
    obtain ⟨n,hn,e⟩:=hd
    rw [List.mem_range'_1] at hn
    exact qua h (by omega) e
  refine ⟨fun d hd=>(k d hd).1,fun d hd=>(k d hd).2,?_⟩
  unfold PD
  rw [List.length_reverse]
  exact Nat.le_trans (List.length_filterMap_le ..) (by rw [List.length_range'];exact Nat.le_refl _)
theorem qpp {l:List Nu} (h:Wr l) {i:Nat} (hi:i≤l.length):(hT (PD l i)).length≤16000:=by
  obtain ⟨_,h2,h3⟩:=qqs h hi
  have:=qrd h2
  have:=h.2
  omega
theorem qkE {l:List Nu} (h:Wr l):(pT l).length≤16000:=by
  unfold pT
  split
  · decide
  · rw [← qpo];exact qpp h (Nat.le_refl _)
theorem qtq {l:List Nu} (h:Wr l):(if hT (PD l l.length)=Str.ofString "" then Str.ofString "0" else hT (PD l l.length))=pT l:=by
  have e:=qse (qqs h (Nat.le_refl _)).1
  unfold pT
  rw [qpo] at e ⊢
  by_cases c:DD l=[]
  · rw [if_pos c,if_pos (e.mpr c)]
  · rw [if_neg c,if_neg (fun z=>c (e.mp z))]
theorem qkF (h:qct K vs H Q E):qhA K { nx:=fun _ H'=>Q .non H',rt:=Q } (L2.start ["size", "n", "letter"] vs) H:=by
  obtain ⟨p,a,b,n,rfl,hp,ha,hb,hn,k⟩:=h
  unfold tmT at k
  refine ⟨_,rfl,rfl,_,rfl,qbU (fun c=>?_) (fun c=>?_)⟩
  · have c':=of_decide_eq_true c
    rw [V.int.injEq] at c'
    rw [if_pos (by omega)] at k
    exact qoQ (qe6 (qbD rfl ⟨_,_,_,rfl,hp,ha,hb,k⟩))
  · have c':n≠0:=fun z=>c (by rw [z];rfl)
    rw [if_neg c'] at k
    have go:∀ x:Str,x=lett n→qbw (tIf (qaS (tOp eqT (qaf 0) (qcW (qab (tC (.int 1)) (qab (tC (.int 1)) qao))))) (qaf 2) (tOp qbt (tOp qbt (qar (qaM K) [] E0 (qab (qaf 0) qao)) (tC (.str "*"))) (qaf 2))) { nx:=fun _ H'=>Q .non H',rt:=Q } [some (.ref p),some (.int (n:Int)),some (.str x)] H:=by
      rintro x rfl
      refine ⟨_,rfl,qgR,fun w hw=>⟨_,_,_,_,rfl,rfl,qag hw _ _ _ hp,qai ..,rfl,rfl,_,rfl,qbU (fun c1=>?_) (fun c1=>?_)⟩⟩
      · have c2:=of_decide_eq_true c1
        simp only [List.cons.injEq,V.int.injEq,and_true] at c2
        rw [if_pos c2] at k
        exact ⟨_,rfl,k _ (qag hw _)⟩
      · have c2:¬ (a=1∧b=1):=fun z=>c1 (by rw [z.1,z.2];rfl)
        rw [if_neg c2] at k
        have q1:=qiM ha hb
        have q2:=(qmE hn).2
        have q3:(Str.ofString "*").length=1:=rfl
        exact qeE (qeE (qe6 (qbD rfl ⟨_,_,_,rfl,qag hw _ _ _ hp,ha,hb,fun H1 s1=>⟨_,_,rfl,rfl,sz (by omega),_,rfl,_,_,rfl,rfl,sz (by rw [qaK];omega),k _ ((qag hw _).trans s1)⟩⟩)))
    refine ⟨_,rfl,rfl,_,rfl,qbU (fun c1=>?_) (fun c1=>?_)⟩
    · refine go _ ?_
      have c2:=of_decide_eq_true c1
      rw [V.int.injEq] at c2
      unfold lett
      rw [if_pos (by omega)]
    · have c2:n≠1:=fun z=>c1 (by rw [z];rfl)
      have q:(sI (n:Int)).length≤5:=qmm (k:=4) (by rw [Int.natAbs_natCast];omega) (by decide)
      refine ⟨sz (by decide),_,rfl,_,rfl,?_,sz (by have e:(Str.ofString "x^").length=2:=rfl;rw [e];exact Nat.le_trans (Nat.add_le_add_left q 2) (by decide)),go _ ?_⟩
      · exact qgh (Nat.lt_of_lt_of_le (show (n:Int).natAbs<2 ^ 10 by rw [Int.natAbs_natCast];omega) (Nat.pow_le_pow_right (by decide) (by decide)))
      · unfold lett
        rw [if_neg c2]
theorem qpq {l:List Nu} {i:Nat} (h:Wr l) (hi:i<l.length) (c:(qaY l (l.length - 1 - i)).1≠0):hT (PD l (i+1))=hT (PD l i)++(jn (qaY l (l.length - 1 - i)).1 (decide (hT (PD l i)=Str.ofString ""))++tmT (l.length - 1 - i) (ab (qaY l (l.length - 1 - i)).1) (qaY l (l.length - 1 - i)).2):=by
  rw [qpn hi]
  have e:fR l (l.length - 1 - i)=some (decide ((qaY l (l.length - 1 - i)).1<0),tmT (l.length - 1 - i) (ab (qaY l (l.length - 1 - i)).1) (qaY l (l.length - 1 - i)).2):=by unfold fR;rw [if_neg c]
  rw [e]
  exact qsf (qqs h (Nat.le_of_lt hi)).1
theorem qpr {l:List Nu} {i:Nat} (hi:i<l.length) (c:(qaY l (l.length - 1 - i)).1=0):PD l (i+1)=PD l i:=by
  rw [qpn hi]
  have e:fR l (l.length - 1 - i)=none:=by unfold fR;rw [if_pos c]
  rw [e]
  exact List.append_nil _
theorem dec_str (x y:Str):decide (V.str x=V.str y)=decide (x=y):=by simp only [V.str.injEq]
theorem qkG (h:qbo K vs H Q E):qhz K { nx:=fun _ H'=>Q .non H',rt:=Q } (L2.start ["P", "text", "n"] vs) H:=by
  obtain ⟨p,l,rfl,⟨xs,hp,hN⟩,hw,k⟩:=h
  have el:=hN.length
  have l12:=hw.2
  refine qm5 (r_c ?_)
  refine ⟨_,rfl,_,_,rfl,hp,_,rfl,_,rfl,_,_,rfl,⟨by omega,by omega,by omega,by omega⟩,?_⟩
  have e:((xs.length:Int) - 1 - -1).toNat=l.length:=by omega
  show ForJ (Itd ((xs.length:Int) - 1) ((xs.length:Int) - 1 - -1).toNat) _ _ _ _ _
  rw [e,el]
  refine ForJ.down (fun i σ H'=>∃ c,σ=[some (.ref p),some (.str (hT (PD l i))),c]∧Same H H') ⟨none,rfl,Same.refl H⟩ ?_ ?_
  · rintro i σ H1 hi ⟨c,rfl,s⟩
    have en:((l.length:Int) - 1 - (i:Int))=((l.length - 1 - i:Nat):Int):=by omega
    rw [en]
    have hi2:l.length - 1 - i<l.length:=by omega
    obtain ⟨v,hv,q,rfl,hq⟩:=(hN.tp (tpS s)).at hi2 (0,1)
    have hat:atI xs ((l.length - 1 - i:Nat):Int)=some (.ref q):=by rw [qiQ];exact hv
    have hp1:=s _ _ hp
    have bq:=qlb (by decide) (fun q hq=>hw.1 q hq) (l.length - 1 - i)
    have hq':Nm H1 q (qaY l (l.length - 1 - i)).1 (qaY l (l.length - 1 - i)).2:=hq
    refine ⟨_,rfl,_,rfl,_,_,_,_,rfl,rfl,hp1,hat,_,_,_,_,rfl,rfl,hq',rfl,rfl,_,rfl,qbU (fun c=>?_) (fun c=>?_)⟩
    · have c0:(qaY l (l.length - 1 - i)).1≠0:=fun z=>by rw [z] at c;exact absurd c (by decide)
      have z1:=qpq hw hi c0
      have z2:=qpp hw (Nat.le_of_lt hi)
      have z3:=qpj (qaY l (l.length - 1 - i)).1 (decide (hT (PD l i)=Str.ofString ""))
      have z4:=qlE (n:=l.length - 1 - i) (by omega) (qd6 bq.1) bq.2
      refine ⟨_,rfl,qeE (qf2 ⟨_,rfl,_,rfl,_,_,_,_,rfl,rfl,hp1,hat,_,rfl,rfl,_,_,_,_,rfl,hq',?_⟩)⟩
      refine qf2 (qe6 ⟨_,rfl,_,rfl,_,_,_,_,rfl,rfl,hp1,hat,_,_,_,rfl,hq',fun w hw1=>⟨_,rfl,_,_,_,_,rfl,qai ..,qd6 bq.1,bq.2,by omega,fun H2 s2=>?_⟩⟩)
      rw [dec_str]
      refine ⟨_,_,rfl,rfl,sz (by omega),_,_,rfl,rfl,sz (by rw [qaK];omega),some (.int ((l.length - 1 - i:Nat):Int)),?_,s.trans ((qag hw1 _).trans s2)⟩
      rw [z1]
      rfl
    · have c0:(qaY l (l.length - 1 - i)).1=0:=Decidable.byContradiction fun z=>c (by simp [z])
      exact ⟨some (.int ((l.length - 1 - i:Nat):Int)),by rw [qpr hi c0];rfl,s⟩
  · rintro σ H1 ⟨c,rfl,s⟩
    have e2:=qtq hw
    refine ⟨_,rfl,rfl,_,rfl,qbU (fun c=>?_) (fun c=>?_)⟩
    · rw [dec_str] at c
      have c0:¬ hT (PD l l.length)=Str.ofString "" := fun z=>by rw [decide_eq_true z] at c;exact absurd c (by decide)
      rw [if_neg c0] at e2
      refine ⟨_,rfl,?_⟩
      rw [e2]
      exact k _ s
    · rw [dec_str] at c
      have c0:hT (PD l l.length)=Str.ofString "" := Decidable.byContradiction fun z=>c (by rw [decide_eq_false z];rfl)
      rw [if_pos c0] at e2
      show Q (V.str (Str.ofString "0")) H1
      rw [e2]
      exact k _ s
theorem qsg (h:qf3 K vs H Q E):qq4 K { nx:=fun _ H'=>Q .non H',rt:=Q } (L2.start ["F", "top"] vs) H:=by
  obtain ⟨p,T,B,rfl,⟨u,v,hp,hT,hB⟩,wT,wB,k⟩:=h
  have lT:=qkE wT
  have lB:=qkE wB
  refine qjl (qeE (qbD rfl (r_c (qp8 hp rfl ⟨_,_,rfl,hT,wT,fun H1 s1=>?_⟩))))
  refine qoQ ⟨_,rfl,_,_,_,_,rfl,rfl,s1 _ _ hp,rfl,qgR,fun w1 h1=>⟨qpI,fun w2 h2=>?_⟩⟩
  have s2:Same H1 (upd (upd H1 w1 (.tup [.int 1,.int 1])) w2 (.tup [.ref w1])):=(qag h1 _).trans (qag h2 _)
  obtain ⟨ys,hy,hM⟩:=hB
  have hM2:=hM.tp (tpS (s1.trans s2))
  refine eqP ((s1.trans s2) _ _ hy) hM2 (qai ..) (Nums.one (qsa (qag h2 _ _ _ (qai ..)))) (decide (B=[(1,1)])) (by simp) ⟨_,rfl,qbU (fun c=>?_) (fun c=>?_)⟩
  · have c':=of_decide_eq_true c
    unfold fT at k
    rw [if_pos c'] at k
    exact ⟨_,rfl,k _ (s1.trans s2)⟩
  · have c':¬ B=[(1,1)]:=fun z=>c (decide_eq_true z)
    unfold fT at k
    rw [if_neg c'] at k
    have e1:(Str.ofString "(").length=1:=rfl
    have e2:(Str.ofString ")/(").length=3:=rfl
    have e3:(Str.ofString ")").length=1:=rfl
    refine qeE (qeE (qeE (qeE (r_c ⟨_,rfl,_,_,rfl,rfl,sz (by omega),_,_,rfl,rfl,sz (by rw [qaK];omega),?_⟩))))
    refine qe6 (qeE (qbD rfl (r_c (qp8 ((s1.trans s2) _ _ hp) rfl ⟨_,_,rfl,⟨ys,(s1.trans s2) _ _ hy,hM2⟩,wB,fun H3 s3=>?_⟩))))
    exact ⟨_,_,rfl,rfl,sz (by rw [qaK,qaK];omega),_,_,rfl,rfl,sz (by rw [qaK,qaK,qaK];omega),k _ ((s1.trans s2).trans s3)⟩
theorem qtr {b c:Nat} {l:List Nu} (G:Gq b c l) (hb:b≤1900) (hc:c≤1900) (h:l.length≤12):Wr l:=by
  obtain ⟨M,hO,bM,hz⟩:=G.ov
  exact ⟨fun q hq=>⟨(qkt G.low hO hz q hq).mono hb,(qb7 (Int.ne_of_gt hO.1) (hO.2 q hq) bM).mono hc⟩,h⟩
theorem nT_one {a b:Int}:nT a b=Str.ofString "1" ↔ a=1∧b=1:=by
  unfold nT
  by_cases c:b=1
  · rw [if_pos c,qtg]
    exact ⟨fun h=>⟨h,c⟩,fun h=>h.1⟩
  · rw [if_neg c]
    constructor
    · intro q
      have q':=congrArg Str.length q
      rw [qaK,qaK,show (Str.ofString "/").length=1 from rfl,show (Str.ofString "1").length=1 from rfl] at q'
      have h1:=qiC a
      have h2:=qiC b
      omega
    · intro q
      exact absurd q.2 c
noncomputable def lx (n:Nat):Str:=if n=0 then Str.ofString "" else lett n
theorem qts {n:Nat} {a b:Int} (h:n≠0) (c:nT a b=Str.ofString "1"):Str.ofString "" ++ lx n=tmT n a b:=by
  unfold tmT lx
  rw [if_neg h,if_neg h,if_pos (nT_one.mp c),qkl]
theorem qsh {n:Nat} {a b:Int} (h:n≠0) (c:¬ nT a b=Str.ofString "1"):nT a b++Str.ofString "*" ++ lx n=tmT n a b:=by
  unfold tmT lx
  rw [if_neg h,if_neg h,if_neg (fun z=>c (nT_one.mpr z))]
theorem qtt (s:Bool):(sg s).length=3:=by unfold sg;split <;> rfl
theorem qps {l:List Nu} (h:Wr l):(pT l).length≤1310*l.length+1:=by
  unfold pT
  split
  · have:(Str.ofString "0").length=1:=rfl
    omega
  · rw [← qpo]
    obtain ⟨_,h2,h3⟩:=qqs h (Nat.le_refl _)
    have:=qrd h2
    omega
theorem qre {T B:List Nu} (hT:Wr T) (hB:Wr B) (t6:T.length≤6) (b6:B.length≤6):(fT T B).length≤20000:=by
  have q1:=qps hT
  have q2:=qps hB
  unfold fT
  split
  · omega
  · rw [qaK,qaK,qaK,qaK,show (Str.ofString "(").length=1 from rfl,show (Str.ofString ")/(").length=3 from rfl,show (Str.ofString ")").length=1 from rfl]
    omega
theorem RwP.same {H H':Hp} {vs:List V} {L:List (Int×Int×List Nu)} (h:RwP H vs L) (s:Same H H'):RwP H' vs L:=⟨h.1,fun i r e=>by
  obtain ⟨p,c,d,h1,h2,h3,h4,h5⟩:=h.2 i r e
  exact ⟨p,c,d,h1,s _ _ h2,s _ _ h3,h4.same s,h5⟩⟩
theorem RwP.at {H:Hp} {vs:List V} {L:List (Int×Int×List Nu)} {i:Nat} {x:V} (h:RwP H vs L) (e:vs[i]?=some x):∃ r p c d,L[i]?=some r∧x=.ref p∧H p=some (.tup [.ref c,.ref d])∧Nm H c r.1 r.2.1∧Pl H d r.2.2∧Bd 1900 r.1∧Bd 1900 r.2.1∧Wr r.2.2:=by
  have hi:i<L.length:=by rw [← h.1];exact (List.getElem?_eq_some_iff.mp e).1
  obtain ⟨p,c,d,h1,h2⟩:=h.2 i _ (List.getElem?_eq_getElem hi)
  rw [e] at h1
  cases h1
  exact ⟨_,p,c,d,List.getElem?_eq_getElem hi,rfl,h2⟩
theorem qqt {L:List (Int×Int×List Nu)} {i:Nat} {r:Int×Int×List Nu} (h:L[i]?=some r):(L.take (i+1)).map ptx=(L.take i).map ptx++[ptx r]:=by
  rw [List.take_succ,h,List.map_append];rfl
theorem qmG {K:W.Frag} {H1:Hp} {Q:VK} {l:Addr} {ws:List V} {L:List (Int×Int×List Nu)} {σ:L2.St} {sp:Sp} (hsp:∀ p l H Q,Pl H p l→Wr l→(∀ H',Same H H'→Q (.str (pT l)) H')→sp [.ref p] H Q E0) (hl:H1 l=some (.tup ws)) (hR:RwP H1 ws L) (hL:L.length≤30)
    (k:∀ ys H2 w,Same H1 H2→RwS H2 ys (L.map ptx)→H2 w=none→Q (.ref w) (upd H2 w (.lst ys))):CompJ (Itt K l) [none,none] (qfj 2 (qcB (qaj 0) (qcB (qaj 1) qlU))) (qcW (qab (qaf 0) (qab (qar sp [] E0 (qab (qaf 1) qao)) qao))) σ Q H1:=by
  refine CompJ.tup (xs:=ws) (fun j ys H'=>j≤ws.length∧Same H1 H'∧RwS H' ys ((L.take j).map ptx)) ⟨Nat.zero_le _,Same.refl H1,RwS.nil H1⟩ ?_ ?_ ?_
  · rintro i ys H2 ⟨hi,s2,h2⟩
    have e:=h2.1
    rw [List.length_map,List.length_take] at e
    exact ⟨hi,sz (by omega),s2 _ _ hl⟩
  · rintro i x ys H2 hx ⟨hi,s2,h2⟩
    obtain ⟨r,p,c,d,hr,rfl,hp,hc,hd,b1,b2,b3⟩:=(hR.same s2).at hx
    refine ⟨_,_,rfl,hp,rfl,_,_,rfl,_,_,rfl,rfl,?_⟩
    refine qd1 (qbD rfl (qe6 (qbD rfl (hsp _ _ _ _ hd b3 fun H3 s3=>⟨qgR,fun w hw=>?_⟩))))
    have lt:i<ws.length:=(List.getElem?_eq_some_iff.mp hx).1
    refine ⟨lt,s2.trans (s3.trans (qag hw _)),?_⟩
    rw [qqt hr]
    exact ((h2.same s3).same (qag hw _)).snoc (r:=ptx r) (qai ..) (qag hw _ _ _ (s3 _ _ hc)) b1 b2 (Nat.le_trans (qkE b3) (by decide))
  · rintro ys H2 ⟨hi,s2,h2⟩ w hw
    have el:ws.length=L.length:=hR.1
    rw [el,List.take_length] at h2
    exact k ys H2 w s2 h2 hw
theorem qkH (h:qb1 K vs H Q E):qhB K { nx:=fun _ H'=>Q .non H',rt:=Q } (L2.start ["form"] vs) H:=by
  obtain ⟨n,f,l,T,B,ws,L,rfl,hn,F,wT,wB,t6,b6,hl,hR,hL,k⟩:=h
  refine qoQ (qf2 (qe6 (qeE (qbD rfl (r_c (qp8 hn rfl ⟨_,_,_,rfl,F,wT,wB,fun H1 s1=>?_⟩))))))
  refine qlD (qeE (qbD rfl (r_c (qp8 (s1 _ _ hn) rfl ⟨_,rfl,⟨_,SqT.of (s1 _ _ hl)⟩,qmG (fun p l H Q h1 h2 h3=>⟨p,l,rfl,h1,h2,h3⟩) (s1 _ _ hl) (hR.same s1) hL fun ys H2 w s2 h2 hw=>?_⟩))))
  refine ⟨_,_,_,_,rfl,qai ..,h2.same (qag hw _),qre wT wB t6 b6,by rw [List.length_map];exact hL,fun H3 s3=>?_⟩
  rw [List.length_map]
  exact k _ (s1.trans (s2.trans ((qag hw _).trans s3)))
theorem qfL (h:qbp K vs H Q E):qdE K { nx:=fun _ H'=>Q .non H',rt:=Q } (L2.start ["_law_kf"] vs) H:=by
  obtain ⟨p,T,B,rfl,⟨u,v,hp,hT,hB⟩,wT,wB,k⟩:=h
  have lT:=qkE wT
  have lB:=qkE wB
  refine qt0 (qmn (qeE (qeE (qbD rfl (r_c (qp8 hp rfl (qq1 (qd1 (r_c (r_c ⟨qgR,fun w1 h1=>⟨qpI,fun w2 h2=>?_⟩⟩))))))))))
  have s2:Same H (upd (upd H w1 (.tup [.int 1,.int 1])) w2 (.tup [.ref w1])):=(qag h1 _).trans (qag h2 _)
  obtain ⟨ys,hy,hM⟩:=hB
  have hM2:=hM.tp (tpS s2)
  refine eqP (s2 _ _ hy) hM2 (qai ..) (Nums.one (qsa (qag h2 _ _ _ (qai ..)))) (decide (B=[(1,1)])) (by simp) ⟨_,rfl,qbU (fun c=>?_) (fun c=>?_)⟩
  · have c':=of_decide_eq_true c
    unfold fT at k
    rw [if_pos c'] at k
    exact qoQ (qe6 (qeE (qbD rfl (r_c (qp8 (s2 _ _ hp) rfl ⟨_,_,rfl,hT.same s2,wT,fun H3 s3=>k _ (s2.trans s3)⟩)))))
  · have c':¬ B=[(1,1)]:=fun z=>c (decide_eq_true z)
    unfold fT at k
    rw [if_neg c'] at k
    have e1:(Str.ofString "(").length=1:=rfl
    have e2:(Str.ofString ")/(").length=3:=rfl
    have e3:(Str.ofString ")").length=1:=rfl
    refine qoQ (qeE (qeE (qeE (qeE (r_c (qe6 (qeE (qbD rfl (r_c (qp8 (s2 _ _ hp) rfl ⟨_,_,rfl,hT.same s2,wT,fun H3 s3=>⟨_,_,rfl,rfl,sz (by omega),_,_,rfl,rfl,sz (by rw [qaK];omega),?_⟩⟩))))))))))
    refine qe6 (qeE (qbD rfl (r_c (qp8 ((s2.trans s3) _ _ hp) rfl ⟨_,_,rfl,⟨ys,(s2.trans s3) _ _ hy,hM.tp (tpS (s2.trans s3))⟩,wB,fun H4 s4=>?_⟩))))
    exact ⟨_,_,rfl,rfl,sz (by rw [qaK,qaK];omega),_,_,rfl,rfl,sz (by rw [qaK,qaK,qaK];omega),k _ ((s2.trans s3).trans s4)⟩
theorem qqu (a b:Int):nT a b=tmT 0 a b:=by unfold tmT;rw [if_pos rfl]
theorem qsi {n:Nat} {a b:Int} (h:n≠0) (c:nT a b=Str.ofString "1"):lx n=tmT n a b:=by
  have:=qts h c
  rwa [qkl] at this
theorem qie (h:qa8 K vs H Q E):qfB K { nx:=fun _ H'=>Q .non H',rt:=Q } (L2.start ["_law_kp", "_law_text", "_law_n", "_law_top", "_law_bottom", "_law_size", "_law_letter"] vs) H:=by
  obtain ⟨p,l,rfl,⟨xs,hp,hN⟩,hw,k⟩:=h
  have el:=hN.length
  have l12:=hw.2
  refine qm5 (r_c ?_)
  refine ⟨_,rfl,_,_,rfl,hp,_,_,rfl,rfl,_,rfl,_,rfl,_,_,rfl,⟨by omega,by omega,by omega,by omega⟩,?_⟩
  have e:((xs.length:Int) - 1 - -1).toNat=l.length:=by omega
  show ForJ (Itd ((xs.length:Int) - 1) ((xs.length:Int) - 1 - -1).toNat) _ _ _ _ _
  rw [e,el]
  refine ForJ.down (fun i σ H'=>∃ c2 c3 c4 c5 c6,σ=[some (.ref p),some (.str (hT (PD l i))),c2,c3,c4,c5,c6]∧Same H H') ⟨none,none,none,none,none,rfl,Same.refl H⟩ ?_ ?_
  · rintro i σ H1 hi ⟨c2,c3,c4,c5,c6,rfl,s⟩
    have en:((l.length:Int) - 1 - (i:Int))=((l.length - 1 - i:Nat):Int):=by omega
    rw [en]
    have hi2:l.length - 1 - i<l.length:=by omega
    obtain ⟨v,hv,q,rfl,hq⟩:=(hN.tp (tpS s)).at hi2 (0,1)
    have hat:atI xs ((l.length - 1 - i:Nat):Int)=some (.ref q):=by rw [qiQ];exact hv
    have hp1:=s _ _ hp
    have bq:=qlb (by decide) (fun q hq=>hw.1 q hq) (l.length - 1 - i)
    have hq':Nm H1 q (qaY l (l.length - 1 - i)).1 (qaY l (l.length - 1 - i)).2:=hq
    refine ⟨_,rfl,_,rfl,_,_,_,_,rfl,rfl,hp1,hat,_,_,rfl,hq',rfl,_,_,rfl,_,_,rfl,rfl,?_⟩
    refine ⟨_,rfl,rfl,_,rfl,qbU (fun c=>?_) (fun c=>?_)⟩
    · have c0:(qaY l (l.length - 1 - i)).1≠0:=fun z=>by rw [z] at c;exact absurd c (by decide)
      have z1:=qpq hw hi c0
      have z2:=qpp hw (Nat.le_of_lt hi)
      have z5:=qiM (qd6 bq.1) bq.2
      have z4:=qlE (n:=l.length - 1 - i) (by omega) (qd6 bq.1) bq.2
      generalize hn:l.length - 1 - i=n at *
      generalize hA:(qaY l n).1=A at *
      generalize hB:(qaY l n).2=B at *
      have z4':(tmT n (ab A) B).length≤1300:=z4.2
      refine qjl (qd1 ⟨_,rfl,_,rfl,_,rfl,qgR,fun w hw1=>⟨_,_,_,rfl,qai ..,qd6 bq.1,bq.2,fun H2 s2=>?_⟩⟩)
      have s02:=s.trans ((qag hw1 _).trans s2)
      have li:(sI (n:Int)).length≤5:=qmm (k:=4) (by rw [Int.natAbs_natCast];omega) (by decide)
      have lg:((n:Int).natAbs.log2<1920):=qgh (Nat.lt_of_lt_of_le (show (n:Int).natAbs<2 ^ 10 by rw [Int.natAbs_natCast];omega) (Nat.pow_le_pow_right (by decide) (by decide)))
      refine ⟨_,rfl,_,rfl,lg,_,_,rfl,rfl,sz (Nat.le_trans (Nat.add_le_add_left li 2) (by decide)),qt1,fun w3 hw3=>⟨_,rfl,_,_,rfl,_,_,_,.str (lx n),rfl,rfl,qai ..,?_,?_⟩⟩
      · unfold lx
        by_cases i0:n=0
        · subst i0;rfl
        · rw [if_neg i0]
          unfold lett
          by_cases i1:n=1
          · subst i1;rfl
          · rw [if_neg i1]
            have e:(if (2:Int)<(n:Int) then (2:Int) else (n:Int))=2:=by split <;> omega
            rw [e]
            rfl
      · have s03:Same H (upd H2 w3 (HO.lst [V.str (Str.ofString ""),V.str (Str.ofString "x"),V.str (Str.ofString "x^" ++ Str.ofString (toString (n:Int)))])):=s02.trans (qag hw3 _)
        generalize upd H2 w3 (HO.lst [V.str (Str.ofString ""),V.str (Str.ofString "x"),V.str (Str.ofString "x^" ++ Str.ofString (toString (n:Int)))])=H3 at s03 ⊢
        have go:∀ (x:Str) (D:Ends),x=tmT n (ab A) B→(∀ σ H',(∃ c2 c3 c4 c5 c6,σ=[some (.ref p),some (.str (hT (PD l (i+1)))),c2,c3,c4,c5,c6]∧Same H H')→D.nx σ H')→qdo K D [some (.ref p),some (.str (hT (PD l i))),some (.int (n:Int)),some (.int A),some (.int B),some (.str x),some (.str (lx n))] H3:=by
          rintro x D rfl hD
          refine ⟨_,rfl,rfl,_,rfl,?_⟩
          rw [dec_str]
          refine qbU (fun hc=>?_) (fun hc=>?_)
          · have hc':=of_decide_eq_true hc
            refine ⟨_,rfl,_,_,rfl,rfl,_,rfl,_,_,rfl,rfl,?_,_,rfl,_,_,rfl,rfl,?_,?_⟩
            · split
              · exact .inr rfl
              · exact .inl rfl
            · have g:(if (if decide (A<0)=true then (1:Int) else 0)=1 then Str.ofString "-" else Str.ofString "").length≤1:=by split <;> decide
              exact sz (by omega)
            · have e1:(if (if decide (A<0)=true then (1:Int) else 0)=1 then Str.ofString "-" else Str.ofString "")=jn A true:=by
                unfold jn
                by_cases c:A<0 <;> simp [c]
              rw [decide_eq_true hc'] at z1
              refine hD _ _ ⟨some (.int (n:Int)),some (.int A),some (.int B),some (.str (tmT n (ab A) B)),some (.str (lx n)),?_,s03⟩
              rw [z1,hc',qkl,e1]
              rfl
          · have hc':¬ hT (PD l i)=Str.ofString "" := fun d=>hc (decide_eq_true d)
            refine ⟨_,rfl,qgR,fun w4 hw4=>?_⟩
            refine ⟨_,rfl,_,_,rfl,rfl,_,rfl,_,_,_,.str (sg (decide (A<0))),rfl,rfl,qai ..,by unfold sg;cases decide (A<0) <;> rfl,?_⟩
            have g:=qtt (decide (A<0))
            refine ⟨_,_,rfl,rfl,sz (by omega),_,rfl,_,_,rfl,rfl,sz (by rw [qaK];omega),?_⟩
            rw [decide_eq_false hc',qtp,← qhn] at z1
            refine hD _ _ ⟨some (.int (n:Int)),some (.int A),some (.int B),some (.str (tmT n (ab A) B)),some (.str (lx n)),?_,s03.trans (qag hw4 _)⟩
            rw [z1]
            rfl
        have gi:∀ {c:Bool},decide ((n:Int) > 0)=c→(c=true↔n≠0):=fun {c} h=>by rw [← h,decide_eq_true_eq];omega
        refine ⟨_,rfl,_,_,rfl,rfl,_,rfl,qbU (fun c1=>?_) (fun c1=>?_)⟩
        · have i0:=(gi rfl).mp c1
          refine ⟨_,rfl,rfl,_,rfl,qbU (fun c2=>?_) (fun c2=>?_)⟩
          · rw [dec_str] at c2
            exact ⟨_,rfl,go _ _ (qsi i0 (of_decide_eq_true c2)) fun _ _ h=>h⟩
          · rw [dec_str] at c2
            have tm:=qsh (a:=ab A) (b:=B) i0 (fun z=>c2 (decide_eq_true z))
            have tl:(nT (ab A) B++Str.ofString "*").length+(lx n).length≤1300:=by rw [← qaK,tm];exact z4'
            refine ⟨_,rfl,_,_,rfl,rfl,_,rfl,qbU (fun c3=>?_) (fun c3=>absurd c1 c3)⟩
            exact ⟨_,rfl,_,_,rfl,rfl,sz (by have e:(Str.ofString "*").length=1:=rfl;rw [e];omega),_,rfl,_,_,rfl,rfl,sz (Nat.le_trans tl (by decide)),go _ _ tm fun _ _ h=>h⟩
        · have i0:n=0:=Decidable.byContradiction fun z=>c1 ((gi rfl).mpr z)
          refine ⟨_,rfl,_,_,rfl,rfl,_,rfl,qbU (fun c3=>absurd c3 c1) (fun c3=>?_)⟩
          exact go _ _ (by rw [i0];exact qqu _ _) fun _ _ h=>h
    · have c0:(qaY l (l.length - 1 - i)).1=0:=Decidable.byContradiction fun z=>c (by simp [z])
      exact ⟨_,_,_,_,_,by rw [qpr hi c0];rfl,s⟩
  · rintro σ H1 ⟨c2,c3,c4,c5,c6,rfl,s⟩
    have e2:=qtq hw
    refine ⟨_,rfl,rfl,_,rfl,qbU (fun c=>?_) (fun c=>?_)⟩
    · rw [dec_str] at c
      rw [if_pos (of_decide_eq_true c)] at e2
      show Q (V.str (Str.ofString "0")) H1
      rw [e2]
      exact k _ s
    · rw [dec_str] at c
      rw [if_neg (fun z=>c (decide_eq_true z))] at e2
      refine ⟨_,rfl,?_⟩
      rw [e2]
      exact k _ s
theorem qqv {K:W.Frag} {tl:TE} {capt:List (Option Nat)} {g:TG} {tc:TT} {te:TE} {σ:L2.St} {H:Hp} {Q:VK} (h:tl σ H (fun x H1=>∃ a,x=.ref a∧(∃ xs,SqL K H1 a xs)∧CompF (Itl K a) capt g tc te σ Q H1)):qiy (qdB K tl) capt g tc te σ H Q:=h
theorem Nums.drop' {H:Hp}:∀ {xs:List V} {l:List Nu} (n:Nat),Nums H xs l→Nums H (xs.drop n) (l.drop n)
  | _,_,0,h=>h
  | [],[],_+1,_=>trivial
  | x::xs,q::l,n+1,h=>Nums.drop' n h.2
theorem qlF (h:qc6 K vs H Q E):qiE K { nx:=fun _ H'=>Q .non H',rt:=Q } (L2.start ["_law_box_here", "_law_many", "_law_found", "_law_k", "_law_c", "_law_place"] vs) H:=by
  obtain ⟨p,m,n,rfl,B0,n8,m0,m5,k⟩:=h
  refine ⟨sz (by decide),fun r hr=>?_⟩
  have rp:p≠r:=B0.ne_none hr
  have s0:Same H (upd H r (.lst [])):=qag hr _
  refine ⟨_,rfl,_,rfl,by omega,by omega,?_⟩
  refine ForR.by (fun j σ H'=>∃ c3 c4 c5,σ=[some (.ref p),some (.int m),some (.ref r),c3,c4,c5]∧Kp p H H'∧Box H' p (n+3*j)∧∃ ws L,H' r=some (.lst ws)∧Nums H' ws L∧qh6 40 L∧L.length≤j) ⟨none,none,none,rfl,Kp.of_same s0,(B0.same s0).mono (by omega),[],[],qai ..,trivial,(fun _ h=>nomatch h),Nat.le_refl _⟩ ?_ ?_
  · rintro j σ H1 hj ⟨c3,c4,c5,rfl,k1,B1,ws,L,hr1,hN,bL,lL⟩
    obtain ⟨bx,hb1⟩:=B1.at
    refine qjl (qbD rfl ⟨_,_,rfl,B1,by omega,fun c ct cd H2 hc lc bct bcd B2 kp2=>?_⟩)
    have hr2:=kp2 _ _ (Ne.symm rp) hr1
    have hN2:=hN.tp (kp2.tp hb1)
    have k2:=k1.trans kp2
    have wl:=hN.length
    have skip:∃ c3' c4' c5',[some (.ref p),some (.int m),some (.ref r),some (V.int ((0:Int)+(j:Int))),some (.ref c),c5]=[some (.ref p),some (.int m),some (.ref r),c3',c4',c5']∧Kp p H H2∧Box H2 p (n+3*((j+1:Nat):Int))∧∃ ws L,H2 r=some (.lst ws)∧Nums H2 ws L∧qh6 40 L∧L.length≤j+1:=
      ⟨_,_,_,rfl,k2,B2.mono (by omega),ws,L,hr2,hN2,bL,Nat.le_succ_of_le lL⟩
    refine ⟨_,rfl,_,_,_,_,rfl,rfl,hc,rfl,rfl,_,rfl,qbU (fun c1=>?_) (fun c1=>skip)⟩
    refine ⟨_,rfl,_,rfl,_,_,_,_,decide ((ct,cd)∈L),rfl,hr2,qun (q:=(ct,cd)) ⟨c,rfl,hc⟩,qrN hN2,okN _ _,?_,?_,_,rfl,qbU (fun c2=>?_) (fun c2=>skip)⟩
    · intro e he
      obtain ⟨q,_,rfl⟩:=List.mem_map.mp he
      exact okN _ _
    · rw [decide_eq_true_eq]
      constructor
      · exact fun h=>List.mem_map.mpr ⟨_,h,rfl⟩
      · intro h
        obtain ⟨q,hq,e⟩:=List.mem_map.mp h
        rwa [qmA e] at hq
    · refine qm5 (qq3 (qqv (qbD rfl ⟨_,rfl,⟨_,SqL.of hr2⟩,CompF.lst (xs:=ws) (fun i ys H'=>i≤ws.length∧H'=H2∧ys.length≤i) ⟨Nat.zero_le _,rfl,Nat.le_refl _⟩ ?_ ?_ ?_⟩)))
      · rintro i ys H' ⟨h1,rfl,h2⟩
        exact ⟨h1,sz (by omega),SqL.of hr2⟩
      · rintro i x ys H' hx ⟨h1,rfl,h2⟩
        have hi:i<ws.length:=(List.getElem?_eq_some_iff.mp hx).1
        obtain ⟨q,hq,u,rfl,hu⟩:=hN2.get hx
        have bq:=bL q (List.mem_of_getElem? hq)
        refine ⟨_,rfl,_,_,_,_,rfl,rfl,hu,rfl,_,rfl,_,_,_,_,rfl,rfl,hc,rfl,_,_,rfl,rfl,qh8 (bq.1.mono (by decide)) (bcd.mono (by decide)),?_⟩
        refine ⟨_,rfl,_,_,_,_,rfl,rfl,hc,rfl,_,rfl,_,_,_,_,rfl,rfl,hu,rfl,_,_,rfl,rfl,qh8 (bct.mono (by decide)) (bq.2.mono (by decide)),?_⟩
        refine ⟨_,_,rfl,rfl,_,rfl,qbU (fun _=>⟨_,rfl,by omega,rfl,?_⟩) (fun _=>⟨by omega,rfl,by omega⟩)⟩
        rw [List.length_append]
        exact Nat.succ_le_succ h2
      · rintro ys H' ⟨_,e9,h2⟩ w hw
        obtain rfl:H2=H':=e9.symm
        have s3:Same H2 (upd H2 w (.lst ys)):=qag hw _
        refine ⟨_,_,rfl,qai ..,?_⟩
        have hr3:=s3 _ _ hr2
        have hc3:=s3 _ _ hc
        have hN3:=hN2.tp (tpS s3)
        have B3:=B2.same s3
        have k3:=k2.same s3
        generalize upd H2 w (.lst ys)=H3 at hr3 hc3 hN3 B3 k3 ⊢
        refine ⟨_,rfl,.inl ⟨rfl,_,SqL.of hr3⟩,_,rfl,_,rfl,_,_,_,_,rfl,rfl,hr3,h2,Nat.lt_of_lt_of_le (by omega:ws.length<1000000) (sz (Nat.le_refl _)),?_⟩
        have t4:Tp H3 (upd H3 r (.lst (ws.take ys.length++V.ref c::ws.drop ys.length))):=Tp.updL hr3
        refine ⟨_,_,_,rfl,fun b o nb hb=>?_,(B3.kp Kp.upd rp).mono (by omega),_,L.take ys.length++(ct,cd)::L.drop ys.length,qai ..,?_,?_,?_⟩
        · exact (qaC (qav hb hr)).trans (k3 b o nb hb)
        · have a1:=(hN3.tp t4).take ys.length
          have a2:=(hN3.tp t4).drop' ys.length
          exact a1.append (show Nums _ (V.ref c::ws.drop ys.length) ((ct,cd)::L.drop ys.length) from ⟨⟨c,rfl,t4 _ _ hc3⟩,a2⟩)
        · intro q hq
          rcases List.mem_append.mp hq with h | h
          · exact bL q (List.mem_of_mem_take h)
          · rcases List.mem_cons.mp h with rfl | h
            · exact ⟨bct,bcd⟩
            · exact bL q (List.mem_of_mem_drop h)
        · rw [List.length_append,List.length_cons,List.length_take,List.length_drop]
          omega
  · rintro σ H1 ⟨c3,c4,c5,rfl,k1,B1,ws,L,hr1,hN,bL,lL⟩
    exact ⟨_,rfl,k r ws L H1 hr hr1 hN bL (by omega) (B1.mono (by omega)) k1⟩
theorem qub (g:Nat→Rat):∀ k,cvL [(1:Rat)] g k=g k
  | 0=>by rw [qaB];grind
  | k+1=>by rw [qay,qaP];grind
theorem qsj (k:Nat):pwo [((1:Int),(1:Int))] k=qhi k:=by
  cases k with
  | zero=>unfold pwo qhi;simp [qaY,val];grind
  | succ n=>unfold pwo qhi;simp [qaY,val];grind
theorem qsk {b c:Nat} {B:List Nu} (h:Fq b c [] B):B=[(1,1)]:=by
  have m:=h.cop.mr (n:=pwo B) ⟨[],fun k=>by rw [qaP];simp [pwo,qaY,val];grind⟩ ⟨[1],fun k=>(qub _ k).symm⟩
  have m2:MR (pwo B) (pwo [((1:Int),(1:Int))]):=by
    obtain ⟨A,hA⟩:=m
    exact ⟨A,fun k=>by rw [qsj];exact hA k⟩
  have ln:=qtn h.gb.low (fun q hq=>by rw [List.mem_singleton.mp hq];exact qql) h.gb.nz (fun q hq=>by obtain rfl:(1,1)=q:=Option.some.inj hq;decide) h.ne (by simp) m2
  have one:=h.one
  match B,h.ne,ln,one with
  | [q],_,_,one=>exact congrArg (fun x=>[x]) one
  | _::_::_,_,ln,_=>simp at ln
theorem qsl {l:List Nu} (h0:l≠[]) (hz:Nz l):∃ D,DD l=(decide ((qaY l (l.length - 1)).1<0),tmT (l.length - 1) (ab (qaY l (l.length - 1)).1) (qaY l (l.length - 1)).2)::D∧(qaY l (l.length - 1)).1≠0:=by
  have lp:0<l.length:=List.length_pos_iff.mpr h0
  have a0:(qaY l (l.length - 1)).1≠0:=by
    have e:l.getLast?=some (l.getLast h0):=List.getLast?_eq_getLast h0
    have e2:qaY l (l.length - 1)=l.getLast h0:=by
      unfold qaY
      rw [List.getD_eq_getElem?_getD,← List.getLast?_eq_getElem?,e]
      rfl
    rw [e2]
    exact hz _ e
  have fe:fR l (l.length - 1)=some (decide ((qaY l (l.length - 1)).1<0),tmT (l.length - 1) (ab (qaY l (l.length - 1)).1) (qaY l (l.length - 1)).2):=by unfold fR;rw [if_neg a0]
  have e3:List.range l.length=List.range (l.length - 1)++[l.length - 1]:=by
    rw [← List.range_succ]
    congr 1
    omega
  refine ⟨((List.range (l.length - 1)).filterMap (fR l)).reverse,?_,a0⟩
  unfold DD
  rw [e3,List.filterMap_append]
  simp [fe]
theorem quc {a:Int} (h:a≠0):ab a≠0:=by unfold ab;split <;> omega
theorem qtu {n:Nat} {a b:Int} (h:a≠0):tmT n a b≠Str.ofString "0" := by
  intro e
  have el:=congrArg Str.length e
  rw [show (Str.ofString "0").length=1 from rfl] at el
  have q1:=qiC a
  have q2:=qiC b
  have q3:=qpm a b
  have q5:=qiC (n:Int)
  unfold tmT at e el
  split at e
  · rename_i n0
    rw [if_pos n0] at el
    unfold nT at e el
    split at e
    · exact h (sI_zero.mp e)
    · rename_i b1
      rw [if_neg b1,qaK,qaK,show (Str.ofString "/").length=1 from rfl] at el
      omega
  · rename_i n0
    rw [if_neg n0] at el
    split at e
    · rename_i c
      rw [if_pos c] at el
      unfold lett at e el
      split at e
      · exact absurd e (by decide)
      · rename_i n1
        rw [if_neg n1,qaK,show (Str.ofString "x^").length=2 from rfl] at el
        omega
    · rename_i c
      rw [if_neg c,qaK,qaK,show (Str.ofString "*").length=1 from rfl] at el
      unfold lett at el
      split at el
      · rw [show (Str.ofString "x").length=1 from rfl] at el;omega
      · rw [qaK] at el;omega
theorem qpt {T B:List Nu} (h:T=[]→B=[(1,1)]) (hz:Nz T):decide (fT T B=Str.ofString "0")=decide (T=[]):=by
  have e:(fT T B=Str.ofString "0")↔T=[]:=by
    constructor
    · intro e
      refine Decidable.byContradiction fun t0=>?_
      obtain ⟨D,hD,a0⟩:=qsl t0 hz
      have el:=congrArg Str.length e
      rw [show (Str.ofString "0").length=1 from rfl] at el
      unfold fT at e el
      split at e
      · rename_i b1
        rw [if_pos b1] at el
        unfold pT at e el
        rw [hD,if_neg (by simp)] at e el
        have e':ng (decide ((qaY T (T.length - 1)).1<0))++tmT (T.length - 1) (ab (qaY T (T.length - 1)).1) (qaY T (T.length - 1)).2++qle D=Str.ofString "0" := e
        have el':(ng (decide ((qaY T (T.length - 1)).1<0))++tmT (T.length - 1) (ab (qaY T (T.length - 1)).1) (qaY T (T.length - 1)).2++qle D).length=1:=el
        rw [qaK,qaK] at el'
        have tp:0<(tmT (T.length - 1) (ab (qaY T (T.length - 1)).1) (qaY T (T.length - 1)).2).length:=by
          have q3:=qpm (ab (qaY T (T.length - 1)).1) (qaY T (T.length - 1)).2
          unfold tmT lett
          split
          · exact q3
          · split
            · split
              · decide
              · rw [qaK,show (Str.ofString "x^").length=2 from rfl];omega
            · rw [qaK,qaK];omega
        have g1:=qq0 (x:=ng (decide ((qaY T (T.length - 1)).1<0))) (by omega)
        have g2:=qq0 (x:=qle D) (by omega)
        rw [g1,g2,qkl,qoO] at e'
        exact qtu (quc a0) e'
      · rename_i b1
        rw [if_neg b1,qaK,qaK,qaK,qaK,show (Str.ofString "(").length=1 from rfl,show (Str.ofString ")/(").length=3 from rfl] at el
        omega
    · intro t0
      rw [h t0,t0]
      rfl
  by_cases c:T=[]
  · rw [decide_eq_true c,decide_eq_true (e.mpr c)]
  · rw [decide_eq_false c,decide_eq_false (fun d=>c (e.mp d))]
noncomputable def SmP (l:List Nu):Prop:=qaI l∧l.length≤3∧∃ M,Ov l M∧Bd 2 M∧∀ z∈ovN l M,Bd 4 z
noncomputable def Vs (H:Hp) (ys:List V):Prop:=∀ v∈ys,∃ q l,v=.ref q∧Pl H q l∧SmP l
theorem Vs.tp {H H':Hp} {ys:List V} (h:Vs H ys) (t:Tp H H'):Vs H' ys:=fun v hv=>by
  obtain ⟨q,l,e,P,s⟩:=h v hv
  exact ⟨q,l,e,P.tp' t,s⟩
theorem Vs.snoc {H:Hp} {ys:List V} {q:Addr} {l:List Nu} (h:Vs H ys) (P:Pl H q l) (s:SmP l):Vs H (ys++[.ref q]):=fun v hv=>by
  rcases List.mem_append.mp hv with c | c
  · exact h v c
  · rw [List.mem_singleton.mp c];exact ⟨q,l,rfl,P,s⟩
theorem SmP.wr {l:List Nu} (h:SmP l):Wr l:=by
  obtain ⟨lo,l3,M,hO,bM,hz⟩:=h
  exact ⟨fun q hq=>⟨(qkt lo hO hz q hq).mono (by decide),(qb7 (Int.ne_of_gt hO.1) (hO.2 q hq) bM).mono (by decide)⟩,by omega⟩
theorem qsm:∀ i:Fin 9,(0:Int)<2 / ((Int.gcd (-(-4+((i:Nat):Int))) 2:Nat):Int)∧Int.gcd (-(-4+((i:Nat):Int)) / ((Int.gcd (-(-4+((i:Nat):Int))) 2:Nat):Int)) (2 / ((Int.gcd (-(-4+((i:Nat):Int))) 2:Nat):Int))=1∧(2 / ((Int.gcd (-(-4+((i:Nat):Int))) 2:Nat):Int))∣2∧((-(-4+((i:Nat):Int)) / ((Int.gcd (-(-4+((i:Nat):Int))) 2:Nat):Int))*(2 / (2 / ((Int.gcd (-(-4+((i:Nat):Int))) 2:Nat):Int)))).natAbs<16:=by decide
theorem qqw {i:Nat} (hi:i<9):SmP [(-(-4+(i:Int)) / ((Int.gcd (-(-4+(i:Int))) 2:Nat):Int),2 / ((Int.gcd (-(-4+(i:Int))) 2:Nat):Int)),(1,1)]:=by
  obtain ⟨h1,h2,h3,h4⟩:=qsm ⟨i,hi⟩
  refine ⟨fun q hq=>?_,(show 2≤3 by decide),2,⟨by decide,fun q hq=>?_⟩,bdc (by decide),fun z hz=>?_⟩
  · rcases List.mem_cons.mp hq with rfl | hq
    · exact ⟨h1,h2⟩
    · rw [List.mem_singleton.mp hq];exact qql
  · rcases List.mem_cons.mp hq with rfl | hq
    · exact h3
    · rw [List.mem_singleton.mp hq];exact Int.one_dvd 2
  · rcases List.mem_cons.mp hz with rfl | hz
    · exact bdc h4
    · rw [List.mem_singleton.mp hz];exact bdc (by decide)
theorem qtv {k:Int} (h:k=1∨k=2∨k=3):SmP [(k,1),(0,1),(1,1)]:=by
  refine ⟨fun q hq=>?_,(show 3≤3 by decide),1,⟨by decide,fun q hq=>?_⟩,bdc (by decide),fun z hz=>?_⟩
  · have:q.2=1:=by
      simp at hq
      rcases hq with rfl | rfl | rfl <;> rfl
    exact ⟨by rw [this];decide,by rw [this];exact Int.gcd_one_right _⟩
  · have:q.2=1:=by
      simp at hq
      rcases hq with rfl | rfl | rfl <;> rfl
    rw [this];exact Int.one_dvd 1
  · simp [ovN] at hz
    rcases hz with rfl | rfl | rfl
    · rcases h with rfl | rfl | rfl <;> exact bdc (by decide)
    · exact bdc (by decide)
    · exact bdc (by decide)
theorem qkI {l:List Nu} (hl:qaI l) (nl:Nz l) (bl:qh6 40 l) (l5:l.length≤5):Gq 241 201 l:=by
  obtain ⟨B0,_,bB⟩:=qjb hl bl
  exact ⟨hl,nl,qcE l,qbT hl,bB.mono (by omega),fun z hz=>(qrF hl bl z hz).mono (by omega)⟩
theorem qtw {l m:List Nu} {M1 M2:Int} (h1:Ov l M1) (h2:Ov m M2) (b1:Bd 2 M1) (b2:Bd 2 M2) (z1:∀ z∈ovN l M1,Bd 4 z) (z2:∀ z∈ovN m M2,Bd 4 z) (l3:l.length≤3) (m3:m.length≤3):Wr (trim (qtK l m M1 M2 (l.length+m.length))):=by
  refine ⟨fun q hq=>?_,?_⟩
  · obtain ⟨k,_,rfl⟩:=List.mem_map.mp (qcQ hq)
    have:=qoU (Int.mul_pos h1.1 h2.1) (qrG z1 z2 l.length k) (Bd.mul b1 b2)
    exact ⟨this.1.mono (by omega),this.2.mono (by omega)⟩
  · have:=qdO (qtK l m M1 M2 (l.length+m.length))
    unfold qtK at this ⊢
    rw [List.length_map,List.length_range] at this
    omega
theorem RwP.tp {H H':Hp} {vs:List V} {L:List (Int×Int×List Nu)} (h:RwP H vs L) (t:Tp H H'):RwP H' vs L:=⟨h.1,fun i r e=>by
  obtain ⟨p,c,d,h1,h2,h3,h4,h5⟩:=h.2 i r e
  exact ⟨p,c,d,h1,t _ _ h2,t _ _ h3,h4.tp' t,h5⟩⟩
theorem RwP.nil (H:Hp):RwP H [] []:=⟨rfl,fun i r e=>by simp at e⟩
theorem RwP.snoc {H:Hp} {vs:List V} {L:List (Int×Int×List Nu)} {p c d:Addr} {r:Int×Int×List Nu} (h:RwP H vs L) (hp:H p=some (.tup [.ref c,.ref d])) (hc:Nm H c r.1 r.2.1) (hd:Pl H d r.2.2) (b:Bd 1900 r.1∧Bd 1900 r.2.1∧Wr r.2.2):RwP H (vs++[.ref p]) (L++[r]):=by
  refine ⟨by rw [List.length_append,List.length_append,h.1];rfl,fun i x e=>?_⟩
  by_cases lt:i<L.length
  · rw [List.getElem?_append_left lt] at e
    obtain ⟨p',c',d',h1,h2⟩:=h.2 i x e
    exact ⟨p',c',d',by rw [List.getElem?_append_left (by rw [h.1];exact lt)];exact h1,h2⟩
  · rw [List.getElem?_append_right (by omega)] at e
    have z:i - L.length=0:=by
      cases hz:i - L.length with
      | zero=>rfl
      | succ n=>rw [hz] at e;simp at e
    rw [z] at e
    cases e
    exact ⟨p,c,d,by rw [List.getElem?_append_right (by rw [h.1];omega),h.1,z];rfl,hp,hc,hd,b⟩
structure Lp (H0 H:Hp) (p f lf lg:Addr) (n:Int) (T B:List Nu) (many i:Nat):Prop where
  k:Kp p H0 H
  x:Box H p n
  f:FF H f T B
  lf:∃ ls,H lf=some (.lst ls)∧Vs H ls∧many≤ls.length∧ls.length≤12
  lg:∃ gs L,H lg=some (.lst gs)∧RwP H gs L∧L.length=i
theorem qud {K:W.Frag} {H0 H:Hp} {Q:VK} {p b f lf lg:Addr} {c5 c6:Option V} {n:Int} {T B:List Nu} {many i:Nat} (h:Lp H0 H p f lf lg n T B many i)
    (k:∀ (t l:Addr) (ws:List V) (L:List (Int×Int×List Nu)) (H':Hp),H' t=some (.tup [.ref f,.ref l])→FF H' f T B→H' l=some (.tup ws)→RwP H' ws L→L.length=i→Kp p H0 H'→Q (.ref t) H'):qiF K { nx:=fun _ H'=>Q .non H',rt:=Q } [some (.ref p),some (.ref b),some (.ref f),some (.ref lf),some (.ref lg),c5,c6] H:=by
  obtain ⟨gs,L,hg,hR,hL⟩:=h.lg
  refine ⟨_,rfl,_,rfl,_,_,rfl,hg,fun w hw=>⟨qgR,fun t ht=>?_⟩⟩
  have s1:=qag hw (HO.tup gs)
  have s2:=qag ht (HO.tup [V.ref f,V.ref w])
  exact k t w gs L _ (qai ..) (h.f.same (s1.trans s2)) (s2 _ _ (qai ..)) (hR.tp (tpS (s1.trans s2))) hL (h.k.same (s1.trans s2))
theorem qsn {ta:TE} {σ:L2.St} {H:Hp} {Q:List V→Hp→Prop} (h:ta σ H fun x H1=>Q [x] H1):qab ta qao σ H Q:=h
theorem qrf {te:TE} {k:Nat} {D:Ends} {σ:L2.St} {H:Hp} (h:te σ H fun x H1=>D.nx (σ.set k (some x)) H1):qaR te (qaj k) D σ H:=h
theorem qur {K:W.Frag} {H0 H:Hp} {Q:VK} {p f lf lg:Addr} {n:Int} {T B:List Nu} {many i:Nat} {σ:L2.St} (h:Lp H0 H p f lf lg n T B many i) (m1:1≤many) (n9:n≤900000) (e0:σ[0]?=some (some (.ref p))) (e3:σ[3]?=some (some (.ref lf)))
    (np:lf≠p) (gl:lg≠lf) (gp:lg≠p) (l0:H0 lf=none)
    (k:∀ q l H',Pl H' q l→SmP l→Lp H0 H' p f lf lg (n+1) T B (many - 1) i→Tp H H'→(∀ a o,a≠p→a≠lf→H a=some o→H' a=some o)→Q (.ref q) H') :
    tBM K "list" qpZ (qaf 3) (qab (qar (qaO K) [] E0 (qab (qaf 0) (qab (tCB qb5 (qab (qaf 3) qao)) qao))) qao) σ H Q:=by
  obtain ⟨ls,hlf,hV,hm,h12⟩:=h.lf
  obtain ⟨gs,L,hg,hR,hL⟩:=h.lg
  obtain ⟨bx,hbx⟩:=h.x.at
  refine ⟨_,e3,.inl ⟨rfl,_,SqL.of hlf⟩,qsn (qf2 (qbD e0 (qq3 (qbD e3 (qth hlf ⟨_,_,_,rfl,h.x,by omega,by omega,by omega,fun d H1 d0 d1 B1 k1=>?_⟩)))))⟩
  have t1:=k1.tp hbx
  have hlf1:=k1 _ _ np hlf
  have dk:d.toNat<ls.length:=by omega
  obtain ⟨q,l,e,P,sm⟩:=hV ls[d.toNat] (List.getElem_mem dk)
  have t2:Tp H1 (upd H1 lf (.lst (ls.eraseIdx d.toNat))):=Tp.updL hlf1
  refine ⟨lf,ls,d.toNat,ls[d.toNat],rfl,by rw [Int.toNat_of_nonneg d0],hlf1,by omega,List.getElem?_eq_getElem dk,?_⟩
  rw [e]
  refine k q l _ ((P.tp' t1).tp' t2) sm ⟨fun a o na ha=>(qaC (qav ha l0)).trans ((h.k.trans k1) a o na ha),B1.kp Kp.upd (Ne.symm np),(h.f.tp' t1).tp' t2,⟨_,qai ..,fun v hv=>((hV.tp t1).tp t2) v (List.mem_of_mem_eraseIdx hv),?_,?_⟩,⟨gs,L,(qaC gl).trans (k1 _ _ gp hg),(hR.tp t1).tp t2,hL⟩⟩ (t1.trans t2) (fun a o na nl ha=>(qaC nl).trans (k1 a o na ha))
  · rw [List.length_eraseIdx_of_lt dk];omega
  · rw [List.length_eraseIdx_of_lt dk];omega
theorem qmH {K:W.Frag} {H0 H:Hp} {D:Ends} {p b f lf lg c v:Addr} {n:Int} {T B l:List Nu} {many i:Nat} {ct cd:Int} (h:Lp H0 H p f lf lg n T B many i) (hc:Nm H c ct cd) (bc:Bd 40 ct) (bd:Bd 40 cd) (P:Pl H v l) (wl:Wr l) (i9:i≤100)
    (gl:lg≠lf) (gp:lg≠p) (g0:H0 lg=none)
    (k:∀ H',Lp H0 H' p f lf lg n T B many (i+1)→(∀ a o,a≠lg→H a=some o→H' a=some o)→D.nx [some (.ref p),some (.ref b),some (.ref f),some (.ref lf),some (.ref lg),some (.ref c),some (.ref v)] H'):qfF K D [some (.ref p),some (.ref b),some (.ref f),some (.ref lf),some (.ref lg),some (.ref c),some (.ref v)] H:=by
  obtain ⟨ls,hlf,hV,hm,h12⟩:=h.lf
  obtain ⟨gs,L,hg,hR,hL⟩:=h.lg
  refine ⟨_,rfl,.inl ⟨rfl,_,SqL.of hg⟩,_,rfl,_,rfl,qgR,fun w hw=>?_⟩
  have s1:=qag hw (HO.tup [V.ref c,V.ref v])
  have hw1:(upd H w (HO.tup [V.ref c,V.ref v])) w=some (HO.tup [V.ref c,V.ref v]):=qai ..
  generalize upd H w (HO.tup [V.ref c,V.ref v])=H1 at s1 hw1 ⊢
  have hg1:=s1 _ _ hg
  have gl':=hR.1
  have t2:Tp H1 (upd H1 lg (.lst (gs++[.ref w]))):=Tp.updL hg1
  refine ⟨_,_,_,rfl,rfl,hg1,Nat.lt_of_lt_of_le (by omega:gs.length<1000000) (sz (Nat.le_refl _)),k _ ⟨fun a o na ha=>(qaC (qav ha g0)).trans (s1 _ _ (h.k a o na ha)),(h.x.same s1).kp Kp.upd (Ne.symm gp),(h.f.same s1).tp' t2,⟨ls,(qaC (Ne.symm gl)).trans (s1 _ _ hlf),(hV.tp (tpS s1)).tp t2,hm,h12⟩,⟨_,L++[(ct,cd,l)],qai ..,?_,by rw [List.length_append,hL];rfl⟩⟩ fun a o na ha=>(qaC na).trans (s1 _ _ ha)⟩
  exact ((hR.tp (tpS s1)).snoc (r:=(ct,cd,l)) hw1 (s1 _ _ hc) (P.same s1) ⟨bc.mono (by decide),bd.mono (by decide),wl⟩).tp t2
theorem qpu {K:W.Frag} {H0 H:Hp} {D:Ends} {p b f lf lg c:Addr} {c6:Option V} {n:Int} {T B:List Nu} {many i:Nat} {ct cd:Int} (h:Lp H0 H p f lf lg n T B many i) (m2:2≤many) (n9:n≤800000) (hc:Nm H c ct cd) (bc:Bd 40 ct) (bd:Bd 40 cd) (i9:i≤100)
    (np:lf≠p) (gl:lg≠lf) (gp:lg≠p) (l0:H0 lf=none) (g0:H0 lg=none)
    (k:∀ H' c6',Lp H0 H' p f lf lg (n+3) T B (many - 2) (i+1)→(∀ a o,a≠p→a≠lf→a≠lg→H a=some o→H' a=some o)→D.nx [some (.ref p),some (.ref b),some (.ref f),some (.ref lf),some (.ref lg),some (.ref c),c6'] H'):qfG K D [some (.ref p),some (.ref b),some (.ref f),some (.ref lf),some (.ref lg),some (.ref c),c6] H:=by
  refine qm5 (qur h (by omega) (by omega) rfl rfl np gl gp l0 fun q l H1 P sm h1 t1 k1=>?_)
  obtain ⟨bx,hbx⟩:=h1.x.at
  refine qt0 (qmn (qeE (qf2 (qbD rfl (r_c ⟨_,_,_,rfl,h1.x,by omega,by decide,by decide,fun d H2 d0 d1 B2 k2=>r_c ⟨rfl,_,rfl,qbU (fun c1=>?_) (fun c1=>?_)⟩⟩)))))
  · have t2:=k2.tp hbx
    obtain ⟨ls,hlf,hV,hm,h12⟩:=h1.lf
    obtain ⟨gs,L,hg,hR,hL⟩:=h1.lg
    have h2:Lp H0 H2 p f lf lg (n+1+1) T B (many - 1) i:=⟨h1.k.trans k2,B2,h1.f.tp' t2,⟨ls,k2 _ _ np hlf,hV.tp t2,hm,h12⟩,⟨gs,L,k2 _ _ gp hg,hR.tp t2,hL⟩⟩
    refine qrf (qf2 (qbD rfl (qur h2 (by omega) (by omega) rfl rfl np gl gp l0 fun q2 m H3 P2 sm2 h3 t3 k3=>?_)))
    obtain ⟨lo1,l31,M1,O1,bM1,z1⟩:=sm
    obtain ⟨lo2,l32,M2,O2,bM2,z2⟩:=sm2
    obtain ⟨xs,hx,hN⟩:=(P.tp' t2).tp' t3
    obtain ⟨ys,hy,hM⟩:=P2
    refine ⟨_,_,xs,ys,l,m,M1,M2,4,4,rfl,hx,hy,hN,hM,lo1,lo2,O1,O2,(Bd.mul bM1 bM2).mono (by decide),z1,z2,by decide,by omega,by omega,fun r zs H4 s4 hr hz=>?_⟩
    have h4:Lp H0 H4 p f lf lg (n+1+1+1) T B (many - 1 - 1) i:=by
      obtain ⟨ls,hlf,hV,hm,h12⟩:=h3.lf
      obtain ⟨gs,L,hg,hR,hL⟩:=h3.lg
      exact ⟨h3.k.same s4,h3.x.same s4,h3.f.same s4,⟨ls,s4 _ _ hlf,hV.tp (tpS s4),hm,h12⟩,⟨gs,L,s4 _ _ hg,hR.tp (tpS s4),hL⟩⟩
    have hc4:Nm H4 c ct cd:=s4 _ _ (t3 _ _ (t2 _ _ (t1 _ _ hc)))
    refine qmH h4 hc4 bc bd ⟨zs,hr,hz⟩ (qtw O1 O2 bM1 bM2 z1 z2 l31 l32) i9 gl gp g0 fun H5 h5 k5=>k H5 _ ?_ ?_
    · obtain ⟨ls,hlf,hV,hm,h12⟩:=h5.lf
      exact ⟨h5.k,h5.x.mono (by omega),h5.f,⟨ls,hlf,hV,by omega,h12⟩,h5.lg⟩
    · exact fun a o na nl ng ha=>k5 a o ng (s4 _ _ (k3 a o na nl (k2 a o na (k1 a o na nl ha))))
  · have t2:=k2.tp hbx
    obtain ⟨ls,hlf,hV,hm,h12⟩:=h1.lf
    obtain ⟨gs,L,hg,hR,hL⟩:=h1.lg
    have h2:Lp H0 H2 p f lf lg (n+1+1) T B (many - 1) i:=⟨h1.k.trans k2,B2,h1.f.tp' t2,⟨ls,k2 _ _ np hlf,hV.tp t2,hm,h12⟩,⟨gs,L,k2 _ _ gp hg,hR.tp t2,hL⟩⟩
    refine qmH h2 (t2 _ _ (t1 _ _ hc)) bc bd (P.tp' t2) sm.wr i9 gl gp g0 fun H5 h5 k5=>k H5 _ ?_ ?_
    · obtain ⟨ls,hlf,hV,hm,h12⟩:=h5.lf
      exact ⟨h5.k,h5.x.mono (by omega),h5.f,⟨ls,hlf,hV,by omega,h12⟩,h5.lg⟩
    · exact fun a o na nl ng ha=>k5 a o ng (k2 a o na (k1 a o na nl ha))
theorem qtx {K:W.Frag} {tl:TE} {g:TG} {tb rest:TS} {D:Ends} {σ:L2.St} {H:Hp} (h:tl σ H fun x H1=>∃ a,x=.ref a∧(∃ xs,SqL K H1 a xs)∧ForL K a g tb { D with nx:=rest D } σ H1):qaH (qfQ (qdB K tl) g tb) rest D σ H:=h
theorem qso {ta:TA} {capt:List (Option Nat)} {g:TG} {te:TE} {σ:L2.St} {H:Hp} {Q:VK} (h:ta σ H (fun vs H1=>∃ i j:Int,vs=[.int i,.int j]∧(-(2 ^ 62)≤i∧i<2 ^ 62∧-(2 ^ 62)≤j∧j<2 ^ 62)∧CompJ (Itr i (j - i).toNat) capt g te σ Q H1)):qco (qnE ta) capt g te σ H Q:=h
theorem qus {i:Nat} {v:V} {σ:L2.St} {H:Hp} {Q:L2.St→Hp→Prop} (h:Q (σ.set i (some v)) H):qaj i v σ H Q:=h
theorem que {K:W.Frag} {H0 H:Hp} {Q:VK} {p b f lf lg:Addr} {c5 c6:Option V} {n:Int} {T B:List Nu} (h:Lp H0 H p f lf lg n T B 12 0) (n9:n≤20000) (np:lf≠p) (gl:lg≠lf) (gp:lg≠p) (l0:H0 lf=none) (g0:H0 lg=none)
    (k:∀ (t l:Addr) (ws:List V) (L:List (Int×Int×List Nu)) (H':Hp),H' t=some (.tup [.ref f,.ref l])→FF H' f T B→H' l=some (.tup ws)→RwP H' ws L→L.length≤5→Kp p H0 H'→Q (.ref t) H'):qiG K { nx:=fun _ H'=>Q .non H',rt:=Q } [some (.ref p),some (.ref b),some (.ref f),some (.ref lf),some (.ref lg),c5,c6] H:=by
  obtain ⟨bx,hbx⟩:=h.x.at
  refine qtx (qf2 (qbD rfl (qf2 (qbD rfl (r_c ⟨_,_,_,rfl,h.x,by omega,by decide,by decide,fun d H1 d0 d1 B1 k1=>?_⟩)))))
  refine ⟨_,_,_,rfl,B1,by omega,d0,by omega,fun rr rws RL H2 r0 hrr hN bRL lRL B2 k2=>⟨_,rfl,⟨_,SqL.of hrr⟩,?_⟩⟩
  obtain ⟨bx1,hbx1⟩:=B1.at
  have t1:=k1.tp hbx
  have t2:=k2.tp hbx1
  have rl:=hN.length
  have rp:rr≠p:=Ne.symm (B1.ne_none r0)
  have h2:Lp H0 H2 p f lf lg (n+1+20) T B 12 0:=by
    obtain ⟨ls,hlf,hV,hm,h12⟩:=h.lf
    obtain ⟨gs,L,hg,hR,hL⟩:=h.lg
    exact ⟨(h.k.trans k1).trans k2,B2,(h.f.tp' t1).tp' t2,⟨ls,k2 _ _ np (k1 _ _ np hlf),(hV.tp t1).tp t2,hm,h12⟩,⟨gs,L,k2 _ _ gp (k1 _ _ gp hg),(hR.tp t1).tp t2,hL⟩⟩
  have rf:rr≠lf:=by
    obtain ⟨ls,hlf,_⟩:=h.lf
    exact Ne.symm (qav (k1 _ _ np hlf) r0)
  have rg:rr≠lg:=by
    obtain ⟨gs,L,hg,_⟩:=h.lg
    exact Ne.symm (qav (k1 _ _ gp hg) r0)
  refine ForL.by (xs:=rws) (fun i σ H'=>i≤rws.length∧∃ c5 c6,σ=[some (.ref p),some (.ref b),some (.ref f),some (.ref lf),some (.ref lg),c5,c6]∧Lp H0 H' p f lf lg (n+21+3*i) T B (12 - 2*i) i∧H' rr=some (.lst rws)∧Nums H' rws RL) ⟨Nat.zero_le _,_,_,rfl,⟨h2.k,h2.x.mono (by omega),h2.f,h2.lf,h2.lg⟩,hrr,hN⟩ ?_ ?_ ?_
  · rintro i σ H' hi ⟨_,c5,c6,rfl,_,hr,_⟩
    exact SqL.of hr
  · rintro i x σ H3 hx ⟨_,c5,c6,rfl,h3,hr3,hN3⟩
    have hi:i<rws.length:=(List.getElem?_eq_some_iff.mp hx).1
    obtain ⟨q,hq,c,rfl,hc⟩:=hN3.get hx
    have bq:=bRL q (List.mem_of_getElem? hq)
    refine qpu (c6:=c6) h3 (by omega) (by omega) hc bq.1 bq.2 (by omega) np gl gp l0 g0 fun H4 c6' h4 k4=>⟨by omega,_,_,rfl,?_,k4 _ _ rp rf rg hr3,?_⟩
    · obtain ⟨ls,hlf,hV,hm,h12⟩:=h4.lf
      exact ⟨h4.k,h4.x.mono (by omega),h4.f,⟨ls,hlf,hV,by omega,h12⟩,h4.lg⟩
    · obtain ⟨bx3,hbx3⟩:=h3.x.at
      obtain ⟨ls,hlf,_⟩:=h3.lf
      obtain ⟨gs,L,hg,_⟩:=h3.lg
      exact hN3.tp fun a xs ha=>k4 a _ (qnv ha hbx3 (by intro z;cases z)) (qnv ha hlf (by intro z;cases z)) (qnv ha hg (by intro z;cases z)) ha
  · rintro σ H3 ⟨_,c5,c6,rfl,h3,hr3,hN3⟩
    exact qud (K:=K) h3 fun t l ws L H' h1 h2 h3 h4 h5 h6=>k t l ws L H' h1 h2 h3 h4 (by omega) h6
theorem quf {K:W.Frag} {H0 H:Hp} {Q:VK} {p b f:Addr} {c3 c4 c5 c6:Option V} {n:Int} {T B:List Nu} (k0:Kp p H0 H) (x:Box H p n) (F:FF H f T B) (n9:n≤20000) (s0:∀ a,H a=none→H0 a=none)
    (k:∀ (t l:Addr) (ws:List V) (L:List (Int×Int×List Nu)) (H':Hp),H' t=some (.tup [.ref f,.ref l])→FF H' f T B→H' l=some (.tup ws)→RwP H' ws L→L.length≤5→Kp p H0 H'→Q (.ref t) H'):qiH K { nx:=fun _ H'=>Q .non H',rt:=Q } [some (.ref p),some (.ref b),some (.ref f),c3,c4,c5,c6] H:=by
  refine qm5 (qeE (qso ?_))
  refine ⟨_,rfl,_,_,rfl,⟨by decide,by decide,by decide,by decide⟩,CompJ.range (fun i ys H'=>i≤9∧Same H H'∧Vs H' ys∧ys.length=i) ⟨Nat.zero_le _,Same.refl H,(fun _ h=>nomatch h),rfl⟩ ?_ ?_ ?_⟩
  · rintro i ys H1 ⟨hi,_,_,hl⟩
    exact ⟨hi,sz (by omega)⟩
  · rintro i ys H1 hi ⟨_,s1,hV,hl⟩
    have hi9:i<9:=hi
    refine qus (qd1 ?_)
    refine qf2 ?_
    refine ⟨_,rfl,_,rfl,_,_,rfl,by decide,fun q1 h1=>?_⟩
    refine qd1 (r_c (r_c ⟨qgR,fun q2 h2=>⟨qgR,fun q3 h3=>?_⟩⟩))
    have a1:=qag h1 (HO.tup [V.int (-(-4+(i:Int)) / ((Int.gcd (-(-4+(i:Int))) 2:Nat):Int)),V.int (2 / ((Int.gcd (-(-4+(i:Int))) 2:Nat):Int))])
    have a2:=qag h2 (HO.tup [V.int 1,V.int 1])
    have a3:=qag h3 (HO.tup [V.ref q1,V.ref q2])
    have b1:=a3 _ _ (a2 _ _ (show upd H1 q1 (HO.tup [V.int (-(-4+(i:Int)) / ((Int.gcd (-(-4+(i:Int))) 2:Nat):Int)),V.int (2 / ((Int.gcd (-(-4+(i:Int))) 2:Nat):Int))]) q1=some _ from qai ..))
    have b2:=a3 _ _ (show upd _ q2 (HO.tup [V.int 1,V.int 1]) q2=some _ from qai ..)
    have s2:=a1.trans (a2.trans a3)
    exact ⟨by omega,s1.trans s2,(hV.tp (tpS s2)).snoc (l:=[(-(-4+(i:Int)) / ((Int.gcd (-(-4+(i:Int))) 2:Nat):Int),2 / ((Int.gcd (-(-4+(i:Int))) 2:Nat):Int)),(1,1)]) ⟨_,qai ..,⟨⟨q1,rfl,b1⟩,⟨q2,rfl,b2⟩,trivial⟩⟩ (qqw hi9),by rw [List.length_append,hl];rfl⟩
  · rintro ys H1 ⟨_,s1,hV,hl⟩ w hw
    have s2:=qag hw (HO.lst ys)
    have hw2:(upd H1 w (HO.lst ys)) w=some (HO.lst ys):=qai ..
    have hV2:=hV.tp (tpS s2)
    have s02:=s1.trans s2
    generalize upd H1 w (HO.lst ys)=H2 at s2 hw2 hV2 s02 ⊢
    refine qlD (qq2 (r_c (r_c (r_c ⟨qt1,fun w3 hw3=>⟨_,rfl,⟨_,SqT.of (qai ..)⟩,?_⟩⟩))))
    have s3:=qag hw3 (HO.tup [V.int 1,V.int 2,V.int 3])
    have hw4:(upd H2 w3 (HO.tup [V.int 1,V.int 2,V.int 3])) w3=some (HO.tup [V.int 1,V.int 2,V.int 3]):=qai ..
    generalize upd H2 w3 (HO.tup [V.int 1,V.int 2,V.int 3])=H3 at s3 hw4 ⊢
    refine CompJ.tup (xs:=[V.int 1,V.int 2,V.int 3]) (fun i zs H'=>i≤3∧Same H3 H'∧Vs H' zs∧zs.length=i) ⟨Nat.zero_le _,Same.refl H3,(fun _ h=>nomatch h),rfl⟩ ?_ ?_ ?_
    · rintro i zs H4 ⟨hi,s4,_,hl4⟩
      exact ⟨hi,sz (by omega),s4 _ _ hw4⟩
    · rintro i v zs H4 hv ⟨hi,s4,hV4,hl4⟩
      have hi3:i<3:=(List.getElem?_eq_some_iff.mp hv).1
      have hk:∃ kk:Int,v=.int kk∧(kk=1∨kk=2∨kk=3):=by
        match i,hi3,hv with
        | 0,_,hv=>exact ⟨1,(Option.some.inj hv).symm,.inl rfl⟩
        | 1,_,hv=>exact ⟨2,(Option.some.inj hv).symm,.inr (.inl rfl)⟩
        | 2,_,hv=>exact ⟨3,(Option.some.inj hv).symm,.inr (.inr rfl)⟩
      obtain ⟨kk,rfl,hk⟩:=hk
      refine qus (qq2 ?_)
      refine qd1 ?_
      refine qbD rfl (r_c ⟨qgR,fun q1 h1=>?_⟩)
      refine qd1 (r_c (r_c ⟨qgR,fun q2 h2=>?_⟩))
      refine qd1 (r_c (r_c ⟨qgR,fun q3 h3=>⟨qt1,fun q4 h4=>?_⟩⟩))
      have a1:=qag h1 (HO.tup [V.int kk,V.int 1])
      have a2:=qag h2 (HO.tup [V.int 0,V.int 1])
      have a3:=qag h3 (HO.tup [V.int 1,V.int 1])
      have a4:=qag h4 (HO.tup [V.ref q1,V.ref q2,V.ref q3])
      have b1:=a4 _ _ (a3 _ _ (a2 _ _ (show upd H4 q1 (HO.tup [V.int kk,V.int 1]) q1=some _ from qai ..)))
      have b2:=a4 _ _ (a3 _ _ (show upd _ q2 (HO.tup [V.int 0,V.int 1]) q2=some _ from qai ..))
      have b3:=a4 _ _ (show upd _ q3 (HO.tup [V.int 1,V.int 1]) q3=some _ from qai ..)
      have s5:=a1.trans (a2.trans (a3.trans a4))
      exact ⟨by omega,s4.trans s5,(hV4.tp (tpS s5)).snoc (l:=[(kk,1),(0,1),(1,1)]) ⟨_,qai ..,⟨⟨q1,rfl,b1⟩,⟨q2,rfl,b2⟩,⟨q3,rfl,b3⟩,trivial⟩⟩ (qtv hk),by rw [List.length_append,hl4];rfl⟩
    · rintro zs H4 ⟨_,s4,hV4,hl4⟩ w5 hw5
      have s5:=qag hw5 (HO.lst zs)
      have s25:=s3.trans (s4.trans s5)
      have hl9:ys.length=9:=hl
      have hl3:zs.length=3:=hl4
      refine ⟨_,_,_,_,rfl,rfl,s25 _ _ hw2,qai ..,sz (by omega),fun lf hlf=>?_⟩
      have s6:=qag hlf (HO.lst (ys++zs))
      have hlf6:(upd (upd H4 w5 (HO.lst zs)) lf (HO.lst (ys++zs))) lf=some (HO.lst (ys++zs)):=qai ..
      have s26:=s25.trans s6
      have hV6:Vs (upd (upd H4 w5 (HO.lst zs)) lf (HO.lst (ys++zs))) (ys++zs):=fun v hv=>by
        rcases List.mem_append.mp hv with c | c
        · exact (hV2.tp (tpS s26)) v c
        · exact (hV4.tp (tpS (s5.trans s6))) v c
      have fl:H0 lf=none:=s0 lf (s02.free (s25.free hlf))
      have plf:lf≠p:=Ne.symm ((x.same (s02.trans s25)).ne_none hlf)
      have s06:=s02.trans s26
      generalize upd (upd H4 w5 (HO.lst zs)) lf (HO.lst (ys++zs))=H6 at hlf6 hV6 s06 ⊢
      refine ⟨sz (by decide),fun lg hlg=>?_⟩
      have s7:=qag hlg (HO.lst [])
      have x7:=(x.same s06).same s7
      refine que ⟨(k0.same s06).same s7,x7,(F.same s06).same s7,⟨_,s7 _ _ hlf6,hV6.tp (tpS s7),by rw [List.length_append];omega,by rw [List.length_append];omega⟩,⟨[],[],qai ..,RwP.nil _,rfl⟩⟩ n9 plf (Ne.symm (qav hlf6 hlg)) (Ne.symm ((x.same s06).ne_none hlg)) fl (s0 lg (s06.free hlg)) k
theorem qty {te:TE} {g:TG} {D:Ends} {rest:TS} {σ:L2.St} {H:Hp} (h:te σ H fun x H1=>g x σ H1 fun σ' H'=>rest D σ' H'):qaH (qaR te g) rest D σ H:=h
theorem qsp {p:Addr} {H0 H:Hp} {n:Int} (k:Kp p H0 H) (x:Box H p n) (a:Addr) (ha:H a=none):H0 a=none:=by
  cases h:H0 a with
  | none=>rfl
  | some o=>
    have np:a≠p:=Ne.symm (x.ne_none ha)
    rw [k a o np h] at ha
    cases ha
theorem quK:Nz [((1:Int),(1:Int))]:=by unfold Nz;simp
theorem qtz {K:W.Frag} {H0 H:Hp} {Q:VK} {p b:Addr} {c2 c3 c4 c5 c6:Option V} {n:Int} {m:List Nu} (k0:Kp p H0 H) (x:Box H p n) (n9:n≤15000) (P:Pl H b m) (lo:qaI m) (bm:qh6 40 m) (nm:Nz m) (m5:m.length≤5) (m0:m≠[])
    (k:∀ (t f l:Addr) (T B:List Nu) (ws:List V) (L:List (Int×Int×List Nu)) (H':Hp),H' t=some (.tup [.ref f,.ref l])→FF H' f T B→Wr T→Wr B→T.length≤6→B.length≤6→(T=[]→B=[(1,1)])→Nz T→H' l=some (.tup ws)→RwP H' ws L→L.length≤5→Kp p H0 H'→Q (.ref t) H'):qgb K { nx:=fun _ H'=>Q .non H',rt:=Q } [some (.ref p),some (.ref b),c2,c3,c4,c5,c6] H:=by
  obtain ⟨bx,hbx⟩:=x.at
  refine qoP (qf2 (qbD rfl (r_c ⟨_,_,_,rfl,x,by omega,by decide,by decide,fun r zs l H1 hr hN ll bl nl l5 B1 k1=>?_⟩)))
  refine qbD rfl ⟨_,_,l,m,241,201,5,3,rfl,⟨zs,hr,hN⟩,P.tp' (k1.tp hbx),qkI ll nl bl (by omega),qkI lo nm bm m5,m0,by omega,m5,⟨by decide,by decide,by decide,by decide,by decide,by decide,by decide⟩,fun t u v H2 T B s2 ht Pu Pv fr fq=>?_⟩
  have l1:=fr.st
  have l2:=fr.sb
  have k2:=(k0.trans k1).same s2
  have B2:=B1.same s2
  refine quf k2 B2 ⟨u,v,ht,Pu,Pv⟩ (by omega) (qsp k2 B2) fun t' l' ws L H' h1 h2 h3 h4 h5 h6=>k t' t l' T B ws L H' h1 h2 (qtr fq.gt (by decide) (by decide) (by omega)) (qtr fq.gb (by decide) (by decide) (by omega)) (by omega) (by omega) (fun z=>by subst z;exact qsk fq) fq.gt.nz h3 h4 h5 h6
theorem qpv (h:qem K vs H Q E):qmo K { nx:=fun _ H'=>Q .non H',rt:=Q } (L2.start ["_law_box_here", "_law_bottom", "_law_kr", "_law_left", "_law_logs", "_law_c", "_law_v"] vs) H:=by
  obtain ⟨p,n,rfl,x,n9,k⟩:=h
  refine qoP (qbD rfl (r_c ⟨_,_,_,rfl,x,by omega,by decide,by decide,fun r zs l H1 hr hN ll bl nl l5 B1 k1=>?_⟩))
  refine qt0 ?_
  refine ⟨_,rfl,sz (by decide),fun e he=>?_⟩
  have s1:=qag he (HO.tup [])
  have hr1:=s1 _ _ hr
  have hN1:=hN.tp (tpS s1)
  have B2:=B1.same s1
  have k2:=k1.same s1
  have he1:(upd H1 e (HO.tup [])) e=some (HO.tup []):=qai ..
  generalize upd H1 e (HO.tup [])=H2 at hr1 hN1 B2 k2 he1 ⊢
  have one:∀ H3 n3,Kp p H H3→Box H3 p n3→n3≤15000→∀ c2 c3 c4 c5 c6:Option V,qaR (qcW (qab (qcW (qab (tC (.int 1)) (qab (tC (.int 1)) qao))) qao)) (qaj 1) { nx:=qgb K { nx:=fun _ H'=>Q .non H',rt:=Q },rt:=Q } [some (.ref p),some (.ref r),c2,c3,c4,c5,c6] H3:=fun H3 n3 k3 B3 n15 c2 c3 c4 c5 c6=>by
    refine qrf (qq1 (qd1 (r_c (r_c ⟨qgR,fun w hw=>⟨qpI,fun v hv=>?_⟩⟩))))
    have s4:=(qag hw (HO.tup [V.int 1,V.int 1])).trans (qag hv (HO.tup [V.ref w]))
    exact qtz (m:=[(1,1)]) (k3.same s4) (B3.same s4) n15 ⟨_,qai ..,Nums.one (qsa (qag hv _ _ _ (qai ..)))⟩ (fun q hq=>by cases List.mem_singleton.mp hq;exact qql) (fun q hq=>by cases List.mem_singleton.mp hq;exact ⟨bdc (by decide +kernel),bdc (by decide +kernel)⟩) quK (by decide) (by decide) k
  refine eqP hr1 hN1 he1 (m:=[]) trivial (decide (l=[])) (by simp) ⟨_,rfl,qbU (fun c=>?_) (fun c=>?_)⟩
  · exact one _ _ k2 B2 (by omega) _ _ _ _ _
  · refine qmn (qeE (qf2 (qbD rfl (r_c ⟨_,_,_,rfl,B2,by omega,by decide,by decide,fun d H3 d0 d1 B3 k3=>r_c ⟨rfl,_,rfl,qbU (fun c1=>?_) (fun c1=>?_)⟩⟩))))
    · exact one _ _ (k2.trans k3) B3 (by omega) _ _ _ _ _
    · obtain ⟨bx,hbx⟩:=B2.at
      exact qtz (k2.trans k3) B3 (by omega) (Pl.tp' ⟨zs,hr1,hN1⟩ (k3.tp hbx)) ll bl nl (by omega) (by simpa using c) k
theorem qtA (h:qkm K vs H Q E):qrQ K { nx:=fun _ H'=>Q .non H',rt:=Q } (L2.start ["_law_script", "_law_k", "_law_kr", "_law_logs", "_law_due", "_law_found"] vs) H:=by
  obtain ⟨a,ns,rfl,hS,h63,k⟩:=h
  unfold qrQ
  rwa []
  refine ⟨_,hS,?_⟩
  rw [List.length_map]
  have hL:∀ L:Int,L=(if (if (20:Int)<(ns.length:Int) then (20:Int) else (ns.length:Int)) > 1 then (if (20:Int)<(ns.length:Int) then (20:Int) else (ns.length:Int)) else 1)→1≤L∧L≤20:=fun L e=>by
    rw [e];split <;> split <;> omega
  generalize hLe:(if (if (20:Int)<(ns.length:Int) then (20:Int) else (ns.length:Int)) > 1 then (if (20:Int)<(ns.length:Int) then (20:Int) else (ns.length:Int)) else 1)=L
  obtain ⟨hL1,hL2⟩:=hL L hLe.symm
  refine ⟨by omega,by omega,?_⟩
  refine ForR.by (fun i σ H'=>∃ x1 x2 x3 x4 x5:Option V,σ=[some (.ref a),x1,x2,x3,x4,x5]∧Same H H') ⟨none,none,none,none,none,rfl,Same.refl H⟩ ?_ ?_
  · rintro i σ H1 hi ⟨x1,x2,x3,x4,x5,rfl,s1⟩
    have ki:(0:Int)+(i:Int)≤62∧0≤(0:Int)+(i:Int):=by omega
    generalize (0:Int)+(i:Int)=kk at ki ⊢
    obtain ⟨k1,k0⟩:=ki
    refine qty (qe6 (qf2 (qbD rfl (qbD rfl ⟨_,ns,_,rfl,s1.seq hS,k0,by omega,fun p H2 p0 kp2 B2=>?_⟩))))
    refine ⟨_,_,rfl,B2,by decide,fun t f l T B ws L H3 ht F wT wB t6 b6 tn nz hl hR hL5 k3=>?_⟩
    have s3:Same H1 H3:=(kp2.trans k3).new p0
    refine ⟨_,_,rfl,ht,rfl,_,_,rfl,_,_,rfl,rfl,?_⟩
    refine qrO (qe6 (qbD rfl ⟨_,_,_,rfl,F,wT,wB,fun H4 s4=>?_⟩))
    obtain ⟨u,v,hf,⟨zs,hu,hT⟩,Pv⟩:=F.same s4
    refine qeE (qeE (qbD rfl (r_c (qp8 hf rfl ?_))))
    refine ⟨sz (by decide),fun e he=>?_⟩
    have s5:=qag he (HO.tup [])
    refine eqP (s5 _ _ hu) (hT.tp (tpS s5)) (qai ..) (m:=[]) trivial (decide (T=[])) (by simp) ?_
    have s35:=s4.trans s5
    generalize upd H4 e (HO.tup [])=H5 at s35 ⊢
    refine qlD (qbD rfl ⟨_,rfl,⟨_,SqT.of (s35 _ _ hl)⟩,qmG (fun p l H Q h1 h2 h3=>⟨p,l,rfl,h1,h2,h3⟩) (s35 _ _ hl) (hR.same s35) (by omega) fun ys H6 w s6 h6 hw=>?_⟩)
    refine ⟨_,_,_,_,_,rfl,qai ..,h6.same (qag hw _),qre wT wB t6 b6,by rw [List.length_map];omega,fun H7 s7=>?_⟩
    have s37:Same H3 H7:=s35.trans (s6.trans ((qag hw _).trans s7))
    rw [List.length_map]
    refine qjl (qd1 (qbD rfl (qbD rfl ⟨qgR,fun w1 hw1=>?_⟩)))
    have s8:=s37.trans (qag hw1 (HO.tup [V.ref f,V.ref l]))
    refine ⟨_,_,_,_,_,_,_,rfl,qai ..,F.same s8,wT,wB,t6,b6,s8 _ _ hl,hR.same s8,by omega,fun H9 s9=>?_⟩
    have s39:=s8.trans s9
    rw [qpt tn nz]
    refine ⟨_,rfl,_,rfl,_,rfl,?_⟩
    refine ⟨_,rfl,_,rfl,rfl,_,rfl,?_⟩
    rw [decide_eq_true rfl]
    refine qmn (qeE (qe6 (qd1 (qbD rfl (qbD rfl ⟨qgR,fun w2 hw2=>?_⟩)))))
    have s10:=s39.trans (qag hw2 (HO.tup [V.ref f,V.ref l]))
    refine ⟨_,_,_,_,_,_,_,rfl,qai ..,F.same s10,wT,wB,t6,b6,s10 _ _ hl,hR.same s10,by omega,fun H11 s11=>?_⟩
    rw [qpt tn nz]
    refine ⟨_,rfl,rfl,_,rfl,?_⟩
    rw [decide_eq_true rfl]
    exact ⟨_,_,_,_,_,rfl,s1.trans (s3.trans (s10.trans s11))⟩
  · rintro σ H1 ⟨x1,x2,x3,x4,x5,rfl,s1⟩
    exact k _
end Bs
namespace Bs
open PySem PySem.Spec PyProof.Rows L2
set_option maxHeartbeats 4000000
open Hd
structure Bl (K:W.Frag) (mg:Str→Option Value):Prop where
  abs:mg "abs" = none
  min:mg "min" = none
  len:mg "len" = none
  list:mg "list" = none
  max:mg "max" = none
  range:mg "range" = none
  any:mg "any" = none
  enumerate:mg "enumerate" = none
  zip:mg "zip" = none
  EXPONENTS:mg "EXPONENTS" = some (.ref (qci K))
  tuple:mg "tuple" = none
  FIGURES_AT_ONCE:mg "FIGURES_AT_ONCE" = some (.int 600 505)
  str:mg "str" = none
  reversed:mg "reversed" = none
  int:mg "int" = none
  isinstance:mg "isinstance" = none
  xEXPONENTS:∀ H:Hp,SqT K H (qci K) (exps.map fun e:Nat=>V.int (e:Int))
section
variable {P:Program} {w:World} {K:W.Frag} {mg:Str→Option Value} {base:Heap} {f:Addr} {fd:FuncData}
theorem sc_common_divisor:FnScope ["one", "other", "rest"] ["one", "other"] (qak qcC):=⟨rfl,rfl,rfl,by decide +kernel,rfl,by decide +kernel,by decide +kernel⟩
theorem qgi (F:Fun K "common_divisor" "common_divisor" qcC f fd) (B:Bl K mg)  : FnOk P w K mg base CX0 1 f fd ["one", "other"] (qas K):=by
  refine F.ok sc_common_divisor (fun vs H Q E h=>?_) (fun cdv A outer s H vs Q E hr h=>?_)
  · obtain ⟨_,_,rfl,_⟩:=h
    rfl
  have nd:=sc_common_divisor.nd
  have hu:=hr.units0
  have hu64:=hr.units
  exact ⟨qcH K,(qad (qbX PassesOwn.never (qau qgz (pv 1) qae (nomark _)) (qad (qal (i:=2) nd rfl (Or.inl rfl) (qam qrj (pv 0) (pv 1)))
    (qad (qal (i:=0) nd rfl (Or.inl rfl) (pv 1))
    (qah (qal (i:=1) nd rfl (Or.inl rfl) (pv 2))))))
    (qah (qax (qat qb6 rfl B.abs qfg (qaa (pv 0) qac))))),qgc h⟩
theorem sc_raised:FnScope ["whole", "n", "result", "square"] ["whole", "n"] (qak qiU):=⟨rfl,rfl,rfl,by decide +kernel,rfl,by decide +kernel,by decide +kernel⟩
theorem qpw (F:Fun K "raised" "raised" qiU f fd) (B:Bl K mg)  : FnOk P w K mg base CX0 1 f fd ["whole", "n"] (qb8 K):=by
  refine F.ok sc_raised (fun vs H Q E h=>?_) (fun cdv A outer s H vs Q E hr h=>?_)
  · obtain ⟨_,_,_,rfl,_⟩:=h
    rfl
  have nd:=sc_raised.nd
  have hu:=hr.units0
  have hu64:=hr.units
  exact ⟨qjm K,(qad (qal (i:=2) nd rfl (Or.inl rfl) qae)
    (qad (qal (i:=3) nd rfl (Or.inl rfl) (pv 0))
    (qad (qbX PassesOwn.never (qau qgA (pv 1) qae (nomark _)) (qad (qbM (qau qcN (qam qcJ (pv 1) qae) qae (nomark _)) (qah (qeL (i:=2) nd rfl (Or.inl rfl) (pv 3) qgN)) qaV)
    (qad (qeL (i:=1) nd rfl (Or.inl rfl) qae qof)
    (qah (qbM (qau qgA (pv 1) qae (nomark _)) (qah (qeL (i:=3) nd rfl (Or.inl rfl) (pv 3) qgN)) qaV)))))
    (qah (qax (pv 2)))))),qoT h⟩
theorem sc_content:FnScope ["row", "start", "found", "whole"] ["row", "start"] (qak qg1):=⟨rfl,rfl,rfl,by decide +kernel,rfl,by decide +kernel,by decide +kernel⟩
theorem qnj (F:Fun K "content" "content" qg1 f fd) (B:Bl K mg) (c_common_divisor:Cal P w K mg base 1 "common_divisor" ["one", "other"] (qas K)):FnOk P w K mg base CX0 2 f fd ["row", "start"] (qbO K):=by
  refine F.ok sc_content (fun vs H Q E h=>?_) (fun cdv A outer s H vs Q E hr h=>?_)
  · obtain ⟨_,_,_,rfl,_⟩:=h
    rfl
  have nd:=sc_content.nd
  have hu:=hr.units0
  have hu64:=hr.units
  exact ⟨qho K,(qad (qal (i:=2) nd rfl (Or.inl rfl) (c_common_divisor.pe hr (by decide) rfl (qaa (qry rfl B.min qn5 (qmc (N:=["whole"]) (capt:=[none]) rfl (BlkOk.of rfl rfl rfl rfl (fun _ h=>nomatch h) rfl rfl rfl) (qb3 (pv 0)) (fun _ _ _ _=>(qaD (i:=0) (show (["whole"]:List PySem.Str).Nodup by decide +kernel) rfl (Or.inl rfl))) (fun _ _ _ _=>(qau qgz (pv 0) qae (nomark _))) (fun _ _ _ _=>(qat qb6 rfl B.abs qfg (qaa (pv 0) qac))))) (qaa (pv 1) qac))))
    (qad (qcb PassesOwn.never rfl (qb3 (pv 0)) (qaD (i:=3) nd rfl (Or.inl rfl)) (qad (qbM (qau qcN (pv 2) qae (nomark _)) (qah (qax qae)) qaV)
    (qah (qal (i:=2) nd rfl (Or.inl rfl) (c_common_divisor.pe hr (by decide) rfl (qaa (pv 3) (qaa (pv 2) qac)))))))
    (qah (qax (pv 2))))),qnd h⟩
theorem sc_row_trimmed:FnScope ["row", "many"] ["row"] (qak qdG):=⟨rfl,rfl,rfl,by decide +kernel,rfl,by decide +kernel,by decide +kernel⟩
theorem qif (F:Fun K "row_trimmed" "row_trimmed" qdG f fd) (B:Bl K mg)  : FnOk P w K mg base CX0 1 f fd ["row"] (qaU K):=by
  refine F.ok sc_row_trimmed (fun vs H Q E h=>?_) (fun cdv A outer s H vs Q E hr h=>?_)
  · obtain ⟨_,_,rfl,_⟩:=h
    rfl
  have nd:=sc_row_trimmed.nd
  have hu:=hr.units0
  have hu64:=hr.units
  exact ⟨qdT K,(qad (qal (i:=1) nd rfl (Or.inl rfl) (qat qaN rfl B.len qbc (qaa (pv 0) qac)))
    (qad (qbX PassesOwn.never (PW.pt (qgm (qau qgA (pv 1) qae (nomark _)) (qd8 (qau qcN (qaz qaG (pv 0) (qam qbx (pv 1) qae) (fun _ _=>rfl)) qae (nomark _))))) (qah (qeL (i:=1) nd rfl (Or.inl rfl) qae qgW)))
    (qah (qax (qff qhb (pv 0) qgX (qgY (pv 1))))))),qh9 h⟩
theorem sc_row_parted:FnScope ["row", "divisor"] ["row", "divisor"] (qak qed):=⟨rfl,rfl,rfl,by decide +kernel,rfl,by decide +kernel,by decide +kernel⟩
theorem qjG (F:Fun K "row_parted" "row_parted" qed f fd) (B:Bl K mg)  : FnOk P w K mg base CX0 1 f fd ["row", "divisor"] (qbe K):=by
  refine F.ok sc_row_parted (fun vs H Q E h=>?_) (fun cdv A outer s H vs Q E hr h=>?_)
  · obtain ⟨_,_,_,rfl,_⟩:=h
    rfl
  have nd:=sc_row_parted.nd
  have hu:=hr.units0
  have hu64:=hr.units
  exact ⟨qen K,(qah (qax (qcf (N:=["whole", "divisor"]) (capt:=[none,some 1]) rfl (BlkOk.of rfl rfl rfl rfl (List.forall_mem_singleton.mpr rfl) rfl rfl rfl) (qb3 (pv 0)) (fun _ _ _ _=>(qaD (i:=0) (show (["whole", "divisor"]:List PySem.Str).Nodup by decide +kernel) rfl (Or.inl rfl))) (fun _ _ _ _=>(qam qeB (pv 0) (pv 1)))))),qjx h⟩
theorem sc_row_over:FnScope ["row", "divisor", "rest", "last", "quotient", "shift", "weight", "place"] ["row", "divisor"] (qak qfS):=⟨rfl,rfl,rfl,by decide +kernel,rfl,by decide +kernel,by decide +kernel⟩
theorem qlG (F:Fun K "row_over" "row_over" qfS f fd) (B:Bl K mg)  : FnOk P w K mg base CX0 1 f fd ["row", "divisor"] (qbG K):=by
  refine F.ok sc_row_over (fun vs H Q E h=>?_) (fun cdv A outer s H vs Q E hr h=>?_)
  · obtain ⟨_,_,_,_,_,_,rfl,_⟩:=h
    rfl
  have nd:=sc_row_over.nd
  have hu:=hr.units0
  have hu64:=hr.units
  exact ⟨qf4 K,(qad (qal (i:=2) nd rfl (Or.inl rfl) (qbg qix rfl B.list qn6 (qaa (pv 0) qac)))
    (qad (qal (i:=3) nd rfl (Or.inl rfl) (qam qbx (qat qaN rfl B.len qbc (qaa (pv 1) qac)) qae))
    (qad (qal (i:=4) nd rfl (Or.inl rfl) (qam qj5 (qcK (qaa qae qac)) (qat (qfh rfl) rfl B.max ql2 (qaa (qam qbx (qat qaN rfl B.len qbc (qaa (pv 0) qac)) (pv 3)) (qaa qae qac)))))
    (qad (qcb PassesOwn.never rfl (qfk rfl B.range (qaa (qam qbx (qam qbx (qat qaN rfl B.len qbc (qaa (pv 0) qac)) (pv 3)) qae) (qaa (qcM qbE qae) (qaa (qcM qbE qae) qac)))) (qaD (i:=5) nd rfl (Or.inl rfl)) (qad (qal (i:=6) nd rfl (Or.inl rfl) (qam qcP (qaz qaG (pv 2) (qam qbV (pv 5) (pv 3)) (fun _ _=>rfl)) (qaz qaG (pv 1) (qcM qbE qae) (fun _ _=>rfl))))
    (qad (qbM (qau qgz (qam qaW (pv 6) (qaz qaG (pv 1) (qcM qbE qae) (fun _ _=>rfl))) (qaz qaG (pv 2) (qam qbV (pv 5) (pv 3)) (fun _ _=>rfl)) (nomark _)) (qah (qax qgU)) qaV)
    (qad (qgn (pv 6) (qip (pv 4) (pv 5) qcO))
    (qah (qbM (qau qgz (pv 6) qae (nomark _)) (qah (qcb PassesOwn.never rfl (qd9 rfl B.range (qaa (pv 3) qac)) (qaD (i:=7) nd rfl (Or.inl rfl)) (qah (qkX (pv 2) (qam qbV (pv 5) (pv 7)) qi8 (qam qaW (pv 6) (qaz qaG (pv 1) (pv 7) (fun _ _=>rfl))) qgW qcO)))) qaV))))))
    (qah (qax (qbW (qlT (qat (qol rfl) rfl B.any qs3 (qaa (qff qhb (pv 2) qgX (qgY (pv 3))) qac))) qgU (pv 4)))))))),qln h⟩
theorem sc_row_less:FnScope ["row", "factor", "other", "weight", "shift", "result", "place", "whole"] ["row", "factor", "other", "weight", "shift"] (qak qfT):=⟨rfl,rfl,rfl,by decide +kernel,rfl,by decide +kernel,by decide +kernel⟩
theorem qlH (F:Fun K "row_less" "row_less" qfT f fd) (B:Bl K mg) (c_row_trimmed:Cal P w K mg base 1 "row_trimmed" ["row"] (qaU K)):FnOk P w K mg base CX0 2 f fd ["row", "factor", "other", "weight", "shift"] (qbz K):=by
  refine F.ok sc_row_less (fun vs H Q E h=>?_) (fun cdv A outer s H vs Q E hr h=>?_)
  · obtain ⟨_,_,_,_,_,_,_,rfl,_⟩:=h
    rfl
  have nd:=sc_row_less.nd
  have hu:=hr.units0
  have hu64:=hr.units
  exact ⟨qf5 K,(qad (qoc (i:=5) (N:=["whole", "factor"]) (capt:=[none,some 1]) nd rfl (Or.inl rfl) rfl (BlkOk.of rfl rfl rfl rfl (List.forall_mem_singleton.mpr rfl) rfl rfl rfl) (qb3 (pv 0)) (fun _ _ _ _=>(qaD (i:=0) (show (["whole", "factor"]:List PySem.Str).Nodup by decide +kernel) rfl (Or.inl rfl))) (fun _ _ _ _=>(qam qaW (pv 1) (pv 0))))
    (qad (qiP (qmQ PySem.F.plainAttrs_list PySem.F.slot_list_extend PySem.F.type_list_extend qnT (pv 5) (qaa (qam qj5 (qcK (qaa qae qac)) (qam qbx (qam qbV (qat qaN rfl B.len qbc (qaa (pv 2) qac)) (pv 4)) (qat qaN rfl B.len qbc (qaa (pv 0) qac)))) qac)))
    (qad (qcb PassesOwn.never rfl (qpT rfl B.enumerate (qaa (pv 2) qac)) (qdw rfl (qa9 (qaD (i:=6) nd rfl (Or.inl rfl)) (qa9 (qaD (i:=7) nd rfl (Or.inl rfl)) qdq))) (qah (qkX (pv 5) (qam qbV (pv 6) (pv 4)) qi8 (qam qaW (pv 3) (pv 7)) qgW qcO)))
    (qah (qax (c_row_trimmed.pe hr (by decide) rfl (qaa (pv 5) qac))))))),qlm h⟩
theorem sc_strand_rest:FnScope ["strand", "other", "shift", "top", "lead", "shared", "factor", "weight"] ["strand", "other"] (qak qdH):=⟨rfl,rfl,rfl,by decide +kernel,rfl,by decide +kernel,by decide +kernel⟩
theorem qig (F:Fun K "strand_rest" "strand_rest" qdH f fd) (B:Bl K mg) (c_common_divisor:Cal P w K mg base 1 "common_divisor" ["one", "other"] (qas K)) (c_row_less:Cal P w K mg base 2 "row_less" ["row", "factor", "other", "weight", "shift"] (qbz K)) (c_strand_shortened:Cal P w K mg base 3 "strand_shortened" ["strand"] (qaJ K)):FnOk P w K mg base CX0 4 f fd ["strand", "other"] (qbq K):=by
  refine F.ok sc_strand_rest (fun vs H Q E h=>?_) (fun cdv A outer s H vs Q E hr h=>?_)
  · obtain ⟨_,_,_,rfl,_⟩:=h
    rfl
  have nd:=sc_strand_rest.nd
  have hu:=hr.units0
  have hu64:=hr.units
  exact ⟨qdU K,(qad (qbX PassesOwn.never (qau qrk (qat qaN rfl B.len qbc (qaa (qaz qaG (pv 0) qae (fun _ _=>rfl)) qac)) (qat qaN rfl B.len qbc (qaa (qaz qaG (pv 1) qae (fun _ _=>rfl)) qac)) (nomark _)) (qad (qal (i:=2) nd rfl (Or.inr rfl) (qam qbx (qat qaN rfl B.len qbc (qaa (qaz qaG (pv 0) qae (fun _ _=>rfl)) qac)) (qat qaN rfl B.len qbc (qaa (qaz qaG (pv 1) qae (fun _ _=>rfl)) qac))))
    (qad (qal (i:=3) nd rfl (Or.inl rfl) (qaz qaG (qaz qaG (pv 0) qae (fun _ _=>rfl)) (qcM qbE qae) (fun _ _=>rfl)))
    (qad (qal (i:=4) nd rfl (Or.inl rfl) (qaz qaG (qaz qaG (pv 1) qae (fun _ _=>rfl)) (qcM qbE qae) (fun _ _=>rfl)))
    (qad (qal (i:=5) nd rfl (Or.inl rfl) (c_common_divisor.pe hr (by decide) rfl (qaa (pv 3) (qaa (pv 4) qac))))
    (qad (qal (i:=6) nd rfl (Or.inr rfl) (qam qcP (pv 4) (pv 5)))
    (qad (qal (i:=7) nd rfl (Or.inr rfl) (qam qcP (pv 3) (pv 5)))
    (qah (qoc (i:=0) (N:=["row", "follower", "factor", "weight", "shift"]) (capt:=[none,none,some 6,some 7,some 2]) nd rfl (Or.inl rfl) rfl (BlkOk.of rfl rfl rfl rfl (List.forall_mem_cons.mpr ⟨rfl,(List.forall_mem_cons.mpr ⟨rfl,(List.forall_mem_singleton.mpr rfl)⟩)⟩) rfl rfl rfl) (qs1 rfl B.zip (qaa (pv 0) (qaa (pv 1) qac))) (fun _ _ _ _=>(qdw rfl (qa9 (qaD (i:=0) (show (["row", "follower", "factor", "weight", "shift"]:List PySem.Str).Nodup by decide +kernel) rfl (Or.inl rfl)) (qa9 (qaD (i:=1) (show (["row", "follower", "factor", "weight", "shift"]:List PySem.Str).Nodup by decide +kernel) rfl (Or.inl rfl)) qdq)))) (fun _ _ _ _=>(c_row_less.pe hr (by decide) rfl (qaa (pv 0) (qaa (pv 2) (qaa (pv 1) (qaa (pv 3) (qaa (pv 4) qac))))))))))))))))
    (qah (qax (c_strand_shortened.pe hr (by decide) rfl (qaa (pv 0) qac))))),qib h⟩
theorem sc_strand_shortened:FnScope ["strand", "shared", "row"] ["strand"] (qak qb4):=⟨rfl,rfl,rfl,by decide +kernel,rfl,by decide +kernel,by decide +kernel⟩
theorem qfd (F:Fun K "strand_shortened" "strand_shortened" qb4 f fd) (B:Bl K mg) (c_content:Cal P w K mg base 2 "content" ["row", "start"] (qbO K)) (c_row_parted:Cal P w K mg base 1 "row_parted" ["row", "divisor"] (qbe K)):FnOk P w K mg base CX0 3 f fd ["strand"] (qaJ K):=by
  refine F.ok sc_strand_shortened (fun vs H Q E h=>?_) (fun cdv A outer s H vs Q E hr h=>?_)
  · obtain ⟨_,_,rfl,_⟩:=h
    rfl
  have nd:=sc_strand_shortened.nd
  have hu:=hr.units0
  have hu64:=hr.units
  exact ⟨qb9 K,(qad (qal (i:=1) nd rfl (Or.inr rfl) qae)
    (qad (qcb PassesOwn.never rfl (qb3 (pv 0)) (qaD (i:=2) nd rfl (Or.inl rfl)) (qah (qal (i:=1) nd rfl (Or.inr rfl) (c_content.pe hr (by decide) rfl (qaa (pv 2) (qaa (pv 1) qac))))))
    (qah (qax (qcf (N:=["row", "shared"]) (capt:=[none,some 1]) rfl (BlkOk.of rfl rfl rfl rfl (List.forall_mem_singleton.mpr rfl) rfl rfl rfl) (qb3 (pv 0)) (fun _ _ _ _=>(qaD (i:=0) (show (["row", "shared"]:List PySem.Str).Nodup by decide +kernel) rfl (Or.inl rfl))) (fun _ _ _ _=>(c_row_parted.pe hr (by decide) rfl (qaa (pv 0) (qaa (pv 1) qac))))))))),qfc h⟩
theorem sc_row_shortened:FnScope ["row"] ["row"] (qak qcX):=⟨rfl,rfl,rfl,by decide +kernel,rfl,by decide +kernel,by decide +kernel⟩
theorem qgI (F:Fun K "row_shortened" "row_shortened" qcX f fd) (B:Bl K mg) (c_strand_shortened:Cal P w K mg base 3 "strand_shortened" ["strand"] (qaJ K)):FnOk P w K mg base CX0 4 f fd ["row"] (qaL K):=by
  refine F.ok sc_row_shortened (fun vs H Q E h=>?_) (fun cdv A outer s H vs Q E hr h=>?_)
  · obtain ⟨_,_,rfl,_⟩:=h
    rfl
  have nd:=sc_row_shortened.nd
  have hu:=hr.units0
  have hu64:=hr.units
  exact ⟨qc7 K,(qah (qax (qaz qaG (c_strand_shortened.pe hr (by decide) rfl (qaa (qcK (qaa (pv 0) qac)) qac)) qae (fun _ _=>rfl)))),qgF h⟩
theorem sc_strand_euclid:FnScope ["strand", "other", "rest"] ["strand", "other"] (qak qcY):=⟨rfl,rfl,rfl,by decide +kernel,rfl,by decide +kernel,by decide +kernel⟩
theorem qgJ (F:Fun K "strand_euclid" "strand_euclid" qcY f fd) (B:Bl K mg) (c_strand_rest:Cal P w K mg base 4 "strand_rest" ["strand", "other"] (qbq K)):FnOk P w K mg base CX0 5 f fd ["strand", "other"] (qa4 K):=by
  refine F.ok sc_strand_euclid (fun vs H Q E h=>?_) (fun cdv A outer s H vs Q E hr h=>?_)
  · obtain ⟨_,_,_,_,rfl,_⟩:=h
    rfl
  have nd:=sc_strand_euclid.nd
  have hu:=hr.units0
  have hu64:=hr.units
  exact ⟨qc8 K,(qad (qbX PassesOwn.never (qe3 (qaz qaG (pv 1) qae (fun _ _=>rfl)) (fun _=>rfl)) (qad (qbM (qau qcN (qat qaN rfl B.len qbc (qaa (qaz qaG (pv 1) qae (fun _ _=>rfl)) qac)) qae (nomark _)) (qah (qax (pv 1))) qaV)
    (qad (qal (i:=2) nd rfl (Or.inl rfl) (c_strand_rest.pe hr (by decide) rfl (qaa (pv 0) (qaa (pv 1) qac))))
    (qad (qal (i:=0) nd rfl (Or.inl rfl) (pv 1))
    (qah (qal (i:=1) nd rfl (Or.inl rfl) (pv 2)))))))
    (qah (qax (pv 0)))),qgG h⟩
theorem sc_inverse_modulo:FnScope ["whole", "prime", "one", "other", "one_weight", "other_weight", "quotient", "rest"] ["whole", "prime"] (qak qcD):=⟨rfl,rfl,rfl,by decide +kernel,rfl,by decide +kernel,by decide +kernel⟩
theorem qgj (F:Fun K "inverse_modulo" "inverse_modulo" qcD f fd) (B:Bl K mg)  : FnOk P w K mg base CX0 1 f fd ["whole", "prime"] (qa6 K):=by
  refine F.ok sc_inverse_modulo (fun vs H Q E h=>?_) (fun cdv A outer s H vs Q E hr h=>?_)
  · obtain ⟨_,_,rfl,_⟩:=h
    rfl
  have nd:=sc_inverse_modulo.nd
  have hu:=hr.units0
  have hu64:=hr.units
  exact ⟨qcI K,(qad (qal (i:=2) nd rfl (Or.inl rfl) (pv 1))
    (qad (qal (i:=3) nd rfl (Or.inl rfl) (qam qcJ (pv 0) (pv 1)))
    (qad (qal (i:=4) nd rfl (Or.inl rfl) qae)
    (qad (qal (i:=5) nd rfl (Or.inl rfl) qae)
    (qad (qbX PassesOwn.never (qau qgz (pv 3) qae (nomark _)) (qad (qal (i:=6) nd rfl (Or.inl rfl) (qam qeB (pv 2) (pv 3)))
    (qad (qal (i:=7) nd rfl (Or.inl rfl) (qam qbx (pv 2) (qam qaW (pv 6) (pv 3))))
    (qad (qal (i:=2) nd rfl (Or.inl rfl) (pv 3))
    (qad (qal (i:=3) nd rfl (Or.inl rfl) (pv 7))
    (qad (qal (i:=7) nd rfl (Or.inl rfl) (qam qbx (pv 4) (qam qaW (pv 6) (pv 5))))
    (qad (qal (i:=4) nd rfl (Or.inl rfl) (pv 5))
    (qah (qal (i:=5) nd rfl (Or.inl rfl) (pv 7))))))))))
    (qah (qax (qam qcJ (pv 4) (pv 1))))))))),qgf h⟩
theorem sc_rests_modulo:FnScope ["row", "prime"] ["row", "prime"] (qak qdr):=⟨rfl,rfl,rfl,by decide +kernel,rfl,by decide +kernel,by decide +kernel⟩
theorem qhV (F:Fun K "rests_modulo" "rests_modulo" qdr f fd) (B:Bl K mg)  : FnOk P w K mg base CX0 1 f fd ["row", "prime"] (qbh K):=by
  refine F.ok sc_rests_modulo (fun vs H Q E h=>?_) (fun cdv A outer s H vs Q E hr h=>?_)
  · obtain ⟨_,_,_,rfl,_⟩:=h
    rfl
  have nd:=sc_rests_modulo.nd
  have hu:=hr.units0
  have hu64:=hr.units
  exact ⟨qdx K,(qah (qax (qcf (N:=["whole", "prime"]) (capt:=[none,some 1]) rfl (BlkOk.of rfl rfl rfl rfl (List.forall_mem_singleton.mpr rfl) rfl rfl rfl) (qb3 (pv 0)) (fun _ _ _ _=>(qaD (i:=0) (show (["whole", "prime"]:List PySem.Str).Nodup by decide +kernel) rfl (Or.inl rfl))) (fun _ _ _ _=>(qam qcJ (pv 0) (pv 1)))))),qhO h⟩
theorem sc_row_modulo:FnScope ["row", "prime"] ["row", "prime"] (qak qee):=⟨rfl,rfl,rfl,by decide +kernel,rfl,by decide +kernel,by decide +kernel⟩
theorem qjH (F:Fun K "row_modulo" "row_modulo" qee f fd) (B:Bl K mg) (c_rests_modulo:Cal P w K mg base 1 "rests_modulo" ["row", "prime"] (qbh K)) (c_row_trimmed:Cal P w K mg base 1 "row_trimmed" ["row"] (qaU K)):FnOk P w K mg base CX0 2 f fd ["row", "prime"] (qa7 K):=by
  refine F.ok sc_row_modulo (fun vs H Q E h=>?_) (fun cdv A outer s H vs Q E hr h=>?_)
  · obtain ⟨_,_,_,rfl,_⟩:=h
    rfl
  have nd:=sc_row_modulo.nd
  have hu:=hr.units0
  have hu64:=hr.units
  exact ⟨qet K,(qah (qax (c_row_trimmed.pe hr (by decide) rfl (qaa (c_rests_modulo.pe hr (by decide) rfl (qaa (pv 0) (qaa (pv 1) qac))) qac)))),qjA h⟩
theorem sc_monic_modulo:FnScope ["row", "prime", "factor"] ["row", "prime"] (qak qds):=⟨rfl,rfl,rfl,by decide +kernel,rfl,by decide +kernel,by decide +kernel⟩
theorem qhW (F:Fun K "monic_modulo" "monic_modulo" qds f fd) (B:Bl K mg) (c_inverse_modulo:Cal P w K mg base 1 "inverse_modulo" ["whole", "prime"] (qa6 K)):FnOk P w K mg base CX0 2 f fd ["row", "prime"] (qaZ K):=by
  refine F.ok sc_monic_modulo (fun vs H Q E h=>?_) (fun cdv A outer s H vs Q E hr h=>?_)
  · obtain ⟨_,_,_,rfl,_⟩:=h
    rfl
  have nd:=sc_monic_modulo.nd
  have hu:=hr.units0
  have hu64:=hr.units
  exact ⟨qdy K,(qad (qbM (qqH (qe3 (pv 0) (fun _=>rfl))) (qah (qax (qcK qac))) qaV)
    (qad (qal (i:=2) nd rfl (Or.inr rfl) (c_inverse_modulo.pe hr (by decide) rfl (qaa (qaz qaG (pv 0) (qcM qbE qae) (fun _ _=>rfl)) (qaa (pv 1) qac))))
    (qah (qax (qcf (N:=["whole", "prime", "factor"]) (capt:=[none,some 1,some 2]) rfl (BlkOk.of rfl rfl rfl rfl (List.forall_mem_cons.mpr ⟨rfl,(List.forall_mem_singleton.mpr rfl)⟩) rfl rfl rfl) (qb3 (pv 0)) (fun _ _ _ _=>(qaD (i:=0) (show (["whole", "prime", "factor"]:List PySem.Str).Nodup by decide +kernel) rfl (Or.inl rfl))) (fun _ _ _ _=>(qam qcJ (qam qaW (pv 0) (pv 2)) (pv 1)))))))),qhP h⟩
theorem sc_split_modulo:FnScope ["row", "divisor", "modulus", "rest", "last", "quotient", "shift", "weight", "place"] ["row", "divisor", "modulus"] (qak qdt):=⟨rfl,rfl,rfl,by decide +kernel,rfl,by decide +kernel,by decide +kernel⟩
theorem qhX (F:Fun K "split_modulo" "split_modulo" qdt f fd) (B:Bl K mg) (c_row_trimmed:Cal P w K mg base 1 "row_trimmed" ["row"] (qaU K)) (c_row_modulo:Cal P w K mg base 2 "row_modulo" ["row", "prime"] (qa7 K)):FnOk P w K mg base CX0 3 f fd ["row", "divisor", "modulus"] (qbi K):=by
  refine F.ok sc_split_modulo (fun vs H Q E h=>?_) (fun cdv A outer s H vs Q E hr h=>?_)
  · obtain ⟨_,_,_,_,_,_,rfl,_⟩:=h
    rfl
  have nd:=sc_split_modulo.nd
  have hu:=hr.units0
  have hu64:=hr.units
  exact ⟨qdz K,(qad (qal (i:=3) nd rfl (Or.inl rfl) (qbg qix rfl B.list qn6 (qaa (pv 0) qac)))
    (qad (qal (i:=4) nd rfl (Or.inl rfl) (qam qbx (qat qaN rfl B.len qbc (qaa (pv 1) qac)) qae))
    (qad (qal (i:=5) nd rfl (Or.inl rfl) (qam qj5 (qcK (qaa qae qac)) (qat (qfh rfl) rfl B.max ql2 (qaa (qam qbx (qat qaN rfl B.len qbc (qaa (pv 0) qac)) (pv 4)) (qaa qae qac)))))
    (qad (qcb PassesOwn.never rfl (qfk rfl B.range (qaa (qam qbx (qam qbx (qat qaN rfl B.len qbc (qaa (pv 0) qac)) (pv 4)) qae) (qaa (qcM qbE qae) (qaa (qcM qbE qae) qac)))) (qaD (i:=6) nd rfl (Or.inl rfl)) (qad (qal (i:=7) nd rfl (Or.inl rfl) (qam qcJ (qaz qaG (pv 3) (qam qbV (pv 6) (pv 4)) (fun _ _=>rfl)) (pv 2)))
    (qad (qgn (pv 7) (qip (pv 5) (pv 6) qcO))
    (qah (qbM (qau qgz (pv 7) qae (nomark _)) (qah (qcb PassesOwn.never rfl (qd9 rfl B.range (qaa (pv 4) qac)) (qaD (i:=8) nd rfl (Or.inl rfl)) (qah (qkX (pv 3) (qam qbV (pv 6) (pv 8)) qi8 (qam qaW (pv 7) (qaz qaG (pv 1) (pv 8) (fun _ _=>rfl))) qgW qcO)))) qaV)))))
    (qah (qax (qa5 (qaa (c_row_trimmed.pe hr (by decide) rfl (qaa (pv 5) qac)) (qaa (c_row_modulo.pe hr (by decide) rfl (qaa (qff qhb (pv 3) qgX (qgY (pv 4))) (qaa (pv 2) qac))) qac))))))))),qhQ h⟩
theorem sc_rest_modulo:FnScope ["row", "divisor", "modulus"] ["row", "divisor", "modulus"] (qak qdI):=⟨rfl,rfl,rfl,by decide +kernel,rfl,by decide +kernel,by decide +kernel⟩
theorem qih (F:Fun K "rest_modulo" "rest_modulo" qdI f fd) (B:Bl K mg) (c_split_modulo:Cal P w K mg base 3 "split_modulo" ["row", "divisor", "modulus"] (qbi K)):FnOk P w K mg base CX0 4 f fd ["row", "divisor", "modulus"] (qbr K):=by
  refine F.ok sc_rest_modulo (fun vs H Q E h=>?_) (fun cdv A outer s H vs Q E hr h=>?_)
  · obtain ⟨_,_,_,_,_,_,rfl,_⟩:=h
    rfl
  have nd:=sc_rest_modulo.nd
  have hu:=hr.units0
  have hu64:=hr.units
  exact ⟨qdV K,(qah (qax (qaz qap (c_split_modulo.pe hr (by decide) rfl (qaa (pv 0) (qaa (pv 1) (qaa (pv 2) qac)))) qae (fun _ _=>rfl)))),qia h⟩
theorem sc_euclid_modulo:FnScope ["row", "other", "prime", "rest"] ["row", "other", "prime"] (qak qcZ):=⟨rfl,rfl,rfl,by decide +kernel,rfl,by decide +kernel,by decide +kernel⟩
theorem qgK (F:Fun K "euclid_modulo" "euclid_modulo" qcZ f fd) (B:Bl K mg) (c_row_modulo:Cal P w K mg base 2 "row_modulo" ["row", "prime"] (qa7 K)) (c_monic_modulo:Cal P w K mg base 2 "monic_modulo" ["row", "prime"] (qaZ K)) (c_rest_modulo:Cal P w K mg base 4 "rest_modulo" ["row", "divisor", "modulus"] (qbr K)):FnOk P w K mg base CX0 5 f fd ["row", "other", "prime"] (qba K):=by
  refine F.ok sc_euclid_modulo (fun vs H Q E h=>?_) (fun cdv A outer s H vs Q E hr h=>?_)
  · obtain ⟨_,_,_,_,_,rfl,_⟩:=h
    rfl
  have nd:=sc_euclid_modulo.nd
  have hu:=hr.units0
  have hu64:=hr.units
  exact ⟨qdc K,(qad (qal (i:=0) nd rfl (Or.inl rfl) (c_monic_modulo.pe hr (by decide) rfl (qaa (c_row_modulo.pe hr (by decide) rfl (qaa (pv 0) (qaa (pv 2) qac))) (qaa (pv 2) qac))))
    (qad (qal (i:=1) nd rfl (Or.inl rfl) (c_monic_modulo.pe hr (by decide) rfl (qaa (c_row_modulo.pe hr (by decide) rfl (qaa (pv 1) (qaa (pv 2) qac))) (qaa (pv 2) qac))))
    (qad (qbX PassesOwn.never (qe3 (pv 1) (fun _=>rfl)) (qad (qal (i:=3) nd rfl (Or.inl rfl) (c_rest_modulo.pe hr (by decide) rfl (qaa (pv 0) (qaa (pv 1) (qaa (pv 2) qac)))))
    (qad (qal (i:=0) nd rfl (Or.inl rfl) (pv 1))
    (qah (qal (i:=1) nd rfl (Or.inl rfl) (c_monic_modulo.pe hr (by decide) rfl (qaa (pv 3) (qaa (pv 2) qac))))))))
    (qah (qax (pv 0)))))),qgE h⟩
theorem sc_nearest:FnScope ["whole", "prime", "rest"] ["whole", "prime"] (qak qg2):=⟨rfl,rfl,rfl,by decide +kernel,rfl,by decide +kernel,by decide +kernel⟩
theorem qnk (F:Fun K "nearest" "nearest" qg2 f fd) (B:Bl K mg)  : FnOk P w K mg base CX0 1 f fd ["whole", "prime"] (qcj K):=by
  refine F.ok sc_nearest (fun vs H Q E h=>?_) (fun cdv A outer s H vs Q E hr h=>?_)
  · obtain ⟨_,_,rfl,_⟩:=h
    rfl
  have nd:=sc_nearest.nd
  have hu:=hr.units0
  have hu64:=hr.units
  exact ⟨qhp K,(qad (qal (i:=2) nd rfl (Or.inl rfl) (qam qcJ (pv 0) (pv 1)))
    (qah (qax (qbW (qau qgA (qam qaW qae (pv 2)) (pv 1) (nomark _)) (qam qbx (pv 2) (pv 1)) (pv 2))))),qnf h⟩
theorem sc_common_by_prime:FnScope ["row", "other", "prime", "lead", "found", "guess"] ["row", "other", "prime"] (qak qcd):=⟨rfl,rfl,rfl,by decide +kernel,rfl,by decide +kernel,by decide +kernel⟩
theorem qfM (F:Fun K "common_by_prime" "common_by_prime" qcd f fd) (B:Bl K mg) (c_common_divisor:Cal P w K mg base 1 "common_divisor" ["one", "other"] (qas K)) (c_euclid_modulo:Cal P w K mg base 5 "euclid_modulo" ["row", "other", "prime"] (qba K)) (c_nearest:Cal P w K mg base 1 "nearest" ["whole", "prime"] (qcj K)) (c_row_shortened:Cal P w K mg base 4 "row_shortened" ["row"] (qaL K)) (c_row_over:Cal P w K mg base 1 "row_over" ["row", "divisor"] (qbG K)):FnOk P w K mg base CX0 6 f fd ["row", "other", "prime"] (qa0 K):=by
  refine F.ok sc_common_by_prime (fun vs H Q E h=>?_) (fun cdv A outer s H vs Q E hr h=>?_)
  · obtain ⟨_,_,_,_,_,_,_,_,rfl,_⟩:=h
    rfl
  have nd:=sc_common_by_prime.nd
  have hu:=hr.units0
  have hu64:=hr.units
  exact ⟨qcl K,(qad (qal (i:=3) nd rfl (Or.inr rfl) (c_common_divisor.pe hr (by decide) rfl (qaa (qaz qaG (pv 0) (qcM qbE qae) (fun _ _=>rfl)) (qaa (qaz qaG (pv 1) (qcM qbE qae) (fun _ _=>rfl)) qac))))
    (qad (qbM (qau qcN (qam qcJ (pv 3) (pv 2)) qae (nomark _)) (qah (qax qgU)) qaV)
    (qad (qal (i:=4) nd rfl (Or.inl rfl) (c_euclid_modulo.pe hr (by decide) rfl (qaa (pv 0) (qaa (pv 1) (qaa (pv 2) qac)))))
    (qad (qal (i:=5) nd rfl (Or.inl rfl) (c_row_shortened.pe hr (by decide) rfl (qaa (qcf (N:=["whole", "prime", "lead"]) (capt:=[none,some 2,some 3]) rfl (BlkOk.of rfl rfl rfl rfl (List.forall_mem_cons.mpr ⟨rfl,(List.forall_mem_singleton.mpr rfl)⟩) rfl rfl rfl) (qb3 (pv 4)) (fun _ _ _ _=>(qaD (i:=0) (show (["whole", "prime", "lead"]:List PySem.Str).Nodup by decide +kernel) rfl (Or.inl rfl))) (fun _ _ _ _=>(c_nearest.pe hr (by decide) rfl (qaa (qam qaW (pv 2) (pv 0)) (qaa (pv 1) qac))))) qac)))
    (qad (qbM (PW.pt (qpK (qau qqL (c_row_over.pe hr (by decide) rfl (qaa (pv 0) (qaa (pv 5) qac))) qgU (nomark _)) (qnA (qau qqL (c_row_over.pe hr (by decide) rfl (qaa (pv 1) (qaa (pv 5) qac))) qgU (nomark _))))) (qah (qax qgU)) qaV)
    (qah (qax (pv 5)))))))),qfK h⟩
theorem sc_row_common:FnScope ["row", "other", "one", "two", "exponent", "found"] ["row", "other"] (qak qef):=⟨rfl,rfl,rfl,by decide +kernel,rfl,by decide +kernel,by decide +kernel⟩
theorem qjI (F:Fun K "row_common" "row_common" qef f fd) (B:Bl K mg) (c_row_shortened:Cal P w K mg base 4 "row_shortened" ["row"] (qaL K)) (c_raised:Cal P w K mg base 1 "raised" ["whole", "n"] (qb8 K)) (c_common_by_prime:Cal P w K mg base 6 "common_by_prime" ["row", "other", "prime"] (qa0 K)) (c_strand_euclid:Cal P w K mg base 5 "strand_euclid" ["strand", "other"] (qa4 K)):FnOk P w K mg base CX0 7 f fd ["row", "other"] (qbA K):=by
  refine F.ok sc_row_common (fun vs H Q E h=>?_) (fun cdv A outer s H vs Q E hr h=>?_)
  · obtain ⟨_,_,_,_,_,_,_,rfl,_⟩:=h
    rfl
  have nd:=sc_row_common.nd
  have hu:=hr.units0
  have hu64:=hr.units
  exact ⟨qeu K,(qad (qal (i:=2) nd rfl (Or.inl rfl) (c_row_shortened.pe hr (by decide) rfl (qaa (pv 0) qac)))
    (qad (qal (i:=3) nd rfl (Or.inl rfl) (c_row_shortened.pe hr (by decide) rfl (qaa (pv 1) qac)))
    (qad (qbM (PW.pt (qgm (qe3 (pv 0) (fun _=>rfl)) (qd8 (qe3 (pv 1) (fun _=>rfl))))) (qah (qcb PassesOwn.never rfl (qgV (qny rfl B.EXPONENTS rfl)) (qaD (i:=4) nd rfl (Or.inl rfl)) (qad (qal (i:=5) nd rfl (Or.inl rfl) (c_common_by_prime.pe hr (by decide) rfl (qaa (pv 2) (qaa (pv 3) (qaa (qam qbx (c_raised.pe hr (by decide) rfl (qaa qae (qaa (pv 4) qac))) qae) qac)))))
    (qah (qbM (qau qrl (pv 5) qgU (nomark _)) (qah (qax (pv 5))) qaV))))) qaV)
    (qah (qax (qaz qaG (c_strand_euclid.pe hr (by decide) rfl (qaa (qcK (qaa (pv 2) qac)) (qaa (qcK (qaa (pv 3) qac)) qac))) qae (fun _ _=>rfl))))))),qjC B.xEXPONENTS h⟩
theorem sc_ratio:FnScope ["top", "bottom", "shared"] ["top", "bottom"] (qak qk2):=⟨rfl,rfl,rfl,by decide +kernel,rfl,by decide +kernel,by decide +kernel⟩
theorem qqx (F:Fun K "ratio" "ratio" qk2 f fd) (B:Bl K mg) (c_common_divisor:Cal P w K mg base 1 "common_divisor" ["one", "other"] (qas K)):FnOk P w K mg base CX0 2 f fd ["top", "bottom"] (qbP K):=by
  refine F.ok sc_ratio (fun vs H Q E h=>?_) (fun cdv A outer s H vs Q E hr h=>?_)
  · obtain ⟨_,_,rfl,_⟩:=h
    rfl
  have nd:=sc_ratio.nd
  have hu:=hr.units0
  have hu64:=hr.units
  exact ⟨qlf K,(qad (qal (i:=2) nd rfl (Or.inl rfl) (c_common_divisor.pe hr (by decide) rfl (qaa (pv 0) (qaa (pv 1) qac))))
    (qad (qbM (qau qh4 (pv 1) qae (nomark _)) (qah (qal (i:=2) nd rfl (Or.inl rfl) (qcM qbE (pv 2)))) qaV)
    (qah (qax (qa5 (qaa (qam qcP (pv 0) (pv 2)) (qaa (qam qcP (pv 1) (pv 2)) qac))))))),qqb h⟩
theorem sc_times:FnScope ["one", "other"] ["one", "other"] (qak qk3):=⟨rfl,rfl,rfl,by decide +kernel,rfl,by decide +kernel,by decide +kernel⟩
theorem qqy (F:Fun K "times" "times" qk3 f fd) (B:Bl K mg) (c_ratio:Cal P w K mg base 2 "ratio" ["top", "bottom"] (qbP K)):FnOk P w K mg base CX0 3 f fd ["one", "other"] (qfn K):=by
  refine F.ok sc_times (fun vs H Q E h=>?_) (fun cdv A outer s H vs Q E hr h=>?_)
  · obtain ⟨_,_,_,_,_,_,rfl,_⟩:=h
    rfl
  have nd:=sc_times.nd
  have hu:=hr.units0
  have hu64:=hr.units
  exact ⟨qlg K,(qah (qax (c_ratio.pe hr (by decide) rfl (qaa (qam qaW (qaz qap (pv 0) qae (fun _ _=>rfl)) (qaz qap (pv 1) qae (fun _ _=>rfl))) (qaa (qam qaW (qaz qap (pv 0) qae (fun _ _=>rfl)) (qaz qap (pv 1) qae (fun _ _=>rfl))) qac))))),qqk h⟩
theorem sc_over:FnScope ["one", "other"] ["one", "other"] (qak qnW):=⟨rfl,rfl,rfl,by decide +kernel,rfl,by decide +kernel,by decide +kernel⟩
theorem qsq (F:Fun K "over" "over" qnW f fd) (B:Bl K mg) (c_ratio:Cal P w K mg base 2 "ratio" ["top", "bottom"] (qbP K)):FnOk P w K mg base CX0 3 f fd ["one", "other"] (qe7 K):=by
  refine F.ok sc_over (fun vs H Q E h=>?_) (fun cdv A outer s H vs Q E hr h=>?_)
  · obtain ⟨_,_,_,_,_,_,rfl,_⟩:=h
    rfl
  have nd:=sc_over.nd
  have hu:=hr.units0
  have hu64:=hr.units
  exact ⟨qoR K,(qah (qax (c_ratio.pe hr (by decide) rfl (qaa (qam qaW (qaz qap (pv 0) qae (fun _ _=>rfl)) (qaz qap (pv 1) qae (fun _ _=>rfl))) (qaa (qam qaW (qaz qap (pv 0) qae (fun _ _=>rfl)) (qaz qap (pv 1) qae (fun _ _=>rfl))) qac))))),qr9 h⟩
theorem sc_size_of:FnScope ["one"] ["one"] (qak qg3):=⟨rfl,rfl,rfl,by decide +kernel,rfl,by decide +kernel,by decide +kernel⟩
theorem qnl (F:Fun K "size_of" "size_of" qg3 f fd) (B:Bl K mg)  : FnOk P w K mg base CX0 1 f fd ["one"] (qbQ K):=by
  refine F.ok sc_size_of (fun vs H Q E h=>?_) (fun cdv A outer s H vs Q E hr h=>?_)
  · obtain ⟨_,_,_,rfl,_⟩:=h
    rfl
  have nd:=sc_size_of.nd
  have hu:=hr.units0
  have hu64:=hr.units
  exact ⟨qko K,(qah (qax (qa5 (qaa (qat qb6 rfl B.abs qfg (qaa (qaz qap (pv 0) qae (fun _ _=>rfl)) qac)) (qaa (qaz qap (pv 0) qae (fun _ _=>rfl)) qac))))),qni h⟩
theorem sc_poly:FnScope ["row", "many"] ["row"] (qak qnX):=⟨rfl,rfl,rfl,by decide +kernel,rfl,by decide +kernel,by decide +kernel⟩
theorem qsr (F:Fun K "poly" "poly" qnX f fd) (B:Bl K mg)  : FnOk P w K mg base CX0 1 f fd ["row"] (qcG K):=by
  refine F.ok sc_poly (fun vs H Q E h=>?_) (fun cdv A outer s H vs Q E hr h=>?_)
  · obtain ⟨_,_,_,rfl,_⟩:=h
    rfl
  have nd:=sc_poly.nd
  have hu:=hr.units0
  have hu64:=hr.units
  exact ⟨qoS K,(qad (qal (i:=1) nd rfl (Or.inl rfl) (qat qaN rfl B.len qbc (qaa (pv 0) qac)))
    (qad (qbX PassesOwn.never (PW.pt (qgm (qau qgA (pv 1) qae (nomark _)) (qd8 (qau qcN (qaz qap (qaz qaG (pv 0) (qam qbx (pv 1) qae) (fun _ _=>rfl)) qae (fun _ _=>rfl)) qae (nomark _))))) (qah (qeL (i:=1) nd rfl (Or.inl rfl) qae qgW)))
    (qah (qax (qbg qhc rfl B.tuple qi3 (qaa (qff qhb (pv 0) qgX (qgY (pv 1))) qac)))))),qrS h⟩
theorem sc_degree:FnScope ["P"] ["P"] (qak qiV):=⟨rfl,rfl,rfl,by decide +kernel,rfl,by decide +kernel,by decide +kernel⟩
theorem qpx (F:Fun K "degree" "degree" qiV f fd) (B:Bl K mg)  : FnOk P w K mg base CX0 1 f fd ["P"] (qc5 K):=by
  refine F.ok sc_degree (fun vs H Q E h=>?_) (fun cdv A outer s H vs Q E hr h=>?_)
  · obtain ⟨_,_,rfl,_⟩:=h
    rfl
  have nd:=sc_degree.nd
  have hu:=hr.units0
  have hu64:=hr.units
  exact ⟨qjn K,(qah (qax (qam qbx (qat qcn rfl B.len qbc (qaa (pv 0) qac)) qae))),qpl h⟩
theorem sc_cleared:FnScope ["P", "bottom", "number"] ["P"] (qak qg4):=⟨rfl,rfl,rfl,by decide +kernel,rfl,by decide +kernel,by decide +kernel⟩
theorem qnm (F:Fun K "cleared" "cleared" qg4 f fd) (B:Bl K mg) (c_common_divisor:Cal P w K mg base 1 "common_divisor" ["one", "other"] (qas K)):FnOk P w K mg base CX0 2 f fd ["P"] (qbv K):=by
  refine F.ok sc_cleared (fun vs H Q E h=>?_) (fun cdv A outer s H vs Q E hr h=>?_)
  · obtain ⟨_,_,_,_,rfl,_⟩:=h
    rfl
  have nd:=sc_cleared.nd
  have hu:=hr.units0
  have hu64:=hr.units
  exact ⟨qhq K,(qad (qal (i:=1) nd rfl (Or.inr rfl) qae)
    (qad (qcb PassesOwn.never rfl (qgV (pv 0)) (qaD (i:=2) nd rfl (Or.inl rfl)) (qah (qeL (i:=1) nd rfl (Or.inr rfl) (qam qeB (qaz qap (pv 2) qae (fun _ _=>rfl)) (c_common_divisor.pe hr (by decide) rfl (qaa (pv 1) (qaa (qaz qap (pv 2) qae (fun _ _=>rfl)) qac)))) qgN)))
    (qah (qax (qa5 (qaa (qcf (N:=["number", "bottom"]) (capt:=[none,some 1]) rfl (BlkOk.of rfl rfl rfl rfl (List.forall_mem_singleton.mpr rfl) rfl rfl rfl) (qgV (pv 0)) (fun _ _ _ _=>(qaD (i:=0) (show (["number", "bottom"]:List PySem.Str).Nodup by decide +kernel) rfl (Or.inl rfl))) (fun _ _ _ _=>(qam qaW (qaz qap (pv 0) qae (fun _ _=>rfl)) (qam qeB (pv 1) (qaz qap (pv 0) qae (fun _ _=>rfl)))))) (qaa (pv 1) qac))))))),qnc h⟩
theorem sc_uncleared:FnScope ["row", "bottom"] ["row", "bottom"] (qak qeW):=⟨rfl,rfl,rfl,by decide +kernel,rfl,by decide +kernel,by decide +kernel⟩
theorem qkJ (F:Fun K "uncleared" "uncleared" qeW f fd) (B:Bl K mg) (c_ratio:Cal P w K mg base 2 "ratio" ["top", "bottom"] (qbP K)) (c_poly:Cal P w K mg base 1 "poly" ["row"] (qcG K)):FnOk P w K mg base CX0 3 f fd ["row", "bottom"] (qbm K):=by
  refine F.ok sc_uncleared (fun vs H Q E h=>?_) (fun cdv A outer s H vs Q E hr h=>?_)
  · obtain ⟨_,_,_,rfl,_⟩:=h
    rfl
  have nd:=sc_uncleared.nd
  have hu:=hr.units0
  have hu64:=hr.units
  exact ⟨qe8 K,(qah (qax (c_poly.pe hr (by decide) rfl (qaa (qcf (N:=["whole", "bottom"]) (capt:=[none,some 1]) rfl (BlkOk.of rfl rfl rfl rfl (List.forall_mem_singleton.mpr rfl) rfl rfl rfl) (qb3 (pv 0)) (fun _ _ _ _=>(qaD (i:=0) (show (["whole", "bottom"]:List PySem.Str).Nodup by decide +kernel) rfl (Or.inl rfl))) (fun _ _ _ _=>(c_ratio.pe hr (by decide) rfl (qaa (pv 0) (qaa (pv 1) qac))))) qac)))),qks h⟩
theorem sc_p_scaled:FnScope ["P", "c"] ["P", "c"] (qak qfU):=⟨rfl,rfl,rfl,by decide +kernel,rfl,by decide +kernel,by decide +kernel⟩
theorem qlI (F:Fun K "p_scaled" "p_scaled" qfU f fd) (B:Bl K mg) (c_times:Cal P w K mg base 3 "times" ["one", "other"] (qfn K)) (c_poly:Cal P w K mg base 1 "poly" ["row"] (qcG K)):FnOk P w K mg base CX0 4 f fd ["P", "c"] (qbH K):=by
  refine F.ok sc_p_scaled (fun vs H Q E h=>?_) (fun cdv A outer s H vs Q E hr h=>?_)
  · obtain ⟨_,_,_,_,_,_,rfl,_⟩:=h
    rfl
  have nd:=sc_p_scaled.nd
  have hu:=hr.units0
  have hu64:=hr.units
  exact ⟨qf6 K,(qah (qax (c_poly.pe hr (by decide) rfl (qaa (qcf (N:=["number", "c"]) (capt:=[none,some 1]) rfl (BlkOk.of rfl rfl rfl rfl (List.forall_mem_singleton.mpr rfl) rfl rfl rfl) (qgV (pv 0)) (fun _ _ _ _=>(qaD (i:=0) (show (["number", "c"]:List PySem.Str).Nodup by decide +kernel) rfl (Or.inl rfl))) (fun _ _ _ _=>(c_times.pe hr (by decide) rfl (qaa (pv 0) (qaa (pv 1) qac))))) qac)))),qlw h⟩
theorem sc_p_split:FnScope ["P", "Q", "row", "divisor", "rest", "bottom", "lead", "quotient", "shift", "shared", "spare"] ["P", "Q"] (qak qg5):=⟨rfl,rfl,rfl,by decide +kernel,rfl,by decide +kernel,by decide +kernel⟩
theorem qnn (F:Fun K "p_split" "p_split" qg5 f fd) (B:Bl K mg) (c_cleared:Cal P w K mg base 2 "cleared" ["P"] (qbv K)) (c_ratio:Cal P w K mg base 2 "ratio" ["top", "bottom"] (qbP K)) (c_common_divisor:Cal P w K mg base 1 "common_divisor" ["one", "other"] (qas K)) (c_row_less:Cal P w K mg base 2 "row_less" ["row", "factor", "other", "weight", "shift"] (qbz K)) (c_content:Cal P w K mg base 2 "content" ["row", "start"] (qbO K)) (c_row_parted:Cal P w K mg base 1 "row_parted" ["row", "divisor"] (qbe K)) (c_poly:Cal P w K mg base 1 "poly" ["row"] (qcG K)) (c_uncleared:Cal P w K mg base 3 "uncleared" ["row", "bottom"] (qbm K)):FnOk P w K mg base CX0 4 f fd ["P", "Q"] (qck K):=by
  refine F.ok sc_p_split (fun vs H Q E h=>?_) (fun cdv A outer s H vs Q E hr h=>?_)
  · obtain ⟨_,_,_,_,_,_,_,_,_,_,rfl,_⟩:=h
    rfl
  have nd:=sc_p_split.nd
  have hu:=hr.units0
  have hu64:=hr.units
  exact ⟨qhy K,(qad (qal (i:=2) nd rfl (Or.inl rfl) (c_cleared.pe hr (by decide) rfl (qaa (pv 0) qac)))
    (qad (qal (i:=3) nd rfl (Or.inl rfl) (c_cleared.pe hr (by decide) rfl (qaa (pv 1) qac)))
    (qad (qal (i:=4) nd rfl (Or.inl rfl) (qaz qap (pv 2) qae (fun _ _=>rfl)))
    (qad (qal (i:=5) nd rfl (Or.inl rfl) (qaz qap (pv 2) qae (fun _ _=>rfl)))
    (qad (qal (i:=6) nd rfl (Or.inl rfl) (qaz qaG (qaz qap (pv 3) qae (fun _ _=>rfl)) (qcM qbE qae) (fun _ _=>rfl)))
    (qad (qal (i:=7) nd rfl (Or.inl rfl) (qam qj5 (qcK (qaa (qa5 (qaa qae (qaa qae qac))) qac)) (qat (qfh rfl) rfl B.max ql2 (qaa (qam qbV (qam qbx (qat qcn rfl B.len qbc (qaa (pv 0) qac)) (qat qcn rfl B.len qbc (qaa (pv 1) qac))) qae) (qaa qae qac)))))
    (qad (qbX PassesOwn.never (qau qrk (qat qaN rfl B.len qbc (qaa (pv 4) qac)) (qat qcn rfl B.len qbc (qaa (pv 1) qac)) (nomark _)) (qad (qal (i:=8) nd rfl (Or.inl rfl) (qam qbx (qat qaN rfl B.len qbc (qaa (pv 4) qac)) (qat qcn rfl B.len qbc (qaa (pv 1) qac))))
    (qad (qgn (c_ratio.pe hr (by decide) rfl (qaa (qam qaW (qaz qaG (pv 4) (qcM qbE qae) (fun _ _=>rfl)) (qaz qap (pv 3) qae (fun _ _=>rfl))) (qaa (qam qaW (pv 5) (pv 6)) qac))) (qip (pv 7) (pv 8) qcO))
    (qad (qal (i:=9) nd rfl (Or.inl rfl) (c_common_divisor.pe hr (by decide) rfl (qaa (qaz qaG (pv 4) (qcM qbE qae) (fun _ _=>rfl)) (qaa (pv 6) qac))))
    (qad (qal (i:=4) nd rfl (Or.inl rfl) (c_row_less.pe hr (by decide) rfl (qaa (pv 4) (qaa (qam qcP (pv 6) (pv 9)) (qaa (qaz qap (pv 3) qae (fun _ _=>rfl)) (qaa (qam qcP (qaz qaG (pv 4) (qcM qbE qae) (fun _ _=>rfl)) (pv 9)) (qaa (pv 8) qac)))))))
    (qad (qeL (i:=5) nd rfl (Or.inl rfl) (qam qcP (pv 6) (pv 9)) qgN)
    (qad (qal (i:=10) nd rfl (Or.inl rfl) (c_content.pe hr (by decide) rfl (qaa (pv 4) (qaa (pv 5) qac))))
    (qad (qal (i:=4) nd rfl (Or.inl rfl) (c_row_parted.pe hr (by decide) rfl (qaa (pv 4) (qaa (pv 10) qac))))
    (qah (qeL (i:=5) nd rfl (Or.inl rfl) (pv 10) qoo))))))))))
    (qah (qax (qa5 (qaa (c_poly.pe hr (by decide) rfl (qaa (pv 7) qac)) (qaa (c_uncleared.pe hr (by decide) rfl (qaa (pv 4) (qaa (pv 5) qac))) qac)))))))))))),qng h⟩
theorem sc_common:FnScope ["P", "Q", "row"] ["P", "Q"] (qak qiW):=⟨rfl,rfl,rfl,by decide +kernel,rfl,by decide +kernel,by decide +kernel⟩
theorem qpy (F:Fun K "common" "common" qiW f fd) (B:Bl K mg) (c_cleared:Cal P w K mg base 2 "cleared" ["P"] (qbv K)) (c_row_common:Cal P w K mg base 7 "row_common" ["row", "other"] (qbA K)) (c_uncleared:Cal P w K mg base 3 "uncleared" ["row", "bottom"] (qbm K)):FnOk P w K mg base CX0 8 f fd ["P", "Q"] (qc3 K):=by
  refine F.ok sc_common (fun vs H Q E h=>?_) (fun cdv A outer s H vs Q E hr h=>?_)
  · obtain ⟨_,_,_,_,_,_,_,_,_,_,rfl,_⟩:=h
    rfl
  have nd:=sc_common.nd
  have hu:=hr.units0
  have hu64:=hr.units
  exact ⟨qjo K,(qad (qal (i:=2) nd rfl (Or.inl rfl) (c_row_common.pe hr (by decide) rfl (qaa (qaz qap (c_cleared.pe hr (by decide) rfl (qaa (pv 0) qac)) qae (fun _ _=>rfl)) (qaa (qaz qap (c_cleared.pe hr (by decide) rfl (qaa (pv 1) qac)) qae (fun _ _=>rfl)) qac))))
    (qah (qax (qbW (qe3 (pv 2) (fun _=>rfl)) (c_uncleared.pe hr (by decide) rfl (qaa (pv 2) (qaa (qaz qaG (pv 2) (qcM qbE qae) (fun _ _=>rfl)) qac))) (qa5 qac))))),qo5 h⟩
theorem sc_fraction:FnScope ["P", "Q", "shared"] ["P", "Q"] (qak qfV):=⟨rfl,rfl,rfl,by decide +kernel,rfl,by decide +kernel,by decide +kernel⟩
theorem qlJ (F:Fun K "fraction" "fraction" qfV f fd) (B:Bl K mg) (c_common:Cal P w K mg base 8 "common" ["P", "Q"] (qc3 K)) (c_quotient:Cal P w K mg base 5 "quotient" ["P", "Q"] (qbI K)) (c_evened:Cal P w K mg base 5 "evened" ["P", "Q"] (qc4 K)):FnOk P w K mg base CX0 9 f fd ["P", "Q"] (qbZ K):=by
  refine F.ok sc_fraction (fun vs H Q E h=>?_) (fun cdv A outer s H vs Q E hr h=>?_)
  · obtain ⟨_,_,_,_,_,_,_,_,rfl,_⟩:=h
    rfl
  have nd:=sc_fraction.nd
  have hu:=hr.units0
  have hu64:=hr.units
  exact ⟨qf7 K,(qad (qal (i:=2) nd rfl (Or.inl rfl) (c_common.pe hr (by decide) rfl (qaa (pv 0) (qaa (pv 1) qac))))
    (qah (qax (c_evened.pe hr (by decide) rfl (qaa (c_quotient.pe hr (by decide) rfl (qaa (pv 0) (qaa (pv 2) qac))) (qaa (c_quotient.pe hr (by decide) rfl (qaa (pv 1) (qaa (pv 2) qac))) qac)))))),qlz h⟩
theorem sc_evened:FnScope ["P", "Q", "factor"] ["P", "Q"] (qak qiX):=⟨rfl,rfl,rfl,by decide +kernel,rfl,by decide +kernel,by decide +kernel⟩
theorem qpz (F:Fun K "evened" "evened" qiX f fd) (B:Bl K mg) (c_over:Cal P w K mg base 3 "over" ["one", "other"] (qe7 K)) (c_p_scaled:Cal P w K mg base 4 "p_scaled" ["P", "c"] (qbH K)):FnOk P w K mg base CX0 5 f fd ["P", "Q"] (qc4 K):=by
  refine F.ok sc_evened (fun vs H Q E h=>?_) (fun cdv A outer s H vs Q E hr h=>?_)
  · obtain ⟨_,_,_,_,rfl,_⟩:=h
    rfl
  have nd:=sc_evened.nd
  have hu:=hr.units0
  have hu64:=hr.units
  exact ⟨qjp K,(qad (qal (i:=2) nd rfl (Or.inl rfl) (c_over.pe hr (by decide) rfl (qaa (qa5 (qaa qae (qaa qae qac))) (qaa (qaz qap (pv 1) (qcM qbE qae) (fun _ _=>rfl)) qac))))
    (qah (qax (qa5 (qaa (c_p_scaled.pe hr (by decide) rfl (qaa (pv 0) (qaa (pv 2) qac))) (qaa (c_p_scaled.pe hr (by decide) rfl (qaa (pv 1) (qaa (pv 2) qac))) qac)))))),qpg h⟩
theorem sc_quotient:FnScope ["P", "Q"] ["P", "Q"] (qak qfW):=⟨rfl,rfl,rfl,by decide +kernel,rfl,by decide +kernel,by decide +kernel⟩
theorem qlK (F:Fun K "quotient" "quotient" qfW f fd) (B:Bl K mg) (c_p_split:Cal P w K mg base 4 "p_split" ["P", "Q"] (qck K)):FnOk P w K mg base CX0 5 f fd ["P", "Q"] (qbI K):=by
  refine F.ok sc_quotient (fun vs H Q E h=>?_) (fun cdv A outer s H vs Q E hr h=>?_)
  · obtain ⟨_,_,_,_,_,_,_,_,_,_,rfl,_⟩:=h
    rfl
  have nd:=sc_quotient.nd
  have hu:=hr.units0
  have hu64:=hr.units
  exact ⟨qf8 K,(qah (qax (qaz qap (c_p_split.pe hr (by decide) rfl (qaa (pv 0) (qaa (pv 1) qac))) qae (fun _ _=>rfl)))),qlx h⟩
theorem sc_show_number:FnScope ["c", "top"] ["c"] (qak qdJ):=⟨rfl,rfl,rfl,by decide +kernel,rfl,by decide +kernel,by decide +kernel⟩
theorem qii (F:Fun K "show_number" "show_number" qdJ f fd) (B:Bl K mg) (c_show_whole:Cal P w K mg base 2 "show_whole" ["whole"] (qbn K)):FnOk P w K mg base CX0 3 f fd ["c"] (qaM K):=by
  refine F.ok sc_show_number (fun vs H Q E h=>?_) (fun cdv A outer s H vs Q E hr h=>?_)
  · obtain ⟨_,_,_,rfl,_⟩:=h
    rfl
  have nd:=sc_show_number.nd
  have hu:=hr.units0
  have hu64:=hr.units
  exact ⟨qdW K,(qad (qal (i:=1) nd rfl (Or.inl rfl) (c_show_whole.pe hr (by decide) rfl (qaa (qaz qap (pv 0) qae (fun _ _=>rfl)) qac)))
    (qah (qax (qbW (qau qcN (qaz qap (pv 0) qae (fun _ _=>rfl)) qae (nomark _)) (pv 1) (qam qaT (qam qaT (pv 1) qaQ) (c_show_whole.pe hr (by decide) rfl (qaa (qaz qap (pv 0) qae (fun _ _=>rfl)) qac))))))),qic h⟩
theorem sc_show_whole:FnScope ["whole", "scale", "left", "groups"] ["whole"] (qak qeg):=⟨rfl,rfl,rfl,by decide +kernel,rfl,by decide +kernel,by decide +kernel⟩
theorem qjJ (F:Fun K "show_whole" "show_whole" qeg f fd) (B:Bl K mg) (c_raised:Cal P w K mg base 1 "raised" ["whole", "n"] (qb8 K)):FnOk P w K mg base CX0 2 f fd ["whole"] (qbn K):=by
  refine F.ok sc_show_whole (fun vs H Q E h=>?_) (fun cdv A outer s H vs Q E hr h=>?_)
  · obtain ⟨_,rfl,_⟩:=h
    rfl
  have nd:=sc_show_whole.nd
  have hu:=hr.units0
  have hu64:=hr.units
  exact ⟨qev K,(qad (qal (i:=1) nd rfl (Or.inl rfl) (c_raised.pe hr (by decide) rfl (qaa qae (qaa (qny rfl B.FIGURES_AT_ONCE ⟨_,rfl⟩) qac))))
    (qad (qal (i:=2) nd rfl (Or.inl rfl) (qat qb6 rfl B.abs qfg (qaa (pv 0) qac)))
    (qad (qal (i:=3) nd rfl (Or.inl rfl) (qcK qac))
    (qad (qbX PassesOwn.never (qau qrk (pv 2) (pv 1) (nomark _)) qnB)
    (qad (qiP (qmQ PySem.F.plainAttrs_list PySem.F.slot_list_append PySem.F.type_list_append qj4 (pv 3) (qaa (qbg qei rfl B.str qiz (qaa (pv 2) qac)) qac)))
    (qah (qax (qam qaT (qbW (qau qh4 (pv 0) qae (nomark _)) qaQ qaQ) (qm4 rfl B.reversed rfl (qaa (pv 3) qac)))))))))),qjF h⟩
theorem sc_show_poly:FnScope ["P", "text", "n"] ["P"] (qak qeX):=⟨rfl,rfl,rfl,by decide +kernel,rfl,by decide +kernel,by decide +kernel⟩
theorem qkK (F:Fun K "show_poly" "show_poly" qeX f fd) (B:Bl K mg) (c_degree:Cal P w K mg base 1 "degree" ["P"] (qc5 K)) (c_joint:Cal P w K mg base 1 "joint" ["number", "is_first"] (qcS K)) (c_size_of:Cal P w K mg base 1 "size_of" ["one"] (qbQ K)) (c_show_term:Cal P w K mg base 4 "show_term" ["size", "n"] (qct K)):FnOk P w K mg base CX0 5 f fd ["P"] (qbo K):=by
  refine F.ok sc_show_poly (fun vs H Q E h=>?_) (fun cdv A outer s H vs Q E hr h=>?_)
  · obtain ⟨_,_,rfl,_⟩:=h
    rfl
  have nd:=sc_show_poly.nd
  have hu:=hr.units0
  have hu64:=hr.units
  exact ⟨qhz K,(qad (qal (i:=1) nd rfl (Or.inl rfl) qaQ)
    (qad (qcb PassesOwn.never rfl (qfk rfl B.range (qaa (c_degree.pe hr (by decide) rfl (qaa (pv 0) qac)) (qaa (qcM qbE qae) (qaa (qcM qbE qae) qac)))) (qaD (i:=2) nd rfl (Or.inl rfl)) (qah (qbM (qau qgz (qaz qap (qaz qap (pv 0) (pv 2) (fun _ _=>rfl)) qae (fun _ _=>rfl)) qae (nomark _)) (qah (qeL (i:=1) nd rfl (Or.inl rfl) (qam qaT (c_joint.pe hr (by decide) rfl (qaa (qaz qap (pv 0) (pv 2) (fun _ _=>rfl)) (qaa (qdF qcN (pv 1) qaQ (nomark _)) qac))) (c_show_term.pe hr (by decide) rfl (qaa (c_size_of.pe hr (by decide) rfl (qaa (qaz qap (pv 0) (pv 2) (fun _ _=>rfl)) qac)) (qaa (pv 2) qac)))) qmd)) qaV)))
    (qah (qax (qbW (qau qgz (pv 1) qaQ (nomark _)) (pv 1) qaQ))))),qkG h⟩
theorem sc_joint:FnScope ["number", "is_first"] ["number", "is_first"] (qak qk4):=⟨rfl,rfl,rfl,by decide +kernel,rfl,by decide +kernel,by decide +kernel⟩
theorem qqz (F:Fun K "joint" "joint" qk4 f fd) (B:Bl K mg)  : FnOk P w K mg base CX0 1 f fd ["number", "is_first"] (qcS K):=by
  refine F.ok sc_joint (fun vs H Q E h=>?_) (fun cdv A outer s H vs Q E hr h=>?_)
  · obtain ⟨_,_,_,_,rfl,_⟩:=h
    rfl
  have nd:=sc_joint.nd
  have hu:=hr.units0
  have hu64:=hr.units
  exact ⟨qlh K,(qad (qbM (qlT (pv 1)) (qah (qax (qbW (qau qh4 (qaz qap (pv 0) qae (fun _ _=>rfl)) qae (nomark _)) qaQ qaQ))) qaV)
    (qah (qax (qbW (qau qh4 (qaz qap (pv 0) qae (fun _ _=>rfl)) qae (nomark _)) qaQ qaQ)))),qqp h⟩
theorem sc_show_term:FnScope ["size", "n", "letter"] ["size", "n"] (qak qeY):=⟨rfl,rfl,rfl,by decide +kernel,rfl,by decide +kernel,by decide +kernel⟩
theorem qkL (F:Fun K "show_term" "show_term" qeY f fd) (B:Bl K mg) (c_show_number:Cal P w K mg base 3 "show_number" ["c"] (qaM K)):FnOk P w K mg base CX0 4 f fd ["size", "n"] (qct K):=by
  refine F.ok sc_show_term (fun vs H Q E h=>?_) (fun cdv A outer s H vs Q E hr h=>?_)
  · obtain ⟨_,_,_,_,rfl,_⟩:=h
    rfl
  have nd:=sc_show_term.nd
  have hu:=hr.units0
  have hu64:=hr.units
  exact ⟨qhA K,(qad (qbM (qau qcN (pv 1) qae (nomark _)) (qah (qax (c_show_number.pe hr (by decide) rfl (qaa (pv 0) qac)))) qaV)
    (qad (qal (i:=2) nd rfl (Or.inl rfl) (qbW (qau qcN (pv 1) qae (nomark _)) qaQ (qrA (pv 1))))
    (qah (qax (qbW (qau (qsW hu) (pv 0) (qa5 (qaa qae (qaa qae qac))) (nomark _)) (pv 2) (qam qaT (qam qaT (c_show_number.pe hr (by decide) rfl (qaa (pv 0) qac)) qaQ) (pv 2))))))),qkF h⟩
theorem sc_show:FnScope ["F", "top"] ["F"] (qak qnY):=⟨rfl,rfl,rfl,by decide +kernel,rfl,by decide +kernel,by decide +kernel⟩
theorem qss (F:Fun K "show" "show" qnY f fd) (B:Bl K mg) (c_show_poly:Cal P w K mg base 5 "show_poly" ["P"] (qbo K)):FnOk P w K mg base CX0 6 f fd ["F"] (qf3 K):=by
  refine F.ok sc_show (fun vs H Q E h=>?_) (fun cdv A outer s H vs Q E hr h=>?_)
  · obtain ⟨_,_,_,rfl,_⟩:=h
    rfl
  have nd:=sc_show.nd
  have hu:=hr.units0
  have hu64:=hr.units
  exact ⟨qq4 K,(qad (qal (i:=1) nd rfl (Or.inl rfl) (c_show_poly.pe hr (by decide) rfl (qaa (qaz qap (pv 0) qae (fun _ _=>rfl)) qac)))
    (qah (qax (qbW (qau (qma hu64) (qaz qap (pv 0) qae (fun _ _=>rfl)) (qa5 (qaa (qa5 (qaa qae (qaa qae qac))) qac)) (nomark _)) (pv 1) (qam qaT (qam qaT (qam qaT (qam qaT qaQ (pv 1)) qaQ) (c_show_poly.pe hr (by decide) rfl (qaa (qaz qap (pv 0) qae (fun _ _=>rfl)) qac))) qaQ))))),qsg h⟩
theorem sc_show_form:FnScope ["form"] ["form"] (qak qeZ):=⟨rfl,rfl,rfl,by decide +kernel,rfl,by decide +kernel,by decide +kernel⟩
theorem qkM (F:Fun K "show_form" "show_form" qeZ f fd) (B:Bl K mg) (c_show:Cal P w K mg base 6 "show" ["F"] (qf3 K)) (c_show_poly:Cal P w K mg base 5 "show_poly" ["P"] (qbo K)) (c_with_logs:Cal P w K mg base 4 "with_logs" ["first", "rows"] (qbK K)):FnOk P w K mg base CX0 7 f fd ["form"] (qb1 K):=by
  refine F.ok sc_show_form (fun vs H Q E h=>?_) (fun cdv A outer s H vs Q E hr h=>?_)
  · obtain ⟨_,_,_,_,_,_,_,rfl,_⟩:=h
    rfl
  have nd:=sc_show_form.nd
  have hu:=hr.units0
  have hu64:=hr.units
  exact ⟨qhB K,(qah (qax (c_with_logs.pe hr (by decide) rfl (qaa (c_show.pe hr (by decide) rfl (qaa (qaz qap (pv 0) qae (fun _ _=>rfl)) qac)) (qaa (qcf (N:=["c", "v"]) (capt:=[none,none]) rfl (BlkOk.of rfl rfl rfl rfl (fun _ h=>nomatch h) rfl rfl rfl) (qgV (qaz qap (pv 0) qae (fun _ _=>rfl))) (fun _ _ _ _=>(qdw rfl (qa9 (qaD (i:=0) (show (["c", "v"]:List PySem.Str).Nodup by decide +kernel) rfl (Or.inl rfl)) (qa9 (qaD (i:=1) (show (["c", "v"]:List PySem.Str).Nodup by decide +kernel) rfl (Or.inl rfl)) qdq)))) (fun _ _ _ _=>(qa5 (qaa (pv 0) (qaa (c_show_poly.pe hr (by decide) rfl (qaa (pv 1) qac)) qac))))) qac))))),qkH h⟩
theorem sc_with_logs:FnScope ["first", "rows", "text", "c", "inner"] ["first", "rows"] (qak qe0):=⟨rfl,rfl,rfl,by decide +kernel,rfl,by decide +kernel,by decide +kernel⟩
theorem qkN (F:Fun K "with_logs" "with_logs" qe0 f fd) (B:Bl K mg) (c_joint:Cal P w K mg base 1 "joint" ["number", "is_first"] (qcS K)) (c_size_of:Cal P w K mg base 1 "size_of" ["one"] (qbQ K)) (c_show_number:Cal P w K mg base 3 "show_number" ["c"] (qaM K)):FnOk P w K mg base CX0 4 f fd ["first", "rows"] (qbK K):=by
  refine F.ok sc_with_logs (fun vs H Q E h=>?_) (fun cdv A outer s H vs Q E hr h=>?_)
  · obtain ⟨_,_,_,_,rfl,_⟩:=h
    rfl
  have nd:=sc_with_logs.nd
  have hu:=hr.units0
  have hu64:=hr.units
  exact ⟨qe9 K,(qad (qal (i:=2) nd rfl (Or.inl rfl) (qbW (PW.pt (qgm (qau qcN (pv 0) qaQ (nomark _)) (qd8 (qe3 (pv 1) (fun _=>rfl))))) qaQ (pv 0)))
    (qad (qcb PassesOwn.never rfl (qb3 (pv 1)) (qdw rfl (qa9 (qaD (i:=3) nd rfl (Or.inl rfl)) (qa9 (qaD (i:=4) nd rfl (Or.inl rfl)) qdq))) (qah (qeL (i:=2) nd rfl (Or.inl rfl) (qam qaT (qam qaT (qam qaT (qam qaT (c_joint.pe hr (by decide) rfl (qaa (pv 3) (qaa (qdF qcN (pv 2) qaQ (nomark _)) qac))) (c_show_number.pe hr (by decide) rfl (qaa (c_size_of.pe hr (by decide) rfl (qaa (pv 3) qac)) qac))) qaQ) (pv 4)) qaQ) qmd)))
    (qah (qax (pv 2))))),qkC h⟩
theorem sc_l_box:FnScope ["_law_script", "_law_k", "_law_cell", "_law_plain"] ["_law_script", "_law_k"] (qak qk5):=⟨rfl,rfl,rfl,by decide +kernel,rfl,by decide +kernel,by decide +kernel⟩
theorem qqA (F:Fun K "_law_box" "_law_box" qk5 f fd) (B:Bl K mg)  : FnOk P w K mg base CX0 1 f fd ["_law_script", "_law_k"] (qdS K):=by
  refine F.ok sc_l_box (fun vs H Q E h=>?_) (fun cdv A outer s H vs Q E hr h=>?_)
  · obtain ⟨_,_,_,rfl,_⟩:=h
    rfl
  have nd:=sc_l_box.nd
  have hu:=hr.units0
  have hu64:=hr.units
  exact ⟨qli K,(qad (qal (i:=2) nd rfl (Or.inl rfl) qae)
    (qad (qbM (qau qh4 (pv 1) (qat qg9 rfl B.len qbc (qaa (pv 0) qac)) (nomark _)) (qah (qal (i:=2) nd rfl (Or.inl rfl) (qaz qka (pv 0) (pv 1) (fun _ _=>rfl)))) qaV)
    (qad (qal (i:=3) nd rfl (Or.inl rfl) (qsH (qdF qgA (qat qg9 rfl B.len qbc (qaa (pv 0) qac)) qae (nomark _)) (qsG (qdF qcN (qam qcJ (qaz qka (pv 0) qae (fun _ _=>rfl)) qae) qae (nomark _)))))
    (qah (qax (qcK (qaa (qam qaW (qat qb6 rfl B.abs qfg (qaa (pv 2) qac)) (qbg qeh rfl B.int qj9 (qaa (pv 3) qac))) (qaa (qat qb6 rfl B.abs qfg (qaa (pv 2) qac)) (qaa (qam qaW qae (pv 1)) qac))))))))),qqm h⟩
theorem sc_l_take:FnScope ["_law_box_here", "_law_many", "_law_digit", "_law_m"] ["_law_box_here", "_law_many"] (qak qiY):=⟨rfl,rfl,rfl,by decide +kernel,rfl,by decide +kernel,by decide +kernel⟩
theorem qpA (F:Fun K "_law_take" "_law_take" qiY f fd) (B:Bl K mg)  : FnOk P w K mg base CX0 1 f fd ["_law_box_here", "_law_many"] (qaO K):=by
  refine F.ok sc_l_take (fun vs H Q E h=>?_) (fun cdv A outer s H vs Q E hr h=>?_)
  · obtain ⟨_,_,_,rfl,_⟩:=h
    rfl
  have nd:=sc_l_take.nd
  have hu:=hr.units0
  have hu64:=hr.units
  exact ⟨qjt K,(qad (qbM (qau qgA (qaz qaG (pv 0) qae (fun _ _=>rfl)) qae (nomark _)) (qad (qal (i:=2) nd rfl (Or.inl rfl) (qam qcJ (qaz qaG (pv 0) qae (fun _ _=>rfl)) (pv 1)))
    (qad (qgn (qam qi4 (qaz qaG (pv 0) qae (fun _ _=>rfl)) (pv 1)) (qip (pv 0) qae qcO))
    (qah (qax (pv 2))))) qaV)
    (qad (qgn (qam qbV (qaz qaG (pv 0) qae (fun _ _=>rfl)) qae) (qip (pv 0) qae qcO))
    (qad (qal (i:=3) nd rfl (Or.inl rfl) (qam qbV (qam qcJ (qaz qaG (pv 0) qae (fun _ _=>rfl)) qae) qae))
    (qad (qal (i:=3) nd rfl (Or.inl rfl) (qam qcJ (qam qaW (pv 3) (qam qbV qae (qam qaW (qaz qaG (pv 0) qae (fun _ _=>rfl)) (qaz qaG (pv 0) qae (fun _ _=>rfl))))) qae))
    (qad (qal (i:=3) nd rfl (Or.inl rfl) (qam qcJ (qam qaW (pv 3) (qam qbV (qam qbV (qam qcJ (pv 3) qae) (qam qaW (qaz qaG (pv 0) qae (fun _ _=>rfl)) qae)) qae)) qae))
    (qah (qax (qam qcJ (qam qbV (qam qi4 (qam qaW (pv 3) (pv 3)) qae) (qam qi4 (pv 3) qae)) (pv 1))))))))),qph h⟩
theorem sc_l_lowest:FnScope ["_law_top", "_law_bottom", "_law_one", "_law_other"] ["_law_top", "_law_bottom"] (qak qfX):=⟨rfl,rfl,rfl,by decide +kernel,rfl,by decide +kernel,by decide +kernel⟩
theorem qlL (F:Fun K "_law_lowest" "_law_lowest" qfX f fd) (B:Bl K mg)  : FnOk P w K mg base CX0 1 f fd ["_law_top", "_law_bottom"] (qa1 K):=by
  refine F.ok sc_l_lowest (fun vs H Q E h=>?_) (fun cdv A outer s H vs Q E hr h=>?_)
  · obtain ⟨_,_,rfl,_⟩:=h
    rfl
  have nd:=sc_l_lowest.nd
  have hu:=hr.units0
  have hu64:=hr.units
  exact ⟨qf9 K,(qad (qqJ (i:=2) (j:=3) rfl nd rfl rfl (by decide) rfl rfl (qaa (qat qb6 rfl B.abs qfg (qaa (pv 0) qac)) (qaa (pv 1) qac)) rfl)
    (qad (qbX PassesOwn.never (qau qgA (pv 3) qae (nomark _)) (qah (qqJ (i:=2) (j:=3) rfl nd rfl rfl (by decide) rfl rfl (qaa (pv 3) (qaa (qam qcJ (pv 2) (pv 3)) qac)) rfl)))
    (qah (qax (qa5 (qaa (qam qeB (pv 0) (pv 2)) (qaa (qam qeB (pv 1) (pv 2)) qac))))))),qlA h⟩
theorem sc_l_number:FnScope ["_law_box_here", "_law_kind"] ["_law_box_here"] (qak qfY):=⟨rfl,rfl,rfl,by decide +kernel,rfl,by decide +kernel,by decide +kernel⟩
theorem qlM (F:Fun K "_law_number" "_law_number" qfY f fd) (B:Bl K mg) (c_l_take:Cal P w K mg base 1 "_law_take" ["_law_box_here", "_law_many"] (qaO K)) (c_l_lowest:Cal P w K mg base 1 "_law_lowest" ["_law_top", "_law_bottom"] (qa1 K)):FnOk P w K mg base CX0 2 f fd ["_law_box_here"] (qbB K):=by
  refine F.ok sc_l_number (fun vs H Q E h=>?_) (fun cdv A outer s H vs Q E hr h=>?_)
  · obtain ⟨_,_,rfl,_⟩:=h
    rfl
  have nd:=sc_l_number.nd
  have hu:=hr.units0
  have hu64:=hr.units
  exact ⟨qga K,(qad (qal (i:=1) nd rfl (Or.inl rfl) (c_l_take.pe hr (by decide) rfl (qaa (pv 0) (qaa qae qac))))
    (qad (qbM (qau qcN (pv 1) qae (nomark _)) (qah (qax (qa5 (qaa (qam qbx (c_l_take.pe hr (by decide) rfl (qaa (pv 0) (qaa qae qac))) qae) (qaa qae qac))))) qaV)
    (qad (qbM (qau qcN (pv 1) qae (nomark _)) (qah (qax (c_l_lowest.pe hr (by decide) rfl (qaa (qam qbx (c_l_take.pe hr (by decide) rfl (qaa (pv 0) (qaa qae qac))) qae) (qaa (qam qbV qae (c_l_take.pe hr (by decide) rfl (qaa (pv 0) (qaa qae qac)))) qac))))) qaV)
    (qad (qbM (qau qcN (pv 1) qae (nomark _)) (qah (qax (c_l_lowest.pe hr (by decide) rfl (qaa (qam qbx (c_l_take.pe hr (by decide) rfl (qaa (pv 0) (qaa qae qac))) qae) (qaa (qam qbV qae (c_l_take.pe hr (by decide) rfl (qaa (pv 0) (qaa qae qac)))) qac))))) qaV)
    (qah (qax (qa5 (qaa (qam qbx (c_l_take.pe hr (by decide) rfl (qaa (pv 0) (qaa qae qac))) qae) (qaa qae qac))))))))),qlB h⟩
theorem sc_l_sum:FnScope ["_law_one", "_law_other"] ["_law_one", "_law_other"] (qak qk6):=⟨rfl,rfl,rfl,by decide +kernel,rfl,by decide +kernel,by decide +kernel⟩
theorem qqB (F:Fun K "_law_sum" "_law_sum" qk6 f fd) (B:Bl K mg) (c_l_lowest:Cal P w K mg base 1 "_law_lowest" ["_law_top", "_law_bottom"] (qa1 K)):FnOk P w K mg base CX0 2 f fd ["_law_one", "_law_other"] (qfo K):=by
  refine F.ok sc_l_sum (fun vs H Q E h=>?_) (fun cdv A outer s H vs Q E hr h=>?_)
  · obtain ⟨_,_,_,_,_,_,rfl,_⟩:=h
    rfl
  have nd:=sc_l_sum.nd
  have hu:=hr.units0
  have hu64:=hr.units
  exact ⟨qlj K,(qah (qax (c_l_lowest.pe hr (by decide) rfl (qaa (qam qbV (qam qaW (qaz qap (pv 0) qae (fun _ _=>rfl)) (qaz qap (pv 1) qae (fun _ _=>rfl))) (qam qaW (qaz qap (pv 1) qae (fun _ _=>rfl)) (qaz qap (pv 0) qae (fun _ _=>rfl)))) (qaa (qam qaW (qaz qap (pv 0) qae (fun _ _=>rfl)) (qaz qap (pv 1) qae (fun _ _=>rfl))) qac))))),qqo h⟩
theorem sc_l_product:FnScope ["_law_one", "_law_other"] ["_law_one", "_law_other"] (qak qe1):=⟨rfl,rfl,rfl,by decide +kernel,rfl,by decide +kernel,by decide +kernel⟩
theorem qkO (F:Fun K "_law_product" "_law_product" qe1 f fd) (B:Bl K mg) (c_l_lowest:Cal P w K mg base 1 "_law_lowest" ["_law_top", "_law_bottom"] (qa1 K)):FnOk P w K mg base CX0 2 f fd ["_law_one", "_law_other"] (qcr K):=by
  refine F.ok sc_l_product (fun vs H Q E h=>?_) (fun cdv A outer s H vs Q E hr h=>?_)
  · obtain ⟨_,_,_,_,_,_,rfl,_⟩:=h
    rfl
  have nd:=sc_l_product.nd
  have hu:=hr.units0
  have hu64:=hr.units
  exact ⟨qfa K,(qah (qax (c_l_lowest.pe hr (by decide) rfl (qaa (qam qaW (qaz qap (pv 0) qae (fun _ _=>rfl)) (qaz qap (pv 1) qae (fun _ _=>rfl))) (qaa (qam qaW (qaz qap (pv 0) qae (fun _ _=>rfl)) (qaz qap (pv 1) qae (fun _ _=>rfl))) qac))))),qkB h⟩
theorem sc_l_poly_of:FnScope ["_law_row", "_law_many"] ["_law_row"] (qak qe2):=⟨rfl,rfl,rfl,by decide +kernel,rfl,by decide +kernel,by decide +kernel⟩
theorem qkP (F:Fun K "_law_poly_of" "_law_poly_of" qe2 f fd) (B:Bl K mg)  : FnOk P w K mg base CX0 1 f fd ["_law_row"] (qbJ K):=by
  refine F.ok sc_l_poly_of (fun vs H Q E h=>?_) (fun cdv A outer s H vs Q E hr h=>?_)
  · obtain ⟨_,_,_,rfl,_⟩:=h
    rfl
  have nd:=sc_l_poly_of.nd
  have hu:=hr.units0
  have hu64:=hr.units
  exact ⟨qfb K,(qad (qal (i:=1) nd rfl (Or.inl rfl) (qat qaN rfl B.len qbc (qaa (pv 0) qac)))
    (qad (qbX PassesOwn.never (PW.pt (qgm (qau qgA (pv 1) qae (nomark _)) (qd8 (qau qcN (qaz qap (qaz qaG (pv 0) (qam qbx (pv 1) qae) (fun _ _=>rfl)) qae (fun _ _=>rfl)) qae (nomark _))))) (qah (qal (i:=1) nd rfl (Or.inl rfl) (qam qbx (pv 1) qae))))
    (qah (qax (qbg qhc rfl B.tuple qi3 (qaa (qff qhb (pv 0) qgX (qgY (pv 1))) qac)))))),qkA h⟩
theorem sc_l_poly:FnScope ["_law_box_here", "_law_most"] ["_law_box_here", "_law_most"] (qak qiZ):=⟨rfl,rfl,rfl,by decide +kernel,rfl,by decide +kernel,by decide +kernel⟩
theorem qpB (F:Fun K "_law_poly" "_law_poly" qiZ f fd) (B:Bl K mg) (c_l_take:Cal P w K mg base 1 "_law_take" ["_law_box_here", "_law_many"] (qaO K)) (c_l_number:Cal P w K mg base 2 "_law_number" ["_law_box_here"] (qbB K)) (c_l_poly_of:Cal P w K mg base 1 "_law_poly_of" ["_law_row"] (qbJ K)):FnOk P w K mg base CX0 3 f fd ["_law_box_here", "_law_most"] (qcs K):=by
  refine F.ok sc_l_poly (fun vs H Q E h=>?_) (fun cdv A outer s H vs Q E hr h=>?_)
  · obtain ⟨_,_,_,rfl,_⟩:=h
    rfl
  have nd:=sc_l_poly.nd
  have hu:=hr.units0
  have hu64:=hr.units
  exact ⟨qju K,(qah (qax (c_l_poly_of.pe hr (by decide) rfl (qaa (qcf (N:=["_law_k", "_law_box_here"]) (capt:=[none,some 0]) rfl (BlkOk.of rfl rfl rfl rfl (List.forall_mem_singleton.mpr rfl) rfl rfl rfl) (qd9 rfl B.range (qaa (c_l_take.pe hr (by decide) rfl (qaa (pv 0) (qaa (qam qbV (pv 1) qae) qac))) qac)) (fun _ _ _ _=>(qaD (i:=0) (show (["_law_k", "_law_box_here"]:List PySem.Str).Nodup by decide +kernel) rfl (Or.inl rfl))) (fun _ _ _ _=>(c_l_number.pe hr (by decide) rfl (qaa (pv 1) qac)))) qac)))),qpi h⟩
theorem sc_l_multiplied:FnScope ["_law_kp", "_law_kq", "_law_row", "_law_k", "_law_one", "_law_j", "_law_other"] ["_law_kp", "_law_kq"] (qak qdu):=⟨rfl,rfl,rfl,by decide +kernel,rfl,by decide +kernel,by decide +kernel⟩
theorem qhY (F:Fun K "_law_multiplied" "_law_multiplied" qdu f fd) (B:Bl K mg) (c_l_product:Cal P w K mg base 2 "_law_product" ["_law_one", "_law_other"] (qcr K)) (c_l_sum:Cal P w K mg base 2 "_law_sum" ["_law_one", "_law_other"] (qfo K)) (c_l_poly_of:Cal P w K mg base 1 "_law_poly_of" ["_law_row"] (qbJ K)):FnOk P w K mg base CX0 3 f fd ["_law_kp", "_law_kq"] (qbj K):=by
  refine F.ok sc_l_multiplied (fun vs H Q E h=>?_) (fun cdv A outer s H vs Q E hr h=>?_)
  · obtain ⟨_,_,_,_,_,_,_,_,_,_,rfl,_⟩:=h
    rfl
  have nd:=sc_l_multiplied.nd
  have hu:=hr.units0
  have hu64:=hr.units
  exact ⟨qdA K,(qad (qal (i:=2) nd rfl (Or.inl rfl) (qam qj5 (qcK (qaa (qa5 (qaa qae (qaa qae qac))) qac)) (qam qbV (qat qcn rfl B.len qbc (qaa (pv 0) qac)) (qat qcn rfl B.len qbc (qaa (pv 1) qac)))))
    (qad (qcb PassesOwn.never rfl (ql9 rfl B.enumerate (qaa (pv 0) qac)) (qdw rfl (qa9 (qaD (i:=3) nd rfl (Or.inl rfl)) (qa9 (qaD (i:=4) nd rfl (Or.inl rfl)) qdq))) (qah (qcb PassesOwn.never rfl (ql9 rfl B.enumerate (qaa (pv 1) qac)) (qdw rfl (qa9 (qaD (i:=5) nd rfl (Or.inl rfl)) (qa9 (qaD (i:=6) nd rfl (Or.inl rfl)) qdq))) (qah (qgn (c_l_sum.pe hr (by decide) rfl (qaa (qaz qaG (pv 2) (qam qbV (pv 3) (pv 5)) (fun _ _=>rfl)) (qaa (c_l_product.pe hr (by decide) rfl (qaa (pv 4) (qaa (pv 6) qac))) qac))) (qip (pv 2) (qam qbV (pv 3) (pv 5)) qcO))))))
    (qah (qax (c_l_poly_of.pe hr (by decide) rfl (qaa (pv 2) qac)))))),qhU h⟩
theorem sc_l_number_text:FnScope ["_law_c"] ["_law_c"] (qak qc0):=⟨rfl,rfl,rfl,by decide +kernel,rfl,by decide +kernel,by decide +kernel⟩
theorem qgL (F:Fun K "_law_number_text" "_law_number_text" qc0 f fd) (B:Bl K mg)  : FnOk P w K mg base CX0 1 f fd ["_law_c"] (qbb K):=by
  refine F.ok sc_l_number_text (fun vs H Q E h=>?_) (fun cdv A outer s H vs Q E hr h=>?_)
  · obtain ⟨_,_,_,rfl,_⟩:=h
    rfl
  have nd:=sc_l_number_text.nd
  have hu:=hr.units0
  have hu64:=hr.units
  exact ⟨qdd K,(qad (qbM (qau qcN (qaz qap (pv 0) qae (fun _ _=>rfl)) qae (nomark _)) (qah (qax (qbg qei rfl B.str qiz (qaa (qaz qap (pv 0) qae (fun _ _=>rfl)) qac)))) qaV)
    (qah (qax (qam qaT (qam qaT (qbg qei rfl B.str qiz (qaa (qaz qap (pv 0) qae (fun _ _=>rfl)) qac)) qaQ) (qbg qei rfl B.str qiz (qaa (qaz qap (pv 0) qae (fun _ _=>rfl)) qac)))))),qgH h⟩
theorem sc_l_poly_text:FnScope ["_law_kp", "_law_text", "_law_n", "_law_top", "_law_bottom", "_law_size", "_law_letter"] ["_law_kp"] (qak qdK):=⟨rfl,rfl,rfl,by decide +kernel,rfl,by decide +kernel,by decide +kernel⟩
theorem qij (F:Fun K "_law_poly_text" "_law_poly_text" qdK f fd) (B:Bl K mg) (c_l_number_text:Cal P w K mg base 1 "_law_number_text" ["_law_c"] (qbb K)):FnOk P w K mg base CX0 2 f fd ["_law_kp"] (qa8 K):=by
  refine F.ok sc_l_poly_text (fun vs H Q E h=>?_) (fun cdv A outer s H vs Q E hr h=>?_)
  · obtain ⟨_,_,rfl,_⟩:=h
    rfl
  have nd:=sc_l_poly_text.nd
  have hu:=hr.units0
  have hu64:=hr.units
  exact ⟨qfB K,(qad (qal (i:=1) nd rfl (Or.inl rfl) qaQ)
    (qad (qcb PassesOwn.never rfl (qfk rfl B.range (qaa (qam qbx (qat qcn rfl B.len qbc (qaa (pv 0) qac)) qae) (qaa (qcM qbE qae) (qaa (qcM qbE qae) qac)))) (qaD (i:=2) nd rfl (Or.inl rfl)) (qad (qgn (qaz qap (pv 0) (pv 2) (fun _ _=>rfl)) (qdw rfl (qa9 (qaD (i:=3) nd rfl (Or.inl rfl)) (qa9 (qaD (i:=4) nd rfl (Or.inl rfl)) qdq))))
    (qah (qbM (qau qgz (pv 3) qae (nomark _)) (qad (qal (i:=5) nd rfl (Or.inl rfl) (c_l_number_text.pe hr (by decide) rfl (qaa (qa5 (qaa (qat qb6 rfl B.abs qfg (qaa (pv 3) qac)) (qaa (pv 4) qac))) qac)))
    (qad (qal (i:=6) nd rfl (Or.inl rfl) (qaz qaG (qcK (qaa qaQ (qaa qaQ (qaa (qam qaT qaQ (qbg qei rfl B.str qiz (qaa (pv 2) qac))) qac)))) (qat (qkb rfl) rfl B.min qn5 (qaa (pv 2) (qaa qae qac))) (fun _ _=>rfl)))
    (qad (qbM (PW.pt (qgm (qau qgA (pv 2) qae (nomark _)) (qd8 (qau qcN (pv 5) qaQ (nomark _))))) (qah (qal (i:=5) nd rfl (Or.inl rfl) (pv 6))) (qah (qbM (qau qgA (pv 2) qae (nomark _)) (qah (qal (i:=5) nd rfl (Or.inl rfl) (qam qaT (qam qaT (pv 5) qaQ) (pv 6)))) qaV)))
    (qah (qbM (qau qcN (pv 1) qaQ (nomark _)) (qah (qal (i:=1) nd rfl (Or.inl rfl) (qam qaT (qam qoq qaQ (qbg qeh rfl B.int qj9 (qaa (qdF qh4 (pv 3) qae (nomark _)) qac))) (pv 5)))) (qah (qal (i:=1) nd rfl (Or.inl rfl) (qam qaT (qam qaT (pv 1) (qaz qaG (qcK (qaa qaQ (qaa qaQ qac))) (qbg qeh rfl B.int qj9 (qaa (qdF qh4 (pv 3) qae (nomark _)) qac)) (fun _ _=>rfl))) (pv 5))))))))) qaV))))
    (qad (qbM (qau qcN (pv 1) qaQ (nomark _)) (qah (qax qaQ)) qaV)
    (qah (qax (pv 1)))))),qie h⟩
theorem sc_l_fraction_text:FnScope ["_law_kf"] ["_law_kf"] (qak qce):=⟨rfl,rfl,rfl,by decide +kernel,rfl,by decide +kernel,by decide +kernel⟩
theorem qfN (F:Fun K "_law_fraction_text" "_law_fraction_text" qce f fd) (B:Bl K mg) (c_l_poly_text:Cal P w K mg base 2 "_law_poly_text" ["_law_kp"] (qa8 K)):FnOk P w K mg base CX0 3 f fd ["_law_kf"] (qbp K):=by
  refine F.ok sc_l_fraction_text (fun vs H Q E h=>?_) (fun cdv A outer s H vs Q E hr h=>?_)
  · obtain ⟨_,_,_,rfl,_⟩:=h
    rfl
  have nd:=sc_l_fraction_text.nd
  have hu:=hr.units0
  have hu64:=hr.units
  exact ⟨qdE K,(qad (qbM (qau (qma hu64) (qaz qap (pv 0) qae (fun _ _=>rfl)) (qa5 (qaa (qa5 (qaa qae (qaa qae qac))) qac)) (nomark _)) (qah (qax (c_l_poly_text.pe hr (by decide) rfl (qaa (qaz qap (pv 0) qae (fun _ _=>rfl)) qac)))) qaV)
    (qah (qax (qam qaT (qam qaT (qam qaT (qam qaT qaQ (c_l_poly_text.pe hr (by decide) rfl (qaa (qaz qap (pv 0) qae (fun _ _=>rfl)) qac))) qaQ) (c_l_poly_text.pe hr (by decide) rfl (qaa (qaz qap (pv 0) qae (fun _ _=>rfl)) qac))) qaQ)))),qfL h⟩
theorem sc_l_logs_text:FnScope ["_law_first", "_law_nought", "_law_logs", "_law_text", "_law_c", "_law_inner", "_law_piece"] ["_law_first", "_law_nought", "_law_logs"] (qak qdL):=⟨rfl,rfl,rfl,by decide +kernel,rfl,by decide +kernel,by decide +kernel⟩
theorem qik (F:Fun K "_law_logs_text" "_law_logs_text" qdL f fd) (B:Bl K mg) (c_l_number_text:Cal P w K mg base 1 "_law_number_text" ["_law_c"] (qbb K)):FnOk P w K mg base CX0 2 f fd ["_law_first", "_law_nought", "_law_logs"] (qbs K):=by
  refine F.ok sc_l_logs_text (fun vs H Q E h=>?_) (fun cdv A outer s H vs Q E hr h=>?_)
  · obtain ⟨_,_,_,_,_,rfl,_⟩:=h
    rfl
  have nd:=sc_l_logs_text.nd
  have hu:=hr.units0
  have hu64:=hr.units
  exact ⟨qfE K,(qad (qal (i:=3) nd rfl (Or.inl rfl) (pv 0))
    (qad (qbM (PW.pt (qgm (qlT (pv 1)) (qd8 (qau qgA (qat qaN rfl B.len qbc (qaa (pv 2) qac)) qae (nomark _))))) (qah (qal (i:=3) nd rfl (Or.inl rfl) qaQ)) qaV)
    (qad (qcb PassesOwn.never rfl (qb3 (pv 2)) (qdw rfl (qa9 (qaD (i:=4) nd rfl (Or.inl rfl)) (qa9 (qaD (i:=5) nd rfl (Or.inl rfl)) qdq))) (qad (qal (i:=6) nd rfl (Or.inl rfl) (qam qaT (qam qaT (qam qaT (c_l_number_text.pe hr (by decide) rfl (qaa (qa5 (qaa (qat qb6 rfl B.abs qfg (qaa (qaz qap (pv 4) qae (fun _ _=>rfl)) qac)) (qaa (qaz qap (pv 4) qae (fun _ _=>rfl)) qac))) qac)) qaQ) (pv 5)) qaQ))
    (qah (qbM (qau qcN (pv 3) qaQ (nomark _)) (qah (qal (i:=3) nd rfl (Or.inl rfl) (qam qaT (qam qoq qaQ (qbg qeh rfl B.int qj9 (qaa (qdF qh4 (qaz qap (pv 4) qae (fun _ _=>rfl)) qae (nomark _)) qac))) (pv 6)))) (qah (qal (i:=3) nd rfl (Or.inl rfl) (qam qaT (qam qaT (pv 3) (qaz qaG (qcK (qaa qaQ (qaa qaQ qac))) (qbg qeh rfl B.int qj9 (qaa (qdF qh4 (qaz qap (pv 4) qae (fun _ _=>rfl)) qae (nomark _)) qac)) (fun _ _=>rfl))) (pv 6))))))))
    (qah (qax (pv 3)))))),qid h⟩
theorem sc_l_rising:FnScope ["_law_box_here", "_law_many", "_law_found", "_law_k", "_law_c", "_law_place"] ["_law_box_here", "_law_many"] (qak qfZ):=⟨rfl,rfl,rfl,by decide +kernel,rfl,by decide +kernel,by decide +kernel⟩
theorem qlN (F:Fun K "_law_rising" "_law_rising" qfZ f fd) (B:Bl K mg) (c_l_number:Cal P w K mg base 2 "_law_number" ["_law_box_here"] (qbB K)):FnOk P w K mg base CX0 3 f fd ["_law_box_here", "_law_many"] (qc6 K):=by
  refine F.ok sc_l_rising (fun vs H Q E h=>?_) (fun cdv A outer s H vs Q E hr h=>?_)
  · obtain ⟨_,_,_,rfl,_⟩:=h
    rfl
  have nd:=sc_l_rising.nd
  have hu:=hr.units0
  have hu64:=hr.units
  exact ⟨qiE K,(qad (qal (i:=2) nd rfl (Or.inl rfl) (qcK qac))
    (qad (qcb PassesOwn.never rfl (qd9 rfl B.range (qaa (pv 1) qac)) (qaD (i:=3) nd rfl (Or.inl rfl)) (qad (qal (i:=4) nd rfl (Or.inr rfl) (c_l_number.pe hr (by decide) rfl (qaa (pv 0) qac)))
    (qah (qbM (PW.pt (qgm (qau qgz (qaz qap (pv 4) qae (fun _ _=>rfl)) qae (nomark _)) (qd8 (qau (qot hu64) (pv 4) (pv 2) rfl)))) (qad (qal (i:=5) nd rfl (Or.inl rfl) (qat qaN rfl B.len qbc (qaa (qmc (N:=["_law_one", "_law_c"]) (capt:=[none,some 4]) rfl (BlkOk.of rfl rfl rfl rfl (List.forall_mem_singleton.mpr rfl) rfl rfl rfl) (qb3 (pv 2)) (fun _ _ _ _=>(qaD (i:=0) (show (["_law_one", "_law_c"]:List PySem.Str).Nodup by decide +kernel) rfl (Or.inl rfl))) (fun _ _ _ _=>(qau qh4 (qam qaW (qaz qap (pv 0) qae (fun _ _=>rfl)) (qaz qap (pv 1) qae (fun _ _=>rfl))) (qam qaW (qaz qap (pv 1) qae (fun _ _=>rfl)) (qaz qap (pv 0) qae (fun _ _=>rfl))) (nomark _))) (fun _ _ _ _=>(pv 0))) qac)))
    (qah (qiP (qmQ PySem.F.plainAttrs_list PySem.F.slot_list_insert PySem.F.type_list_insert qov (pv 2) (qaa (pv 5) (qaa (pv 4) qac)))))) qaV))))
    (qah (qax (pv 2))))),qlF h⟩
theorem sc_l_form:FnScope ["_law_box_here", "_law_bottom", "_law_kr", "_law_left", "_law_logs", "_law_c", "_law_v"] ["_law_box_here"] (qak qi0):=⟨rfl,rfl,rfl,by decide +kernel,rfl,by decide +kernel,by decide +kernel⟩
theorem qpC (F:Fun K "_law_form" "_law_form" qi0 f fd) (B:Bl K mg) (c_l_poly:Cal P w K mg base 3 "_law_poly" ["_law_box_here", "_law_most"] (qcs K)) (c_l_take:Cal P w K mg base 1 "_law_take" ["_law_box_here", "_law_many"] (qaO K)) (c_fraction:Cal P w K mg base 9 "fraction" ["P", "Q"] (qbZ K)) (c_l_lowest:Cal P w K mg base 1 "_law_lowest" ["_law_top", "_law_bottom"] (qa1 K)) (c_l_rising:Cal P w K mg base 3 "_law_rising" ["_law_box_here", "_law_many"] (qc6 K)) (c_l_multiplied:Cal P w K mg base 3 "_law_multiplied" ["_law_kp", "_law_kq"] (qbj K)):FnOk P w K mg base CX0 10 f fd ["_law_box_here"] (qem K):=by
  refine F.ok sc_l_form (fun vs H Q E h=>?_) (fun cdv A outer s H vs Q E hr h=>?_)
  · obtain ⟨_,_,rfl,_⟩:=h
    rfl
  have nd:=sc_l_form.nd
  have hu:=hr.units0
  have hu64:=hr.units
  exact ⟨qmo K,(qad (qal (i:=1) nd rfl (Or.inl rfl) (c_l_poly.pe hr (by decide) rfl (qaa (pv 0) (qaa qae qac))))
    (qad (qbM (PW.pt (qpK (qau (qma hu64) (pv 1) (qa5 qac) (nomark _)) (qnA (qau qcN (c_l_take.pe hr (by decide) rfl (qaa (pv 0) (qaa qae qac))) qae (nomark _))))) (qah (qal (i:=1) nd rfl (Or.inl rfl) (qa5 (qaa (qa5 (qaa qae (qaa qae qac))) qac)))) qaV)
    (qad (qal (i:=2) nd rfl (Or.inl rfl) (c_fraction.pe hr (by decide) rfl (qaa (c_l_poly.pe hr (by decide) rfl (qaa (pv 0) (qaa qae qac))) (qaa (pv 1) qac))))
    (qad (qal (i:=3) nd rfl (Or.inl rfl) (qam qsQ (qcf (N:=["_law_p"]) (capt:=[none]) rfl (BlkOk.of rfl rfl rfl rfl (fun _ h=>nomatch h) rfl rfl rfl) (qnF rfl B.range (qaa (qcM qbE qae) (qaa qae qac))) (fun _ _ _ _=>(qaD (i:=0) (show (["_law_p"]:List PySem.Str).Nodup by decide +kernel) rfl (Or.inl rfl))) (fun _ _ _ _=>(qa5 (qaa (c_l_lowest.pe hr (by decide) rfl (qaa (qcM qbE (pv 0)) (qaa qae qac))) (qaa (qa5 (qaa qae (qaa qae qac))) qac))))) (qcf (N:=["_law_k"]) (capt:=[none]) rfl (BlkOk.of rfl rfl rfl rfl (fun _ h=>nomatch h) rfl rfl rfl) (qgV (qa5 (qaa qae (qaa qae (qaa qae qac))))) (fun _ _ _ _=>(qaD (i:=0) (show (["_law_k"]:List PySem.Str).Nodup by decide +kernel) rfl (Or.inl rfl))) (fun _ _ _ _=>(qa5 (qaa (qa5 (qaa (pv 0) (qaa qae qac))) (qaa (qa5 (qaa qae (qaa qae qac))) (qaa (qa5 (qaa qae (qaa qae qac))) qac))))))))
    (qad (qal (i:=4) nd rfl (Or.inl rfl) (qcK qac))
    (qad (qcb PassesOwn.never rfl (qb3 (c_l_rising.pe hr (by decide) rfl (qaa (pv 0) (qaa (c_l_take.pe hr (by decide) rfl (qaa (pv 0) (qaa qae qac))) qac)))) (qaD (i:=5) nd rfl (Or.inl rfl)) (qad (qal (i:=6) nd rfl (Or.inl rfl) (qmQ PySem.F.plainAttrs_list PySem.F.slot_list_pop PySem.F.type_list_pop qow (pv 3) (qaa (c_l_take.pe hr (by decide) rfl (qaa (pv 0) (qaa (qat qaN rfl B.len qbc (qaa (pv 3) qac)) qac))) qac)))
    (qad (qbM (qau qcN (c_l_take.pe hr (by decide) rfl (qaa (pv 0) (qaa qae qac))) qae (nomark _)) (qah (qal (i:=6) nd rfl (Or.inl rfl) (c_l_multiplied.pe hr (by decide) rfl (qaa (pv 6) (qaa (qmQ PySem.F.plainAttrs_list PySem.F.slot_list_pop PySem.F.type_list_pop qow (pv 3) (qaa (c_l_take.pe hr (by decide) rfl (qaa (pv 0) (qaa (qat qaN rfl B.len qbc (qaa (pv 3) qac)) qac))) qac)) qac))))) qaV)
    (qah (qiP (qmQ PySem.F.plainAttrs_list PySem.F.slot_list_append PySem.F.type_list_append qj4 (pv 4) (qaa (qa5 (qaa (pv 5) (qaa (pv 6) qac))) qac)))))))
    (qah (qax (qa5 (qaa (pv 2) (qaa (qbg qhc rfl B.tuple qi3 (qaa (pv 4) qac)) qac))))))))))),qpv h⟩
theorem sc_law:FnScope ["_law_script", "_law_k", "_law_kr", "_law_logs", "_law_due", "_law_found"] ["_law_script"] (qak qmR):=⟨rfl,rfl,rfl,by decide +kernel,rfl,by decide +kernel,by decide +kernel⟩
theorem qtB (F:Fun K "law" "law" qmR f fd) (B:Bl K mg) (c_l_box:Cal P w K mg base 1 "_law_box" ["_law_script", "_law_k"] (qdS K)) (c_l_form:Cal P w K mg base 10 "_law_form" ["_law_box_here"] (qem K)) (c_l_fraction_text:Cal P w K mg base 3 "_law_fraction_text" ["_law_kf"] (qbp K)) (c_l_poly_text:Cal P w K mg base 2 "_law_poly_text" ["_law_kp"] (qa8 K)) (c_l_logs_text:Cal P w K mg base 2 "_law_logs_text" ["_law_first", "_law_nought", "_law_logs"] (qbs K)) (c_show_form:Cal P w K mg base 7 "show_form" ["form"] (qb1 K)):FnOk P w K mg base CX0 11 f fd ["_law_script"] (qkm K):=by
  refine F.ok sc_law (fun vs H Q E h=>?_) (fun cdv A outer s H vs Q E hr h=>?_)
  · obtain ⟨_,_,rfl,_⟩:=h
    rfl
  have nd:=sc_law.nd
  have hu:=hr.units0
  have hu64:=hr.units
  exact ⟨qrQ K,(qad (qcb PassesOwn.never rfl (qd9 rfl B.range (qaa (qat (qfh rfl) rfl B.max ql2 (qaa qae (qaa (qat (qkb rfl) rfl B.min qn5 (qaa (qat qg9 rfl B.len qbc (qaa (pv 0) qac)) (qaa qae qac))) qac))) qac)) (qaD (i:=1) nd rfl (Or.inl rfl)) (qad (qgn (c_l_form.pe hr (by decide) rfl (qaa (c_l_box.pe hr (by decide) rfl (qaa (pv 0) (qaa (pv 1) qac))) qac)) (qdw rfl (qa9 (qaD (i:=2) nd rfl (Or.inl rfl)) (qa9 (qaD (i:=3) nd rfl (Or.inl rfl)) qdq))))
    (qad (qal (i:=4) nd rfl (Or.inl rfl) (c_l_logs_text.pe hr (by decide) rfl (qaa (c_l_fraction_text.pe hr (by decide) rfl (qaa (pv 2) qac)) (qaa (qdF (qma hu64) (qaz qap (pv 2) qae (fun _ _=>rfl)) (qa5 qac) (nomark _)) (qaa (qcf (N:=["_law_c", "_law_v"]) (capt:=[none,none]) rfl (BlkOk.of rfl rfl rfl rfl (fun _ h=>nomatch h) rfl rfl rfl) (qgV (pv 3)) (fun _ _ _ _=>(qdw rfl (qa9 (qaD (i:=0) (show (["_law_c", "_law_v"]:List PySem.Str).Nodup by decide +kernel) rfl (Or.inl rfl)) (qa9 (qaD (i:=1) (show (["_law_c", "_law_v"]:List PySem.Str).Nodup by decide +kernel) rfl (Or.inl rfl)) qdq)))) (fun _ _ _ _=>(qa5 (qaa (pv 0) (qaa (c_l_poly_text.pe hr (by decide) rfl (qaa (pv 1) qac)) qac))))) qac)))))
    (qad (qal (i:=5) nd rfl (Or.inl rfl) (c_show_form.pe hr (by decide) rfl (qaa (qa5 (qaa (pv 2) (qaa (pv 3) qac))) qac)))
    (qah (qbM (PW.pt (qpK (qqH (qlT (qat qor rfl B.isinstance qi2 (qaa (pv 5) (qaa (qri rfl B.str qiz rfl) qac))))) (qpK (qau qgz (pv 5) (pv 4) (nomark _)) (qnA (qau qgz (c_show_form.pe hr (by decide) rfl (qaa (qa5 (qaa (pv 2) (qaa (pv 3) qac))) qac)) (pv 4) (nomark _)))))) (qah (qax qsD)) qaV))))))
    (qah (qax qsD))),qtA h⟩
end
end Bs
namespace Bs
open PySem PySem.Spec PyProof.Rows L2
set_option maxHeartbeats 4000000
open Hd
theorem qa2 {K:W.Frag} {st:Stmt} {f c:Addr} {n:Str} {pm:Value} (l:K.lookup f=some (fnO n st pm c)) (e:PySem.W.codeIn K (.ref c) n=true) (k:PySem.W.keepIn K (.ref f)=true):Fun K n n st f (PySem.W.fnOf n n (qeV st) (qec st) (qak st) .none .none .none pm none (.ref c) .none):=qsR (st:=st) l e k
theorem qaF {P:Program} {K:W.Frag} {w:World} {h base:Heap} {mg:Str→Option Value} {k:Nat} {f:Addr} {fd:FuncData} {n:Str} {ps:List Str} {sp:Sp} (X:K.In h) (G:h.Ns mainGlobals mg) (ok:FnOk P w K mg base CX0 k f fd ps sp) (b:Binds K fd ps []) (e:PySem.W.keepIn K (.ref f)=true) (a:PySem.W.nsIn K mainGlobals n=some (some (.ref f))):Cal P w K mg base k n ps sp:=⟨f,fd,ok,b,e,PySem.W.mg_of X G a⟩
theorem qjR:∀ us:List Value,us.length=1→∃ x0,us=[x0]
  | [x0],_=>⟨x0,rfl⟩
theorem qeI:∀ us:List Value,us.length=2→∃ x0 x1,us=[x0,x1]
  | [x0,x1],_=>⟨x0,x1,rfl⟩
theorem qtC:∀ us:List Value,us.length=3→∃ x0 x1 x2,us=[x0,x1,x2]
  | [x0,x1,x2],_=>⟨x0,x1,x2,rfl⟩
theorem quL:∀ us:List Value,us.length=5→∃ x0 x1 x2 x3 x4,us=[x0,x1,x2,x3,x4]
  | [x0,x1,x2,x3,x4],_=>⟨x0,x1,x2,x3,x4,rfl⟩
section
variable {P:Program} {w:World} {mg:Str→Option Value} {base h:Heap}
theorem qbl (X:(hp w.params).In h) (G:h.Ns mainGlobals mg) (B:Bl (hp w.params) mg):Cal P w (hp w.params) mg base 1 "common_divisor" ["one", "other"] (qas (hp w.params)):=by
  have F:=qa2 (K:=hp w.params) (st:=qcC) (f:=22) (c:=21) (n := "common_divisor") (pm:=mo0) (by kernel_rfl) (by kernel_rfl) (by kernel_rfl)
  exact qaF X G (qgi F B ) (F.binds fun _ _ _ _ _ _ us hl=>by obtain ⟨_,_,rfl⟩:=qeI us hl;rfl) (by kernel_rfl) (by kernel_rfl)
theorem qmI (X:(hp w.params).In h) (G:h.Ns mainGlobals mg) (B:Bl (hp w.params) mg):Cal P w (hp w.params) mg base 1 "raised" ["whole", "n"] (qb8 (hp w.params)):=by
  have F:=qa2 (K:=hp w.params) (st:=qiU) (f:=29) (c:=28) (n := "raised") (pm:=mo0) (by kernel_rfl) (by kernel_rfl) (by kernel_rfl)
  exact qaF X G (qpw F B ) (F.binds fun _ _ _ _ _ _ us hl=>by obtain ⟨_,_,rfl⟩:=qeI us hl;rfl) (by kernel_rfl) (by kernel_rfl)
theorem qdZ (X:(hp w.params).In h) (G:h.Ns mainGlobals mg) (B:Bl (hp w.params) mg):Cal P w (hp w.params) mg base 1 "row_trimmed" ["row"] (qaU (hp w.params)):=by
  have F:=qa2 (K:=hp w.params) (st:=qdG) (f:=41) (c:=40) (n := "row_trimmed") (pm:=mo0) (by kernel_rfl) (by kernel_rfl) (by kernel_rfl)
  exact qaF X G (qif F B ) (F.binds fun _ _ _ _ _ _ us hl=>by obtain ⟨_,rfl⟩:=qjR us hl;rfl) (by kernel_rfl) (by kernel_rfl)
theorem qgx (X:(hp w.params).In h) (G:h.Ns mainGlobals mg) (B:Bl (hp w.params) mg):Cal P w (hp w.params) mg base 1 "row_parted" ["row", "divisor"] (qbe (hp w.params)):=by
  have F:=qa2 (K:=hp w.params) (st:=qed) (f:=46) (c:=45) (n := "row_parted") (pm:=mo0) (by kernel_rfl) (by kernel_rfl) (by kernel_rfl)
  exact qaF X G (qjG F B ) (F.binds fun _ _ _ _ _ _ us hl=>by obtain ⟨_,_,rfl⟩:=qeI us hl;rfl) (by kernel_rfl) (by kernel_rfl)
theorem qno (X:(hp w.params).In h) (G:h.Ns mainGlobals mg) (B:Bl (hp w.params) mg):Cal P w (hp w.params) mg base 1 "row_over" ["row", "divisor"] (qbG (hp w.params)):=by
  have F:=qa2 (K:=hp w.params) (st:=qfS) (f:=53) (c:=52) (n := "row_over") (pm:=mo0) (by kernel_rfl) (by kernel_rfl) (by kernel_rfl)
  exact qaF X G (qlG F B ) (F.binds fun _ _ _ _ _ _ us hl=>by obtain ⟨_,_,rfl⟩:=qeI us hl;rfl) (by kernel_rfl) (by kernel_rfl)
theorem qgM (X:(hp w.params).In h) (G:h.Ns mainGlobals mg) (B:Bl (hp w.params) mg):Cal P w (hp w.params) mg base 1 "inverse_modulo" ["whole", "prime"] (qa6 (hp w.params)):=by
  have F:=qa2 (K:=hp w.params) (st:=qcD) (f:=89) (c:=88) (n := "inverse_modulo") (pm:=mo0) (by kernel_rfl) (by kernel_rfl) (by kernel_rfl)
  exact qaF X G (qgj F B ) (F.binds fun _ _ _ _ _ _ us hl=>by obtain ⟨_,_,rfl⟩:=qeI us hl;rfl) (by kernel_rfl) (by kernel_rfl)
theorem qil (X:(hp w.params).In h) (G:h.Ns mainGlobals mg) (B:Bl (hp w.params) mg):Cal P w (hp w.params) mg base 1 "rests_modulo" ["row", "prime"] (qbh (hp w.params)):=by
  have F:=qa2 (K:=hp w.params) (st:=qdr) (f:=94) (c:=93) (n := "rests_modulo") (pm:=mo0) (by kernel_rfl) (by kernel_rfl) (by kernel_rfl)
  exact qaF X G (qhV F B ) (F.binds fun _ _ _ _ _ _ us hl=>by obtain ⟨_,_,rfl⟩:=qeI us hl;rfl) (by kernel_rfl) (by kernel_rfl)
theorem qpD (X:(hp w.params).In h) (G:h.Ns mainGlobals mg) (B:Bl (hp w.params) mg):Cal P w (hp w.params) mg base 1 "nearest" ["whole", "prime"] (qcj (hp w.params)):=by
  have F:=qa2 (K:=hp w.params) (st:=qg2) (f:=134) (c:=133) (n := "nearest") (pm:=mo0) (by kernel_rfl) (by kernel_rfl) (by kernel_rfl)
  exact qaF X G (qnk F B ) (F.binds fun _ _ _ _ _ _ us hl=>by obtain ⟨_,_,rfl⟩:=qeI us hl;rfl) (by kernel_rfl) (by kernel_rfl)
theorem qkQ (X:(hp w.params).In h) (G:h.Ns mainGlobals mg) (B:Bl (hp w.params) mg):Cal P w (hp w.params) mg base 1 "size_of" ["one"] (qbQ (hp w.params)):=by
  have F:=qa2 (K:=hp w.params) (st:=qg3) (f:=174) (c:=173) (n := "size_of") (pm:=mo1) (by kernel_rfl) (by kernel_rfl) (by kernel_rfl)
  exact qaF X G (qnl F B ) (F.binds fun _ _ _ _ _ _ us hl=>by obtain ⟨_,rfl⟩:=qjR us hl;rfl) (by kernel_rfl) (by kernel_rfl)
theorem qpE (X:(hp w.params).In h) (G:h.Ns mainGlobals mg) (B:Bl (hp w.params) mg):Cal P w (hp w.params) mg base 1 "poly" ["row"] (qcG (hp w.params)):=by
  have F:=qa2 (K:=hp w.params) (st:=qnX) (f:=181) (c:=180) (n := "poly") (pm:=mo2) (by kernel_rfl) (by kernel_rfl) (by kernel_rfl)
  exact qaF X G (qsr F B ) (F.binds fun _ _ _ _ _ _ us hl=>by obtain ⟨_,rfl⟩:=qjR us hl;rfl) (by kernel_rfl) (by kernel_rfl)
theorem qqC (X:(hp w.params).In h) (G:h.Ns mainGlobals mg) (B:Bl (hp w.params) mg):Cal P w (hp w.params) mg base 1 "degree" ["P"] (qc5 (hp w.params)):=by
  have F:=qa2 (K:=hp w.params) (st:=qiV) (f:=188) (c:=187) (n := "degree") (pm:=mo2) (by kernel_rfl) (by kernel_rfl) (by kernel_rfl)
  exact qaF X G (qpx F B ) (F.binds fun _ _ _ _ _ _ us hl=>by obtain ⟨_,rfl⟩:=qjR us hl;rfl) (by kernel_rfl) (by kernel_rfl)
theorem qpF (X:(hp w.params).In h) (G:h.Ns mainGlobals mg) (B:Bl (hp w.params) mg):Cal P w (hp w.params) mg base 1 "joint" ["number", "is_first"] (qcS (hp w.params)):=by
  have F:=qa2 (K:=hp w.params) (st:=qk4) (f:=266) (c:=265) (n := "joint") (pm:=mo4) (by kernel_rfl) (by kernel_rfl) (by kernel_rfl)
  exact qaF X G (qqz F B ) (F.binds fun _ _ _ _ _ _ us hl=>by obtain ⟨_,_,rfl⟩:=qeI us hl;rfl) (by kernel_rfl) (by kernel_rfl)
theorem qst (X:(hp w.params).In h) (G:h.Ns mainGlobals mg) (B:Bl (hp w.params) mg):Cal P w (hp w.params) mg base 1 "_law_box" ["_law_script", "_law_k"] (qdS (hp w.params)):=by
  have F:=qa2 (K:=hp w.params) (st:=qk5) (f:=299) (c:=298) (n := "_law_box") (pm:=mo6) (by kernel_rfl) (by kernel_rfl) (by kernel_rfl)
  exact qaF X G (qqA F B ) (F.binds fun _ _ _ _ _ _ us hl=>by obtain ⟨_,_,rfl⟩:=qeI us hl;rfl) (by kernel_rfl) (by kernel_rfl)
theorem qjK (X:(hp w.params).In h) (G:h.Ns mainGlobals mg) (B:Bl (hp w.params) mg):Cal P w (hp w.params) mg base 1 "_law_take" ["_law_box_here", "_law_many"] (qaO (hp w.params)):=by
  have F:=qa2 (K:=hp w.params) (st:=qiY) (f:=306) (c:=305) (n := "_law_take") (pm:=mo6) (by kernel_rfl) (by kernel_rfl) (by kernel_rfl)
  exact qaF X G (qpA F B ) (F.binds fun _ _ _ _ _ _ us hl=>by obtain ⟨_,_,rfl⟩:=qeI us hl;rfl) (by kernel_rfl) (by kernel_rfl)
theorem qeJ (X:(hp w.params).In h) (G:h.Ns mainGlobals mg) (B:Bl (hp w.params) mg):Cal P w (hp w.params) mg base 1 "_law_lowest" ["_law_top", "_law_bottom"] (qa1 (hp w.params)):=by
  have F:=qa2 (K:=hp w.params) (st:=qfX) (f:=313) (c:=312) (n := "_law_lowest") (pm:=mo6) (by kernel_rfl) (by kernel_rfl) (by kernel_rfl)
  exact qaF X G (qlL F B ) (F.binds fun _ _ _ _ _ _ us hl=>by obtain ⟨_,_,rfl⟩:=qeI us hl;rfl) (by kernel_rfl) (by kernel_rfl)
theorem qhZ (X:(hp w.params).In h) (G:h.Ns mainGlobals mg) (B:Bl (hp w.params) mg):Cal P w (hp w.params) mg base 1 "_law_poly_of" ["_law_row"] (qbJ (hp w.params)):=by
  have F:=qa2 (K:=hp w.params) (st:=qe2) (f:=341) (c:=340) (n := "_law_poly_of") (pm:=mo6) (by kernel_rfl) (by kernel_rfl) (by kernel_rfl)
  exact qaF X G (qkP F B ) (F.binds fun _ _ _ _ _ _ us hl=>by obtain ⟨_,rfl⟩:=qjR us hl;rfl) (by kernel_rfl) (by kernel_rfl)
theorem qey (X:(hp w.params).In h) (G:h.Ns mainGlobals mg) (B:Bl (hp w.params) mg):Cal P w (hp w.params) mg base 1 "_law_number_text" ["_law_c"] (qbb (hp w.params)):=by
  have F:=qa2 (K:=hp w.params) (st:=qc0) (f:=360) (c:=359) (n := "_law_number_text") (pm:=mo6) (by kernel_rfl) (by kernel_rfl) (by kernel_rfl)
  exact qaF X G (qgL F B ) (F.binds fun _ _ _ _ _ _ us hl=>by obtain ⟨_,rfl⟩:=qjR us hl;rfl) (by kernel_rfl) (by kernel_rfl)
theorem qkR (X:(hp w.params).In h) (G:h.Ns mainGlobals mg) (B:Bl (hp w.params) mg):Cal P w (hp w.params) mg base 2 "content" ["row", "start"] (qbO (hp w.params)):=by
  have F:=qa2 (K:=hp w.params) (st:=qg1) (f:=34) (c:=33) (n := "content") (pm:=mo0) (by kernel_rfl) (by kernel_rfl) (by kernel_rfl)
  exact qaF X G (qnj F B (qbl X G B)) (F.binds fun _ _ _ _ _ _ us hl=>by obtain ⟨_,_,rfl⟩:=qeI us hl;rfl) (by kernel_rfl) (by kernel_rfl)
theorem qiN (X:(hp w.params).In h) (G:h.Ns mainGlobals mg) (B:Bl (hp w.params) mg):Cal P w (hp w.params) mg base 2 "row_less" ["row", "factor", "other", "weight", "shift"] (qbz (hp w.params)):=by
  have F:=qa2 (K:=hp w.params) (st:=qfT) (f:=58) (c:=57) (n := "row_less") (pm:=mo0) (by kernel_rfl) (by kernel_rfl) (by kernel_rfl)
  exact qaF X G (qlH F B (qdZ X G B)) (F.binds fun _ _ _ _ _ _ us hl=>by obtain ⟨_,_,_,_,_,rfl⟩:=quL us hl;rfl) (by kernel_rfl) (by kernel_rfl)
theorem qgy (X:(hp w.params).In h) (G:h.Ns mainGlobals mg) (B:Bl (hp w.params) mg):Cal P w (hp w.params) mg base 2 "row_modulo" ["row", "prime"] (qa7 (hp w.params)):=by
  have F:=qa2 (K:=hp w.params) (st:=qee) (f:=101) (c:=100) (n := "row_modulo") (pm:=mo0) (by kernel_rfl) (by kernel_rfl) (by kernel_rfl)
  exact qaF X G (qjH F B (qil X G B) (qdZ X G B)) (F.binds fun _ _ _ _ _ _ us hl=>by obtain ⟨_,_,rfl⟩:=qeI us hl;rfl) (by kernel_rfl) (by kernel_rfl)
theorem qim (X:(hp w.params).In h) (G:h.Ns mainGlobals mg) (B:Bl (hp w.params) mg):Cal P w (hp w.params) mg base 2 "monic_modulo" ["row", "prime"] (qaZ (hp w.params)):=by
  have F:=qa2 (K:=hp w.params) (st:=qds) (f:=106) (c:=105) (n := "monic_modulo") (pm:=mo0) (by kernel_rfl) (by kernel_rfl) (by kernel_rfl)
  exact qaF X G (qhW F B (qgM X G B)) (F.binds fun _ _ _ _ _ _ us hl=>by obtain ⟨_,_,rfl⟩:=qeI us hl;rfl) (by kernel_rfl) (by kernel_rfl)
theorem qjL (X:(hp w.params).In h) (G:h.Ns mainGlobals mg) (B:Bl (hp w.params) mg):Cal P w (hp w.params) mg base 2 "ratio" ["top", "bottom"] (qbP (hp w.params)):=by
  have F:=qa2 (K:=hp w.params) (st:=qk2) (f:=153) (c:=152) (n := "ratio") (pm:=mo1) (by kernel_rfl) (by kernel_rfl) (by kernel_rfl)
  exact qaF X G (qqx F B (qbl X G B)) (F.binds fun _ _ _ _ _ _ us hl=>by obtain ⟨_,_,rfl⟩:=qeI us hl;rfl) (by kernel_rfl) (by kernel_rfl)
theorem qkS (X:(hp w.params).In h) (G:h.Ns mainGlobals mg) (B:Bl (hp w.params) mg):Cal P w (hp w.params) mg base 2 "cleared" ["P"] (qbv (hp w.params)):=by
  have F:=qa2 (K:=hp w.params) (st:=qg4) (f:=193) (c:=192) (n := "cleared") (pm:=mo2) (by kernel_rfl) (by kernel_rfl) (by kernel_rfl)
  exact qaF X G (qnm F B (qbl X G B)) (F.binds fun _ _ _ _ _ _ us hl=>by obtain ⟨_,rfl⟩:=qjR us hl;rfl) (by kernel_rfl) (by kernel_rfl)
theorem qkT (X:(hp w.params).In h) (G:h.Ns mainGlobals mg) (B:Bl (hp w.params) mg):Cal P w (hp w.params) mg base 2 "show_whole" ["whole"] (qbn (hp w.params)):=by
  have F:=qa2 (K:=hp w.params) (st:=qeg) (f:=252) (c:=251) (n := "show_whole") (pm:=mo4) (by kernel_rfl) (by kernel_rfl) (by kernel_rfl)
  exact qaF X G (qjJ F B (qmI X G B)) (F.binds fun _ _ _ _ _ _ us hl=>by obtain ⟨_,rfl⟩:=qjR us hl;rfl) (by kernel_rfl) (by kernel_rfl)
theorem qiO (X:(hp w.params).In h) (G:h.Ns mainGlobals mg) (B:Bl (hp w.params) mg):Cal P w (hp w.params) mg base 2 "_law_number" ["_law_box_here"] (qbB (hp w.params)):=by
  have F:=qa2 (K:=hp w.params) (st:=qfY) (f:=320) (c:=319) (n := "_law_number") (pm:=mo6) (by kernel_rfl) (by kernel_rfl) (by kernel_rfl)
  exact qaF X G (qlM F B (qjK X G B) (qeJ X G B)) (F.binds fun _ _ _ _ _ _ us hl=>by obtain ⟨_,rfl⟩:=qjR us hl;rfl) (by kernel_rfl) (by kernel_rfl)
theorem qsu (X:(hp w.params).In h) (G:h.Ns mainGlobals mg) (B:Bl (hp w.params) mg):Cal P w (hp w.params) mg base 2 "_law_sum" ["_law_one", "_law_other"] (qfo (hp w.params)):=by
  have F:=qa2 (K:=hp w.params) (st:=qk6) (f:=327) (c:=326) (n := "_law_sum") (pm:=mo6) (by kernel_rfl) (by kernel_rfl) (by kernel_rfl)
  exact qaF X G (qqB F B (qeJ X G B)) (F.binds fun _ _ _ _ _ _ us hl=>by obtain ⟨_,_,rfl⟩:=qeI us hl;rfl) (by kernel_rfl) (by kernel_rfl)
theorem qlO (X:(hp w.params).In h) (G:h.Ns mainGlobals mg) (B:Bl (hp w.params) mg):Cal P w (hp w.params) mg base 2 "_law_product" ["_law_one", "_law_other"] (qcr (hp w.params)):=by
  have F:=qa2 (K:=hp w.params) (st:=qe1) (f:=334) (c:=333) (n := "_law_product") (pm:=mo6) (by kernel_rfl) (by kernel_rfl) (by kernel_rfl)
  exact qaF X G (qkO F B (qeJ X G B)) (F.binds fun _ _ _ _ _ _ us hl=>by obtain ⟨_,_,rfl⟩:=qeI us hl;rfl) (by kernel_rfl) (by kernel_rfl)
theorem qfO (X:(hp w.params).In h) (G:h.Ns mainGlobals mg) (B:Bl (hp w.params) mg):Cal P w (hp w.params) mg base 2 "_law_poly_text" ["_law_kp"] (qa8 (hp w.params)):=by
  have F:=qa2 (K:=hp w.params) (st:=qdK) (f:=367) (c:=366) (n := "_law_poly_text") (pm:=mo6) (by kernel_rfl) (by kernel_rfl) (by kernel_rfl)
  exact qaF X G (qij F B (qey X G B)) (F.binds fun _ _ _ _ _ _ us hl=>by obtain ⟨_,rfl⟩:=qjR us hl;rfl) (by kernel_rfl) (by kernel_rfl)
theorem qjM (X:(hp w.params).In h) (G:h.Ns mainGlobals mg) (B:Bl (hp w.params) mg):Cal P w (hp w.params) mg base 2 "_law_logs_text" ["_law_first", "_law_nought", "_law_logs"] (qbs (hp w.params)):=by
  have F:=qa2 (K:=hp w.params) (st:=qdL) (f:=381) (c:=380) (n := "_law_logs_text") (pm:=mo6) (by kernel_rfl) (by kernel_rfl) (by kernel_rfl)
  exact qaF X G (qik F B (qey X G B)) (F.binds fun _ _ _ _ _ _ us hl=>by obtain ⟨_,_,_,rfl⟩:=qtC us hl;rfl) (by kernel_rfl) (by kernel_rfl)
theorem qdp (X:(hp w.params).In h) (G:h.Ns mainGlobals mg) (B:Bl (hp w.params) mg):Cal P w (hp w.params) mg base 3 "strand_shortened" ["strand"] (qaJ (hp w.params)):=by
  have F:=qa2 (K:=hp w.params) (st:=qb4) (f:=68) (c:=67) (n := "strand_shortened") (pm:=mo0) (by kernel_rfl) (by kernel_rfl) (by kernel_rfl)
  exact qaF X G (qfd F B (qkR X G B) (qgx X G B)) (F.binds fun _ _ _ _ _ _ us hl=>by obtain ⟨_,rfl⟩:=qjR us hl;rfl) (by kernel_rfl) (by kernel_rfl)
theorem qin (X:(hp w.params).In h) (G:h.Ns mainGlobals mg) (B:Bl (hp w.params) mg):Cal P w (hp w.params) mg base 3 "split_modulo" ["row", "divisor", "modulus"] (qbi (hp w.params)):=by
  have F:=qa2 (K:=hp w.params) (st:=qdt) (f:=113) (c:=112) (n := "split_modulo") (pm:=mo0) (by kernel_rfl) (by kernel_rfl) (by kernel_rfl)
  exact qaF X G (qhX F B (qdZ X G B) (qgy X G B)) (F.binds fun _ _ _ _ _ _ us hl=>by obtain ⟨_,_,_,rfl⟩:=qtC us hl;rfl) (by kernel_rfl) (by kernel_rfl)
theorem qsv (X:(hp w.params).In h) (G:h.Ns mainGlobals mg) (B:Bl (hp w.params) mg):Cal P w (hp w.params) mg base 3 "times" ["one", "other"] (qfn (hp w.params)):=by
  have F:=qa2 (K:=hp w.params) (st:=qk3) (f:=160) (c:=159) (n := "times") (pm:=mo1) (by kernel_rfl) (by kernel_rfl) (by kernel_rfl)
  exact qaF X G (qqy F B (qjL X G B)) (F.binds fun _ _ _ _ _ _ us hl=>by obtain ⟨_,_,rfl⟩:=qeI us hl;rfl) (by kernel_rfl) (by kernel_rfl)
theorem qtD (X:(hp w.params).In h) (G:h.Ns mainGlobals mg) (B:Bl (hp w.params) mg):Cal P w (hp w.params) mg base 3 "over" ["one", "other"] (qe7 (hp w.params)):=by
  have F:=qa2 (K:=hp w.params) (st:=qnW) (f:=167) (c:=166) (n := "over") (pm:=mo1) (by kernel_rfl) (by kernel_rfl) (by kernel_rfl)
  exact qaF X G (qsq F B (qjL X G B)) (F.binds fun _ _ _ _ _ _ us hl=>by obtain ⟨_,_,rfl⟩:=qeI us hl;rfl) (by kernel_rfl) (by kernel_rfl)
theorem qh0 (X:(hp w.params).In h) (G:h.Ns mainGlobals mg) (B:Bl (hp w.params) mg):Cal P w (hp w.params) mg base 3 "uncleared" ["row", "bottom"] (qbm (hp w.params)):=by
  have F:=qa2 (K:=hp w.params) (st:=qeW) (f:=198) (c:=197) (n := "uncleared") (pm:=mo2) (by kernel_rfl) (by kernel_rfl) (by kernel_rfl)
  exact qaF X G (qkJ F B (qjL X G B) (qpE X G B)) (F.binds fun _ _ _ _ _ _ us hl=>by obtain ⟨_,_,rfl⟩:=qeI us hl;rfl) (by kernel_rfl) (by kernel_rfl)
theorem qfP (X:(hp w.params).In h) (G:h.Ns mainGlobals mg) (B:Bl (hp w.params) mg):Cal P w (hp w.params) mg base 3 "show_number" ["c"] (qaM (hp w.params)):=by
  have F:=qa2 (K:=hp w.params) (st:=qdJ) (f:=245) (c:=244) (n := "show_number") (pm:=mo4) (by kernel_rfl) (by kernel_rfl) (by kernel_rfl)
  exact qaF X G (qii F B (qkT X G B)) (F.binds fun _ _ _ _ _ _ us hl=>by obtain ⟨_,rfl⟩:=qjR us hl;rfl) (by kernel_rfl) (by kernel_rfl)
theorem qqD (X:(hp w.params).In h) (G:h.Ns mainGlobals mg) (B:Bl (hp w.params) mg):Cal P w (hp w.params) mg base 3 "_law_poly" ["_law_box_here", "_law_most"] (qcs (hp w.params)):=by
  have F:=qa2 (K:=hp w.params) (st:=qiZ) (f:=346) (c:=345) (n := "_law_poly") (pm:=mo6) (by kernel_rfl) (by kernel_rfl) (by kernel_rfl)
  exact qaF X G (qpB F B (qjK X G B) (qiO X G B) (qhZ X G B)) (F.binds fun _ _ _ _ _ _ us hl=>by obtain ⟨_,_,rfl⟩:=qeI us hl;rfl) (by kernel_rfl) (by kernel_rfl)
theorem qio (X:(hp w.params).In h) (G:h.Ns mainGlobals mg) (B:Bl (hp w.params) mg):Cal P w (hp w.params) mg base 3 "_law_multiplied" ["_law_kp", "_law_kq"] (qbj (hp w.params)):=by
  have F:=qa2 (K:=hp w.params) (st:=qdu) (f:=353) (c:=352) (n := "_law_multiplied") (pm:=mo6) (by kernel_rfl) (by kernel_rfl) (by kernel_rfl)
  exact qaF X G (qhY F B (qlO X G B) (qsu X G B) (qhZ X G B)) (F.binds fun _ _ _ _ _ _ us hl=>by obtain ⟨_,_,rfl⟩:=qeI us hl;rfl) (by kernel_rfl) (by kernel_rfl)
theorem qgk (X:(hp w.params).In h) (G:h.Ns mainGlobals mg) (B:Bl (hp w.params) mg):Cal P w (hp w.params) mg base 3 "_law_fraction_text" ["_law_kf"] (qbp (hp w.params)):=by
  have F:=qa2 (K:=hp w.params) (st:=qce) (f:=374) (c:=373) (n := "_law_fraction_text") (pm:=mo6) (by kernel_rfl) (by kernel_rfl) (by kernel_rfl)
  exact qaF X G (qfN F B (qfO X G B)) (F.binds fun _ _ _ _ _ _ us hl=>by obtain ⟨_,rfl⟩:=qjR us hl;rfl) (by kernel_rfl) (by kernel_rfl)
theorem qnp (X:(hp w.params).In h) (G:h.Ns mainGlobals mg) (B:Bl (hp w.params) mg):Cal P w (hp w.params) mg base 3 "_law_rising" ["_law_box_here", "_law_many"] (qc6 (hp w.params)):=by
  have F:=qa2 (K:=hp w.params) (st:=qfZ) (f:=386) (c:=385) (n := "_law_rising") (pm:=mo6) (by kernel_rfl) (by kernel_rfl) (by kernel_rfl)
  exact qaF X G (qlN F B (qiO X G B)) (F.binds fun _ _ _ _ _ _ us hl=>by obtain ⟨_,_,rfl⟩:=qeI us hl;rfl) (by kernel_rfl) (by kernel_rfl)
theorem qjN (X:(hp w.params).In h) (G:h.Ns mainGlobals mg) (B:Bl (hp w.params) mg):Cal P w (hp w.params) mg base 4 "strand_rest" ["strand", "other"] (qbq (hp w.params)):=by
  have F:=qa2 (K:=hp w.params) (st:=qdH) (f:=63) (c:=62) (n := "strand_rest") (pm:=mo0) (by kernel_rfl) (by kernel_rfl) (by kernel_rfl)
  exact qaF X G (qig F B (qbl X G B) (qiN X G B) (qdp X G B)) (F.binds fun _ _ _ _ _ _ us hl=>by obtain ⟨_,_,rfl⟩:=qeI us hl;rfl) (by kernel_rfl) (by kernel_rfl)
theorem qez (X:(hp w.params).In h) (G:h.Ns mainGlobals mg) (B:Bl (hp w.params) mg):Cal P w (hp w.params) mg base 4 "row_shortened" ["row"] (qaL (hp w.params)):=by
  have F:=qa2 (K:=hp w.params) (st:=qcX) (f:=75) (c:=74) (n := "row_shortened") (pm:=mo0) (by kernel_rfl) (by kernel_rfl) (by kernel_rfl)
  exact qaF X G (qgI F B (qdp X G B)) (F.binds fun _ _ _ _ _ _ us hl=>by obtain ⟨_,rfl⟩:=qjR us hl;rfl) (by kernel_rfl) (by kernel_rfl)
theorem qjO (X:(hp w.params).In h) (G:h.Ns mainGlobals mg) (B:Bl (hp w.params) mg):Cal P w (hp w.params) mg base 4 "rest_modulo" ["row", "divisor", "modulus"] (qbr (hp w.params)):=by
  have F:=qa2 (K:=hp w.params) (st:=qdI) (f:=120) (c:=119) (n := "rest_modulo") (pm:=mo0) (by kernel_rfl) (by kernel_rfl) (by kernel_rfl)
  exact qaF X G (qih F B (qin X G B)) (F.binds fun _ _ _ _ _ _ us hl=>by obtain ⟨_,_,_,rfl⟩:=qtC us hl;rfl) (by kernel_rfl) (by kernel_rfl)
theorem qnq (X:(hp w.params).In h) (G:h.Ns mainGlobals mg) (B:Bl (hp w.params) mg):Cal P w (hp w.params) mg base 4 "p_scaled" ["P", "c"] (qbH (hp w.params)):=by
  have F:=qa2 (K:=hp w.params) (st:=qfU) (f:=203) (c:=202) (n := "p_scaled") (pm:=mo2) (by kernel_rfl) (by kernel_rfl) (by kernel_rfl)
  exact qaF X G (qlI F B (qsv X G B) (qpE X G B)) (F.binds fun _ _ _ _ _ _ us hl=>by obtain ⟨_,_,rfl⟩:=qeI us hl;rfl) (by kernel_rfl) (by kernel_rfl)
theorem qpG (X:(hp w.params).In h) (G:h.Ns mainGlobals mg) (B:Bl (hp w.params) mg):Cal P w (hp w.params) mg base 4 "p_split" ["P", "Q"] (qck (hp w.params)):=by
  have F:=qa2 (K:=hp w.params) (st:=qg5) (f:=210) (c:=209) (n := "p_split") (pm:=mo2) (by kernel_rfl) (by kernel_rfl) (by kernel_rfl)
  exact qaF X G (qnn F B (qkS X G B) (qjL X G B) (qbl X G B) (qiN X G B) (qkR X G B) (qgx X G B) (qpE X G B) (qh0 X G B)) (F.binds fun _ _ _ _ _ _ us hl=>by obtain ⟨_,_,rfl⟩:=qeI us hl;rfl) (by kernel_rfl) (by kernel_rfl)
theorem qlP (X:(hp w.params).In h) (G:h.Ns mainGlobals mg) (B:Bl (hp w.params) mg):Cal P w (hp w.params) mg base 4 "show_term" ["size", "n"] (qct (hp w.params)):=by
  have F:=qa2 (K:=hp w.params) (st:=qeY) (f:=273) (c:=272) (n := "show_term") (pm:=mo4) (by kernel_rfl) (by kernel_rfl) (by kernel_rfl)
  exact qaF X G (qkL F B (qfP X G B)) (F.binds fun _ _ _ _ _ _ us hl=>by obtain ⟨_,_,rfl⟩:=qeI us hl;rfl) (by kernel_rfl) (by kernel_rfl)
theorem qlQ (X:(hp w.params).In h) (G:h.Ns mainGlobals mg) (B:Bl (hp w.params) mg):Cal P w (hp w.params) mg base 4 "with_logs" ["first", "rows"] (qbK (hp w.params)):=by
  have F:=qa2 (K:=hp w.params) (st:=qe0) (f:=292) (c:=291) (n := "with_logs") (pm:=mo5) (by kernel_rfl) (by kernel_rfl) (by kernel_rfl)
  exact qaF X G (qkN F B (qpF X G B) (qkQ X G B) (qfP X G B)) (F.binds fun _ _ _ _ _ _ us hl=>by obtain ⟨_,_,rfl⟩:=qeI us hl;rfl) (by kernel_rfl) (by kernel_rfl)
theorem qh1 (X:(hp w.params).In h) (G:h.Ns mainGlobals mg) (B:Bl (hp w.params) mg):Cal P w (hp w.params) mg base 5 "strand_euclid" ["strand", "other"] (qa4 (hp w.params)):=by
  have F:=qa2 (K:=hp w.params) (st:=qcY) (f:=82) (c:=81) (n := "strand_euclid") (pm:=mo0) (by kernel_rfl) (by kernel_rfl) (by kernel_rfl)
  exact qaF X G (qgJ F B (qjN X G B)) (F.binds fun _ _ _ _ _ _ us hl=>by obtain ⟨_,_,rfl⟩:=qeI us hl;rfl) (by kernel_rfl) (by kernel_rfl)
theorem qh2 (X:(hp w.params).In h) (G:h.Ns mainGlobals mg) (B:Bl (hp w.params) mg):Cal P w (hp w.params) mg base 5 "euclid_modulo" ["row", "other", "prime"] (qba (hp w.params)):=by
  have F:=qa2 (K:=hp w.params) (st:=qcZ) (f:=127) (c:=126) (n := "euclid_modulo") (pm:=mo0) (by kernel_rfl) (by kernel_rfl) (by kernel_rfl)
  exact qaF X G (qgK F B (qgy X G B) (qim X G B) (qjO X G B)) (F.binds fun _ _ _ _ _ _ us hl=>by obtain ⟨_,_,_,rfl⟩:=qtC us hl;rfl) (by kernel_rfl) (by kernel_rfl)
theorem qqE (X:(hp w.params).In h) (G:h.Ns mainGlobals mg) (B:Bl (hp w.params) mg):Cal P w (hp w.params) mg base 5 "evened" ["P", "Q"] (qc4 (hp w.params)):=by
  have F:=qa2 (K:=hp w.params) (st:=qiX) (f:=231) (c:=230) (n := "evened") (pm:=mo3) (by kernel_rfl) (by kernel_rfl) (by kernel_rfl)
  exact qaF X G (qpz F B (qtD X G B) (qnq X G B)) (F.binds fun _ _ _ _ _ _ us hl=>by obtain ⟨_,_,rfl⟩:=qeI us hl;rfl) (by kernel_rfl) (by kernel_rfl)
theorem qnr (X:(hp w.params).In h) (G:h.Ns mainGlobals mg) (B:Bl (hp w.params) mg):Cal P w (hp w.params) mg base 5 "quotient" ["P", "Q"] (qbI (hp w.params)):=by
  have F:=qa2 (K:=hp w.params) (st:=qfW) (f:=238) (c:=237) (n := "quotient") (pm:=mo3) (by kernel_rfl) (by kernel_rfl) (by kernel_rfl)
  exact qaF X G (qlK F B (qpG X G B)) (F.binds fun _ _ _ _ _ _ us hl=>by obtain ⟨_,_,rfl⟩:=qeI us hl;rfl) (by kernel_rfl) (by kernel_rfl)
theorem qh3 (X:(hp w.params).In h) (G:h.Ns mainGlobals mg) (B:Bl (hp w.params) mg):Cal P w (hp w.params) mg base 5 "show_poly" ["P"] (qbo (hp w.params)):=by
  have F:=qa2 (K:=hp w.params) (st:=qeX) (f:=259) (c:=258) (n := "show_poly") (pm:=mo4) (by kernel_rfl) (by kernel_rfl) (by kernel_rfl)
  exact qaF X G (qkK F B (qqC X G B) (qpF X G B) (qkQ X G B) (qlP X G B)) (F.binds fun _ _ _ _ _ _ us hl=>by obtain ⟨_,rfl⟩:=qjR us hl;rfl) (by kernel_rfl) (by kernel_rfl)
theorem qgl (X:(hp w.params).In h) (G:h.Ns mainGlobals mg) (B:Bl (hp w.params) mg):Cal P w (hp w.params) mg base 6 "common_by_prime" ["row", "other", "prime"] (qa0 (hp w.params)):=by
  have F:=qa2 (K:=hp w.params) (st:=qcd) (f:=139) (c:=138) (n := "common_by_prime") (pm:=mo0) (by kernel_rfl) (by kernel_rfl) (by kernel_rfl)
  exact qaF X G (qfM F B (qbl X G B) (qh2 X G B) (qpD X G B) (qez X G B) (qno X G B)) (F.binds fun _ _ _ _ _ _ us hl=>by obtain ⟨_,_,_,rfl⟩:=qtC us hl;rfl) (by kernel_rfl) (by kernel_rfl)
theorem qtE (X:(hp w.params).In h) (G:h.Ns mainGlobals mg) (B:Bl (hp w.params) mg):Cal P w (hp w.params) mg base 6 "show" ["F"] (qf3 (hp w.params)):=by
  have F:=qa2 (K:=hp w.params) (st:=qnY) (f:=280) (c:=279) (n := "show") (pm:=mo4) (by kernel_rfl) (by kernel_rfl) (by kernel_rfl)
  exact qaF X G (qss F B (qh3 X G B)) (F.binds fun _ _ _ _ _ _ us hl=>by obtain ⟨_,rfl⟩:=qjR us hl;rfl) (by kernel_rfl) (by kernel_rfl)
theorem qkU (X:(hp w.params).In h) (G:h.Ns mainGlobals mg) (B:Bl (hp w.params) mg):Cal P w (hp w.params) mg base 7 "row_common" ["row", "other"] (qbA (hp w.params)):=by
  have F:=qa2 (K:=hp w.params) (st:=qef) (f:=146) (c:=145) (n := "row_common") (pm:=mo0) (by kernel_rfl) (by kernel_rfl) (by kernel_rfl)
  exact qaF X G (qjI F B (qez X G B) (qmI X G B) (qgl X G B) (qh1 X G B)) (F.binds fun _ _ _ _ _ _ us hl=>by obtain ⟨_,_,rfl⟩:=qeI us hl;rfl) (by kernel_rfl) (by kernel_rfl)
theorem qlR (X:(hp w.params).In h) (G:h.Ns mainGlobals mg) (B:Bl (hp w.params) mg):Cal P w (hp w.params) mg base 7 "show_form" ["form"] (qb1 (hp w.params)):=by
  have F:=qa2 (K:=hp w.params) (st:=qeZ) (f:=285) (c:=284) (n := "show_form") (pm:=mo5) (by kernel_rfl) (by kernel_rfl) (by kernel_rfl)
  exact qaF X G (qkM F B (qtE X G B) (qh3 X G B) (qlQ X G B)) (F.binds fun _ _ _ _ _ _ us hl=>by obtain ⟨_,rfl⟩:=qjR us hl;rfl) (by kernel_rfl) (by kernel_rfl)
theorem qqF (X:(hp w.params).In h) (G:h.Ns mainGlobals mg) (B:Bl (hp w.params) mg):Cal P w (hp w.params) mg base 8 "common" ["P", "Q"] (qc3 (hp w.params)):=by
  have F:=qa2 (K:=hp w.params) (st:=qiW) (f:=217) (c:=216) (n := "common") (pm:=mo2) (by kernel_rfl) (by kernel_rfl) (by kernel_rfl)
  exact qaF X G (qpy F B (qkS X G B) (qkU X G B) (qh0 X G B)) (F.binds fun _ _ _ _ _ _ us hl=>by obtain ⟨_,_,rfl⟩:=qeI us hl;rfl) (by kernel_rfl) (by kernel_rfl)
theorem qns (X:(hp w.params).In h) (G:h.Ns mainGlobals mg) (B:Bl (hp w.params) mg):Cal P w (hp w.params) mg base 9 "fraction" ["P", "Q"] (qbZ (hp w.params)):=by
  have F:=qa2 (K:=hp w.params) (st:=qfV) (f:=224) (c:=223) (n := "fraction") (pm:=mo3) (by kernel_rfl) (by kernel_rfl) (by kernel_rfl)
  exact qaF X G (qlJ F B (qqF X G B) (qnr X G B) (qqE X G B)) (F.binds fun _ _ _ _ _ _ us hl=>by obtain ⟨_,_,rfl⟩:=qeI us hl;rfl) (by kernel_rfl) (by kernel_rfl)
theorem qqG (X:(hp w.params).In h) (G:h.Ns mainGlobals mg) (B:Bl (hp w.params) mg):Cal P w (hp w.params) mg base 10 "_law_form" ["_law_box_here"] (qem (hp w.params)):=by
  have F:=qa2 (K:=hp w.params) (st:=qi0) (f:=391) (c:=390) (n := "_law_form") (pm:=mo6) (by kernel_rfl) (by kernel_rfl) (by kernel_rfl)
  exact qaF X G (qpC F B (qqD X G B) (qjK X G B) (qns X G B) (qeJ X G B) (qnp X G B) (qio X G B)) (F.binds fun _ _ _ _ _ _ us hl=>by obtain ⟨_,rfl⟩:=qjR us hl;rfl) (by kernel_rfl) (by kernel_rfl)
end
theorem all_mk {l:PySem.W.OpenLaw} {w:World} {h:Heap} {mg:Str→Option Value} {fa:Addr} (X:(hp w.params).In h) (G:h.Ns mainGlobals mg) (hfa:mg "law" = some (.ref fa))
    : ∃ fd:FuncData,(∀ (s:Shared) (v:Value),BindsTo s fd ⟨[v],[]⟩ [("_law_script", v)])∧∀ base:Heap,(hp w.params).In base→base.Ns mainGlobals mg→FnOk l.prog w (hp w.params) mg base CX0 11 fa fd ["_law_script"] (qkm (hp w.params)):=by
  have e:=hfa.symm.trans (PySem.W.mg_of X G (n := "law") (v:=.ref 396) (by kernel_rfl))
  cases e
  have qEXPONENTS:qci (hp w.params)=15:=by kernel_rfl
  have xEXPONENTS:∀ H:Hp,SqT (hp w.params) H (qci (hp w.params)) (exps.map fun e:Nat=>V.int (e:Int)):=fun H=>.inr ⟨_,_,_,(show (hp w.params).lookup (qci (hp w.params))=some ⟨.type "tuple", none,.seq #[(.int 61 189),(.int 127 190),(.int 521 191),(.int 1279 192),(.int 4423 193),(.int 9941 194),(.int 21701 195),(.int 44497 196)] 0,#[]⟩ by rw [qEXPONENTS];kernel_rfl),rfl,rfl,by show 8≤sizeLine;rw [sizeLine_eq];decide,.cons ⟨_,rfl⟩ (.cons ⟨_,rfl⟩ (.cons ⟨_,rfl⟩ (.cons ⟨_,rfl⟩ (.cons ⟨_,rfl⟩ (.cons ⟨_,rfl⟩ (.cons ⟨_,rfl⟩ (.cons ⟨_,rfl⟩ (.nil))))))))⟩
  have B:Bl (hp w.params) mg:=⟨PySem.W.mg_none_of X G (by kernel_rfl),PySem.W.mg_none_of X G (by kernel_rfl),PySem.W.mg_none_of X G (by kernel_rfl),PySem.W.mg_none_of X G (by kernel_rfl),PySem.W.mg_none_of X G (by kernel_rfl),PySem.W.mg_none_of X G (by kernel_rfl),PySem.W.mg_none_of X G (by kernel_rfl),PySem.W.mg_none_of X G (by kernel_rfl),PySem.W.mg_none_of X G (by kernel_rfl),by rw [qEXPONENTS];exact PySem.W.mg_of X G (by kernel_rfl),PySem.W.mg_none_of X G (by kernel_rfl),PySem.W.mg_of X G (by kernel_rfl),PySem.W.mg_none_of X G (by kernel_rfl),PySem.W.mg_none_of X G (by kernel_rfl),PySem.W.mg_none_of X G (by kernel_rfl),PySem.W.mg_none_of X G (by kernel_rfl),xEXPONENTS⟩
  have FL:=qa2 (K:=hp w.params) (st:=qmR) (f:=396) (c:=395) (n := "law") (pm:=mo6) (by kernel_rfl) (by kernel_rfl) (by kernel_rfl)
  refine ⟨PySem.W.fnOf "law" "law" (qeV qmR) (qec qmR) (qak qmR) .none .none .none mo6 none (.ref 395) .none,fun s v=>.of_eq rfl,fun base _ _=>?_⟩
  exact qtB FL B (qst X G B) (qqG X G B) (qgk X G B) (qfO X G B) (qjM X G B) (qlR X G B)
theorem walk {l:PySem.W.OpenLaw} {q:Program} {loose:List Str} {XP:(Str→Option Value)→Heap→Prop} {YP:World→Heap→Prop} {d:DefRec} {K:Params→W.Frag} (hn:l.most=some 63) (hdf:d.params.defaults=[]) (hq:importsNone q=true) (ht:∀ w,(model l.prog w).prog.given.tree=none)
    (hY:∀ (w:World) (h:Heap),YP w h→(K w.params).In h)
    (F:∀ (w:World) (mg:Str→Option Value) (fa:Addr) (h:Heap),(K w.params).In h→h.Ns mainGlobals mg→mg d.name=some (.ref fa)→
      ∃ fd:FuncData,(∀ (s:Shared) (u:Value),BindsTo s fd ⟨[u],[]⟩ [("_law_script", u)])∧∀ base:Heap,(K w.params).In base→base.Ns mainGlobals mg→FnOk l.prog w (K w.params) mg base CX0 11 fa fd ["_law_script"] (qkm (K w.params))) :
    PySem.W.WalkO q loose XP YP l.row.toRowW d [] (fun f vs=>PySem.call f vs):=
  L2.walk_of (n:=63) (k:=11) (x := "_law_script") (CX:=fun _=>CX0) (sp:=fun w=>qkm (K w.params)) hn (by decide) hdf hq ht ⟨rfl,by decide,by decide⟩ hY F (fun _ _ a ns hl _ hS=>⟨a,ns,rfl,hS,hl,fun _=>rfl⟩) fun _ _ _ _ _ z=>z
end Bs
open PySem PySem.W PyProof.Rows
set_option maxRecDepth 100000 in
set_option maxHeartbeats 0 in
theorem PySem.Challenge.cw_backslope_k81_forms_written_holds : PySem.Challenge.rw_backslope_k81_forms_written.Holds := by
  w_on; o_law
  refine PySem.W.holds_open (q := Bs.Hd.vw) (loose := []) (Xt := fun s => PySem.W.xlAt Bs.Hd.vw [] s && PySem.W.recOk (PySem.W.RowW.records (PySem.W.OpenRow.toRowW (PySem.W.OpenLaw.row PySem.Challenge.rw_backslope_k81_forms_written))) s) (XP := PySem.W.XL Bs.Hd.vw []) (Yf := Bs.Hd.hk.obs) (Ya := Bs.Hd.hk.val) (YP := Bs.Hd.hk.says) (N := 3852) Bs.Hd.left Bs.Hd.hk.of Bs.Hd.hk.keeps (fun s e => PySem.W.xl_of s (Bool.and_eq_true_iff.mp e).1) PySem.W.XL.keeps (by rfl) (by rfl) (by rfl) (fun s e => PySem.W.recFacts_of (Bool.and_eq_true_iff.mp e).2) (by rfl) (by first | assumption | decide +kernel) (by decide +kernel) ⟨rfl, rfl, rfl, rfl, rfl, by decide +kernel⟩ ?hw ?hc
  case hw => w_witness2
  case hc => exact Bs.walk (l := PySem.Challenge.rw_backslope_k81_forms_written) (K := Bs.Hd.hp) rfl rfl (by decide +kernel) (fun _ => rfl) (fun w h Y => Y) (fun w mg fa h KX G hmg => Bs.all_mk KX G hmg)
#print axioms PySem.Challenge.cw_backslope_k81_forms_written_holds
