import PyProof.Rows.All
import Wide.All
import OpenK.AllK
import Wide.FinOn
import Lean
import PyProof.EqAt
import PyProof.EqKinds
import PyProof.TupleCall
import PySem.Challenge.RW_backslope_k12_rational_roots_looked_for
set_option Elab.async false
set_option linter.all false
set_option maxRecDepth 100000
namespace L2
open PySem PySem.Spec PyProof.Rows
noncomputable abbrev Key := Sum Int Str
noncomputable def qrt : Key → Value → Bool
  | .inl k, v => Value.isInt k v
  | .inr x, v => Value.isStrOf x v
noncomputable def qtR (w : World) : Key → Int
  | .inl k => hashInt k
  | .inr x => hashStr w x
theorem qbl : ∀ {k : Key} {v : Value}, qrt k v = true → (∃ i t, k = Sum.inl i ∧ v = Value.int i t) ∨ (∃ x t, k = Sum.inr x ∧ v = Value.str x t)
  | .inl i, v, h => by
    obtain ⟨t, e⟩ := Value.isInt_shape (k := i) (v := v) h
    exact .inl ⟨i, t, rfl, e⟩
  | .inr x, v, h => by
    obtain ⟨t, e⟩ := Value.isStrOf_shape (x := x) (v := v) h
    exact .inr ⟨x, t, rfl, e⟩
theorem qru (a b : Int) : decide ((Sum.inl a : Key) = Sum.inl b) = (a == b) := by
  by_cases e : a = b
  · subst e; simp
  · have h : ¬ (Sum.inl a : Key) = Sum.inl b := fun q => e (Sum.inl.inj q)
    rw [decide_eq_false h]
    exact (beq_eq_false_iff_ne.mpr e).symm
theorem qrv (a b : Str) : decide ((Sum.inr a : Key) = Sum.inr b) = decide (a = b) := by
  by_cases e : a = b
  · subst e; simp
  · have h : ¬ (Sum.inr a : Key) = Sum.inr b := fun q => e (Sum.inr.inj q)
    rw [decide_eq_false h, decide_eq_false e]
theorem qrw (a : Int) (b : Str) : decide ((Sum.inl a : Key) = Sum.inr b) = false := decide_eq_false (fun q => nomatch q)
theorem qrx (a : Str) (b : Int) : decide ((Sum.inr a : Key) = Sum.inl b) = false := decide_eq_false (fun q => nomatch q)
noncomputable def qiB (prog : Program) (w : World) : PySem.KeyKind prog w Key where
  is := qrt
  hash := qtR w
  inj := fun v a b ha hb => by
    rcases qbl ha with ⟨i, t, rfl, rfl⟩ | ⟨x, t, rfl, rfl⟩
    · rcases qbl hb with ⟨j, u, rfl, e⟩ | ⟨y, u, rfl, e⟩
      · injection e with e1 _; rw [e1]
      · exact nomatch e
    · rcases qbl hb with ⟨j, u, rfl, e⟩ | ⟨y, u, rfl, e⟩
      · exact nomatch e
      · injection e with e1 _; rw [e1]
  byValue := fun k v h => by
    rcases qbl h with ⟨i, t, rfl, rfl⟩ | ⟨x, t, rfl, rfl⟩ <;> rfl
  pyHash := fun hv h => by
    rcases qbl hv with ⟨i, t, rfl, rfl⟩ | ⟨x, t, rfl, rfl⟩
    · exact wpAny_pyHash_int h
    · exact wpAny_pyHash_str h
  eqBool := fun hu hv h => by
    rcases qbl hu with ⟨i, t, rfl, rfl⟩ | ⟨x, t, rfl, rfl⟩
    · rcases qbl hv with ⟨j, u, rfl, rfl⟩ | ⟨y, u, rfl, rfl⟩
      · rw [qru] at h; exact wpAny_eqBool_int h
      · rw [qrw] at h; exact SeqAt.EqAt.int_str i t y u _ _ _ _ h
    · rcases qbl hv with ⟨j, u, rfl, rfl⟩ | ⟨y, u, rfl, rfl⟩
      · rw [qrx] at h; exact SeqAt.EqAt.str_int x t j u _ _ _ _ h
      · rw [qrv] at h; exact wpAny_eqBool_str h
  «strs» := fun k x t v h => by
    rcases qbl h with ⟨i, u, rfl, e⟩ | ⟨y, u, rfl, e⟩
    · exact nomatch e
    · injection e with e1 _
      subst e1
      cases v <;> rfl
end L2
namespace L2
open PySem PySem.Spec PyProof.Rows
inductive V where
  | non | bl (b : Bool) | int (i : Int) | str (x : Str) | byt (b : Array UInt8) | flt (b : UInt64) | ref (a : Addr) | ty (n : String)
  deriving DecidableEq
noncomputable def RelV : V → Value → Prop
  | .non, u => u = Value.none
  | .bl b, u => u = Value.bool b
  | .int i, u => ∃ t, u = Value.int i t
  | .str x, u => ∃ t, u = Value.str x t
  | .byt b, u => ∃ t, u = Value.bytes b t
  | .flt b, u => ∃ t, u = Value.float b t
  | .ref a, u => u = Value.ref a
  | .ty n, u => u = Value.type n
noncomputable abbrev Vals : List V → List Value → Prop := Paired RelV
theorem Vals.length {xs : List V} {us : List Value} (r : Vals xs us) : xs.length = us.length := Paired.length r
theorem Vals.get : ∀ {xs : List V} {us : List Value} {i : Nat} {x : V}, Vals xs us → xs[i]? = some x → ∃ u, us[i]? = some u ∧ RelV x u
  | _, _, _, _, .nil, e => by simp at e
  | _, _, 0, _, .cons r _, e => by simp at e; subst e; exact ⟨_, rfl, r⟩
  | _, _, i + 1, x, .cons _ t, e => by
    obtain ⟨u, h1, h2⟩ := Vals.get (i := i) (x := x) t (by simpa using e)
    exact ⟨u, by simpa using h1, h2⟩
theorem Vals.set {x : V} {u : Value} (r : RelV x u) : ∀ {xs : List V} {us : List Value} (i : Nat), Vals xs us → Vals (xs.set i x) (us.set i u)
  | _, _, _, .nil => .nil
  | _, _, 0, .cons _ t => .cons r t
  | _, _, i + 1, .cons q t => .cons q (Vals.set r i t)
theorem Vals.append : ∀ {xs ys : List V} {us ws : List Value}, Vals xs us → Vals ys ws → Vals (xs ++ ys) (us ++ ws)
  | _, _, _, _, .nil, s => s
  | _, _, _, _, .cons r t, s => .cons r (Vals.append t s)
theorem Vals.take : ∀ {xs : List V} {us : List Value} (n : Nat), Vals xs us → Vals (xs.take n) (us.take n)
  | _, _, 0, _ => .nil
  | _, _, _ + 1, .nil => .nil
  | _, _, n + 1, .cons r t => .cons r (Vals.take n t)
theorem Vals.drop : ∀ {xs : List V} {us : List Value} (n : Nat), Vals xs us → Vals (xs.drop n) (us.drop n)
  | _, _, 0, r => r
  | _, _, _ + 1, .nil => .nil
  | _, _, n + 1, .cons _ t => Vals.drop n t
noncomputable def qtx : Option V → Option Value → Prop
  | some v, some u => RelV v u
  | none, none => True
  | _, _ => False
noncomputable def KV {κ : Type} : List (κ × V) → List (κ × Value) → Prop := Paired fun (p : κ × V) (q : κ × Value) => p.1 = q.1 ∧ RelV p.2 q.2
noncomputable def kV : Key → V
  | .inl i => .int i
  | .inr x => .str x
inductive HO where

  | lst (xs : List V)

  | tup (xs : List V)

  | dK (kvs : List (Key × V)) | dT (kvs : List (List Key × V))

  | set (S : Int → Bool) (n : Nat)

  | ins (C dx : Addr) (fs : List (Str × V))

  | own (x : Addr)

  | xd (fs : List (Str × V))

  | met (f x : Addr)

  | rng (lo hi : Int)

  | frz (o : Obj) (u : HO)

  | tbl (ps : Array Value)

  | ext (φ : Heap → Prop)
noncomputable abbrev Hp := Addr → Option HO
noncomputable def upd (H : Hp) (a : Addr) (o : HO) : Hp := fun b => if b = a then some o else H b
theorem qai {H : Hp} {a : Addr} {o : HO} : upd H a o a = some o := by unfold upd; rw [if_pos rfl]
theorem qay {H : Hp} {a b : Addr} {o : HO} (h : b ≠ a) : upd H a o b = H b := by unfold upd; rw [if_neg h]
theorem qsM {H : Hp} {a b : Addr} {o u : HO} (h : H a = some o) (h' : H b = some u) (d : o ≠ u) : a ≠ b := by
  intro e; subst e; rw [h] at h'; exact d (Option.some.inj h')
theorem qao {H : Hp} {a b : Addr} {o : HO} (h : H a = some o) (h' : H b = none) : a ≠ b := by
  intro e; subst e; rw [h] at h'; cases h'
section
variable (P : Program) (w : World)
noncomputable def ObjOk (H : Hp) (h : Heap) (a : Addr) : HO → Prop
  | .lst xs => xs.length ≤ sizeLine ∧ ∃ (its : List Value) (n : Nat), Vals xs its ∧ h.get? a = some { cls := .type "list", data := .seq its.toArray n }
  | .tup xs => xs.length ≤ sizeLine ∧ ∃ its : List Value, Vals xs its ∧ IsTup h a its.toArray
  | .dK kvs => kvs.length ≤ sizeLine ∧ (a == sysModules) = false ∧ ∃ vs, KV kvs vs ∧ h.DictOf (qiB P w) a vs
  | .dT kvs => kvs.length ≤ sizeLine ∧ (a == sysModules) = false ∧ ∃ xs : List (List Key × Addr × Value),
      Paired (fun (p : List Key × V) (q : List Key × Addr × Value) => p.1 = q.1 ∧ H q.2.1 = some (.tup (p.1.map kV)) ∧ RelV p.2 q.2.2) kvs xs ∧
      ∃ o es ep, h.get? a = some o ∧ o.ExactDict ∧ o.data = .dict es ep ∧ es.toList = xs.map (entryOfKey (tupleKind (qiB P w))) ∧ (xs.map (·.1)).Nodup
  | .set S n => h.SetOf (intKind P w) a S n
  | .ins C dx fs => H dx = some (.own a) ∧ fs.length ≤ 1000 ∧ dx ≠ a ∧ h.get? a = some (PySem.W.instObj C dx) ∧
      ∃ mA, h.Ns1 dx mA ∧ (∀ f, qtx (fs.lookup f) (mA f)) ∧ PySem.Within mA (fs.map (·.1))
  | .own _ => ∃ o, h.get? a = some o
  | .xd fs => ∃ mA, h.Ns1 a mA ∧ ∀ f, qtx (fs.lookup f) (mA f)
  | .rng lo hi => ∃ t u v, h.get? a = some { cls := .type "range", data := .fields #[.int lo t, .int hi u, .int 1 v] }
  | .frz o u => h.get? a = some o ∧ ObjOk H h a u
  | .tbl ps => h.get? a = some { cls := .none, data := .fields ps }
  | .met f x => h.get? a = some (PySem.W.methodObj (.ref f) (.ref x))
  | .ext φ => φ h ∧ (∃ o, h.get? a = some o) ∧ ∀ h1 h2 : Heap, φ h1 → (∀ o, h1.get? a = some o → h2.get? a = some o) → φ h2
noncomputable def HOk (H : Hp) (h : Heap) : Prop := ∀ a o, H a = some o → ObjOk P w H h a o
end
section
variable {P : Program} {w : World} {H H' : Hp} {h h' : Heap} {a : Addr} {o : HO}
theorem ObjOk.lt (x : ObjOk P w H h a o) : a < h.objs.size := by
  cases o with
  | lst xs => obtain ⟨_, _, _, _, e⟩ := x; exact Heap.lt_size e
  | tup xs => obtain ⟨_, _, _, p⟩ := x; exact p.lt
  | dK kvs => obtain ⟨_, _, _, _, o, _, _, e, _⟩ := x; exact Heap.lt_size e
  | dT kvs => obtain ⟨_, _, _, _, o, _, _, e, _⟩ := x; exact Heap.lt_size e
  | set S n => obtain ⟨o, _, _, _, e, _⟩ := x; exact Heap.lt_size e
  | ins C dx fs => obtain ⟨_, _, _, e, _⟩ := x; exact Heap.lt_size e
  | own y => obtain ⟨_, e⟩ := x; exact Heap.lt_size e
  | xd fs => obtain ⟨_, ⟨_, _, _, e, _⟩, _⟩ := x; exact Heap.lt_size e
  | rng lo hi => obtain ⟨_, _, _, e⟩ := x; exact Heap.lt_size e
  | frz ob u => obtain ⟨e, _⟩ := x; exact Heap.lt_size e
  | tbl ps => exact Heap.lt_size (show h.get? a = some _ from x)
  | met f y => exact Heap.lt_size (show h.get? a = some _ from x)
  | ext φ => obtain ⟨_, ⟨_, e⟩, _⟩ := x; exact Heap.lt_size e
theorem Paired.mapP {α β : Type} {F G : α → β → Prop} : ∀ {l₁ : List α} {l₂ : List β}, Paired F l₁ l₂ → (∀ a b, F a b → G a b) → Paired G l₁ l₂
  | _, _, .nil, _ => .nil
  | _, _, .cons r t, f => .cons (f _ _ r) (Paired.mapP t f)
theorem ObjOk.stay (x : ObjOk P w H h a o) (k : ∀ b u, (b = a ∨ H b = some (.own a)) → h.get? b = some u → h'.get? b = some u)
    (ho : ∀ b, H b = some (.own a) → H' b = some (.own a)) (ht : ∀ b xs, H b = some (.tup xs) → H' b = some (.tup xs)) : ObjOk P w H' h' a o := by
  induction o with
  | lst xs => obtain ⟨z, its, n, r, e⟩ := x; exact ⟨z, its, n, r, k _ _ (.inl rfl) e⟩
  | tup xs => obtain ⟨z, its, r, ob, e, c⟩ := x; exact ⟨z, its, r, ob, k _ _ (.inl rfl) e, c⟩
  | dK kvs => obtain ⟨z, y, vs, r, ob, es, ep, e, c⟩ := x; exact ⟨z, y, vs, r, ob, es, ep, k _ _ (.inl rfl) e, c⟩
  | dT kvs =>
    obtain ⟨z, y, xs, r, ob, es, ep, e, c⟩ := x
    exact ⟨z, y, xs, Paired.mapP r fun p q z => ⟨z.1, ht _ _ z.2.1, z.2.2⟩, ob, es, ep, k _ _ (.inl rfl) e, c⟩
  | set S n => obtain ⟨ob, es, ep, t, e, c⟩ := x; exact ⟨ob, es, ep, t, k _ _ (.inl rfl) e, c⟩
  | ins C dx fs =>
    obtain ⟨d, z, ne, e, mA, ⟨od, es, ep, e2, c⟩, r⟩ := x
    exact ⟨ho _ d, z, ne, k _ _ (.inl rfl) e, mA, ⟨od, es, ep, k _ _ (.inr d) e2, c⟩, r⟩
  | own y => obtain ⟨ob, e⟩ := x; exact ⟨ob, k _ _ (.inl rfl) e⟩
  | xd fs => obtain ⟨mA, ⟨od, es, ep, e, c⟩, r⟩ := x; exact ⟨mA, ⟨od, es, ep, k _ _ (.inl rfl) e, c⟩, r⟩
  | rng lo hi => obtain ⟨t, u, v, e⟩ := x; exact ⟨t, u, v, k _ _ (.inl rfl) e⟩
  | frz ob u ih => obtain ⟨e, q⟩ := x; exact ⟨k _ _ (.inl rfl) e, ih q⟩
  | tbl ps =>
    have e : h.get? a = some { cls := .none, data := .fields ps } := x
    show h'.get? a = some { cls := .none, data := .fields ps }
    exact k a _ (.inl rfl) e
  | met f y =>
    have e : h.get? a = some (PySem.W.methodObj (.ref f) (.ref y)) := x
    show h'.get? a = some (PySem.W.methodObj (.ref f) (.ref y))
    exact k a _ (.inl rfl) e
  | ext φ => obtain ⟨p, ⟨o, e⟩, st⟩ := x; exact ⟨st _ _ p fun o q => k _ _ (.inl rfl) q, ⟨o, k _ _ (.inl rfl) e⟩, st⟩
theorem HOk.lt (x : HOk P w H h) (e : H a = some o) : a < h.objs.size := (x a o e).lt
theorem HOk.fresh (x : HOk P w H h) (e : h.objs.size ≤ a) : H a = none := by
  cases q : H a with
  | none => rfl
  | some u => exact absurd (Nat.lt_of_lt_of_le (x.lt q) e) (Nat.lt_irrefl _)
theorem HOk.kept (x : HOk P w H h) (k : ∀ b u, h.get? b = some u → h'.get? b = some u) : HOk P w H h' := fun a o e =>
  (x a o e).stay (fun b u _ q => k b u q) (fun _ q => q) fun _ _ q => q
theorem HOk.laid (x : HOk P w H h) (k : ∀ b u, h.get? b = some u → h'.get? b = some u) (hp : h.objs.size ≤ a) (new : ObjOk P w (upd H a o) h' a o) : HOk P w (upd H a o) h' := fun b u e => by
  have hn := x.fresh hp
  by_cases hb : b = a
  · subst hb; rw [qai] at e; cases e; exact new
  · rw [qay hb] at e
    exact (x b u e).stay (fun c v _ q => k c v q) (fun c q => by rw [qay (qao q hn)]; exact q) fun c xs q => by rw [qay (qao q hn)]; exact q
end
noncomputable def Rd (H : Hp) (a : Addr) (u : HO) : Prop := H a = some u ∨ ∃ o, H a = some (.frz o u)
theorem Rd.of {H : Hp} {a : Addr} {u : HO} (h : H a = some u) : Rd H a u := .inl h
theorem Rd.ok {P : Program} {w : World} {H : Hp} {h : Heap} {a : Addr} {u : HO} (r : Rd H a u) (x : HOk P w H h) : ObjOk P w H h a u := by
  rcases r with r | ⟨o, r⟩
  · exact x a u r
  · obtain ⟨_, q⟩ := x a _ r
    exact q
noncomputable def Mut : Option HO → Prop
  | some (.lst _) => True
  | some (.dK _) => True
  | some (.dT _) => True
  | some (.set _ _) => True
  | some (.ins _ _ _) => True
  | some (.ext _) => True
  | _ => False
section
variable {P : Program} {w : World} {H : Hp} {h h' : Heap} {x e : Addr} {o' : HO}
theorem HOk.write (ok : HOk P w H h) (mu : Mut (H x)) (he : e = x ∨ H e = some (.own x)) (k : ∀ b u, b ≠ e → h.get? b = some u → h'.get? b = some u) (heo : ∃ u, h'.get? e = some u)
    (new : ObjOk P w (upd H x o') h' x o') : HOk P w (upd H x o') h' := fun b u q => by
  have nown : ∀ c y, H c = some (.own y) → c ≠ x := fun c y r z => by subst z; rw [r] at mu; exact mu
  have ntup : ∀ c xs, H c = some (.tup xs) → c ≠ x := fun c xs r z => by subst z; rw [r] at mu; exact mu
  by_cases hb : b = x
  · subst hb; rw [qai] at q; cases q; exact new
  · rw [qay hb] at q
    by_cases hbe : b = e
    · have q' : H b = some (.own x) := by
        rcases he with z | z
        · exact absurd (hbe.trans z) hb
        · rw [hbe]; exact z
      rw [q] at q'; cases q'
      obtain ⟨v, hv⟩ := heo
      exact ⟨v, by rw [hbe]; exact hv⟩
    · refine (ok b u q).stay (fun c v hc r => k c v ?_ r) (fun c r => by rw [qay (nown c b r)]; exact r) fun c xs r => by rw [qay (ntup c xs r)]; exact r
      rcases hc with rfl | hc
      · exact hbe
      · rintro rfl
        rcases he with z | z
        · exact nown c b hc z
        · rw [hc] at z; cases z; exact hb rfl
end
structure Un (fs ex : List Addr) (H H' : Hp) (h h' : Heap) : Prop where
  keep : ∀ b o, h.get? b = some o → H b = none → b ∉ fs → b ∉ ex → h'.get? b = some o
  slot : ∀ b o, h.get? b = some o → H b = none → b ∈ fs → b ∉ ex → ∃ sl, h'.get? b = some { o with slots := sl }
  free : ∀ b o, h.get? b = some o → H b = none → b ∉ ex → H' b = none
  there : ∀ b o, h.get? b = some o → b ∉ ex → ∃ o', h'.get? b = some o'
  tups : ∀ b xs, H b = some (.tup xs) → H' b = some (.tup xs)
  frzs : ∀ b o u, H b = some (.frz o u) → H' b = some (.frz o u)
  tbls : ∀ b ps, H b = some (.tbl ps) → ∃ more, H' b = some (.tbl (ps ++ more))
section
variable {fs fs' ex ex' : List Addr} {H H1 H2 : Hp} {h h1 h2 h' : Heap} {a x e : Addr} {o : HO}
theorem Un.any (u : Un fs ex H H1 h h1) {b : Addr} {ob : Obj} (q : h.get? b = some ob) (n : H b = none) (hx : b ∉ ex) : ∃ sl, h1.get? b = some { ob with slots := sl } := by
  by_cases hb : b ∈ fs
  · exact u.slot b ob q n hb hx
  · exact ⟨ob.slots, u.keep b ob q n hb hx⟩
theorem Un.trans (a : Un fs ex H H1 h h1) (b : Un fs ex H1 H2 h1 h2) : Un fs ex H H2 h h2 where
  keep := fun c ob q n hc hx => b.keep c ob (a.keep c ob q n hc hx) (a.free c ob q n hx) hc hx
  slot := fun c ob q n hc hx => by
    obtain ⟨sl, e1⟩ := a.slot c ob q n hc hx
    obtain ⟨sl', e2⟩ := b.slot c _ e1 (a.free c ob q n hx) hc hx
    exact ⟨sl', e2⟩
  free := fun c ob q n hx => by
    obtain ⟨o', e1⟩ := a.there c ob q hx
    exact b.free c o' e1 (a.free c ob q n hx) hx
  there := fun c ob q hx => by
    obtain ⟨o', e1⟩ := a.there c ob q hx
    exact b.there c o' e1 hx
  tups := fun c xs q => b.tups c xs (a.tups c xs q)
  frzs := fun c ob xs q => b.frzs c ob xs (a.frzs c ob xs q)
  tbls := fun c ps q => by
    obtain ⟨m1, e1⟩ := a.tbls c ps q
    obtain ⟨m2, e2⟩ := b.tbls c _ e1
    exact ⟨m1 ++ m2, by rw [e2, Array.append_assoc]⟩
theorem Un.kept (k : ∀ b u, h.get? b = some u → h'.get? b = some u) : Un fs ex H H h h' :=
  ⟨fun b ob q _ _ _ => k b ob q, fun b ob q _ _ _ => ⟨ob.slots, k b ob q⟩, fun _ _ _ n _ => n, fun b ob q _ => ⟨ob, k b ob q⟩, fun _ _ q => q, fun _ _ _ q => q, fun _ ps q => ⟨#[], by rw [q]; simp⟩⟩
theorem Un.refl : Un fs ex H H h h := Un.kept fun _ _ q => q
theorem Un.laid (k : ∀ b u, h.get? b = some u → h'.get? b = some u) (hp : h.objs.size ≤ a) (hn : H a = none) : Un fs ex H (upd H a o) h h' where
  keep := fun b u q _ _ _ => k b u q
  slot := fun b u q _ _ _ => ⟨u.slots, k b u q⟩
  free := fun b u q n _ => by rw [qay (Nat.ne_of_lt (Nat.lt_of_lt_of_le (Heap.lt_size q) hp))]; exact n
  there := fun b u q _ => ⟨u, k b u q⟩
  tups := fun b xs q => by rw [qay (qao q hn)]; exact q
  frzs := fun b u xs q => by rw [qay (qao q hn)]; exact q
  tbls := fun b ps q => ⟨#[], by rw [qay (qao q hn), q]; simp⟩
theorem Un.write (mu : Mut (H x)) (he : e = x ∨ H e = some (.own x)) (k : ∀ b u, b ≠ e → h.get? b = some u → h'.get? b = some u) (heo : ∃ u, h'.get? e = some u) : Un fs ex H (upd H x o) h h' := by
  have hx : ∀ b, H b = none → b ≠ x := fun b n z => by subst z; rw [n] at mu; exact mu
  have hb : ∀ b, H b = none → b ≠ e := fun b n z => by
    subst z
    rcases he with r | r
    · exact hx b n r
    · rw [n] at r; cases r
  have hm : ∀ b u, H b = some u → ¬ Mut (some u) → b ≠ x := fun b u q nm z => by subst z; rw [q] at mu; exact nm mu
  refine ⟨fun b u q n _ _ => k b u (hb b n) q, fun b u q n _ _ => ⟨u.slots, k b u (hb b n) q⟩, fun b u q n _ => by rw [qay (hx b n)]; exact n, fun b u q _ => ?_,
    fun b xs q => by rw [qay (hm b _ q fun z => z)]; exact q, fun b u xs q => by rw [qay (hm b _ q fun z => z)]; exact q, fun b ps q => ⟨#[], by rw [qay (hm b _ q fun z => z), q]; simp⟩⟩
  by_cases hbe : b = e
  · subst hbe; exact heo
  · exact ⟨u, k b u hbe q⟩
theorem Un.mono (u : Un fs ex H H1 h h1) (hs : ∀ b ∈ fs, b ∈ fs') (hx : ∀ b ∈ ex, b ∈ ex') : Un fs' ex' H H1 h h1 :=
  ⟨fun b ob q n hb he => u.keep b ob q n (fun z => hb (hs b z)) fun z => he (hx b z), fun _ _ q n _ he => u.any q n fun z => he (hx _ z), fun b ob q n he => u.free b ob q n fun z => he (hx b z), fun b ob q he => u.there b ob q fun z => he (hx b z), u.tups, u.frzs, u.tbls⟩
end
noncomputable def trk (h : Heap) (H : Hp) : List Addr := (List.range h.objs.size).filter fun a => (H a).isSome
noncomputable def qoP (h : Heap) (H : Hp) : Heap := PySem.W.hideAll h (trk h H)
theorem qmG (h : Heap) (H : Hp) : (qoP h H).objs.size = h.objs.size := PySem.W.hideAll_size _ _
theorem qoU {h : Heap} {H : Hp} {b : Addr} {o : Obj} (e : h.get? b = some o) (n : H b = none) : (qoP h H).get? b = some o :=
  PySem.W.hideAll_get _ e fun hm => by
    have q : (H b).isSome = true := (List.mem_filter.mp hm).2
    rw [n] at q; simp at q
theorem qqp {h : Heap} {H : Hp} {b : Addr} {o : Obj} (e : (qoP h H).get? b = some o) : h.get? b = some o ∧ H b = none := by
  have e' : h.get? b = some o := PySem.W.of_hideAll (trk h H) e
  refine ⟨e', ?_⟩
  cases q : H b with
  | none => rfl
  | some x =>
    have hm : b ∈ trk h H := List.mem_filter.mpr ⟨List.mem_range.mpr (Heap.lt_size e'), by simp [q]⟩
    have z : (qoP h H).get? b = none := PySem.W.hideAll_none (trk h H) hm
    rw [z] at e; cases e
noncomputable def qqq (g h : Heap) (L : Addr) : List (Addr × Obj) := (List.range h.objs.size).filterMap fun a => if a = L ∨ (g.get? a).isSome = true then none else (h.get? a).map fun o => (a, o)
noncomputable def rest (g h : Heap) (L d : Addr) : List (Addr × Obj) := (qqq g h L).filter fun p => decide (p.1 ≠ d)
end L2
namespace L2
open PySem PySem.Spec PyProof.Rows
structure Mod (K : PySem.W.Frag) (mg : Str → Option Value) (base : Heap) : Prop where
  kin : K.In base
  glob : base.Ns mainGlobals mg
  blt : ∃ mb, base.Ns builtinsNs mb ∧ ∀ x : Str, x ≠ "__name__" → mb x = bootBuiltins x
  nolimit : base.NoLimit
structure Cx where
  prog : Program
  w : World
  K : PySem.W.Frag
  mg : Str → Option Value
  base : Heap
  A : Around
  N : List Str
  s₀ : Shared
  H₀ : Hp
  env : Env
  outer : List Env
  stack : List Env
  ex : List Addr
  fn : Str → Bool
  calm : Bool
  pn : List (Addr × Obj)
  xe : Value → Shared → Prop
noncomputable def frs (l : List Env) : List Addr := l.filterMap (·.frame)
noncomputable abbrev Cx.fs (X : Cx) : List Addr := frs X.outer
noncomputable def Vis (sc : Scope) (x : Str) : Prop := sc.names.lookup x = some .local ∨ sc.names.lookup x = some .cell ∨ sc.names.lookup x = some .free
noncomputable def Loc (sc : Scope) (x : Str) : Prop := sc.names.lookup x = some .local ∨ sc.names.lookup x = some .cell
noncomputable def Look (env : Env) (h : Heap) (m : Str → Option Value) (x : Str) (u : Value) : Prop :=
  (env.kindOf x = some .local ∧ m x = some u) ∨ ((env.kindOf x = some .cell ∨ env.kindOf x = some .free) ∧ ∃ c, env.cells.lookup x = some c ∧ h.IsCell c (some u))
structure Cx.Ok (X : Cx) : Prop where
  mod : Mod X.K X.mg X.base
  kind : X.env.scope.kind = .function
  glob : X.env.globals = mainGlobals
  blt : X.env.builtins = builtinsNs
  above : X.s₀.heap.objs.size ≤ X.env.locals
  inj : ∀ x y c, X.env.cells.lookup x = some c → X.env.cells.lookup y = some c → x = y
  has : ∀ x, (X.env.kindOf x = some .cell ∨ X.env.kindOf x = some .free) → ∃ c, X.env.cells.lookup x = some c
  cab : ∀ x c, X.fn x = true → X.env.cells.lookup x = some c → X.s₀.heap.objs.size ≤ c
  hd : X.calm = true → X.A.handled = none
  frames : X.A.frames = some X.stack
  stk : X.stack = X.outer ∨ (X.stack = X.env :: X.outer ∧ X.env.frame = some X.env.locals)
  exf : ∀ b ∈ X.ex, b ≠ X.env.locals ∧ ∀ x c, X.env.cells.lookup x = some c → c ≠ b
  bs : ∀ b o, X.base.get? b = some o → X.s₀.heap.get? b = some o ∧ X.H₀ b = none
  bsz : X.base.objs.size ≤ X.s₀.heap.objs.size
  noex : ∀ b o, X.base.get? b = some o → b ∉ X.ex
  exfs : ∀ b ∈ X.ex, b ∉ X.fs
  funs : X.s₀.heap.FunFrames X.base X.outer
  frf : ∀ b ∈ X.fs, X.H₀ b = none
  seer : X.base.NoSeer
  tree : (model X.prog X.w).prog.given.tree = none
  plr : ∀ s : Shared, (∀ b o, X.base.get? b = some o → s.heap.get? b = some o) → PySem.PylongRoom (model X.prog X.w) X.A s
structure Inv (X : Cx) (pins : List (Addr × Obj)) (σ : List (Option V)) (H : Hp) (s : Shared) : Prop where
  ok : X.Ok
  os : s.os = X.s₀.os
  bare : AllBare s.gens
  base : Un X.fs X.ex X.H₀ H X.s₀.heap s.heap
  loc : ∃ m, s.heap.Ns X.env.locals m ∧ ∀ (i : Nat) (x : Str) (v : V), X.N[i]? = some x → σ[i]? = some (some v) → Vis X.env.scope x → ∃ u, RelV v u ∧ Look X.env s.heap m x u
  cell : ∀ x c, X.env.cells.lookup x = some c → ∃ v, s.heap.IsCell c v
  free : H X.env.locals = none
  freeC : ∀ x c, X.env.cells.lookup x = some c → H c = none
  pin : ∀ p ∈ X.pn ++ pins, s.heap.get? p.1 = some p.2 ∧ H p.1 = none ∧ p.1 ≠ X.env.locals ∧ p.1 ∉ X.fs ∧ ∀ v, p.2.data ≠ .cell v
  hok : HOk X.prog X.w H s.heap
  len : σ.length = X.N.length
section
variable {X : Cx} {pins : List (Addr × Obj)} {σ : List (Option V)} {H H' : Hp} {s : Shared} {h' : Heap}
theorem Cx.Ok.nofr (ok : X.Ok) {b : Addr} {o : Obj} (e : X.base.get? b = some o) : b ∉ X.fs := fun hb => by
  have := (ok.funs.mem hb).1
  rw [e] at this; cases this
theorem Inv.bs (I : Inv X pins σ H s) : ∀ b o, X.base.get? b = some o → s.heap.get? b = some o ∧ H b = none := fun b o e =>
  ⟨I.base.keep b o (I.ok.bs b o e).1 (I.ok.bs b o e).2 (I.ok.nofr e) (I.ok.noex b o e), I.base.free b o (I.ok.bs b o e).1 (I.ok.bs b o e).2 (I.ok.noex b o e)⟩
theorem Inv.bk (I : Inv X pins σ H s) : ∀ b o, X.base.get? b = some o → s.heap.get? b = some o := fun b o e => (I.bs b o e).1
theorem Inv.mod (I : Inv X pins σ H s) : Mod X.K X.mg X.base := I.ok.mod
theorem Inv.kIn (I : Inv X pins σ H s) : X.K.In s.heap := I.ok.mod.kin.keeps I.bk
theorem Inv.nolimit (I : Inv X pins σ H s) : s.heap.NoLimit := I.ok.mod.nolimit.keeps I.bk
theorem Inv.fr (I : Inv X pins σ H s) : ∃ m, Fr X.base X.env.locals s.heap m :=
  let ⟨m, hn, _⟩ := I.loc
  ⟨m, hn, I.bk, Nat.le_trans I.ok.bsz I.ok.above⟩
theorem Inv.lt (I : Inv X pins σ H s) : X.env.locals < s.heap.objs.size := let ⟨_, hn, _⟩ := I.loc; hn.lt
theorem Inv.sz (I : Inv X pins σ H s) : X.s₀.heap.objs.size ≤ s.heap.objs.size := Nat.le_trans I.ok.above (Nat.le_of_lt I.lt)
theorem Inv.nofs (I : Inv X pins σ H s) {a : Addr} (h : s.heap.objs.size ≤ a) : a ∉ X.fs := fun hb => by
  obtain ⟨_, o, ho, _⟩ := I.ok.funs.mem hb
  exact absurd (Nat.lt_of_lt_of_le (Heap.lt_size ho) (Nat.le_trans I.sz h)) (Nat.lt_irrefl _)
theorem Inv.cne (I : Inv X pins σ H s) : ∀ x c, X.env.cells.lookup x = some c → c ≠ X.env.locals := fun x c e z => by
  obtain ⟨v, o, ho, hd⟩ := I.cell x c e
  obtain ⟨m, ⟨o', es, ep, ho', hd', _⟩, _⟩ := I.loc
  rw [z, ho'] at ho; cases ho; rw [hd'] at hd; cases hd
theorem Inv.funs (I : Inv X pins σ H s) : s.heap.FunFrames X.base X.outer := by
  have all : ∀ (l : List Env), (∀ b ∈ frs l, b ∈ X.fs) → X.s₀.heap.FunFrames X.base l → s.heap.FunFrames X.base l := by
    intro l
    induction l with
    | nil => intro _ _; trivial
    | cons env r ih =>
      intro hs hl
      obtain ⟨hk, ⟨L, o, hf, hn, ho, hd⟩, hr⟩ := hl
      have hL : L ∈ X.fs := hs L (by unfold frs; rw [List.filterMap_cons, hf]; exact List.mem_cons_self)
      obtain ⟨sl, e⟩ := I.base.slot L o ho (I.ok.frf L hL) hL fun z => I.ok.exfs L z hL
      exact ⟨hk, ⟨L, _, hf, hn, e, hd⟩, ih (fun b hb => hs b (by unfold frs; rw [List.filterMap_cons, hf]; exact List.mem_cons_of_mem _ hb)) hr⟩
  exact all X.outer (fun _ hb => hb) I.ok.funs
theorem Inv.stack (I : Inv X pins σ H s) : s.heap.FunFrames X.base X.stack := by
  rcases I.ok.stk with e | ⟨e, hf⟩
  · rw [e]; exact I.funs
  · rw [e]
    obtain ⟨m, hn, _⟩ := I.loc
    refine .cons (by rw [I.ok.kind]; decide) hf hn ?_ I.funs
    exact Heap.get?_none_of_le (Nat.le_trans I.ok.bsz I.ok.above)
theorem Inv.stkSub (I : Inv X pins σ H s) : ∀ b ∈ frs X.stack, b ∈ X.env.locals :: X.fs := fun b hb => by
  rcases I.ok.stk with e | ⟨e, hf⟩
  · rw [e] at hb; exact List.mem_cons_of_mem _ hb
  · rw [e] at hb
    unfold frs at hb
    rw [List.filterMap_cons, hf] at hb
    exact hb
theorem Inv.stkFree (I : Inv X pins σ H s) : ∀ b ∈ frs X.stack, H b = none := fun b hb => by
  rcases List.mem_cons.mp (I.stkSub b hb) with e | hb
  · rw [e]; exact I.free
  · obtain ⟨_, o, ho, _⟩ := I.ok.funs.mem hb
    exact I.base.free b o ho (I.ok.frf b hb) fun z => I.ok.exfs b z hb
theorem Inv.step {g' : Array GenState} {t' : Nat} {d' : Drawn} {ch : List Addr} (I : Inv X pins σ H s)
    (hch : ∀ b ∈ ch, (b ∈ X.ex ∨ X.s₀.heap.objs.size ≤ b) ∧ b ≠ X.env.locals ∧ (∀ x c, X.env.cells.lookup x = some c → c ≠ b) ∧ ∀ p ∈ X.pn ++ pins, p.1 ≠ b)
    (keep : ∀ b o, b ≠ X.env.locals → b ∉ X.fs → b ∉ ch → s.heap.get? b = some o → H b = none → h'.get? b = some o)
    (slot : ∀ b o, b ≠ X.env.locals → b ∈ X.fs → b ∉ ch → s.heap.get? b = some o → H b = none → ∃ sl, h'.get? b = some { o with slots := sl }) (free : ∀ b o, b ∉ ch → s.heap.get? b = some o → H b = none → H' b = none)
    (there : ∀ b o, b ∉ ch → s.heap.get? b = some o → ∃ o', h'.get? b = some o')
    (tups : ∀ b xs, H b = some (.tup xs) → H' b = some (.tup xs)) (frzs : ∀ b o u, H b = some (.frz o u) → H' b = some (.frz o u)) (tbls : ∀ b ps, H b = some (.tbl ps) → ∃ more, H' b = some (.tbl (ps ++ more)))
    (ns : ∀ m, s.heap.Ns X.env.locals m → h'.Ns X.env.locals m) (hok : HOk X.prog X.w H' h') (hg : AllBare g') :
    Inv X pins σ H' { s with heap := h', gens := g', drawn := d', toks := t' } := by
  have neL : ∀ b o, X.s₀.heap.get? b = some o → b ≠ X.env.locals := fun b o e => Nat.ne_of_lt (Nat.lt_of_lt_of_le (Heap.lt_size e) I.ok.above)
  have neC : ∀ b o, X.s₀.heap.get? b = some o → b ∉ X.ex → b ∉ ch := fun b o e hx hb => by
    rcases (hch b hb).1 with z | z
    · exact hx z
    · exact absurd (Nat.lt_of_lt_of_le (Heap.lt_size e) z) (Nat.lt_irrefl _)
  have cellK : ∀ x c, X.env.cells.lookup x = some c → ∀ v, s.heap.IsCell c v → h'.IsCell c v := fun x c e v ⟨o, ho, hd⟩ => by
    have nch : c ∉ ch := fun z => (hch c z).2.2.1 x c e rfl
    by_cases hc : c ∈ X.fs
    · obtain ⟨sl, q⟩ := slot c o (I.cne x c e) hc nch ho (I.freeC x c e)
      exact ⟨_, q, hd⟩
    · exact ⟨o, keep c o (I.cne x c e) hc nch ho (I.freeC x c e), hd⟩
  refine ⟨I.ok, I.os, hg, ⟨fun b o e n hb hx => ?_, fun b o e n hb hx => ?_, fun b o e n hx => ?_, fun b o e hx => ?_, fun b xs e => tups b xs (I.base.tups b xs e), fun b o xs e => frzs b o xs (I.base.frzs b o xs e), fun b ps e => ?_⟩, ?_, fun x c e => ?_, ?_, fun x c e => ?_, fun p hp => ?_, hok, I.len⟩
  · exact keep b o (neL b o e) hb (neC b o e hx) (I.base.keep b o e n hb hx) (I.base.free b o e n hx)
  · obtain ⟨sl, e1⟩ := I.base.slot b o e n hb hx
    obtain ⟨sl', e2⟩ := slot b _ (neL b o e) hb (neC b o e hx) e1 (I.base.free b o e n hx)
    exact ⟨sl', e2⟩
  · obtain ⟨o', e1⟩ := I.base.there b o e hx
    exact free b o' (neC b o e hx) e1 (I.base.free b o e n hx)
  · obtain ⟨o', e1⟩ := I.base.there b o e hx
    exact there b o' (neC b o e hx) e1
  · obtain ⟨m1, e1⟩ := I.base.tbls b ps e
    obtain ⟨m2, e2⟩ := tbls b _ e1
    exact ⟨m1 ++ m2, by rw [e2, Array.append_assoc]⟩
  · obtain ⟨m, hn, hl⟩ := I.loc
    refine ⟨m, ns m hn, fun i x v e1 e2 e3 => ?_⟩
    obtain ⟨u, r, l⟩ := hl i x v e1 e2 e3
    refine ⟨u, r, ?_⟩
    rcases l with l | ⟨k, c, e, z⟩
    · exact .inl l
    · exact .inr ⟨k, c, e, cellK x c e _ z⟩
  · obtain ⟨v, z⟩ := I.cell x c e
    exact ⟨v, cellK x c e v z⟩
  · obtain ⟨m, ⟨o, _, _, ho, _⟩, _⟩ := I.loc
    exact free _ o (fun z => (hch _ z).2.1 rfl) ho I.free
  · obtain ⟨v, o, ho, hd⟩ := I.cell x c e
    exact free c o (fun z => (hch c z).2.2.1 x c e rfl) ho (I.freeC x c e)
  · obtain ⟨e, n, ne, nf, d⟩ := I.pin p hp
    have nch : p.1 ∉ ch := fun z => (hch p.1 z).2.2.2 p hp rfl
    exact ⟨keep p.1 p.2 ne nf nch e n, free p.1 p.2 nch e n, ne, nf, d⟩
theorem Inv.un {t' : Nat} (I : Inv X pins σ H s) (u : Un X.fs [] H H' s.heap h') (hok : HOk X.prog X.w H' h') : Inv X pins σ H' { s with heap := h', toks := t' } := by
  obtain ⟨m, ⟨o, es, ep, ho, r⟩, _⟩ := id I.loc
  obtain ⟨sl, hL⟩ := u.any ho I.free (by simp)
  exact I.step (g' := s.gens) (d' := s.drawn) (ch := []) (fun _ z => nomatch z) (fun b o _ hb _ e n => u.keep b o e n hb (by simp)) (fun b o _ hb _ e n => u.slot b o e n hb (by simp)) (fun b o _ e n => u.free b o e n (by simp)) (fun b o _ e => u.there b o e (by simp)) u.tups u.frzs u.tbls (fun m' hm => by
    obtain ⟨o', es', ep', ho', r'⟩ := hm
    rw [ho] at ho'; cases ho'
    exact ⟨_, es', ep', hL, r'⟩) hok I.bare
theorem Inv.call {g' : Array GenState} {t' : Nat} {d' : Drawn} {ch : List Addr} (I : Inv X pins σ H s) (u : Un (frs X.stack) ch H H' s.heap h') (hok : HOk X.prog X.w H' h') (hg : AllBare g')
    (hch : ∀ b ∈ ch, (b ∈ X.ex ∨ X.s₀.heap.objs.size ≤ b) ∧ b ≠ X.env.locals ∧ (∀ x c, X.env.cells.lookup x = some c → c ≠ b) ∧ ∀ p ∈ X.pn ++ pins, p.1 ≠ b) :
    Inv X pins σ H' { s with heap := h', gens := g', drawn := d', toks := t' } := by
  obtain ⟨m, ⟨o, es, ep, ho, r⟩, _⟩ := id I.loc
  obtain ⟨sl, hL⟩ := u.any ho I.free fun z => (hch _ z).2.1 rfl
  exact I.step (ch := ch) hch (fun b o hL hb hc e n => u.keep b o e n (fun z => (List.mem_cons.mp (I.stkSub b z)).elim hL hb) hc) (fun b o _ _ hc e n => u.any e n hc) (fun b o hc e n => u.free b o e n hc) (fun b o hc e => u.there b o e hc) u.tups u.frzs u.tbls (fun m' hm => by
    obtain ⟨o', es', ep', ho', r'⟩ := hm
    rw [ho] at ho'; cases ho'
    exact ⟨_, es', ep', hL, r'⟩) hok hg
theorem Inv.turned {t' : Nat} {it : Addr} (I : Inv X pins σ H s) (k : ∀ b o, b ≠ it → s.heap.get? b = some o → h'.get? b = some o) (hn : H it = none) (hL : it ≠ X.env.locals)
    (h1 : it ∈ X.ex ∨ X.s₀.heap.objs.size ≤ it) (h2 : ∀ x c, X.env.cells.lookup x = some c → c ≠ it) (h3 : ∀ p ∈ X.pn ++ pins, p.1 ≠ it) : Inv X pins σ H { s with heap := h', toks := t' } := by
  have nit : ∀ b u, H b = some u → b ≠ it := fun b u e z => by rw [z, hn] at e; cases e
  refine I.step (g' := s.gens) (d' := s.drawn) (ch := [it]) (fun b hb => ?_) (fun b o _ _ hc e _ => k b o (fun z => hc (by simp [z])) e) (fun b o _ _ hc e _ => ⟨o.slots, k b o (fun z => hc (by simp [z])) e⟩) (fun _ _ _ _ n => n)
    (fun b o hc e => ⟨o, k b o (fun z => hc (by simp [z])) e⟩) (fun _ _ e => e) (fun _ _ _ e => e) (fun b ps e => ⟨#[], by rw [e]; simp⟩) (fun m hm => ?_) (fun b u e => ?_) I.bare
  · have e : b = it := by simpa using hb
    subst e
    exact ⟨h1, hL, h2, h3⟩
  · obtain ⟨o, es, ep, ho, r⟩ := hm
    exact ⟨o, es, ep, k _ o (Ne.symm hL) ho, r⟩
  · refine (I.hok b u e).stay (fun c v hc q => k c v ?_ q) (fun _ q => q) fun _ _ q => q
    rcases hc with z | z
    · rw [z]; exact nit b u e
    · exact nit c _ z
theorem Inv.tok (I : Inv X pins σ H s) (t : Nat) : Inv X pins σ H { s with toks := t } := I.un (h' := s.heap) (t' := t) Un.refl I.hok
theorem Inv.kept {t' : Nat} (I : Inv X pins σ H s) (k : ∀ b u, s.heap.get? b = some u → h'.get? b = some u) : Inv X pins σ H { s with heap := h', toks := t' } := I.un (Un.kept k) (I.hok.kept k)
theorem Inv.laid {a : Addr} {o : HO} {t' : Nat} (I : Inv X pins σ H s) (k : ∀ b u, s.heap.get? b = some u → h'.get? b = some u) (hp : s.heap.objs.size ≤ a) (new : ObjOk X.prog X.w (upd H a o) h' a o) :
    Inv X pins σ (upd H a o) { s with heap := h', toks := t' } := I.un (Un.laid k hp (I.hok.fresh hp)) (I.hok.laid k hp new)
theorem Inv.write {x e : Addr} {o : HO} {t' : Nat} (I : Inv X pins σ H s) (mu : Mut (H x)) (he : e = x ∨ H e = some (.own x)) (k : ∀ b u, b ≠ e → s.heap.get? b = some u → h'.get? b = some u) (heo : ∃ u, h'.get? e = some u)
    (new : ObjOk X.prog X.w (upd H x o) h' x o) : Inv X pins σ (upd H x o) { s with heap := h', toks := t' } := I.un (Un.write mu he k heo) (I.hok.write mu he k heo new)
theorem Inv.pins_of {pins' : List (Addr × Obj)} (I : Inv X pins σ H s) (h : ∀ p ∈ pins', s.heap.get? p.1 = some p.2 ∧ H p.1 = none ∧ p.1 ≠ X.env.locals ∧ p.1 ∉ X.fs ∧ ∀ v, p.2.data ≠ .cell v) : Inv X pins' σ H s :=
  ⟨I.ok, I.os, I.bare, I.base, I.loc, I.cell, I.free, I.freeC, fun p hp => (List.mem_append.mp hp).elim (fun z => I.pin p (List.mem_append_left _ z)) (h p), I.hok, I.len⟩
theorem qlh {N : List Str} (hN : N.Nodup) {i j : Nat} {x : Str} (a : N[i]? = some x) (b : N[j]? = some x) : i = j := by
  obtain ⟨h1, e1⟩ := List.getElem?_eq_some_iff.mp a
  obtain ⟨h2, e2⟩ := List.getElem?_eq_some_iff.mp b
  exact (List.getElem_inj hN).mp (e1.trans e2.symm)
theorem qjp {M : Model} {A : Around} {E : Value → Shared → Prop} {i : Nat} {x : Str} {v : V} {u : Value} {Q : Unit → Shared → Prop} (I : Inv X pins σ H s) (hN : X.N.Nodup) (hi : X.N[i]? = some x) (hx : Loc X.env.scope x) (r : RelV v u)
    (h : ∀ s', Inv X pins (σ.set i (some v)) H s' → (∃ a, Heap.SameBut a s.heap s'.heap ∧ (a = X.env.locals ∨ X.env.cells.lookup x = some a)) → Q () s') (hf : X.fn x = true ∨ X.env.scope.names.lookup x = some .local := by first | exact .inl rfl | exact .inr rfl | assumption) : wpAny M A (storeName X.env x u) Q E s := by
  obtain ⟨m, hn, hl⟩ := id I.loc
  have hcls : (X.env.scope.kind == .class || (X.env.scope.kind == .module && X.env.locals != X.env.globals)) = false := by rw [I.ok.kind]; rfl
  have hiσ : i < σ.length := by rw [I.len]; exact (List.getElem?_eq_some_iff.mp hi).1
  have cne := I.cne
  have tracked : ∀ {a : Addr} {h' : Heap}, (∃ o, s.heap.get? a = some o ∧ H a = none) → Heap.SameBut a s.heap h' → HOk X.prog X.w H h' := fun {a h'} ha hs b ob e => by
    obtain ⟨_, _, hfree⟩ := ha
    refine (I.hok b ob e).stay (fun c w' hc q => (hs.2 c ?_).trans q) (fun _ q => q) fun _ _ q => q
    rintro rfl
    rcases hc with rfl | hc
    · rw [hfree] at e; cases e
    · rw [hfree] at hc; cases hc
  rcases hx with hk | hk
  · refine wpAny_storeName_local hk hn (fun h' hn' hs => ?_) hcls
    obtain ⟨oL, _, _, hoL, _⟩ := id hn
    refine h _ ⟨I.ok, I.os, I.bare, ⟨fun b o e n hb hx => ?_, fun b o e n hb hx => ?_, I.base.free, fun b o e hx => ?_, I.base.tups, I.base.frzs, I.base.tbls⟩, ⟨_, hn', fun j y v' e1 e2 e3 => ?_⟩, fun y c e => ?_, I.free, I.freeC, fun p hp => ?_, tracked ⟨oL, hoL, I.free⟩ hs, by simpa using I.len⟩ ⟨_, hs, .inl rfl⟩
    · exact (hs.2 b (Nat.ne_of_lt (Nat.lt_of_lt_of_le (Heap.lt_size e) I.ok.above))).trans (I.base.keep b o e n hb hx)
    · obtain ⟨sl, e1⟩ := I.base.slot b o e n hb hx
      exact ⟨sl, (hs.2 b (Nat.ne_of_lt (Nat.lt_of_lt_of_le (Heap.lt_size e) I.ok.above))).trans e1⟩
    · obtain ⟨o', e1⟩ := I.base.there b o e hx
      exact ⟨o', (hs.2 b (Nat.ne_of_lt (Nat.lt_of_lt_of_le (Heap.lt_size e) I.ok.above))).trans e1⟩
    · by_cases hj : j = i
      · subst hj
        rw [hi] at e1; cases e1
        rw [List.getElem?_set_self hiσ] at e2
        cases e2
        exact ⟨u, r, .inl ⟨hk, by simp⟩⟩
      · rw [List.getElem?_set_ne (Ne.symm hj)] at e2
        obtain ⟨u', r', q⟩ := hl j y v' e1 e2 e3
        refine ⟨u', r', ?_⟩
        rcases q with ⟨k, e⟩ | ⟨k, c, e, z⟩
        · refine .inl ⟨k, ?_⟩
          have : y ≠ x := fun e => hj (qlh hN e1 (e ▸ hi))
          simp [this, e]
        · exact .inr ⟨k, c, e, z.sameBut hs (cne y c e)⟩
    · obtain ⟨w', z⟩ := I.cell y c e
      exact ⟨w', z.sameBut hs (cne y c e)⟩
    · obtain ⟨e, n, ne, nf, d⟩ := I.pin p hp
      exact ⟨(hs.2 p.1 ne).trans e, n, ne, nf, d⟩
  · have hfn : X.fn x = true := by
      rcases hf with z | z
      · exact z
      · rw [z] at hk; cases hk
    obtain ⟨c, hc⟩ := I.ok.has x (.inl hk)
    obtain ⟨w', z⟩ := I.cell x c hc
    refine wpAny_storeName_cell I.ok.kind hk hc z (fun h' hc' hs => ?_)
    obtain ⟨oc, hoc, hocd⟩ := id z
    refine h { s with heap := h' } ⟨I.ok, I.os, I.bare, ⟨fun b o e n hb hx => ?_, fun b o e n hb hx => ?_, I.base.free, fun b o e hx => ?_, I.base.tups, I.base.frzs, I.base.tbls⟩, ⟨m, hn.sameBut hs (Ne.symm (cne x c hc)), fun j y v' e1 e2 e3 => ?_⟩, fun y c' e => ?_, I.free, I.freeC, fun p hp => ?_, tracked ⟨oc, hoc, I.freeC x c hc⟩ hs, by simpa using I.len⟩ ⟨c, hs, .inr hc⟩
    · exact (hs.2 b (Nat.ne_of_lt (Nat.lt_of_lt_of_le (Heap.lt_size e) (I.ok.cab x c hfn hc)))).trans (I.base.keep b o e n hb hx)
    · obtain ⟨sl, e1⟩ := I.base.slot b o e n hb hx
      exact ⟨sl, (hs.2 b (Nat.ne_of_lt (Nat.lt_of_lt_of_le (Heap.lt_size e) (I.ok.cab x c hfn hc)))).trans e1⟩
    · obtain ⟨o', e1⟩ := I.base.there b o e hx
      exact ⟨o', (hs.2 b (Nat.ne_of_lt (Nat.lt_of_lt_of_le (Heap.lt_size e) (I.ok.cab x c hfn hc)))).trans e1⟩
    · by_cases hj : j = i
      · subst hj
        rw [hi] at e1; cases e1
        rw [List.getElem?_set_self hiσ] at e2
        cases e2
        exact ⟨u, r, .inr ⟨.inl hk, c, hc, hc'⟩⟩
      · rw [List.getElem?_set_ne (Ne.symm hj)] at e2
        obtain ⟨u', r', q⟩ := hl j y v' e1 e2 e3
        refine ⟨u', r', ?_⟩
        rcases q with q | ⟨k, c', e, z'⟩
        · exact .inl q
        · refine .inr ⟨k, c', e, z'.sameBut hs ?_⟩
          rintro rfl
          exact hj (qlh hN e1 (I.ok.inj _ _ _ e hc ▸ hi))
    · by_cases hcc : c' = c
      · subst hcc; exact ⟨_, hc'⟩
      · obtain ⟨w2, z2⟩ := I.cell y c' e
        exact ⟨w2, z2.sameBut hs hcc⟩
    · obtain ⟨e, n, ne, nf, d⟩ := I.pin p hp
      refine ⟨(hs.2 p.1 ?_).trans e, n, ne, nf, d⟩
      intro q
      rw [q, hoc] at e
      have q' : oc = p.2 := Option.some.inj e
      exact d w' (by rw [← q']; exact hocd)
theorem qeR {M : Model} {A : Around} {E : Value → Shared → Prop} {i : Nat} {x : Str} {v : V} {u : Value} {Q : Unit → Shared → Prop} (I : Inv X pins σ H s) (hN : X.N.Nodup) (hi : X.N[i]? = some x) (hx : Loc X.env.scope x) (r : RelV v u)
    (h : ∀ s', Inv X pins (σ.set i (some v)) H s' → Q () s') (hf : X.fn x = true ∨ X.env.scope.names.lookup x = some .local := by first | exact .inl rfl | exact .inr rfl | assumption) : wpAny M A (storeName X.env x u) Q E s :=
  qjp I hN hi hx r (fun s' I' _ => h s' I') hf
theorem Inv.call' {s' : Shared} {ch : List Addr} (I : Inv X pins σ H s) (ho : s'.os = s.os) (u : Un (frs X.stack) ch H H' s.heap s'.heap) (hok : HOk X.prog X.w H' s'.heap) (hg : AllBare s'.gens)
    (hch : ∀ b ∈ ch, (b ∈ X.ex ∨ X.s₀.heap.objs.size ≤ b) ∧ b ≠ X.env.locals ∧ (∀ x c, X.env.cells.lookup x = some c → c ≠ b) ∧ ∀ p ∈ X.pn ++ pins, p.1 ≠ b) : Inv X pins σ H' s' := by
  obtain ⟨h', g', d', t', o'⟩ := s'
  have e : o' = s.os := ho
  subst e
  exact I.call (g' := g') (t' := t') (d' := d') u hok hg hch
end
noncomputable abbrev XK := Value → Option Addr → Hp → Prop
noncomputable abbrev St := List (Option V)
noncomputable abbrev VK := V → Hp → Prop
noncomputable abbrev TE := St → Hp → VK → Prop
noncomputable abbrev TT := St → Hp → (Bool → Hp → Prop) → Prop
noncomputable abbrev TA := St → Hp → (List V → Hp → Prop) → Prop
structure Ends where
  nx : St → Hp → Prop
  rt : VK
  bk : St → Hp → Prop := fun _ _ => False
  ct : St → Hp → Prop := fun _ _ => False
noncomputable abbrev TS := Ends → St → Hp → Prop
noncomputable def EP (X : Cx) (pins : List (Addr × Obj)) (σ : St) (Q : VK) (u : Value) (s' : Shared) : Prop := ∃ v H', Inv X pins σ H' s' ∧ RelV v u ∧ Q v H'
noncomputable def TP (X : Cx) (pins : List (Addr × Obj)) (σ : St) (Q : Bool → Hp → Prop) (b : Bool) (s' : Shared) : Prop := ∃ H', Inv X pins σ H' s' ∧ Q b H'
noncomputable def AP (X : Cx) (pins : List (Addr × Obj)) (σ : St) (Q : List V → Hp → Prop) (us : List Value) (s' : Shared) : Prop := ∃ vs H', Inv X pins σ H' s' ∧ Vals vs us ∧ Q vs H'
noncomputable def SP (X : Cx) (pins : List (Addr × Obj)) (D : Ends) (f : Flow) (s' : Shared) : Prop :=
  match f with
  | .next => ∃ σ' H', Inv X pins σ' H' s' ∧ D.nx σ' H'
  | .brk => ∃ σ' H', Inv X pins σ' H' s' ∧ D.bk σ' H'
  | .cont => ∃ σ' H', Inv X pins σ' H' s' ∧ D.ct σ' H'
  | .ret u => ∃ v σ' H', Inv X pins σ' H' s' ∧ RelV v u ∧ D.rt v H'
noncomputable def PE (X : Cx) (e : Expr) (t : TE) : Prop :=
  ∀ (pins : List (Addr × Obj)) (s : Shared) (σ : St) (H : Hp) (Q : VK), Inv X pins σ H s → t σ H Q → wpAny (model X.prog X.w) X.A (eval e X.env) (EP X pins σ Q) X.xe s
noncomputable def PT (X : Cx) (e : Expr) (t : TT) : Prop :=
  ∀ (pins : List (Addr × Obj)) (s : Shared) (σ : St) (H : Hp) (Q : Bool → Hp → Prop), Inv X pins σ H s → t σ H Q → wpAny (model X.prog X.w) X.A (isTrue e X.env (eval e X.env)) (TP X pins σ Q) X.xe s
noncomputable def PW (X : Cx) (e : Expr) (t : TT) : Prop :=
  ∀ (whole : Sem Value) (pins : List (Addr × Obj)) (s : Shared) (σ : St) (H : Hp) (Q : Bool → Hp → Prop), Inv X pins σ H s → t σ H Q → wpAny (model X.prog X.w) X.A (isTrue e X.env whole) (TP X pins σ Q) X.xe s
theorem PW.pt {X : Cx} {e : Expr} {t : TT} (h : PW X e t) : PT X e t := h _
noncomputable def PA (X : Cx) (es : List Expr) (t : TA) : Prop :=
  ∀ (pos : Pos) (pins : List (Addr × Obj)) (s : Shared) (σ : St) (H : Hp) (Q : List V → Hp → Prop), Inv X pins σ H s → t σ H Q → wpAny (model X.prog X.w) X.A (spliced (backTo pos (starEach es X.env))) (AP X pins σ Q) X.xe s
noncomputable def PS (X : Cx) (st : Stmt) (t : TS) : Prop :=
  ∀ (pins : List (Addr × Obj)) (s : Shared) (σ : St) (H : Hp) (D : Ends), Inv X pins σ H s → t D σ H → wpAny (model X.prog X.w) X.A (exec st X.env) (SP X pins D) X.xe s
noncomputable def PSs (X : Cx) (st : List Stmt) (t : TS) : Prop :=
  ∀ (pins : List (Addr × Obj)) (s : Shared) (σ : St) (H : Hp) (D : Ends), Inv X pins σ H s → t D σ H → wpAny (model X.prog X.w) X.A (execs st X.env) (SP X pins D) X.xe s
theorem thn {α : Type} {t : Sem α} {Q Q' : α → Shared → Prop} {M : Model} {A : Around} {E : Value → Shared → Prop} {s : Shared} (h : wpAny M A t Q E s) (hQ : ∀ a s, Q a s → Q' a s) : wpAny M A t Q' E s := wpAny_mono h hQ fun _ _ x => x
end L2
namespace L2
open PySem PySem.Spec PyProof.Rows
section
variable {X : Cx}
noncomputable def qaf (i : Nat) : TE := fun σ H Q => ∃ v, σ[i]? = some (some v) ∧ Q v H
noncomputable def tC (v : V) : TE := fun _ H Q => Q v H
theorem qry {i : Nat} {x : Str} {pos : Pos} (hN : X.N[i]? = some x) (hv : Vis X.env.scope x) (hd : (x == ("__debug__" : Str)) = false := by decide) (hcd : (x == ("__classdict__" : Str)) = false := by decide) : PE X (.Name x pos) (qaf i) := by
  intro pins s σ H Q I h
  obtain ⟨v, e, h⟩ := h
  obtain ⟨m, hn, hl⟩ := I.loc
  obtain ⟨u, r, l⟩ := hl i x v hN e hv
  have fin : EP X pins σ Q u s := ⟨v, H, I, r, h⟩
  rcases l with ⟨hk, hm⟩ | ⟨hk, c, hc, hcell⟩
  · exact wpAny_Name (wpAny_loadName_local I.ok.kind hk hn hm fin) hd
  · rcases hk with hk | hk
    · exact wpAny_Name (wpAny_loadName_cell I.ok.kind hk hc hcell fin) hd
    · exact wpAny_Name (wpAny_loadName_free I.ok.kind hk hc hcell fin hcd) hd
theorem qad {i j pos} : PE X (.Constant (.int i) j pos) (tC (.int i)) := fun _ _ _ H _ I h => wpAny_Constant_int ⟨.int i, H, I.tok _, ⟨_, rfl⟩, h⟩
theorem qrz {b j pos} : PE X (.Constant (.bool b) j pos) (tC (.bl b)) := fun _ _ _ H _ I h => Constant_bool ⟨.bl b, H, I, rfl, h⟩
theorem qdM {j pos} : PE X (.Constant .none j pos) (tC .non) := fun _ _ _ H _ I h => Constant_none ⟨.non, H, I, rfl, h⟩
noncomputable def Gl (X : Cx) (x : Str) : Prop := X.env.kindOf x = some .globalImplicit
theorem qmH {E : Value → Shared → Prop} {pins : List (Addr × Obj)} {s : Shared} {σ : St} {H : Hp} {x : Str} {u : Value} {pos : Pos} {Q : Value → Shared → Prop} (I : Inv X pins σ H s) (hg : Gl X x) (hm : X.mg x = some u) (h : Q u s)
    (hd : (x == ("__debug__" : Str)) = false := by decide) : wpAny (model X.prog X.w) X.A (eval (.Name x pos) X.env) Q E s :=
  Calls.Name_function_global I.ok.kind hg (Calls.loadGlobal_global (by rw [I.ok.glob]; exact I.mod.glob.keeps I.bk) hm h) hd
theorem qek {E : Value → Shared → Prop} {pins : List (Addr × Obj)} {s : Shared} {σ : St} {H : Hp} {x : Str} {u : Value} {pos : Pos} {Q : Value → Shared → Prop} (I : Inv X pins σ H s) (hg : Gl X x) (hm : X.mg x = none) (hv : bootBuiltins x = some u) (h : Q u s)
    (hn : x ≠ "__name__" := by decide) (hd : (x == ("__debug__" : Str)) = false := by decide) : wpAny (model X.prog X.w) X.A (eval (.Name x pos) X.env) Q E s := by
  obtain ⟨mb, h1, h2⟩ := I.mod.blt
  exact Calls.Name_function_global I.ok.kind hg (Calls.loadGlobal_builtin (by rw [I.ok.glob]; exact I.mod.glob.keeps I.bk) hm (by rw [I.ok.blt]; exact h1.keeps I.bk) ((h2 x hn).trans hv) h) hd
theorem qqr {x : Str} {v : V} {u : Value} {pos : Pos} (hg : Gl X x) (hm : X.mg x = some u) (r : RelV v u) (hd : (x == ("__debug__" : Str)) = false := by decide) : PE X (.Name x pos) (tC v) :=
  fun _ _ _ H _ I h => qmH I hg hm ⟨v, H, I, r, h⟩ hd
variable {a b : Expr} {ta tb : TE} {pos : Pos}
noncomputable def tB (t : TE) : TT := fun σ H Q => t σ H fun x H1 => ∃ c, x = .bl c ∧ Q c H1
theorem qmI {e : Expr} {t : TE} (h : PE X e t) (he : ∀ whole, isTrue e X.env whole = (do let v ← whole; standAt e.pos; holding [v] (truthy v)) := by intro _; rfl) : PT X e (tB t) := by
  intro pins s σ H Q I hw
  refine isTrue_plain (thn (h pins s σ H _ I hw) fun v s1 ⟨x, H1, I1, r1, q1⟩ => ?_) (he _)
  obtain ⟨d, rfl, q⟩ := q1
  cases r1
  exact wpAny_truthy_bool ⟨H1, I1, q⟩
variable {tA tB' : TT} {rest : List Expr}
noncomputable def qoQ (t u : TT) : TT := fun σ H Q => t σ H fun c H1 => if c = true then u σ H1 Q else Q false H1
noncomputable def tOr (t u : TT) : TT := fun σ H Q => t σ H fun c H1 => if c = true then Q true H1 else u σ H1 Q
noncomputable def qqs (t : TT) : TT := fun σ H Q => t σ H fun c H1 => Q (!c) H1
theorem qfD (ha : PT X a tA) : PW X (.BoolOp .And [a] pos) tA := by
  intro wh pins s σ H Q I h
  refine isTrue_and (thn (ha pins s σ H Q I h) fun c s1 e => ?_)
  cases c with
  | true => exact isTrue_and_nil e
  | false => exact e
theorem qmJ (ha : PT X a tA) : PW X (.BoolOp .Or [a] pos) tA := by
  intro wh pins s σ H Q I h
  refine isTrue_or (thn (ha pins s σ H Q I h) fun c s1 e => ?_)
  cases c with
  | false => exact isTrue_or_nil e
  | true => exact e
theorem qgO (ha : PT X a tA) (hb : PW X (.BoolOp .And (b :: rest) pos) tB') : PW X (.BoolOp .And (a :: b :: rest) pos) (qoQ tA tB') := by
  intro wh pins s σ H Q I h
  refine isTrue_and (thn (ha pins s σ H _ I h) fun c s1 ⟨H1, I1, q1⟩ => ?_)
  cases c with
  | true => exact hb wh pins s1 σ H1 Q I1 q1
  | false => exact ⟨H1, I1, q1⟩
theorem qqt (ha : PT X a tA) (hb : PW X (.BoolOp .Or (b :: rest) pos) tB') : PW X (.BoolOp .Or (a :: b :: rest) pos) (tOr tA tB') := by
  intro wh pins s σ H Q I h
  refine isTrue_or (thn (ha pins s σ H _ I h) fun c s1 ⟨H1, I1, q1⟩ => ?_)
  cases c with
  | true => exact ⟨H1, I1, q1⟩
  | false => exact hb wh pins s1 σ H1 Q I1 q1
theorem qli (ha : PT X a tA) : PT X (.UnaryOp .Not a pos) (qqs tA) := by
  intro pins s σ H Q I h
  exact isTrue_not (ha pins s σ H (fun c H1 => Q (!c) H1) I h)
noncomputable def qrA (ta tb : TE) : TE := fun σ H Q => ta σ H fun x H1 => ∃ c, x = .bl c ∧ if c = true then tb σ H1 Q else Q (.bl false) H1
noncomputable def qty (ta tb : TE) : TE := fun σ H Q => ta σ H fun x H1 => ∃ c, x = .bl c ∧ if c = true then Q (.bl true) H1 else tb σ H1 Q
noncomputable def qrB (ta : TE) : TE := fun σ H Q => ta σ H fun x H1 => ∃ c, x = .bl c ∧ Q (.bl (!c)) H1
noncomputable def tIf (t : TT) (ta tb : TE) : TE := fun σ H Q => t σ H fun c H1 => if c = true then ta σ H1 Q else tb σ H1 Q
theorem qiC {c : Expr} (hc : PT X c tA) (ha : PE X a ta) (hb : PE X b tb) : PE X (.IfExp c a b pos) (tIf tA ta tb) := by
  intro pins s σ H Q I h
  refine wpAny_IfExp (thn (hc pins s σ H _ I h) fun d s1 ⟨H1, I1, q1⟩ => ?_)
  cases d with
  | true => exact ha pins s1 σ H1 Q I1 q1
  | false => exact hb pins s1 σ H1 Q I1 q1
end
end L2
namespace L2
open PySem PySem.Spec PyProof.Rows
noncomputable def SqL (K : PySem.W.Frag) (H : Hp) (a : Addr) (xs : List V) : Prop :=
  Rd H a (.lst xs) ∨
    ∃ (o : Obj) (its : Array Value) (n : Nat), K.lookup a = some o ∧ o.cls = .type "list" ∧ o.dict = none ∧ o.data = .seq its n ∧ its.size ≤ sizeLine ∧ Vals xs its.toList
noncomputable def SqT (K : PySem.W.Frag) (H : Hp) (a : Addr) (xs : List V) : Prop :=
  Rd H a (.tup xs) ∨
    ∃ (o : Obj) (its : Array Value) (n : Nat), K.lookup a = some o ∧ o.cls = .type "tuple" ∧ o.data = .seq its n ∧ its.size ≤ sizeLine ∧ Vals xs its.toList
noncomputable def qtS : Value → Option V
  | .none => some .non
  | .bool b => some (.bl b)
  | .int i _ => some (.int i)
  | .str x _ => some (.str x)
  | .bytes b _ => some (.byt b)
  | .float b _ => some (.flt b)
  | .ref a => some (.ref a)
  | .type n => some (.ty n)
  | _ => none
theorem RelV.abs {x : V} {u : Value} (r : RelV x u) : qtS u = some x := by
  cases x with
  | non => cases r; rfl
  | bl _ => cases r; rfl
  | int _ => obtain ⟨t, rfl⟩ := r; rfl
  | str _ => obtain ⟨t, rfl⟩ := r; rfl
  | byt _ => obtain ⟨t, rfl⟩ := r; rfl
  | flt _ => obtain ⟨t, rfl⟩ := r; rfl
  | ref _ => cases r; rfl
  | ty _ => cases r; rfl
theorem RelV.inj {x y : V} {u : Value} (r : RelV x u) (q : RelV y u) : x = y := Option.some.inj (r.abs.symm.trans q.abs)
theorem Vals.inj : ∀ {xs ys : List V} {us : List Value}, Vals xs us → Vals ys us → xs = ys
  | _, _, _, .nil, .nil => rfl
  | _, _, _, .cons r t, .cons r' t' => by rw [r.inj r', Vals.inj t t']
section
variable {X : Cx} {pins : List (Addr × Obj)} {σ : St} {H : Hp} {s : Shared} {a : Addr} {xs ys : List V}
theorem SqL.of {K : PySem.W.Frag} (h : H a = some (.lst xs)) : SqL K H a xs := .inl (.inl h)
theorem SqT.of {K : PySem.W.Frag} (h : H a = some (.tup xs)) : SqT K H a xs := .inl (.inl h)
theorem Inv.list (I : Inv X pins σ H s) (h : SqL X.K H a xs) : ∃ its : List Value, Vals xs its ∧ PlainL s.heap a its.toArray ∧ xs.length ≤ sizeLine := by
  rcases h with h | ⟨o, its, n, hk, hc, hd, hs, hz, r⟩
  · obtain ⟨z, its, n, r, e⟩ := h.ok I.hok
    exact ⟨its, r, ⟨_, n, e, rfl, rfl, rfl⟩, z⟩
  · refine ⟨its.toList, r, ⟨o, n, I.kIn a o hk, hc, hd, by simpa using hs⟩, ?_⟩
    have e := r.length
    simp only [Array.length_toList] at e
    omega
theorem Inv.tuple (I : Inv X pins σ H s) (h : SqT X.K H a xs) : ∃ its : List Value, Vals xs its ∧ IsTup s.heap a its.toArray ∧ xs.length ≤ sizeLine := by
  rcases h with h | ⟨o, its, n, hk, hc, hs, hz, r⟩
  · obtain ⟨z, its, r, p⟩ := h.ok I.hok
    exact ⟨its, r, p, z⟩
  · refine ⟨its.toList, r, ⟨o, I.kIn a o hk, hc, n, by simpa using hs⟩, ?_⟩
    have e := r.length
    simp only [Array.length_toList] at e
    omega
theorem Inv.list_inj (I : Inv X pins σ H s) (h : SqL X.K H a xs) (h' : SqL X.K H a ys) : xs = ys := by
  obtain ⟨its, r, ⟨o, n, e, _, _, d⟩, _⟩ := I.list h
  obtain ⟨its', r', ⟨o', n', e', _, _, d'⟩, _⟩ := I.list h'
  rw [e] at e'; cases e'
  rw [d] at d'
  injection d' with d1 _
  have : its = its' := by simpa using congrArg Array.toList d1
  subst this
  exact r.inj r'
theorem Inv.tuple_inj (I : Inv X pins σ H s) (h : SqT X.K H a xs) (h' : SqT X.K H a ys) : xs = ys := by
  obtain ⟨its, r, ⟨o, e, _, n, d⟩, _⟩ := I.tuple h
  obtain ⟨its', r', ⟨o', e', _, n', d'⟩, _⟩ := I.tuple h'
  rw [e] at e'; cases e'
  rw [d] at d'
  injection d' with d1 _
  have : its = its' := by simpa using congrArg Array.toList d1
  subst this
  exact r.inj r'
end
noncomputable abbrev Cx.wish (X : Cx) (E : Value → Shared → Prop) : Cx := { X with xe := E }
noncomputable abbrev Cx.nox (X : Cx) : Cx := X.wish fun _ _ => False
theorem Cx.Ok.wish {X : Cx} (ok : X.Ok) (E : Value → Shared → Prop) : (X.wish E).Ok :=
  ⟨ok.mod, ok.kind, ok.glob, ok.blt, ok.above, ok.inj, ok.has, ok.cab, ok.hd, ok.frames, ok.stk, ok.exf, ok.bs, ok.bsz, ok.noex, ok.exfs, ok.funs, ok.frf, ok.seer, ok.tree, ok.plr⟩
theorem Cx.Ok.unwish {X : Cx} {E : Value → Shared → Prop} (ok : (X.wish E).Ok) : X.Ok :=
  ⟨ok.mod, ok.kind, ok.glob, ok.blt, ok.above, ok.inj, ok.has, ok.cab, ok.hd, ok.frames, ok.stk, ok.exf, ok.bs, ok.bsz, ok.noex, ok.exfs, ok.funs, ok.frf, ok.seer, ok.tree, ok.plr⟩
section
variable {X : Cx} {pins : List (Addr × Obj)} {σ : St} {H : Hp} {s : Shared} {E : Value → Shared → Prop}
theorem Inv.wish (I : Inv X pins σ H s) (E : Value → Shared → Prop) : Inv (X.wish E) pins σ H s := ⟨I.ok.wish E, I.os, I.bare, I.base, I.loc, I.cell, I.free, I.freeC, I.pin, I.hok, I.len⟩
theorem Inv.unwish (I : Inv (X.wish E) pins σ H s) : Inv X pins σ H s := ⟨I.ok.unwish, I.os, I.bare, I.base, I.loc, I.cell, I.free, I.freeC, I.pin, I.hok, I.len⟩
theorem SP.unwish {D : Ends} {f : Flow} {s' : Shared} (h : SP (X.wish E) pins D f s') : SP X pins D f s' := by
  cases f with
  | next => obtain ⟨σ', H', I, q⟩ := h; exact ⟨σ', H', I.unwish, q⟩
  | brk => obtain ⟨σ', H', I, q⟩ := h; exact ⟨σ', H', I.unwish, q⟩
  | cont => obtain ⟨σ', H', I, q⟩ := h; exact ⟨σ', H', I.unwish, q⟩
  | ret u => obtain ⟨v, σ', H', I, r, q⟩ := h; exact ⟨v, σ', H', I.unwish, r, q⟩
theorem PE.nox {e : Expr} {t : TE} (h : PE X.nox e t) : PE X e t := fun pins s σ H Q I hw =>
  wpAny_mono (h pins s σ H Q (I.wish _) hw) (fun _ _ ⟨v, H', I', r, q⟩ => ⟨v, H', I'.unwish, r, q⟩) fun _ _ z => False.elim z
theorem PT.nox {e : Expr} {t : TT} (h : PT X.nox e t) : PT X e t := fun pins s σ H Q I hw =>
  wpAny_mono (h pins s σ H Q (I.wish _) hw) (fun _ _ ⟨H', I', q⟩ => ⟨H', I'.unwish, q⟩) fun _ _ z => False.elim z
theorem PSs.nox {st : List Stmt} {t : TS} (h : PSs X.nox st t) : PSs X st t := fun pins s σ H D I hw =>
  wpAny_mono (h pins s σ H D (I.wish _) hw) (fun _ _ q => q.unwish) fun _ _ z => False.elim z
end
section
variable {X : Cx} {st : Stmt} {rest : List Stmt} {t u : TS} {e : Expr} {te : TE} {pos : Pos}
noncomputable def qbz : TS := fun D σ H => D.nx σ H
noncomputable def qaE (t u : TS) : TS := fun D σ H => t { D with nx := u D } σ H
theorem qaR : PSs X [] qbz := fun _ _ σ H _ I h => wpAny_execs_nil ⟨σ, H, I, h⟩
theorem qab (h1 : PS X st t) (h2 : PSs X rest u) : PSs X (st :: rest) (qaE t u) := by
  intro pins s σ H D I h
  refine wpAny_execs_cons (thn (h1 pins s σ H { D with nx := u D } I h) fun f s1 q => ?_)
  cases f with
  | next =>
    obtain ⟨σ', H', I', q⟩ := q
    exact h2 pins s1 σ' H' D I' q
  | ret v => exact q
  | brk => exact q
  | cont => exact q
theorem qah (h1 : PS X st t) : PSs X [st] t := by
  intro pins s σ H D I h
  refine wpAny_execs_cons (thn (h1 pins s σ H D I h) fun f s1 q => ?_)
  cases f with
  | next => exact wpAny_execs_nil q
  | ret v => exact q
  | brk => exact q
  | cont => exact q
theorem Inv.quiet {pins : List (Addr × Obj)} {σ : St} {H : Hp} {s : Shared} (I : Inv X pins σ H s) : interactive X.env = false := by simp [interactive, I.ok.kind]
noncomputable def qeS (te : TE) : TS := fun D σ H => te σ H fun _ H1 => D.nx σ H1
theorem qdN (he : PE X e te) (hs : swapsWith e none pos.line X.env = pure false := by rfl) : PS X (.Expr e pos) (qeS te) := by
  intro pins s σ H D I h
  exact wpAny_Expr_any (thn (he pins s σ H _ I h) fun v s1 ⟨x, H1, I1, r1, q1⟩ => ⟨σ, H1, I1, q1⟩) I.quiet hs
noncomputable def qbK (te : TE) : TS := fun D σ H => te σ H D.rt
theorem qaC (he : PE X e te) : PS X (.Return (some e) pos) (qbK te) := by
  intro pins s σ H D I h
  exact wpAny_Return_some (thn (he pins s σ H _ I h) fun v s1 ⟨x, H1, I1, r1, q1⟩ => ⟨x, σ, H1, I1, r1, q1⟩)
noncomputable def qdK (c : TT) (t u : TS) : TS := fun D σ H => c σ H fun b H1 => if b = true then t D σ H1 else u D σ H1
theorem qbQ {c : Expr} {a b : List Stmt} {tc : TT} (hc : PT X c tc) (ha : PSs X a t) (hb : PSs X b u) : PS X (.If c a b pos) (qdK tc t u) := by
  intro pins s σ H D I h
  refine wpAny_If (thn (hc pins s σ H _ I h) fun d s1 ⟨H1, I1, q1⟩ => ?_)
  cases d with
  | true => exact ha pins s1 σ H1 D I1 q1
  | false => exact hb pins s1 σ H1 D I1 q1
end
noncomputable abbrev TG := V → St → Hp → (St → Hp → Prop) → Prop
noncomputable abbrev TGs := List V → St → Hp → (St → Hp → Prop) → Prop
noncomputable def PG (X : Cx) (target : Expr) (t : TG) : Prop :=
  ∀ (pins : List (Addr × Obj)) (s : Shared) (σ : St) (H : Hp) (v : V) (u : Value) (Q : St → Hp → Prop), Inv X pins σ H s → RelV v u → t v σ H Q →
    wpAny (model X.prog X.w) X.A (assign target X.env u) (fun _ s' => ∃ σ' H', Inv X pins σ' H' s' ∧ Q σ' H') X.xe s
noncomputable def PGs (X : Cx) (ts : List Expr) (t : TGs) : Prop :=
  ∀ (pins : List (Addr × Obj)) (s : Shared) (σ : St) (H : Hp) (vs : List V) (us : List Value) (Q : St → Hp → Prop), Inv X pins σ H s → Vals vs us → t vs σ H Q →
    wpAny (model X.prog X.w) X.A (assignInOrder ((assignEach ts X.env).map (·.2)) us) (fun _ s' => ∃ σ' H', Inv X pins σ' H' s' ∧ Q σ' H') X.xe s
noncomputable abbrev TSet := V → V → V → Hp → (Hp → Prop) → Prop
noncomputable def PSet (X : Cx) (t : TSet) : Prop :=
  ∀ (pins : List (Addr × Obj)) (s : Shared) (σ : St) (H : Hp) (o i v : V) (ov iv u : Value) (Q : Hp → Prop), Inv X pins σ H s → RelV o ov → RelV i iv → RelV v u → t o i v H Q →
    wpAny (model X.prog X.w) X.A (setItem ov iv u) (fun _ s' => ∃ H', Inv X pins σ H' s' ∧ Q H') X.xe s
noncomputable abbrev TIp := V → V → Hp → VK → Prop
noncomputable def PIp (X : Cx) (op : Operator) (t : TIp) : Prop :=
  ∀ (pins : List (Addr × Obj)) (s : Shared) (σ : St) (H : Hp) (x y : V) (v u : Value) (Q : VK), Inv X pins σ H s → RelV x v → RelV y u → t x y H Q →
    wpAny (model X.prog X.w) X.A (inplaceOp op v u) (EP X pins σ Q) X.xe s
section
variable {X : Cx} {pos : Pos}
noncomputable def qaj (i : Nat) : TG := fun v σ H Q => Q (σ.set i (some v)) H
theorem qaA {i : Nat} {x : Str} (hN : X.N.Nodup) (hi : X.N[i]? = some x) (hx : Loc X.env.scope x) (hf : X.fn x = true ∨ X.env.scope.names.lookup x = some .local := by first | exact .inl rfl | exact .inr rfl | assumption) : PG X (.Name x pos) (qaj i) := by
  intro pins s σ H v u Q I r h
  exact wpAny_assign_Name (qeR I hN hi hx r (fun s' I' => ⟨_, H, I', h⟩) hf)
noncomputable def qoV : TGs := fun vs σ H Q => vs = [] ∧ Q σ H
noncomputable def qeu (t : TG) (u : TGs) : TGs := fun vs σ H Q => ∃ v r, vs = v :: r ∧ t v σ H fun σ' H' => u r σ' H' Q
theorem qfE : PGs X [] qoV := by
  intro pins s σ H vs us Q I r h
  obtain ⟨e, h⟩ := h
  subst e
  cases r
  exact assignInOrder_nil ⟨σ, H, I, h⟩
theorem qbI {e : Expr} {es : List Expr} {t : TG} {u : TGs} (h1 : PG X e t) (h2 : PGs X es u)
    (hs : (assignEach (e :: es) X.env).map (·.2) = assign e X.env :: (assignEach es X.env).map (·.2) := by rfl) : PGs X (e :: es) (qeu t u) := by
  intro pins s σ H vs us Q I r h
  obtain ⟨v, vr, e1, h⟩ := h
  subst e1
  cases r with
  | cons r rr =>
    rw [hs]
    refine assignInOrder_cons (thn (h1 pins s σ H _ _ _ I r h) fun _ s1 ⟨σ1, H1, I1, q1⟩ => ?_)
    exact h2 pins s1 σ1 H1 _ _ Q I1 rr q1
noncomputable def qtT (K : PySem.W.Frag) (n : Nat) (t : TGs) : TG := fun v σ H Q => ∃ a xs, v = .ref a ∧ SqT K H a xs ∧ xs.length = n ∧ t xs σ H Q
theorem qrC {es : List Expr} {k : Nat} {t : TGs} {n : Nat} (hc : X.calm = true) (h : PGs X es t)
    (hn : (assignEach es X.env).length = n := by rfl) (hst : (assignEach es X.env).findIdx? (·.1) = none := by rfl) : PG X (.Tuple es k pos) (qtT X.K n t) := by
  intro pins s σ H v u Q I r hw
  obtain ⟨a, xs, e1, hq, hl, hw⟩ := hw
  subst e1
  cases r
  obtain ⟨its, rv, ht, hz⟩ := I.tuple hq
  refine assign_Tuple_tuple (I.ok.hd hc) ht (by simp [hn, ← hl, rv.length]) hst fun h' hx => ?_
  have I1 : Inv X pins σ H { s with heap := h' } := I.kept (t' := s.toks) fun b o e => hx b o (Nat.ne_of_lt (Heap.lt_size e)) e
  exact h pins _ σ H xs _ Q I1 (by simpa using rv) hw
noncomputable def qoR (to ti : TE) (t : TSet) : TG := fun v σ H Q => to σ H fun o H1 => ti σ H1 fun i H2 => t o i v H2 fun H3 => Q σ H3
theorem qgP {o i : Expr} {to ti : TE} {t : TSet} (ho : PE X o to) (hi : PE X i ti) (hs : PSet X t)
    (ha : ∀ v, assign (.Subscript o i pos) X.env v = (do
      let ov ← holding [v] (eval o X.env)
      let iv ← holding [v, ov] (eval i X.env)
      standAt pos
      holding [v, ov, iv] (setItem ov iv v)
      release [v, ov, iv] []) := by intro _; rfl) : PG X (.Subscript o i pos) (qoR to ti t) := by
  intro pins s σ H v u Q I r h
  rw [ha]
  refine wpAny_bind (wpAny_holding (thn (ho pins s σ H _ I h) fun ov s1 ⟨x, H1, I1, r1, q1⟩ => ?_))
  refine wpAny_bind (wpAny_holding (thn (hi pins s1 σ H1 _ I1 q1) fun iv s2 ⟨y, H2, I2, r2, q2⟩ => ?_))
  refine wpAny_bind (wpAny_standAt (wpAny_bind (wpAny_holding (thn (hs pins s2 σ H2 x y v ov iv u _ I2 r1 r2 r q2) fun _ s3 ⟨H3, I3, q3⟩ => ?_))))
  exact wpAny_release ⟨σ, H3, I3, q3⟩
noncomputable def qaL (te : TE) (g : TG) : TS := fun D σ H => te σ H fun x H1 => g x σ H1 D.nx
theorem qgQ {tg e : Expr} {te : TE} {g : TG} (he : PE X e te) (hg : PG X tg g) (hs : swapsWithSole [tg] e pos.line X.env = pure false := by rfl) (hw : swappedStores [tg] e X.env = pure none := by rfl)
    (h1 : (assignEach [tg] X.env).map (·.2) = [assign tg X.env] := by rfl) : PS X (.Assign [tg] e pos) (qaL te g) := by
  intro pins s σ H D I h
  refine wpAny_Assign_stores (thn (he pins s σ H _ I h) fun v s1 ⟨x, H1, I1, r1, q1⟩ => ?_) hs hw
  rw [h1]
  exact thn (hg pins s1 σ H1 x v _ I1 r1 q1) fun _ s2 q => q
theorem qak {i : Nat} {x : Str} {e : Expr} {te : TE} {pos' : Pos} (hN : X.N.Nodup) (hi : X.N[i]? = some x) (hx : Loc X.env.scope x) (he : PE X e te) (hs : swapsWith e (some (.Name x pos')) pos.line X.env = pure false := by rfl) (hf : X.fn x = true ∨ X.env.scope.names.lookup x = some .local := by first | exact .inl rfl | exact .inr rfl | assumption) :
    PS X (.Assign [.Name x pos'] e pos) (qaL te (qaj i)) := by
  intro pins s σ H D I h
  refine wpAny_Assign_Name (thn (he pins s σ H _ I h) fun v s1 ⟨y, H1, I1, r1, q1⟩ => ?_) hs
  exact qeR I1 hN hi hx r1 (fun s2 I2 => ⟨_, H1, I2, q1⟩) hf
noncomputable def qrD (i j : Nat) (ta : TA) : TS := fun D σ H => ta σ H fun vs H1 => ∃ v w, vs = [v, w] ∧ D.nx ((σ.set i (some v)).set j (some w)) H1
theorem qpM {i j : Nat} {x y : Str} {a b : Expr} {ta : TA} {px py pt : Pos} {kt k2 pt2} (hc : X.calm = true) (hN : X.N.Nodup) (hi : X.N[i]? = some x) (hj : X.N[j]? = some y) (hij : i ≠ j)
    (hx : X.env.scope.names.lookup x = some .local) (hy : X.env.scope.names.lookup y = some .local) (ha : PA X [a, b] ta)
    (hw : swappedStores [.Tuple [.Name x px, .Name y py] kt pt] (.Tuple [a, b] k2 pt2) X.env = pure (some [x, y]))
    (hs : swapsWithSole [.Tuple [.Name x px, .Name y py] kt pt] (.Tuple [a, b] k2 pt2) pos.line X.env = pure false := by rfl) :
    PS X (.Assign [.Tuple [.Name x px, .Name y py] kt pt] (.Tuple [a, b] k2 pt2) pos) (qrD i j ta) := by
  intro pins s σ H D I h
  rw [exec_Assign_arm]
  refine wpAny_bind (wpAny_standAt ?_)
  rw [hs]
  refine wpAny_bind (wpAny_pure ?_)
  rw [if_neg (by decide)]
  refine wpAny_bind (Tuple_ (thn (ha _ pins s σ H _ I h) fun us s1 ⟨vs, H1, I1, r1, q1⟩ => ?_))
  obtain ⟨v, w, e1, q1⟩ := q1
  subst e1
  obtain ⟨u1, u2, rfl, rv, rw'⟩ : ∃ u1 u2, us = [u1, u2] ∧ RelV v u1 ∧ RelV w u2 := by
    cases r1 with
    | cons p q =>
      cases q with
      | cons p' q' =>
        cases q'
        exact ⟨_, _, rfl, p, p'⟩
  refine wpAny_newObj_type ?_ (by show 2 ≤ sizeLine; decide)
  have I2 : Inv X pins σ H1 { s1 with heap := s1.heap.push { cls := .type "tuple", data := .seq [u1, u2].toArray } } := I1.kept (t' := s1.toks) fun b o e => Heap.get?_push_of_some _ e
  rw [hw]
  refine wpAny_bind (wpAny_pure ?_)
  show wpAny (model X.prog X.w) X.A (do rule "assign.swapped-stores"; let items ← unpackItems (.ref s1.heap.objs.size) 2 none; assignInOrder [fun v => bindName X.env y v, fun v => bindName X.env x v] items.reverse; pure Flow.next) _ _ _
  refine wpAny_bind (wpAny_rule (wpAny_bind (unpackItems_tuple (items := #[u1, u2]) (I.ok.hd hc) (IsTup.new s1.heap _) fun h' hx' => ?_)))
  have I3 := I2.kept (h' := h') (t' := s1.toks) fun b o e => hx' b o (Nat.ne_of_lt (Heap.lt_size e)) e
  show wpAny _ _ (assignInOrder [fun v => bindName X.env y v, fun v => bindName X.env x v] [u2, u1] >>= fun _ => pure Flow.next) _ _ _
  refine wpAny_bind (assignInOrder_cons (wpAny_bindName (qeR I3 hN hj (.inl hy) rw' (fun s2 I4 => ?_) (.inr hy))))
  refine assignInOrder_cons (wpAny_bindName (qeR I4 hN hi (.inl hx) rv (fun s3 I5 => assignInOrder_nil (wpAny_pure ?_)) (.inr hx)))
  rw [List.set_comm _ _ (Ne.symm hij)] at I5
  exact ⟨_, H1, I5, q1⟩
noncomputable def qmK (i : Nat) (te : TE) (ti : TIp) : TS := fun D σ H => ∃ x, σ[i]? = some (some x) ∧ te σ H fun y H1 => ti x y H1 fun z H2 => D.nx (σ.set i (some z)) H2
theorem qf3 {i : Nat} {x : Str} {e : Expr} {te : TE} {op : Operator} {ti : TIp} {pos' : Pos} (hN : X.N.Nodup) (hi : X.N[i]? = some x) (hx : Loc X.env.scope x) (he : PE X e te) (ho : PIp X op ti) (hf : X.fn x = true ∨ X.env.scope.names.lookup x = some .local := by first | exact .inl rfl | exact .inr rfl | assumption) :
    PS X (.AugAssign (.Name x pos') op e pos) (qmK i te ti) := by
  intro pins s σ H D I h
  obtain ⟨v, e1, h⟩ := h
  obtain ⟨m, hn, hl⟩ := I.loc
  have vis : Vis X.env.scope x := by rcases hx with k | k; exact .inl k; exact .inr (.inl k)
  obtain ⟨u, r, l⟩ := hl i x v hi e1 vis
  refine wpAny_AugAssign_Name ?_
  have go : wpAny (model X.prog X.w) X.A (eval e X.env) (fun w s₂ => wpAny (model X.prog X.w) X.A (inplaceOp op u w) (fun r s₃ => wpAny (model X.prog X.w) X.A (storeName X.env x r) (fun _ => SP X pins D .next) X.xe s₃) X.xe s₂) X.xe s := by
    refine thn (he pins s σ H _ I h) fun w s1 ⟨y, H1, I1, r1, q1⟩ => ?_
    refine thn (ho pins s1 σ H1 v y u w _ I1 r r1 q1) fun z s2 ⟨zv, H2, I2, r2, q2⟩ => ?_
    exact qeR I2 hN hi hx r2 (fun s3 I3 => ⟨_, H2, I3, q2⟩) hf
  rcases l with ⟨hk, hm⟩ | ⟨hk, c, hc, hcell⟩
  · exact wpAny_loadName_local I.ok.kind hk hn hm go
  · rcases hk with hk | hk
    · exact wpAny_loadName_cell I.ok.kind hk hc hcell go
    · rcases hx with k | k
      · have : X.env.scope.names.lookup x = some .free := hk
        rw [k] at this; cases this
      · have : X.env.scope.names.lookup x = some .free := hk
        rw [k] at this; cases this
noncomputable def qkn (to ti te : TE) (tget : V → V → Hp → VK → Prop) (tip : TIp) (tset : TSet) : TS := fun D σ H => to σ H fun o H1 => ti σ H1 fun i H2 => tget o i H2 fun x H3 => te σ H3 fun y H4 => tip x y H4 fun z H5 => tset o i z H5 fun H6 => D.nx σ H6
noncomputable def PGet (X : Cx) (t : V → V → Hp → VK → Prop) : Prop :=
  ∀ (pins : List (Addr × Obj)) (s : Shared) (σ : St) (H : Hp) (o i : V) (ov iv : Value) (Q : VK), Inv X pins σ H s → RelV o ov → RelV i iv → t o i H Q →
    wpAny (model X.prog X.w) X.A (getItem ov iv) (EP X pins σ Q) X.xe s
theorem qiD {o i e : Expr} {to ti te : TE} {tget : V → V → Hp → VK → Prop} {tip : TIp} {tset : TSet} {op : Operator} {tpos : Pos} (ho : PE X o to) (hi : PE X i ti) (hg : PGet X tget) (he : PE X e te) (hp : PIp X op tip) (hs : PSet X tset)
    (ha : ∀ ov iv new, augStore i ov iv new = (do holding [new, ov, iv] (setItem ov iv new); release [new, ov, iv] []; pure .next) := by intros; rfl) : PS X (.AugAssign (.Subscript o i tpos) op e pos) (qkn to ti te tget tip tset) := by
  intro pins s σ H D I h
  refine wpAny_AugAssign_SubscriptAny (thn (ho pins s σ H _ I h) fun ov s1 ⟨x1, H1, I1, r1, q1⟩ => ?_) ha
  refine thn (hi pins s1 σ H1 _ I1 q1) fun iv s2 ⟨x2, H2, I2, r2, q2⟩ => ?_
  refine thn (hg pins s2 σ H2 x1 x2 ov iv _ I2 r1 r2 q2) fun old s3 ⟨x3, H3, I3, r3, q3⟩ => ?_
  refine thn (he pins s3 σ H3 _ I3 q3) fun v s4 ⟨x4, H4, I4, r4, q4⟩ => ?_
  refine thn (hp pins s4 σ H4 x3 x4 old v _ I4 r3 r4 q4) fun new s5 ⟨x5, H5, I5, r5, q5⟩ => ?_
  exact thn (hs pins s5 σ H5 x1 x2 x5 ov iv new _ I5 r1 r2 r5 q5) fun _ s6 ⟨H6, I6, q6⟩ => ⟨σ, H6, I6, q6⟩
end
section
variable {X : Cx} {pos : Pos}
noncomputable def qb7 (c : TT) (tb : TS) : TS := fun D σ H => ∃ W : Nat → St → Hp → Prop, (∃ m, W m σ H) ∧ ∀ m σ H, W m σ H →
  c σ H fun b H1 => if b = true then ∃ N : St → Hp → Prop, (∀ σ' H', N σ' H' → ∃ m', m' < m ∧ W m' σ' H') ∧ tb { D with nx := N, ct := N, bk := D.nx } σ H1 else D.nx σ H1
theorem qbv {c : Expr} {body : List Stmt} {tc : TT} {tb : TS} (hp : PassesOwn (model X.prog X.w) X.A X.env X.xe) (hc : PT X c tc) (hb : PSs X body tb) : PS X (.While c body [] pos) (qb7 tc tb) := by
  intro pins s σ H D I h
  obtain ⟨W, ⟨m0, w0⟩, turn⟩ := h
  refine wpAny_While (codeAny_whileLoop (fun n s' => ∃ σ' H', Inv X pins σ' H' s' ∧ W n σ' H') ?_ m0 ⟨σ, H, I, w0⟩)
  rintro n s1 ⟨σ1, H1, I1, w1⟩
  refine wpAny_passesOwn hp (thn (hc pins s1 σ1 H1 _ I1 (turn n σ1 H1 w1)) fun b s2 ⟨H2, I2, q2⟩ => ?_)
  cases b with
  | true =>
    obtain ⟨N, hN, q2⟩ := q2
    rw [if_pos rfl]
    refine wpAny_passesOwn hp (thn (hb pins s2 σ1 H2 _ I2 q2) fun f s3 q3 => ?_)
    cases f with
    | next =>
      obtain ⟨σ3, H3, I3, n3⟩ := q3
      obtain ⟨m', hm, w3⟩ := hN σ3 H3 n3
      exact ⟨m', hm, σ3, H3, I3, w3⟩
    | cont =>
      obtain ⟨σ3, H3, I3, n3⟩ := q3
      obtain ⟨m', hm, w3⟩ := hN σ3 H3 n3
      exact ⟨m', hm, σ3, H3, I3, w3⟩
    | brk => exact q3
    | ret v => exact q3
  | false =>
    rw [if_neg Bool.false_ne_true]
    exact wpAny_execs_nil ⟨σ1, H2, I2, q2⟩
end
structure It where
  go : Nat → Hp → Prop
  yld : Nat → Hp → V → Hp → Prop
  stop : Nat → Hp → Prop
noncomputable def qko (X : Cx) (pins : List (Addr × Obj)) (H : Hp) (b : Addr) : Prop :=
  H b = none ∧ b ≠ X.env.locals ∧ b ∉ X.fs ∧ (b ∈ X.ex ∨ X.s₀.heap.objs.size ≤ b) ∧ (∀ x c, X.env.cells.lookup x = some c → c ≠ b) ∧ ∀ p ∈ X.pn ++ pins, p.1 ≠ b
theorem Inv.fpOk {X : Cx} {pins : List (Addr × Obj)} {σ : St} {H H' : Hp} {s : Shared} {b : Addr} (I : Inv X pins σ H s) (hb : s.heap.objs.size ≤ b) (hn : H' b = none) : qko X pins H' b := by
  refine ⟨hn, Nat.ne_of_gt (Nat.lt_of_lt_of_le I.lt hb), I.nofs hb, .inr (Nat.le_trans I.sz hb), fun x c e z => ?_, fun p hp z => ?_⟩
  · obtain ⟨v, q⟩ := I.cell x c e
    exact absurd (Nat.lt_of_lt_of_le q.lt (by rw [z]; exact hb)) (Nat.lt_irrefl _)
  · exact absurd (Nat.lt_of_lt_of_le (Heap.lt_size (I.pin p hp).1) (by rw [z]; exact hb)) (Nat.lt_irrefl _)
structure Turn (P : Program) (w : World) (K : PySem.W.Frag) (tg : Expr) (J : It) (fp : List Addr) (it : Addr) (tn : Nat → Heap → Prop) : Prop where
  mem : it ∈ fp
  obj : ∀ i h, tn i h → ∀ b ∈ fp, ∃ o, h.get? b = some o ∧ ∀ v, o.data ≠ .cell v
  keep : ∀ i h h', tn i h → (∀ b ∈ fp, ∀ o, h.get? b = some o → h'.get? b = some o) → tn i h'
  item : ∀ (X : Cx), X.prog = P → X.w = w → X.K = K → X.calm = true → ∀ (i : Nat) (pins : List (Addr × Obj)) (s : Shared) (σ : St) (H : Hp) (E : Value → Shared → Prop), Inv X pins σ H s → (∀ b ∈ fp, qko X pins H b) → tn i s.heap → J.go i H →
    wpAny (model P w) X.A (pyNext (.ref it)) (fun r s1 => ∃ u, r = some u ∧
      wpAny (model P w) X.A (letOwnedTupleGo tg (.ref it) u) (fun _ s2 => ∃ x H', Inv X pins σ H' s2 ∧ RelV x u ∧ J.yld i H x H' ∧ tn (i + 1) s2.heap ∧ ∀ b ∈ fp, H' b = none) E s1) E s
  done : ∀ (X : Cx), X.prog = P → X.w = w → X.K = K → X.calm = true → ∀ (i : Nat) (pins : List (Addr × Obj)) (s : Shared) (σ : St) (H : Hp) (E : Value → Shared → Prop), Inv X pins σ H s → (∀ b ∈ fp, qko X pins H b) → tn i s.heap → J.stop i H →
    wpAny (model P w) X.A (pyNext (.ref it)) (fun r s1 => r = none ∧ Inv X pins σ H s1) E s
  self : ∀ (A : Around) (i : Nat) (s : Shared) (Q : Value → Shared → Prop) (E : Value → Shared → Prop), tn i s.heap → Q (.ref it) s → wpAny (model P w) A (pyIter (.ref it)) Q E s
noncomputable abbrev TI := St → Hp → (It → Hp → Prop) → Prop
noncomputable def PIE (X : Cx) (pins : List (Addr × Obj)) (σ : St) (tg : Expr) (R : It → Hp → Prop) (itv : Value) (s2 : Shared) : Prop :=
  ∃ (it : Addr) (fp : List Addr) (tn : Nat → Heap → Prop) (J : It) (H' : Hp), itv = .ref it ∧ Inv X pins σ H' s2 ∧ Turn X.prog X.w X.K tg J fp it tn ∧ tn 0 s2.heap ∧ (∀ b ∈ fp, qko X pins H' b) ∧ R J H'
noncomputable def PI (X : Cx) (tg iter : Expr) (wi : TI) : Prop :=
  ∀ (pins : List (Addr × Obj)) (s : Shared) (σ : St) (H : Hp) (R : It → Hp → Prop), Inv X pins σ H s → wi σ H R →
    wpAny (model X.prog X.w) X.A (eval iter X.env) (fun v s1 => wpAny (model X.prog X.w) X.A (pyIter v) (PIE X pins σ tg R) X.xe s1) X.xe s
theorem qmL {M : Model} {A : Around} {E : Value → Shared → Prop} {s : Shared} {tg : Expr} {it : Addr} {u : Value} {o : Obj} {n : String} {vs : Array Value} {Q : Unit → Shared → Prop} (ho : s.heap.get? it = some o) (hc : o.cls = .type n) (hd : o.data = .fields vs)
    (hn : ["enumerate", "zip", "dict_itemiterator", "dict_reverseitemiterator", "odict_iterator", "itertools.zip_longest", "itertools.pairwise"].contains n = false) (hQ : Q () s) : wpAny M A (letOwnedTupleGo tg (.ref it) u) Q E s := by
  unfold letOwnedTupleGo
  cases tg <;> first
    | exact wpAny_pure hQ
    | (cases u <;> first
        | exact wpAny_pure hQ
        | (refine wpAny_bind (wpAny_load ho ?_)
           rw [hc, hd]
           show wpAny M A (if (["enumerate", "zip", "dict_itemiterator", "dict_reverseitemiterator", "odict_iterator", "itertools.zip_longest", "itertools.pairwise"].contains n && vs[0]? == some (rawInt _)) = true then _ else _) Q E s
           rw [if_neg (by intro h; rw [hn, Bool.false_and] at h; cases h)]
           exact wpAny_pure hQ))
noncomputable def Itl (K : PySem.W.Frag) (a : Addr) : It :=
  ⟨fun i H => ∃ xs x, SqL K H a xs ∧ xs[i]? = some x, fun i H x H' => H' = H ∧ ∀ xs, SqL K H a xs → xs[i]? = some x, fun i H => ∃ xs, SqL K H a xs ∧ xs.length ≤ i⟩
noncomputable def Itt (K : PySem.W.Frag) (a : Addr) : It :=
  ⟨fun i H => ∃ xs x, SqT K H a xs ∧ xs[i]? = some x, fun i H x H' => H' = H ∧ ∀ xs, SqT K H a xs → xs[i]? = some x, fun i H => ∃ xs, SqT K H a xs ∧ xs.length ≤ i⟩
noncomputable def Itr (lo : Int) (n : Nat) : It := ⟨fun i _ => i < n, fun i H x H' => H' = H ∧ x = .int (lo + i), fun i _ => n ≤ i⟩
theorem qmM {P : Program} {w : World} {K : PySem.W.Frag} {tg : Expr} (a it : Addr) : Turn P w K tg (Itl K a) [it] it (fun i h => h.IsListIter it a i) where
  mem := by simp
  obj := fun i h st b hb => by
    have e : b = it := by simpa using hb
    subst e
    obtain ⟨o, e, c, d⟩ := st
    exact ⟨o, e, fun v z => by rw [d] at z; cases z⟩
  keep := fun i h h' st k => st.at fun o e => k it (by simp) o e
  item := by
    intro X hP hw hK hc i pins s σ H E I hf st hg
    subst hP hw hK
    obtain ⟨xs, x, hq, hx⟩ := hg
    obtain ⟨its, rv, p, hz⟩ := I.list hq
    obtain ⟨u, hu, ru⟩ := rv.get hx
    obtain ⟨f0, f1, f2, f3, f4, f5⟩ := hf it (by simp)
    refine wpAny_pyNext_list_item st p.isList (x := u) (by simpa using hu) fun h' st' sb => ?_
    have I1 : Inv X pins σ H { s with heap := h' } := I.turned (t' := s.toks) (fun b o hb e => (sb.2 b hb).trans e) f0 f1 f3 f4 f5
    obtain ⟨o, e, c, d⟩ := id st'
    exact ⟨u, rfl, qmL (s := { s with heap := h' }) e c d (by decide) ⟨x, H, I1, ru, ⟨rfl, fun ys hy => by rw [I.list_inj hy hq]; exact hx⟩, st', fun b hb => (hf b hb).1⟩⟩
  done := by
    intro X hP hw hK hc i pins s σ H E I hf st hg
    subst hP hw hK
    obtain ⟨xs, hq, hx⟩ := hg
    obtain ⟨its, rv, p, hz⟩ := I.list hq
    obtain ⟨f0, f1, f2, f3, f4, f5⟩ := hf it (by simp)
    have hl := rv.length
    exact wpAny_pyNext_list_end (I.ok.hd hc) st p.isList (by simp; omega) fun h' eb => ⟨rfl, I.turned (t' := s.toks) (fun b o hb e => eb b o hb e) f0 f1 f3 f4 f5⟩
  self := fun _ _ _ _ _ st h => wpAny_pyIter_listiter st h
theorem ql1 {P : Program} {w : World} {K : PySem.W.Frag} {tg : Expr} (a it : Addr) : Turn P w K tg (Itt K a) [it] it (fun i h => h.IsTupleIter it a i) where
  mem := by simp
  obj := fun i h st b hb => by
    have e : b = it := by simpa using hb
    subst e
    obtain ⟨o, e, c, d⟩ := st
    exact ⟨o, e, fun v z => by rw [d] at z; cases z⟩
  keep := fun i h h' st k => st.at fun o e => k it (by simp) o e
  item := by
    intro X hP hw hK hc i pins s σ H E I hf st hg
    subst hP hw hK
    obtain ⟨xs, x, hq, hx⟩ := hg
    obtain ⟨its, rv, p, hz⟩ := I.tuple hq
    obtain ⟨u, hu, ru⟩ := rv.get hx
    obtain ⟨f0, f1, f2, f3, f4, f5⟩ := hf it (by simp)
    refine wpAny_pyNext_tuple_item st (show s.heap.IsTuple a its.toArray from p) (x := u) (by simpa using hu) fun h' st' sb => ?_
    have I1 : Inv X pins σ H { s with heap := h' } := I.turned (t' := s.toks) (fun b o hb e => (sb.2 b hb).trans e) f0 f1 f3 f4 f5
    obtain ⟨o, e, c, d⟩ := id st'
    exact ⟨u, rfl, qmL (s := { s with heap := h' }) e c d (by decide) ⟨x, H, I1, ru, ⟨rfl, fun ys hy => by rw [I.tuple_inj hy hq]; exact hx⟩, st', fun b hb => (hf b hb).1⟩⟩
  done := by
    intro X hP hw hK hc i pins s σ H E I hf st hg
    subst hP hw hK
    obtain ⟨xs, hq, hx⟩ := hg
    obtain ⟨its, rv, p, hz⟩ := I.tuple hq
    obtain ⟨f0, f1, f2, f3, f4, f5⟩ := hf it (by simp)
    have hl := rv.length
    exact wpAny_pyNext_tuple_end (I.ok.hd hc) st (show s.heap.IsTuple a its.toArray from p) (by simp; omega) fun h' eb => ⟨rfl, I.turned (t' := s.toks) (fun b o hb e => eb b o hb e) f0 f1 f3 f4 f5⟩
  self := fun _ _ _ _ _ st h => wpAny_pyIter_tupleiter st h
theorem ql2 {P : Program} {w : World} {K : PySem.W.Frag} {tg : Expr} (it : Addr) (lo : Int) (n : Nat) : Turn P w K tg (Itr lo n) [it] it (fun i h => IsRangeIter h it (lo + (i : Nat) * 1) ((n : Int) - (i : Nat)) 1) where
  mem := by simp
  obj := fun i h st b hb => by
    have e : b = it := by simpa using hb
    subst e
    exact ⟨_, st, fun v z => by
      have z' : Data.fields _ = Data.cell v := z
      cases z'⟩
  keep := fun i h h' st k => k it (by simp) _ st
  item := by
    intro X hP hw hK hc i pins s σ H E I hf st hg
    subst hP hw hK
    obtain ⟨f0, f1, f2, f3, f4, f5⟩ := hf it (by simp)
    have W := Walks.range (prog := X.prog) (w := X.w) (I.ok.hd hc) it lo 1 n
    refine W.item i s _ _ hg st fun v h' tk hv st' kk => ?_
    obtain ⟨t, rfl⟩ := hv
    have I1 : Inv X pins σ H { s with heap := h', toks := tk } := I.turned (fun b o hb e => kk b o (by simpa using hb) e) f0 f1 f3 f4 f5
    refine ⟨_, rfl, qmL (s := { s with heap := h', toks := tk }) (n := "range_iterator") st' rfl rfl (by decide) ⟨.int (lo + i), H, I1, ⟨t, ?_⟩, ⟨rfl, rfl⟩, st', fun b hb => (hf b hb).1⟩⟩
    rw [Int.mul_one]
  done := by
    intro X hP hw hK hc i pins s σ H E I hf st hg
    subst hP hw hK
    obtain ⟨f0, f1, f2, f3, f4, f5⟩ := hf it (by simp)
    exact wpAny_pyNext_range_end (I.ok.hd hc) st (by have : n ≤ i := hg; omega) fun h' eb => ⟨rfl, I.turned (t' := s.toks) (fun b o hb e => eb b o hb e) f0 f1 f3 f4 f5⟩
  self := fun _ _ _ _ _ st h => wpAny_pyIter_rangeiter st h
end L2
namespace L2
open PySem PySem.Spec PyProof.Rows
section
variable {X : Cx} {tg : Expr}
noncomputable def qbR (K : PySem.W.Frag) (tl : TE) : TI := fun σ H R => tl σ H fun x H1 => ∃ a, x = .ref a ∧ (∃ xs, SqL K H1 a xs) ∧ R (Itl K a) H1
noncomputable def qoW (K : PySem.W.Frag) (tl : TE) : TI := fun σ H R => tl σ H fun x H1 => ∃ a, x = .ref a ∧ (∃ xs, SqT K H1 a xs) ∧ R (Itt K a) H1
theorem qbm {l : Expr} {tl : TE} (hl : PE X l tl) : PI X tg l (qbR X.K tl) := by
  intro pins s σ H R I h
  refine thn (hl pins s σ H _ I h) fun v s1 ⟨x, H1, I1, r1, q1⟩ => ?_
  obtain ⟨a, e, ⟨xs, hq⟩, q⟩ := q1
  subst e
  cases r1
  obtain ⟨its, rv, p, hz⟩ := I1.list hq
  refine wpAny_pyIter_list p.isList ?_
  refine ⟨s1.heap.objs.size, [s1.heap.objs.size], _, _, H1, rfl, I1.kept (t' := s1.toks) fun b o e => Heap.get?_push_of_some _ e, qmM a _, ⟨_, Heap.get?_push_size _ rfl, rfl, rfl⟩, fun b hb => ?_, q⟩
  have e : b = s1.heap.objs.size := by simpa using hb
  subst e
  exact I1.fpOk (Nat.le_refl _) (I1.hok.fresh (Nat.le_refl _))
theorem qlj {l : Expr} {tl : TE} (hl : PE X l tl) : PI X tg l (qoW X.K tl) := by
  intro pins s σ H R I h
  refine thn (hl pins s σ H _ I h) fun v s1 ⟨x, H1, I1, r1, q1⟩ => ?_
  obtain ⟨a, e, ⟨xs, hq⟩, q⟩ := q1
  subst e
  cases r1
  obtain ⟨its, rv, p, hz⟩ := I1.tuple hq
  refine wpAny_pyIter_tuple (show s1.heap.IsTuple a its.toArray from p) ?_
  refine ⟨s1.heap.objs.size, [s1.heap.objs.size], _, _, H1, rfl, I1.kept (t' := s1.toks) fun b o e => Heap.get?_push_of_some _ e, ql1 a _, ⟨_, Heap.get?_push_size _ rfl, rfl, rfl⟩, fun b hb => ?_, q⟩
  have e : b = s1.heap.objs.size := by simpa using hb
  subst e
  exact I1.fpOk (Nat.le_refl _) (I1.hok.fresh (Nat.le_refl _))
theorem qlk {pins : List (Addr × Obj)} {σ : St} {H : Hp} {s : Shared} {R : It → Hp → Prop} {E : Value → Shared → Prop} {lo hi : Int} {t u v : Tok} {tk : Nat} (I : Inv X pins σ H s) (h1 : -(2 ^ 62) ≤ lo) (h2 : lo < 2 ^ 62) (h3 : -(2 ^ 62) ≤ hi) (h4 : hi < 2 ^ 62)
    (q : R (Itr lo (hi - lo).toNat) H) : wpAny (model X.prog X.w) X.A (pyIter (.ref s.heap.objs.size)) (PIE X pins σ tg R) E { s with heap := s.heap.push { cls := .type "range", data := .fields #[.int lo t, .int hi u, .int 1 v] }, toks := tk } := by
  refine wpAny_pyIter_range (IsRange.new ..) (small_one h1 h2 h3 h4) ?_
  have I1 : Inv X pins σ H { s with heap := s.heap.push { cls := .type "range", data := .fields #[.int lo t, .int hi u, .int 1 v] }, toks := tk } := I.kept fun b o e => Heap.get?_push_of_some _ e
  refine ⟨(s.heap.push { cls := .type "range", data := .fields #[.int lo t, .int hi u, .int 1 v] }).objs.size, [(s.heap.push { cls := .type "range", data := .fields #[.int lo t, .int hi u, .int 1 v] }).objs.size], _, _, H, rfl,
    I1.kept (t' := tk) fun b o e => Heap.get?_push_of_some _ e, ql2 _ lo (hi - lo).toNat, ?_, fun b hb => ?_, q⟩
  · have e1 : lo + ((0 : Nat) : Int) * 1 = lo := by simp
    have e2 : (((hi - lo).toNat : Nat) : Int) - ((0 : Nat) : Int) = Builtin.Range.rangeSize lo hi 1 := by rw [rangeSize_one]; split <;> omega
    show IsRangeIter _ _ (lo + ((0 : Nat) : Int) * 1) ((((hi - lo).toNat : Nat) : Int) - ((0 : Nat) : Int)) 1
    rw [e1, e2]
    exact Heap.get?_push_size _ rfl
  · have e : b = (s.heap.push { cls := .type "range", data := .fields #[.int lo t, .int hi u, .int 1 v] }).objs.size := by simpa using hb
    subst e
    exact I1.fpOk (Nat.le_refl _) (I1.hok.fresh (Nat.le_refl _))
noncomputable def qkp (ta : TA) : TI := fun σ H R => ta σ H fun vs H1 => ∃ j : Int, vs = [.int j] ∧ -(2 ^ 62) ≤ j ∧ j < 2 ^ 62 ∧ R (Itr 0 j.toNat) H1
noncomputable def ql3 (ta : TA) : TI := fun σ H R => ta σ H fun vs H1 => ∃ i j : Int, vs = [.int i, .int j] ∧ (-(2 ^ 62) ≤ i ∧ i < 2 ^ 62 ∧ -(2 ^ 62) ≤ j ∧ j < 2 ^ 62) ∧ R (Itr i (j - i).toNat) H1
theorem qeT {a : Expr} {ta : TA} {p pos : Pos} (hg : Gl X "range") (hm : X.mg "range" = none) (ha : PA X [a] ta) (hs : starEach [a] X.env = [(false, eval a X.env)] := by rfl) : PI X tg (.Call (.Name "range" p) [a] [] pos) (qkp ta) := by
  intro pins s σ H R I h
  refine Call_ (qek I hg hm boot_range (PyProof.Rows.callWith_type1 (thn (ha pos pins s σ H _ I h) fun us s1 ⟨vs, H1, I1, r1, q1⟩ => ?_) hs rfl))
  obtain ⟨j, e, q1, q2, q⟩ := q1
  subst e
  cases r1 with
  | cons r rr =>
    cases rr
    obtain ⟨t, rfl⟩ := r
    exact call_range_1 (qlk I1 (by omega) (by omega) q1 q2 (by simpa using q))
theorem qgR {a b : Expr} {ta : TA} {p pos : Pos} (hg : Gl X "range") (hm : X.mg "range" = none) (ha : PA X [a, b] ta) (hs : starEach [a, b] X.env = [(false, eval a X.env), (false, eval b X.env)] := by rfl) (hs2 : starEach [b] X.env = [(false, eval b X.env)] := by rfl) :
    PI X tg (.Call (.Name "range" p) [a, b] [] pos) (ql3 ta) := by
  intro pins s σ H R I h
  refine Call_ (qek I hg hm boot_range (PyProof.Rows.callWith_type1 (thn (ha pos pins s σ H _ I h) fun us s1 ⟨vs, H1, I1, r1, q1⟩ => ?_) (by rw [hs, hs2]) (by rw [hs2]; rfl)))
  obtain ⟨i, j, e, ⟨q1, q2, q3, q4⟩, q⟩ := q1
  subst e
  cases r1 with
  | cons r rr =>
    cases rr with
    | cons r' rr =>
      cases rr
      obtain ⟨t, rfl⟩ := r
      obtain ⟨t', rfl⟩ := r'
      exact call_range_2 (qlk I1 q1 q2 q3 q4 q)
noncomputable def qdw (wi : TI) (g : TG) (tb : TS) : TS := fun D σ H => wi σ H fun J H1 => ∃ W : Nat → Nat → St → Hp → Prop, (∃ m, W 0 m σ H1) ∧ ∀ i m σ H, W i m σ H →
  (J.stop i H ∧ D.nx σ H) ∨ (J.go i H ∧ ∃ N : St → Hp → Prop, (∀ σ' H', N σ' H' → ∃ m', m' < m ∧ W (i + 1) m' σ' H') ∧ ∀ x H', J.yld i H x H' → g x σ H' fun σ2 H2 => tb { D with nx := N, ct := N, bk := D.nx } σ2 H2)
noncomputable def qll (fp : List Addr) (h : Heap) : List (Addr × Obj) := fp.filterMap fun b => (h.get? b).map fun o => (b, o)
theorem qdb {fp : List Addr} {h : Heap} {b : Addr} {o : Obj} (hb : b ∈ fp) (e : h.get? b = some o) : (b, o) ∈ qll fp h := List.mem_filterMap.mpr ⟨b, hb, by rw [e]; rfl⟩
theorem qmN {fp : List Addr} {h : Heap} {p : Addr × Obj} (hp : p ∈ qll fp h) : p.1 ∈ fp ∧ h.get? p.1 = some p.2 := by
  obtain ⟨b, hb, e⟩ := List.mem_filterMap.mp hp
  cases q : h.get? b with
  | none => rw [q] at e; cases e
  | some o =>
    rw [q] at e
    have e' : (b, o) = p := Option.some.inj e
    subst e'
    exact ⟨hb, q⟩
theorem Inv.pinned {pins : List (Addr × Obj)} {σ : St} {H : Hp} {s : Shared} {fp : List Addr} (I : Inv X pins σ H s) (hf : ∀ b ∈ fp, qko X pins H b) (ho : ∀ b ∈ fp, ∃ o, s.heap.get? b = some o ∧ ∀ v, o.data ≠ .cell v) : Inv X (pins ++ qll fp s.heap) σ H s :=
  I.pins_of fun p hp => (List.mem_append.mp hp).elim (fun z => I.pin p (List.mem_append_right _ z)) fun z => by
    obtain ⟨hb, e⟩ := qmN z
    obtain ⟨f0, f1, f2, _⟩ := hf p.1 hb
    obtain ⟨o, e', d⟩ := ho p.1 hb
    rw [e] at e'; cases e'
    exact ⟨e, f0, f1, f2, d⟩
theorem Inv.unpinned {pins pl : List (Addr × Obj)} {σ : St} {H : Hp} {s : Shared} (I : Inv X (pins ++ pl) σ H s) : Inv X pins σ H s := I.pins_of fun p hp => I.pin p (List.mem_append_right _ (List.mem_append_left _ hp))
theorem qbw {iter : Expr} {body : List Stmt} {wi : TI} {g : TG} {tb : TS} {pos : Pos} (hp : PassesOwn (model X.prog X.w) X.A X.env X.xe) (hc : X.calm = true) (hi : PI X tg iter wi) (hg : PG X tg g) (hb : PSs X body tb)
    (hs : ∀ x, foldedSetIterable iter X.env x = pure x := by intro _; rfl) : PS X (.For tg iter body [] pos) (qdw wi g tb) := by
  intro pins s σ H D I h
  refine wpAny_For (thn (hi pins s σ H _ I h) fun v s1 h1 => thn h1 fun itv s2 h2 => ?_) hs
  obtain ⟨it, fp, tn, J, H2, e, I2, T, st2, f2, W, ⟨m0, w0⟩, turn⟩ := h2
  subst e
  have stat : ∀ {H' : Hp}, (∀ b ∈ fp, H' b = none) → ∀ b ∈ fp, qko X pins H' b := fun hn b hb => ⟨hn b hb, (f2 b hb).2⟩
  refine codeAny_forLoop_any (fun n s' => ∃ i σ' H', Inv X pins σ' H' s' ∧ tn i s'.heap ∧ (∀ b ∈ fp, H' b = none) ∧ W i n σ' H') ?_ m0 ⟨0, σ, H2, I2, st2, fun b hb => (f2 b hb).1, w0⟩
  rintro n s3 ⟨i, σ3, H3, I3, st3, fr3, w3⟩
  rcases turn i n σ3 H3 w3 with ⟨stop, qn⟩ | ⟨go, N, hN, step⟩
  · refine wpAny_passesOwn hp (thn (T.done X rfl rfl rfl hc i pins s3 σ3 H3 X.xe I3 (stat fr3) st3 stop) fun r s4 ⟨hr, I4⟩ => ?_)
    subst hr
    exact wpAny_execs_nil ⟨σ3, H3, I4, qn⟩
  · refine wpAny_passesOwn hp (thn (T.item X rfl rfl rfl hc i pins s3 σ3 H3 X.xe I3 (stat fr3) st3 go) fun r s4 ⟨u, hr, h4⟩ => ?_)
    subst hr
    refine wpAny_passesOwn hp (thn h4 fun _ s5 ⟨x, H5, I5, r5, y5, st5, fr5⟩ => ?_)
    have I5' := I5.pinned (stat fr5) (T.obj _ _ st5)
    refine wpAny_passesOwn hp (thn (hg _ s5 σ3 H5 x u _ I5' r5 (step x H5 y5)) fun _ s6 ⟨σ6, H6, I6, q6⟩ => ?_)
    refine wpAny_passesOwn hp (thn (hb _ s6 σ6 H6 _ I6 q6) fun f s7 q7 => ?_)
    have again : ∀ {σ7 : St} {H7 : Hp}, Inv X (pins ++ qll fp s5.heap) σ7 H7 s7 → N σ7 H7 → ∃ m, m < n ∧ ∃ i σ' H', Inv X pins σ' H' s7 ∧ tn i s7.heap ∧ (∀ b ∈ fp, H' b = none) ∧ W i m σ' H' := fun {σ7 H7} I7 n7 => by
      obtain ⟨m', hm, w7⟩ := hN σ7 H7 n7
      refine ⟨m', hm, i + 1, σ7, H7, I7.unpinned, T.keep _ _ _ st5 fun b hb o e => (I7.pin (b, o) (List.mem_append_right _ (List.mem_append_right _ (qdb hb e)))).1, fun b hb => ?_, w7⟩
      obtain ⟨o, e, d⟩ := T.obj _ _ st5 b hb
      exact (I7.pin (b, o) (List.mem_append_right _ (List.mem_append_right _ (qdb hb e)))).2.1
    cases f with
    | next => obtain ⟨σ7, H7, I7, n7⟩ := q7; exact again I7 n7
    | cont => obtain ⟨σ7, H7, I7, n7⟩ := q7; exact again I7 n7
    | brk => obtain ⟨σ7, H7, I7, q7⟩ := q7; exact ⟨σ7, H7, I7.unpinned, q7⟩
    | ret v => obtain ⟨x7, σ7, H7, I7, r7, q7⟩ := q7; exact ⟨x7, σ7, H7, I7.unpinned, r7, q7⟩
end
theorem qoX {K : PySem.W.Frag} {a : Addr} {xs : List V} {g : TG} {tb : TS} {D : Ends} {σ : St} {H : Hp} (Pv : Nat → St → Hp → Prop) (h0 : Pv 0 σ H) (hl : ∀ i σ H, i ≤ xs.length → Pv i σ H → SqL K H a xs)
    (hs : ∀ i x σ H, xs[i]? = some x → Pv i σ H → g x σ H fun σ2 H2 => tb { D with nx := Pv (i + 1), ct := Pv (i + 1), bk := D.nx } σ2 H2) (hd : ∀ σ H, Pv xs.length σ H → D.nx σ H) :
    ∃ W : Nat → Nat → St → Hp → Prop, (∃ m, W 0 m σ H) ∧ ∀ i m σ H, W i m σ H →
      ((Itl K a).stop i H ∧ D.nx σ H) ∨ ((Itl K a).go i H ∧ ∃ N : St → Hp → Prop, (∀ σ' H', N σ' H' → ∃ m', m' < m ∧ W (i + 1) m' σ' H') ∧ ∀ x H', (Itl K a).yld i H x H' → g x σ H' fun σ2 H2 => tb { D with nx := N, ct := N, bk := D.nx } σ2 H2) := by
  refine ⟨fun i m σ H => m = xs.length - i ∧ i ≤ xs.length ∧ Pv i σ H, ⟨xs.length, by simp, Nat.zero_le _, h0⟩, ?_⟩
  rintro i m σ H ⟨rfl, hi, p⟩
  have q := hl i σ H hi p
  by_cases hlt : i < xs.length
  · refine .inr ⟨⟨xs, xs[i], q, by simp [hlt]⟩, Pv (i + 1), fun σ' H' p' => ⟨xs.length - (i + 1), by omega, rfl, hlt, p'⟩, fun x H' y => ?_⟩
    obtain ⟨e, y⟩ := y
    subst e
    exact hs i x σ _ (y xs q) p
  · have e : i = xs.length := by omega
    subst e
    exact .inl ⟨⟨xs, q, Nat.le_refl _⟩, hd σ H p⟩
theorem qmO {K : PySem.W.Frag} {a : Addr} {xs : List V} {g : TG} {tb : TS} {D : Ends} {σ : St} {H : Hp} (Pv : Nat → St → Hp → Prop) (h0 : Pv 0 σ H) (hl : ∀ i σ H, i ≤ xs.length → Pv i σ H → SqT K H a xs)
    (hs : ∀ i x σ H, xs[i]? = some x → Pv i σ H → g x σ H fun σ2 H2 => tb { D with nx := Pv (i + 1), ct := Pv (i + 1), bk := D.nx } σ2 H2) (hd : ∀ σ H, Pv xs.length σ H → D.nx σ H) :
    ∃ W : Nat → Nat → St → Hp → Prop, (∃ m, W 0 m σ H) ∧ ∀ i m σ H, W i m σ H →
      ((Itt K a).stop i H ∧ D.nx σ H) ∨ ((Itt K a).go i H ∧ ∃ N : St → Hp → Prop, (∀ σ' H', N σ' H' → ∃ m', m' < m ∧ W (i + 1) m' σ' H') ∧ ∀ x H', (Itt K a).yld i H x H' → g x σ H' fun σ2 H2 => tb { D with nx := N, ct := N, bk := D.nx } σ2 H2) := by
  refine ⟨fun i m σ H => m = xs.length - i ∧ i ≤ xs.length ∧ Pv i σ H, ⟨xs.length, by simp, Nat.zero_le _, h0⟩, ?_⟩
  rintro i m σ H ⟨rfl, hi, p⟩
  have q := hl i σ H hi p
  by_cases hlt : i < xs.length
  · refine .inr ⟨⟨xs, xs[i], q, by simp [hlt]⟩, Pv (i + 1), fun σ' H' p' => ⟨xs.length - (i + 1), by omega, rfl, hlt, p'⟩, fun x H' y => ?_⟩
    obtain ⟨e, y⟩ := y
    subst e
    exact hs i x σ _ (y xs q) p
  · have e : i = xs.length := by omega
    subst e
    exact .inl ⟨⟨xs, q, Nat.le_refl _⟩, hd σ H p⟩
theorem qmP {lo : Int} {n : Nat} {g : TG} {tb : TS} {D : Ends} {σ : St} {H : Hp} (Pv : Nat → St → Hp → Prop) (h0 : Pv 0 σ H)
    (hs : ∀ i σ H, i < n → Pv i σ H → g (.int (lo + i)) σ H fun σ2 H2 => tb { D with nx := Pv (i + 1), ct := Pv (i + 1), bk := D.nx } σ2 H2) (hd : ∀ σ H, Pv n σ H → D.nx σ H) :
    ∃ W : Nat → Nat → St → Hp → Prop, (∃ m, W 0 m σ H) ∧ ∀ i m σ H, W i m σ H →
      ((Itr lo n).stop i H ∧ D.nx σ H) ∨ ((Itr lo n).go i H ∧ ∃ N : St → Hp → Prop, (∀ σ' H', N σ' H' → ∃ m', m' < m ∧ W (i + 1) m' σ' H') ∧ ∀ x H', (Itr lo n).yld i H x H' → g x σ H' fun σ2 H2 => tb { D with nx := N, ct := N, bk := D.nx } σ2 H2) := by
  refine ⟨fun i m σ H => m = n - i ∧ i ≤ n ∧ Pv i σ H, ⟨n, by simp, Nat.zero_le _, h0⟩, ?_⟩
  rintro i m σ H ⟨rfl, hi, p⟩
  by_cases hlt : i < n
  · refine .inr ⟨hlt, Pv (i + 1), fun σ' H' p' => ⟨n - (i + 1), by omega, rfl, hlt, p'⟩, fun x H' y => ?_⟩
    obtain ⟨e, y⟩ := y
    subst e y
    exact hs i σ _ hlt p
  · have e : i = n := by omega
    subst e
    exact .inl ⟨Nat.le_refl _, hd σ H p⟩
theorem while_by {c : TT} {tb : TS} {D : Ends} {σ : St} {H : Hp} (Pv : St → Hp → Prop) (μ : St → Hp → Nat) (h0 : Pv σ H)
    (hs : ∀ σ H, Pv σ H → c σ H fun b H1 => if b = true then tb { D with nx := fun σ' H' => Pv σ' H' ∧ μ σ' H' < μ σ H, ct := fun σ' H' => Pv σ' H' ∧ μ σ' H' < μ σ H, bk := D.nx } σ H1 else D.nx σ H1)
    (mono : ∀ σ H Q Q', (∀ b H1, Q b H1 → Q' b H1) → c σ H Q → c σ H Q') : qb7 c tb D σ H := by
  refine ⟨fun m σ H => m = μ σ H ∧ Pv σ H, ⟨_, rfl, h0⟩, ?_⟩
  rintro m σ H ⟨rfl, p⟩
  refine mono σ H _ _ (fun b H1 q => ?_) (hs σ H p)
  cases b with
  | true => exact ⟨_, fun σ' H' ⟨p', l⟩ => ⟨_, l, rfl, p'⟩, q⟩
  | false => exact q
end L2
namespace L2
open PySem PySem.Spec PyProof.Rows
noncomputable abbrev R2 := V → V → Hp → VK → Prop
noncomputable def OpR (X : Cx) (f : Value → Value → Sem Value) (r : R2) : Prop :=
  ∀ (pins : List (Addr × Obj)) (s : Shared) (σ : St) (H : Hp) (x y : V) (v u : Value) (Q : VK), Inv X pins σ H s → RelV x v → RelV y u → r x y H Q →
    wpAny (model X.prog X.w) X.A (f v u) (EP X pins σ Q) X.xe s
noncomputable def UnR (X : Cx) (f : Value → Sem Value) (r : V → Hp → VK → Prop) : Prop :=
  ∀ (pins : List (Addr × Obj)) (s : Shared) (σ : St) (H : Hp) (x : V) (v : Value) (Q : VK), Inv X pins σ H s → RelV x v → r x H Q →
    wpAny (model X.prog X.w) X.A (f v) (EP X pins σ Q) X.xe s
noncomputable def qdO (X : Cx) (f : Value) (r : List V → Hp → VK → Prop) : Prop :=
  ∀ (pins : List (Addr × Obj)) (s : Shared) (σ : St) (H : Hp) (xs : List V) (us : List Value) (Q : VK), Inv X pins σ H s → Vals xs us → r xs H Q →
    wpAny (model X.prog X.w) X.A (call f us) (EP X pins σ Q) X.xe s
noncomputable def qtU (X : Cx) (r : V → Hp → (Bool → Hp → Prop) → Prop) : Prop :=
  ∀ (pins : List (Addr × Obj)) (s : Shared) (σ : St) (H : Hp) (x : V) (v : Value) (Q : Bool → Hp → Prop), Inv X pins σ H s → RelV x v → r x H Q →
    wpAny (model X.prog X.w) X.A (truthy v) (TP X pins σ Q) X.xe s
noncomputable def tOp (r : R2) (ta tb : TE) : TE := fun σ H Q => ta σ H fun x H1 => tb σ H1 fun y H2 => r x y H2 Q
noncomputable def tUn (r : V → Hp → VK → Prop) (ta : TE) : TE := fun σ H Q => ta σ H fun x H1 => r x H1 Q
noncomputable def rI (C : Int → Int → Prop) (g : Int → Int → V) : R2 := fun x y H Q => ∃ i j, x = .int i ∧ y = .int j ∧ C i j ∧ Q (g i j) H
noncomputable def rI0 (g : Int → Int → V) : R2 := fun x y H Q => ∃ i j, x = .int i ∧ y = .int j ∧ Q (g i j) H
noncomputable def rU (g : Int → V) : V → Hp → VK → Prop := fun x H Q => ∃ i, x = .int i ∧ Q (g i) H
section
variable {X : Cx} {a b c : Expr} {ta tb tc : TE} {pos : Pos}
theorem qsN (ha : PE X a ta) (hb : PE X b tb) {pins : List (Addr × Obj)} {s : Shared} {σ : St} {H : Hp} {R : V → V → Hp → Prop} (I : Inv X pins σ H s)
    (h : ta σ H fun x H1 => tb σ H1 fun y H2 => R x y H2) {Q : Value → Shared → Prop} {f : Value → Value → Sem Value}
    (hf : ∀ v u s2 x y H2, Inv X pins σ H2 s2 → RelV x v → RelV y u → R x y H2 → wpAny (model X.prog X.w) X.A (f v u) Q X.xe s2) :
    wpAny (model X.prog X.w) X.A (eval a X.env) (fun v s₁ => wpAny (model X.prog X.w) X.A (eval b X.env) (fun u s₂ => wpAny (model X.prog X.w) X.A (f v u) Q X.xe s₂) X.xe s₁) X.xe s := by
  refine thn (ha pins s σ H _ I h) fun v s1 ⟨x, H1, I1, r1, q1⟩ => ?_
  refine thn (hb pins s1 σ H1 _ I1 q1) fun u s2 ⟨y, H2, I2, r2, q2⟩ => ?_
  exact hf v u s2 x y H2 I2 r1 r2 q2
theorem qap {op : Operator} {r : R2} (ho : OpR X (binaryOp op) r) (ha : PE X a ta) (hb : PE X b tb) : PE X (.BinOp a op b pos) (tOp r ta tb) := by
  intro pins s σ H Q I h
  exact wpAny_BinOp (qsN ha hb I h fun v u s2 x y H2 I2 rx ry q => ho pins s2 σ H2 x y v u Q I2 rx ry q)
theorem qbG {op : UnaryOp} {r : V → Hp → VK → Prop} (ho : UnR X (unaryOp op) r) (ha : PE X a ta) : PE X (.UnaryOp op a pos) (tUn r ta) := by
  intro pins s σ H Q I h
  exact UnaryOp_ (thn (ha pins s σ H _ I h) fun v s1 ⟨x, H1, I1, r1, q1⟩ => ho pins s1 σ H1 x v Q I1 r1 q1)
theorem opI {f : Value → Value → Sem Value} {C : Int → Int → Prop} {g : Int → Int → Int}
    (rule : ∀ (i j : Int) (t u : Tok) (s : Shared) (Q : Value → Shared → Prop) (E : Value → Shared → Prop), C i j → Q (.int (g i j) s.toks) { s with toks := s.toks + 1 } → wpAny (model X.prog X.w) X.A (f (.int i t) (.int j u)) Q E s) :
    OpR X f (rI C fun i j => .int (g i j)) := by
  intro pins s σ H x y v u Q I rx ry h
  obtain ⟨i, j, rfl, rfl, hc, q⟩ := h
  obtain ⟨t, rfl⟩ := rx
  obtain ⟨t', rfl⟩ := ry
  exact rule i j t t' s _ _ hc ⟨.int (g i j), H, I.tok _, ⟨_, rfl⟩, q⟩
theorem qsG {f : Value → Value → Sem Value} {g : Int → Int → Int}
    (rule : ∀ (i j : Int) (t u : Tok) (s : Shared) (Q : Value → Shared → Prop) (E : Value → Shared → Prop), Q (.int (g i j) s.toks) { s with toks := s.toks + 1 } → wpAny (model X.prog X.w) X.A (f (.int i t) (.int j u)) Q E s) :
    OpR X f (rI0 fun i j => .int (g i j)) := by
  intro pins s σ H x y v u Q I rx ry h
  obtain ⟨i, j, rfl, rfl, q⟩ := h
  obtain ⟨t, rfl⟩ := rx
  obtain ⟨t', rfl⟩ := ry
  exact rule i j t t' s _ _ ⟨.int (g i j), H, I.tok _, ⟨_, rfl⟩, q⟩
theorem qsH {f : Value → Value → Sem Value} {g : Int → Int → Bool}
    (rule : ∀ (i j : Int) (t u : Tok) (s : Shared) (Q : Value → Shared → Prop) (E : Value → Shared → Prop), Q (.bool (g i j)) s → wpAny (model X.prog X.w) X.A (f (.int i t) (.int j u)) Q E s) :
    OpR X f (rI0 fun i j => .bl (g i j)) := by
  intro pins s σ H x y v u Q I rx ry h
  obtain ⟨i, j, rfl, rfl, q⟩ := h
  obtain ⟨t, rfl⟩ := rx
  obtain ⟨t', rfl⟩ := ry
  exact rule i j t t' s _ _ ⟨.bl (g i j), H, I, rfl, q⟩
noncomputable def CPow (i j : Int) : Prop := 0 ≤ j ∧ j ≤ 1000000 ∧ i.natAbs < 2 ^ 64
noncomputable def CMul (i j : Int) : Prop := (-(2 ^ 64) < i ∧ i < 2 ^ 64) ∨ (-(2 ^ 64) < j ∧ j < 2 ^ 64)
theorem CMul.ok {i j : Int} (h : CMul i j) : IntMulOk i j := by
  rcases h with ⟨h1, h2⟩ | ⟨h1, h2⟩
  · exact .of_left (intBits_le_64 h1 h2)
  · exact .of_right (intBits_le_64 h1 h2)
theorem qaY : OpR X (binaryOp .Add) (rI0 fun i j => .int (i + j)) := qsG fun _ _ _ _ _ _ _ q => add_int q
theorem qbF : OpR X (binaryOp .Sub) (rI0 fun i j => .int (i - j)) := qsG fun _ _ _ _ _ _ _ q => sub_int q
theorem qbH : OpR X (binaryOp .Mod) (rI (fun _ j => 0 < j) fun i j => .int (i % j)) := opI fun i j _ _ _ _ _ hc q => by
  have h1 : (0 : Int) < j := hc
  exact mod_int' (by omega) (by rw [Int.fmod_eq_emod_of_nonneg i (by omega)]; exact q)
theorem qqu : OpR X (binaryOp .Mod) (rI (fun _ j => j ≠ 0) fun i j => .int (i.fmod j)) := opI fun _ _ _ _ _ _ _ hc q => mod_int' hc q
theorem op_shl : OpR X (binaryOp .LShift) (rI CPow fun i j => .int (i * 2 ^ j.toNat)) := opI fun _ _ _ _ _ _ _ hc q => lshift_int_small hc.1 hc.2.1 hc.2.2 q
theorem qkq : OpR X (inplaceOp .Add) (rI0 fun i j => .int (i + j)) := qsG fun _ _ _ _ _ _ _ q => iadd_int q
theorem qiE : OpR X (inplaceOp .Sub) (rI0 fun i j => .int (i - j)) := qsG fun _ _ _ _ _ _ _ q => isub_int q
theorem unI {f : Value → Sem Value} {g : Int → Int}
    (rule : ∀ (i : Int) (t : Tok) (s : Shared) (Q : Value → Shared → Prop) (E : Value → Shared → Prop), Q (.int (g i) s.toks) { s with toks := s.toks + 1 } → wpAny (model X.prog X.w) X.A (f (.int i t)) Q E s) :
    UnR X f (rU fun i => .int (g i)) := by
  intro pins s σ H x v Q I rx h
  obtain ⟨i, rfl, q⟩ := h
  obtain ⟨t, rfl⟩ := rx
  exact rule i t s _ _ ⟨.int (g i), H, I.tok _, ⟨_, rfl⟩, q⟩
theorem qaZ : UnR X (unaryOp .USub) (rU fun i => .int (-i)) := unI fun _ _ _ _ _ q => neg_int q
end
noncomputable def scal : V → V → Bool
  | .non, .non => true | .non, .int _ => true | .int _, .non => true | .non, .bl _ => true | .bl _, .non => true | .non, .str _ => true | .str _, .non => true
  | .int _, .int _ => true | .bl _, .bl _ => true | .str _, .str _ => true | .byt _, .byt _ => true
  | .int _, .str _ => true | .str _, .int _ => true | .bl _, .str _ => true | .str _, .bl _ => true
  | _, _ => false
noncomputable def rEq : R2 := fun x y H Q => scal x y = true ∧ Q (.bl (decide (x = y))) H
noncomputable def rNe : R2 := fun x y H Q => scal x y = true ∧ Q (.bl (!decide (x = y))) H
theorem qmQ {i j : Int} : decide (V.int i = V.int j) = (i == j) := by
  rw [Bool.eq_iff_iff]
  simp
theorem qpN {i j : Bool} : decide (V.bl i = V.bl j) = (i == j) := by
  rw [Bool.eq_iff_iff]
  simp
theorem qmR {i j : Str} : decide (V.str i = V.str j) = (i == j) := by
  rw [Bool.eq_iff_iff]
  simp
theorem qmS {i j : Array UInt8} : decide (V.byt i = V.byt j) = (i.toList == j.toList) := by
  rw [Bool.eq_iff_iff]
  cases i
  cases j
  simp
section
variable {X : Cx} {a b c : Expr} {ta tb tc : TE} {pos : Pos}
theorem qa0 {pins : List (Addr × Obj)} {σ : St} {H : Hp} {s : Shared} {Q : VK} {k k' : Bool} (I : Inv X pins σ H s) (q : Q (.bl k) H) (e : k = k') : EP X pins σ Q (.bool k') s := by
  subst e
  exact ⟨.bl k, H, I, rfl, q⟩
theorem qdk : OpR X (compareOp .Eq) rEq := by
  intro pins s σ H x y v u Q I rx ry h
  obtain ⟨hs, q⟩ := h
  cases x with
  | non =>
    cases rx
    cases y with
    | non => cases ry; exact PySem.EqNone.eq_none_none (qa0 I q (by simp))
    | bl j => cases ry; exact PySem.EqNone.eq_none_bool (qa0 I q (by simp))
    | int j => obtain ⟨t', rfl⟩ := ry; exact PySem.EqNone.eq_none_int (qa0 I q (by simp))
    | str j => obtain ⟨t', rfl⟩ := ry; exact PySem.EqNone.eq_none_str (qa0 I q (by simp))
    | _ => exact absurd (show false = true from hs) Bool.false_ne_true
  | bl i =>
    cases rx
    cases y with
    | non => cases ry; exact PySem.EqNone.eq_bool_none (qa0 I q (by simp))
    | bl j => cases ry; exact eq_bool (qa0 I q qpN)
    | str j => obtain ⟨t', rfl⟩ := ry; exact PySem.EqMixed.eq_bool_str (qa0 I q (by simp))
    | _ => exact absurd (show false = true from hs) Bool.false_ne_true
  | int i =>
    obtain ⟨t, rfl⟩ := rx
    cases y with
    | non => cases ry; exact PySem.EqNone.eq_int_none (qa0 I q (by simp))
    | int j => obtain ⟨t', rfl⟩ := ry; exact eq_int (qa0 I q qmQ)
    | str j => obtain ⟨t', rfl⟩ := ry; exact PySem.EqMixed.eq_int_str (qa0 I q (by simp))
    | _ => exact absurd (show false = true from hs) Bool.false_ne_true
  | str i =>
    obtain ⟨t, rfl⟩ := rx
    cases y with
    | non => cases ry; exact PySem.EqNone.eq_str_none (qa0 I q (by simp))
    | bl j => cases ry; exact PySem.EqMixed.eq_str_bool (qa0 I q (by simp))
    | int j => obtain ⟨t', rfl⟩ := ry; exact PySem.EqMixed.eq_str_int (qa0 I q (by simp))
    | str j => obtain ⟨t', rfl⟩ := ry; exact eq_str (qa0 I q qmR)
    | _ => exact absurd (show false = true from hs) Bool.false_ne_true
  | byt i =>
    obtain ⟨t, rfl⟩ := rx
    cases y with
    | byt j => obtain ⟨t', rfl⟩ := ry; exact PySem.W.eq_bytes (qa0 I q qmS)
    | _ => exact absurd (show false = true from hs) Bool.false_ne_true
  | _ => cases y <;> exact absurd (show false = true from hs) Bool.false_ne_true
theorem qiF : OpR X (compareOp .NotEq) rNe := by
  intro pins s σ H x y v u Q I rx ry h
  obtain ⟨hs, q⟩ := h
  cases x with
  | non =>
    cases rx
    cases y with
    | non => cases ry; exact PySem.EqNone.ne_none_none (qa0 I q (by simp))
    | bl j => cases ry; exact PySem.EqNone.ne_none_bool (qa0 I q (by simp))
    | int j => obtain ⟨t', rfl⟩ := ry; exact PySem.EqNone.ne_none_int (qa0 I q (by simp))
    | str j => obtain ⟨t', rfl⟩ := ry; exact PySem.EqNone.ne_none_str (qa0 I q (by simp))
    | _ => exact absurd (show false = true from hs) Bool.false_ne_true
  | bl i =>
    cases rx
    cases y with
    | non => cases ry; exact PySem.EqNone.ne_bool_none (qa0 I q (by simp))
    | bl j => cases ry; exact ne_bool (qa0 I q (congrArg not qpN))
    | str j => obtain ⟨t', rfl⟩ := ry; exact PySem.EqMixed.ne_bool_str (qa0 I q (by simp))
    | _ => exact absurd (show false = true from hs) Bool.false_ne_true
  | int i =>
    obtain ⟨t, rfl⟩ := rx
    cases y with
    | non => cases ry; exact PySem.EqNone.ne_int_none (qa0 I q (by simp))
    | int j => obtain ⟨t', rfl⟩ := ry; exact ne_int (qa0 I q (congrArg not qmQ))
    | str j => obtain ⟨t', rfl⟩ := ry; exact PySem.EqMixed.ne_int_str (qa0 I q (by simp))
    | _ => exact absurd (show false = true from hs) Bool.false_ne_true
  | str i =>
    obtain ⟨t, rfl⟩ := rx
    cases y with
    | non => cases ry; exact PySem.EqNone.ne_str_none (qa0 I q (by simp))
    | bl j => cases ry; exact PySem.EqMixed.ne_str_bool (qa0 I q (by simp))
    | int j => obtain ⟨t', rfl⟩ := ry; exact PySem.EqMixed.ne_str_int (qa0 I q (by simp))
    | str j => obtain ⟨t', rfl⟩ := ry; exact ne_str (qa0 I q (congrArg not qmR))
    | _ => exact absurd (show false = true from hs) Bool.false_ne_true
  | byt i =>
    obtain ⟨t, rfl⟩ := rx
    cases y with
    | byt j => obtain ⟨t', rfl⟩ := ry; exact PySem.W.ne_bytes (qa0 I q (congrArg not qmS))
    | _ => exact absurd (show false = true from hs) Bool.false_ne_true
  | _ => cases y <;> exact absurd (show false = true from hs) Bool.false_ne_true
theorem qmT : OpR X (compareOp .Lt) (rI0 fun i j => .bl (decide (i < j))) := qsH fun _ _ _ _ _ _ _ q => lt_int q
theorem qrE : OpR X (compareOp .LtE) (rI0 fun i j => .bl (decide (i ≤ j))) := qsH fun _ _ _ _ _ _ _ q => le_int q
theorem qiG : OpR X (compareOp .Gt) (rI0 fun i j => .bl (decide (j < i))) := qsH fun _ _ _ _ _ _ _ q => gt_int q
theorem qsO : OpR X (compareOp .GtE) (rI0 fun i j => .bl (decide (j ≤ i))) := qsH fun _ _ _ _ _ _ _ q => ge_int q
theorem qmU : OpR X (compareOp .Is) (fun x y H Q => y = .non ∧ Q (.bl (decide (x = .non))) H) := by
  intro pins s σ H x y v u Q I rx ry h
  obtain ⟨rfl, q⟩ := h
  cases ry
  refine is_none_gen (qa0 I q ?_)
  cases x <;> first
    | (cases rx; rfl)
    | (obtain ⟨t, rfl⟩ := rx; rfl)
theorem qmV : OpR X (compareOp .IsNot) (fun x y H Q => y = .non ∧ Q (.bl (!decide (x = .non))) H) := by
  intro pins s σ H x y v u Q I rx ry h
  obtain ⟨rfl, q⟩ := h
  cases ry
  refine isnot_none_gen (qa0 I q ?_)
  cases x <;> first
    | (cases rx; rfl)
    | (obtain ⟨t, rfl⟩ := rx; rfl)
theorem nomark (b : Expr) {op : CmpOp} (h : op ≠ .In := by decide) (h2 : op ≠ .NotIn := by decide) : behindInMarks op b = false := by
  have e1 : (op == CmpOp.In) = false := by cases op <;> first | rfl | exact absurd rfl h
  have e2 : (op == CmpOp.NotIn) = false := by cases op <;> first | rfl | exact absurd rfl h2
  cases b <;> simp [behindInMarks, e1, e2]
theorem qkr {op : CmpOp} {r : R2} (ho : OpR X (compareOp op) r) (ha : PE X a ta) (hb : PE X b tb) (hm : behindInMarks op b = false) : PE X (.Compare a [op] [b] pos) (tOp r ta tb) := by
  intro pins s σ H Q I h
  exact wpAny_Compare1 (qsN ha hb I h fun v u s2 x y H2 I2 rx ry q => ho pins s2 σ H2 x y v u Q I2 rx ry q) hm
noncomputable def qaU (t : TE) : TT := fun σ H Q => t σ H fun x H' => ∃ k, x = .bl k ∧ Q k H'
theorem qaz {op : CmpOp} {r : R2} (ho : OpR X (compareOp op) r) (ha : PE X a ta) (hb : PE X b tb) (hm : behindInMarks op b = false) : PT X (.Compare a [op] [b] pos) (qaU (tOp r ta tb)) := by
  intro pins s σ H Q I h
  refine wpAny_isTrue_Compare1 (thn (ha pins s σ H _ I h) fun v s1 ⟨x, H1, I1, r1, q1⟩ => thn (hb pins s1 σ H1 _ I1 q1) fun u s2 ⟨y, H2, I2, r2, q2⟩ =>
    thn (ho pins s2 σ H2 x y v u _ I2 r1 r2 q2) fun c s3 ⟨z, H3, I3, r3, k, e, q3⟩ => ?_) hm
  subst e
  cases r3
  exact wpAny_truthy_bool ⟨H3, I3, q3⟩
noncomputable def qpO (r r' : R2) (ta tb tc : TE) : TE := fun σ H Q => ta σ H fun x H1 => tb σ H1 fun y H2 => r x y H2 fun z H3 => ∃ k, z = .bl k ∧
  (if k = true then tc σ H3 fun w' H4 => r' y w' H4 Q else Q (.bl false) H3)
noncomputable def qtV (K : PySem.W.Frag) (x : V) (H : Hp) (k : Bool) : Prop :=
  match x with
  | .non => k = false
  | .bl b => k = b
  | .int i => k = (i != 0)
  | .str y => y.length ≤ sizeLine ∧ k = ((y.length : Int) != 0)
  | .byt y => y.size ≤ sizeLine ∧ k = ((y.size : Int) != 0)
  | .ref p => (∃ xs, SqL K H p xs ∧ k = !xs.isEmpty) ∨ (∃ xs, SqT K H p xs ∧ k = !xs.isEmpty) ∨ ∃ kvs, H p = some (.dK kvs) ∧ k = !kvs.isEmpty
  | _ => False
theorem ql4 {κ : Type} {kvs : List (κ × V)} {vs : List (κ × Value)} (r : KV kvs vs) : (!vs.isEmpty) = !kvs.isEmpty := by
  cases r <;> rfl
theorem qia {xs : List V} {its : List Value} (r : Vals xs its) : (!its.toArray.isEmpty) = !xs.isEmpty := by
  cases r <;> simp
theorem qib : (sizeLine : Nat) < 2 ^ 63 := by rw [sizeLine_eq]; decide
theorem qrF : qtU X (fun x H Q => ∃ k, qtV X.K x H k ∧ Q k H) := by
  intro pins s σ H x v Q I rx h
  obtain ⟨k, e, q⟩ := h
  have hl := qib
  have hs : sizeLine = 16777216 := sizeLine_eq
  cases x with
  | non =>
    cases rx
    have e' : k = false := e
    subst e'
    exact truthy_none ⟨H, I, q⟩
  | bl b =>
    cases rx
    have e' : k = b := e
    subst e'
    exact wpAny_truthy_bool ⟨H, I, q⟩
  | int i =>
    obtain ⟨t, rfl⟩ := rx
    have e' : k = (i != 0) := e
    subst e'
    exact PySem.P.truthy_int ⟨H, I, q⟩
  | str y =>
    obtain ⟨t, rfl⟩ := rx
    obtain ⟨hy, e'⟩ : y.length ≤ sizeLine ∧ k = ((y.length : Int) != 0) := e
    subst e'
    exact PySem.P.truthy_str (by omega) ⟨H, I.tok _, q⟩
  | byt y =>
    obtain ⟨t, rfl⟩ := rx
    obtain ⟨hy, e'⟩ : y.size ≤ sizeLine ∧ k = ((y.size : Int) != 0) := e
    subst e'
    exact PySem.W.truthy_bytes (by omega) ⟨H, I.tok _, q⟩
  | ref p =>
    cases rx
    have e' : (∃ xs, SqL X.K H p xs ∧ k = !xs.isEmpty) ∨ (∃ xs, SqT X.K H p xs ∧ k = !xs.isEmpty) ∨ ∃ kvs, H p = some (.dK kvs) ∧ k = !kvs.isEmpty := e
    rcases e' with ⟨xs, hx, e'⟩ | ⟨xs, hx, e'⟩ | ⟨kvs, hx, e'⟩
    · subst e'
      obtain ⟨its, r, pl, hz⟩ := I.list hx
      have hlen := r.length
      exact wpAny_truthy_list pl.isList (by simp only [List.size_toArray]; omega) ⟨H, I.tok _, by rw [qia r]; exact q⟩
    · subst e'
      obtain ⟨its, r, pl, hz⟩ := I.tuple hx
      have hlen := r.length
      exact truthy_tuple pl (by simp only [List.size_toArray]; omega) ⟨H, I.tok _, by rw [qia r]; exact q⟩
    · subst e'
      obtain ⟨hz, hS, vs, r, m⟩ : kvs.length ≤ sizeLine ∧ (p == sysModules) = false ∧ ∃ vs, KV kvs vs ∧ s.heap.DictOf (qiB X.prog X.w) p vs := I.hok p _ hx
      have hlen : kvs.length = vs.length := Paired.length r
      exact wpAny_truthy_dict hS m (by omega) ⟨H, I.tok _, by rw [ql4 r]; exact q⟩
  | _ => exact (show False from e).elim
theorem qfF {x : V} {us : List Value} (r : Vals [x] us) : ∃ u, us = [u] ∧ RelV x u := by
  cases r with
  | cons r1 r2 => cases r2; exact ⟨_, rfl, r1⟩
theorem vals2 {x y : V} {us : List Value} (r : Vals [x, y] us) : ∃ u w', us = [u, w'] ∧ RelV x u ∧ RelV y w' := by
  cases r with
  | cons r1 r2 =>
    cases r2 with
    | cons r3 r4 => cases r4; exact ⟨_, _, rfl, r1, r3⟩
theorem qoY : qdO X (.builtin "abs") (fun xs H Q => ∃ i, xs = [.int i] ∧ Q (.int (if i < 0 then -i else i)) H) := by
  intro pins s σ H xs us Q I r h
  obtain ⟨i, rfl, q⟩ := h
  obtain ⟨u, rfl, t, rfl⟩ := qfF r
  exact call_abs_int fun u tk => ⟨.int (if i < 0 then -i else i), H, I.tok _, ⟨_, rfl⟩, q⟩
theorem qmW (hc : X.calm = true) : qdO X (.builtin "max") (fun xs H Q => ∃ i j, xs = [.int i, .int j] ∧ Q (.int (if j > i then j else i)) H) := by
  intro pins s σ H xs us Q I r h
  obtain ⟨i, j, rfl, q⟩ := h
  obtain ⟨u, w', rfl, ⟨t, rfl⟩, ⟨t', rfl⟩⟩ := vals2 r
  refine max_two_ints (I.ok.hd hc) fun h' tk k => ⟨_, H, I.kept k, ?_, q⟩
  by_cases hj : j > i
  · rw [if_pos hj, if_pos hj]; exact ⟨_, rfl⟩
  · rw [if_neg hj, if_neg hj]; exact ⟨_, rfl⟩
theorem qmX : qdO X (.type "int") (fun xs H Q => (∃ i, xs = [.int i] ∧ Q (.int i) H) ∨ ∃ k, xs = [.bl k] ∧ Q (.int (if k then 1 else 0)) H) := by
  intro pins s σ H xs us Q I r h
  rcases h with ⟨i, rfl, q⟩ | ⟨k, rfl, q⟩
  · obtain ⟨u, rfl, t, rfl⟩ := qfF r
    exact call_int_int ⟨.int i, H, I, ⟨_, rfl⟩, q⟩
  · obtain ⟨u, rfl, r1⟩ := qfF r
    cases r1
    exact call_int_bool ⟨.int (if k then 1 else 0), H, I.tok _, ⟨_, rfl⟩, q⟩
end
end L2
namespace L2
open PySem PySem.Spec PyProof.Rows
structure ObjM (h : Heap) (x dx C : Addr) (mA : Str → Option Value) : Prop where
  obj : h.get? x = some (PySem.W.instObj C dx)
  ns : h.Ns1 dx mA
  ne : dx ≠ x
section
variable {prog : Program} {w : World} {A : Around} {E : Value → Shared → Prop} {s : Shared} {K : PySem.W.Frag} {x dx C f : Addr} {mA : Str → Option Value} {name : Str} {v : Value}
end
section
variable {P : Program} {w : World} {H H' : Hp} {h h' : Heap} {a C dx : Addr} {fs fs' : List (Str × V)}
end
structure Cls (K : PySem.W.Frag) (C : Addr) : Prop where
  pg : PySem.W.plainGet K C Str.empty = true
  hd : PySem.W.hasDictIn K C = true
  po : PySem.W.plainOver K C = true
  sa : PySem.W.findIn K (.ref C) "__setattr__" = some (some (.builtin "object.__setattr__"))
theorem Cls.get {K : PySem.W.Frag} {C : Addr} (c : Cls K C) (f : Str) : PySem.W.plainGet K C f = true := c.pg
structure Con (K : PySem.W.Frag) (C : Addr) (f : Str) (v : V) (u : Value) : Prop where
  at_ : PySem.W.findIn K (.ref C) f = some (some u)
  rel : RelV v u
  get : PySem.W.specialIn K u "__get__" = some none
  cp : PySem.W.copiedNames.contains f = false
structure Meth (K : PySem.W.Frag) (C : Addr) (m : Str) (f : Addr) : Prop where
  at_ : PySem.W.findIn K (.ref C) m = some (some (.ref f))
  fn : PySem.W.isFn K (.ref f) = true
  kp : PySem.W.keepIn K (.ref f) = true
section
variable {X : Cx} {pins : List (Addr × Obj)} {σ : St} {H : Hp} {s : Shared} {a C dx : Addr} {fs : List (Str × V)} {f : Str} {v : V} {A : Around} {E : Value → Shared → Prop}
end
section
variable {X : Cx} {o e value : Expr} {f : Str} {pos pos' tpos : Pos} {ta tv : TE}
end
section
variable {X : Cx} {pins : List (Addr × Obj)} {σ : St} {H : Hp} {s : Shared} {A : Around} {E : Value → Shared → Prop} {Q : Value → Shared → Prop} {c : Value} {b : Bool}
inductive TyOf (K : PySem.W.Frag) (H : Hp) : V → Value → Prop where
  | non : TyOf K H .non (.type "NoneType")
  | bl (x : Bool) : TyOf K H (.bl x) (.type "bool")
  | int (i : Int) : TyOf K H (.int i) (.type "int")
  | str (x : Str) : TyOf K H (.str x) (.type "str")
  | flt (x : UInt64) : TyOf K H (.flt x) (.type "float")
  | lst {a : Addr} {xs : List V} (e : H a = some (.lst xs)) : TyOf K H (.ref a) (.type "list")
  | frz {a : Addr} {o : Obj} {xs : List V} (e : H a = some (.frz o (.lst xs))) : TyOf K H (.ref a) (.type "list")
  | tup {a : Addr} {xs : List V} (e : H a = some (.tup xs)) : TyOf K H (.ref a) (.type "tuple")
  | dK {a : Addr} {kvs : List (Key × V)} (e : H a = some (.dK kvs)) : TyOf K H (.ref a) (.type "dict")
  | dT {a : Addr} {kvs : List (List Key × V)} (e : H a = some (.dT kvs)) : TyOf K H (.ref a) (.type "dict")
  | ins {a C dx : Addr} {fs : List (Str × V)} (e : H a = some (.ins C dx fs)) (cl : Cls K C) (ha : PySem.W.findIn K (.ref C) "__class__" = some (some (.builtin "object.__class__")))
      (hn : PySem.W.specialIn K (.builtin "object.__class__") "__get__" = some (some (.builtin "getset_descriptor.__get__"))) (htk : PySem.W.takesIn K (.builtin "object.__class__") = some true)
      (hm : PySem.W.mroIn K C (.type "object") = some true) : TyOf K H (.ref a) (.ref C)
end
end L2
namespace L2
open PySem PySem.Spec PyProof.Rows
structure Room (k : Nat) (A : Around) : Prop where
  hd : A.handled = none
  dp : A.depth + 3 * k + 105 < recursionLimit
  un : A.units + 16 * k + 200 < cLine
theorem Room.mono {j k : Nat} {A : Around} (r : Room k A) (h : j ≤ k) : Room j A := ⟨r.hd, by have := r.dp; omega, by have := r.un; omega⟩
theorem Room.deeper {k : Nat} {A : Around} (r : Room (k + 1) A) (env : Env) : Room k (A.deeper env) :=
  ⟨r.hd, by have := r.dp; show A.depth + 1 + 3 * k + 105 < _; omega, by have := r.un; show A.units + 3 + 16 * k + 200 < _; omega⟩
theorem Room.in1 {k : Nat} {A : Around} (r : Room (k + 1) A) : Room k A.in1 :=
  ⟨r.hd, by have := r.dp; show A.depth + 3 * k + 105 < _; omega, by have := r.un; show A.units + 1 + 16 * k + 200 < _; omega⟩
theorem Room.depth {k : Nat} {A : Around} (r : Room k A) : A.depth < recursionLimit := by have := r.dp; omega
theorem Room.units {k : Nat} {A : Around} (r : Room k A) : A.units + 64 < cLine := by have := r.un; omega
theorem Room.units0 {k : Nat} {A : Around} (r : Room k A) : A.units < cLine := by have := r.un; omega
noncomputable def qat : TA := fun _ H Q => Q [] H
noncomputable def qac (ta : TE) (tr : TA) : TA := fun σ H Q => ta σ H fun x H1 => tr σ H1 fun xs H2 => Q (x :: xs) H2
section
variable {X : Cx} {e : Expr} {es : List Expr} {te : TE} {t : TA} {pos : Pos}
theorem qae : PA X [] qat := fun _ _ _ _ H Q I h => Calls.spliced_nil ⟨[], H, I, .nil, h⟩
theorem qaa (ha : PE X e te) (hr : PA X es t) (hs : starEach (e :: es) X.env = (false, eval e X.env) :: starEach es X.env := by rfl) : PA X (e :: es) (qac te t) := by
  intro pos pins s σ H Q I h
  rw [hs]
  show wpAny _ _ (spliced ((false, eval e X.env) :: backTo pos (starEach es X.env))) _ _ s
  refine Calls.spliced_cons (thn (ha pins s σ H _ I h) fun u s1 ⟨x, H1, I1, r1, q1⟩ => ?_)
  exact thn (hr pos pins s1 σ H1 _ I1 q1) fun us s2 ⟨xs, H2, I2, r2, q2⟩ => ⟨x :: xs, H2, I2, .cons r1 r2, q2⟩
noncomputable def qks (t : TA) : TE := fun σ H Q => t σ H fun xs H1 => xs.length ≤ sizeLine ∧ ∀ p, H1 p = none → Q (.ref p) (upd H1 p (.tup xs))
noncomputable def qea (t : TA) : TE := fun σ H Q => t σ H fun xs H1 => xs.length ≤ sizeLine ∧ ∀ p, H1 p = none → Q (.ref p) (upd H1 p (.lst xs))
theorem qf4 {x1} (h : PA X es t) : PE X (.Tuple es x1 pos) (qks t) := by
  intro pins s σ H Q I hq
  refine wpAny_Tuple_spliced (thn (h pos pins s σ H _ I hq) fun us s1 ⟨xs, H1, I1, r, z, q⟩ => ⟨by rw [← r.length]; exact z, ?_⟩)
  have hf : H1 s1.heap.objs.size = none := I1.hok.fresh (Nat.le_refl _)
  refine ⟨.ref s1.heap.objs.size, upd H1 s1.heap.objs.size (.tup xs), I1.laid (t' := s1.toks) (fun b u e => Heap.get?_push_of_some _ e) (Nat.le_refl _) ?_, rfl, q _ hf⟩
  exact ⟨z, us, r, ⟨_, Heap.get?_push_size _ rfl, rfl, _, rfl⟩⟩
theorem qbg (h : PA X es t) : PE X (.List es pos) (qea t) := by
  intro pins s σ H Q I hq
  refine wpAny_List_spliced (thn (h pos pins s σ H _ I hq) fun us s1 ⟨xs, H1, I1, r, z, q⟩ => ⟨by rw [← r.length]; exact z, ?_⟩)
  have hf : H1 s1.heap.objs.size = none := I1.hok.fresh (Nat.le_refl _)
  refine ⟨.ref s1.heap.objs.size, upd H1 s1.heap.objs.size (.lst xs), I1.laid (t' := s1.toks) (fun b u e => Heap.get?_push_of_some _ e) (Nat.le_refl _) ?_, rfl, q _ hf⟩
  exact ⟨z, us, 0, r, Heap.get?_push_size _ rfl⟩
end
noncomputable abbrev Sp := List V → Hp → VK → XK → Prop
noncomputable abbrev CXT := List Env → Hp → Shared → XK → Value → Shared → Prop
structure Env0 (P : Program) (w : World) (K : PySem.W.Frag) (mg : Str → Option Value) (base : Heap) (A : Around) (outer : List Env) (s : Shared) (H : Hp) : Prop where
  frames : A.frames = some outer
  mod : Mod K mg base
  bs : ∀ b o, base.get? b = some o → s.heap.get? b = some o ∧ H b = none
  bsz : base.objs.size ≤ s.heap.objs.size
  funs : s.heap.FunFrames base outer
  frf : ∀ b ∈ frs outer, H b = none
  hok : HOk P w H s.heap
  bare : AllBare s.gens
  seer : base.NoSeer
  tree : (model P w).prog.given.tree = none
noncomputable def CE (outer : List Env) (P : Program) (w : World) (H : Hp) (s : Shared) (Q : VK) (u : Value) (s' : Shared) : Prop :=
  ∃ v H', s'.os = s.os ∧ AllBare s'.gens ∧ Un (frs outer) [] H H' s.heap s'.heap ∧ HOk P w H' s'.heap ∧ RelV v u ∧ Q v H'
noncomputable def CR (CX : CXT) (outer : List Env) (P : Program) (w : World) (H : Hp) (s : Shared) (Q : VK) (E : XK) (r : Result) (s' : Shared) : Prop :=
  match r with
  | .ok (.ret u) => CE outer P w H s Q u s'
  | .ok _ => False
  | .error e => CX outer H s E e s'
structure FnOk (P : Program) (w : World) (K : PySem.W.Frag) (mg : Str → Option Value) (base : Heap) (CX : CXT) (k : Nat) (f : Addr) (fd : FuncData) (ps : List Str) (sp : Sp) : Prop where
  len : ∀ vs H Q E, sp vs H Q E → vs.length = ps.length
  run : ∀ (A : Around) (outer : List Env) (s : Shared) (H : Hp) (args : Args) (us : List Value) (vs : List V) (Q : VK) (E : XK), Room k A → Env0 P w K mg base A outer s H → BindsTo s fd args (ps.zip us) → Vals vs us → sp vs H Q E →
    codeAny (model P w) A (.call (.ref f) args) (CR CX outer P w H s Q E) s
theorem FnOk.mono {P : Program} {w : World} {K : PySem.W.Frag} {mg : Str → Option Value} {base : Heap} {CX : CXT} {j k : Nat} {f : Addr} {fd : FuncData} {ps : List Str} {sp : Sp} (F : FnOk P w K mg base CX j f fd ps sp) (h : j ≤ k) :
    FnOk P w K mg base CX k f fd ps sp := ⟨F.len, fun A outer s H args us vs Q E hr => F.run A outer s H args us vs Q E (hr.mono h)⟩
theorem FnOk.imp {P : Program} {w : World} {K : PySem.W.Frag} {mg : Str → Option Value} {base : Heap} {CX : CXT} {k : Nat} {f : Addr} {fd : FuncData} {ps : List Str} {sp sp' : Sp} (F : FnOk P w K mg base CX k f fd ps sp)
    (h : ∀ vs H Q E, sp' vs H Q E → sp vs H Q E) : FnOk P w K mg base CX k f fd ps sp' :=
  ⟨fun vs H Q E q => F.len vs H Q E (h _ _ _ _ q), fun A outer s H args us vs Q E hr he hb hv hs => F.run A outer s H args us vs Q E hr he hb hv (h _ _ _ _ hs)⟩
theorem Env0.in1 {P : Program} {w : World} {K : PySem.W.Frag} {mg : Str → Option Value} {base : Heap} {A : Around} {outer : List Env} {s : Shared} {H : Hp} (e : Env0 P w K mg base A outer s H) :
    Env0 P w K mg base A.in1 outer s H := ⟨e.frames, e.mod, e.bs, e.bsz, e.funs, e.frf, e.hok, e.bare, e.seer, e.tree⟩
section
variable {X : Cx} {pins : List (Addr × Obj)} {σ : St} {H : Hp} {s s' : Shared}
theorem Inv.env0 (I : Inv X pins σ H s) : Env0 X.prog X.w X.K X.mg X.base X.A X.stack s H :=
  ⟨I.ok.frames, I.ok.mod, I.bs, Nat.le_trans I.ok.bsz I.sz, I.stack, I.stkFree, I.hok, I.bare, I.ok.seer, I.ok.tree⟩
theorem Inv.after {Q : VK} {u : Value} (I : Inv X pins σ H s) (h : CE X.stack X.prog X.w H s Q u s') : EP X pins σ Q u s' := by
  obtain ⟨v, H', os, bare, un, hok, r, q⟩ := h
  obtain ⟨hh, g, d, t, os'⟩ := s'
  obtain rfl : os' = s.os := os
  exact ⟨v, H', I.call (h' := hh) (g' := g) (d' := d) (t' := t) (ch := []) un hok bare (fun b z => absurd z (by simp)), r, q⟩
end
noncomputable def qau (sp : Sp) (dvs : List V) (E : XK) (t : TA) : TE := fun σ H Q => t σ H fun vs H1 => sp (vs ++ dvs) H1 Q E
noncomputable def Binds (K : PySem.W.Frag) (fd : FuncData) (ps : List Str) (ds : List Value) : Prop :=
  ∀ (s : Shared) (us : List Value), K.In s.heap → (us ++ ds).length = ps.length → BindsTo s fd ⟨us, []⟩ (ps.zip (us ++ ds))
theorem Binds.all {K : PySem.W.Frag} {fd : FuncData} {ps : List Str} (h : ∀ us : List Value, us.length = ps.length → bindArgs fd ⟨us, []⟩ = pure (ps.zip us)) : Binds K fd ps [] := fun s us _ hl => by
  rw [List.append_nil] at hl ⊢
  exact .of_eq (h us hl)
noncomputable def Passes (CX : CXT) (X : Cx) (E : XK) : Prop := ∀ (pins : List (Addr × Obj)) (σ : St) (H : Hp) (s : Shared) (e : Value) (s' : Shared), Inv X pins σ H s → CX X.stack H s E e s' → X.xe e s'
section
variable {X : Cx} {CX : CXT} {k : Nat} {f C : Addr} {fd : FuncData} {ps : List Str} {sp : Sp} {dvs : List V} {ds : List Value} {E : XK} {x m : Str} {p pos apos : Pos} {e o : Expr} {es : List Expr} {ta : TE} {t : TA}
theorem qrG {pins : List (Addr × Obj)} {σ : St} {H : Hp} {s : Shared} {Q : VK} {us : List Value} {vs : List V} (F : FnOk X.prog X.w X.K X.mg X.base CX k f fd ps sp) (hr : Room k X.A) (hb : Binds X.K fd ps ds) (hd : Vals dvs ds) (hx : Passes CX X E)
    (I : Inv X pins σ H s) (r : Vals vs us) (h : sp (vs ++ dvs) H Q E) : wpAny (model X.prog X.w) X.A (call (.ref f) us) (EP X pins σ Q) X.xe s := by
  have r2 : Vals (vs ++ dvs) (us ++ ds) := r.append hd
  have hl : (us ++ ds).length = ps.length := by rw [← r2.length]; exact F.len _ _ _ _ h
  refine wpAny_call (codeAny_mono (F.run X.A X.stack s H ⟨us, []⟩ (us ++ ds) (vs ++ dvs) Q E hr I.env0 (hb s us I.kIn hl) r2 h) fun r s' hq => ?_)
  cases r with
  | error e => exact hx pins σ H s e s' I hq
  | ok fl =>
    cases fl with
    | ret u => exact I.after hq
    | next => exact False.elim hq
    | brk => exact False.elim hq
    | cont => exact False.elim hq
theorem qqv (F : FnOk X.prog X.w X.K X.mg X.base CX k f fd ps sp) (hr : Room k X.A) (hg : Gl X x) (hm : X.mg x = some (.ref f)) (hk : PySem.W.keepIn X.K (.ref f) = true) (hb : Binds X.K fd ps ds) (hd : Vals dvs ds) (hx : Passes CX X E)
    (ha : PA X (e :: es) t) (hdb : (x == ("__debug__" : Str)) = false := by decide) (he : starEach (e :: es) X.env = (false, eval e X.env) :: starEach es X.env := by rfl) (hpl : (backTo pos (starEach es X.env)).any (·.1) = false := by rfl) :
    PE X (.Call (.Name x p) (e :: es) [] pos) (qau sp dvs E t) := by
  intro pins s σ H Q I h
  refine wpAny_Call_Name_kw (qmH I hg hm ?_ hdb)
  refine PySem.W.callWith_K (h₀ := X.base) I.ok.mod.kin hk (thn (ha pos pins s σ H _ I h) fun us s1 ⟨vs, H1, I1, r, q⟩ => ⟨I1.kIn, ?_⟩) he hpl
  exact qrG F hr hb hd hx I1 r q
structure Mk (K : PySem.W.Frag) (C f : Addr) : Prop where
  makes : PySem.W.makesIn K C = true
  init : PySem.W.findIn K (.ref C) "__init__" = some (some (.ref f))
  fn : PySem.W.isFn K (.ref f) = true
  kp : PySem.W.keepIn K (.ref C) = true
end
noncomputable def PK (X : Cx) (kws : List Keyword) (t : TA) : Prop :=
  ∀ (pos : Pos) (pins : List (Addr × Obj)) (s : Shared) (σ : St) (H : Hp) (Q : List V → Hp → Prop), Inv X pins σ H s → t σ H Q → wpAny (model X.prog X.w) X.A (evalAll ((backToKw pos (keywordEach kws X.env)).map (·.2))) (AP X pins σ Q) X.xe s
section
variable {X : Cx} {CX : CXT} {k : Nat} {f C : Addr} {fd : FuncData} {ps ks : List Str} {sp : Sp} {E : XK} {x m : Str} {p pos apos kpos : Pos} {e o : Expr} {es : List Expr} {kws : List Keyword} {te ta : TE} {t tk : TA} {nm : Option Str}
theorem qpP : PK X [] qat := fun _ _ _ _ H Q I h => wpAny_evalAll_nil ⟨[], H, I, .nil, h⟩
theorem qmY (ha : PE X e te) (hr : PK X kws t) : PK X (⟨nm, e, kpos⟩ :: kws) (qac te t) := by
  intro pos pins s σ H Q I h
  show wpAny _ _ (evalAll ((do let v ← eval e X.env; standAt pos; pure v) :: (backToKw pos (keywordEach kws X.env)).map (·.2))) _ _ s
  refine wpAny_evalAll_cons (wpAny_bind (thn (ha pins s σ H _ I h) fun u s1 ⟨x, H1, I1, r1, q1⟩ => wpAny_bind (wpAny_standAt (wpAny_pure ?_))))
  exact thn (hr pos pins s1 σ H1 _ I1 q1) fun us s2 ⟨xs, H2, I2, r2, q2⟩ => ⟨x :: xs, H2, I2, .cons r1 r2, q2⟩
structure KBinds (K : PySem.W.Frag) (fd : FuncData) (ps ks : List Str) (g : List Value → List Value → List Value) (gV : List V → List V → List V) : Prop where
  to : ∀ (s : Shared) (us ws : List Value), K.In s.heap → (g us ws).length = ps.length → BindsTo s fd ⟨us, ks.zip ws⟩ (ps.zip (g us ws))
  rel : ∀ {vs : List V} {us : List Value} {zs : List V} {ws : List Value}, Vals vs us → Vals zs ws → Vals (gV vs zs) (g us ws)
variable {g : List Value → List Value → List Value} {gV : List V → List V → List V}
end
structure FnScope (N P : List Str) (sc : Scope) : Prop where
  kind : sc.kind = .function
  co : sc.isCoroutine = false
  gen : sc.isGenerator = false
  nd : N.Nodup
  pre : N.take P.length = P
  par : ∀ x ∈ P, sc.names.lookup x = some .local ∨ sc.names.lookup x = some .cell
  nofree : ∀ y ∈ sc.names, y.2 ≠ .free
theorem qjq {kindOf : Str → Option NameKind} {x : Str} : ∀ {binds : List (Str × Value)} {m : Str → Option Value}, (∀ v, (x, v) ∉ binds) → bindL kindOf binds m x = m x
  | [], _, _ => rfl
  | (n, v) :: r, m, h => by
    unfold bindL
    rw [qjq fun w hw => h w (List.mem_cons_of_mem _ hw)]
    split
    · have : x ≠ n := by rintro rfl; exact h v List.mem_cons_self
      simp [this]
    · rfl
theorem qjr {kindOf : Str → Option NameKind} {x : Str} : ∀ {binds : List (Str × Value)} {m : Str → Option Value}, (∀ v, (x, v) ∉ binds) → bindC kindOf binds m x = m x
  | [], _, _ => rfl
  | (n, v) :: r, m, h => by
    unfold bindC
    rw [qjr fun w hw => h w (List.mem_cons_of_mem _ hw)]
    split
    · rfl
    · have : x ≠ n := by rintro rfl; exact h v List.mem_cons_self
      simp [this]
theorem qjs {kindOf : Str → Option NameKind} {x : Str} {v : Value} : ∀ {P : List Str} {vs : List Value} {i : Nat} {m : Str → Option Value}, P.Nodup → P[i]? = some x → vs[i]? = some v → kindOf x = some .local →
    bindL kindOf (P.zip vs) m x = some v
  | [], _, _, _, _, h, _, _ => by simp at h
  | _ :: _, [], _, _, _, _, h, _ => by simp at h
  | p :: P, w :: vs, 0, m, nd, h1, h2, hk => by
    simp at h1 h2; subst h1; subst h2
    show bindL kindOf ((p, w) :: P.zip vs) m p = _
    unfold bindL
    rw [qjq fun v hv => (List.nodup_cons.mp nd).1 (List.of_mem_zip hv).1, if_pos hk]
    simp
  | p :: P, w :: vs, i + 1, m, nd, h1, h2, hk => by
    show bindL kindOf ((p, w) :: P.zip vs) m x = _
    unfold bindL
    exact qjs (i := i) (List.nodup_cons.mp nd).2 (by simpa using h1) (by simpa using h2) hk
theorem qjt {kindOf : Str → Option NameKind} {x : Str} {v : Value} : ∀ {P : List Str} {vs : List Value} {i : Nat} {m : Str → Option Value}, P.Nodup → P[i]? = some x → vs[i]? = some v → kindOf x ≠ some .local →
    bindC kindOf (P.zip vs) m x = some v
  | [], _, _, _, _, h, _, _ => by simp at h
  | _ :: _, [], _, _, _, _, h, _ => by simp at h
  | p :: P, w :: vs, 0, m, nd, h1, h2, hk => by
    simp at h1 h2; subst h1; subst h2
    show bindC kindOf ((p, w) :: P.zip vs) m p = _
    unfold bindC
    rw [qjr fun v hv => (List.nodup_cons.mp nd).1 (List.of_mem_zip hv).1, if_neg hk]
    simp
  | p :: P, w :: vs, i + 1, m, nd, h1, h2, hk => by
    show bindC kindOf ((p, w) :: P.zip vs) m x = _
    unfold bindC
    exact qjt (i := i) (List.nodup_cons.mp nd).2 (by simpa using h1) (by simpa using h2) hk
noncomputable def start (N : List Str) (vs : List V) : St := vs.map some ++ List.replicate (N.length - vs.length) none
noncomputable def qqw (CX : CXT) (P : Program) (w : World) (K : PySem.W.Frag) (mg : Str → Option Value) (base : Heap) (N : List Str) (qual : Str) (scope : Scope) (f : Addr) (cd : Value) (A : Around) (outer : List Env) (s : Shared) (H : Hp) (E : XK) : Cx where
  prog := P
  w := w
  K := K
  mg := mg
  base := base
  A := A.deeper (envOfC qual scope s.heap.objs.size f cd)
  N := N
  s₀ := s
  H₀ := H
  env := envOfC qual scope s.heap.objs.size f cd
  outer := outer
  stack := envOfC qual scope s.heap.objs.size f cd :: outer
  ex := []
  calm := true
  fn := fun _ => true
  pn := []
  xe := fun e s' => wpAny (model P w) (A.deeper (envOfC qual scope s.heap.objs.size f cd)) (leaving (envOfC qual scope s.heap.objs.size f cd) e) (fun _ s'' => CX outer H s E e s'') (fun e' s'' => CX outer H s E e' s'') s'
theorem qlm {sc : Scope} {n : Nat} {x : Str} (h : sc.names.lookup x = some .cell) : ∃ c, (cellsFrom n sc.names []).lookup x = some c := by
  have q := PySem.W.cellsFrom_some sc.names n [] (.inl h)
  exact Option.isSome_iff_exists.mp q
theorem qmZ {CX : CXT} {P : Program} {w : World} {K : PySem.W.Frag} {mg : Str → Option Value} {base : Heap} {N ps : List Str} {qual : Str} {scope : Scope} {f : Addr} {cd : Value} {A : Around} {outer : List Env} {s s1 : Shared} {H : Hp} {E : XK} {us : List Value} {vs : List V}
    (S : FnScope N ps scope) (hd : A.handled = none) (hdp : (A.deeper (envOfC qual scope s.heap.objs.size f cd)).depth + Builtin.pylongFrames < recursionLimit) (e0 : Env0 P w K mg base A outer s H) (hl : vs.length = ps.length) (r : Vals vs us)
    (x : InCallC s s.heap.objs.size (bindL (envOfC qual scope s.heap.objs.size f cd).kindOf (ps.zip us) fun _ => none) (cellsFrom (s.heap.objs.size + 1) scope.names []) (bindC (envOfC qual scope s.heap.objs.size f cd).kindOf (ps.zip us) fun _ => none) s1) :
    Inv (qqw CX P w K mg base N qual scope f cd A outer s H E) [] (start N vs) H s1 := by
  have hpl : ps.length ≤ N.length := by have := congrArg List.length S.pre; rw [List.length_take] at this; omega
  obtain ⟨h1, tk, rfl, hk⟩ := x.done
  have noA : ∀ b : Addr, b ∉ (qqw CX P w K mg base N qual scope f cd A outer s H E).ex := fun b z => absurd (show b ∈ ([] : List Addr) from z) (by simp)
  refine ⟨⟨e0.mod, S.kind, rfl, rfl, Nat.le_refl _, fun y z c h1 h2 => ?_, fun y hy => ?_, fun y c _ h => ?_, fun _ => hd, Around.frames_deeper e0.frames, .inr ⟨rfl, rfl⟩, fun b z => absurd z (noA b), e0.bs, e0.bsz, fun b _ _ => noA b, fun b z => absurd z (noA b), e0.funs, e0.frf, e0.seer, e0.tree, fun s' hk' => PySem.PylongRoom.of (e0.mod.nolimit.keeps hk') hdp (PySem.SeerAt.of (e0.seer.keeps hk') e0.tree (Around.frames_deeper e0.frames) S.gen S.co rfl rfl)⟩,
    rfl, e0.bare, Un.kept hk, ⟨_, x.toInCall.ns, fun i y v h1 h2 h3 => ?_⟩, fun y c h => ⟨_, x.cell y c h⟩, e0.hok.fresh (Nat.le_refl _), fun y c h => ?_, fun p hp => absurd (show p ∈ ([] : List (Addr × Obj)) from hp) (by simp), e0.hok.kept hk, ?_⟩
  · exact name_of_addr x.apart (PySem.mem_of_lookup h1) (PySem.mem_of_lookup h2)
  · have hy : scope.names.lookup y = some .cell ∨ scope.names.lookup y = some .free := hy
    rcases hy with hy | hy
    · exact qlm hy
    · exact absurd rfl (S.nofree _ (PySem.mem_of_lookup hy))
  · exact Nat.le_of_lt (x.above y c (PySem.mem_of_lookup h))
  · have hi : i < vs.length := by
      unfold start at h2
      by_cases hi : i < vs.length
      · exact hi
      · rw [List.getElem?_append_right (by simpa using hi)] at h2
        rw [List.getElem?_replicate] at h2
        split at h2 <;> cases h2
    have ha : vs[i]? = some v := by
      unfold start at h2
      rw [List.getElem?_append_left (by simpa using hi), List.getElem?_map] at h2
      cases e : vs[i]? with
      | none => rw [e] at h2; cases h2
      | some a => rw [e] at h2; cases h2; rfl
    obtain ⟨u, hu, rv⟩ := r.get ha
    have hp : ps[i]? = some y := by
      rw [← S.pre, List.getElem?_take_of_lt (by omega)]; exact h1
    have ndP : ps.Nodup := by rw [← S.pre]; exact S.nd.sublist (List.take_sublist _ _)
    refine ⟨u, rv, ?_⟩
    rcases S.par y (List.mem_of_getElem? hp) with k | k
    · exact .inl ⟨k, qjs ndP hp hu k⟩
    · obtain ⟨c, e⟩ := qlm (n := s.heap.objs.size + 1) k
      refine .inr ⟨.inl k, c, e, ?_⟩
      have q := x.cell y c e
      rw [qjt ndP hp hu (by show scope.names.lookup y ≠ _; rw [k]; decide)] at q
      exact q
  · exact e0.hok.fresh (Nat.le_of_lt (x.above y c (PySem.mem_of_lookup h)))
  · unfold start
    show _ = N.length
    rw [List.length_append, List.length_map, List.length_replicate]
    omega
theorem qsP {CX : CXT} {P : Program} {w : World} {K : PySem.W.Frag} {mg : Str → Option Value} {base : Heap} {k : Nat} {f : Addr} {name qual : Str} {params : Arguments} {body : List Stmt} {scope : Scope} {dV kV doc pm cdv ct oc : Value} {an od : Option Addr}
    {osl : Array (Option Value)} {N ps : List Str} {sp : Sp} (lk : K.lookup f = some ⟨oc, od, .func (PySem.W.fnOf name qual params body scope dV kV doc pm an cdv ct), osl⟩) (hcd : PySem.W.codeIn K cdv qual = true) (S : FnScope N ps scope)
    (len : ∀ vs H Q E, sp vs H Q E → vs.length = ps.length)
    (hbody : ∀ (A : Around) (outer : List Env) (s : Shared) (H : Hp) (vs : List V) (Q : VK) (E : XK), Room k (A.deeper (envOfC qual scope s.heap.objs.size f cdv)) → sp vs H Q E →
      ∃ t, PSs (qqw CX P w K mg base N qual scope f cdv A outer s H E) body t ∧ t { nx := fun _ H' => Q .non H', rt := Q } (start N vs) H) :
    FnOk P w K mg base CX (k + 1) f (PySem.W.fnOf name qual params body scope dV kV doc pm an cdv ct) ps sp := by
  refine ⟨len, fun A outer s H args us vs Q E hr e0 hb r hsp => ?_⟩
  have hl := len _ _ _ _ hsp
  have KX : K.In s.heap := e0.mod.kin.keeps fun b o e => (e0.bs b o e).1
  have lim : s.heap.NoLimit := e0.mod.nolimit.keeps fun b o e => (e0.bs b o e).1
  have hkind : ∀ y ∈ ps.zip us, scope.names.lookup y.1 = some .local ∨ (scope.names.lookup y.1 = some .cell ∧ ((cellsFrom (s.heap.objs.size + 1) scope.names []).lookup y.1).isSome = true) := fun ⟨n, v⟩ hy => by
    rcases S.par n (List.of_mem_zip hy).1 with q | q
    · exact .inl q
    · exact .inr ⟨q, PySem.W.cellsFrom_some _ _ _ (.inl q)⟩
  refine codeAny_call_function hr.depth (KX _ _ lk) rfl S.co S.gen rfl (PySem.W.codeRec_of KX hcd) (hb _ _ _ _ ?_)
  refine wpAny_newFunctionEnv_cells S.kind hkind fun env he s1 x => ?_
  subst he
  refine ⟨lim.keeps x.toInCall.keep, codeAny_func ?_⟩
  obtain ⟨t, ht, hq⟩ := hbody A outer s H vs Q E (hr.deeper _) hsp
  have I : Inv (qqw CX P w K mg base N qual scope f cdv A outer s H E) [] (start N vs) H s1 := qmZ S hr.hd (by have := (hr.deeper (envOfC qual scope s.heap.objs.size f cdv)).dp; show _ + 100 < _; omega) e0 hl r x
  refine wpAny_mono (ht [] s1 (start N vs) H _ I hq) (fun fl s' hs => ?_) fun e s' hs => hs
  have fin : ∀ {σ' : St} {H' : Hp} {v : V} {u : Value}, Inv (qqw CX P w K mg base N qual scope f cdv A outer s H E) [] σ' H' s' → RelV v u → Q v H' → CE outer P w H s Q u s' :=
    fun {σ' H' v u} J rv q => ⟨v, H', J.os, J.bare, J.base, J.hok, rv, q⟩
  cases fl with
  | ret u =>
    obtain ⟨v, σ', H', J, rv, q⟩ := hs
    exact fin J rv q
  | next =>
    obtain ⟨σ', H', J, q⟩ := hs
    exact fin (v := V.non) (u := Value.none) J rfl q
  | brk =>
    obtain ⟨_, _, _, q⟩ := hs
    exact False.elim q
  | cont =>
    obtain ⟨_, _, _, q⟩ := hs
    exact False.elim q
end L2
namespace L2
open PySem PySem.Spec PyProof.Rows
section
variable {X : Cx} {x : Str} {p pos : Pos} {e : Expr} {es : List Expr} {t : TA} {id T : String} {r : List V → Hp → VK → Prop}
noncomputable def tCB (r : List V → Hp → VK → Prop) (t : TA) : TE := fun σ H Q => t σ H fun vs H1 => r vs H1 Q
theorem qax (hc : qdO X (.builtin id) r) (hg : Gl X x) (hm : X.mg x = none) (hv : bootBuiltins x = some (.builtin id)) (ha : PA X (e :: es) t) (hn : x ≠ "__name__" := by decide) (hdb : (x == ("__debug__" : Str)) = false := by decide)
    (he : starEach (e :: es) X.env = (false, eval e X.env) :: starEach es X.env := by rfl) (hpl : (backTo pos (starEach es X.env)).any (·.1) = false := by rfl) : PE X (.Call (.Name x p) (e :: es) [] pos) (tCB r t) := by
  intro pins s σ H Q I h
  refine wpAny_Call_Name_kw (qek I hg hm hv ?_ hn hdb)
  exact PyProof.Rows.callWith_builtin1 (thn (ha pos pins s σ H _ I h) fun us s1 ⟨vs, H1, I1, r1, q1⟩ => hc pins s1 σ H1 vs us Q I1 r1 q1) he hpl
theorem qdP (hc : qdO X (.type T) r) (hg : Gl X x) (hm : X.mg x = none) (hv : bootBuiltins x = some (.type T)) (ha : PA X (e :: es) t) (hn : x ≠ "__name__" := by decide) (hdb : (x == ("__debug__" : Str)) = false := by decide)
    (he : starEach (e :: es) X.env = (false, eval e X.env) :: starEach es X.env := by rfl) (hpl : (backTo pos (starEach es X.env)).any (·.1) = false := by rfl) : PE X (.Call (.Name x p) (e :: es) [] pos) (tCB r t) := by
  intro pins s σ H Q I h
  refine wpAny_Call_Name_kw (qek I hg hm hv ?_ hn hdb)
  exact PyProof.Rows.callWith_type1 (thn (ha pos pins s σ H _ I h) fun us s1 ⟨vs, H1, I1, r1, q1⟩ => hc pins s1 σ H1 vs us Q I1 r1 q1) he hpl
end
end L2
namespace HT
open PySem PyProof.Rows
section
open PySem.SeqAt
open PySem.AutoSeq1 (wpAny_loadPart')
open PySem.MeetsSeq PySem.MeetsSeq2 PySem.MeetsSeq3
end
section
variable {prog : Program} {w : World} {A : Around} {E : Value → Shared → Prop} {s : Shared}
noncomputable def sIx (n d : Nat) : Option Int → Nat
  | none => d
  | some v => if v < 0 then (v + (n : Int)).toNat else min v.toNat n
end
end HT
namespace L2
open PySem PySem.Spec PyProof.Rows
noncomputable abbrev TO := St → Hp → (Option Int → Hp → Prop) → Prop
noncomputable def PO (X : Cx) (e : Option Expr) (t : TO) : Prop :=
  ∀ (pins : List (Addr × Obj)) (s : Shared) (σ : St) (H : Hp) (Q : Option Int → Hp → Prop), Inv X pins σ H s → t σ H Q →
    wpAny (model X.prog X.w) X.A (evalPart e X.env) (fun u s' => ∃ o H', Inv X pins σ H' s' ∧ IsPart u o ∧ Q o H') X.xe s
noncomputable def qc6 : TO := fun _ H Q => Q none H
noncomputable def qhK (t : TE) : TO := fun σ H Q => t σ H fun x H1 => ∃ i, x = .int i ∧ Q (some i) H1
section
variable {X : Cx} {e : Expr} {te : TE} {lo hi : Option Expr} {tl th : TO} {pos p2 : Pos}
theorem qev : PO X none qc6 := by
  intro pins s σ H Q I h
  rw [evalPart_none]
  exact wpAny_pure ⟨none, H, I, .none, h⟩
theorem qew (h : PE X e te) : PO X (some e) (qhK te) := by
  intro pins s σ H Q I hw
  rw [evalPart_some]
  refine thn (h pins s σ H _ I hw) fun u s1 ⟨x, H1, I1, r1, q1⟩ => ?_
  obtain ⟨i, rfl, q⟩ := q1
  obtain ⟨t, rfl⟩ := r1
  exact ⟨some i, H1, I1, .int i t, q⟩
noncomputable def SlR (X : Cx) (r : V → Option Int → Option Int → Hp → VK → Prop) : Prop :=
  ∀ (pins : List (Addr × Obj)) (s : Shared) (σ : St) (H : Hp) (x : V) (v vl vu : Value) (lo hi : Option Int) (sl : Addr) (Q : VK), Inv X pins σ H s → RelV x v → s.heap.IsSliceOf sl vl vu .none → IsPart vl lo → IsPart vu hi → r x lo hi H Q →
    ∃ T id, typeLookup (.type T) "__getitem__" = pure (some (.builtin id)) ∧ s.TypeIs v T ∧ wpAny (model X.prog X.w) X.A (getItem v (.ref sl)) (EP X pins σ Q) X.xe s
noncomputable def tSl (r : V → Option Int → Option Int → Hp → VK → Prop) (te : TE) (tl th : TO) : TE := fun σ H Q => te σ H fun x H1 => tl σ H1 fun l H2 => th σ H2 fun u H3 => r x l u H3 Q
theorem qdl {r : V → Option Int → Option Int → Hp → VK → Prop} (hr : SlR X r) (he : PE X e te) (hl : PO X lo tl) (hu : PO X hi th) : PE X (.Subscript e (.Slice lo hi none p2) pos) (tSl r te tl th) := by
  intro pins s σ H Q I h
  refine Subscript_ (thn (he pins s σ H _ I h) fun v s1 ⟨x, H1, I1, r1, q1⟩ => ?_)
  refine wpAny_Slice (thn (hl pins s1 σ H1 _ I1 q1) fun vl s2 ⟨l, H2, I2, pl, q2⟩ => thn (hu pins s2 σ H2 _ I2 q2) fun vu s3 ⟨u, H3, I3, pu, q3⟩ => ?_)
  rw [evalPart_none]
  refine wpAny_pure ?_
  have I4 : Inv X pins σ H3 { s3 with heap := s3.heap.push { cls := .type "slice", data := .fields #[vl, vu, .none] } } := I3.kept (t' := s3.toks) fun b ob q => Heap.get?_push_of_some _ q
  obtain ⟨T, id, hT, ht, hg⟩ := hr pins { s3 with heap := s3.heap.push { cls := .type "slice", data := .fields #[vl, vu, .none] } } σ H3 x v vl vu l u s3.heap.objs.size Q I4 r1 (Heap.IsSliceOf.new ..) pl pu q3
  show wpAny (model X.prog X.w) X.A (subscriptTail e (.Slice lo hi none p2) v (.ref s3.heap.objs.size)) (EP X pins σ Q) X.xe { s3 with heap := s3.heap.push { cls := .type "slice", data := .fields #[vl, vu, .none] } }
  exact tail_any (ops := [.ref s3.heap.objs.size, v]) ht hT hg (by with_unfolding_all rfl)
noncomputable def qjo (xs : List V) (lo hi : Option Int) : List V := (xs.drop (HT.sIx xs.length 0 lo)).take (HT.sIx xs.length xs.length hi - HT.sIx xs.length 0 lo)
theorem qkt (xs : List V) (lo hi : Option Int) : (qjo xs lo hi).length ≤ xs.length := by
  unfold qjo
  rw [List.length_take, List.length_drop]
  omega
end
end L2
namespace L2
open PySem PySem.Spec PyProof.Rows
noncomputable def ixN (n : Nat) (i : Int) : Option Nat := if 0 ≤ i then (if i < n then some i.toNat else none) else if -(n : Int) ≤ i then some (i + n).toNat else none
noncomputable def atI {α : Type} (xs : List α) (i : Int) : Option α := (ixN xs.length i).bind fun j => xs[j]?
theorem qm0 {n : Nat} {i : Int} {j : Nat} (h : ixN n i = some j) : seqIndex? i n = some j ∧ j < n ∧ -(n : Int) ≤ i ∧ i < n := by
  unfold ixN at h
  by_cases h0 : 0 ≤ i
  · rw [if_pos h0] at h
    by_cases h1 : i < n
    · rw [if_pos h1] at h
      have e : i.toNat = j := Option.some.inj h
      exact ⟨by rw [seqIndex_of h0 h1, e], by omega, by omega, h1⟩
    · rw [if_neg h1] at h; cases h
  · rw [if_neg h0] at h
    by_cases h1 : -(n : Int) ≤ i
    · rw [if_pos h1] at h
      have e : (i + n).toNat = j := Option.some.inj h
      exact ⟨by rw [seqIndex_neg (by omega) h1, e], by omega, h1, by omega⟩
    · rw [if_neg h1] at h; cases h
theorem qku {α : Type} {xs : List α} {i : Int} {v : α} (h : atI xs i = some v) : ∃ j, seqIndex? i xs.length = some j ∧ xs[j]? = some v ∧ j < xs.length ∧ -(xs.length : Int) ≤ i ∧ i < xs.length := by
  unfold atI at h
  cases e : ixN xs.length i with
  | none => rw [e] at h; cases h
  | some j =>
    rw [e] at h
    obtain ⟨h1, h2, h3, h4⟩ := qm0 e
    exact ⟨j, h1, h, h2, h3, h4⟩
theorem qkv {α : Type} {xs : List α} {j : Nat} {v : α} (h : xs[j]? = some v) : atI xs (j : Int) = some v := by
  have hj : j < xs.length := (List.getElem?_eq_some_iff.mp h).1
  have e : ixN xs.length (j : Int) = some j := by
    unfold ixN
    rw [if_pos (by omega), if_pos (by omega)]; simp
  unfold atI; rw [e]; exact h
theorem atI_last {α : Type} (xs : List α) (v : α) : atI (xs ++ [v]) (-1) = some v := by
  have hl : (xs ++ [v]).length = xs.length + 1 := by simp
  have e : ixN (xs ++ [v]).length (-1) = some xs.length := by
    unfold ixN
    rw [hl, if_neg (by decide), if_pos (by omega)]
    congr 1
    omega
  unfold atI
  rw [e]
  show (xs ++ [v])[xs.length]? = some v
  simp
noncomputable def qqx (b : Expr) : Prop := ∀ o i, subscripted b false o i = operate [o, i] (getItem o i)
noncomputable def IxR (X : Cx) (r : R2) : Prop :=
  ∀ (value slice : Expr) (pins : List (Addr × Obj)) (s : Shared) (σ : St) (H : Hp) (x y : V) (v u : Value) (Q : VK), Inv X pins σ H s → RelV x v → RelV y u → r x y H Q →
    subscripted slice false v u = operate [v, u] (getItem v u) → wpAny (model X.prog X.w) X.A (subscriptTail value slice v u) (EP X pins σ Q) X.xe s
noncomputable def MtR (X : Cx) (id : String) (r : V → List V → Hp → VK → Prop) : Prop :=
  ∀ (pins : List (Addr × Obj)) (s : Shared) (σ : St) (H : Hp) (x : V) (xs : List V) (v : Value) (us : List Value) (Q : VK), Inv X pins σ H s → RelV x v → Vals xs us → r x xs H Q →
    wpAny (model X.prog X.w) X.A (call (.builtin id) (v :: us)) (EP X pins σ Q) X.xe s
section
variable {X : Cx} {a b : Expr} {ta tb : TE} {pos : Pos}
theorem qaD {r : R2} (hr : IxR X r) (ha : PE X a ta) (hb : PE X b tb) (hs : qqx b) : PE X (.Subscript a b pos) (tOp r ta tb) := by
  intro pins s σ H Q I h
  exact Subscript_ (qsN ha hb I h fun v u s2 x y H2 I2 rx ry q => hr a b pins s2 σ H2 x y v u Q I2 rx ry q (hs _ _))
noncomputable def qtW (K : PySem.W.Frag) : R2 := fun x y H Q => ∃ p xs i v, x = .ref p ∧ y = .int i ∧ SqL K H p xs ∧ atI xs i = some v ∧ Q v H
noncomputable def qtX (K : PySem.W.Frag) : R2 := fun x y H Q => ∃ p xs i v, x = .ref p ∧ y = .int i ∧ SqT K H p xs ∧ atI xs i = some v ∧ Q v H
theorem qqy : IxR X (qtW X.K) := by
  intro value slice pins s σ H x y v u Q I rx ry h hs
  obtain ⟨p, xs, i, z, rfl, rfl, hq, he, q⟩ := h
  cases rx
  obtain ⟨t, rfl⟩ := ry
  obtain ⟨its, r, pl, hz⟩ := I.list hq
  obtain ⟨j, h1, h2, h3, h4, h5⟩ := qku he
  obtain ⟨w, ew, rw'⟩ := r.get h2
  have hl := r.length
  have hn := qib
  have fin : EP X pins σ Q w s := ⟨z, H, I, rw', q⟩
  by_cases h0 : 0 ≤ i
  · have hj : i.toNat = j := by
      rw [seqIndex_of h0 h5] at h1
      exact Option.some.inj h1
    exact item_listR pl.isList h0 (by omega) (by rw [hj]; simpa using ew) fin hs
  · have hj : (i + (its.toArray.size : Int)).toNat = j := by
      rw [seqIndex_neg (by omega) h4] at h1
      rw [List.size_toArray, ← hl]
      exact Option.some.inj h1
    exact subscriptTail_builtinR (x := w) pl.isList.typeIs slot_list_getitem.lookup
      (wpAny_getItem_list_neg (Q := fun r s' => r = w ∧ EP X pins σ Q r s') pl.isList (by omega) (by rw [List.size_toArray] <;> omega) (by omega) (by rw [hj]; simpa using ew) ⟨rfl, fin⟩) hs
theorem qrH : IxR X (qtX X.K) := by
  intro value slice pins s σ H x y v u Q I rx ry h hs
  obtain ⟨p, xs, i, z, rfl, rfl, hq, he, q⟩ := h
  cases rx
  obtain ⟨t, rfl⟩ := ry
  obtain ⟨its, r, pl, hz⟩ := I.tuple hq
  obtain ⟨j, h1, h2, h3, h4, h5⟩ := qku he
  obtain ⟨w, ew, rw'⟩ := r.get h2
  have hl := r.length
  have hn := qib
  have fin : EP X pins σ Q w s := ⟨z, H, I, rw', q⟩
  exact subscriptTail_builtinR (x := w) pl.typeIs slot_tuple_getitem.lookup
    (getItem_tuple (j := j) (Q := fun r s' => r = w ∧ EP X pins σ Q r s') pl (by omega) (by omega) (by rw [List.size_toArray, ← hl]; exact h1) (by simpa using ew) ⟨rfl, fin⟩) hs
theorem ql5 (its : List Value) (n j : Nat) (u : Value) : Obj.mapSeq (·.setIfInBounds j u) { cls := .type "list", data := .seq its.toArray n } = { cls := .type "list", data := .seq (its.set j u).toArray n } := by
  simp [Obj.mapSeq]
theorem Inv.lst {pins : List (Addr × Obj)} {σ : St} {H : Hp} {s : Shared} {p : Addr} {xs : List V} (I : Inv X pins σ H s) (h : H p = some (.lst xs)) :
    ∃ (its : List Value) (n : Nat), Vals xs its ∧ s.heap.get? p = some { cls := .type "list", data := .seq its.toArray n } ∧ xs.length ≤ sizeLine := by
  obtain ⟨z, its, n, r, e⟩ := I.hok p _ h
  exact ⟨its, n, r, e, z⟩
theorem Inv.lstUpd {pins : List (Addr × Obj)} {σ : St} {H : Hp} {s : Shared} {p : Addr} {xs ys : List V} {its its' : List Value} {n n' : Nat} {f : Obj → Obj} (I : Inv X pins σ H s) (h : H p = some (.lst xs))
    (ho : s.heap.get? p = some { cls := .type "list", data := .seq its.toArray n }) (hf : f { cls := .type "list", data := .seq its.toArray n } = { cls := .type "list", data := .seq its'.toArray n' }) (r : Vals ys its') (hz : ys.length ≤ sizeLine) (t : Nat) :
    Inv X pins σ (upd H p (.lst ys)) { s with heap := s.heap.update p f, toks := t } := by
  have e : (s.heap.update p f).get? p = some { cls := .type "list", data := .seq its'.toArray n' } := by
    rw [Heap.get?_update_self f ho (by rw [hf] <;> rfl), hf]
  refine I.write (x := p) (e := p) (by rw [h]; trivial) (.inl rfl) (fun b u hb q => (Heap.get?_update_other _ _ (Ne.symm hb)).trans q) ⟨_, e⟩ ?_
  exact ⟨hz, its', n', r, e⟩
noncomputable def qeU : V → V → V → Hp → (Hp → Prop) → Prop := fun o i v H Q => ∃ p xs k j, o = .ref p ∧ i = .int k ∧ H p = some (.lst xs) ∧ ixN xs.length k = some j ∧ Q (upd H p (.lst (xs.set j v)))
theorem qbS : PSet X qeU := by
  intro pins s σ H o i v ov iv u Q I ro ri rv h
  obtain ⟨p, xs, k, j, rfl, rfl, hp, hj, q⟩ := h
  cases ro
  obtain ⟨t, rfl⟩ := ri
  obtain ⟨its, n, r, ho, hz⟩ := I.lst hp
  obtain ⟨h1, h2, h3, h4⟩ := qm0 hj
  have hl := r.length
  have hn := qib
  have I' : Inv X pins σ (upd H p (.lst (xs.set j v))) { s with heap := s.heap.update p (Obj.mapSeq (·.setIfInBounds j u)) } :=
    I.lstUpd hp ho (ql5 its n j u) (r.set rv j) (by rw [List.length_set]; exact hz) s.toks
  by_cases h0 : 0 ≤ k
  · have hk : k.toNat = j := by
      rw [seqIndex_of h0 h4] at h1
      exact Option.some.inj h1
    exact PySem.W.ki_setAt ho h0 (by omega) (by rw [List.size_toArray, ← hl]; exact h4) (by rw [hk]; exact ⟨_, I', q⟩)
  · have hk : (k + (its.toArray.size : Int)).toNat = j := by
      rw [seqIndex_neg (by omega) h3] at h1
      rw [List.size_toArray, ← hl]
      exact Option.some.inj h1
    exact PySem.W.ki_setBack ho (by omega) (by rw [List.size_toArray, ← hl]; exact h3) (by omega) (by rw [hk]; exact ⟨_, I', q⟩)
theorem qju (lo hi : Option Int) (n : Nat) : (sliceBounds lo hi none n).1 = ((HT.sIx n 0 lo : Nat) : Int) ∧ (sliceBounds lo hi none n).2.1 = ((HT.sIx n n hi : Nat) : Int) ∧ (sliceBounds lo hi none n).2.2 = 1 := by
  refine ⟨?_, ?_, rfl⟩
  · cases lo with
    | none => simp [sliceBounds, HT.sIx]
    | some i =>
      simp only [sliceBounds, HT.sIx, Option.getD_none, show (1 : Int) > 0 by decide, if_true]
      by_cases h : i < 0
      · simp only [h, if_true] <;> omega
      · simp only [h, if_false] <;> omega
  · cases hi with
    | none => simp [sliceBounds, HT.sIx]
    | some i =>
      simp only [sliceBounds, HT.sIx, Option.getD_none, show (1 : Int) > 0 by decide, if_true]
      by_cases h : i < 0
      · simp only [h, if_true] <;> omega
      · simp only [h, if_false] <;> omega
theorem qiH (its : List Value) (lo hi : Option Int) : slicePick its.toArray lo hi none = ((its.drop (HT.sIx its.length 0 lo)).take (HT.sIx its.length its.length hi - HT.sIx its.length 0 lo)).toArray := by
  obtain ⟨h1, h2, h3⟩ := qju lo hi its.toArray.size
  unfold slicePick
  rw [h1, h2, h3]
  simp only [sliceRange_one, pick_run, List.size_toArray] <;> rfl
noncomputable def qtY (K : PySem.W.Frag) : V → Option Int → Option Int → Hp → VK → Prop := fun x lo hi H Q => ∃ a xs, x = .ref a ∧ SqL K H a xs ∧ ∀ p, H p = none → Q (.ref p) (upd H p (.lst (qjo xs lo hi)))
theorem qm1 : SlR X (qtY X.K) := by
  intro pins s σ H x v vl vu lo hi sl Q I rx hs pl pu h
  obtain ⟨a, xs, rfl, hx, q⟩ := h
  cases rx
  obtain ⟨its, r, ht, hz⟩ := I.list hx
  have hlen := r.length
  refine ⟨"list", _, slot_list_getitem.lookup, ht.isList.typeIs, ?_⟩
  refine wpAny_getItem_list_slice ht.isList hs pl pu .none (by simp) ?_ (by rw [List.size_toArray] <;> omega)
  rw [qiH, ← hlen]
  refine ⟨.ref s.heap.objs.size, _, I.laid (t' := s.toks) (o := .lst (qjo xs lo hi)) (fun b ob q => Heap.get?_push_of_some _ q) (Nat.le_refl _) ?_, rfl, q _ (I.hok.fresh (Nat.le_refl _))⟩
  exact ⟨Nat.le_trans (qkt xs lo hi) hz, _, 0, (r.drop (HT.sIx xs.length 0 lo)).take (HT.sIx xs.length xs.length hi - HT.sIx xs.length 0 lo), Heap.get?_push_size _ rfl⟩
theorem qjv : qdO X (.builtin "len") (fun xs H Q => ∃ p ys, xs = [.ref p] ∧ (SqL X.K H p ys ∨ SqT X.K H p ys) ∧ Q (.int ys.length) H) := by
  intro pins s σ H xs us Q I r h
  obtain ⟨p, ys, rfl, hq, q⟩ := h
  obtain ⟨u, rfl, rx⟩ := qfF r
  cases rx
  have hn := qib
  rcases hq with hq | hq
  · obtain ⟨its, r', pl, hz⟩ := I.list hq
    have hlen := r'.length
    exact Calls.call_len_list pl.isList (by simp only [List.size_toArray] <;> omega) ⟨.int ys.length, H, I.tok _, ⟨s.toks + 1, by rw [List.size_toArray, hlen]⟩, q⟩
  · obtain ⟨its, r', pl, hz⟩ := I.tuple hq
    have hlen := r'.length
    exact len_tuple pl (by simp only [List.size_toArray] <;> omega) ⟨.int ys.length, H, I.tok _, ⟨s.toks + 1, by rw [List.size_toArray, hlen]⟩, q⟩
theorem qjw : qdO X (.type "list") (fun xs H Q => ∃ p ys, xs = [.ref p] ∧ (SqL X.K H p ys ∨ SqT X.K H p ys) ∧ ∀ l, H l = none → Q (.ref l) (upd H l (.lst ys))) := by
  intro pins s σ H xs us Q I r h
  obtain ⟨p, ys, rfl, hq, q⟩ := h
  obtain ⟨u, rfl, rx⟩ := qfF r
  cases rx
  have fin : ∀ (its : List Value), Vals ys its → ys.length ≤ sizeLine → ∀ (h' : Heap) (c' : Nat), (∀ b o', s.heap.get? b = some o' → h'.get? b = some o') →
      h'.get? s.heap.objs.size = some { cls := .type "list", dict := none, data := .seq its.toArray c', slots := #[] } → EP X pins σ Q (.ref s.heap.objs.size) { s with heap := h' } := fun its r' hz h' c' kp e =>
    ⟨.ref s.heap.objs.size, _, I.laid (t' := s.toks) kp (Nat.le_refl _) (show ObjOk X.prog X.w _ h' _ (.lst ys) from ⟨hz, its, c', r', e⟩), rfl, q _ (I.hok.fresh (Nat.le_refl _))⟩
  rcases hq with hq | hq
  · obtain ⟨its, r', pl, hz⟩ := I.list hq
    have hlen := r'.length
    obtain ⟨o, ho, hc, n, hd⟩ := pl.isList
    exact call_list_seq p (.inl rfl) ho hc hd (fun h' c' kp e => fin its r' hz h' c' kp e) (by simp only [List.size_toArray] <;> omega)
  · obtain ⟨its, r', pl, hz⟩ := I.tuple hq
    have hlen := r'.length
    obtain ⟨o, ho, hc, n, hd⟩ := pl
    exact call_list_seq p (.inr rfl) ho hc hd (fun h' c' kp e => fin its r' hz h' c' kp e) (by simp only [List.size_toArray] <;> omega)
theorem qiI : qdO X (.type "tuple") (fun xs H Q => ∃ p ys, xs = [.ref p] ∧ ((SqL X.K H p ys ∧ ∀ l, H l = none → Q (.ref l) (upd H l (.tup ys))) ∨ (SqT X.K H p ys ∧ Q (.ref p) H))) := by
  intro pins s σ H xs us Q I r h
  obtain ⟨p, ys, rfl, h⟩ := h
  obtain ⟨u, rfl, rx⟩ := qfF r
  cases rx
  rcases h with ⟨hq, q⟩ | ⟨hq, q⟩
  · obtain ⟨its, r', pl, hz⟩ := I.list hq
    have hlen := r'.length
    refine call_tuple_list pl.isList (fun h' kp => ?_) (by simp only [List.size_toArray] <;> omega)
    have I1 : Inv X pins σ H { s with heap := h' } := I.kept (t' := s.toks) kp
    have I2 : Inv X pins σ (upd H h'.objs.size (.tup ys)) { s with heap := h'.push { cls := .type "tuple", data := .seq its.toArray } } :=
      I1.laid (t' := s.toks) (fun b o e => Heap.get?_push_of_some _ e) (Nat.le_refl _) (show ObjOk X.prog X.w _ _ _ (.tup ys) from ⟨hz, its, r', IsTup.new _ _⟩)
    exact ⟨.ref h'.objs.size, _, I2, rfl, q _ (I1.hok.fresh (Nat.le_refl _))⟩
  · obtain ⟨its, r', pl, hz⟩ := I.tuple hq
    exact call_tuple_same pl ⟨.ref p, H, I, rfl, q⟩
noncomputable def tyV (K : PySem.W.Frag) (T : String) (x : V) (H : Hp) : Prop := match x with
  | .str _ => T = "str"
  | .int _ => T = "int"
  | .ref p => (T = "list" ∧ ∃ xs, SqL K H p xs) ∨ (T = "tuple" ∧ ∃ o, K.lookup p = some o ∧ o.cls = .type "tuple" ∧ o.dict = none) ∨
      (T = "dict" ∧ ((∃ kvs, H p = some (.dK kvs)) ∨ ∃ kvs, H p = some (.dT kvs))) ∨ (T = "set" ∧ ∃ S n, H p = some (.set S n))
  | _ => False
theorem qpQ {pins : List (Addr × Obj)} {σ : St} {H : Hp} {s : Shared} {T : String} {x : V} {v : Value} (I : Inv X pins σ H s) (r : RelV x v) (ty : tyV X.K T x H) :
    s.TypeIs v T ∧ ∀ a, v = .ref a → ∃ ob, s.heap.get? a = some ob ∧ ob.dict = none := by
  cases x with
  | str z =>
    obtain ⟨t, rfl⟩ := r
    cases (show T = "str" from ty)
    exact ⟨typeIs_str s z t, fun _ e => nomatch e⟩
  | int i =>
    obtain ⟨t, rfl⟩ := r
    cases (show T = "int" from ty)
    exact ⟨typeIs_int s i t, fun _ e => nomatch e⟩
  | ref p =>
    cases r
    rcases ty with ⟨rfl, xs, hq⟩ | ⟨rfl, o, hk, hc, hd⟩ | ⟨rfl, hk⟩ | ⟨rfl, S, n, hk⟩
    · obtain ⟨its, _, pl, _⟩ := I.list hq
      refine ⟨pl.isList.typeIs, fun a e => ?_⟩
      cases e
      obtain ⟨o, n, e, c, hd, _⟩ := pl
      exact ⟨o, e, hd⟩
    · refine ⟨⟨o, I.kIn p o hk, hc⟩, fun a e => ?_⟩
      cases e
      exact ⟨o, I.kIn _ o hk, hd⟩
    · have z : ∃ o, s.heap.get? p = some o ∧ o.ExactDict := by
        rcases hk with ⟨kvs, hk⟩ | ⟨kvs, hk⟩
        · obtain ⟨_, _, _, _, o, _, _, e, ex, _⟩ := I.hok p _ hk
          exact ⟨o, e, ex⟩
        · obtain ⟨_, _, _, _, o, _, _, e, ex, _⟩ := I.hok p _ hk
          exact ⟨o, e, ex⟩
      obtain ⟨o, e, ex⟩ := z
      refine ⟨⟨o, e, ex.1⟩, fun a e2 => ?_⟩
      cases e2
      exact ⟨o, e, ex.2.1⟩
    · obtain ⟨o, _, _, _, e, ex, _⟩ := I.hok p _ hk
      refine ⟨⟨o, e, ex.1⟩, fun a e2 => ?_⟩
      cases e2
      exact ⟨o, e, ex.2.1⟩
  | _ => exact False.elim ty
noncomputable def qrI (K : PySem.W.Frag) (T : String) (r : V → List V → Hp → VK → Prop) (to : TE) : TE := fun σ H Q => to σ H fun x H1 => tyV K T x H1 ∧ r x [] H1 Q
noncomputable def tBM (K : PySem.W.Frag) (T : String) (r : V → List V → Hp → VK → Prop) (to : TE) (t : TA) : TE := fun σ H Q => to σ H fun x H1 => tyV K T x H1 ∧ t σ H1 fun xs H2 => r x xs H2 Q
variable {o e : Expr} {es : List Expr} {to : TE} {t : TA} {name : Str} {apos cpos : Pos} {T id : String} {r : V → List V → Hp → VK → Prop}
theorem qpR (pa : PlainAttrs T) (slot : Slot T name id) (hty : typeOf (.builtin id) = pure (.type "method_descriptor")) (hm : MtR X id r) (ho : PE X o to)
    (hbase : attributeBase o name X.env (eval o X.env) = eval o X.env := by rfl) (hline : (apos.endLine == cpos.line) = true := by rfl) : PE X (.Call (.Attribute o name apos) [] [] cpos) (qrI X.K T r to) := by
  intro pins s σ H Q I h
  refine wpAny_Call_method0_late hbase hline (thn (ho pins s σ H _ I h) fun v s1 ⟨x, H1, I1, r1, ty, q1⟩ => ?_)
  obtain ⟨h1, h2⟩ := qpQ I1 r1 ty
  exact ⟨T, id, pa, slot, hty, h1, h2, Calls.callWith_builtin rfl (PySem.evalArgs_none (hm pins s1 σ H1 x [] v [] Q I1 r1 .nil q1))⟩
theorem qjx (pa : PlainAttrs T) (slot : Slot T name id) (hty : typeOf (.builtin id) = pure (.type "method_descriptor")) (hm : MtR X id r) (ho : PE X o to) (ha : PA X (e :: es) t)
    (hbase : attributeBase o name X.env (eval o X.env) = eval o X.env := by rfl)
    (hfew : ((backTo cpos (starEach (e :: es) X.env)).all (fun x => !x.1) && (backToKw cpos (keywordEach [] X.env)).all (fun x => x.1.isSome)
      && decide ((e :: es).length + ([] : List Keyword).length + (if ([] : List Keyword).isEmpty then 0 else 1) < 30)) = true := by rfl)
    (hline : (apos.endLine == cpos.line) = true := by rfl) (hs : starEach (e :: es) X.env = (false, eval e X.env) :: starEach es X.env := by rfl) (hplain : (backTo cpos (starEach es X.env)).any (·.1) = false := by rfl) :
    PE X (.Call (.Attribute o name apos) (e :: es) [] cpos) (tBM X.K T r to t) := by
  intro pins s σ H Q I h
  refine wpAny_Call_method_late hbase hfew hline rfl (thn (ho pins s σ H _ I h) fun v s1 ⟨x, H1, I1, r1, ty, q1⟩ => ?_)
  obtain ⟨h1, h2⟩ := qpQ I1 r1 ty
  refine ⟨T, id, pa, slot, hty, h1, h2, ?_⟩
  have hA := ha cpos pins s1 σ H1 _ I1 q1
  rw [hs] at hA ⊢
  refine Calls.callWith_builtin (by show (false || (backTo cpos (starEach es X.env)).any (·.1)) = false; rw [hplain] <;> rfl) (Calls.evalArgs_plain ?_)
  exact thn hA fun us s2 ⟨vs, H2, I2, r2, q2⟩ => hm pins s2 σ H2 x vs v us Q I2 r1 r2 q2
end
end L2
namespace L2
open PySem PySem.Spec PyProof.Rows
noncomputable def MtM (X : Cx) (id : String) (r : V → List V → Hp → VK → Prop) : Prop :=
  ∀ (pins : List (Addr × Obj)) (s : Shared) (σ : St) (H : Hp) (x : V) (xs : List V) (v : Value) (us : List Value) (Q : VK), Inv X pins σ H s → RelV x v → Vals xs us → r x xs H Q →
    wpAny (model X.prog X.w) X.A (call (.builtin id) (v :: us)) (EP X pins σ Q) X.xe s
theorem Vals.zero {us : List Value} (h : Vals [] us) : us = [] := by cases h; rfl
theorem Vals.inv {x : V} {xs : List V} {us : List Value} (h : Vals (x :: xs) us) : ∃ u t, us = u :: t ∧ RelV x u ∧ Vals xs t := by cases h with | cons r t => exact ⟨_, _, rfl, r, t⟩
theorem Vals.one {x : V} {us : List Value} (h : Vals [x] us) : ∃ u, us = [u] ∧ RelV x u := by obtain ⟨u, t, rfl, r, h⟩ := h.inv; exact ⟨u, by rw [h.zero], r⟩
theorem Vals.two {x y : V} {us : List Value} (h : Vals [x, y] us) : ∃ u v, us = [u, v] ∧ RelV x u ∧ RelV y v := by obtain ⟨u, t, rfl, r, h⟩ := h.inv; obtain ⟨v, rfl, q⟩ := h.one; exact ⟨u, v, rfl, r, q⟩
theorem Vals.dropLast {xs : List V} {us : List Value} (h : Vals xs us) : Vals xs.dropLast us.dropLast := by
  induction h with
  | nil => exact .nil
  | cons r t ih =>
    cases t with
    | nil => exact .nil
    | cons q t' => exact .cons r ih
theorem Vals.reverse {xs : List V} {us : List Value} (h : Vals xs us) : Vals xs.reverse us.reverse := by
  induction h with
  | nil => exact .nil
  | cons r t ih => rw [List.reverse_cons, List.reverse_cons]; exact Vals.append ih (.cons r .nil)
theorem Vals.rep {xs : List V} {us : List Value} (h : Vals xs us) : ∀ k : Nat, Vals (List.replicate k xs).flatten (List.replicate k us).flatten
  | 0 => .nil
  | k + 1 => by
    rw [List.replicate_succ, List.replicate_succ, List.flatten_cons, List.flatten_cons]
    exact Vals.append h (Vals.rep h k)
theorem qjy (its : List Value) : ∀ (k : Nat) (acc : List Value),
    List.foldl (fun x1 x2 => x1 ++ x2) acc.toArray (List.replicate k its.toArray) = (acc ++ (List.replicate k its).flatten).toArray
  | 0, acc => by simp
  | k + 1, acc => by
    have e : acc.toArray ++ its.toArray = (acc ++ its).toArray := by simp
    have e2 : (acc ++ its) ++ (List.replicate k its).flatten = acc ++ (List.replicate (k + 1) its).flatten := by
      rw [List.replicate_succ, List.flatten_cons, List.append_assoc]
    rw [← e2, ← qjy its k (acc ++ its), ← e, List.replicate_succ, List.foldl_cons]
section
variable {X : Cx} {pins : List (Addr × Obj)} {σ : St} {H : Hp} {s : Shared} {l b : Addr} {xs ys zs : List V}
theorem Inv.lset {its its' : List Value} {n : Nat} {f : Array Value → Array Value} {t' : Nat} (I : Inv X pins σ H s) (hH : H l = some (.lst xs))
    (e : s.heap.get? l = some { cls := .type "list", data := .seq its.toArray n }) (hf : f its.toArray = its'.toArray) (hv : Vals ys its') (hz : ys.length ≤ sizeLine) :
    Inv X pins σ (upd H l (.lst ys)) { s with heap := s.heap.update l (Obj.mapSeq f), toks := t' } := by
  have q := PySem.IsL.update e f
  rw [hf] at q
  refine I.write (x := l) (e := l) (by rw [hH]; exact trivial) (.inl rfl) (fun b' u hb hu => (Heap.get?_update_other s.heap (Obj.mapSeq f) (Ne.symm hb)).trans hu) ⟨_, q⟩ ?_
  exact ⟨hz, its', _, hv, q⟩
theorem Inv.lnew {its : List Value} {t' : Nat} (I : Inv X pins σ H s) (hv : Vals ys its) (hz : ys.length ≤ sizeLine) :
    Inv X pins σ (upd H s.heap.objs.size (.lst ys)) { s with heap := s.heap.push { cls := .type "list", data := .seq its.toArray }, toks := t' } :=
  I.laid (fun _ _ q => Heap.get?_push_of_some _ q) (Nat.le_refl _) ⟨hz, its, 0, hv, Heap.get?_push_size _ rfl⟩
theorem Inv.fresh (I : Inv X pins σ H s) : H s.heap.objs.size = none := I.hok.fresh (Nat.le_refl _)
theorem Inv.lstM (I : Inv X pins σ H s) (hH : H l = some (.lst xs)) : xs.length ≤ sizeLine ∧ ∃ (its : List Value) (n : Nat), Vals xs its ∧ xs.length = its.length ∧ s.heap.get? l = some { cls := .type "list", data := .seq its.toArray n } := by
  obtain ⟨z, its, n, r, e⟩ := I.hok l _ hH
  exact ⟨z, its, n, r, r.length, e⟩
theorem qln {n : Nat} (h : n ≤ sizeLine) : Builtin.List.listTooLong n = false := by
  unfold Builtin.List.listTooLong
  exact decide_eq_false (by omega)
end
section
variable {X : Cx}
noncomputable def qb0 : V → List V → Hp → VK → Prop := fun x vs H Q => ∃ l xs y, x = .ref l ∧ vs = [y] ∧ H l = some (.lst xs) ∧ xs.length < sizeLine ∧ Q .non (upd H l (.lst (xs ++ [y])))
theorem qdc : MtM X "list.append" qb0 := by
  intro pins s σ H x vs v us Q I rx rv h
  obtain ⟨l, xs, y, rfl, rfl, hH, hz, q⟩ := h
  cases rx
  obtain ⟨u, rfl, ru⟩ := rv.one
  obtain ⟨z, its, n, r, hl, e⟩ := I.lstM hH
  refine call_meets F.slot_list_append ⟨_, e, rfl⟩ F.entry_list_append (F.args_list_append_2 _ _) (PySem.list_append l its.toArray n u (by rw [List.size_toArray]; omega)) ⟨e, ?_⟩
  refine ⟨.non, _, I.lset (its' := its ++ [u]) hH e (by simp) (r.append (.cons ru .nil)) ?_, rfl, q⟩
  rw [List.length_append, List.length_singleton]
  omega
noncomputable def qiJ : V → List V → Hp → VK → Prop := fun x vs H Q => ∃ l b xs zs, x = .ref l ∧ vs = [.ref b] ∧ H l = some (.lst xs) ∧ H b = some (.lst zs) ∧ xs.length + zs.length ≤ sizeLine ∧ Q .non (upd H l (.lst (xs ++ zs)))
theorem qm2 : MtM X "list.extend" qiJ := by
  intro pins s σ H x vs v us Q I rx rv h
  obtain ⟨l, b, xs, zs, rfl, rfl, hH, hB, hz, q⟩ := h
  cases rx
  obtain ⟨u, rfl, ru⟩ := rv.one
  cases ru
  obtain ⟨z, its, n, r, hl, e⟩ := I.lstM hH
  obtain ⟨z2, its2, n2, r2, hl2, e2⟩ := I.lstM hB
  have hsz : its.toArray.size + its2.toArray.size ≤ sizeLine := by rw [List.size_toArray, List.size_toArray]; omega
  have hlong : ¬ (!its.toArray.isEmpty && Builtin.List.listTooLong (its.toArray.size + its2.toArray.size)) = true := by
    rw [qln hsz, Bool.and_false]
    exact Bool.false_ne_true
  refine call_meets F.slot_list_extend ⟨_, e, rfl⟩ F.entry_list_extend (F.args_list_extend_2 _ _)
    (AutoSeq1.list_extend_list_list_0 l its.toArray n b its2.toArray n2 hlong (by rw [List.size_toArray]; omega) (by omega)) ⟨e, e2, ?_⟩
  refine ⟨.non, _, I.lset (its' := its ++ its2) hH e (by simp) (r.append r2) ?_, rfl, q⟩
  rw [List.length_append]
  omega
noncomputable def qtz : V → List V → Hp → VK → Prop := fun x vs H Q => ∃ l xs y, x = .ref l ∧ vs = [] ∧ H l = some (.lst xs) ∧ xs[xs.length - 1]? = some y ∧ Q y (upd H l (.lst xs.dropLast))
noncomputable def qsI : R2 := fun x y H Q => ∃ l b xs zs, x = .ref l ∧ y = .ref b ∧ H l = some (.lst xs) ∧ H b = some (.lst zs) ∧ xs.length + zs.length ≤ sizeLine ∧ ∀ p, H p = none → Q (.ref p) (upd H p (.lst (xs ++ zs)))
theorem qrJ : OpR X (binaryOp .Add) qsI := by
  intro pins s σ H x y v u Q I rx ry h
  obtain ⟨l, b, xs, zs, rfl, rfl, hH, hB, hz, q⟩ := h
  cases rx
  cases ry
  obtain ⟨z, its, n, r, hl, e⟩ := I.lstM hH
  obtain ⟨z2, its2, n2, r2, hl2, e2⟩ := I.lstM hB
  refine PySem.P.add_list e e2 ?_ (by rw [List.size_toArray, List.size_toArray]; omega)
  have ea : its.toArray ++ its2.toArray = (its ++ its2).toArray := by simp
  rw [ea]
  exact ⟨.ref _, _, I.lnew (t' := s.toks) (r.append r2) (by rw [List.length_append]; omega), rfl, q _ I.fresh⟩
noncomputable def qpS : R2 := fun x y H Q => ∃ l k xs, x = .ref l ∧ y = .int k ∧ H l = some (.lst xs) ∧ -(2 ^ 63) ≤ k ∧ k < 2 ^ 63 ∧ xs.length * k.toNat ≤ sizeLine ∧
  ∀ p, H p = none → Q (.ref p) (upd H p (.lst (List.replicate k.toNat xs).flatten))
theorem qqz {α : Type} (xs : List α) (k : Nat) : (List.replicate k xs).flatten.length = k * xs.length := by
  induction k with
  | zero => simp
  | succ k ih => rw [List.replicate_succ, List.flatten_cons, List.length_append, ih, Nat.succ_mul, Nat.add_comm]
theorem qjz : OpR X (binaryOp .Mult) qpS := by
  intro pins s σ H x y v u Q I rx ry h
  obtain ⟨l, k, xs, rfl, rfl, hH, h1, h2, hz, q⟩ := h
  cases rx
  obtain ⟨t, rfl⟩ := ry
  obtain ⟨z, its, n, r, hl, e⟩ := I.lstM hH
  have hlen : its.toArray.size * k.toNat ≤ sizeLine := by rw [List.size_toArray, ← hl]; exact hz
  have hcap : ¬ its.toArray.size * k.toNat > (2 ^ 63 - 1) / 8 := by
    have : (sizeLine : Nat) ≤ (2 ^ 63 - 1) / 8 := by decide
    omega
  have hfit : ¬ (!Builtin.List.listFitsIndex k) = true := by
    rw [fitsIndex_both h1 h2]
    exact Bool.false_ne_true
  have hlong : ¬ Builtin.List.listTooLong (its.toArray.size * k.toNat) = true := by
    rw [qln hlen]
    exact Bool.false_ne_true
  have hnew : List.foldl (fun x1 x2 => x1 ++ x2) #[] (List.replicate (if its.toArray.isEmpty = true then 0 else k.toNat) its.toArray) = (List.replicate k.toNat its).flatten.toArray := by
    have f0 : ∀ m : Nat, List.foldl (fun x1 x2 => x1 ++ x2) #[] (List.replicate m its.toArray) = (List.replicate m its).flatten.toArray := fun m => by
      have := qjy its m []
      rw [List.nil_append] at this
      exact this
    rw [f0]
    cases its with
    | nil => simp
    | cons a r' => rw [if_neg (by simp)]
  refine wpAny_binaryOp_repeat_ref (T := "list") (U := "int") (by decide) ⟨_, e, rfl⟩ (fun s' => typeIs_int s' k t) noFill_list_mul F.fills_int_mul F.slot_int_rmul repeat_list F.slot_int_index.lookup
    (call_meets F.slot_int_rmul (typeIs_int s k t) F.entry_int_rmul (F.args_int_rmul_2 _ _) (int___rmul___int_list k t l its.toArray n)
      ⟨e, rfl, ⟨_, e, rfl⟩, call_meets F.slot_list_mul ⟨_, e, rfl⟩ F.entry_list_mul (F.args_list_mul_2 _ _) (AutoListH.list___mul___list_int_3 l its.toArray n k t hfit hcap hlong) ⟨e, ?_⟩⟩)
  rw [hnew]
  exact ⟨.ref _, _, I.lnew (t' := s.toks) (r.rep k.toNat) (by rw [qqz, Nat.mul_comm]; exact hz), rfl, q _ I.fresh⟩
end
section
variable {prog : Program} {w : World} {A : Around} {E : Value → Shared → Prop} {s : Shared}
end
section
variable {X : Cx}
end
end L2
namespace Att
open PySem PySem.W PySem.Calls PyProof.Rows
theorem qgS {P : Params} {h : Heap} : ∀ (ns : List Int) (vs : List Value), WellAll P h vs (ns.map WData.int) → IntsAre vs ns := by
  intro ns
  induction ns with
  | nil =>
    intro vs w
    rw [List.map_nil] at w
    cases w
    exact .nil
  | cons n ns ih =>
    intro vs w
    rw [List.map_cons] at w
    cases w with
    | cons a b =>
      cases a
      exact .cons _ _ (ih _ b)
theorem qm3 {l : OpenLaw} {n : Nat} (hn : l.most = some n) {P : Params} {h : Heap} {args : List WData} {vals : List Value}
    (hpre : l.row.toRowW.claim.pre args = true) (hwl : WellAll P h vals args) :
    ∃ a vs ns, vals = [Value.ref a] ∧ args = [WData.list (ns.map WData.int)] ∧ h.get? a = some { cls := .type "list", data := .seq vs.toArray } ∧ IntsAre vs ns ∧ ns.length ≤ n := by
  have hsh : WShape.hasAll [] args [.list .int] = true := (pre_splitW hpre).1
  have hc : l.pre.holds [] { args := args } = true := (pre_splitW hpre).2
  obtain ⟨d, r, rfl, h1, h2⟩ := hasAllW_cons hsh
  obtain rfl := hasAllW_nil h2
  obtain ⟨xs, rfl, h3⟩ := hasW_list h1
  obtain ⟨ns, rfl⟩ := items_int h3
  have hlen : ns.length ≤ n := by
    unfold OpenLaw.pre at hc
    have h4 : (WTm.not (.lt (.lit (.int (n : Int))) (.len (.arg 0)))).holds [] { args := [.list (ns.map .int)] } = true := by
      have h4 := (holds_andW hc).1
      rw [hn] at h4
      exact h4
    have h5 := condW_of h4 (w_not (w_lt w_lit (w_len_list (w_arg rfl))))
    rw [List.length_map] at h5
    refine Nat.le_of_not_lt fun q => ?_
    have q' : (n : Int) < ((ns.length : Nat) : Int) := by omega
    first
      | (rw [decide_eq_true q'] at h5; exact absurd h5 (by decide))
      | (simp at h5; omega)
  cases hwl with
  | cons w1 w2 =>
    cases w2
    cases w1 with
    | list ho hall => exact ⟨_, _, ns, rfl, rfl, ho, qgS ns _ hall, hlen⟩
theorem qm4 (l : OpenLaw) (args : List WData) : l.row.toRowW.claim.post args (.bool true) args = true :=
  postW_of (r := l.row.toRowW) (X := (true == true))
    (show WShape.has [] (.bool true) .bool = true by first | rfl | decide | simp [WShape.has, WShape.arms, WShape.armsAll])
    (show (WTm.eq .res (.lit (.bool true))).value [] { args := args, res := some (.bool true), after := args } = some (.bool (true == true)) from w_eq_bool (w_res rfl) w_lit) rfl
theorem attach_call {l : OpenLaw} {n : Nat} {q : Program} {loose : List Str} {XP : (Str → Option Value) → Heap → Prop} {YP : World → Heap → Prop} {d : DefRec}
    (hn : l.most = some n) (hdf : d.params.defaults = [])
    (call : ∀ (w : World) (s₀ s₁ : Shared) (mg mb : Str → Option Value) (fa : Addr) (o : Obj) (pm cd doc : Value) (a : Addr) (vs : List Value) (ns : List Int),
      Ground q loose [] XP w s₀ mg mb s₁.heap → YP w s₁.heap →
      s₁.heap.get? fa = some o → o.data = .func (docDef d.name d.params d.body d.scope pm cd doc) → s₁.heap.CodeRec cd d.name → mg d.name = some (.ref fa) →
      s₁.heap.get? a = some { cls := .type "list", data := .seq vs.toArray } → IntsAre vs ns → ns.length ≤ n → s₁.gens = #[] →
      codeAny (model l.prog w) callerA (.call (.ref fa) ⟨[.ref a], []⟩) (fun r s' => r = .ok (.ret (.bool true)) ∧ OldK s₁.heap s'.heap ∧ s'.os = s₁.os ∧ AllBare s'.gens) s₁) :
    WalkO q loose XP YP l.row.toRowW d [] (fun f vs => PySem.call f vs) := by
  intro w s₀ s₁ mg mb G Y fa o pm cd doc dV kV ho hd hcd hD hmg hg args vals as hpre hlay hrd hwl hlo
  obtain rfl : dV = .none := Dflts.none hD hdf
  obtain rfl : kV = .none := Dflts.noKw hD
  obtain ⟨a, vs, ns, rfl, rfl, hobj, hints, hlen⟩ := qm3 hn hpre hwl
  refine enter_call (codeAny_mono (call w s₀ s₁ mg mb fa o pm cd doc a vs ns G Y ho (fd_plain hd) hcd hmg hobj hints hlen hg) fun r s' hq => ?_)
  obtain ⟨rfl, h2, h3, h4⟩ := hq
  exact ⟨.inl ⟨.bool true, .bool true, [], rfl, fun _ => rfl, .bool true, qm4 l _, fun _ => ⟨List.Pairwise.nil, fun _ hm => (nomatch hm)⟩⟩, h2, h3, h4⟩
section
variable {prog : Program} {w : World} {A : Around} {E : Value → Shared → Prop} {s : Shared} {K : Frag}
noncomputable def noObjs (h : Heap) : Heap := { h with objs := #[] }
theorem noObjs_get (h : Heap) (b : Addr) : (noObjs h).get? b = none := by
  cases e : (noObjs h).get? b with
  | none => rfl
  | some o => exact absurd (Heap.lt_size e) (Nat.not_lt_zero _)
noncomputable def ledger (h : Heap) (L d : Addr) : List (Addr × Obj) := (List.range h.objs.size).filterMap fun a => if a = L ∨ a = d then none else (h.get? a).map fun o => (a, o)
theorem mem_ledger {h : Heap} {L d a : Addr} {o : Obj} : (a, o) ∈ ledger h L d ↔ a ≠ L ∧ a ≠ d ∧ h.get? a = some o := by
  unfold ledger
  rw [List.mem_filterMap]
  constructor
  · rintro ⟨b, _, e⟩
    split at e
    · cases e
    · rename_i hb
      obtain ⟨o', ho, e'⟩ := Option.map_eq_some_iff.mp e
      cases e'
      exact ⟨fun q => hb (.inl q), fun q => hb (.inr q), ho⟩
  · rintro ⟨n1, n2, ho⟩
    refine ⟨a, List.mem_range.mpr (Heap.lt_size ho), ?_⟩
    rw [if_neg (show ¬ (a = L ∨ a = d) from fun q => q.elim n1 n2), ho] <;> rfl
theorem fr_all {h : Heap} {L : Addr} {m : Str → Option Value} (n : h.Ns L m) : Fr (noObjs h) L h m :=
  ⟨n, fun b o e => (by rw [noObjs_get] at e; cases e), Nat.zero_le _⟩
end
end Att
namespace L2
open PySem PySem.Spec PyProof.Rows
theorem qgT : ∀ {vs : List Value} {ns : List Int}, IntsAre vs ns → Vals (ns.map V.int) vs
  | _, _, .nil => .nil
  | _, _, .cons n t h => .cons ⟨t, rfl⟩ (qgT h)
noncomputable def Only (H : Hp) : Prop := ∀ b, H b = none ∨ ∃ o xs, H b = some (.frz o (.lst xs))
theorem qoZ {P : Program} {w : World} {K : PySem.W.Frag} {mg mb : Str → Option Value} {CX : CXT} {k : Nat} {fa a : Addr} {fd : FuncData} {x : Str} {sp : Sp} {s₁ : Shared} {vs : List Value} {ns : List Int}
    (KX : K.In s₁.heap) (hns : s₁.heap.Ns mainGlobals mg) (hb : s₁.heap.Ns builtinsNs mb) (hbb : ∀ x : Str, x ≠ "__name__" → mb x = bootBuiltins x) (hlim : s₁.heap.NoLimit) (hseer : s₁.heap.NoSeer) (htree : (model P w).prog.given.tree = none) (hg : s₁.gens = #[])
    (ha : s₁.heap.get? a = some { cls := .type "list", data := .seq vs.toArray }) (hi : IntsAre vs ns) (hl : ns.length ≤ sizeLine) (hr : Room k callerA)
    (F : ∀ base : Heap, K.In base → base.Ns mainGlobals mg → FnOk P w K mg base CX k fa fd [x] sp) (hbind : ∀ (s : Shared) (u : Value), BindsTo s fd ⟨[u], []⟩ [(x, u)])
    (hsp : ∀ H : Hp, Only H → SqL K H a (ns.map V.int) → sp [.ref a] H (fun v _ => v = .bl true) fun _ _ _ => False)
    (hCX : ∀ H e s', CX [] H s₁ (fun _ _ _ => False) e s' → False) :
    codeAny (model P w) callerA (.call (.ref fa) ⟨[.ref a], []⟩) (fun r s' => r = .ok (.ret (.bool true)) ∧ OldK s₁.heap s'.heap ∧ s'.os = s₁.os ∧ AllBare s'.gens) s₁ := by
  have rv := qgT hi
  have lenV := hi.length
  have core : ∀ H : Hp, Only H → SqL K H a (ns.map V.int) → HOk P w H s₁.heap → (∀ b, H b ≠ none → b = a) → (H a ≠ none → K.lookup a = none) →
      codeAny (model P w) callerA (.call (.ref fa) ⟨[.ref a], []⟩) (fun r s' => r = .ok (.ret (.bool true)) ∧ OldK s₁.heap s'.heap ∧ s'.os = s₁.os ∧ AllBare s'.gens) s₁ := by
    intro H hO hS hok hA hK
    have base_of : ∀ {b : Addr} {o : Obj}, s₁.heap.get? b = some o → H b = none → (qoP s₁.heap H).get? b = some o := fun e n => qoU e n
    have noA : ∀ {b : Addr} {o : Obj} {es : Array DictEntry} {ep : Nat}, s₁.heap.get? b = some o → o.data = .dict es ep → H b = none := fun {b o es ep} e d => by
      cases q : H b with
      | none => rfl
      | some u =>
        have e' : b = a := hA b (by rw [q]; simp)
        subst e'
        rw [ha] at e; cases e
        have d' : Data.seq vs.toArray _ = Data.dict es ep := d
        cases d'
    have nsK : ∀ {b : Addr} {m : Str → Option Value}, s₁.heap.Ns b m → (qoP s₁.heap H).Ns b m := fun {b m} ⟨o, es, ep, e, d, r⟩ => ⟨o, es, ep, base_of e (noA e d), d, r⟩
    have hKb : K.In (qoP s₁.heap H) := fun b o e => base_of (KX b o e) (by
      cases q : H b with
      | none => rfl
      | some u =>
        have e' : b = a := hA b (by rw [q]; simp)
        subst e'
        rw [hK (by rw [q]; simp)] at e; cases e)
    have hM : Mod K mg (qoP s₁.heap H) := ⟨hKb, nsK hns, ⟨mb, nsK hb, hbb⟩, let ⟨mc, h1, h2⟩ := hlim; ⟨mc, nsK h1, h2⟩⟩
    have hSe : (qoP s₁.heap H).NoSeer := ⟨let ⟨mc, a, b⟩ := hseer.statics; ⟨mc, nsK a, b⟩, let ⟨mc, a, b⟩ := hseer.mods; ⟨mc, nsK a, b⟩, let ⟨mc, a, b⟩ := hseer.imp; ⟨mc, nsK a, b⟩,
      let ⟨mg', bm, ob, a', b', c', d', e'⟩ := hseer.main; ⟨mg', bm, ob, nsK a', b', base_of c' (by
        cases q : H bm with
        | none => rfl
        | some u =>
          have z : bm = a := hA bm (by rw [q]; simp)
          subst z
          rw [ha] at c'; cases c'
          simp at d'), d', e'⟩⟩
    have e0 : Env0 P w K mg (qoP s₁.heap H) callerA [] s₁ H := ⟨rfl, hM, fun b o e => qqp e, Nat.le_of_eq (qmG _ _), trivial, fun b hb => absurd (show b ∈ ([] : List Addr) from hb) (by simp), hok, .of_eq hg, hSe, htree⟩
    refine codeAny_mono ((F _ hKb (nsK hns)).run callerA [] s₁ H ⟨[.ref a], []⟩ [.ref a] [.ref a] _ _ hr e0 (hbind s₁ (.ref a)) (.cons rfl .nil) (hsp H hO hS)) fun r s' h => ?_
    cases r with
    | error e => exact (hCX H e s' h).elim
    | ok fl =>
      cases fl with
      | next => exact False.elim h
      | brk => exact False.elim h
      | cont => exact False.elim h
      | ret u =>
        obtain ⟨v, H', os, bare, un, hok', r', q⟩ := h
        have q' : v = .bl true := q
        subst q'
        obtain rfl : u = Value.bool true := r'
        refine ⟨rfl, OldK.of_keep fun b o e => ?_, os, bare⟩
        cases q : H b with
        | none => exact un.keep b o e q (by intro z; exact absurd (show b ∈ ([] : List Addr) from z) (by simp)) (by simp)
        | some u =>
          rcases hO b with z | ⟨ob, xs, z⟩
          · rw [q] at z; cases z
          · have z2 := un.frzs b ob _ z
            obtain ⟨e1, _⟩ := hok b _ z
            obtain ⟨e2, _⟩ := hok' b _ z2
            rw [e] at e1; cases e1
            exact e2
  cases hk : K.lookup a with
  | some o =>
    have e := KX a o hk
    rw [ha] at e
    cases e
    refine core (fun _ => none) (fun _ => .inl rfl) (.inr ⟨_, vs.toArray, _, hk, rfl, rfl, rfl, by rw [List.size_toArray, lenV]; exact hl, by simpa using rv⟩) (fun b u z => by have z' : (none : Option HO) = some u := z; cases z') (fun b z => absurd rfl z) fun z => absurd rfl z
  | none =>
    refine core (fun b => if b = a then some (.frz { cls := .type "list", data := .seq vs.toArray } (.lst (ns.map V.int))) else none) (fun b => ?_) (.inl (.inr ⟨{ cls := .type "list", data := .seq vs.toArray }, if_pos rfl⟩)) (fun b u z => ?_) (fun b z => ?_) fun _ => hk
    · by_cases hb : b = a
      · exact .inr ⟨_, _, if_pos hb⟩
      · exact .inl (if_neg hb)
    · by_cases hb : b = a
      · have z' := (if_pos hb).symm.trans z
        cases z'
        subst hb
        exact ⟨ha, by rw [List.length_map]; exact hl, vs, _, rv, ha⟩
      · have z' := (if_neg hb).symm.trans z
        cases z'
    · by_cases hb : b = a
      · exact hb
      · exact absurd (if_neg hb) z
end L2
namespace L2
open PySem PySem.Spec PyProof.Rows
theorem walk_of {l : PySem.W.OpenLaw} {n k : Nat} {q : Program} {loose : List Str} {XP : (Str → Option Value) → Heap → Prop} {YP : World → Heap → Prop} {d : DefRec} {K : Params → PySem.W.Frag} {CX : World → CXT} {sp : World → Sp} {x : Str}
    (hn : l.most = some n) (hn2 : n ≤ sizeLine) (hdf : d.params.defaults = []) (hq : importsNone q = true) (htree : ∀ w, (model l.prog w).prog.given.tree = none) (hr : Room k callerA)
    (hY : ∀ (w : World) (h : Heap), YP w h → (K w.params).In h)
    (F : ∀ (w : World) (mg : Str → Option Value) (fa : Addr) (h : Heap), (K w.params).In h → h.Ns mainGlobals mg → mg d.name = some (.ref fa) →
      ∃ fd : FuncData, (∀ (s : Shared) (u : Value), BindsTo s fd ⟨[u], []⟩ [(x, u)]) ∧
        ∀ base : Heap, (K w.params).In base → base.Ns mainGlobals mg → FnOk l.prog w (K w.params) mg base (CX w) k fa fd [x] (sp w))
    (hsp : ∀ (w : World) (H : Hp) (a : Addr) (ns : List Int), ns.length ≤ n → Only H → SqL (K w.params) H a (ns.map V.int) → sp w [.ref a] H (fun v _ => v = .bl true) fun _ _ _ => False)
    (hCX : ∀ (w : World) (H : Hp) (s : Shared) (e : Value) (s' : Shared), CX w [] H s (fun _ _ _ => False) e s' → False) :
    PySem.W.WalkO q loose XP YP l.row.toRowW d [] (fun f vs => PySem.call f vs) := by
  refine Att.attach_call hn hdf fun w s₀ s₁ mg mb fa o pm cd doc a vs ns G Y ho hd hcd hmg hobj hints hlen hg => ?_
  have KX := hY w _ Y
  obtain ⟨fd, hb, hF⟩ := F w mg fa _ KX G.T.g hmg
  exact qoZ KX G.T.g G.T.b G.T.builtins G.T.nolimit (G.T.seer hq) (htree w) hg hobj hints (Nat.le_trans hlen hn2) hr hF hb (fun H hO hS => hsp w H a ns hlen hO hS) fun H e s' => hCX w H s₁ e s'
end L2
namespace L2
open PySem PySem.Spec PyProof.Rows
noncomputable def qc7 (s : Stmt) : Arguments := match s with
  | .FunctionDef _ a _ _ _ _ _ _ _ _ => a
  | _ => { posonlyargs := [], args := [], vararg := none, kwonlyargs := [], kw_defaults := [], kwarg := none, defaults := [] }
noncomputable def qcm (s : Stmt) : List Stmt := match s with
  | .FunctionDef _ _ b _ _ _ _ _ _ _ => b
  | _ => []
noncomputable def qa4 (s : Stmt) : Scope := match s with
  | .FunctionDef _ _ _ _ _ _ sc _ _ _ => sc
  | _ => { kind := .function, names := [], isGenerator := false, isCoroutine := false }
noncomputable abbrev CX0 : CXT := fun _ _ _ _ _ _ => False
noncomputable abbrev E0 : XK := fun _ _ _ => False
theorem qsQ {X : Cx} : Passes CX0 X E0 := fun _ _ _ _ _ _ _ h => h.elim
structure Fun (K : PySem.W.Frag) (x qual : Str) (st : Stmt) (f : Addr) (fd : FuncData) : Prop where
  ex : ∃ (oc : Value) (od : Option Addr) (kV doc pm : Value) (an : Option Addr) (cdv ct : Value) (osl : Array (Option Value)),
    fd = PySem.W.fnOf x qual (qc7 st) (qcm st) (qa4 st) .none kV doc pm an cdv ct ∧ K.lookup f = some ⟨oc, od, .func fd, osl⟩ ∧ PySem.W.codeIn K cdv qual = true
  kp : PySem.W.keepIn K (.ref f) = true
section
variable {P : Program} {w : World} {K : PySem.W.Frag} {mg : Str → Option Value} {base : Heap}
theorem Fun.ok {x qual : Str} {st : Stmt} {f : Addr} {fd : FuncData} {N ps : List Str} {k : Nat} {sp : Sp} (F : Fun K x qual st f fd) (S : FnScope N ps (qa4 st)) (len : ∀ vs H Q E, sp vs H Q E → vs.length = ps.length)
    (hbody : ∀ (cdv : Value) (A : Around) (outer : List Env) (s : Shared) (H : Hp) (vs : List V) (Q : VK) (E : XK), Room k (A.deeper (envOfC qual (qa4 st) s.heap.objs.size f cdv)) → sp vs H Q E →
      ∃ t, PSs (qqw CX0 P w K mg base N qual (qa4 st) f cdv A outer s H E).nox (qcm st) t ∧ t { nx := fun _ H' => Q .non H', rt := Q } (start N vs) H) : FnOk P w K mg base CX0 (k + 1) f fd ps sp := by
  obtain ⟨oc, od, kV, doc, pm, an, cdv, ct, osl, rfl, lk, hcd⟩ := F.ex
  refine qsP lk hcd S len fun A outer s H vs Q E hr hsp => ?_
  obtain ⟨t, h, q⟩ := hbody cdv A outer s H vs Q E hr hsp
  exact ⟨t, h.nox, q⟩
theorem Fun.binds {x qual : Str} {st : Stmt} {f : Addr} {fd : FuncData} {ps : List Str} (F : Fun K x qual st f fd)
    (h : ∀ (kV doc pm : Value) (an : Option Addr) (cdv ct : Value) (us : List Value), us.length = ps.length → bindArgs (PySem.W.fnOf x qual (qc7 st) (qcm st) (qa4 st) .none kV doc pm an cdv ct) ⟨us, []⟩ = pure (ps.zip us)) : Binds K fd ps [] := by
  obtain ⟨oc, od, kV, doc, pm, an, cdv, ct, osl, rfl, lk, hcd⟩ := F.ex
  exact .all (h kV doc pm an cdv ct)
theorem qrK {x qual : Str} {st : Stmt} {f : Addr} {oc : Value} {od an : Option Addr} {osl : Array (Option Value)} {kV doc pm cdv ct : Value} (l : K.lookup f = some ⟨oc, od, .func (PySem.W.fnOf x qual (qc7 st) (qcm st) (qa4 st) .none kV doc pm an cdv ct), osl⟩)
    (c : PySem.W.codeIn K cdv qual = true) (k : PySem.W.keepIn K (.ref f) = true) : Fun K x qual st f (PySem.W.fnOf x qual (qc7 st) (qcm st) (qa4 st) .none kV doc pm an cdv ct) := ⟨⟨oc, od, kV, doc, pm, an, cdv, ct, osl, rfl, l, c⟩, k⟩
end
section
variable {X : Cx}
theorem pv (i : Nat) {x : Str} {pos : Pos} (hN : X.N[i]? = some x := by rfl) (hv : Vis X.env.scope x := by first | exact Or.inl rfl | exact Or.inr (Or.inl rfl) | exact Or.inr (Or.inr rfl)) (hd : (x == ("__debug__" : Str)) = false := by decide)
    (hcd : (x == ("__classdict__" : Str)) = false := by decide) : PE X (.Name x pos) (qaf i) := qry hN hv hd hcd
end
theorem qbM {c A B : Prop} [Decidable c] (h1 : c → A) (h2 : ¬ c → B) : if c then A else B := by
  by_cases h : c
  · rw [if_pos h]
    exact h1 h
  · rw [if_neg h]
    exact h2 h
noncomputable def Same (H H' : Hp) : Prop := ∀ b o, H b = some o → H' b = some o
theorem Same.refl (H : Hp) : Same H H := fun _ _ h => h
theorem Same.trans {H H1 H2 : Hp} (a : Same H H1) (b : Same H1 H2) : Same H H2 := fun c o h => b c o (a c o h)
theorem Same.free {H H' : Hp} (e : Same H H') {l : Addr} (h : H' l = Option.none) : H l = Option.none := by
  cases q : H l with
  | none => rfl
  | some o =>
    rw [e l o q] at h
    cases h
theorem Same.seq {K : PySem.W.Frag} {H H' : Hp} {a : Addr} {xs : List V} (e : Same H H') (h : SqL K H a xs) : SqL K H' a xs := by
  rcases h with (h | ⟨o, h⟩) | h
  · exact .inl (.inl (e _ _ h))
  · exact .inl (.inr ⟨o, e _ _ h⟩)
  · exact .inr h
end L2
local macro_rules | `(tactic| omega) => `(tactic| lia)
namespace Bs.Hd
open PySem PySem.Spec PyProof.Rows L2
set_option maxRecDepth 100000
set_option maxHeartbeats 4000000
noncomputable def top (i:Nat):Stmt:=PySem.Challenge.pw_backslope_k12_rational_roots_looked_for.main.body.getD i (.Pass ⟨0,0,0,0⟩)
noncomputable abbrev qgl:Stmt:=top 2
noncomputable abbrev qo0:Stmt:=top 3
noncomputable abbrev ql6:Stmt:=top 4
noncomputable abbrev qiK:Stmt:=top 5
noncomputable abbrev qm5:Stmt:=top 6
noncomputable abbrev qiL:Stmt:=top 7
noncomputable abbrev qjA:Stmt:=top 8
noncomputable abbrev qkw:Stmt:=top 9
noncomputable abbrev qkx:Stmt:=top 10
noncomputable abbrev ql7:Stmt:=top 11
noncomputable abbrev qgU:Stmt:=top 12
noncomputable abbrev qgV:Stmt:=top 13
noncomputable abbrev ql8:Stmt:=top 14
noncomputable abbrev qiM:Stmt:=top 15
noncomputable abbrev qeV:Stmt:=top 16
noncomputable abbrev qgW:Stmt:=top 17
noncomputable abbrev qgX:Stmt:=top 18
noncomputable abbrev qgm:Stmt:=top 19
noncomputable abbrev qhL:Stmt:=top 20
noncomputable abbrev qjB:Stmt:=top 21
noncomputable abbrev qhM:Stmt:=top 22
noncomputable abbrev qhN:Stmt:=top 23
noncomputable abbrev qiN:Stmt:=top 24
noncomputable abbrev qgY:Stmt:=top 25
noncomputable abbrev qhO:Stmt:=top 26
noncomputable abbrev qo1:Stmt:=top 27
noncomputable abbrev qm6:Stmt:=top 28
noncomputable abbrev qfG:Stmt:=top 29
noncomputable abbrev qjC:Stmt:=top 30
noncomputable abbrev qjD:Stmt:=top 31
noncomputable abbrev qqA:Stmt:=top 33
noncomputable abbrev qm7:Stmt:=top 35
noncomputable abbrev qgn:Stmt:=top 37
noncomputable abbrev qgZ:Stmt:=top 38
noncomputable abbrev qo2:Stmt:=top 40
noncomputable abbrev qo3:Stmt:=top 41
noncomputable abbrev ql9:Stmt:=top 42
noncomputable abbrev qiO:Stmt:=top 43
noncomputable abbrev qky:Stmt:=top 44
noncomputable abbrev qm8:Stmt:=top 45
noncomputable abbrev qm9:Stmt:=top 46
noncomputable abbrev qkz:Stmt:=top 47
noncomputable abbrev qma:Stmt:=top 48
noncomputable abbrev qmb:Stmt:=top 49
noncomputable abbrev qhP:Stmt:=top 50
noncomputable abbrev qna:Stmt:=top 51
noncomputable abbrev N:Value:=.none
noncomputable abbrev S (x:Str) (t:Tok):Value:=.str x t
noncomputable abbrev I (i:Int):Value:=.int i 0
noncomputable abbrev R (a:Addr):Value:=.ref a
noncomputable def en (P:Params) (k:Str) (t:Tok) (v:Value):DictEntry:=⟨PyData.keyHash P k,.str k t,v⟩
noncomputable def cdO (n:Str) (t:Tok) (l c u:Int) (a:Addr) (b g d e f:Value) (x:Int) (y:Tok):Obj:=⟨.type "code", none,.fields #[S n t,S n (t+1),S "/claim/cut.py" (t+2),I l,I c,I 0,I 0,I u,R a,.bool true,I 181,b,g,d,e,f,I x,I l,S "/claim/cut.py" y],#[]⟩
noncomputable def fnO (n:Str) (s:Stmt) (pm:Value) (c:Addr):Obj:=⟨.type "function", none,.func (PySem.W.fnOf n n (qc7 s) (qcm s) (qa4 s) .none .none .none pm none (.ref c) .none),#[]⟩
noncomputable abbrev mo0:Value:=S "backslope.wholes" 187
noncomputable abbrev mo1:Value:=S "backslope.numbers" 465
noncomputable abbrev mo2:Value:=S "backslope.polys" 476
noncomputable abbrev mo3:Value:=S "backslope.places" 484
noncomputable abbrev mo4:Value:=S "law_backslope_k12_rational_roots_looked_for" 504
noncomputable def hp (P:Params):W.Frag:=[
  (3,⟨.type "dict", none,.dict #[en P "__name__" 165 (S "law_backslope_k12_rational_roots_looked_for" 504),en P "__doc__" 166 N,en P "__package__" 167 N,en P "__loader__" 168 (.builtin "__main__.__loader__#opaque"),en P "__spec__" 169 N,en P "__annotations__" 170 (R 6),en P "__builtins__" 171 (R 4),en P "__file__" 173 (S "/claim/cut.py" 172),en P "__cached__" 174 N,en P "EXPONENTS" 197 (R 15),en P "common_divisor" 206 (R 22),en P "raised" 216 (R 29),en P "is_prime" 224 (R 36),en P "prime_after" 232 (R 43),en P "content" 238 (R 48),en P "row_trimmed" 246 (R 55),en P "row_parted" 252 (R 60),en P "row_times" 265 (R 67),en P "row_slope" 271 (R 72),en P "row_over" 285 (R 79),en P "row_at_modulo" 296 (R 86),en P "root_exponent" 306 (R 93),en P "row_less" 312 (R 98),en P "strand_rest" 318 (R 103),en P "strand_shortened" 324 (R 108),en P "row_shortened" 331 (R 115),en P "strand_euclid" 340 (R 122),en P "inverse_modulo" 354 (R 129),en P "rests_modulo" 360 (R 134),en P "row_modulo" 368 (R 141),en P "monic_modulo" 374 (R 146),en P "split_modulo" 389 (R 153),en P "rest_modulo" 398 (R 160),en P "euclid_modulo" 408 (R 167),en P "inverse_rest" 414 (R 172),en P "lifted" 431 (R 179),en P "nearest" 440 (R 186),en P "common_by_prime" 446 (R 191),en P "row_common" 458 (R 198),en P "simple_row" 464 (R 203),en P "ratio" 475 (R 210),en P "cleared" 483 (R 215),en P "rational_roots" 491 (R 220),en P "starts_modulo" 503 (R 227),en P "_law_hand" 513 (R 234),en P "_law_draw" 525 (R 241),en P "_law_lowest" 535 (R 248),en P "_law_row_times" 548 (R 255),en P "_law_poly_of" 554 (R 260),en P "_law_worth" 565 (R 267),en P "_law_scale" 572 (R 274),en P "_law_any_row" 583 (R 281),en P "_law_rising" 593 (R 288),en P "_law_parted" 599 (R 293),en P "_law_looked_for" 605 (R 298),en P "law" 615 (R 305)] 56,#[]⟩),
  (15,⟨.type "tuple", none,.seq #[(.int 61 189),(.int 127 190),(.int 521 191),(.int 1279 192),(.int 4423 193),(.int 9941 194),(.int 21701 195),(.int 44497 196)] 0,#[]⟩),
  (21,cdO "common_divisor" 198 3 2 3 16 (R 17) N (R 18) (R 19) (R 20) 204 205),
  (22,fnO "common_divisor" (top 2) mo0 21),
  (28,cdO "raised" 207 9 2 3 23 (R 24) N (R 25) (R 26) (R 27) 214 215),
  (29,fnO "raised" (top 3) mo0 28),
  (35,cdO "is_prime" 217 19 1 3 30 (R 31) N (R 32) (R 33) (R 34) 222 223),
  (36,fnO "is_prime" (top 4) mo0 35),
  (42,cdO "prime_after" 225 26 1 3 37 (R 38) N (R 39) (R 40) (R 41) 230 231),
  (43,fnO "prime_after" (top 5) mo0 42),
  (47,cdO "content" 233 31 2 3 44 (R 45) N N N (R 46) 236 237),
  (48,fnO "content" (top 6) mo0 47),
  (54,cdO "row_trimmed" 239 38 1 3 49 (R 50) N (R 51) (R 52) (R 53) 244 245),
  (55,fnO "row_trimmed" (top 7) mo0 54),
  (59,cdO "row_parted" 247 43 2 3 56 (R 57) N N N (R 58) 250 251),
  (60,fnO "row_parted" (top 8) mo0 59),
  (66,cdO "row_times" 253 45 2 3 61 (R 62) N (R 63) (R 64) (R 65) 263 264),
  (67,fnO "row_times" (top 9) mo0 66),
  (71,cdO "row_slope" 266 54 1 3 68 (R 69) N N N (R 70) 269 270),
  (72,fnO "row_slope" (top 10) mo0 71),
  (78,cdO "row_over" 272 56 2 3 73 (R 74) N (R 75) (R 76) (R 77) 283 284),
  (79,fnO "row_over" (top 11) mo0 78),
  (85,cdO "row_at_modulo" 286 69 3 3 80 (R 81) N (R 82) (R 83) (R 84) 294 295),
  (86,fnO "row_at_modulo" (top 12) mo0 85),
  (92,cdO "root_exponent" 297 74 1 3 87 (R 88) N (R 89) (R 90) (R 91) 304 305),
  (93,fnO "root_exponent" (top 13) mo0 92),
  (97,cdO "row_less" 307 81 5 3 94 (R 95) N N N (R 96) 310 311),
  (98,fnO "row_less" (top 14) mo0 97),
  (102,cdO "strand_rest" 313 87 2 3 99 (R 100) N N N (R 101) 316 317),
  (103,fnO "strand_rest" (top 15) mo0 102),
  (107,cdO "strand_shortened" 319 97 1 3 104 (R 105) N N N (R 106) 322 323),
  (108,fnO "strand_shortened" (top 16) mo0 107),
  (114,cdO "row_shortened" 325 102 1 3 109 (R 110) N (R 111) (R 112) (R 113) 329 330),
  (115,fnO "row_shortened" (top 17) mo0 114),
  (121,cdO "strand_euclid" 332 104 2 3 116 (R 117) N (R 118) (R 119) (R 120) 338 339),
  (122,fnO "strand_euclid" (top 18) mo0 121),
  (128,cdO "inverse_modulo" 341 112 2 3 123 (R 124) N (R 125) (R 126) (R 127) 352 353),
  (129,fnO "inverse_modulo" (top 19) mo0 128),
  (133,cdO "rests_modulo" 355 126 2 3 130 (R 131) N N N (R 132) 358 359),
  (134,fnO "rests_modulo" (top 20) mo0 133),
  (140,cdO "row_modulo" 361 128 2 3 135 (R 136) N (R 137) (R 138) (R 139) 366 367),
  (141,fnO "row_modulo" (top 21) mo0 140),
  (145,cdO "monic_modulo" 369 130 2 3 142 (R 143) N N N (R 144) 372 373),
  (146,fnO "monic_modulo" (top 22) mo0 145),
  (152,cdO "split_modulo" 375 135 3 3 147 (R 148) N (R 149) (R 150) (R 151) 387 388),
  (153,fnO "split_modulo" (top 23) mo0 152),
  (159,cdO "rest_modulo" 390 146 3 3 154 (R 155) N (R 156) (R 157) (R 158) 396 397),
  (160,fnO "rest_modulo" (top 24) mo0 159),
  (166,cdO "euclid_modulo" 399 148 3 3 161 (R 162) N (R 163) (R 164) (R 165) 406 407),
  (167,fnO "euclid_modulo" (top 25) mo0 166),
  (171,cdO "inverse_rest" 409 156 3 3 168 (R 169) N N N (R 170) 412 413),
  (172,fnO "inverse_rest" (top 26) mo0 171),
  (178,cdO "lifted" 415 173 4 3 173 (R 174) N (R 175) (R 176) (R 177) 429 430),
  (179,fnO "lifted" (top 27) mo0 178),
  (185,cdO "nearest" 432 187 2 3 180 (R 181) N (R 182) (R 183) (R 184) 438 439),
  (186,fnO "nearest" (top 28) mo0 185),
  (190,cdO "common_by_prime" 441 190 3 3 187 (R 188) N N N (R 189) 444 445),
  (191,fnO "common_by_prime" (top 29) mo0 190),
  (197,cdO "row_common" 447 199 2 3 192 (R 193) N (R 194) (R 195) (R 196) 456 457),
  (198,fnO "row_common" (top 30) mo0 197),
  (202,cdO "simple_row" 459 208 1 3 199 (R 200) N N N (R 201) 462 463),
  (203,fnO "simple_row" (top 31) mo0 202),
  (209,cdO "ratio" 467 213 2 3 204 (R 205) N (R 206) (R 207) (R 208) 473 474),
  (210,fnO "ratio" (top 33) mo1 209),
  (214,cdO "cleared" 478 219 1 3 211 (R 212) N N N (R 213) 481 482),
  (215,fnO "cleared" (top 35) mo2 214),
  (219,cdO "rational_roots" 486 225 1 3 216 (R 217) N N N (R 218) 489 490),
  (220,fnO "rational_roots" (top 37) mo3 219),
  (226,cdO "starts_modulo" 492 241 2 3 221 (R 222) N (R 223) (R 224) (R 225) 501 502),
  (227,fnO "starts_modulo" (top 38) mo3 226),
  (233,cdO "_law_hand" 506 254 1 3 228 (R 229) N (R 230) (R 231) (R 232) 511 512),
  (234,fnO "_law_hand" (top 40) mo4 233),
  (240,cdO "_law_draw" 514 257 2 3 235 (R 236) N (R 237) (R 238) (R 239) 523 524),
  (241,fnO "_law_draw" (top 41) mo4 240),
  (247,cdO "_law_lowest" 526 270 2 3 242 (R 243) N (R 244) (R 245) (R 246) 533 534),
  (248,fnO "_law_lowest" (top 42) mo4 247),
  (254,cdO "_law_row_times" 536 277 2 3 249 (R 250) N (R 251) (R 252) (R 253) 546 547),
  (255,fnO "_law_row_times" (top 43) mo4 254),
  (259,cdO "_law_poly_of" 549 283 2 3 256 (R 257) N N N (R 258) 552 553),
  (260,fnO "_law_poly_of" (top 44) mo4 259),
  (266,cdO "_law_worth" 555 285 2 3 261 (R 262) N (R 263) (R 264) (R 265) 563 564),
  (267,fnO "_law_worth" (top 45) mo4 266),
  (273,cdO "_law_scale" 566 292 1 3 268 (R 269) N (R 270) (R 271) (R 272) 570 571),
  (274,fnO "_law_scale" (top 46) mo4 273),
  (280,cdO "_law_any_row" 573 294 3 3 275 (R 276) N (R 277) (R 278) (R 279) 581 582),
  (281,fnO "_law_any_row" (top 47) mo4 280),
  (287,cdO "_law_rising" 584 299 1 3 282 (R 283) N (R 284) (R 285) (R 286) 591 592),
  (288,fnO "_law_rising" (top 48) mo4 287),
  (292,cdO "_law_parted" 594 308 1 3 289 (R 290) N N N (R 291) 597 598),
  (293,fnO "_law_parted" (top 49) mo4 292),
  (297,cdO "_law_looked_for" 600 310 1 3 294 (R 295) N N N (R 296) 603 604),
  (298,fnO "_law_looked_for" (top 50) mo4 297),
  (304,cdO "law" 606 321 1 3 299 (R 300) N (R 301) (R 302) (R 303) 613 614),
  (305,fnO "law" (top 51) mo4 304)]
noncomputable def as:List Addr:=[3,15,21,22,28,29,35,36,42,43,47,48,54,55,59,60,66,67,71,72,78,79,85,86,92,93,97,98,102,103,107,108,114,115,121,122,128,129,133,134,140,141,145,146,152,153,159,160,166,167,171,172,178,179,185,186,190,191,197,198,202,203,209,210,214,215,219,220,226,227,233,234,240,241,247,248,254,255,259,260,266,267,273,274,280,281,287,288,292,293,297,298,304,305]
noncomputable def vw:Program:=PySem.W.view PySem.Challenge.pw_backslope_k12_rational_roots_looked_for [1,2,3,4,5,6,7,8,9,10,11,12,13,14,15,16,17,18,19,20,21,22,23,24,25,26,27,28,29,30,31,33,35,37,38,40,41,42,43,44,45,46,47,48,49,50,51]
noncomputable def hk:PySem.W.Hook:=PySem.W.kHook hp as (fun _=>by kernel_rfl)
theorem left:PySem.W.LeftO PySem.Challenge.pw_backslope_k12_rational_roots_looked_for vw [] (fun s=>PySem.W.xlAt vw [] s && PySem.W.recOk (PySem.W.RowW.records (PySem.W.OpenRow.toRowW (PySem.W.OpenLaw.row PySem.Challenge.rw_backslope_k12_rational_roots_looked_for))) s) hk.obs hk.val 3032:=fun w=>by kernel_rfl
end Bs.Hd
namespace Bs
noncomputable def Bd (n:Nat) (x:Int):Prop:=x.natAbs<2 ^ n
theorem Bd.mono {m n:Nat} {x:Int} (h:Bd m x) (hn:m≤n):Bd n x:=Nat.lt_of_lt_of_le h (Nat.pow_le_pow_right (by decide) hn)
theorem Bd.le {n:Nat} {x y:Int} (h:Bd n x) (hy:y.natAbs≤x.natAbs):Bd n y:=Nat.lt_of_le_of_lt hy h
theorem Bd.neg {n:Nat} {x:Int} (h:Bd n x):Bd n (-x):=by unfold Bd at *;rw [Int.natAbs_neg];exact h
theorem Bd.add {n:Nat} {x y:Int} (h:Bd n x) (h':Bd n y):Bd (n+1) (x+y):=by
  unfold Bd at *
  have:=Int.natAbs_add_le x y
  rw [Nat.pow_succ]
  omega
theorem Bd.sub {n:Nat} {x y:Int} (h:Bd n x) (h':Bd n y):Bd (n+1) (x - y):=by
  rw [Int.sub_eq_add_neg];exact h.add h'.neg
theorem Bd.mul {m n:Nat} {x y:Int} (h:Bd m x) (h':Bd n y):Bd (m+n) (x*y):=by
  unfold Bd at *
  rw [Int.natAbs_mul,Nat.pow_add]
  exact Nat.mul_lt_mul'' h h'
theorem qtZ {x:Int} (h1:-18446744073709551616<x) (h2:x<18446744073709551616):Bd 64 x:=by
  unfold Bd
  have:(2:Nat) ^ 64=18446744073709551616:=by decide
  rw [this];omega
theorem Bd.log2 {n:Nat} {x:Int} (h:Bd n x) (hn:0<n):x.natAbs.log2<n:=by
  unfold Bd at h
  rcases Nat.eq_zero_or_pos x.natAbs with h0 | hp
  · rw [h0];simpa using hn
  · exact (Nat.log2_lt (Nat.ne_of_gt hp)).mpr h
structure Low (t d:Int):Prop where
  pos:0<d
  one:Int.gcd t d=1
theorem qlo (a b:Int):Int.gcd b (a.fmod b)=Int.gcd a b:=by
  have e:a.fmod b=a - b*a.fdiv b:=Int.fmod_def a b
  rw [e]
  apply Nat.dvd_antisymm
  · apply Int.dvd_gcd
    · have h1:=Int.gcd_dvd_left b (a - b*a.fdiv b)
      have h2:=Int.gcd_dvd_right b (a - b*a.fdiv b)
      have h3:=Int.dvd_add h2 (Int.dvd_mul_of_dvd_left (c:=a.fdiv b) h1)
      rw [Int.sub_add_cancel] at h3
      exact h3
    · exact Int.gcd_dvd_left b _
  · apply Int.dvd_gcd
    · exact Int.gcd_dvd_right a b
    · exact Int.dvd_sub (Int.gcd_dvd_left a b) (Int.dvd_mul_of_dvd_left (Int.gcd_dvd_right a b))
theorem qiP (a:Int) {b:Int} (h:0≤b):Int.gcd b (a % b)=Int.gcd a b:=by
  rw [← Int.fmod_eq_emod_of_nonneg a h,qlo]
theorem qnb (a:Int) {b:Int} (h:b≠0):(a.fmod b).natAbs<b.natAbs:=by
  rcases Int.lt_or_gt_of_ne h with hb | hb
  · rw [Int.fmod_eq_emod]
    have h1:=Int.emod_nonneg a h
    have h2:=Int.emod_lt a h
    split
    · rename_i h'
      rcases h' with h' | h'
      · omega
      · have:a % b=0:=Int.emod_eq_zero_of_dvd h'
        omega
    · rename_i h'
      have:a % b≠0:=fun z=>h' (.inr (Int.dvd_of_emod_eq_zero z))
      omega
  · rw [Int.fmod_eq_emod_of_nonneg a (Int.le_of_lt hb)]
    have h1:=Int.emod_nonneg a h
    have h2:=Int.emod_lt_of_pos a hb
    omega
theorem qeb {a b s:Int} (hb:b≠0) (hs:s=if b<0 then -((Int.gcd a b:Nat):Int) else ((Int.gcd a b:Nat):Int)) :
    s≠0∧s.natAbs≤b.natAbs∧Low (a.fdiv s) (b.fdiv s)∧a.fdiv s*b=a*b.fdiv s∧(a.fdiv s).natAbs≤a.natAbs∧(b.fdiv s).natAbs≤b.natAbs:=by
  have g0:0<Int.gcd a b:=Int.gcd_pos_of_ne_zero_right a hb
  have sn:s.natAbs=Int.gcd a b:=by rw [hs];split <;> simp
  have s0:s≠0:=by intro z;rw [z] at sn;simp at sn;omega
  have da:s∣a:=by
    rw [← Int.natAbs_dvd,sn];exact Int.gcd_dvd_left a b
  have db:s∣b:=by
    rw [← Int.natAbs_dvd,sn];exact Int.gcd_dvd_right a b
  obtain ⟨t,rfl⟩:=da
  obtain ⟨d,rfl⟩:=db
  rw [Int.mul_fdiv_cancel_left _ s0,Int.mul_fdiv_cancel_left _ s0]
  have d0:d≠0:=by rintro rfl;simp at hb
  have sp:1≤s.natAbs:=by omega
  have gd:Int.gcd t d=1:=by
    rw [Int.gcd_mul_left] at sn
    have h2:s.natAbs*Int.gcd t d=s.natAbs*1:=by omega
    exact Nat.eq_of_mul_eq_mul_left sp h2
  have dp:0<d:=by
    by_cases h:s*d<0
    · rw [if_pos h] at hs
      have sneg:s<0:=by omega
      rcases Int.lt_or_gt_of_ne d0 with h' | h'
      · have:=Int.mul_pos_of_neg_of_neg sneg h';omega
      · exact h'
    · rw [if_neg h] at hs
      have spos:0<s:=by omega
      rcases Int.lt_or_gt_of_ne d0 with h' | h'
      · have:=Int.mul_neg_of_pos_of_neg spos h';omega
      · exact h'
  have le1:∀ y:Int,y.natAbs≤(s*y).natAbs:=fun y=>by
    rw [Int.natAbs_mul];exact Nat.le_mul_of_pos_left _ sp
  refine ⟨s0,?_,⟨dp,gd⟩,?_,le1 t,le1 d⟩
  · rw [Int.natAbs_mul];exact Nat.le_mul_of_pos_right _ (by omega)
  · grind
theorem qex {a b:Int} (hb:0<b):Low (a / ((Int.gcd a b:Nat):Int)) (b / ((Int.gcd a b:Nat):Int))∧(a / ((Int.gcd a b:Nat):Int)).natAbs≤a.natAbs∧(b / ((Int.gcd a b:Nat):Int)).natAbs≤b.natAbs∧0<((Int.gcd a b:Nat):Int)∧((Int.gcd a b:Nat):Int)≤b:=by
  have g0:0<Int.gcd a b:=Int.gcd_pos_of_ne_zero_right a (by omega)
  obtain ⟨_,h1,h2,h3,h4,h5⟩:=qeb (a:=a) (b:=b) (s:=((Int.gcd a b:Nat):Int)) (by omega) (by rw [if_neg (by omega)])
  rw [Int.fdiv_eq_ediv_of_nonneg _ (by omega),Int.fdiv_eq_ediv_of_nonneg _ (by omega)] at h2
  rw [Int.fdiv_eq_ediv_of_nonneg _ (by omega)] at h4 h5
  exact ⟨h2,h4,h5,by omega,by omega⟩
end Bs
namespace Bs
open PySem L2
noncomputable def qsR (_ j:Int):Prop:=0<j∧Bd 9000 j
noncomputable def qt0 (_ j:Int):Prop:=j≠0∧Bd 9000 j
noncomputable def qsS (i j:Int):Prop:=0≤j∧j≤1000000∧i.natAbs<2 ^ 64
noncomputable abbrev qdx:R2:=rI0 fun i j=>.int (i+j)
noncomputable abbrev qfC:R2:=rI0 fun i j=>.int (i - j)
noncomputable abbrev qcy:R2:=rI IntMulOk fun i j=>.int (i*j)
noncomputable abbrev qjE:R2:=rI qsR fun i j=>.int (i / j)
noncomputable abbrev qrL:R2:=rI qt0 fun i j=>.int (i.fdiv j)
noncomputable abbrev qg0:R2:=rI (fun _ j=>0<j) fun i j=>.int (i % j)
noncomputable abbrev qqB:R2:=rI (fun _ j=>j≠0) fun i j=>.int (i.fmod j)
noncomputable abbrev qtA:R2:=rI qsS fun i j=>.int (i ^ j.toNat)
noncomputable abbrev iLt:R2:=rI0 fun i j=>.bl (decide (i<j))
noncomputable abbrev iLe:R2:=rI0 fun i j=>.bl (decide (i≤j))
noncomputable abbrev iGt:R2:=rI0 fun i j=>.bl (decide (j<i))
noncomputable abbrev iGe:R2:=rI0 fun i j=>.bl (decide (j≤i))
noncomputable abbrev qdL:V→Hp→VK→Prop:=rU fun i=>.int (-i)
noncomputable def gT:R2:=fun x y H Q=>∃ p i xs v,x=.ref p∧y=.int i∧H p=some (.tup xs)∧atI xs i=some v∧Q v H
noncomputable def gL:R2:=fun x y H Q=>∃ p i xs v,x=.ref p∧y=.int i∧H p=some (.lst xs)∧atI xs i=some v∧Q v H
noncomputable def gS (K:W.Frag):R2:=fun x y H Q=>∃ p i xs v,x=.ref p∧y=.int i∧SqL K H p xs∧atI xs i=some v∧Q v H
noncomputable def qoS:List V→Hp→VK→Prop:=fun xs H Q=>∃ i,xs=[.int i]∧Q (.int (if i<0 then -i else i)) H
noncomputable def qqC:List V→Hp→VK→Prop:=fun xs H Q=>∃ i j,xs=[.int i,.int j]∧Q (.int (if j > i then j else i)) H
noncomputable def qtB:List V→Hp→VK→Prop:=fun xs H Q=>∃ i j,xs=[.int i,.int j]∧Q (.int (if j<i then j else i)) H
noncomputable def qo4:List V→Hp→VK→Prop:=fun xs H Q=>∃ k,xs=[.bl k]∧Q (.int (if k=true then 1 else 0)) H
noncomputable def qrM:List V→Hp→VK→Prop:=fun xs H Q=>∃ p ys,xs=[.ref p]∧H p=some (.tup ys)∧Q (.int ys.length) H
noncomputable def qbP:List V→Hp→VK→Prop:=fun xs H Q=>∃ p ys,xs=[.ref p]∧H p=some (.lst ys)∧Q (.int ys.length) H
noncomputable def qrN (K:W.Frag):List V→Hp→VK→Prop:=fun xs H Q=>∃ p ys,xs=[.ref p]∧SqL K H p ys∧Q (.int ys.length) H
noncomputable def qt1:Option HO→String→Option Bool
  | some (.tup _),n=>if n = "tuple" then some true else if n = "bool" ∨ n = "int" ∨ n = "list" then some false else none
  | some (.lst _),n=>if n = "list" then some true else if n = "bool" ∨ n = "int" ∨ n = "tuple" then some false else none
  | _,_=>none
noncomputable def qsJ (H:Hp):V→String→Option Bool
  | .int _,n=>if n = "int" then some true else if n = "bool" ∨ n = "tuple" ∨ n = "list" then some false else none
  | .bl _,n=>if n = "int" ∨ n = "bool" then some true else if n = "tuple" ∨ n = "list" then some false else none
  | .ref p,n=>qt1 (H p) n
  | _,_=>none
noncomputable def qtC:List V→Hp→VK→Prop:=fun xs H Q=>∃ x n b,xs=[x,.ty n]∧qsJ H x n=some b∧Q (.bl b) H
theorem qnc (H:Hp) (i:Int):qsJ H (.int i) "int" = some true:=rfl
theorem qf5 (H:Hp) (i:Int):qsJ H (.int i) "bool" = some false:=rfl
theorem qpT (H:Hp) (b:Bool):qsJ H (.bl b) "bool" = some true:=rfl
noncomputable def qtD:V→Bool
  | .int _=>true
  | _=>false
noncomputable def eqT:R2:=fun x y H Q=>∃ a b xs ys,x=.ref a∧y=.ref b∧H a=some (.tup xs)∧H b=some (.tup ys)∧xs.all qtD=true∧ys.all qtD=true∧Q (.bl (decide (xs=ys))) H
noncomputable def ForR (lo:Int) (n:Nat) (g:TG) (tb:TS) (D:Ends) (σ:St) (H:Hp):Prop:=∃ W:Nat→Nat→St→Hp→Prop,(∃ m,W 0 m σ H)∧∀ i m σ H,W i m σ H→
  ((Itr lo n).stop i H∧D.nx σ H)∨((Itr lo n).go i H∧∃ N:St→Hp→Prop,(∀ σ' H',N σ' H'→∃ m',m'<m∧W (i+1) m' σ' H')∧∀ x H',(Itr lo n).yld i H x H'→g x σ H' fun σ2 H2=>tb { D with nx:=N,ct:=N,bk:=D.nx } σ2 H2)
theorem qnd {ta:TA} {g:TG} {tb:TS} {D:Ends} {σ:St} {H:Hp}:qdw (qkp ta) g tb D σ H=ta σ H (fun vs H1=>∃ j:Int,vs=[.int j]∧-(2 ^ 62)≤j∧j<2 ^ 62∧ForR 0 j.toNat g tb D σ H1):=rfl
theorem qnf {ta:TA} {g:TG} {tb:TS} {D:Ends} {σ:St} {H:Hp}:qdw (ql3 ta) g tb D σ H=ta σ H (fun vs H1=>∃ i j:Int,vs=[.int i,.int j]∧(-(2 ^ 62)≤i∧i<2 ^ 62∧-(2 ^ 62)≤j∧j<2 ^ 62)∧ForR i (j - i).toNat g tb D σ H1):=rfl
theorem ForR.by {lo:Int} {n:Nat} {g:TG} {tb:TS} {D:Ends} {σ:St} {H:Hp} (Pv:Nat→St→Hp→Prop) (h0:Pv 0 σ H)
    (hs:∀ i σ H,i<n→Pv i σ H→g (.int (lo+i)) σ H fun σ2 H2=>tb { D with nx:=Pv (i+1),ct:=Pv (i+1),bk:=D.nx } σ2 H2) (hd:∀ σ H,Pv n σ H→D.nx σ H):ForR lo n g tb D σ H:=qmP Pv h0 hs hd
noncomputable def ForT (K:W.Frag) (a:Addr) (g:TG) (tb:TS) (D:Ends) (σ:St) (H:Hp):Prop:=∃ W:Nat→Nat→St→Hp→Prop,(∃ m,W 0 m σ H)∧∀ i m σ H,W i m σ H→
  ((Itt K a).stop i H∧D.nx σ H)∨((Itt K a).go i H∧∃ N:St→Hp→Prop,(∀ σ' H',N σ' H'→∃ m',m'<m∧W (i+1) m' σ' H')∧∀ x H',(Itt K a).yld i H x H'→g x σ H' fun σ2 H2=>tb { D with nx:=N,ct:=N,bk:=D.nx } σ2 H2)
noncomputable def ForL (K:W.Frag) (a:Addr) (g:TG) (tb:TS) (D:Ends) (σ:St) (H:Hp):Prop:=∃ W:Nat→Nat→St→Hp→Prop,(∃ m,W 0 m σ H)∧∀ i m σ H,W i m σ H→
  ((Itl K a).stop i H∧D.nx σ H)∨((Itl K a).go i H∧∃ N:St→Hp→Prop,(∀ σ' H',N σ' H'→∃ m',m'<m∧W (i+1) m' σ' H')∧∀ x H',(Itl K a).yld i H x H'→g x σ H' fun σ2 H2=>tb { D with nx:=N,ct:=N,bk:=D.nx } σ2 H2)
theorem qpU {K:W.Frag} {tl:TE} {g:TG} {tb:TS} {D:Ends} {σ:St} {H:Hp}:qdw (qoW K tl) g tb D σ H=tl σ H (fun x H1=>∃ a,x=.ref a∧(∃ xs,SqT K H1 a xs)∧ForT K a g tb D σ H1):=rfl
theorem qpV {K:W.Frag} {tl:TE} {g:TG} {tb:TS} {D:Ends} {σ:St} {H:Hp}:qdw (qbR K tl) g tb D σ H=tl σ H (fun x H1=>∃ a,x=.ref a∧(∃ xs,SqL K H1 a xs)∧ForL K a g tb D σ H1):=rfl
theorem ForT.by {K:W.Frag} {a:Addr} {xs:List V} {g:TG} {tb:TS} {D:Ends} {σ:St} {H:Hp} (Pv:Nat→St→Hp→Prop) (h0:Pv 0 σ H) (hl:∀ i σ H,i≤xs.length→Pv i σ H→H a=some (.tup xs))
    (hs:∀ i x σ H,xs[i]?=some x→Pv i σ H→g x σ H fun σ2 H2=>tb { D with nx:=Pv (i+1),ct:=Pv (i+1),bk:=D.nx } σ2 H2) (hd:∀ σ H,Pv xs.length σ H→D.nx σ H):ForT K a g tb D σ H:=
  qmO Pv h0 (fun i σ H h p=>SqT.of (hl i σ H h p)) hs hd
theorem ForL.by {K:W.Frag} {a:Addr} {xs:List V} {g:TG} {tb:TS} {D:Ends} {σ:St} {H:Hp} (Pv:Nat→St→Hp→Prop) (h0:Pv 0 σ H) (hl:∀ i σ H,i≤xs.length→Pv i σ H→SqL K H a xs)
    (hs:∀ i x σ H,xs[i]?=some x→Pv i σ H→g x σ H fun σ2 H2=>tb { D with nx:=Pv (i+1),ct:=Pv (i+1),bk:=D.nx } σ2 H2) (hd:∀ σ H,Pv xs.length σ H→D.nx σ H):ForL K a g tb D σ H:=
  qoX Pv h0 hl hs hd
theorem while_by {c:TT} {tb:TS} {D:Ends} {σ:St} {H:Hp} (W:Nat→St→Hp→Prop) (m:Nat) (h0:W m σ H)
    (hs:∀ m σ H,W m σ H→c σ H fun b H1=>if b=true then ∃ N:St→Hp→Prop,(∀ σ' H',N σ' H'→∃ m',m'<m∧W m' σ' H')∧tb { D with nx:=N,ct:=N,bk:=D.nx } σ H1 else D.nx σ H1):qb7 c tb D σ H:=⟨W,⟨m,h0⟩,hs⟩
noncomputable def Kp (p:Addr) (H H':Hp):Prop:=∀ b o,b≠p→H b=some o→H' b=some o
theorem Kp.trans {p:Addr} {H H1 H2:Hp} (a:Kp p H H1) (b:Kp p H1 H2):Kp p H H2:=fun c o n h=>b c o n (a c o n h)
theorem Kp.same {p:Addr} {H H1 H2:Hp} (a:Kp p H H1) (b:Same H1 H2):Kp p H H2:=fun c o n h=>b c o (a c o n h)
theorem Kp.of_same {p:Addr} {H H1:Hp} (b:Same H H1):Kp p H H1:=fun c o _ h=>b c o h
theorem Kp.upd {p:Addr} {H:Hp} {o:HO}:Kp p H (upd H p o):=fun b u n h=>by rw [qay n];exact h
theorem qag {H:Hp} {p:Addr} (h:H p=none) (o:HO):Same H (upd H p o):=fun b u q=>by rw [qay (qao q h)];exact q
theorem Kp.new {p:Addr} {H H1:Hp} (a:Kp p H H1) (h:H p=none):Same H H1:=fun b o q=>a b o (qao q h) q
theorem Kp.seq {K:W.Frag} {p:Addr} {H H':Hp} {a:Addr} {xs:List V} (e:Kp p H H') (n:a≠p) (h:SqL K H a xs):SqL K H' a xs:=by
  rcases h with (h | ⟨o,h⟩) | h
  · exact .inl (.inl (e _ _ n h))
  · exact .inl (.inr ⟨o,e _ _ n h⟩)
  · exact .inr h
theorem sz {n:Nat} (h:n≤1000000):n≤sizeLine:=by rw [sizeLine_eq];omega
end Bs
namespace Bs
open PySem L2
theorem qlp {α:Type} (a b:α):atI [a,b] 0=some a:=rfl
theorem qlq {α:Type} (a b:α):atI [a,b] 1=some b:=rfl
theorem qic {α:Type} (a b c:α):atI [a,b,c] 0=some a:=rfl
theorem qid {α:Type} (a b c:α):atI [a,b,c] 1=some b:=rfl
theorem qie {α:Type} (a b c:α):atI [a,b,c] 2=some c:=rfl
theorem qng (a b:Int):scal (.int a) (.int b)=true:=rfl
theorem qnh (a b:Bool):scal (.bl a) (.bl b)=true:=rfl
theorem qif:ixN 3 0=some 0:=rfl
theorem qig:ixN 3 2=some 2:=rfl
end Bs
namespace Bs
open PySem PySem.Spec PyProof.Rows L2
theorem qg1:bootBuiltins "abs" = some (.builtin "abs"):=by decide +kernel
theorem qbh:bootBuiltins "len" = some (.builtin "len"):=by decide +kernel
theorem qjF:bootBuiltins "max" = some (.builtin "max"):=by decide +kernel
theorem qrO:bootBuiltins "min" = some (.builtin "min"):=by decide +kernel
theorem qpW:bootBuiltins "sum" = some (.builtin "sum"):=by decide +kernel
theorem qrP:bootBuiltins "int" = some (.type "int"):=by decide +kernel
theorem qo5:bootBuiltins "tuple" = some (.type "tuple"):=by decide +kernel
theorem qkA:bootBuiltins "list" = some (.type "list"):=by decide +kernel
theorem qjG:bootBuiltins "enumerate" = some (.type "enumerate"):=by decide +kernel
theorem qrQ:bootBuiltins "zip" = some (.type "zip"):=by decide +kernel
theorem qkB:bootBuiltins "reversed" = some (.type "reversed"):=by decide +kernel
section
variable {X:Cx}
theorem qni {n:Nat} {x:Int} (h:Bd n x):Builtin.Int.intBits x≤n:=by
  unfold Builtin.Int.intBits
  split
  · exact Nat.zero_le _
  · rename_i h0
    have hn:x.natAbs≠0:=fun z=>h0 (by have e:x=0:=by omega
                                      subst e;rfl)
    have:=(Nat.log2_lt hn).mpr h
    omega
theorem qaJ:OpR X (binaryOp .Mult) qcy:=opI fun _ _ _ _ _ _ _ hc q=>mul_int q hc
theorem qgF:OpR X (inplaceOp .Mult) qcy:=opI fun _ _ _ _ _ _ _ hc q=>imul_int q hc
theorem qiQ:OpR X (binaryOp .FloorDiv) qjE:=opI fun i j _ _ _ _ _ hc q=>by
  refine floordiv_int (Int.ne_of_gt hc.1) ?_ (.inl (PyProof.noPylong_of_log2 (hc.2.log2 (by decide))))
  rw [Int.fdiv_eq_ediv_of_nonneg i (Int.le_of_lt hc.1)]
  exact q
theorem qa5:IxR X gT:=by
  intro value slice pins s σ H x y v u Q I rx ry h hs
  obtain ⟨p,i,xs,w,e1,e2,hp,ha,q⟩:=h
  exact qrH value slice pins s σ H x y v u Q I rx ry ⟨p,xs,i,w,e1,e2,SqT.of hp,ha,q⟩ hs
theorem qas:IxR X gL:=by
  intro value slice pins s σ H x y v u Q I rx ry h hs
  obtain ⟨p,i,xs,w,e1,e2,hp,ha,q⟩:=h
  exact qqy value slice pins s σ H x y v u Q I rx ry ⟨p,xs,i,w,e1,e2,SqL.of hp,ha,q⟩ hs
theorem qcE:qdO X (.builtin "abs") qoS:=qoY
theorem qeW (hc:X.calm=true):qdO X (.builtin "max") qqC:=qmW hc
theorem qnj:qdO X (.type "int") qo4:=fun pins s σ H xs us Q I r h=>qmX pins s σ H xs us Q I r (.inr h)
theorem qaG:qdO X (.builtin "len") qbP:=fun pins s σ H xs us Q I r h=>by
  obtain ⟨p,ys,e,hp,q⟩:=h
  exact qjv pins s σ H xs us Q I r ⟨p,ys,e,.inl (SqL.of hp),q⟩
end
structure Cal (P:Program) (w:World) (K:W.Frag) (mg:Str→Option Value) (base:Heap) (n:Nat) (x:Str) (ps:List Str) (sp:Sp):Prop where
  ex:∃ (f:Addr) (fd:FuncData),FnOk P w K mg base CX0 n f fd ps sp∧Binds K fd ps []∧PySem.W.keepIn K (.ref f)=true∧mg x=some (.ref f)
theorem Cal.pe {X:Cx} {n m:Nat} {x:Str} {ps:List Str} {sp:Sp} {e:Expr} {es:List Expr} {t:TA} {p pos:Pos} (C:Cal X.prog X.w X.K X.mg X.base n x ps sp) (hr:Room m X.A) (hn:n≤m) (hg:Gl X x) (ha:PA X (e::es) t)
    (hdb:(x == ("__debug__" : Str))=false:=by decide) (he:starEach (e::es) X.env=(false,eval e X.env)::starEach es X.env:=by rfl) (hpl:(backTo pos (starEach es X.env)).any (·.1)=false:=by rfl) :
    PE X (.Call (.Name x p) (e::es) [] pos) (qau sp [] E0 t):=by
  obtain ⟨f,fd,F,b,k,m⟩:=C.ex
  exact qqv F (hr.mono hn) hg m k b .nil qsQ ha hdb he hpl
end Bs
namespace Bs
open PySem L2
noncomputable def qct (capt:List (Option Nat)) (σ:L2.St):L2.St:=capt.map fun o=>o.bind fun j=>(σ[j]?).join
noncomputable def qcu (wi:TI) (capt:List (Option Nat)) (g:TG) (te:TE):TE:=fun σ H Q=>wi σ H fun J H1=>∃ (n:Nat) (W:Nat→List V→Hp→Prop),W 0 [] H1∧∀ i ys H,W i ys H→i≤n∧ys.length≤sizeLine∧
  ((J.stop i H∧∀ p,H p=none→Q (.ref p) (upd H p (.lst ys)))∨(i<n∧J.go i H∧∀ x H',J.yld i H x H'→g x (qct capt σ) H' fun σ2 H2=>te σ2 H2 fun y H3=>W (i+1) (ys++[y]) H3))
noncomputable def CompJ (J:It) (capt:List (Option Nat)) (g:TG) (te:TE) (σ:L2.St) (Q:VK) (H1:Hp):Prop:=∃ (n:Nat) (W:Nat→List V→Hp→Prop),W 0 [] H1∧∀ i ys H,W i ys H→i≤n∧ys.length≤sizeLine∧
  ((J.stop i H∧∀ p,H p=none→Q (.ref p) (upd H p (.lst ys)))∨(i<n∧J.go i H∧∀ x H',J.yld i H x H'→g x (qct capt σ) H' fun σ2 H2=>te σ2 H2 fun y H3=>W (i+1) (ys++[y]) H3))
section
variable {K:W.Frag} {ta:TA} {tl:TE} {capt:List (Option Nat)} {g:TG} {te:TE} {σ:L2.St} {H:Hp} {Q:VK}
theorem qlr:qcu (qkp ta) capt g te σ H Q=ta σ H (fun vs H1=>∃ j:Int,vs=[.int j]∧-(2 ^ 62)≤j∧j<2 ^ 62∧CompJ (Itr 0 j.toNat) capt g te σ Q H1):=rfl
theorem qls:qcu (ql3 ta) capt g te σ H Q=ta σ H (fun vs H1=>∃ i j:Int,vs=[.int i,.int j]∧(-(2 ^ 62)≤i∧i<2 ^ 62∧-(2 ^ 62)≤j∧j<2 ^ 62)∧CompJ (Itr i (j - i).toNat) capt g te σ Q H1):=rfl
theorem qnk:qcu (qoW K tl) capt g te σ H Q=tl σ H (fun x H1=>∃ a,x=.ref a∧(∃ xs,SqT K H1 a xs)∧CompJ (Itt K a) capt g te σ Q H1):=rfl
theorem qnl:qcu (qbR K tl) capt g te σ H Q=tl σ H (fun x H1=>∃ a,x=.ref a∧(∃ xs,SqL K H1 a xs)∧CompJ (Itl K a) capt g te σ Q H1):=rfl
theorem CompJ.range {lo:Int} {n:Nat} (W:Nat→List V→Hp→Prop) (h0:W 0 [] H) (hb:∀ i ys H,W i ys H→i≤n∧ys.length≤sizeLine)
    (hs:∀ i ys H,i<n→W i ys H→g (.int (lo+i)) (qct capt σ) H fun σ2 H2=>te σ2 H2 fun y H3=>W (i+1) (ys++[y]) H3) (hd:∀ ys H,W n ys H→∀ p,H p=none→Q (.ref p) (upd H p (.lst ys))):CompJ (Itr lo n) capt g te σ Q H:=by
  refine ⟨n,W,h0,fun i ys H w=>⟨(hb i ys H w).1,(hb i ys H w).2,?_⟩⟩
  by_cases h:i<n
  · refine .inr ⟨h,h,fun x H' y=>?_⟩
    obtain ⟨e,y⟩:=y
    subst e y
    exact hs i ys _ h w
  · have e:i=n:=Nat.le_antisymm (hb i ys H w).1 (Nat.not_lt.mp h)
    subst e
    exact .inl ⟨Nat.le_refl _,hd ys H w⟩
theorem CompJ.tup {a:Addr} {xs:List V} (W:Nat→List V→Hp→Prop) (h0:W 0 [] H) (hb:∀ i ys H,W i ys H→i≤xs.length∧ys.length≤sizeLine∧H a=some (.tup xs))
    (hs:∀ i x ys H,xs[i]?=some x→W i ys H→g x (qct capt σ) H fun σ2 H2=>te σ2 H2 fun y H3=>W (i+1) (ys++[y]) H3) (hd:∀ ys H,W xs.length ys H→∀ p,H p=none→Q (.ref p) (upd H p (.lst ys))):CompJ (Itt K a) capt g te σ Q H:=by
  refine ⟨xs.length,W,h0,fun i ys H w=>⟨(hb i ys H w).1,(hb i ys H w).2.1,?_⟩⟩
  have q:SqT K H a xs:=SqT.of (hb i ys H w).2.2
  by_cases h:i<xs.length
  · refine .inr ⟨h,⟨xs,xs[i],q,by simp [h]⟩,fun x H' y=>?_⟩
    obtain ⟨e,y⟩:=y
    subst e
    exact hs i x ys _ (y xs q) w
  · have e:i=xs.length:=Nat.le_antisymm (hb i ys H w).1 (Nat.not_lt.mp h)
    subst e
    exact .inl ⟨⟨xs,q,Nat.le_refl _⟩,hd ys H w⟩
theorem CompJ.lst {a:Addr} {xs:List V} (W:Nat→List V→Hp→Prop) (h0:W 0 [] H) (hb:∀ i ys H,W i ys H→i≤xs.length∧ys.length≤sizeLine∧SqL K H a xs)
    (hs:∀ i x ys H,xs[i]?=some x→W i ys H→g x (qct capt σ) H fun σ2 H2=>te σ2 H2 fun y H3=>W (i+1) (ys++[y]) H3) (hd:∀ ys H,W xs.length ys H→∀ p,H p=none→Q (.ref p) (upd H p (.lst ys))):CompJ (Itl K a) capt g te σ Q H:=by
  refine ⟨xs.length,W,h0,fun i ys H w=>⟨(hb i ys H w).1,(hb i ys H w).2.1,?_⟩⟩
  have q:SqL K H a xs:=(hb i ys H w).2.2
  by_cases h:i<xs.length
  · refine .inr ⟨h,⟨xs,xs[i],q,by simp [h]⟩,fun x H' y=>?_⟩
    obtain ⟨e,y⟩:=y
    subst e
    exact hs i x ys _ (y xs q) w
  · have e:i=xs.length:=Nat.le_antisymm (hb i ys H w).1 (Nat.not_lt.mp h)
    subst e
    exact .inl ⟨⟨xs,q,Nat.le_refl _⟩,hd ys H w⟩
end
noncomputable def qrR (K:W.Frag) (a:Addr):It:=
  ⟨fun i H=>∃ xs x,SqL K H a xs∧xs[i]?=some x,fun i H v H'=>∃ p x,H p=none∧v=.ref p∧H'=upd H p (.tup [.int i,x])∧∀ xs,SqL K H a xs→xs[i]?=some x,fun i H=>∃ xs,SqL K H a xs∧xs.length≤i⟩
noncomputable def qtE (K:W.Frag) (a:Addr):It:=
  ⟨fun i H=>∃ xs x,SqT K H a xs∧xs[i]?=some x,fun i H v H'=>∃ p x,H p=none∧v=.ref p∧H'=upd H p (.tup [.int i,x])∧∀ xs,SqT K H a xs→xs[i]?=some x,fun i H=>∃ xs,SqT K H a xs∧xs.length≤i⟩
noncomputable def qf6 (K:W.Frag) (ta:TA):TI:=fun σ H R=>ta σ H fun vs H1=>∃ a,vs=[.ref a]∧(∃ xs,SqL K H1 a xs)∧R (qrR K a) H1
noncomputable def qrS (K:W.Frag) (ta:TA):TI:=fun σ H R=>ta σ H fun vs H1=>∃ a,vs=[.ref a]∧(∃ xs,SqT K H1 a xs)∧R (qtE K a) H1
noncomputable def ForJ (J:It) (g:TG) (tb:TS) (D:Ends) (σ:L2.St) (H:Hp):Prop:=∃ W:Nat→Nat→L2.St→Hp→Prop,(∃ m,W 0 m σ H)∧∀ i m σ H,W i m σ H→
  (J.stop i H∧D.nx σ H)∨(J.go i H∧∃ N:L2.St→Hp→Prop,(∀ σ' H',N σ' H'→∃ m',m'<m∧W (i+1) m' σ' H')∧∀ x H',J.yld i H x H'→g x σ H' fun σ2 H2=>tb { D with nx:=N,ct:=N,bk:=D.nx } σ2 H2)
section
variable {K:W.Frag} {ta:TA} {g:TG} {tb:TS} {D:Ends} {σ:L2.St} {H:Hp} {a:Addr} {xs:List V}
theorem qnm:qdw (qf6 K ta) g tb D σ H=ta σ H (fun vs H1=>∃ a,vs=[.ref a]∧(∃ xs,SqL K H1 a xs)∧ForJ (qrR K a) g tb D σ H1):=rfl
theorem qnn:qdw (qrS K ta) g tb D σ H=ta σ H (fun vs H1=>∃ a,vs=[.ref a]∧(∃ xs,SqT K H1 a xs)∧ForJ (qtE K a) g tb D σ H1):=rfl
theorem qlt {capt:List (Option Nat)} {te:TE} {Q:VK}:qcu (qf6 K ta) capt g te σ H Q=ta σ H (fun vs H1=>∃ a,vs=[.ref a]∧(∃ xs,SqL K H1 a xs)∧CompJ (qrR K a) capt g te σ Q H1):=rfl
theorem ForJ.enumL (Pv:Nat→L2.St→Hp→Prop) (h0:Pv 0 σ H) (hl:∀ i σ H,i≤xs.length→Pv i σ H→SqL K H a xs)
    (hs:∀ i x p σ H,xs[i]?=some x→Pv i σ H→H p=none→g (.ref p) σ (upd H p (.tup [.int i,x])) fun σ2 H2=>tb { D with nx:=Pv (i+1),ct:=Pv (i+1),bk:=D.nx } σ2 H2) (hd:∀ σ H,Pv xs.length σ H→D.nx σ H):ForJ (qrR K a) g tb D σ H:=by
  refine ⟨fun i m σ H=>m=xs.length - i∧i≤xs.length∧Pv i σ H,⟨xs.length,by simp,Nat.zero_le _,h0⟩,?_⟩
  rintro i m σ H ⟨rfl,hi,pv⟩
  have q:=hl i σ H hi pv
  by_cases lt:i<xs.length
  · refine .inr ⟨⟨xs,xs[i],q,by simp [lt]⟩,Pv (i+1),fun σ' H' p'=>⟨xs.length - (i+1),by omega,rfl,lt,p'⟩,fun x H' y=>?_⟩
    obtain ⟨p,x',hp,rfl,rfl,y⟩:=y
    exact hs i x' p σ _ (y xs q) pv hp
  · have e:i=xs.length:=by omega
    subst e
    exact .inl ⟨⟨xs,q,Nat.le_refl _⟩,hd σ H pv⟩
end
end Bs
namespace Bs
open PySem PySem.Spec PyProof.Rows L2
noncomputable def blk (X:Cx) (N:List Str) (scope:Scope) (cl:List (Str×Addr)) (C:Addr) (s:Shared) (H:Hp) (fp:List Addr):Cx:=
  { X with N:=N,s₀:=s,H₀:=H,env:=compEnvC scope cl C X.env,outer:=X.stack,stack:=X.stack,ex:=fp,fn:=fun _=>false,pn:=[],xe:=fun _ _=>False }
structure BlkOk (X:Cx) (N:List Str) (capt:List (Option Nat)) (scope:Scope) (cl:List (Str×Addr)):Prop where
  kind:scope.kind=.function
  clos:closureFor scope X.env=pure cl
  nocell:∀ y∈scope.names,y.2≠.cell
  names:∀ y∈scope.names,y.2=.local→scope.names.lookup y.1=some .local
  cells:∀ y c,cl.lookup y=some c→X.env.cells.lookup y=some c
  has:∀ y,((relabel scope X.env).names.lookup y=some .cell∨(relabel scope X.env).names.lookup y=some .free)→∃ c,cl.lookup y=some c
  cap:∀ (i:Nat) (x:Str) (j:Nat),N[i]?=some x→capt[i]?=some (some j)→X.N[j]?=some x∧Vis X.env.scope x∧X.env.kindOf x≠some .local∧((relabel scope X.env).names.lookup x=some .cell∨(relabel scope X.env).names.lookup x=some .free)
  len:capt.length=N.length
section
variable {X:Cx} {pins:List (Addr×Obj)} {σ:L2.St} {H:Hp} {s:Shared} {N:List Str} {capt:List (Option Nat)} {scope:Scope} {cl:List (Str×Addr)} {C:Addr} {fp:List Addr}
theorem qno (B:BlkOk X N capt scope cl) (I:Inv X pins σ H s) (fo:∀ b∈fp,qko X pins H b) (fl:∀ b∈fp,b<s.heap.objs.size) (hC:s.heap.objs.size≤C):(blk X N scope cl C s H fp).Ok where
  mod:=I.ok.mod
  kind:=B.kind
  glob:=I.ok.glob
  blt:=I.ok.blt
  above:=hC
  inj:=fun x y c h1 h2=>I.ok.inj x y c (B.cells x c h1) (B.cells y c h2)
  has:=fun x h=>B.has x h
  cab:=fun _ _ h=>nomatch h
  hd:=I.ok.hd
  frames:=I.ok.frames
  stk:=.inl rfl
  exf:=fun b hb=>⟨fun e=>absurd (Nat.lt_of_lt_of_le (fl b hb) hC) (by rw [show b=C from e];exact Nat.lt_irrefl _),fun x c e=>(fo b hb).2.2.2.2.1 x c (B.cells x c e)⟩
  bs:=I.bs
  bsz:=Nat.le_trans I.ok.bsz I.sz
  noex:=fun b o e hb=>by
    rcases (fo b hb).2.2.2.1 with z | z
    · exact I.ok.noex b o e z
    · exact absurd (Nat.lt_of_lt_of_le (Heap.lt_size e) (Nat.le_trans I.ok.bsz z)) (Nat.lt_irrefl _)
  exfs:=fun b hb hf=>by
    rcases List.mem_cons.mp (I.stkSub b hf) with z | z
    · exact (fo b hb).2.1 z
    · exact (fo b hb).2.2.1 z
  funs:=I.stack
  frf:=I.stkFree
  seer:=I.ok.seer
  tree:=I.ok.tree
  plr:=I.ok.plr
theorem qnp (B:BlkOk X N capt scope cl) (I:Inv X pins σ H s) (fo:∀ b∈fp,qko X pins H b) (fl:∀ b∈fp,b<s.heap.objs.size) (hC:s.heap.objs.size≤C) {h1:Heap} {m:Str→Option Value} {tk:Nat}
    (hn:h1.Ns C m) (hk:∀ b o,s.heap.get? b=some o→h1.get? b=some o):Inv (blk X N scope cl C s H fp) [] (qct capt σ) H { s with heap:=h1,toks:=tk } where
  ok:=qno B I fo fl hC
  os:=rfl
  bare:=I.bare
  base:=Un.kept hk
  loc:=by
    refine ⟨m,hn,fun i x v e1 e2 e3=>?_⟩
    have e2':(capt.map fun o=>o.bind fun j=>(σ[j]?).join)[i]?=some (some v):=e2
    rw [List.getElem?_map] at e2'
    cases ec:capt[i]? with
    | none=>rw [ec] at e2';cases e2'
    | some o=>
      rw [ec] at e2'
      cases o with
      | none=>cases e2'
      | some j=>
        have e4:(σ[j]?).join=some v:=Option.some.inj e2'
        obtain ⟨c1,c2,c3,c4⟩:=B.cap i x j e1 ec
        have e5:σ[j]?=some (some v):=by
          cases q:σ[j]? with
          | none=>rw [q] at e4;cases e4
          | some w=>rw [q] at e4;exact congrArg some e4
        obtain ⟨m',_,hl⟩:=I.loc
        obtain ⟨u,r,l⟩:=hl j x v c1 e5 c2
        refine ⟨u,r,.inr ⟨c4,?_⟩⟩
        rcases l with ⟨l,_⟩ | ⟨_,c,lc,ic⟩
        · exact absurd l c3
        · obtain ⟨c',hc'⟩:=B.has x c4
          have:=B.cells x c' hc'
          rw [lc] at this
          cases this
          obtain ⟨o,ho,hd⟩:=ic
          exact ⟨c,hc',o,hk c o ho,hd⟩
  cell:=fun x c e=>by
    obtain ⟨v,o,ho,hd⟩:=I.cell x c (B.cells x c e)
    exact ⟨v,o,hk c o ho,hd⟩
  free:=I.hok.fresh hC
  freeC:=fun x c e=>I.freeC x c (B.cells x c e)
  pin:=fun p hp=>nomatch hp
  hok:=I.hok.kept hk
  len:=by show (capt.map _).length=N.length;rw [List.length_map];exact B.len
theorem qg2 {σ6:L2.St} {H7:Hp} {s7:Shared} {pins':List (Addr×Obj)} (B:BlkOk X N capt scope cl) (I:Inv X pins σ H s) (fo:∀ b∈fp,qko X pins H b) (I7:Inv (blk X N scope cl C s H fp) pins' σ6 H7 s7):Inv (blk X N scope cl C s H fp) pins' (qct capt σ) H7 s7:=
  ⟨I7.ok,I7.os,I7.bare,I7.base,by
    obtain ⟨m,hn,_⟩:=I7.loc
    refine ⟨m,hn,fun i x v e1 e2 e3=>?_⟩
    have e2':(capt.map fun o=>o.bind fun j=>(σ[j]?).join)[i]?=some (some v):=e2
    rw [List.getElem?_map] at e2'
    cases ec:capt[i]? with
    | none=>rw [ec] at e2';cases e2'
    | some o=>
      rw [ec] at e2'
      cases o with
      | none=>cases e2'
      | some j=>
        have e4:(σ[j]?).join=some v:=Option.some.inj e2'
        obtain ⟨c1,c2,c3,c4⟩:=B.cap i x j e1 ec
        have e5:σ[j]?=some (some v):=by
          cases q:σ[j]? with
          | none=>rw [q] at e4;cases e4
          | some w=>rw [q] at e4;exact congrArg some e4
        obtain ⟨m',_,hl⟩:=I.loc
        obtain ⟨u,r,l⟩:=hl j x v c1 e5 c2
        refine ⟨u,r,.inr ⟨c4,?_⟩⟩
        rcases l with ⟨l,_⟩ | ⟨_,c,lc,ic⟩
        · exact absurd l c3
        · obtain ⟨c',hc'⟩:=B.has x c4
          have:=B.cells x c' hc'
          rw [lc] at this
          cases this
          obtain ⟨o,ho,hd⟩:=ic
          obtain ⟨sl,hk⟩:=I7.base.any ho (I.freeC x c lc) fun hb=>(fo c hb).2.2.2.2.1 x c lc rfl
          exact ⟨c,hc',_,hk,hd⟩,I7.cell,I7.free,I7.freeC,I7.pin,I7.hok,by show (capt.map _).length=N.length;rw [List.length_map];exact B.len⟩
theorem qec {κ β:Type} [BEq κ] [LawfulBEq κ]:∀ {l:List (κ×β)} {y:κ} {c:β},l.lookup y=some c→(y,c)∈l
  | (k,v)::l,y,c,h=>by
    rw [List.lookup_cons] at h
    cases e:y == k with
    | true=>
      rw [e] at h
      cases h
      rw [eq_of_beq e]
      exact List.mem_cons_self ..
    | false=>
      rw [e] at h
      exact List.mem_cons_of_mem _ (qec h)
theorem BlkOk.of (k:scope.kind=.function) (c:closureFor scope X.env=pure cl) (n1:(scope.names.all fun y=>y.2 != .cell)=true) (n2:(scope.names.all fun y=>y.2 != .local || scope.names.lookup y.1 == some .local)=true)
    (cs:∀ pr∈cl,X.env.cells.lookup pr.1=some pr.2) (hs:((relabel scope X.env).names.all fun pr=>(pr.2 != .cell && pr.2 != .free) || (cl.lookup pr.1).isSome)=true)
    (cp:((List.range N.length).all fun i=>match N[i]?,capt[i]? with
      | some x,some (some j)=>X.N[j]? == some x && (X.env.scope.names.lookup x == some .cell || X.env.scope.names.lookup x == some .free) && ((relabel scope X.env).names.lookup x == some .cell || (relabel scope X.env).names.lookup x == some .free)
      | _,_=>true)=true) (ln:capt.length=N.length):BlkOk X N capt scope cl where
  kind:=k
  clos:=c
  nocell:=fun y hy e=>by
    have z:=List.all_eq_true.mp n1 y hy
    rw [e] at z
    exact absurd z (by decide)
  names:=fun y hy e=>by
    have z:=List.all_eq_true.mp n2 y hy
    rw [e] at z
    simpa using z
  cells:=fun y c h=>cs (y,c) (qec h)
  has:=fun y h=>by
    have m:∃ kd,(y,kd)∈(relabel scope X.env).names∧(kd=.cell∨kd=.free):=by
      rcases h with h | h
      · exact ⟨_,qec h,.inl rfl⟩
      · exact ⟨_,qec h,.inr rfl⟩
    obtain ⟨kd,m,e⟩:=m
    have z:=List.all_eq_true.mp hs _ m
    have z2:(cl.lookup y).isSome=true:=by
      rcases e with rfl | rfl
      · simpa using z
      · simpa using z
    exact Option.isSome_iff_exists.mp z2
  cap:=fun i x j e1 e2=>by
    have li:i<N.length:=(List.getElem?_eq_some_iff.mp e1).1
    have z:=List.all_eq_true.mp cp i (List.mem_range.mpr li)
    rw [e1,e2] at z
    simp only [Bool.and_eq_true,Bool.or_eq_true,beq_iff_eq] at z
    obtain ⟨⟨z1,z2⟩,z3⟩:=z
    refine ⟨z1,.inr z2,fun q=>?_,z3⟩
    have q':X.env.scope.names.lookup x=some .local:=q
    rcases z2 with z2 | z2 <;> (rw [z2] at q';cases q')
  len:=ln
theorem qkC {prog:Program} {w:World} {A:Around} {R:Result→Shared→Prop} {s:Shared} {elt target iter:Expr} {scope:Scope} {pos:Pos} {it acc:Value} {env:Env} (I:Nat→Shared→Prop)
    (turn:∀ n s,I n s→wpAny (model prog w) A (pyNext it) (fun r s₁=>match r with
      | none=>R (.ok .next) s₁
      | some v=>wpAny (model prog w) A (letOwnedTupleGo target it v) (fun _ s₂=>wpAny (model prog w) A (assign target env v) (fun _ s₃=>wpAny (model prog w) A (eval elt env) (fun x s₄=>
          wpAny (model prog w) A (call (.builtin "list.append") [acc,x]) (fun _ s₅=>∃ m,m<n∧I m s₅) (fun _ _=>False) s₄) (fun _ _=>False) s₃) (fun _ _=>False) s₂) (fun _ _=>False) s₁) (fun _ _=>False) s)
    (n:Nat) (h:I n s):codeAny (model prog w) A (.compLoop (.ListComp elt [⟨target,iter,[],0⟩] scope pos) 0 it acc env) R s:=by
  refine codeAny_loop rfl I (fun n s hI=>?_) n h
  show wpAny _ A ((compTurn (.ListComp elt [⟨target,iter,[],0⟩] scope pos) 0 it acc env).onRaise (fun x=>do noteFrame x env;theTreesLotGoes x)) _ _ s
  refine wpAny_noted ?_
  rw [compTurn_list]
  have no:∀ {E':Value→Shared→Prop} (e:Value) (s':Shared),(fun (_:Value) (_:Shared)=>False) e s'→E' e s':=fun _ _ f=>f.elim
  refine wpAny_bind (wpAny_standAt (wpAny_bind (wpAny_mono (turn n s hI) (fun r s₁ h₁=>?_) no)))
  cases r with
  | none=>exact wpAny_pure h₁
  | some v=>
    refine wpAny_bind (wpAny_mono h₁ (fun _ s₂ h₂=>?_) no)
    refine wpAny_bind (wpAny_mono h₂ (fun _ s₃ h₃=>wpAny_bind (wpAny_tests_nil ?_)) no)
    exact wpAny_bind (wpAny_bind (wpAny_mono h₃ (fun x s₄ h₄=>wpAny_bind (wpAny_mono h₄ (fun _ s₅ h₅=>wpAny_pure (wpAny_pure ⟨rfl,h₅⟩)) no)) no))
theorem qjH {elt iter tg:Expr} {pos:Pos} {wi:TI} {g:TG} {te:TE} {pins:List (Addr×Obj)} {s:Shared} {σ:L2.St} {H:Hp} {Q:VK} (RR:Value→Addr→Result→Shared→Prop) (hc:X.calm=true) (B:BlkOk X N capt scope cl) (hi:PI X tg iter wi)
    (hg:∀ C s H fp,PG (blk X N scope cl C s H fp) tg g) (he:∀ C s H fp,PE (blk X N scope cl C s H fp) elt te) (I:Inv X pins σ H s) (h:qcu wi capt g te σ H Q)
    (fin:∀ (D C:Addr) (s4:Shared) (Hq:Hp) (m:Str→Option Value),Inv X pins σ Hq s4→Q (.ref D) Hq→s4.heap.Ns C m→Hq C=none→C≠X.env.locals→X.s₀.heap.objs.size≤C→(∀ x c,X.env.cells.lookup x=some c→c≠C)→(∀ p∈X.pn++pins,p.1≠C)→RR (.ref D) C (.ok .next) s4) :
    wpAny (model X.prog X.w) X.A (eval iter X.env) (fun x s₁=>wpAny (model X.prog X.w) X.A (pyIter x) (fun it s₂=>wpAny (model X.prog X.w) X.A (newList []) (fun acc s₃=>
      wpAny (model X.prog X.w) X.A (newFunctionEnv scope X.env.globals cl [] X.env.qual none .none (some X.env)) (fun cenv s₄=>
        codeAny (model X.prog X.w) X.A (.compStart (.ListComp elt [⟨tg,iter,[],0⟩] scope pos) 0 it acc { cenv with scope:=relabel scope X.env }) (RR acc cenv.locals) s₄) X.xe s₃) X.xe s₂) X.xe s₁) X.xe s:=by
  refine thn (hi pins s σ H _ I h) fun v s1 h1=>thn h1 fun itv s2 h2=>?_
  obtain ⟨it,fp,tn,J,H2,e,I2,T,st2,f2,n0,W,w0,turn⟩:=h2
  subst e
  have fl:∀ b∈fp,b<s2.heap.objs.size:=fun b hb=>by obtain ⟨o,e,_⟩:=T.obj _ _ st2 b hb;exact Heap.lt_size e
  refine wpAny_newObj_type (wpAny_newFunctionEnv B.nocell (by intro y hy;simp at hy) (fun h₁ hns₁ hsb₁=>?_) B.kind)
  dsimp only at hns₁ hsb₁ ⊢
  generalize hG:s2.heap.push { cls:=.type "list", dict:=none,data:=.seq ([]:List Value).toArray }=G at hns₁ hsb₁ ⊢
  have hC:G.objs.size=s2.heap.objs.size+1:=by rw [← hG,Heap.size_push]
  have hCle:s2.heap.objs.size≤G.objs.size:=by rw [hC];exact Nat.le_succ _
  have hDC:s2.heap.objs.size≠G.objs.size:=by rw [hC];exact Nat.ne_of_lt (Nat.lt_succ_self _)
  have old:∀ b o,s2.heap.get? b=some o→h₁.get? b=some o:=fun b o e=>hsb₁.extBut b o (by rw [hC];exact Nat.ne_of_lt (Nat.lt_succ_of_lt (Heap.lt_size e))) (Heap.get?_push_of_some _ (hG ▸ Heap.get?_push_of_some _ e))
  have hacc:h₁.get? s2.heap.objs.size=some { cls:=.type "list", data:=.seq ([]:List Value).toArray }:=hsb₁.extBut _ _ hDC (Heap.get?_push_of_some _ (hG ▸ Heap.get?_push_size _ rfl))
  have ok':=qno B I2 f2 fl hCle
  have nsD:s2.heap.objs.size∉frs X.stack:=fun hb=>by
    rcases List.mem_cons.mp (I2.stkSub _ hb) with z | z
    · exact absurd I2.lt (by rw [← z];exact Nat.lt_irrefl _)
    · exact I2.nofs (Nat.le_refl _) z
  have ncD:∀ x c,cl.lookup x=some c→c≠s2.heap.objs.size:=fun x c e z=>by
    obtain ⟨v,q⟩:=I2.cell x c (B.cells x c e)
    exact absurd q.lt (by rw [z];exact Nat.lt_irrefl _)
  have nfD:∀ b∈fp,s2.heap.objs.size≠b:=fun b hb z=>absurd (fl b hb) (by rw [← z];exact Nat.lt_irrefl _)
  have I₁:Inv (blk X N scope cl G.objs.size s2 H2 fp) [] (qct capt σ) H2 { s2 with heap:=h₁,toks:=s2.toks+([]:List (Str×Value)).length }:=qnp B I2 f2 fl hCle hns₁ old
  have loop:codeAny (model X.prog X.w) X.A (.compLoop (.ListComp elt [⟨tg,iter,[],0⟩] scope pos) 0 (.ref it) (.ref s2.heap.objs.size) (compEnvC scope cl G.objs.size X.env))
      (RR (.ref s2.heap.objs.size) G.objs.size) { s2 with heap:=h₁,toks:=s2.toks+([]:List (Str×Value)).length }:=by
    refine qkC (fun n s'=>∃ (i:Nat) (ys:List V) (its:List Value) (k:Nat) (Hc:Hp),Inv (blk X N scope cl G.objs.size s2 H2 fp) [] (qct capt σ) Hc s'∧s'.heap.get? s2.heap.objs.size=some { cls:=.type "list", data:=.seq its.toArray k }∧Vals ys its∧
      Hc s2.heap.objs.size=none∧tn i s'.heap∧(∀ b∈fp,Hc b=none)∧W i ys Hc∧n=n0 - i) ?_ n0 ⟨0,[],[],0,H2,I₁,hacc,.nil,I2.hok.fresh (Nat.le_refl _),T.keep _ _ _ st2 (fun b _ o e=>old b o e),fun b hb=>(f2 b hb).1,w0,rfl⟩
    rintro n s3 ⟨i,ys,its,k,Hc,I3,hD,hv,nD,st3,fr3,w3,en⟩
    obtain ⟨_,hl,step⟩:=turn i ys Hc w3
    have hz:its.toArray.size≤sizeLine:=by rw [List.size_toArray,← hv.length];exact hl
    have I3p:Inv (blk X N scope cl G.objs.size s2 H2 fp) [(s2.heap.objs.size,{ cls:=.type "list", data:=.seq its.toArray k })] (qct capt σ) Hc s3:=I3.pins_of fun p hp=>by
      rw [List.mem_singleton] at hp
      subst hp
      exact ⟨hD,nD,hDC,nsD,fun v z=>nomatch z⟩
    have fo3:∀ {Hx:Hp} (_:∀ b∈fp,Hx b=none),∀ b∈fp,qko (blk X N scope cl G.objs.size s2 H2 fp) [(s2.heap.objs.size,{ cls:=.type "list", data:=.seq its.toArray k })] Hx b:=fun hx b hb=>
      ⟨hx b hb,(ok'.exf b hb).1,ok'.exfs b hb,.inl hb,(ok'.exf b hb).2,fun p hp=>by
        have hp':p∈[((s2.heap.objs.size,{ cls:=.type "list", data:=.seq its.toArray k }):Addr×Obj)]:=hp
        rw [List.mem_singleton] at hp'
        subst hp'
        exact nfD b hb⟩
    rcases step with ⟨stop,q⟩ | ⟨ltn,go,nxt⟩
    · refine thn (T.done (blk X N scope cl G.objs.size s2 H2 fp) rfl rfl rfl hc i _ s3 _ Hc _ I3p (fo3 fr3) st3 stop) fun r s4 ⟨hr,I4⟩=>?_
      subst hr
      have hD4:=(I4.pin (s2.heap.objs.size,{ cls:=.type "list", data:=.seq its.toArray k }) (List.mem_append_right _ (List.mem_singleton.mpr rfl))).1
      obtain ⟨m,hn,_⟩:=I4.loc
      have nDt:∀ b u,Hc b=some u→b≠s2.heap.objs.size:=fun b u e z=>by rw [z,nD] at e;cases e
      have oldC:∀ b o,s2.heap.get? b=some o→b≠s2.heap.objs.size:=fun b o e=>Nat.ne_of_lt (Heap.lt_size e)
      have ub:Un (frs X.stack) fp H2 Hc s2.heap s4.heap:=I4.base
      have cC:∀ b,b<s2.heap.objs.size→b≠G.objs.size:=fun b hb z=>absurd (Nat.lt_of_lt_of_le hb hCle) (by rw [z];exact Nat.lt_irrefl _)
      refine fin _ G.objs.size s4 (upd Hc s2.heap.objs.size (.lst ys)) m ?_ (q _ nD) hn (by rw [qay (fun z=>hDC z.symm)];exact I4.free) (fun z=>cC _ I2.lt z.symm) (Nat.le_trans I2.sz hCle)
        (fun x c e=>by obtain ⟨v,q⟩:=I2.cell x c e;exact cC _ q.lt) fun p hp=>cC _ (Heap.lt_size (I2.pin p hp).1)
      refine I2.call' (ch:=fp) (s':=s4) I4.os ?_ ?_ I4.bare fun b hb=>⟨(f2 b hb).2.2.2.1,(f2 b hb).2.1,(f2 b hb).2.2.2.2.1,(f2 b hb).2.2.2.2.2⟩
      · refine ⟨ub.keep,ub.slot,fun b o e n hx=>?_,ub.there,fun b xs e=>?_,fun b o u e=>?_,fun b ps e=>?_⟩
        · rw [qay (oldC b o e)];exact ub.free b o e n hx
        · have z:=ub.tups b xs e
          rw [qay (nDt b _ z)];exact z
        · have z:=ub.frzs b o u e
          rw [qay (nDt b _ z)];exact z
        · obtain ⟨more,z⟩:=ub.tbls b ps e
          exact ⟨more,by rw [qay (nDt b _ z)];exact z⟩
      · intro b u e
        by_cases hb:b=s2.heap.objs.size
        · subst hb
          rw [qai] at e
          cases e
          exact ⟨hl,its,k,hv,hD4⟩
        · rw [qay hb] at e
          exact (I4.hok b u e).stay (fun c v _ q=>q) (fun c q=>by rw [qay (nDt c _ q)];exact q) fun c xs q=>by rw [qay (nDt c _ q)];exact q
    · refine thn (T.item (blk X N scope cl G.objs.size s2 H2 fp) rfl rfl rfl hc i _ s3 _ Hc _ I3p (fo3 fr3) st3 go) fun r s4 ⟨u,hr,h4⟩=>?_
      subst hr
      refine thn h4 fun _ s5 ⟨x,H5,I5,r5,y5,st5,fr5⟩=>?_
      have I5':=I5.pinned (fo3 fr5) (T.obj _ _ st5)
      refine thn (hg _ _ _ _ _ s5 _ H5 x u _ I5' r5 (nxt x H5 y5)) fun _ s6 ⟨σ6,H6,I6,q6⟩=>?_
      refine thn (he _ _ _ _ _ s6 σ6 H6 _ I6 q6) fun uy s7 ⟨y,H7,I7,r7,w7⟩=>?_
      have pD:=I7.pin (s2.heap.objs.size,{ cls:=.type "list", data:=.seq its.toArray k }) (List.mem_append_right _ (List.mem_append_left _ (List.mem_singleton.mpr rfl)))
      have pF:∀ b∈fp,∀ o,s5.heap.get? b=some o→s7.heap.get? b=some o∧H7 b=none:=fun b hb o e=>by
        have z:=I7.pin (b,o) (List.mem_append_right _ (List.mem_append_right _ (qdb hb e)))
        exact ⟨z.1,z.2.1⟩
      refine append_at (hsz:=hz) pD.1 fun h8 sb8 hD8=>?_
      have I7n:Inv (blk X N scope cl G.objs.size s2 H2 fp) [] σ6 H7 s7:=I7.pins_of fun p hp=>nomatch hp
      have I8:Inv (blk X N scope cl G.objs.size s2 H2 fp) [] σ6 H7 { s7 with heap:=h8,toks:=s7.toks }:=I7n.turned (fun b o hb e=>sb8.extBut b o hb e) pD.2.1 hDC (.inr (Nat.le_refl _)) ncD (fun p hp=>nomatch hp)
      refine ⟨n0 - (i+1),by omega,i+1,ys++[y],its++[uy],k+1,H7,qg2 B I2 f2 I8,?_,Paired.snoc hv r7,pD.2.1,T.keep _ _ _ st5 (fun b hb o e=>sb8.extBut b o (nfD b hb).symm (pF b hb o e).1),fun b hb=>?_,w7,rfl⟩
      · show h8.get? _=_
        rw [hD8,List.push_toArray]
      · obtain ⟨o,e,_⟩:=T.obj _ _ st5 b hb
        exact (pF b hb o e).2
  exact codeAny_compStart_list loop (T.self X.A 0 _ _ _ (T.keep _ _ _ st2 (fun b _ o e=>old b o e)) loop)
theorem qcn {elt iter tg:Expr} {pos:Pos} {wi:TI} {g:TG} {te:TE} (hc:X.calm=true) (B:BlkOk X N capt scope cl) (hi:PI X tg iter wi)
    (hg:∀ C s H fp,PG (blk X N scope cl C s H fp) tg g) (he:∀ C s H fp,PE (blk X N scope cl C s H fp) elt te)
    (hs:∀ x,foldedSetIterable iter X.env x=pure x:=by intro _;rfl):PE X (.ListComp elt [⟨tg,iter,[],0⟩] scope pos) (qcu wi capt g te):=by
  intro pins s σ H Q I h
  rw [eval_ListComp]
  refine wpAny_comprehension_free (use:=none) rfl hs B.clos B.kind B.names (qjH (fun acc C=>compPost (model X.prog X.w) X.A X.xe none (EP X pins σ Q) acc C) hc B hi hg he I h fun D C s4 Hq m I4 q hn hf h1 h2 h3 h4=>?_)
  exact ⟨m,hn,fun h' sb=>⟨.ref D,Hq,I4.turned (fun b o hb e=>sb.extBut b o hb e) hf h1 (.inr h2) h3 h4,rfl,q⟩⟩
theorem qnq {i:Nat} {x:Str} {pos' spos:Pos} {elt iter tg:Expr} {pos:Pos} {wi:TI} {g:TG} {te:TE} (hN:X.N.Nodup) (hi':X.N[i]?=some x) (hx:Loc X.env.scope x) (hc:X.calm=true) (B:BlkOk X N capt scope cl) (hi:PI X tg iter wi)
    (hg:∀ C s H fp,PG (blk X N scope cl C s H fp) tg g) (he:∀ C s H fp,PE (blk X N scope cl C s H fp) elt te)
    (hsw:swapsWith (.ListComp elt [⟨tg,iter,[],0⟩] scope pos) (some (.Name x pos')) spos.line X.env=pure true:=by rfl)
    (hs:∀ x,foldedSetIterable iter X.env x=pure x:=by intro _;rfl) (hf:X.fn x=true∨X.env.scope.names.lookup x=some .local:=by first | exact .inl rfl | exact .inr rfl | assumption) :
    PS X (.Assign [.Name x pos'] (.ListComp elt [⟨tg,iter,[],0⟩] scope pos) spos) (qaL (qcu wi capt g te) (qaj i)):=by
  intro pins s σ H D I h
  rw [exec_Assign_Name_used _ _ _ _ hsw]
  refine wpAny_bind (wpAny_standAt (wpAny_bind ?_))
  show wpAny _ X.A (do let _ ← comprehension (.ListComp elt [⟨tg,iter,[],0⟩] scope pos) scope X.env _ (newList []) false (eval iter X.env) (some (assign (.Name x pos') X.env))) _ _ s
  refine wpAny_bind (wpAny_mono (wpAny_comprehension_free (use:=some (assign (.Name x pos') X.env)) (Q:=fun _ s'=>SP X pins D .next s') rfl hs B.clos B.kind B.names
    (qjH (fun acc C=>compPost (model X.prog X.w) X.A X.xe (some (assign (.Name x pos') X.env)) (fun _ s'=>SP X pins D .next s') acc C) hc B hi hg he I h fun Da C s4 Hq m I4 q hn hfr h1 h2 h3 h4=>?_)) (fun _ s' hq=>wpAny_pure (wpAny_pure hq)) fun _ _ e=>e)
  show wpAny _ X.A (assign (.Name x pos') X.env (.ref Da)) _ _ _
  refine wpAny_assign_Name (qjp I4 hN hi' hx (v:=.ref Da) rfl (fun s5 I5 ⟨a,sb5,ha⟩=>⟨m,hn.sameBut sb5 ?_,fun h' sb=>⟨_,_,I5.turned (fun b o hb e=>sb.extBut b o hb e) hfr h1 (.inr h2) h3 h4,q⟩⟩) hf)
  rcases ha with z | z
  · rw [z];exact h1
  · exact fun e=>h3 x a z e.symm
end
end Bs
namespace Bs
open PySem PySem.Spec PyProof.Rows L2
open PySem.AutoSeq1 (wpAny_loadPart')
section
variable {prog:Program} {w:World} {A:Around} {E:Value→Shared→Prop} {s:Shared} {e it t:Addr} {i:Nat} {zs:Array Value}
end
section
variable {X:Cx} {pins:List (Addr×Obj)} {σ:L2.St} {H:Hp} {s:Shared}
theorem qo6 {e it:Addr} {g:Heap} {tk:Nat} {xs:List V} {its:List Value} (I:Inv X pins σ H s) (fe:qko X pins H e) (fi:qko X pins H it) (k:∀ b o,b≠e→b≠it→s.heap.get? b=some o→g.get? b=some o)
    (hz:xs.length≤sizeLine) (rv:Vals xs its) (ht:g.get? s.heap.objs.size=some { cls:=.type "tuple", data:=.seq its.toArray }):Inv X pins σ (upd H s.heap.objs.size (.tup xs)) { s with heap:=g,toks:=tk }:=by
  have nT:H s.heap.objs.size=none:=I.hok.fresh (Nat.le_refl _)
  have old:∀ b o,s.heap.get? b=some o→b≠s.heap.objs.size:=fun b o q=>Nat.ne_of_lt (Heap.lt_size q)
  have tr:∀ b u,H b=some u→b≠s.heap.objs.size∧b≠e∧b≠it:=fun b u q=>⟨qao q nT,qao q fe.1,qao q fi.1⟩
  have off:∀ b,b∉[e,it]→b≠e∧b≠it:=fun b hb=>⟨fun z=>hb (by simp [z]),fun z=>hb (by simp [z])⟩
  refine I.step (g':=s.gens) (d':=s.drawn) (ch:=[e,it]) (fun b hb=>?_) (fun b o _ _ hc q _=>k b o (off b hc).1 (off b hc).2 q) (fun b o _ _ hc q _=>⟨o.slots,k b o (off b hc).1 (off b hc).2 q⟩) (fun b o _ q n=>?_) (fun b o hc q=>⟨o,k b o (off b hc).1 (off b hc).2 q⟩)
    (fun b ys q=>?_) (fun b o u q=>?_) (fun b ps q=>⟨#[],?_⟩) (fun m hm=>?_) (fun b u q=>?_) I.bare
  · have z:b=e∨b=it:=by simpa using hb
    rcases z with rfl | rfl
    · exact ⟨fe.2.2.2.1,fe.2.1,fe.2.2.2.2.1,fe.2.2.2.2.2⟩
    · exact ⟨fi.2.2.2.1,fi.2.1,fi.2.2.2.2.1,fi.2.2.2.2.2⟩
  · rw [qay (old b o q)];exact n
  · rw [qay (tr b _ q).1];exact q
  · rw [qay (tr b _ q).1];exact q
  · rw [qay (tr b _ q).1,q];simp
  · obtain ⟨o,es,ep,ho,hr⟩:=hm
    exact ⟨o,es,ep,k _ o fe.2.1.symm fi.2.1.symm ho,hr⟩
  · by_cases hb:b=s.heap.objs.size
    · subst hb
      rw [qai] at q
      cases q
      exact ⟨hz,its,rv,⟨_,ht,rfl,_,rfl⟩⟩
    · rw [qay hb] at q
      refine (I.hok b u q).stay (fun c v hc z=>?_) (fun c z=>by rw [qay (tr c _ z).1];exact z) fun c ys z=>by rw [qay (tr c _ z).1];exact z
      rcases hc with y | y
      · subst y;exact k _ v (tr _ u q).2.1 (tr _ u q).2.2 z
      · exact k c v (tr c _ y).2.1 (tr c _ y).2.2 z
end
theorem qmc {P:Program} {w:World} {K:W.Frag} {elts:List Expr} {k:Nat} {pos:Pos} (a e it:Addr) (ne:e≠it):Turn P w K (.Tuple elts k pos) (qrR K a) [e,it] e (fun i h=>(∃ old,IsEnum h e it i old)∧h.IsListIter it a i) where
  mem:=by simp
  obj:=fun i h st b hb=>by
    obtain ⟨⟨old,se⟩,o,ho,c,d⟩:=st
    have z:b=e∨b=it:=by simpa using hb
    rcases z with rfl | rfl
    · exact ⟨_,se,fun v z=>nomatch z⟩
    · exact ⟨o,ho,fun v z=>by rw [d] at z;cases z⟩
  keep:=fun i h h' st kk=>⟨let ⟨old,se⟩:=st.1;⟨old,kk e (by simp) _ se⟩,st.2.at fun o q=>kk it (by simp) o q⟩
  item:=by
    intro X hP hw hK hc i pins s σ H E I hf st hg
    subst hP hw hK
    obtain ⟨xs,x,hq,hx⟩:=hg
    obtain ⟨⟨old,se⟩,si⟩:=st
    obtain ⟨its,rv,p,hz⟩:=I.list hq
    obtain ⟨u,hu,ru⟩:=rv.get hx
    refine wpAny_pyNext_enum_item se si p.isList (x:=u) (by simpa using hu) ne fun g eo gi gt _ gk=>?_
    refine ⟨_,rfl,wpAny_letOwnedTupleGo_enum eo fun g' se' sb=>?_⟩
    have I1:=qo6 (g:=g') (tk:=s.toks+1) (xs:=[.int i,x]) (its:=[.int i s.toks,u]) I (hf e (by simp)) (hf it (by simp)) (fun b o h1 h2 q=>sb.extBut b o h1 (gk b o h1 h2 q)) (sz (by simp)) (.cons ⟨_,rfl⟩ (.cons ru .nil)) (sb.extBut _ _ (Nat.ne_of_gt (Heap.lt_size se)) gt)
    refine ⟨.ref s.heap.objs.size,_,I1,rfl,⟨_,x,I.hok.fresh (Nat.le_refl _),rfl,rfl,fun ys hy=>by rw [I.list_inj hy hq];exact hx⟩,⟨⟨_,by simpa using se'⟩,gi.at fun o q=>sb.extBut it o ne.symm q⟩,fun b hb=>?_⟩
    rw [qay]
    · exact (hf b hb).1
    · have z:b=e∨b=it:=by simpa using hb
      rcases z with rfl | rfl
      · exact Nat.ne_of_lt (Heap.lt_size se)
      · obtain ⟨o,ho,_⟩:=si;exact Nat.ne_of_lt (Heap.lt_size ho)
  done:=by
    intro X hP hw hK hc i pins s σ H E I hf st hg
    subst hP hw hK
    obtain ⟨xs,hq,hx⟩:=hg
    obtain ⟨⟨old,se⟩,si⟩:=st
    obtain ⟨its,rv,p,hz⟩:=I.list hq
    obtain ⟨f0,f1,f2,f3,f4,f5⟩:=hf it (by simp)
    have hl:=rv.length
    exact wpAny_pyNext_enum_end (I.ok.hd hc) se si p.isList (by simp;omega) fun g eb=>⟨rfl,I.turned (t':=s.toks) (fun b o hb q=>eb b o hb q) f0 f1 f3 f4 f5⟩
  self:=fun _ _ _ _ _ st h=>let ⟨_,se⟩:=st.1;wpAny_pyIter_enum se h
section
variable {X:Cx} {elts:List Expr} {k:Nat} {tpos:Pos} {a:Expr} {ta:TA} {p pos:Pos}
theorem qeX (hg:Gl X "enumerate") (hm:X.mg "enumerate" = none) (ha:PA X [a] ta) (hs:starEach [a] X.env=[(false,eval a X.env)]:=by rfl):PI X (.Tuple elts k tpos) (.Call (.Name "enumerate" p) [a] [] pos) (qf6 X.K ta):=by
  intro pins s σ H R I h
  refine Call_ (qek I hg hm qjG (PyProof.Rows.callWith_type1 (thn (ha pos pins s σ H _ I h) fun us s1 ⟨vs,H1,I1,r1,q1⟩=>?_) hs rfl))
  obtain ⟨b,rfl,⟨xs,hq⟩,q⟩:=q1
  obtain ⟨u,rfl,ru⟩:=qfF r1
  cases ru
  obtain ⟨its,rv,pl,hz⟩:=I1.list hq
  refine call_enumerate_list pl.isList fun g se si _ gk=>?_
  have I2:Inv X pins σ H1 { s1 with heap:=g }:=I1.kept (t':=s1.toks) gk
  refine wpAny_pyIter_enum se ⟨_,[s1.heap.objs.size+1,s1.heap.objs.size],_,_,H1,rfl,I2,qmc b _ _ (Nat.succ_ne_self _),⟨⟨_,se⟩,si⟩,fun c hc=>?_,q⟩
  have z:c=s1.heap.objs.size+1∨c=s1.heap.objs.size:=by simpa using hc
  rcases z with rfl | rfl
  · exact I1.fpOk (Nat.le_succ _) (I1.hok.fresh (Nat.le_succ _))
  · exact I1.fpOk (Nat.le_refl _) (I1.hok.fresh (Nat.le_refl _))
end
end Bs
namespace Bs
open PySem L2
mutual
inductive RepD (H:Hp):V→PySem.W.Dat→Prop
  | non:RepD H .non .none
  | int (i:Int):RepD H (.int i) (.int i)
  | tup {p:Addr} {xs:List V} {ds:List PySem.W.Dat} (h:H p=some (.tup xs)) (r:RepA H xs ds):RepD H (.ref p) (.tuple ds)
  | lst {p:Addr} {xs:List V} {ds:List PySem.W.Dat} (h:H p=some (.lst xs)) (r:RepA H xs ds):RepD H (.ref p) (.list ds)
inductive RepA (H:Hp):List V→List PySem.W.Dat→Prop
  | nil:RepA H [] []
  | cons {x:V} {xs:List V} {d:PySem.W.Dat} {ds:List PySem.W.Dat} (h:RepD H x d) (r:RepA H xs ds):RepA H (x::xs) (d::ds)
end
noncomputable def eqD:R2:=fun x y H Q=>∃ (d e:PySem.W.Dat) (b:Bool),RepD H x d∧RepD H y e∧PySem.W.kqdOk 8 d=true∧PySem.W.kqdOk 8 e=true∧(b=true↔d=e)∧Q (.bl b) H
noncomputable def neD:R2:=fun x y H Q=>∃ (d e:PySem.W.Dat) (b:Bool),RepD H x d∧RepD H y e∧PySem.W.kqdOk 8 d=true∧PySem.W.kqdOk 8 e=true∧(b=true↔d=e)∧Q (.bl (!b)) H
noncomputable def qhQ (te:TE):TT:=fun σ H Q=>te σ H fun x H'=>∃ p xs,x=.ref p∧H' p=some (.lst xs)∧Q (!xs.isEmpty) H'
noncomputable def qrT (te:TE):TT:=fun σ H Q=>te σ H fun x H'=>∃ p xs,x=.ref p∧H' p=some (.tup xs)∧Q (!xs.isEmpty) H'
noncomputable def sL:V→Option Int→Option Int→Hp→VK→Prop:=fun x lo hi H Q=>∃ a xs,x=.ref a∧H a=some (.lst xs)∧∀ p,H p=none→Q (.ref p) (upd H p (.lst (qjo xs lo hi)))
noncomputable def qo7:List V→Hp→VK→Prop:=fun xs H Q=>∃ p ys,xs=[.ref p]∧H p=some (.lst ys)∧∀ l,H l=none→Q (.ref l) (upd H l (.tup ys))
noncomputable def qpX:List V→Hp→VK→Prop:=fun xs H Q=>∃ p ys,xs=[.ref p]∧H p=some (.tup ys)∧∀ l,H l=none→Q (.ref l) (upd H l (.lst ys))
noncomputable def qih:List V→Hp→VK→Prop:=fun xs H Q=>∃ p ys,xs=[.ref p]∧H p=some (.lst ys)∧∀ l,H l=none→Q (.ref l) (upd H l (.lst ys))
end Bs
namespace Bs
open PySem PySem.Spec PyProof.Rows L2
section
variable {X:Cx} {pins:List (Addr×Obj)} {σ:L2.St} {H:Hp} {s:Shared}
mutual
theorem qdQ (I:Inv X pins σ H s):∀ {x:V} {d:PySem.W.Dat} {u:Value},RepD H x d→RelV x u→∃ as,Reads s.heap u (PySem.W.kqdP d) as
  | _,_,_,.non,e=>by cases e;rw [PySem.W.kqdP];exact ⟨_,Reads.none⟩
  | _,_,_,.int i,⟨t,e⟩=>by subst e;rw [PySem.W.kqdP];exact ⟨_,Reads.int i t⟩
  | _,_,_,.tup h r,e=>by
    cases e
    obtain ⟨its,rv,p,_⟩:=I.tuple (SqT.of h)
    obtain ⟨as,q⟩:=qkD I r rv
    obtain ⟨o,ho,hc,n,hd⟩:=p
    rw [PySem.W.kqdP]
    exact ⟨as,reads_tuple_at ho hc hd (by simpa using q)⟩
  | _,_,_,.lst h r,e=>by
    cases e
    obtain ⟨its,rv,p,_⟩:=I.list (SqL.of h)
    obtain ⟨as,q⟩:=qkD I r rv
    obtain ⟨o,n,ho,hc,_,hd⟩:=p
    rw [PySem.W.kqdP]
    exact ⟨_,reads_list_at ho hc hd (by simpa using q)⟩
theorem qkD (I:Inv X pins σ H s):∀ {xs:List V} {ds:List PySem.W.Dat} {us:List Value},RepA H xs ds→Vals xs us→∃ as,ReadsAll s.heap us (PySem.W.kqdPs ds) as
  | _,_,_,.nil,.nil=>by rw [PySem.W.kqdPs];exact ⟨_,ReadsAll.nil⟩
  | _,_,_,.cons h r,.cons e es=>by
    obtain ⟨as,q⟩:=qdQ I h e
    obtain ⟨bs,q2⟩:=qkD I r es
    rw [PySem.W.kqdPs]
    exact ⟨_,ReadsAll.cons q q2⟩
end
theorem qeY {d:PySem.W.Dat} (h:PySem.W.kqdOk 8 d=true):SeqAt.shaped (PySem.W.kqdP d)=true:=by
  have z:=PySem.W.kqd_lay 8 d h
  unfold SeqAt.shaped
  rw [z.1,Bool.true_and]
  exact decide_eq_true (Nat.le_trans z.2 (by decide))
theorem qpY {d e:PySem.W.Dat} {b:Bool} (h1:PySem.W.kqdOk 8 d=true) (h2:PySem.W.kqdOk 8 e=true) (hb:b=true↔d=e):PyData.eqv (PySem.W.kqdP d) (PySem.W.kqdP e)=b:=by
  rw [Bool.eq_iff_iff,hb]
  exact PySem.W.kqd_eqv 8 d e 8 h1 h2
theorem qrU (hu:X.A.units+64<cLine):OpR X (compareOp .Eq) eqD:=by
  intro pins s σ H x y v u Q I rx ry h
  obtain ⟨d,e,b,r1,r2,k1,k2,hb,q⟩:=h
  obtain ⟨as,q1⟩:=qdQ I r1 rx
  obtain ⟨bs,q2⟩:=qdQ I r2 ry
  exact eq_dataH q1 q2 (qeY k1) (qeY k2) hu (by rw [qpY k1 k2 hb];exact ⟨.bl b,H,I,rfl,q⟩)
theorem qrV (hu:X.A.units+64<cLine):OpR X (compareOp .NotEq) neD:=by
  intro pins s σ H x y v u Q I rx ry h
  obtain ⟨d,e,b,r1,r2,k1,k2,hb,q⟩:=h
  obtain ⟨as,q1⟩:=qdQ I r1 rx
  obtain ⟨bs,q2⟩:=qdQ I r2 ry
  exact ne_dataH q1 q2 (qeY k1) (qeY k2) hu (by rw [qpY k1 k2 hb];exact ⟨.bl (!b),H,I,rfl,q⟩)
theorem qey {a:Expr} {ta:TE} (ha:PE X a ta) (he:∀ whole,isTrue a X.env whole=(do let v ← whole;standAt a.pos;holding [v] (truthy v))):PT X a (qhQ ta):=fun pins s σ H Q I h=>
  isTrue_plain (thn (ha pins s σ H _ I h) fun v s1 ⟨x,H1,I1,r1,q1⟩=>by
    obtain ⟨p,xs,e,hp,q⟩:=q1
    subst e
    exact qrF pins s1 σ H1 _ v Q I1 r1 ⟨_,.inl ⟨xs,SqL.of hp,rfl⟩,q⟩) (he _)
theorem qg3:SlR X sL:=by
  intro pins s σ H x v vl vu lo hi sl Q I rx hs pl pu h
  obtain ⟨a,xs,e,ha,q⟩:=h
  exact qm1 pins s σ H x v vl vu lo hi sl Q I rx hs pl pu ⟨a,xs,e,SqL.of ha,q⟩
theorem qnr:qdO X (.type "tuple") qo7:=fun pins s σ H xs us Q I r h=>by
  obtain ⟨p,ys,e,hp,q⟩:=h
  exact qiI pins s σ H xs us Q I r ⟨p,ys,e,.inl ⟨SqL.of hp,q⟩⟩
theorem qfH:qdO X (.type "list") qih:=fun pins s σ H xs us Q I r h=>by
  obtain ⟨p,ys,e,hp,q⟩:=h
  exact qjw pins s σ H xs us Q I r ⟨p,ys,e,.inl (SqL.of hp),q⟩
theorem qgG:PGet X gL:=by
  intro pins s σ H o i ov iv Q I ro ri h
  obtain ⟨p,k,xs,v,rfl,rfl,hp,ha,q⟩:=h
  cases ro
  obtain ⟨t,rfl⟩:=ri
  obtain ⟨its,r,pl,hz⟩:=I.list (SqL.of hp)
  obtain ⟨j,h1,h2,h3,h4,h5⟩:=qku ha
  obtain ⟨w,ew,rw'⟩:=r.get h2
  have hl:=r.length
  have hn:=qib
  have fin:EP X pins σ Q w s:=⟨v,H,I,rw',q⟩
  by_cases h0:0≤k
  · have hj:k.toNat=j:=by
      rw [seqIndex_of h0 h5] at h1
      exact Option.some.inj h1
    exact wpAny_getItem_list pl.isList h0 (by omega) (by rw [hj];simpa using ew) fin
  · have hj:(k+(its.toArray.size:Int)).toNat=j:=by
      rw [seqIndex_neg (by omega) h4] at h1
      rw [List.size_toArray,← hl]
      exact Option.some.inj h1
    exact wpAny_getItem_list_neg pl.isList (by omega) (by rw [List.size_toArray] <;> omega) (by omega) (by rw [hj];simpa using ew) fin
theorem qdm {K:W.Frag} {p:Addr} {xs:List V} (h:H p=some (.lst xs)):tyV K "list" (.ref p) H:=.inl ⟨rfl,xs,SqL.of h⟩
end
end Bs
namespace Bs
open PySem L2
noncomputable def qiR (n:Nat) (t:TGs):TG:=fun v σ H Q=>∃ a xs,v=.ref a∧H a=some (.tup xs)∧xs.length=n∧t xs σ H Q
end Bs
namespace Bs
open PySem PySem.Spec PyProof.Rows L2
theorem qfI {X:Cx} {es:List Expr} {k:Nat} {pos:Pos} {t:TGs} {n:Nat} (hc:X.calm=true) (h:PGs X es t)
    (hn:(assignEach es X.env).length=n:=by rfl) (hst:(assignEach es X.env).findIdx? (·.1)=none:=by rfl):PG X (.Tuple es k pos) (qiR n t):=fun pins s σ H v u Q I r q=>by
  obtain ⟨a,xs,e,ha,hl,q⟩:=q
  exact qrC hc h hn hst pins s σ H v u Q I r ⟨a,xs,e,SqT.of ha,hl,q⟩
theorem qns {X:Cx}:OpR X (inplaceOp .FloorDiv) qjE:=opI fun i j _ _ _ _ _ hc q=>by
  refine ifloordiv_int (Int.ne_of_gt hc.1) ?_ (.inl (PyProof.noPylong_of_log2 (hc.2.log2 (by decide))))
  rw [Int.fdiv_eq_ediv_of_nonneg i (Int.le_of_lt hc.1)]
  exact q
end Bs
namespace Bs
open PySem L2
noncomputable def sT:V→Option Int→Option Int→Hp→VK→Prop:=fun x lo hi H Q=>∃ a xs,x=.ref a∧H a=some (.tup xs)∧∀ p H',(H'=H∧p=a∧qjo xs lo hi=xs)∨(H p=none∧H'=upd H p (.tup (qjo xs lo hi)))→Q (.ref p) H'
end Bs
namespace HT
open PySem PySem.Spec PyProof.Rows
end HT
namespace Bs
open PySem PySem.Spec PyProof.Rows L2
end Bs
namespace Bs
open PySem L2
noncomputable def Itd (lo:Int) (n:Nat):It:=⟨fun i _=>i<n,fun i H x H'=>H'=H∧x=.int (lo - i),fun i _=>n≤i⟩
noncomputable def Itv (K:W.Frag) (a:Addr) (n:Nat):It:=⟨fun i H=>i<n∧∃ xs,SqL K H a xs∧xs.length=n,fun i H x H'=>H'=H∧∀ xs,SqL K H a xs→xs[n - 1 - i]?=some x,fun i _=>n=i⟩
noncomputable def qo8 (ta:TA):TI:=fun σ H R=>ta σ H fun vs H1=>∃ i j:Int,vs=[.int i,.int j,.int (-1)]∧(-(2 ^ 62)≤i∧i<2 ^ 62∧-(2 ^ 62)≤j∧j<2 ^ 62)∧R (Itd i (i - j).toNat) H1
noncomputable def qsK (K:W.Frag) (ta:TA):TI:=fun σ H R=>ta σ H fun vs H1=>∃ a xs,vs=[.ref a]∧SqL K H1 a xs∧R (Itv K a xs.length) H1
section
variable {K:W.Frag} {ta:TA} {g:TG} {tb:TS} {D:Ends} {σ:L2.St} {H:Hp} {a:Addr} {xs:List V}
theorem qnt:qdw (qo8 ta) g tb D σ H=ta σ H (fun vs H1=>∃ i j:Int,vs=[.int i,.int j,.int (-1)]∧(-(2 ^ 62)≤i∧i<2 ^ 62∧-(2 ^ 62)≤j∧j<2 ^ 62)∧ForJ (Itd i (i - j).toNat) g tb D σ H1):=rfl
theorem qnu:qdw (qsK K ta) g tb D σ H=ta σ H (fun vs H1=>∃ a xs,vs=[.ref a]∧SqL K H1 a xs∧ForJ (Itv K a xs.length) g tb D σ H1):=rfl
theorem ForJ.down {lo:Int} {n:Nat} (Pv:Nat→L2.St→Hp→Prop) (h0:Pv 0 σ H)
    (hs:∀ i σ H,i<n→Pv i σ H→g (.int (lo - i)) σ H fun σ2 H2=>tb { D with nx:=Pv (i+1),ct:=Pv (i+1),bk:=D.nx } σ2 H2) (hd:∀ σ H,Pv n σ H→D.nx σ H):ForJ (Itd lo n) g tb D σ H:=by
  refine ⟨fun i m σ H=>m=n - i∧i≤n∧Pv i σ H,⟨n,by simp,Nat.zero_le _,h0⟩,?_⟩
  rintro i m σ H ⟨rfl,hi,pv⟩
  by_cases lt:i<n
  · refine .inr ⟨lt,Pv (i+1),fun σ' H' p'=>⟨n - (i+1),by omega,rfl,lt,p'⟩,fun x H' y=>?_⟩
    obtain ⟨e,y⟩:=y
    subst e y
    exact hs i σ _ lt pv
  · have e:i=n:=by omega
    subst e
    exact .inl ⟨Nat.le_refl _,hd σ H pv⟩
theorem ForJ.rev (Pv:Nat→L2.St→Hp→Prop) (h0:Pv 0 σ H) (hl:∀ i σ H,i≤xs.length→Pv i σ H→SqL K H a xs)
    (hs:∀ i x σ H,i<xs.length→xs[xs.length - 1 - i]?=some x→Pv i σ H→g x σ H fun σ2 H2=>tb { D with nx:=Pv (i+1),ct:=Pv (i+1),bk:=D.nx } σ2 H2) (hd:∀ σ H,Pv xs.length σ H→D.nx σ H):ForJ (Itv K a xs.length) g tb D σ H:=by
  refine ⟨fun i m σ H=>m=xs.length - i∧i≤xs.length∧Pv i σ H,⟨xs.length,by simp,Nat.zero_le _,h0⟩,?_⟩
  rintro i m σ H ⟨rfl,hi,pv⟩
  have q:=hl i σ H hi pv
  by_cases lt:i<xs.length
  · refine .inr ⟨⟨lt,xs,q,rfl⟩,Pv (i+1),fun σ' H' p'=>⟨xs.length - (i+1),by omega,rfl,lt,p'⟩,fun x H' y=>?_⟩
    obtain ⟨e,y⟩:=y
    subst e
    exact hs i x σ _ lt (y xs q) pv
  · have e:i=xs.length:=by omega
    subst e
    exact .inl ⟨rfl,hd σ H pv⟩
end
end Bs
namespace Bs
open PySem PySem.Spec PyProof.Rows L2
theorem qnv {P:Program} {w:World} {K:W.Frag} {tg:Expr} (it:Addr) (lo:Int) (n:Nat):Turn P w K tg (Itd lo n) [it] it (fun i h=>IsRangeIter h it (lo+(i:Nat)*(-1)) ((n:Int) - (i:Nat)) (-1)) where
  mem:=by simp
  obj:=fun i h st b hb=>by
    have e:b=it:=by simpa using hb
    subst e
    exact ⟨_,st,fun v z=>by
      have z':Data.fields _=Data.cell v:=z
      cases z'⟩
  keep:=fun i h h' st k=>k it (by simp) _ st
  item:=by
    intro X hP hw hK hc i pins s σ H E I hf st hg
    subst hP hw hK
    obtain ⟨f0,f1,f2,f3,f4,f5⟩:=hf it (by simp)
    have W:=Walks.range (prog:=X.prog) (w:=X.w) (I.ok.hd hc) it lo (-1) n
    refine W.item i s _ _ hg st fun v h' tk hv st' kk=>?_
    obtain ⟨t,rfl⟩:=hv
    have I1:Inv X pins σ H { s with heap:=h',toks:=tk }:=I.turned (fun b o hb e=>kk b o (by simpa using hb) e) f0 f1 f3 f4 f5
    refine ⟨_,rfl,qmL (s:={ s with heap:=h',toks:=tk }) (n := "range_iterator") st' rfl rfl (by decide) ⟨.int (lo - i),H,I1,⟨t,?_⟩,⟨rfl,rfl⟩,st',fun b hb=>(hf b hb).1⟩⟩
    rw [show lo+(i:Int)*(-1)=lo - i by omega]
  done:=by
    intro X hP hw hK hc i pins s σ H E I hf st hg
    subst hP hw hK
    obtain ⟨f0,f1,f2,f3,f4,f5⟩:=hf it (by simp)
    exact wpAny_pyNext_range_end (I.ok.hd hc) st (by have:n≤i:=hg;omega) fun h' eb=>⟨rfl,I.turned (t':=s.toks) (fun b o hb e=>eb b o hb e) f0 f1 f3 f4 f5⟩
  self:=fun _ _ _ _ _ st h=>wpAny_pyIter_rangeiter st h
theorem qjI (a b:Int):Builtin.Range.rangeSize a b (-1)=if b<a then a - b else 0:=by
  unfold Builtin.Range.rangeSize
  simp only [show ¬ ((-1:Int) > 0) by decide,if_false,Int.neg_neg,Int.ediv_one]
  split <;> omega
theorem qmd {a b:Int} (ha:-(2 ^ 62)≤a) (ha':a<2 ^ 62) (hb:-(2 ^ 62)≤b) (hb':b<2 ^ 62):Builtin.Range.small a b (-1)=true:=by
  unfold Builtin.Range.small
  rw [qjI]
  simp only [Builtin.Range.rangeFitsLong,Bool.and_eq_true,Bool.or_eq_true,decide_eq_true_eq,beq_iff_eq,show ¬ ((-1:Int) > 0) by decide,if_false]
  split <;> omega
theorem qjJ {X:Cx} {tg:Expr} {a b c:Expr} {ta:TA} {p pos:Pos} (hg:Gl X "range") (hm:X.mg "range" = none) (ha:PA X [a,b,c] ta) (hs:starEach [a,b,c] X.env=[(false,eval a X.env),(false,eval b X.env),(false,eval c X.env)]:=by rfl) (hs2:starEach [b,c] X.env=[(false,eval b X.env),(false,eval c X.env)]:=by rfl) :
    PI X tg (.Call (.Name "range" p) [a,b,c] [] pos) (qo8 ta):=by
  intro pins s σ H R I h
  refine Call_ (qek I hg hm boot_range (PyProof.Rows.callWith_type1 (thn (ha pos pins s σ H _ I h) fun us s1 ⟨vs,H1,I1,r1,q1⟩=>?_) (by rw [hs,hs2]) (by rw [hs2];rfl)))
  obtain ⟨i,j,e,⟨q1,q2,q3,q4⟩,q⟩:=q1
  subst e
  cases r1 with
  | cons r rr=>
    cases rr with
    | cons r' rr=>
      cases rr with
      | cons r'' rr=>
        cases rr
        obtain ⟨t,rfl⟩:=r
        obtain ⟨t',rfl⟩:=r'
        obtain ⟨t'',rfl⟩:=r''
        refine call_range_3 (by decide) ?_ (.inl (PyProof.noPylong_small (by decide)))
        refine wpAny_pyIter_range (IsRange.new ..) (qmd q1 q2 q3 q4) ?_
        have I2:Inv X pins σ H1 { s1 with heap:=s1.heap.push { cls:=.type "range", data:=.fields #[.int i t,.int j t',.int (-1) t''] },toks:=s1.toks }:=I1.kept fun b o e=>Heap.get?_push_of_some _ e
        refine ⟨(s1.heap.push { cls:=.type "range", data:=.fields #[.int i t,.int j t',.int (-1) t''] }).objs.size,[(s1.heap.push { cls:=.type "range", data:=.fields #[.int i t,.int j t',.int (-1) t''] }).objs.size],_,_,H1,rfl,
          I2.kept (t':=s1.toks) fun b o e=>Heap.get?_push_of_some _ e,qnv _ i (i - j).toNat,?_,fun b hb=>?_,q⟩
        · have e1:i+((0:Nat):Int)*(-1)=i:=by simp
          have e2:(((i - j).toNat:Nat):Int) - ((0:Nat):Int)=Builtin.Range.rangeSize i j (-1):=by rw [qjI];split <;> omega
          show IsRangeIter _ _ (i+((0:Nat):Int)*(-1)) ((((i - j).toNat:Nat):Int) - ((0:Nat):Int)) (-1)
          rw [e1,e2]
          exact Heap.get?_push_size _ rfl
        · have e:b=(s1.heap.push { cls:=.type "range", data:=.fields #[.int i t,.int j t',.int (-1) t''] }).objs.size:=by simpa using hb
          subst e
          exact I2.fpOk (Nat.le_refl _) (I2.hok.fresh (Nat.le_refl _))
theorem qo9 {P:Program} {w:World} {K:W.Frag} {tg:Expr} (a it:Addr) (n:Nat):Turn P w K tg (Itv K a n) [it] it (fun i h=>h.IsRevIter it a ((n:Int) - 1 - (i:Int))) where
  mem:=by simp
  obj:=fun i h st b hb=>by
    have e:b=it:=by simpa using hb
    subst e
    obtain ⟨o,e,c,d⟩:=st
    exact ⟨o,e,fun v z=>by rw [d] at z;cases z⟩
  keep:=fun i h h' st k=>st.at fun o e=>k it (by simp) o e
  item:=by
    intro X hP hw hK hc i pins s σ H E I hf st hg
    subst hP hw hK
    obtain ⟨hi,xs,hq,hn⟩:=hg
    obtain ⟨its,rv,p,hz⟩:=I.list hq
    have hx:xs[n - 1 - i]?=some (xs[n - 1 - i]'(by omega)):=List.getElem?_eq_getElem (by omega)
    obtain ⟨u,hu,ru⟩:=rv.get hx
    obtain ⟨f0,f1,f2,f3,f4,f5⟩:=hf it (by simp)
    have st2:s.heap.IsRevIter it a ((n - 1 - i:Nat):Int):=by rw [show ((n - 1 - i:Nat):Int)=(n:Int) - 1 - (i:Int) by omega];exact st
    refine wpAny_pyNext_rev_item st2 p.isList (x:=u) (by simpa using hu) fun h' st' sb=>?_
    have I1:Inv X pins σ H { s with heap:=h' }:=I.turned (t':=s.toks) (fun b o hb e=>(sb.2 b hb).trans e) f0 f1 f3 f4 f5
    obtain ⟨o,e,c,d⟩:=id st'
    have st3:h'.IsRevIter it a ((n:Int) - 1 - ((i+1:Nat):Int)):=by rw [show (n:Int) - 1 - ((i+1:Nat):Int)=((n - 1 - i:Nat):Int) - 1 by omega];exact st'
    exact ⟨u,rfl,qmL (s:={ s with heap:=h' }) e c d (by decide) ⟨_,H,I1,ru,⟨rfl,fun ys hy=>by rw [I.list_inj hy hq];exact hx⟩,st3,fun b hb=>(hf b hb).1⟩⟩
  done:=by
    intro X hP hw hK hc i pins s σ H E I hf st hg
    subst hP hw hK
    have hg':n=i:=hg
    subst hg'
    obtain ⟨f0,f1,f2,f3,f4,f5⟩:=hf it (by simp)
    have st2:s.heap.IsRevIter it a (-1):=by rw [show (-1:Int)=(n:Int) - 1 - (n:Int) by omega];exact st
    exact wpAny_pyNext_rev_end (I.ok.hd hc) st2 fun h' eb=>⟨rfl,I.turned (t':=s.toks) (fun b o hb e=>eb b o hb e) f0 f1 f3 f4 f5⟩
  self:=fun _ _ _ _ _ st h=>wpAny_pyIter_revIter st h
theorem qpZ {X:Cx} {tg:Expr} {a:Expr} {ta:TA} {p pos:Pos} (hg:Gl X "reversed") (hm:X.mg "reversed" = none) (ha:PA X [a] ta) (hs:starEach [a] X.env=[(false,eval a X.env)]:=by rfl):PI X tg (.Call (.Name "reversed" p) [a] [] pos) (qsK X.K ta):=by
  intro pins s σ H R I h
  refine Call_ (qek I hg hm qkB (PyProof.Rows.callWith_type1 (thn (ha pos pins s σ H _ I h) fun us s1 ⟨vs,H1,I1,r1,q1⟩=>?_) hs rfl))
  obtain ⟨b,xs,rfl,hq,q⟩:=q1
  obtain ⟨u,rfl,ru⟩:=qfF r1
  cases ru
  obtain ⟨its,rv,pl,hz⟩:=I1.list hq
  refine call_reversed_list pl.isList ?_
  have I2:Inv X pins σ H1 { s1 with heap:=s1.heap.push (revObj b ((its.toArray.size:Int) - 1)) }:=I1.kept (t':=s1.toks) fun b o e=>Heap.get?_push_of_some _ e
  have hl:=rv.length
  have si:(s1.heap.push (revObj b ((its.toArray.size:Int) - 1))).IsRevIter s1.heap.objs.size b ((xs.length:Int) - 1 - ((0:Nat):Int)):=by
    rw [show (xs.length:Int) - 1 - ((0:Nat):Int)=(its.toArray.size:Int) - 1 by rw [List.size_toArray];omega]
    exact ⟨_,Heap.get?_push_size _ rfl,rfl,rfl⟩
  refine wpAny_pyIter_revIter si ⟨_,[s1.heap.objs.size],_,_,H1,rfl,I2,qo9 b _ xs.length,si,fun c hc=>?_,q⟩
  have z:c=s1.heap.objs.size:=by simpa using hc
  subst z
  exact I1.fpOk (Nat.le_refl _) (I1.hok.fresh (Nat.le_refl _))
end Bs
namespace Bs
open PySem L2
noncomputable def qrW:R2:=fun x y H Q=>y=.non∧Q (.bl (decide (x=.non))) H
noncomputable def qpa:R2:=fun x y H Q=>y=.non∧Q (.bl (!decide (x=.non))) H
noncomputable def qsL (_ j:Int):Prop:=0<j
noncomputable def qqD (_ j:Int):Prop:=j≠0
noncomputable abbrev qjK:R2:=rI qsL fun i j=>.int (i / j)
noncomputable abbrev qhR:R2:=rI qqD fun i j=>.int (i.fdiv j)
noncomputable def Itz (K:W.Frag) (a b:Addr):It:=
  ⟨fun i H=>∃ xs ys x y,SqL K H a xs∧SqL K H b ys∧xs[i]?=some x∧ys[i]?=some y,fun i H v H'=>∃ p x y,H p=none∧v=.ref p∧H'=upd H p (.tup [x,y])∧(∀ xs,SqL K H a xs→xs[i]?=some x)∧∀ ys,SqL K H b ys→ys[i]?=some y,fun i H=>∃ xs ys,SqL K H a xs∧SqL K H b ys∧xs.length≤i⟩
noncomputable def qsT (K:W.Frag) (ta:TA):TI:=fun σ H R=>ta σ H fun vs H1=>∃ a b,vs=[.ref a,.ref b]∧(∃ xs,SqL K H1 a xs)∧(∃ ys,SqL K H1 b ys)∧R (Itz K a b) H1
noncomputable def qg4 (wi:TI) (capt:List (Option Nat)) (g:TG) (tc:TT) (te:TE):TE:=fun σ H Q=>wi σ H fun J H1=>∃ (n:Nat) (W:Nat→List V→Hp→Prop),W 0 [] H1∧∀ i ys H,W i ys H→i≤n∧ys.length≤sizeLine∧
  ((J.stop i H∧∀ p,H p=none→Q (.ref p) (upd H p (.lst ys)))∨(i<n∧J.go i H∧∀ x H',J.yld i H x H'→g x (qct capt σ) H' fun σ2 H2=>tc σ2 H2 fun b H3=>if b=true then te σ2 H3 fun y H4=>W (i+1) (ys++[y]) H4 else W (i+1) ys H3))
noncomputable def CompF (J:It) (capt:List (Option Nat)) (g:TG) (tc:TT) (te:TE) (σ:L2.St) (Q:VK) (H1:Hp):Prop:=∃ (n:Nat) (W:Nat→List V→Hp→Prop),W 0 [] H1∧∀ i ys H,W i ys H→i≤n∧ys.length≤sizeLine∧
  ((J.stop i H∧∀ p,H p=none→Q (.ref p) (upd H p (.lst ys)))∨(i<n∧J.go i H∧∀ x H',J.yld i H x H'→g x (qct capt σ) H' fun σ2 H2=>tc σ2 H2 fun b H3=>if b=true then te σ2 H3 fun y H4=>W (i+1) (ys++[y]) H4 else W (i+1) ys H3))
section
variable {K:W.Frag} {ta:TA} {tl:TE} {capt:List (Option Nat)} {g:TG} {tc:TT} {te:TE} {tb:TS} {D:Ends} {σ:L2.St} {H:Hp} {Q:VK} {a b:Addr} {xs ys:List V}
theorem qlu:qg4 (qbR K tl) capt g tc te σ H Q=tl σ H (fun x H1=>∃ a,x=.ref a∧(∃ xs,SqL K H1 a xs)∧CompF (Itl K a) capt g tc te σ Q H1):=rfl
theorem qnw:qcu (qsT K ta) capt g te σ H Q=ta σ H (fun vs H1=>∃ a b,vs=[.ref a,.ref b]∧(∃ xs,SqL K H1 a xs)∧(∃ ys,SqL K H1 b ys)∧CompJ (Itz K a b) capt g te σ Q H1):=rfl
theorem CompF.lst (W:Nat→List V→Hp→Prop) (h0:W 0 [] H) (hb:∀ i ys H,W i ys H→i≤xs.length∧ys.length≤sizeLine∧SqL K H a xs)
    (hs:∀ i x ys H,xs[i]?=some x→W i ys H→g x (qct capt σ) H fun σ2 H2=>tc σ2 H2 fun b H3=>if b=true then te σ2 H3 fun y H4=>W (i+1) (ys++[y]) H4 else W (i+1) ys H3) (hd:∀ ys H,W xs.length ys H→∀ p,H p=none→Q (.ref p) (upd H p (.lst ys))):CompF (Itl K a) capt g tc te σ Q H:=by
  refine ⟨xs.length,W,h0,fun i ys H w=>⟨(hb i ys H w).1,(hb i ys H w).2.1,?_⟩⟩
  have q:SqL K H a xs:=(hb i ys H w).2.2
  by_cases h:i<xs.length
  · refine .inr ⟨h,⟨xs,xs[i],q,by simp [h]⟩,fun x H' y=>?_⟩
    obtain ⟨e,y⟩:=y
    subst e
    exact hs i x ys _ (y xs q) w
  · have e:i=xs.length:=Nat.le_antisymm (hb i ys H w).1 (Nat.not_lt.mp h)
    subst e
    exact .inl ⟨⟨xs,q,Nat.le_refl _⟩,hd ys H w⟩
theorem CompJ.zip (hl:xs.length=ys.length) (W:Nat→List V→Hp→Prop) (h0:W 0 [] H) (hb:∀ i zs H,W i zs H→i≤xs.length∧zs.length≤sizeLine∧SqL K H a xs∧SqL K H b ys)
    (hs:∀ i x y zs H p,xs[i]?=some x→ys[i]?=some y→W i zs H→H p=none→g (.ref p) (qct capt σ) (upd H p (.tup [x,y])) fun σ2 H2=>te σ2 H2 fun z H3=>W (i+1) (zs++[z]) H3) (hd:∀ zs H,W xs.length zs H→∀ p,H p=none→Q (.ref p) (upd H p (.lst zs))):CompJ (Itz K a b) capt g te σ Q H:=by
  refine ⟨xs.length,W,h0,fun i zs H w=>⟨(hb i zs H w).1,(hb i zs H w).2.1,?_⟩⟩
  obtain ⟨_,_,q,q2⟩:=hb i zs H w
  by_cases h:i<xs.length
  · refine .inr ⟨h,⟨xs,ys,xs[i],ys[i],q,q2,by simp [h],by simp [hl ▸ h]⟩,fun v H' y=>?_⟩
    obtain ⟨p,x,y,hp,e1,e2,h1,h2⟩:=y
    subst e1 e2
    exact hs i x y zs _ p (h1 xs q) (h2 ys q2) w hp
  · have e:i=xs.length:=Nat.le_antisymm (hb i zs H w).1 (Nat.not_lt.mp h)
    subst e
    exact .inl ⟨⟨xs,ys,q,q2,Nat.le_refl _⟩,hd zs H w⟩
end
noncomputable def qqE:V→Hp→VK→Prop:=fun x H Q=>∃ (p:Addr) (ns:List Int),x=.ref p∧H p=some (.lst (ns.map V.int))∧∀ m:Int,(ns=[]∧m=0∨m∈ns)→Q (.int m) H
noncomputable def qpb (te:TE):TE:=fun σ H Q=>te σ H fun x H1=>qqE x H1 Q
noncomputable def qpc:List V→Hp→VK→Prop:=fun xs H Q=>∃ (p:Addr) (ns:List Int),xs=[.ref p]∧H p=some (.lst (ns.map V.int))∧Q (.bl (ns.any fun z=>!decide (z=0))) H
end Bs
namespace Bs
open PySem PySem.Spec PyProof.Rows L2
section
variable {X:Cx} {pins:List (Addr×Obj)} {σ:L2.St} {H:Hp} {s:Shared}
theorem qcP:OpR X (binaryOp .FloorDiv) qhR:=by
  intro pins s σ H x y v u Q I rx ry ⟨i,j,ex,ey,hc,q⟩
  subst ex ey
  obtain ⟨t,rfl⟩:=rx
  obtain ⟨t2,rfl⟩:=ry
  exact floordiv_int hc ⟨.int (i.fdiv j),H,I.tok _,⟨_,rfl⟩,q⟩ (Or.inr (I.ok.plr s I.bk))
theorem qeZ:OpR X (binaryOp .FloorDiv) qjK:=by
  intro pins s σ H x y v u Q I rx ry ⟨i,j,ex,ey,hc,q⟩
  have hc':0<j:=hc
  replace q:Q (.int (i / j)) H:=q
  rw [← Int.fdiv_eq_ediv_of_nonneg i (Int.le_of_lt hc')] at q
  exact qcP pins s σ H x y v u Q I rx ry ⟨i,j,ex,ey,Int.ne_of_gt hc',q⟩
theorem qnx {fp:List Addr} {g:Heap} {tk:Nat} (I:Inv X pins σ H s) (ff:∀ b∈fp,qko X pins H b) (k:∀ b o,b∉fp→s.heap.get? b=some o→g.get? b=some o):Inv X pins σ H { s with heap:=g,toks:=tk }:=by
  have tr:∀ b u,H b=some u→b∉fp:=fun b u q hb=>by rw [(ff b hb).1] at q;cases q
  refine I.step (g':=s.gens) (d':=s.drawn) (ch:=fp) (fun b hb=>⟨(ff b hb).2.2.2.1,(ff b hb).2.1,(ff b hb).2.2.2.2.1,(ff b hb).2.2.2.2.2⟩) (fun b o _ _ hc q _=>k b o hc q) (fun b o _ _ hc q _=>⟨o.slots,k b o hc q⟩) (fun _ _ _ _ n=>n)
    (fun b o hc q=>⟨o,k b o hc q⟩) (fun _ _ q=>q) (fun _ _ _ q=>q) (fun b ps q=>⟨#[],by rw [q];simp⟩) (fun m hm=>?_) (fun b u q=>?_) I.bare
  · obtain ⟨o,es,ep,ho,hr⟩:=hm
    exact ⟨o,es,ep,k _ o (fun hb=>(ff _ hb).2.1 rfl) ho,hr⟩
  · refine (I.hok b u q).stay (fun c v hc z=>?_) (fun _ z=>z) fun _ _ z=>z
    rcases hc with y | y
    · subst y;exact k _ v (tr _ u q) z
    · exact k c v (tr c _ y) z
theorem qny {fp:List Addr} {g:Heap} {tk:Nat} {xs:List V} {its:List Value} (I:Inv X pins σ H s) (ff:∀ b∈fp,qko X pins H b) (k:∀ b o,b∉fp→s.heap.get? b=some o→g.get? b=some o)
    (hz:xs.length≤sizeLine) (rv:Vals xs its) (ht:g.get? s.heap.objs.size=some { cls:=.type "tuple", data:=.seq its.toArray }):Inv X pins σ (upd H s.heap.objs.size (.tup xs)) { s with heap:=g,toks:=tk }:=by
  have nT:H s.heap.objs.size=none:=I.hok.fresh (Nat.le_refl _)
  have tn:∀ b u,H b=some u→b≠s.heap.objs.size:=fun b u q=>qao q nT
  have tr:∀ b u,H b=some u→b∉fp:=fun b u q hb=>by rw [(ff b hb).1] at q;cases q
  refine I.step (g':=s.gens) (d':=s.drawn) (ch:=fp) (fun b hb=>⟨(ff b hb).2.2.2.1,(ff b hb).2.1,(ff b hb).2.2.2.2.1,(ff b hb).2.2.2.2.2⟩) (fun b o _ _ hc q _=>k b o hc q) (fun b o _ _ hc q _=>⟨o.slots,k b o hc q⟩) (fun b o _ q n=>?_)
    (fun b o hc q=>⟨o,k b o hc q⟩) (fun b ys q=>?_) (fun b o u q=>?_) (fun b ps q=>⟨#[],?_⟩) (fun m hm=>?_) (fun b u q=>?_) I.bare
  · rw [qay (Nat.ne_of_lt (Heap.lt_size q))];exact n
  · rw [qay (tn b _ q)];exact q
  · rw [qay (tn b _ q)];exact q
  · rw [qay (tn b _ q),q];simp
  · obtain ⟨o,es,ep,ho,hr⟩:=hm
    exact ⟨o,es,ep,k _ o (fun hb=>(ff _ hb).2.1 rfl) ho,hr⟩
  · by_cases hb:b=s.heap.objs.size
    · subst hb
      rw [qai] at q
      cases q
      exact ⟨hz,its,rv,⟨_,ht,rfl,_,rfl⟩⟩
    · rw [qay hb] at q
      refine (I.hok b u q).stay (fun c v hc z=>?_) (fun c z=>by rw [qay (tn c _ z)];exact z) fun c ys z=>by rw [qay (tn c _ z)];exact z
      rcases hc with y | y
      · subst y;exact k _ v (tr _ u q) z
      · exact k c v (tr c _ y) z
end
noncomputable def qsU (a b z ti to i1 i2:Addr) (i:Nat) (h:Heap):Prop:=IsZip h z ti to .none∧IsPair h ti (.ref i1) (.ref i2)∧(∃ u v,IsPair h to u v)∧h.IsListIter i1 a i∧h.IsListIter i2 b i
theorem qpd {P:Program} {w:World} {K:W.Frag} {elts:List Expr} {k:Nat} {pos:Pos} {a b z ti to i1 i2:Addr} (D:ZipApart z ti to i1 i2 a b):Turn P w K (.Tuple elts k pos) (Itz K a b) [z,ti,to,i1,i2] z (qsU a b z ti to i1 i2) where
  mem:=by simp
  obj:=fun i h st c hc=>by
    obtain ⟨s1,s2,⟨u,v,s3⟩,⟨o4,s4,_,d4⟩,⟨o5,s5,_,d5⟩⟩:=st
    have hc':c=z∨c=ti∨c=to∨c=i1∨c=i2:=by simpa using hc
    rcases hc' with rfl | rfl | rfl | rfl | rfl
    · exact ⟨_,s1,fun v q=>nomatch q⟩
    · exact ⟨_,s2,fun v q=>nomatch q⟩
    · exact ⟨_,s3,fun v q=>nomatch q⟩
    · exact ⟨_,s4,fun v q=>by rw [d4] at q;cases q⟩
    · exact ⟨_,s5,fun v q=>by rw [d5] at q;cases q⟩
  keep:=fun i h h' st kk=>⟨kk z (by simp) _ st.1,kk ti (by simp) _ st.2.1,let ⟨u,v,q⟩:=st.2.2.1;⟨u,v,kk to (by simp) _ q⟩,st.2.2.2.1.at fun o q=>kk i1 (by simp) o q,st.2.2.2.2.at fun o q=>kk i2 (by simp) o q⟩
  item:=by
    intro X hP hw hK hc i pins s σ H E I hf st hg
    subst hP hw hK
    obtain ⟨xs,ys,x,y,hq,hq2,hx,hy⟩:=hg
    obtain ⟨s1,s2,⟨u0,v0,s3⟩,s4,s5⟩:=st
    obtain ⟨its,rv,p1,_⟩:=I.list hq
    obtain ⟨jts,rw',p2,_⟩:=I.list hq2
    obtain ⟨u,hu,ru⟩:=rv.get hx
    obtain ⟨v,hv,rw2⟩:=rw'.get hy
    refine wpAny_pyNext_zip_item D s1 s2 s3 s4 s5 p1.isList p2.isList (x:=u) (y:=v) (by simpa using hu) (by simpa using hv) fun g g1 g2 g3 g4 g5 _ gk=>?_
    refine ⟨_,rfl,wpAny_letOwnedTupleGo_zip g1 fun g' z1 sb=>?_⟩
    have lz:z<s.heap.objs.size:=Heap.lt_size s1
    have kept:∀ c o,c∉[z,ti,to,i1,i2]→s.heap.get? c=some o→g'.get? c=some o:=fun c o hc q=>by
      have hc':¬ (c=z∨c=ti∨c=to∨c=i1∨c=i2):=by simpa using hc
      exact sb.extBut c o (fun e=>hc' (.inl e)) (gk c o (fun e=>hc' (.inl e)) (fun e=>hc' (.inr (.inr (.inl e)))) (fun e=>hc' (.inr (.inr (.inr (.inl e))))) (fun e=>hc' (.inr (.inr (.inr (.inr e))))) q)
    have I1:=qny (g:=g') (tk:=s.toks) (xs:=[x,y]) (its:=[u,v]) I hf kept (sz (by simp)) (.cons ru (.cons rw2 .nil)) (sb.extBut _ _ (Nat.ne_of_gt lz) g5)
    refine ⟨.ref s.heap.objs.size,_,I1,rfl,⟨_,x,y,I.hok.fresh (Nat.le_refl _),rfl,rfl,fun zs hz=>by rw [I.list_inj hz hq];exact hx,fun zs hz=>by rw [I.list_inj hz hq2];exact hy⟩,⟨z1,?_,⟨u,v,sb.extBut _ _ D.TOz g2⟩,g3.at fun o q=>sb.extBut i1 o D.i1z q,g4.at fun o q=>sb.extBut i2 o D.i2z q⟩,fun c hc=>?_⟩
    · exact sb.extBut _ _ D.TIz (gk _ _ D.TIz D.TITO D.TIi1 D.TIi2 s2)
    · rw [qay]
      · exact (hf c hc).1
      · have hc':c=z∨c=ti∨c=to∨c=i1∨c=i2:=by simpa using hc
        obtain ⟨o4,s4,_⟩:=s4
        obtain ⟨o5,s5,_⟩:=s5
        rcases hc' with rfl | rfl | rfl | rfl | rfl
        · exact Nat.ne_of_lt lz
        · exact Nat.ne_of_lt (Heap.lt_size s2)
        · exact Nat.ne_of_lt (Heap.lt_size s3)
        · exact Nat.ne_of_lt (Heap.lt_size s4)
        · exact Nat.ne_of_lt (Heap.lt_size s5)
  done:=by
    intro X hP hw hK hc i pins s σ H E I hf st hg
    subst hP hw hK
    obtain ⟨xs,ys,hq,hq2,hx⟩:=hg
    obtain ⟨s1,s2,⟨u0,v0,s3⟩,s4,s5⟩:=st
    obtain ⟨its,rv,p1,_⟩:=I.list hq
    obtain ⟨jts,_,p2,_⟩:=I.list hq2
    have hl:=rv.length
    refine wpAny_pyNext_zip_end (I.ok.hd hc) D s1 s2 s3 s4 s5 p1.isList p2.isList (.inl (by simp;omega)) fun g gk=>⟨rfl,qnx (tk:=s.toks) I hf fun c o hc q=>?_⟩
    have hc':¬ (c=z∨c=ti∨c=to∨c=i1∨c=i2):=by simpa using hc
    exact gk c o (fun e=>hc' (.inl e)) (fun e=>hc' (.inr (.inr (.inl e)))) (fun e=>hc' (.inr (.inr (.inr (.inl e))))) (fun e=>hc' (.inr (.inr (.inr (.inr e))))) q
  self:=fun _ _ _ _ _ st h=>wpAny_pyIter_zip st.1 h
section
variable {X:Cx} {elts:List Expr} {k:Nat} {tpos:Pos} {a b:Expr} {ta:TA} {p pos:Pos}
theorem vals2 {x y:V} {us:List Value} (r:Vals [x,y] us):∃ u v,us=[u,v]∧RelV x u∧RelV y v:=r.two
theorem qrX (hg:Gl X "zip") (hm:X.mg "zip" = none) (ha:PA X [a,b] ta) (hs:starEach [a,b] X.env=(false,eval a X.env)::starEach [b] X.env:=by rfl) (hpl:(backTo pos (starEach [b] X.env)).any (·.1)=false:=by rfl):PI X (.Tuple elts k tpos) (.Call (.Name "zip" p) [a,b] [] pos) (qsT X.K ta):=by
  intro pins s σ H R I h
  refine Call_ (qek I hg hm qrQ (PyProof.Rows.callWith_type1 (thn (ha pos pins s σ H _ I h) fun us s1 ⟨vs,H1,I1,r1,q1⟩=>?_) hs hpl))
  obtain ⟨l1,l2,rfl,⟨xs,hq⟩,⟨ys,hq2⟩,q⟩:=q1
  obtain ⟨u,v,rfl,ru,rv⟩:=vals2 r1
  cases ru
  cases rv
  obtain ⟨its,_,p1,_⟩:=I1.list hq
  obtain ⟨jts,_,p2,_⟩:=I1.list hq2
  refine call_zip_2 p1.isList p2.isList fun g z1 z2 z3 z4 z5 _ gk=>?_
  have I2:Inv X pins σ H1 { s1 with heap:=g }:=I1.kept (t':=s1.toks) gk
  have n1:@LT.lt Nat _ l1 s1.heap.objs.size:=p1.lt
  have n2:@LT.lt Nat _ l2 s1.heap.objs.size:=p2.lt
  have D:ZipApart (s1.heap.objs.size+4) (s1.heap.objs.size+2) (s1.heap.objs.size+3) s1.heap.objs.size (s1.heap.objs.size+1) l1 l2:=by
    constructor <;> (show (_:Nat)≠_;omega)
  refine wpAny_pyIter_zip z1 ⟨_,[s1.heap.objs.size+4,s1.heap.objs.size+2,s1.heap.objs.size+3,s1.heap.objs.size,s1.heap.objs.size+1],_,_,H1,rfl,I2,qpd D,⟨z1,z2,⟨_,_,z3⟩,z4,z5⟩,fun c hc=>?_,q⟩
  have hc':s1.heap.objs.size≤c:=by
    have z:c=s1.heap.objs.size+4∨c=s1.heap.objs.size+2∨c=s1.heap.objs.size+3∨c=s1.heap.objs.size∨c=s1.heap.objs.size+1:=by simpa using hc
    rcases z with z | z | z | z | z <;> rw [z] <;> first | exact Nat.le_add_right _ _ | exact Nat.le_refl _
  exact I1.fpOk hc' (I1.hok.fresh hc')
end
theorem qrY:bootBuiltins "any" = some (.builtin "any"):=by decide +kernel
theorem qdn:∀ {ns:List Int} {us:List Value} {i:Nat} {u:Value},Vals (ns.map V.int) us→us[i]?=some u→∃ n t,ns[i]?=some n∧u=Value.int n t
  | [],_,_,_,.nil,e=>by simp at e
  | n::ns,_,0,_,.cons r _,e=>by
    simp at e;subst e
    obtain ⟨t,rfl⟩:=r
    exact ⟨n,t,rfl,rfl⟩
  | _::ns,_,i+1,u,.cons _ r,e=>by
    obtain ⟨n,t,h1,h2⟩:=qdn (i:=i) (u:=u) r (by simpa using e)
    exact ⟨n,t,by simpa using h1,h2⟩
section
variable {X:Cx}
theorem qnz (hc:X.calm=true):qdO X (.builtin "any") qpc:=fun pins s σ H xs us Q I r ⟨p,ns,e,hp,q⟩=>by
  subst e
  obtain ⟨u,rfl,ru⟩:=qfF r
  cases ru
  obtain ⟨its,rv,pl,hz⟩:=I.list (SqL.of hp)
  have hl:ns.length=its.length:=by have:=rv.length;simpa using this
  refine call_any_walk (wpAny_pyIter_list pl.isList ⟨s.heap.objs.size,[s.heap.objs.size,p],[s.heap.objs.size],its.toArray.size,_,_,fun i=>!decide (ns.getD i 0=0),rfl,Walks.list (A:=X.A.in1) (show X.A.in1.handled=none from I.ok.hd hc) s.heap.objs.size p (Nat.ne_of_lt pl.lt) _,⟨⟨_,Heap.get?_push_size _ rfl,rfl,rfl⟩,pl.isList.push _⟩,?_,fun g tk gk=>?_⟩)
  · intro i v s' Q' E' hP hQ
    obtain ⟨n,t,h1,rfl⟩:=qdn rv (show its[i]?=some v by simpa using hP)
    have e:ns.getD i 0=n:=by rw [List.getD_eq_getElem?_getD,h1];rfl
    replace hQ:Q' (!decide (ns.getD i 0=0)) s':=hQ
    rw [e] at hQ
    refine PySem.P.truthy_int ?_
    have e2:(n != 0)=!decide (n=0):=by rw [Bool.eq_iff_iff];simp
    rw [e2]
    exact hQ
  · have kk:∀ b o,s.heap.get? b=some o→g.get? b=some o:=fun b o e=>gk b o (fun z=>absurd (Heap.lt_size e) (by rw [List.mem_singleton.mp z];exact Nat.lt_irrefl _)) (Heap.get?_push_of_some _ e)
    refine ⟨_,H,I.kept kk,?_,q⟩
    show Value.bool _=Value.bool _
    congr 1
    rw [Bool.eq_iff_iff]
    simp only [List.any_eq_true,List.mem_range,List.size_toArray]
    constructor
    · rintro ⟨i,hi,h⟩
      have hi2:i<ns.length:=by omega
      rw [List.getD_eq_getElem?_getD,List.getElem?_eq_getElem hi2] at h
      exact ⟨ns[i],List.getElem_mem hi2,h⟩
    · rintro ⟨x,hx,h⟩
      obtain ⟨i,hi,rfl⟩:=List.getElem_of_mem hx
      refine ⟨i,by omega,?_⟩
      rw [List.getD_eq_getElem?_getD,List.getElem?_eq_getElem hi]
      exact h
end
section
variable {prog:Program} {w:World} {A:Around} {R:Result→Shared→Prop} {I:Addr} {fp wr:List Addr} {n:Nat} {P:Nat→Value→Prop} {St:Nat→Heap→Prop} {d:Value}
theorem qg5 (W:Walks prog w A.in1 I fp wr n P St) (bt:Nat→Nat→Bool) (hcmp:CmpOf prog w A.in1 .Lt P bt) (S:Addr) (hSf:S∉fp):∀ (k j q:Nat) (s:Shared) (vb:Value) (c:Nat),n - j=k→j≤n→St j s.heap→q<n→P q vb→
    s.heap.get? S=some { cls:=.type "list", dict:=none,data:=.seq #[vb,vb] c,slots:=#[] }→
    (∀ q v h' tk,q<n→P q v→(∀ b o,b∉wr→b≠S→s.heap.get? b=some o→h'.get? b=some o)→R (.ok (.ret v)) { s with heap:=h',toks:=tk })→
    codeAny (model prog w) A (.builtin "min.loop" ⟨[.ref I,.none,.ref S],[("default", d)]⟩) R s
  | 0,j,q,s,vb,c,hk,hj,hst,hq,hPb,hS,hR=>by
    have jn:j=n:=by omega
    refine codeAny_builtin F.entry_min_loop ?_
    rw [Around.under_plainId F.plain_min_loop _]
    refine wpAny_bind (m:=seqItems? (.ref S)) (wpAny_seqItems hS rfl ?_)
    refine wpAny_bind (m:=tryCatch (pyNext (.ref I)) _) (wpAny_tryCatch (W.done s _ _ (jn ▸ hst) fun h' tk kp=>?_))
    have hS2:=kp S _ (fun z=>hSf (W.sub _ z)) hS
    refine wpAny_bind (m:=updateSeq S (fun _=>#[])) (wpAny_updateSeq hS2 rfl (wpAny_bind (wpAny_letGo (wpAny_pure ?_))))
    exact hR q vb _ tk hq hPb fun b o h1 h2 e=>(Heap.get?_update_other _ _ h2.symm).trans (kp b o h1 e)
  | k+1,j,q,s,vb,c,hk,hj,hst,hq,hPb,hS,hR=>by
    have jn:j<n:=by omega
    refine codeAny_builtin F.entry_min_loop ?_
    rw [Around.under_plainId F.plain_min_loop _]
    refine wpAny_bind (m:=seqItems? (.ref S)) (wpAny_seqItems hS rfl ?_)
    refine wpAny_bind (m:=tryCatch (pyNext (.ref I)) _) (wpAny_tryCatch (W.item j s _ _ jn hst fun v h' tk hP hst' kp=>?_))
    have hS2:=kp S _ (fun z=>hSf (W.sub _ z)) hS
    refine wpAny_bind (m:=tryCatch (holding [v,v] (richCompare .Lt v vb >>= _)) _) (wpAny_tryCatch (wpAny_holding (wpAny_bind (hcmp j q v vb _ _ _ hP hPb ?_))))
    refine wpAny_bind (wpAny_holding (wpAny_truthy_bool (wpAny_bind (wpAny_letGo (wpAny_pure ?_)))))
    have nm:(toString "min" ++ toString ".loop" : String) = "min.loop" := by decide
    cases bt j q with
    | true=>
      simp only [if_true]
      refine wpAny_bind (wpAny_updateSeq hS2 rfl (wpAny_bind (wpAny_letGo ?_)))
      rw [nm]
      refine wpAny_pure ⟨plainId_quiet F.plain_min_loop _,qg5 W bt hcmp S hSf k (j+1) j _ v _ (by omega) (by omega) (W.frame _ _ _ hst' fun b hb o e=>(Heap.get?_update_other _ _ (fun z:S=b=>hSf (by rw [z];exact hb))).trans e) jn hP (Heap.get?_update_self _ hS2 rfl) fun q' v' h2 tk2 hq' hP' kp2=>?_⟩
      exact hR q' v' h2 tk2 hq' hP' fun b o h1 h3 e=>kp2 b o h1 h3 ((Heap.get?_update_other _ _ h3.symm).trans (kp b o h1 e))
    | false=>
      simp only [Bool.false_eq_true,if_false]
      refine wpAny_bind (wpAny_letGo ?_)
      rw [nm]
      exact wpAny_pure ⟨plainId_quiet F.plain_min_loop _,qg5 W bt hcmp S hSf k (j+1) q _ vb c (by omega) (by omega) hst' hq hPb hS2 fun q' v' h2 tk2 hq' hP' kp2=>hR q' v' h2 tk2 hq' hP' fun b o h1 h3 e=>kp2 b o h1 h3 (kp b o h1 e)⟩
theorem qme (W:Walks prog w A.in1 I fp wr n P St) (bt:Nat→Nat→Bool) (hcmp:CmpOf prog w A.in1 .Lt P bt) (S:Addr) (hSf:S∉fp) {s:Shared} {c:Nat} (hst:St 0 s.heap)
    (hS:s.heap.get? S=some { cls:=.type "list", dict:=none,data:=.seq #[] c,slots:=#[] })
    (hR:∀ v h' tk,(n=0∧v=d∨∃ q,q<n∧P q v)→(∀ b o,b∉wr→b≠S→s.heap.get? b=some o→h'.get? b=some o)→R (.ok (.ret v)) { s with heap:=h',toks:=tk }) :
    codeAny (model prog w) A (.builtin "min.loop" ⟨[.ref I,.none,.ref S],[("default", d)]⟩) R s:=by
  refine codeAny_builtin F.entry_min_loop ?_
  rw [Around.under_plainId F.plain_min_loop _]
  refine wpAny_bind (m:=seqItems? (.ref S)) (wpAny_seqItems hS rfl ?_)
  rcases Nat.eq_zero_or_pos n with z | z
  · refine wpAny_bind (m:=tryCatch (pyNext (.ref I)) _) (wpAny_tryCatch (W.done s _ _ (z ▸ hst) fun h' tk kp=>?_))
    refine wpAny_bind (wpAny_rule (wpAny_pure ?_))
    exact hR d h' tk (.inl ⟨z,rfl⟩) fun b o h1 _ e=>kp b o h1 e
  · refine wpAny_bind (m:=tryCatch (pyNext (.ref I)) _) (wpAny_tryCatch (W.item 0 s _ _ z hst fun v h' tk hP hst' kp=>?_))
    have hS2:=kp S _ (fun z=>hSf (W.sub _ z)) hS
    have nm:(toString "min" ++ toString ".loop" : String) = "min.loop" := by decide
    refine wpAny_bind (m:=updateSeq S (fun _=>#[v,v])) (wpAny_updateSeq hS2 rfl ?_)
    rw [nm]
    refine wpAny_pure ⟨plainId_quiet F.plain_min_loop _,qg5 W bt hcmp S hSf _ 1 0 _ v _ rfl z (W.frame _ _ _ hst' fun b hb o e=>(Heap.get?_update_other _ _ (fun z:S=b=>hSf (by rw [z];exact hb))).trans e) z hP (Heap.get?_update_self _ hS2 rfl) fun q' v' h2 tk2 hq' hP' kp2=>?_⟩
    exact hR v' h2 tk2 (.inr ⟨q',hq',hP'⟩) fun b o h1 h3 e=>kp2 b o h1 h3 ((Heap.get?_update_other _ _ h3.symm).trans (kp b o h1 e))
end
theorem qnA (a v:Value):argsOk "min" ⟨[a],[("default", v)]⟩:=by unfold argsOk;kernel_rfl
section
variable {X:Cx} {e:Expr} {te:TE} {p pos kp1 kp2:Pos} {kk:Nat}
theorem qqF (hc:X.calm=true) (hm:X.mg "min" = none) (hv:bootBuiltins "min" = some (.builtin "min")) (ha:PE X e te) (hg:Gl X "min" := by rfl)
    (hs:starEach [e] X.env=(false,eval e X.env)::starEach [] X.env:=by rfl) (hb:backTo pos (starEach [e] X.env)=(false,eval e X.env)::backTo pos (starEach [] X.env):=by rfl):PE X (.Call (.Name "min" p) [e] [⟨some "default", .Constant (.int 0) kk kp1,kp2⟩] pos) (qpb te):=by
  intro pins s σ H Q I h
  refine wpAny_Call_Name_kw (qek I hg hm hv ?_ (by decide) (by decide))
  refine PyProof.Rows.callWith_kw ?_ hb (by rw [hb];rfl)
  rw [hb]
  refine Calls.spliced_cons (thn (ha pins s σ H _ I h) fun u s1 ⟨x,H1,I1,r1,q1⟩=>Calls.spliced_nil ?_)
  have kw:PK X [⟨some "default", .Constant (.int 0) kk kp1,kp2⟩] (qac (tC (.int 0)) qat):=qmY qad qpP
  refine thn (kw pos pins s1 σ H1 (fun vs H2=>vs=[.int 0]∧H2=H1) I1 ⟨rfl,rfl⟩) fun ws s2 ⟨zs,H2,I2,rz,ez,eh⟩=>?_
  subst ez eh
  obtain ⟨z,rfl,t,rfl⟩:=qfF rz
  obtain ⟨l,ns,rfl,hl,q⟩:=q1
  cases r1
  obtain ⟨its,rv,pl,hz⟩:=I2.list (SqL.of hl)
  have hle:ns.length=its.length:=by have:=rv.length;simpa using this
  have nm:(toString "min" ++ toString ".loop" : String) = "min.loop" := by decide
  refine kmb_tree F.kind_min F.plain_min F.entry_min (qnA _ _) ?_
  refine wpAny_bind (m:=Builtin.Builtins.bindParams "min" ["key", "default"] 0 ⟨[],[("default", Value.int 0 t)]⟩) (wpAny_of_eq (a:=[none,some (Value.int 0 t)]) rfl ?_)
  refine wpAny_bind (wpAny_pure (wpAny_bind (wpAny_pyIter_list pl.isList ?_)))
  refine wpAny_bind (wpAny_newObj_type ?_)
  rw [nm]
  have lp:l<s2.heap.objs.size:=pl.lt
  have nS:(s2.heap.push { cls:=.type "list_iterator", data:=.fields #[.ref l,.int 0 0] }).objs.size=s2.heap.objs.size+1:=Heap.size_push ..
  have W:=Walks.list (prog:=X.prog) (w:=X.w) (A:=X.A.in1) (show X.A.in1.handled=none from I2.ok.hd hc) s2.heap.objs.size l (Nat.ne_of_lt lp) its.toArray
  refine wpAny_pure ⟨plainId_quiet F.plain_min_loop _,qme W _ (CmpOf.ints_lt (fun i=>ns.getD i 0) fun i v hP=>?_) _ ?_ ⟨⟨_,Heap.get?_push_of_some _ (Heap.get?_push_size _ rfl),rfl,rfl⟩,(pl.isList.push _).push _⟩ (Heap.get?_push_size _ rfl) fun v g tk hv2 gk=>?_⟩
  · obtain ⟨n,t2,h1,rfl⟩:=qdn rv (show its[i]?=some v by simpa using hP)
    exact ⟨t2,by rw [List.getD_eq_getElem?_getD,h1];rfl⟩
  · rw [nS]
    have:¬ (s2.heap.objs.size+1=s2.heap.objs.size∨s2.heap.objs.size+1=l):=fun z=>by
      rcases z with z | z
      · exact absurd z (Nat.succ_ne_self _)
      · rw [← z] at lp;exact absurd lp (Nat.not_lt.mpr (Nat.le_succ _))
    simpa using this
  · have kk2:∀ b o,s2.heap.get? b=some o→g.get? b=some o:=fun b o e=>by
      have lb:b<s2.heap.objs.size:=Heap.lt_size e
      refine gk b o (fun z=>?_) (fun z=>?_) (Heap.get?_push_of_some _ (Heap.get?_push_of_some _ e))
      · rw [List.mem_singleton.mp z] at lb;exact absurd lb (Nat.lt_irrefl _)
      · rw [z,nS] at lb;exact absurd lb (Nat.not_lt.mpr (Nat.le_succ _))
    have I3:=I2.kept (t':=tk) kk2
    rcases hv2 with ⟨z,rfl⟩ | ⟨i,hi,hP⟩
    · exact ⟨.int 0,_,I3,⟨t,rfl⟩,q 0 (.inl ⟨List.length_eq_zero_iff.mp (by rw [List.size_toArray] at z;omega),rfl⟩)⟩
    · obtain ⟨n,t2,h1,rfl⟩:=qdn rv (show its[i]?=some v by simpa using hP)
      exact ⟨.int n,_,I3,⟨t2,rfl⟩,q n (.inr (List.mem_of_getElem? h1))⟩
end
end Bs
namespace Bs
open PySem PySem.Spec PyProof.Rows L2
section
variable {X:Cx} {pins:List (Addr×Obj)} {σ:L2.St} {H:Hp} {s:Shared} {N:List Str} {capt:List (Option Nat)} {scope:Scope} {cl:List (Str×Addr)} {C:Addr} {fp:List Addr}
theorem qjL {prog:Program} {w:World} {A:Around} {R:Result→Shared→Prop} {s:Shared} {elt target iter c:Expr} {scope:Scope} {pos:Pos} {it acc:Value} {env:Env} (I:Nat→Shared→Prop)
    (turn:∀ n s,I n s→wpAny (model prog w) A (pyNext it) (fun r s₁=>match r with
      | none=>R (.ok .next) s₁
      | some v=>wpAny (model prog w) A (letOwnedTupleGo target it v) (fun _ s₂=>wpAny (model prog w) A (assign target env v) (fun _ s₃=>wpAny (model prog w) A (isTrue c env (eval c env)) (fun okb s₆=>if okb=true then wpAny (model prog w) A (eval elt env) (fun x s₄=>
          wpAny (model prog w) A (call (.builtin "list.append") [acc,x]) (fun _ s₅=>∃ m,m<n∧I m s₅) (fun _ _=>False) s₄) (fun _ _=>False) s₆ else ∃ m,m<n∧I m s₆) (fun _ _=>False) s₃) (fun _ _=>False) s₂) (fun _ _=>False) s₁) (fun _ _=>False) s)
    (n:Nat) (h:I n s):codeAny (model prog w) A (.compLoop (.ListComp elt [⟨target,iter,[c],0⟩] scope pos) 0 it acc env) R s:=by
  refine codeAny_loop rfl I (fun n s hI=>?_) n h
  show wpAny _ A ((compTurn (.ListComp elt [⟨target,iter,[c],0⟩] scope pos) 0 it acc env).onRaise (fun x=>do noteFrame x env;theTreesLotGoes x)) _ _ s
  refine wpAny_noted ?_
  rw [compTurn_list]
  have no:∀ {E':Value→Shared→Prop} (e:Value) (s':Shared),(fun (_:Value) (_:Shared)=>False) e s'→E' e s':=fun _ _ f=>f.elim
  refine wpAny_bind (wpAny_standAt (wpAny_bind (wpAny_mono (turn n s hI) (fun r s₁ h₁=>?_) no)))
  cases r with
  | none=>exact wpAny_pure h₁
  | some v=>
    refine wpAny_bind (wpAny_mono h₁ (fun _ s₂ h₂=>?_) no)
    refine wpAny_bind (wpAny_mono h₂ (fun _ s₆ h₆=>wpAny_bind (wpAny_tests_one (wpAny_mono h₆ (fun okb s₃ h₃=>?_) no))) no)
    cases okb with
    | false=>exact wpAny_pure ⟨rfl,h₃⟩
    | true=>exact wpAny_bind (wpAny_bind (wpAny_mono h₃ (fun x s₄ h₄=>wpAny_bind (wpAny_mono h₄ (fun _ s₅ h₅=>wpAny_pure (wpAny_pure ⟨rfl,h₅⟩)) no)) no))
theorem qmf {elt iter tg c:Expr} {tc:TT} {pos:Pos} {wi:TI} {g:TG} {te:TE} {pins:List (Addr×Obj)} {s:Shared} {σ:L2.St} {H:Hp} {Q:VK} (RR:Value→Addr→Result→Shared→Prop) (hc:X.calm=true) (B:BlkOk X N capt scope cl) (hi:PI X tg iter wi)
    (hg:∀ C s H fp,PG (blk X N scope cl C s H fp) tg g) (ht:∀ C s H fp,PT (blk X N scope cl C s H fp) c tc) (he:∀ C s H fp,PE (blk X N scope cl C s H fp) elt te) (I:Inv X pins σ H s) (h:qg4 wi capt g tc te σ H Q)
    (fin:∀ (D C:Addr) (s4:Shared) (Hq:Hp) (m:Str→Option Value),Inv X pins σ Hq s4→Q (.ref D) Hq→s4.heap.Ns C m→Hq C=none→C≠X.env.locals→X.s₀.heap.objs.size≤C→(∀ x c,X.env.cells.lookup x=some c→c≠C)→(∀ p∈X.pn++pins,p.1≠C)→RR (.ref D) C (.ok .next) s4) :
    wpAny (model X.prog X.w) X.A (eval iter X.env) (fun x s₁=>wpAny (model X.prog X.w) X.A (pyIter x) (fun it s₂=>wpAny (model X.prog X.w) X.A (newList []) (fun acc s₃=>
      wpAny (model X.prog X.w) X.A (newFunctionEnv scope X.env.globals cl [] X.env.qual none .none (some X.env)) (fun cenv s₄=>
        codeAny (model X.prog X.w) X.A (.compStart (.ListComp elt [⟨tg,iter,[c],0⟩] scope pos) 0 it acc { cenv with scope:=relabel scope X.env }) (RR acc cenv.locals) s₄) X.xe s₃) X.xe s₂) X.xe s₁) X.xe s:=by
  refine thn (hi pins s σ H _ I h) fun v s1 h1=>thn h1 fun itv s2 h2=>?_
  obtain ⟨it,fp,tn,J,H2,e,I2,T,st2,f2,n0,W,w0,turn⟩:=h2
  subst e
  have fl:∀ b∈fp,b<s2.heap.objs.size:=fun b hb=>by obtain ⟨o,e,_⟩:=T.obj _ _ st2 b hb;exact Heap.lt_size e
  refine wpAny_newObj_type (wpAny_newFunctionEnv B.nocell (by intro y hy;simp at hy) (fun h₁ hns₁ hsb₁=>?_) B.kind)
  dsimp only at hns₁ hsb₁ ⊢
  generalize hG:s2.heap.push { cls:=.type "list", dict:=none,data:=.seq ([]:List Value).toArray }=G at hns₁ hsb₁ ⊢
  have hC:G.objs.size=s2.heap.objs.size+1:=by rw [← hG,Heap.size_push]
  have hCle:s2.heap.objs.size≤G.objs.size:=by rw [hC];exact Nat.le_succ _
  have hDC:s2.heap.objs.size≠G.objs.size:=by rw [hC];exact Nat.ne_of_lt (Nat.lt_succ_self _)
  have old:∀ b o,s2.heap.get? b=some o→h₁.get? b=some o:=fun b o e=>hsb₁.extBut b o (by rw [hC];exact Nat.ne_of_lt (Nat.lt_succ_of_lt (Heap.lt_size e))) (Heap.get?_push_of_some _ (hG ▸ Heap.get?_push_of_some _ e))
  have hacc:h₁.get? s2.heap.objs.size=some { cls:=.type "list", data:=.seq ([]:List Value).toArray }:=hsb₁.extBut _ _ hDC (Heap.get?_push_of_some _ (hG ▸ Heap.get?_push_size _ rfl))
  have ok':=qno B I2 f2 fl hCle
  have nsD:s2.heap.objs.size∉frs X.stack:=fun hb=>by
    rcases List.mem_cons.mp (I2.stkSub _ hb) with z | z
    · exact absurd I2.lt (by rw [← z];exact Nat.lt_irrefl _)
    · exact I2.nofs (Nat.le_refl _) z
  have ncD:∀ x c,cl.lookup x=some c→c≠s2.heap.objs.size:=fun x c e z=>by
    obtain ⟨v,q⟩:=I2.cell x c (B.cells x c e)
    exact absurd q.lt (by rw [z];exact Nat.lt_irrefl _)
  have nfD:∀ b∈fp,s2.heap.objs.size≠b:=fun b hb z=>absurd (fl b hb) (by rw [← z];exact Nat.lt_irrefl _)
  have I₁:Inv (blk X N scope cl G.objs.size s2 H2 fp) [] (qct capt σ) H2 { s2 with heap:=h₁,toks:=s2.toks+([]:List (Str×Value)).length }:=qnp B I2 f2 fl hCle hns₁ old
  have loop:codeAny (model X.prog X.w) X.A (.compLoop (.ListComp elt [⟨tg,iter,[c],0⟩] scope pos) 0 (.ref it) (.ref s2.heap.objs.size) (compEnvC scope cl G.objs.size X.env))
      (RR (.ref s2.heap.objs.size) G.objs.size) { s2 with heap:=h₁,toks:=s2.toks+([]:List (Str×Value)).length }:=by
    refine qjL (fun n s'=>∃ (i:Nat) (ys:List V) (its:List Value) (k:Nat) (Hc:Hp),Inv (blk X N scope cl G.objs.size s2 H2 fp) [] (qct capt σ) Hc s'∧s'.heap.get? s2.heap.objs.size=some { cls:=.type "list", data:=.seq its.toArray k }∧Vals ys its∧
      Hc s2.heap.objs.size=none∧tn i s'.heap∧(∀ b∈fp,Hc b=none)∧W i ys Hc∧n=n0 - i) ?_ n0 ⟨0,[],[],0,H2,I₁,hacc,.nil,I2.hok.fresh (Nat.le_refl _),T.keep _ _ _ st2 (fun b _ o e=>old b o e),fun b hb=>(f2 b hb).1,w0,rfl⟩
    rintro n s3 ⟨i,ys,its,k,Hc,I3,hD,hv,nD,st3,fr3,w3,en⟩
    obtain ⟨_,hl,step⟩:=turn i ys Hc w3
    have hz:its.toArray.size≤sizeLine:=by rw [List.size_toArray,← hv.length];exact hl
    have I3p:Inv (blk X N scope cl G.objs.size s2 H2 fp) [(s2.heap.objs.size,{ cls:=.type "list", data:=.seq its.toArray k })] (qct capt σ) Hc s3:=I3.pins_of fun p hp=>by
      rw [List.mem_singleton] at hp
      subst hp
      exact ⟨hD,nD,hDC,nsD,fun v z=>nomatch z⟩
    have fo3:∀ {Hx:Hp} (_:∀ b∈fp,Hx b=none),∀ b∈fp,qko (blk X N scope cl G.objs.size s2 H2 fp) [(s2.heap.objs.size,{ cls:=.type "list", data:=.seq its.toArray k })] Hx b:=fun hx b hb=>
      ⟨hx b hb,(ok'.exf b hb).1,ok'.exfs b hb,.inl hb,(ok'.exf b hb).2,fun p hp=>by
        have hp':p∈[((s2.heap.objs.size,{ cls:=.type "list", data:=.seq its.toArray k }):Addr×Obj)]:=hp
        rw [List.mem_singleton] at hp'
        subst hp'
        exact nfD b hb⟩
    rcases step with ⟨stop,q⟩ | ⟨ltn,go,nxt⟩
    · refine thn (T.done (blk X N scope cl G.objs.size s2 H2 fp) rfl rfl rfl hc i _ s3 _ Hc _ I3p (fo3 fr3) st3 stop) fun r s4 ⟨hr,I4⟩=>?_
      subst hr
      have hD4:=(I4.pin (s2.heap.objs.size,{ cls:=.type "list", data:=.seq its.toArray k }) (List.mem_append_right _ (List.mem_singleton.mpr rfl))).1
      obtain ⟨m,hn,_⟩:=I4.loc
      have nDt:∀ b u,Hc b=some u→b≠s2.heap.objs.size:=fun b u e z=>by rw [z,nD] at e;cases e
      have oldC:∀ b o,s2.heap.get? b=some o→b≠s2.heap.objs.size:=fun b o e=>Nat.ne_of_lt (Heap.lt_size e)
      have ub:Un (frs X.stack) fp H2 Hc s2.heap s4.heap:=I4.base
      have cC:∀ b,b<s2.heap.objs.size→b≠G.objs.size:=fun b hb z=>absurd (Nat.lt_of_lt_of_le hb hCle) (by rw [z];exact Nat.lt_irrefl _)
      refine fin _ G.objs.size s4 (upd Hc s2.heap.objs.size (.lst ys)) m ?_ (q _ nD) hn (by rw [qay (fun z=>hDC z.symm)];exact I4.free) (fun z=>cC _ I2.lt z.symm) (Nat.le_trans I2.sz hCle)
        (fun x c e=>by obtain ⟨v,q⟩:=I2.cell x c e;exact cC _ q.lt) fun p hp=>cC _ (Heap.lt_size (I2.pin p hp).1)
      refine I2.call' (ch:=fp) (s':=s4) I4.os ?_ ?_ I4.bare fun b hb=>⟨(f2 b hb).2.2.2.1,(f2 b hb).2.1,(f2 b hb).2.2.2.2.1,(f2 b hb).2.2.2.2.2⟩
      · refine ⟨ub.keep,ub.slot,fun b o e n hx=>?_,ub.there,fun b xs e=>?_,fun b o u e=>?_,fun b ps e=>?_⟩
        · rw [qay (oldC b o e)];exact ub.free b o e n hx
        · have z:=ub.tups b xs e
          rw [qay (nDt b _ z)];exact z
        · have z:=ub.frzs b o u e
          rw [qay (nDt b _ z)];exact z
        · obtain ⟨more,z⟩:=ub.tbls b ps e
          exact ⟨more,by rw [qay (nDt b _ z)];exact z⟩
      · intro b u e
        by_cases hb:b=s2.heap.objs.size
        · subst hb
          rw [qai] at e
          cases e
          exact ⟨hl,its,k,hv,hD4⟩
        · rw [qay hb] at e
          exact (I4.hok b u e).stay (fun c v _ q=>q) (fun c q=>by rw [qay (nDt c _ q)];exact q) fun c xs q=>by rw [qay (nDt c _ q)];exact q
    · refine thn (T.item (blk X N scope cl G.objs.size s2 H2 fp) rfl rfl rfl hc i _ s3 _ Hc _ I3p (fo3 fr3) st3 go) fun r s4 ⟨u,hr,h4⟩=>?_
      subst hr
      refine thn h4 fun _ s5 ⟨x,H5,I5,r5,y5,st5,fr5⟩=>?_
      have I5':=I5.pinned (fo3 fr5) (T.obj _ _ st5)
      refine thn (hg _ _ _ _ _ s5 _ H5 x u _ I5' r5 (nxt x H5 y5)) fun _ s6 ⟨σ6,H6,I6,q6⟩=>?_
      refine thn (ht _ _ _ _ _ s6 σ6 H6 _ I6 q6) fun okb s9 ⟨H9,I9,q9⟩=>?_
      have pF9:∀ b∈fp,∀ o,s5.heap.get? b=some o→s9.heap.get? b=some o∧H9 b=none:=fun b hb o e=>by
        have z:=I9.pin (b,o) (List.mem_append_right _ (List.mem_append_right _ (qdb hb e)))
        exact ⟨z.1,z.2.1⟩
      cases okb with
      | false=>
        have w9:W (i+1) ys H9:=q9
        have pD9:=I9.pin (s2.heap.objs.size,{ cls:=.type "list", data:=.seq its.toArray k }) (List.mem_append_right _ (List.mem_append_left _ (List.mem_singleton.mpr rfl)))
        have I9n:Inv (blk X N scope cl G.objs.size s2 H2 fp) [] σ6 H9 s9:=I9.pins_of fun p hp=>nomatch hp
        exact ⟨n0 - (i+1),by omega,i+1,ys,its,k,H9,qg2 B I2 f2 I9n,pD9.1,hv,pD9.2.1,T.keep _ _ _ st5 (fun b hb o e=>(pF9 b hb o e).1),(fun b hb=>by
          obtain ⟨o,e,_⟩:=T.obj _ _ st5 b hb
          exact (pF9 b hb o e).2),w9,rfl⟩
      | true=>
      replace q9:te σ6 H9 fun y H4=>W (i+1) (ys++[y]) H4:=q9
      refine thn (he _ _ _ _ _ s9 σ6 H9 _ I9 q9) fun uy s7 ⟨y,H7,I7,r7,w7⟩=>?_
      have pD:=I7.pin (s2.heap.objs.size,{ cls:=.type "list", data:=.seq its.toArray k }) (List.mem_append_right _ (List.mem_append_left _ (List.mem_singleton.mpr rfl)))
      have pF:∀ b∈fp,∀ o,s5.heap.get? b=some o→s7.heap.get? b=some o∧H7 b=none:=fun b hb o e=>by
        have z:=I7.pin (b,o) (List.mem_append_right _ (List.mem_append_right _ (qdb hb e)))
        exact ⟨z.1,z.2.1⟩
      refine append_at (hsz:=hz) pD.1 fun h8 sb8 hD8=>?_
      have I7n:Inv (blk X N scope cl G.objs.size s2 H2 fp) [] σ6 H7 s7:=I7.pins_of fun p hp=>nomatch hp
      have I8:Inv (blk X N scope cl G.objs.size s2 H2 fp) [] σ6 H7 { s7 with heap:=h8,toks:=s7.toks }:=I7n.turned (fun b o hb e=>sb8.extBut b o hb e) pD.2.1 hDC (.inr (Nat.le_refl _)) ncD (fun p hp=>nomatch hp)
      refine ⟨n0 - (i+1),by omega,i+1,ys++[y],its++[uy],k+1,H7,qg2 B I2 f2 I8,?_,Paired.snoc hv r7,pD.2.1,T.keep _ _ _ st5 (fun b hb o e=>sb8.extBut b o (nfD b hb).symm (pF b hb o e).1),fun b hb=>?_,w7,rfl⟩
      · show h8.get? _=_
        rw [hD8,List.push_toArray]
      · obtain ⟨o,e,_⟩:=T.obj _ _ st5 b hb
        exact (pF b hb o e).2
  exact codeAny_compStart_list loop (T.self X.A 0 _ _ _ (T.keep _ _ _ st2 (fun b _ o e=>old b o e)) loop)
theorem qiS {elt iter tg c:Expr} {tc:TT} {pos:Pos} {wi:TI} {g:TG} {te:TE} (hc:X.calm=true) (B:BlkOk X N capt scope cl) (hi:PI X tg iter wi)
    (hg:∀ C s H fp,PG (blk X N scope cl C s H fp) tg g) (ht:∀ C s H fp,PT (blk X N scope cl C s H fp) c tc) (he:∀ C s H fp,PE (blk X N scope cl C s H fp) elt te)
    (hs:∀ x,foldedSetIterable iter X.env x=pure x:=by intro _;rfl):PE X (.ListComp elt [⟨tg,iter,[c],0⟩] scope pos) (qg4 wi capt g tc te):=by
  intro pins s σ H Q I h
  rw [eval_ListComp]
  refine wpAny_comprehension_free (use:=none) rfl hs B.clos B.kind B.names (qmf (fun acc C=>compPost (model X.prog X.w) X.A X.xe none (EP X pins σ Q) acc C) hc B hi hg ht he I h fun D C s4 Hq m I4 q hn hf h1 h2 h3 h4=>?_)
  exact ⟨m,hn,fun h' sb=>⟨.ref D,Hq,I4.turned (fun b o hb e=>sb.extBut b o hb e) hf h1 (.inr h2) h3 h4,rfl,q⟩⟩
end
end Bs
namespace Bs
open PySem L2
noncomputable def sS (K:W.Frag):V→Option Int→Option Int→Hp→VK→Prop:=fun x lo hi H Q=>∃ a xs,x=.ref a∧SqL K H a xs∧∀ p,H p=none→Q (.ref p) (upd H p (.lst (qjo xs lo hi)))
noncomputable def qnB:List V→Hp→VK→Prop:=fun xs H Q=>∃ (p:Addr) (ns:List Int),xs=[.ref p]∧H p=some (.lst (ns.map V.int))∧Q (.int ns.sum) H
end Bs
namespace Bs
open PySem PySem.Spec PyProof.Rows L2
section
variable {X:Cx}
theorem qjM:SlR X (sS X.K):=qm1
theorem qg6 (ns:List Int):∀ k,k≤ns.length→preSum (fun i=>ns.getD i 0) k=(ns.take k).sum
  | 0,_=>rfl
  | k+1,h=>by
    have e:ns.take (k+1)=ns.take k++[ns.getD k 0]:=by
      rw [List.take_add_one,List.getD_eq_getElem?_getD,List.getElem?_eq_getElem (by omega)];rfl
    show preSum _ k+_=_
    rw [e,qg6 ns k (by omega),List.sum_append]
    simp
theorem qjN (hc:X.calm=true):qdO X (.builtin "sum") qnB:=fun pins s σ H xs us Q I r ⟨p,ns,e,hp,q⟩=>by
  subst e
  obtain ⟨u,rfl,ru⟩:=qfF r
  cases ru
  obtain ⟨its,rv,pl,hz⟩:=I.list (SqL.of hp)
  have hl:ns.length=its.length:=by have:=rv.length;simpa using this
  refine call_sum_walkG (wpAny_pyIter_list pl.isList ⟨s.heap.objs.size,[s.heap.objs.size,p],[s.heap.objs.size],its.toArray.size,_,_,fun i=>ns.getD i 0,rfl,Walks.list (A:=X.A.in1) (show X.A.in1.handled=none from I.ok.hd hc) s.heap.objs.size p (Nat.ne_of_lt pl.lt) _,⟨⟨_,Heap.get?_push_size _ rfl,rfl,rfl⟩,pl.isList.push _⟩,?_,?_,fun g tk t gk=>?_⟩)
  · intro b hb
    have z:b=s.heap.objs.size∨b=p:=by simpa using hb
    rcases z with z | z
    · rw [z];exact Heap.lt_size (Heap.get?_push_size _ rfl)
    · obtain ⟨o,_,ho,_⟩:=pl
      rw [z];exact Heap.lt_size (Heap.get?_push_of_some _ ho)
  · intro i v hP
    obtain ⟨n,t,h1,rfl⟩:=qdn rv (show its[i]?=some v by simpa using hP)
    have e:ns.getD i 0=n:=by rw [List.getD_eq_getElem?_getD,h1];rfl
    exact ⟨t,by show Value.int n t=Value.int (ns.getD i 0) t;rw [e]⟩
  · have kk:∀ b o,s.heap.get? b=some o→g.get? b=some o:=fun b o e=>gk b o (fun z=>absurd (Heap.lt_size e) (by rw [List.mem_singleton.mp z];exact Nat.lt_irrefl _)) (Heap.get?_push_of_some _ e)
    refine ⟨.int ns.sum,H,I.kept kk,⟨t,?_⟩,q⟩
    have e:=qg6 ns ns.length (Nat.le_refl _)
    rw [List.take_length] at e
    rw [List.size_toArray,← hl,e]
end
end Bs
namespace Bs
open PySem L2
noncomputable def qrZ (n:Nat) (t:TGs):TG:=fun v σ H Q=>∃ a xs,v=.ref a∧H a=some (.lst xs)∧xs.length=n∧t xs σ H Q
end Bs
namespace Bs
open PySem PySem.Spec PyProof.Rows L2
theorem qr0 {m n:Nat} {a b:Int} (ha:Bd m a) (hb:Bd n b) (h:m+n≤134217728):IntMulOk a b:=IntMulOk.of_le (qni ha) (qni hb) h
end Bs
namespace Bs
open PySem L2
end Bs
namespace Bs
open PySem PySem.Spec PyProof.Rows L2
end Bs
namespace Bs
open PySem L2
end Bs
namespace Bs
open PySem PySem.Spec PyProof.Rows L2
end Bs
namespace Bs
open PySem L2
end Bs
namespace Bs
open PySem PySem.Spec PySem.Calls PyProof.Rows L2
section
variable {X:Cx}
theorem Inv.dK {pins:List (Addr×Obj)} {σ:L2.St} {H:Hp} {s:Shared} {p:Addr} {kvs:List (Key×V)} (I:Inv X pins σ H s) (h:H p=some (.dK kvs)) :
    kvs.length≤sizeLine∧(p == sysModules)=false∧∃ vs,KV kvs vs∧s.heap.DictOf (qiB X.prog X.w) p vs:=I.hok p _ h
end
end Bs
namespace Bs
open PySem PySem.Spec PySem.Calls PyProof.Rows L2
section
variable {X:Cx} {pos:Pos}
end
end Bs
namespace Bs
open PySem L2
noncomputable def qnC:V→List V→Hp→VK→Prop:=fun x vs H Q=>∃ l xs y k,x=.ref l∧vs=[.int (k:Nat),y]∧H l=some (.lst xs)∧k≤xs.length∧xs.length<sizeLine∧Q .non (upd H l (.lst (xs.take k++y::xs.drop k)))
end Bs
namespace Bs
open PySem PySem.Spec PySem.Calls PyProof.Rows L2
section
variable {X:Cx}
theorem qnD:MtM X "list.insert" qnC:=by
  intro pins s σ H x vs v us Q I rx rv h
  obtain ⟨l,xs,y,k,rfl,rfl,hH,hk,hz,q⟩:=h
  cases rx
  obtain ⟨u,w',rfl,⟨t,rfl⟩,ry⟩:=rv.two
  obtain ⟨z,its,n,r,hl,e⟩:=I.lstM hH
  have k63:(k:Int)<2 ^ 63:=by have:=sizeLine_eq;omega
  have fit:¬ (!Builtin.List.listFitsIndex (k:Int))=true:=by rw [fitsIndex_both (by omega) k63];decide
  have zi:its.toArray.size≤sizeLine:=by rw [List.size_toArray,← hl];exact z
  generalize hi:(k:Int)=i at fit
  have M:=PySem.AutoSeq1.list_insert_list_int_val_1 l its.toArray n i t w' fit zi
  refine call_meets F.slot_list_insert ⟨_,e,rfl⟩ F.entry_list_insert (F.args_list_insert_3 _ _ _) M ⟨e,?_⟩
  subst hi
  refine ⟨.non,_,I.lset (its':=its.take k++w'::its.drop k) hH e ?_ ((r.take k).append (.cons ry (r.drop k))) ?_,rfl,q⟩
  · show ((its.toArray.extract 0 (if (k:Int)<0 then ((k:Int)+(its.toArray.size:Int)).toNat else min (k:Int).toNat its.toArray.size)).push w'++its.toArray.extract (if (k:Int)<0 then ((k:Int)+(its.toArray.size:Int)).toNat else min (k:Int).toNat its.toArray.size))=_
    rw [if_neg (by omega),show min (k:Int).toNat its.toArray.size=k by rw [List.size_toArray];omega]
    apply Array.ext'
    simp
    rw [List.take_of_length_le (by rw [List.length_drop];exact Nat.le_refl _)]
  · simp
    omega
end
end Bs
namespace Bs
open PySem PySem.Spec PyProof.Rows L2
end Bs
namespace Bs
open PySem PySem.Spec PyProof.Rows L2
end Bs
namespace Bs
open PySem L2
noncomputable def blN (i:Int):Nat:=if i=0 then 0 else i.natAbs.log2+1
noncomputable def qtF:R2:=rI (fun i j=>0≤j∧(blN i:Int)+j≤134217728) fun i j=>.int (i*2 ^ j.toNat)
noncomputable def qqG:V→List V→Hp→VK→Prop:=fun x xs H Q=>∃ i:Int,x=.int i∧xs=[]∧Q (.int (blN i)) H
noncomputable def qnE:List V→Hp→VK→Prop:=fun xs H Q=>∃ (p:Addr) (ns:List Int),xs=[.ref p]∧H p=some (.lst (ns.map V.int))∧ns.length<64∧∀ (r:Addr) (ms:List Int),H r=none→ms.Perm ns→ms.Pairwise (·≤·)→Q (.ref r) (upd H r (.lst (ms.map V.int)))
noncomputable def qr1 (te:TE):TE:=fun σ H Q=>te σ H fun x H1=>∃ (p:Addr) (ns:List Int),x=.ref p∧H1 p=some (.lst (ns.map V.int))∧∀ M:Int,(ns=[]∧M=0∨M∈ns∧∀ z∈ns,z≤M)→Q (.int M) H1
end Bs
namespace Bs
open PySem PySem.Spec PyProof.Rows L2
section
variable {X:Cx}
theorem qnF:bootBuiltins "sorted" = some (.builtin "sorted"):=by decide +kernel
theorem qlv (i:Int):Builtin.Int.intBits i=blN i:=by unfold Builtin.Int.intBits blN;by_cases h:i=0 <;> simp [h]
theorem op_shl:OpR X (binaryOp .LShift) qtF:=opI fun _ _ _ _ _ _ _ hc q=>lshift_int hc.1 (by rw [qlv];exact hc.2) q
theorem qnG:MtR X "int.bit_length" qqG:=by
  intro pins s σ H x xs v us Q I rx rv h
  obtain ⟨i,rfl,rfl,q⟩:=h
  obtain ⟨t,rfl⟩:=rx
  cases rv
  exact call_int_bit_length ⟨.int (blN i),H,I.tok _,⟨_,by rw [qlv]⟩,q⟩
theorem qqH:∀ {vs:List Value} {ns:List Int},Vals (ns.map V.int) vs→IntsAre vs ns:=by
  intro vs ns
  induction ns generalizing vs with
  | nil=>intro h;cases h;exact .nil
  | cons n ns ih=>intro h;cases h with | cons r t=>obtain ⟨k,rfl⟩:=r;exact .cons n k (ih t)
theorem qjO:qdO X (.builtin "sorted") qnE:=fun pins s σ H xs us Q I r ⟨p,ns,e,hp,hl,q⟩=>by
  subst e
  obtain ⟨u,rfl,ru⟩:=qfF r
  cases ru
  obtain ⟨its,rv,pl,hz⟩:=I.list (SqL.of hp)
  have hle:ns.length=its.length:=by have:=rv.length;simpa using this
  obtain ⟨m,hn,_⟩:=id I.loc
  refine sorted_N (h₀:=Att.noObjs s.heap) (L:=X.env.locals) (m:=m) (news:=Att.ledger s.heap X.env.locals X.env.locals) (Att.fr_all hn) (fun p hp=>?_) pl.isList (qqH rv) (by omega) fun h' vs' ms c F N hv pm sr=>?_
  · obtain ⟨n1,_,e⟩:=Att.mem_ledger.mp hp
    exact ⟨e,n1,Att.noObjs_get _ _⟩
  have kk:∀ b o,b≠X.env.locals→s.heap.get? b=some o→h'.get? b=some o:=fun b o n e=>(N (b,o) (List.mem_cons_of_mem _ (Att.mem_ledger.mpr ⟨n,n,e⟩))).1
  have hD:h'.get? (s.heap.objs.size+1)=some (seqObj "list" vs'.toArray c):=(N _ (List.mem_cons_self ..)).1
  have fr:H (s.heap.objs.size+1)=none:=I.hok.fresh (Nat.le_succ _)
  refine ⟨.ref _,_,?_,rfl,q (s.heap.objs.size+1) ms fr pm sr⟩
  have lm:=pm.length_eq
  refine I.step (g':=s.gens) (d':=s.drawn) (t':=s.toks) (ch:=[]) (fun _ z=>nomatch z) (fun b o n _ _ e _=>kk b o n e) (fun b o n _ _ e _=>⟨o.slots,kk b o n e⟩) (fun b o _ e n=>?_) (fun b o _ e=>?_) (fun b xs e=>?_) (fun b o u e=>?_) (fun b ps e=>⟨#[],?_⟩) (fun m' hm=>?_) (fun b o e=>?_) I.bare
  · rw [qay (Nat.ne_of_lt (Nat.lt_succ_of_lt (Heap.lt_size e)))];exact n
  · by_cases hb:b=X.env.locals
    · obtain ⟨o',_,_,e',_⟩:=F.ns
      exact ⟨o',by rw [hb];exact e'⟩
    · exact ⟨o,kk b o hb e⟩
  · rw [qay (qao e fr)];exact e
  · rw [qay (qao e fr)];exact e
  · rw [qay (qao e fr),e];simp
  · rw [show m'=m from funext fun x=>hm.agree hn x];exact F.ns
  · by_cases hb:b=s.heap.objs.size+1
    · subst hb
      rw [qai] at e;cases e
      exact ⟨by rw [List.length_map];rw [List.length_map] at hz;omega,vs',c,qgT hv,hD⟩
    · rw [qay hb] at e
      refine (I.hok b o e).stay (fun c u hc e'=>kk c u ?_ e') (fun c e'=>?_) fun c xs e'=>?_
      · rintro rfl
        rcases hc with z | z
        · rw [← z,I.free] at e;cases e
        · rw [I.free] at z;cases z
      · rw [qay (qao e' fr)];exact e'
      · rw [qay (qao e' fr)];exact e'
end
section
variable {prog:Program} {w:World} {A:Around} {R:Result→Shared→Prop} {I:Addr} {fp wr:List Addr} {n:Nat} {P:Nat→Value→Prop} {St:Nat→Heap→Prop} {d:Value}
theorem qg7 (W:Walks prog w A.in1 I fp wr n P St) (bt:Nat→Nat→Bool) (htr:∀ i j q,bt j q=true→bt i q=false→bt i j=false) (hirr:∀ i,bt i i=false) (hcmp:CmpOf prog w A.in1 .Gt P bt) (S:Addr) (hSf:S∉fp):∀ (k j q:Nat) (s:Shared) (vb:Value) (c:Nat),n - j=k→j≤n→St j s.heap→q<n→(∀ i,i<j→bt i q=false)→P q vb→
    s.heap.get? S=some { cls:=.type "list", dict:=none,data:=.seq #[vb,vb] c,slots:=#[] }→
    (∀ q v h' tk,q<n→(∀ i,i<n→bt i q=false)→P q v→(∀ b o,b∉wr→b≠S→s.heap.get? b=some o→h'.get? b=some o)→R (.ok (.ret v)) { s with heap:=h',toks:=tk })→
    codeAny (model prog w) A (.builtin "max.loop" ⟨[.ref I,.none,.ref S],[("default", d)]⟩) R s
  | 0,j,q,s,vb,c,hk,hj,hst,hq,hB,hPb,hS,hR=>by
    have jn:j=n:=by omega
    refine codeAny_builtin F.entry_max_loop ?_
    rw [Around.under_plainId F.plain_max_loop _]
    refine wpAny_bind (m:=seqItems? (.ref S)) (wpAny_seqItems hS rfl ?_)
    refine wpAny_bind (m:=tryCatch (pyNext (.ref I)) _) (wpAny_tryCatch (W.done s _ _ (jn ▸ hst) fun h' tk kp=>?_))
    have hS2:=kp S _ (fun z=>hSf (W.sub _ z)) hS
    refine wpAny_bind (m:=updateSeq S (fun _=>#[])) (wpAny_updateSeq hS2 rfl (wpAny_bind (wpAny_letGo (wpAny_pure ?_))))
    exact hR q vb _ tk hq (jn ▸ hB) hPb fun b o h1 h2 e=>(Heap.get?_update_other _ _ h2.symm).trans (kp b o h1 e)
  | k+1,j,q,s,vb,c,hk,hj,hst,hq,hB,hPb,hS,hR=>by
    have jn:j<n:=by omega
    refine codeAny_builtin F.entry_max_loop ?_
    rw [Around.under_plainId F.plain_max_loop _]
    refine wpAny_bind (m:=seqItems? (.ref S)) (wpAny_seqItems hS rfl ?_)
    refine wpAny_bind (m:=tryCatch (pyNext (.ref I)) _) (wpAny_tryCatch (W.item j s _ _ jn hst fun v h' tk hP hst' kp=>?_))
    have hS2:=kp S _ (fun z=>hSf (W.sub _ z)) hS
    refine wpAny_bind (m:=tryCatch (holding [v,v] (richCompare .Gt v vb >>= _)) _) (wpAny_tryCatch (wpAny_holding (wpAny_bind (hcmp j q v vb _ _ _ hP hPb ?_))))
    refine wpAny_bind (wpAny_holding (wpAny_truthy_bool (wpAny_bind (wpAny_letGo (wpAny_pure ?_)))))
    have nm:(toString "max" ++ toString ".loop" : String) = "max.loop" := by decide
    cases hbt:bt j q with
    | true=>
      simp only [if_true]
      refine wpAny_bind (wpAny_updateSeq hS2 rfl (wpAny_bind (wpAny_letGo ?_)))
      rw [nm]
      refine wpAny_pure ⟨plainId_quiet F.plain_max_loop _,qg7 W bt htr hirr hcmp S hSf k (j+1) j _ v _ (by omega) (by omega) (W.frame _ _ _ hst' fun b hb o e=>(Heap.get?_update_other _ _ (fun z:S=b=>hSf (by rw [z];exact hb))).trans e) jn (fun i hi=>by rcases Nat.lt_succ_iff_lt_or_eq.mp hi with z | z;exact htr i j q hbt (hB i z);rw [z];exact hirr j) hP (Heap.get?_update_self _ hS2 rfl) fun q' v' h2 tk2 hq' hB' hP' kp2=>?_⟩
      exact hR q' v' h2 tk2 hq' hB' hP' fun b o h1 h3 e=>kp2 b o h1 h3 ((Heap.get?_update_other _ _ h3.symm).trans (kp b o h1 e))
    | false=>
      simp only [Bool.false_eq_true,if_false]
      refine wpAny_bind (wpAny_letGo ?_)
      rw [nm]
      exact wpAny_pure ⟨plainId_quiet F.plain_max_loop _,qg7 W bt htr hirr hcmp S hSf k (j+1) q _ vb c (by omega) (by omega) hst' hq (fun i hi=>by rcases Nat.lt_succ_iff_lt_or_eq.mp hi with z | z;exact hB i z;rw [z];exact hbt) hPb hS2 fun q' v' h2 tk2 hq' hB' hP' kp2=>hR q' v' h2 tk2 hq' hB' hP' fun b o h1 h3 e=>kp2 b o h1 h3 (kp b o h1 e)⟩
theorem qmg (W:Walks prog w A.in1 I fp wr n P St) (bt:Nat→Nat→Bool) (htr:∀ i j q,bt j q=true→bt i q=false→bt i j=false) (hirr:∀ i,bt i i=false) (hcmp:CmpOf prog w A.in1 .Gt P bt) (S:Addr) (hSf:S∉fp) {s:Shared} {c:Nat} (hst:St 0 s.heap)
    (hS:s.heap.get? S=some { cls:=.type "list", dict:=none,data:=.seq #[] c,slots:=#[] })
    (hR:∀ v h' tk,(n=0∧v=d∨∃ q,q<n∧(∀ i,i<n→bt i q=false)∧P q v)→(∀ b o,b∉wr→b≠S→s.heap.get? b=some o→h'.get? b=some o)→R (.ok (.ret v)) { s with heap:=h',toks:=tk }) :
    codeAny (model prog w) A (.builtin "max.loop" ⟨[.ref I,.none,.ref S],[("default", d)]⟩) R s:=by
  refine codeAny_builtin F.entry_max_loop ?_
  rw [Around.under_plainId F.plain_max_loop _]
  refine wpAny_bind (m:=seqItems? (.ref S)) (wpAny_seqItems hS rfl ?_)
  rcases Nat.eq_zero_or_pos n with z | z
  · refine wpAny_bind (m:=tryCatch (pyNext (.ref I)) _) (wpAny_tryCatch (W.done s _ _ (z ▸ hst) fun h' tk kp=>?_))
    refine wpAny_bind (wpAny_rule (wpAny_pure ?_))
    exact hR d h' tk (.inl ⟨z,rfl⟩) fun b o h1 _ e=>kp b o h1 e
  · refine wpAny_bind (m:=tryCatch (pyNext (.ref I)) _) (wpAny_tryCatch (W.item 0 s _ _ z hst fun v h' tk hP hst' kp=>?_))
    have hS2:=kp S _ (fun z=>hSf (W.sub _ z)) hS
    have nm:(toString "max" ++ toString ".loop" : String) = "max.loop" := by decide
    refine wpAny_bind (m:=updateSeq S (fun _=>#[v,v])) (wpAny_updateSeq hS2 rfl ?_)
    rw [nm]
    refine wpAny_pure ⟨plainId_quiet F.plain_max_loop _,qg7 W bt htr hirr hcmp S hSf _ 1 0 _ v _ rfl z (W.frame _ _ _ hst' fun b hb o e=>(Heap.get?_update_other _ _ (fun z:S=b=>hSf (by rw [z];exact hb))).trans e) z (fun i hi=>by rw [show i=0 by omega];exact hirr 0) hP (Heap.get?_update_self _ hS2 rfl) fun q' v' h2 tk2 hq' hB' hP' kp2=>?_⟩
    exact hR v' h2 tk2 (.inr ⟨q',hq',hB',hP'⟩) fun b o h1 h3 e=>kp2 b o h1 h3 ((Heap.get?_update_other _ _ h3.symm).trans (kp b o h1 e))
end
theorem qnH (a v:Value):argsOk "max" ⟨[a],[("default", v)]⟩:=by unfold argsOk;kernel_rfl
section
variable {X:Cx} {e:Expr} {te:TE} {p pos kp1 kp2:Pos} {kk:Nat}
theorem qqI (hc:X.calm=true) (hm:X.mg "max" = none) (hv:bootBuiltins "max" = some (.builtin "max")) (ha:PE X e te) (hg:Gl X "max" := by rfl)
    (hs:starEach [e] X.env=(false,eval e X.env)::starEach [] X.env:=by rfl) (hb:backTo pos (starEach [e] X.env)=(false,eval e X.env)::backTo pos (starEach [] X.env):=by rfl):PE X (.Call (.Name "max" p) [e] [⟨some "default", .Constant (.int 0) kk kp1,kp2⟩] pos) (qr1 te):=by
  intro pins s σ H Q I h
  refine wpAny_Call_Name_kw (qek I hg hm hv ?_ (by decide) (by decide))
  refine PyProof.Rows.callWith_kw ?_ hb (by rw [hb];rfl)
  rw [hb]
  refine Calls.spliced_cons (thn (ha pins s σ H _ I h) fun u s1 ⟨x,H1,I1,r1,q1⟩=>Calls.spliced_nil ?_)
  have kw:PK X [⟨some "default", .Constant (.int 0) kk kp1,kp2⟩] (qac (tC (.int 0)) qat):=qmY qad qpP
  refine thn (kw pos pins s1 σ H1 (fun vs H2=>vs=[.int 0]∧H2=H1) I1 ⟨rfl,rfl⟩) fun ws s2 ⟨zs,H2,I2,rz,ez,eh⟩=>?_
  subst ez eh
  obtain ⟨z,rfl,t,rfl⟩:=qfF rz
  obtain ⟨l,ns,rfl,hl,q⟩:=q1
  cases r1
  obtain ⟨its,rv,pl,hz⟩:=I2.list (SqL.of hl)
  have hle:ns.length=its.length:=by have:=rv.length;simpa using this
  have nm:(toString "max" ++ toString ".loop" : String) = "max.loop" := by decide
  refine kmb_tree F.kind_max F.plain_max F.entry_max (qnH _ _) ?_
  refine wpAny_bind (m:=Builtin.Builtins.bindParams "max" ["key", "default"] 0 ⟨[],[("default", Value.int 0 t)]⟩) (wpAny_of_eq (a:=[none,some (Value.int 0 t)]) rfl ?_)
  refine wpAny_bind (wpAny_pure (wpAny_bind (wpAny_pyIter_list pl.isList ?_)))
  refine wpAny_bind (wpAny_newObj_type ?_)
  rw [nm]
  have lp:l<s2.heap.objs.size:=pl.lt
  have nS:(s2.heap.push { cls:=.type "list_iterator", data:=.fields #[.ref l,.int 0 0] }).objs.size=s2.heap.objs.size+1:=Heap.size_push ..
  have W:=Walks.list (prog:=X.prog) (w:=X.w) (A:=X.A.in1) (show X.A.in1.handled=none from I2.ok.hd hc) s2.heap.objs.size l (Nat.ne_of_lt lp) its.toArray
  refine wpAny_pure ⟨plainId_quiet F.plain_max_loop _,qmg W _ (fun i j q h1 h2=>by have h1:=of_decide_eq_true h1;have h2:=of_decide_eq_false h2;exact decide_eq_false (by omega)) (fun i=>decide_eq_false (Int.lt_irrefl _)) (CmpOf.ints_gt (fun i=>ns.getD i 0) fun i v hP=>?_) _ ?_ ⟨⟨_,Heap.get?_push_of_some _ (Heap.get?_push_size _ rfl),rfl,rfl⟩,(pl.isList.push _).push _⟩ (Heap.get?_push_size _ rfl) fun v g tk hv2 gk=>?_⟩
  · obtain ⟨n,t2,h1,rfl⟩:=qdn rv (show its[i]?=some v by simpa using hP)
    exact ⟨t2,by rw [List.getD_eq_getElem?_getD,h1];rfl⟩
  · rw [nS]
    have:¬ (s2.heap.objs.size+1=s2.heap.objs.size∨s2.heap.objs.size+1=l):=fun z=>by
      rcases z with z | z
      · exact absurd z (Nat.succ_ne_self _)
      · rw [← z] at lp;exact absurd lp (Nat.not_lt.mpr (Nat.le_succ _))
    simpa using this
  · have kk2:∀ b o,s2.heap.get? b=some o→g.get? b=some o:=fun b o e=>by
      have lb:b<s2.heap.objs.size:=Heap.lt_size e
      refine gk b o (fun z=>?_) (fun z=>?_) (Heap.get?_push_of_some _ (Heap.get?_push_of_some _ e))
      · rw [List.mem_singleton.mp z] at lb;exact absurd lb (Nat.lt_irrefl _)
      · rw [z,nS] at lb;exact absurd lb (Nat.not_lt.mpr (Nat.le_succ _))
    have I3:=I2.kept (t':=tk) kk2
    rcases hv2 with ⟨z,rfl⟩ | ⟨i,hi,hB,hP⟩
    · exact ⟨.int 0,_,I3,⟨t,rfl⟩,q 0 (.inl ⟨List.length_eq_zero_iff.mp (by rw [List.size_toArray] at z;omega),rfl⟩)⟩
    · obtain ⟨n,t2,h1,rfl⟩:=qdn rv (show its[i]?=some v by simpa using hP)
      refine ⟨.int n,_,I3,⟨t2,rfl⟩,q n (.inr ⟨List.mem_of_getElem? h1,fun z hz=>?_⟩)⟩
      obtain ⟨j,hj,rfl⟩:=List.getElem_of_mem hz
      have:=of_decide_eq_false (hB j (by rw [List.size_toArray];omega))
      rw [List.getD_eq_getElem?_getD,List.getD_eq_getElem?_getD,h1,List.getElem?_eq_getElem hj] at this
      exact Int.not_lt.mp this
end
end Bs
namespace Bs
theorem Bd.one:Bd 1 1:=by unfold Bd;decide
theorem Bd.pow {b:Nat} {x:Int} (h:Bd b x) (k:Nat):Bd (b*k+1) (x ^ k):=by
  induction k with
  | zero=>rw [Int.pow_zero,Nat.mul_zero];exact Bd.one
  | succ k ih=>
    have e:b*(k+1)+1=(b*k+1)+b:=by rw [Nat.mul_add,Nat.mul_one];omega
    rw [Int.pow_succ,e]
    exact ih.mul h
theorem pow_ne {t:Int} (h:t≠0) (m:Nat):t ^ m≠0:=by
  induction m with
  | zero=>rw [Int.pow_zero];decide
  | succ m ih=>rw [Int.pow_succ];exact Int.mul_ne_zero ih h
end Bs
namespace Bs
noncomputable abbrev Nu:=Int×Int
noncomputable def red (n m:Int):Nu:=(n / ((Int.gcd n m:Nat):Int),m / ((Int.gcd n m:Nat):Int))
noncomputable def Wo (q:Nu) (n m:Int):Prop:=q.1*m=n*q.2
theorem qg8 {n m:Int} (hm:0<m):Low (red n m).1 (red n m).2:=(qex (a:=n) hm).1
theorem qnI {n m:Int} (hm:0<m):Wo (red n m) n m:=by
  have h:=(qeb (a:=n) (b:=m) (s:=((Int.gcd n m:Nat):Int)) (by omega) (by rw [if_neg (by omega)])).2.2.2.1
  rw [Int.fdiv_eq_ediv_of_nonneg _ (by omega),Int.fdiv_eq_ediv_of_nonneg _ (by omega)] at h
  exact h
theorem qfJ {a b d:Int} (h:Low a b) (hd:b∣a*d):b∣d:=by
  have c:Nat.Coprime b.natAbs a.natAbs:=by
    have:Nat.Coprime a.natAbs b.natAbs:=h.one
    exact this.symm
  have z:=Int.natAbs_dvd_natAbs.mpr hd
  rw [Int.natAbs_mul] at z
  exact Int.natAbs_dvd_natAbs.mp (c.dvd_of_dvd_mul_left z)
theorem qii {a b c d:Int} (h1:Low a b) (h2:Low c d) (h:a*d=c*b):a=c∧b=d:=by
  have d1:b∣d:=qfJ h1 ⟨c,by rw [h,Int.mul_comm]⟩
  have d2:d∣b:=qfJ h2 ⟨a,by rw [← h,Int.mul_comm]⟩
  have e:b=d:=Int.dvd_antisymm (Int.le_of_lt h1.pos) (Int.le_of_lt h2.pos) d1 d2
  subst e
  exact ⟨Int.eq_of_mul_eq_mul_right (Int.ne_of_gt h1.pos) h,rfl⟩
theorem qnJ {q r:Nu} {n m:Int} (h1:Low q.1 q.2) (h2:Low r.1 r.2) (hm:m≠0) (w1:Wo q n m) (w2:Wo r n m):q=r:=by
  unfold Wo at w1 w2
  have e:q.1*r.2=r.1*q.2:=by
    have z:m*(q.1*r.2)=m*(r.1*q.2):=by grind
    exact Int.eq_of_mul_eq_mul_left hm z
  obtain ⟨a,b⟩:=qii h1 h2 e
  exact Prod.ext a b
theorem qsV {q:Nu} {n m:Int} (h1:Low q.1 q.2) (hm:0<m) (w:Wo q n m):q.1.natAbs≤n.natAbs∧q.2.natAbs≤m.natAbs:=by
  have e:q=red n m:=qnJ h1 (qg8 hm) (Int.ne_of_gt hm) w (qnI hm)
  subst e
  exact ⟨(qex (a:=n) hm).2.1,(qex (a:=n) hm).2.2.1⟩
noncomputable def qr2 (l:List Nu):Nat→Nat
  | 0=>0
  | m+1=>if (l.getD m (1,1)).1=0 then qr2 l m else m+1
noncomputable def trim (l:List Nu):List Nu:=l.take (qr2 l l.length)
noncomputable def Nz (l:List Nu):Prop:=∀ q,l.getLast?=some q→q.1≠0
noncomputable def qcF (l:List Nu):Prop:=∀ q∈l,Low q.1 q.2
noncomputable def qsW (n:Nat) (l:List Nu):Prop:=∀ q∈l,Bd n q.1∧Bd n q.2
noncomputable def qij (l:List Nu) (i:Nat):Nu:=l.getD i (0,1)
theorem qsX:Low 0 1:=⟨by decide,by decide⟩
theorem qlw {l:List Nu} (h:qcF l) (i:Nat):Low (qij l i).1 (qij l i).2:=by
  unfold qij
  rw [List.getD_eq_getElem?_getD]
  cases e:l[i]? with
  | none=>exact qsX
  | some q=>exact h q (List.mem_of_getElem? e)
end Bs
namespace Bs
noncomputable def qkE (l:List Nu):Int:=l.foldl (fun B q=>B*(q.2 / ((Int.gcd B q.2:Nat):Int))) 1
noncomputable def qf7 (l:List Nu):List Int:=l.map fun q=>q.1*(qkE l / q.2)
theorem qiT {B d:Int} (hB:0<B) (hd:0<d):0<B*(d / ((Int.gcd B d:Nat):Int))∧B∣B*(d / ((Int.gcd B d:Nat):Int))∧d∣B*(d / ((Int.gcd B d:Nat):Int))∧(d / ((Int.gcd B d:Nat):Int)).natAbs≤d.natAbs∧0<((Int.gcd B d:Nat):Int)∧((Int.gcd B d:Nat):Int)≤d:=by
  have g0:0<Int.gcd B d:=Int.gcd_pos_of_ne_zero_right B (by omega)
  obtain ⟨k,hk⟩:((Int.gcd B d:Nat):Int)∣d:=Int.gcd_dvd_right B d
  obtain ⟨m,hm⟩:((Int.gcd B d:Nat):Int)∣B:=Int.gcd_dvd_left B d
  have gp:(0:Int)<((Int.gcd B d:Nat):Int):=by omega
  have e:d / ((Int.gcd B d:Nat):Int)=k:=by
    have z:d / ((Int.gcd B d:Nat):Int)=(((Int.gcd B d:Nat):Int)*k) / ((Int.gcd B d:Nat):Int):=by rw [← hk]
    rw [z,Int.mul_ediv_cancel_left _ (Int.ne_of_gt gp)]
  have kp:0<k:=by
    rcases Int.lt_or_le 0 k with h | h
    · exact h
    · exfalso
      have:=Int.mul_nonneg (Int.le_of_lt gp) (show 0≤-k by omega)
      rw [Int.mul_neg] at this
      omega
  have le:((Int.gcd B d:Nat):Int)≤d:=Int.le_of_dvd hd (Int.gcd_dvd_right B d)
  refine ⟨by rw [e];exact Int.mul_pos hB kp,Int.dvd_mul_right ..,?_,?_,gp,le⟩
  · rw [e]
    refine ⟨m,?_⟩
    have z:d*m=((Int.gcd B d:Nat):Int)*k*m:=by rw [← hk]
    have z2:B*k=((Int.gcd B d:Nat):Int)*m*k:=by rw [← hm]
    rw [z,z2];grind
  · rw [e]
    have z:d.natAbs=(Int.gcd B d)*k.natAbs:=by
      have:d.natAbs=(((Int.gcd B d:Nat):Int)*k).natAbs:=by rw [← hk]
      rw [this,Int.natAbs_mul];simp
    rw [z]
    exact Nat.le_mul_of_pos_left _ g0
theorem qjP {b:Nat}:∀ (l:List Nu) (B:Int) (c:Nat),(∀ q∈l,0<q.2∧Bd b q.2)→0<B→Bd c B→
    0<l.foldl (fun B q=>B*(q.2 / ((Int.gcd B q.2:Nat):Int))) B∧B∣l.foldl (fun B q=>B*(q.2 / ((Int.gcd B q.2:Nat):Int))) B∧(∀ q∈l,q.2∣l.foldl (fun B q=>B*(q.2 / ((Int.gcd B q.2:Nat):Int))) B)∧Bd (c+b*l.length) (l.foldl (fun B q=>B*(q.2 / ((Int.gcd B q.2:Nat):Int))) B)
  | [],B,c,_,hB,bB=>⟨hB,Int.dvd_refl B,(fun _ h=>nomatch h),by simpa using bB⟩
  | q::l,B,c,h,hB,bB=>by
    obtain ⟨q0,qb⟩:=h q (List.mem_cons_self ..)
    obtain ⟨s1,s2,s3,s4,_,_⟩:=qiT hB q0
    obtain ⟨r1,r2,r3,r4⟩:=qjP l (B*(q.2 / ((Int.gcd B q.2:Nat):Int))) (c+b) (fun r hr=>h r (List.mem_cons_of_mem _ hr)) s1 (bB.mul (qb.le s4))
    rw [List.foldl_cons]
    refine ⟨r1,Int.dvd_trans s2 r2,fun r hr=>?_,r4.mono (by rw [List.length_cons,Nat.mul_add,Nat.mul_one];omega)⟩
    rcases List.mem_cons.mp hr with rfl | hr
    · exact Int.dvd_trans s3 r2
    · exact r3 r hr
theorem qqJ {b:Nat} {l:List Nu} (h1:qcF l) (h2:qsW b l):0<qkE l∧(∀ q∈l,q.2∣qkE l)∧Bd (1+b*l.length) (qkE l):=by
  obtain ⟨r1,_,r3,r4⟩:=qjP (b:=b) l 1 1 (fun q hq=>⟨(h1 q hq).pos,(h2 q hq).2⟩) (by decide) Bd.one
  exact ⟨r1,r3,r4⟩
theorem qhS {B d:Int} (hB:0<B) (hd:0<d):(B / d).natAbs≤B.natAbs:=by
  have h1:0≤B / d:=Int.ediv_nonneg (Int.le_of_lt hB) (Int.le_of_lt hd)
  have h2:B / d≤B:=Int.ediv_le_self d (Int.le_of_lt hB)
  omega
noncomputable def ps (ns ms:List Int):Nat→Nat→Int
  | 0,_=>0
  | i+1,k=>ps ns ms i k+(if i≤k∧k - i<ms.length then ns.getD i 0*ms.getD (k - i) 0 else 0)
noncomputable def in2 (ns ms:List Int) (i j k:Nat):Int:=ps ns ms i k+(if i≤k∧k - i<j then ns.getD i 0*ms.getD (k - i) 0 else 0)
theorem qlx (ns ms:List Int) (i k:Nat):in2 ns ms i 0 k=ps ns ms i k:=by
  unfold in2;rw [if_neg (by omega)];omega
theorem qgH (ns ms:List Int) (i j k:Nat):in2 ns ms i (j+1) k=if k=i+j then in2 ns ms i j k+ns.getD i 0*ms.getD j 0 else in2 ns ms i j k:=by
  unfold in2
  by_cases h:k=i+j
  · subst h
    rw [if_pos rfl,if_pos ⟨by omega,by omega⟩,if_neg (by omega),show i+j - i=j by omega];omega
  · rw [if_neg h]
    congr 1
    by_cases h2:i≤k∧k - i<j
    · rw [if_pos h2,if_pos ⟨h2.1,by omega⟩]
    · rw [if_neg h2,if_neg (by omega)]
theorem qqK {c:Nat} {ns:List Int} (h:∀ z∈ns,Bd c z) (i:Nat):Bd c (ns.getD i 0):=by
  rw [List.getD_eq_getElem?_getD]
  cases e:ns[i]? with
  | none=>exact Nat.pow_pos (by decide)
  | some z=>exact h z (List.mem_of_getElem? e)
theorem qez (c:Nat):Bd c 0:=Nat.pow_pos (by decide)
theorem qkF {ns ms:List Int}:∀ i k,i+ms.length≤k+1→ps ns ms i k=0
  | 0,_,_=>rfl
  | i+1,k,h=>by
    unfold ps
    rw [qkF i k (by omega),if_neg (by omega)];rfl
end Bs
namespace Bs
noncomputable def val (q:Nu):Rat:=(q.1:Rat) / (q.2:Rat)
theorem zdiv (x:Rat):0 / x=0:=by rw [Rat.div_def,Rat.zero_mul]
theorem qbj {z:Int} (h:z≠0):(z:Rat)≠0:=by exact_mod_cast h
theorem qg9 {q:Nu} {n m:Int} (hq:q.2≠0) (hm:m≠0) (w:Wo q n m):val q=(n:Rat) / (m:Rat):=by
  have h1:=qbj hq
  have h2:=qbj hm
  have w':(q.1:Rat)*m=n*q.2:=by unfold Wo at w;exact_mod_cast w
  unfold val
  grind
theorem qfK {q r:Nu} (h1:Low q.1 q.2) (h2:Low r.1 r.2) (h:val q=val r):q=r:=by
  have a:=qbj (Int.ne_of_gt h1.pos)
  have b:=qbj (Int.ne_of_gt h2.pos)
  unfold val at h
  have z:(q.1:Rat)*r.2=r.1*q.2:=by grind
  have z':q.1*r.2=r.1*q.2:=by exact_mod_cast z
  obtain ⟨x,y⟩:=qii h1 h2 z'
  exact Prod.ext x y
theorem qnK {n m:Int} (hm:0<m):val (red n m)=(n:Rat) / (m:Rat):=qg9 (Int.ne_of_gt (qg8 hm).pos) (Int.ne_of_gt hm) (qnI hm)
noncomputable def qaT (n m:Int):Nu:=if m<0 then red (-n) (-m) else red n m
theorem qbn {n m:Int} (hm:m≠0):Low (qaT n m).1 (qaT n m).2:=by
  unfold qaT
  split
  · exact qg8 (by omega)
  · exact qg8 (by omega)
theorem qb4 {n m:Int} (hm:m≠0):val (qaT n m)=(n:Rat) / (m:Rat):=by
  unfold qaT
  split
  · rw [qnK (by omega)]
    have:=qbj hm
    push_cast
    grind
  · exact qnK (by omega)
theorem qqL {c d:Nat} {n m:Int} (hm:m≠0) (h1:Bd c n) (h2:Bd d m):Bd c (qaT n m).1∧Bd d (qaT n m).2:=by
  have aux:∀ {n m:Int},0<m→Bd c n→Bd d m→Bd c (red n m).1∧Bd d (red n m).2:=fun {n m} h0 h1 h2=>by
    have w:=qsV (qg8 h0) h0 (qnI (n:=n) h0)
    exact ⟨h1.le w.1,h2.le w.2⟩
  unfold qaT
  split
  · exact aux (by omega) h1.neg h2.neg
  · exact aux (by omega) h1 h2
noncomputable def pwo (l:List Nu) (k:Nat):Rat:=val (qij l k)
theorem qpe {l:List Nu} {k:Nat} (h:l.length≤k):qij l k=(0,1):=by
  unfold qij
  rw [List.getD_eq_getElem?_getD,List.getElem?_eq_none h]
  rfl
theorem qp0 {l:List Nu} {k:Nat} (h:l.length≤k):pwo l k=0:=by
  unfold pwo
  rw [qpe h]
  exact zdiv _
noncomputable def cv (f g:Nat→Rat):Nat→Nat→Rat
  | 0,_=>0
  | n+1,k=>cv f g n k+(if n≤k then f n*g (k - n) else 0)
noncomputable def ovN (l:List Nu) (M:Int):List Int:=l.map fun q=>q.1*(M / q.2)
noncomputable def Ov (l:List Nu) (M:Int):Prop:=0<M∧∀ q∈l,q.2∣M
theorem qqM {l:List Nu} {M:Int} (i:Nat):(ovN l M).getD i 0=(qij l i).1*(M / (qij l i).2):=by
  unfold ovN qij
  rw [List.getD_eq_getElem?_getD,List.getD_eq_getElem?_getD,List.getElem?_map]
  cases l[i]? with
  | none=>simp
  | some q=>rfl
theorem Ov.get {l:List Nu} {M:Int} (h:Ov l M) (i:Nat):(qij l i).2∣M:=by
  unfold qij
  rw [List.getD_eq_getElem?_getD]
  cases e:l[i]? with
  | none=>exact Int.one_dvd M
  | some q=>exact h.2 q (List.mem_of_getElem? e)
theorem lcm_dvd {B d M:Int} (hB:0<B) (hd:0<d) (h1:B∣M) (h2:d∣M):B*(d / ((Int.gcd B d:Nat):Int))∣M:=by
  have z:((Nat.lcm B.natAbs d.natAbs:Nat):Int)∣M:=Int.natAbs_dvd_natAbs.mp (by rw [Int.natAbs_natCast];exact Nat.lcm_dvd (Int.natAbs_dvd_natAbs.mpr h1) (Int.natAbs_dvd_natAbs.mpr h2))
  have e:((Nat.lcm B.natAbs d.natAbs:Nat):Int)=B*(d / ((Int.gcd B d:Nat):Int)):=by
    unfold Nat.lcm
    rw [Nat.mul_div_assoc _ (Nat.gcd_dvd_right _ _)]
    push_cast
    rw [show ((B.natAbs:Nat):Int)=B by omega,show ((d.natAbs:Nat):Int)=d by omega]
    rfl
  rw [← e]
  exact z
theorem qiU {M:Int}:∀ (l:List Nu) (B:Int),(∀ q∈l,0<q.2∧q.2∣M)→0<B→B∣M→0<l.foldl (fun B q=>B*(q.2 / ((Int.gcd B q.2:Nat):Int))) B∧l.foldl (fun B q=>B*(q.2 / ((Int.gcd B q.2:Nat):Int))) B∣M
  | [],B,_,hB,h=>⟨hB,h⟩
  | q::l,B,hq,hB,h=>by
    obtain ⟨q0,qd⟩:=hq q (List.mem_cons_self ..)
    obtain ⟨s1,_⟩:=qiT hB q0
    exact qiU l _ (fun r hr=>hq r (List.mem_cons_of_mem _ hr)) s1 (lcm_dvd hB q0 h qd)
theorem qly {n:Nat} {a b:Int} (hb:b≠0) (h:a∣b) (bd:Bd n b):Bd n a:=bd.le (Nat.le_of_dvd (by omega) (Int.natAbs_dvd_natAbs.mpr h))
theorem qha {l:List Nu} (hl:qcF l):Ov l (qkE l):=by
  obtain ⟨a,b,_⟩:=qqJ (b:=(l.foldl (fun n q=>n+q.1.natAbs+q.2.natAbs) 1)) hl (fun q hq=>by
    have big:∀ (l:List Nu) (n:Nat),n≤l.foldl (fun n q=>n+q.1.natAbs+q.2.natAbs) n∧∀ q∈l,q.1.natAbs+q.2.natAbs≤l.foldl (fun n q=>n+q.1.natAbs+q.2.natAbs) n:=by
      intro l
      induction l with
      | nil=>intro n;exact ⟨Nat.le_refl _,fun _ h=>nomatch h⟩
      | cons r l ih=>
        intro n
        obtain ⟨i1,i2⟩:=ih (n+r.1.natAbs+r.2.natAbs)
        rw [List.foldl_cons]
        refine ⟨by omega,fun q hq=>?_⟩
        rcases List.mem_cons.mp hq with rfl | hq
        · omega
        · exact i2 q hq
    have z:=(big l 1).2 q hq
    exact ⟨Nat.lt_of_le_of_lt (by omega) (Nat.lt_two_pow_self),Nat.lt_of_le_of_lt (by omega) (Nat.lt_two_pow_self)⟩)
  exact ⟨a,b⟩
theorem qlz {l:List Nu} {M:Int} (hl:qcF l) (h:Ov l M):qkE l∣M:=(qiU l 1 (fun q hq=>⟨(hl q hq).pos,h.2 q hq⟩) (by decide) (Int.one_dvd M)).2
theorem qqN (l:List Nu):qf7 l=ovN l (qkE l):=rfl
end Bs
namespace Bs
section
variable {α:Type} [Lean.Grind.CommRing α]
noncomputable def cvL:List α→(Nat→α)→Nat→α
  | [],_,_=>0
  | x::a,b,k=>x*b k+(match k with | 0=>0 | k+1=>cvL a b k)
theorem qaB (b:Nat→α) (k:Nat):cvL [] b k=0:=rfl
theorem qam (x:α) (a:List α) (b:Nat→α):cvL (x::a) b 0=x*b 0+0:=rfl
theorem qal (x:α) (a:List α) (b:Nat→α) (k:Nat):cvL (x::a) b (k+1)=x*b (k+1)+cvL a b k:=rfl
theorem qan {b c:Nat→α} (h:∀ k,b k=c k):∀ (a:List α) (k:Nat),cvL a b k=cvL a c k
  | [],_=>rfl
  | x::a,0=>by rw [qam,qam,h 0]
  | x::a,k+1=>by rw [qal,qal,h (k+1),qan h a k]
theorem qdR (b c:Nat→α):∀ (a:List α) (k:Nat),cvL a (fun k=>b k+c k) k=cvL a b k+cvL a c k
  | [],_=>by rw [qaB,qaB,qaB];grind
  | x::a,0=>by rw [qam,qam,qam];grind
  | x::a,k+1=>by rw [qal,qal,qal,qdR b c a k];grind
theorem qbf (s:α) (b:Nat→α):∀ (a:List α) (k:Nat),cvL a (fun k=>s*b k) k=s*cvL a b k
  | [],_=>by rw [qaB,qaB];grind
  | x::a,0=>by rw [qam,qam];grind
  | x::a,k+1=>by rw [qal,qal,qbf s b a k];grind
noncomputable def up1 (b:Nat→α):Nat→α
  | 0=>0
  | k+1=>b k
theorem qnL (b:Nat→α):∀ (a:List α) (k:Nat),cvL a (up1 b) k=up1 (cvL a b) k
  | [],0=>rfl
  | [],k+1=>rfl
  | x::a,0=>by rw [qam];show x*0+0=0;grind
  | x::a,1=>by
    rw [qal]
    have h:=qnL b a 0
    rw [h]
    show x*b 0+0=cvL (x::a) b 0
    rw [qam]
  | x::a,k+2=>by
    rw [qal,qnL b a (k+1)]
    show x*b (k+1)+cvL a b k=cvL (x::a) b (k+1)
    rw [qal]
theorem qcQ (x:α) (a:List α) (b:Nat→α) (k:Nat):cvL (x::a) b k=x*b k+up1 (cvL a b) k:=by
  cases k with
  | zero=>exact qam x a b
  | succ k=>exact qal x a b k
theorem qed (c:Nat→α):∀ (a b:List α) (k:Nat),cvL a (cvL b c) k=cvL b (cvL a c) k
  | [],b,k=>by
    rw [qaB]
    have e:cvL b (cvL [] c) k=cvL b (fun k=>0*c k) k:=qan (fun k=>by rw [qaB];grind) b k
    rw [e,qbf]
    grind
  | x::a,b,k=>by
    rw [qcQ]
    have e:cvL b (cvL (x::a) c) k=cvL b (fun k=>x*c k+up1 (cvL a c) k) k:=qan (fun k=>qcQ x a c k) b k
    rw [e,qdR,qbf,qnL]
    have e2:up1 (cvL a (cvL b c)) k=up1 (cvL b (cvL a c)) k:=by
      cases k with
      | zero=>rfl
      | succ k=>exact qed c a b k
    rw [e2]
noncomputable def qbZ:Nat→α
  | 0=>1
  | _+1=>0
theorem qco:∀ (a:List α) (k:Nat),cvL a qbZ k=a.getD k 0
  | [],k=>by rw [qaB];simp
  | x::a,0=>by rw [qam];show x*1+0=x;grind
  | x::a,k+1=>by
    rw [qal,qco a k]
    show x*0+a.getD k 0=(x::a).getD (k+1) 0
    rw [List.getD_cons_succ]
    grind
end
end Bs
namespace Bs
theorem qkG {n k:Nat}:k∣2 ^ n↔∃ a,a≤n∧k=2 ^ a:=by
  constructor
  · induction n generalizing k with
    | zero=>intro h;exact ⟨0,Nat.le_refl 0,by simpa using h⟩
    | succ n ih=>
      intro h
      by_cases h2:2∣k
      · obtain ⟨j,rfl⟩:=h2
        rw [Nat.pow_succ,Nat.mul_comm (2 ^ n) 2] at h
        obtain ⟨a,ha,e⟩:=ih (Nat.dvd_of_mul_dvd_mul_left (by decide) h)
        exact ⟨a+1,by omega,by rw [e,Nat.pow_succ,Nat.mul_comm]⟩
      · have c:Nat.Coprime k 2:=by
          have:Nat.gcd k 2∣2:=Nat.gcd_dvd_right k 2
          have h3:=Nat.le_of_dvd (by decide) this
          have h4:Nat.gcd k 2≠2:=fun z=>h2 (by rw [← z];exact Nat.gcd_dvd_left k 2)
          have h5:Nat.gcd k 2≠0:=fun z=>by have:=Nat.eq_zero_of_gcd_eq_zero_right z;omega
          show Nat.gcd k 2=1
          omega
        rw [Nat.pow_succ] at h
        obtain ⟨a,ha,e⟩:=ih (c.dvd_of_dvd_mul_right h)
        exact ⟨a,by omega,e⟩
  · rintro ⟨a,ha,rfl⟩
    exact Nat.pow_dvd_pow 2 ha
structure Pr (p:Nat):Prop where
  two:2≤p
  div:∀ d,d∣p→d=1∨d=p
theorem Pr.cop {p:Nat} (h:Pr p) {a:Nat} (ha:¬ p∣a):Nat.gcd a p=1:=by
  rcases h.div _ (Nat.gcd_dvd_right a p) with e | e
  · exact e
  · exact absurd (e ▸ Nat.gcd_dvd_left a p) ha
theorem Pr.mul {p:Nat} (h:Pr p) {a b:Nat} (hd:p∣a*b):p∣a∨p∣b:=by
  by_cases ha:p∣a
  · exact .inl ha
  · refine .inr (Nat.Coprime.dvd_of_dvd_mul_left (k:=p) (m:=a) ?_ hd)
    have:=h.cop ha
    rw [Nat.gcd_comm] at this
    exact this
theorem Pr.mulI {p:Nat} (h:Pr p) {a b:Int} (hd:(p:Int)∣a*b):(p:Int)∣a∨(p:Int)∣b:=by
  have z:=Int.natAbs_dvd_natAbs.mpr hd
  rw [Int.natAbs_mul,Int.natAbs_natCast] at z
  rcases h.mul z with e | e
  · exact .inl (Int.natAbs_dvd_natAbs.mp (by rw [Int.natAbs_natCast];exact e))
  · exact .inr (Int.natAbs_dvd_natAbs.mp (by rw [Int.natAbs_natCast];exact e))
theorem qjQ {m:Nat} (hm:2≤m):∃ q,Pr q∧q∣m∧(q=m∨q*q≤m):=by
  have key:∀ n d,2≤d→(∀ e,2≤e→e<d→¬ e∣m)→m=d+n→∃ q,2≤q∧q∣m∧∀ e,2≤e→e<q→¬ e∣m:=by
    intro n
    induction n with
    | zero=>intro d hd h e;exact ⟨d,hd,by rw [e];exact Nat.dvd_refl _,h⟩
    | succ n ih=>
      intro d hd h e
      by_cases hdm:d∣m
      · exact ⟨d,hd,hdm,h⟩
      · refine ih (d+1) (by omega) (fun x hx hx2=>?_) (by omega)
        by_cases hxd:x=d
        · rw [hxd];exact hdm
        · exact h x hx (by omega)
  obtain ⟨q,q2,qm,ql⟩:=key (m - 2) 2 (Nat.le_refl 2) (fun e h1 h2=>absurd h2 (by omega)) (by omega)
  refine ⟨q,⟨q2,fun d hd=>?_⟩,qm,?_⟩
  · by_cases h2:2≤d
    · right
      rcases Nat.lt_or_ge d q with h | h
      · exact absurd (Nat.dvd_trans hd qm) (ql d h2 h)
      · exact Nat.le_antisymm (Nat.le_of_dvd (by omega) hd) h
    · left
      have:d≠0:=fun z=>by rw [z] at hd;have:=Nat.eq_zero_of_zero_dvd hd;omega
      omega
  · obtain ⟨k,hk⟩:=qm
    by_cases k1:k≤1
    · left
      have:k=1:=by
        rcases Nat.eq_zero_or_pos k with z | z
        · rw [z] at hk;omega
        · omega
      rw [hk,this,Nat.mul_one]
    · right
      rcases Nat.lt_or_ge k q with h | h
      · exact absurd ⟨q,by rw [hk,Nat.mul_comm]⟩ (ql k (by omega) h)
      · rw [hk];exact Nat.mul_le_mul_left q h
theorem pigeon:∀ (n m:Nat) (f:Nat→Nat),(∀ i,i<m→f i<n)→(∀ i j,i<m→j<m→f i=f j→i=j)→m≤n
  | 0,m,f,h,_=>by
    rcases Nat.eq_zero_or_pos m with z | z
    · omega
    · exact absurd (h 0 z) (by omega)
  | n+1,0,_,_,_=>by omega
  | n+1,m+1,f,h,inj=>by
    have:=pigeon n m (fun i=>if f i=n then f m else f i) (fun i hi=>by
      show (if f i=n then f m else f i)<n
      by_cases e:f i=n
      · rw [if_pos e]
        have h1:=h m (Nat.lt_succ_self m)
        have:f m≠n:=fun z=>absurd (inj i m (by omega) (by omega) (by rw [e,z])) (by omega)
        omega
      · rw [if_neg e]
        have h1:=h i (by omega)
        omega) (fun i j hi hj e=>by
      have e:(if f i=n then f m else f i)=(if f j=n then f m else f j):=e
      by_cases ei:f i=n
      · rw [if_pos ei] at e
        by_cases ej:f j=n
        · exact inj i j (by omega) (by omega) (by rw [ei,ej])
        · rw [if_neg ej] at e
          exact absurd (inj m j (by omega) (by omega) e) (by omega)
      · rw [if_neg ei] at e
        by_cases ej:f j=n
        · rw [if_pos ej] at e
          exact absurd (inj i m (by omega) (by omega) e) (by omega)
        · rw [if_neg ej] at e
          exact inj i j (by omega) (by omega) e)
    omega
noncomputable abbrev Rt:=Int×Int
noncomputable def rmul (q:Int) (x y:Rt):Rt:=((x.1*y.1+3*(x.2*y.2)) % q,(x.1*y.2+x.2*y.1) % q)
noncomputable def rpow (q:Int):Nat→Rt
  | 0=>(1 % q,0 % q)
  | n+1=>rmul q (2,1) (rpow q n)
theorem qbN {q a b c:Int} (h:a - b=q*c):a % q=b % q:=by
  have:a=b+q*c:=by omega
  rw [this,Int.add_mul_emod_self_left]
theorem em {a q:Int}:∃ c,a % q=a - q*c:=⟨a / q,by have:=Int.emod_add_mul_ediv a q;omega⟩
theorem qcz (q:Int) (x y z:Rt):rmul q (rmul q x y) z=rmul q x (rmul q y z):=by
  obtain ⟨a,b⟩:=x
  obtain ⟨c,d⟩:=y
  obtain ⟨e,f⟩:=z
  obtain ⟨c1,h1⟩:=em (a:=a*c+3*(b*d)) (q:=q)
  obtain ⟨c2,h2⟩:=em (a:=a*d+b*c) (q:=q)
  obtain ⟨c3,h3⟩:=em (a:=c*e+3*(d*f)) (q:=q)
  obtain ⟨c4,h4⟩:=em (a:=c*f+d*e) (q:=q)
  refine Prod.ext ?_ ?_
  · show ((a*c+3*(b*d)) % q*e+3*((a*d+b*c) % q*f)) % q=(a*((c*e+3*(d*f)) % q)+3*(b*((c*f+d*e) % q))) % q
    rw [h1,h2,h3,h4]
    exact qbN (c:=a*c3+3*b*c4 - c1*e - 3*c2*f) (by grind)
  · show ((a*c+3*(b*d)) % q*f+((a*d+b*c) % q*e)) % q=(a*((c*f+d*e) % q)+(b*((c*e+3*(d*f)) % q))) % q
    rw [h1,h2,h3,h4]
    exact qbN (c:=a*c4+b*c3 - c1*f - c2*e) (by grind)
theorem qnM (q:Int) (x y:Rt):rmul q x y=rmul q y x:=by
  refine Prod.ext ?_ ?_
  · show (x.1*y.1+3*(x.2*y.2)) % q=(y.1*x.1+3*(y.2*x.2)) % q
    congr 1;grind
  · show (x.1*y.2+x.2*y.1) % q=(y.1*x.2+y.2*x.1) % q
    congr 1;grind
noncomputable def rn (q:Int) (x:Rt):Prop:=x.1 % q=x.1∧x.2 % q=x.2
theorem qqO (q:Int) (x y:Rt):rn q (rmul q x y):=⟨Int.emod_emod ..,Int.emod_emod ..⟩
theorem qeA (q:Int):∀ n,rn q (rpow q n)
  | 0=>⟨Int.emod_emod ..,Int.emod_emod ..⟩
  | _+1=>qqO q _ _
theorem rone (q:Int) {x:Rt} (h:rn q x):rmul q (rpow q 0) x=x:=by
  obtain ⟨c1,h1⟩:=em (a:=1) (q:=q)
  obtain ⟨c2,h2⟩:=em (a:=0) (q:=q)
  refine Prod.ext ?_ ?_
  · show (1 % q*x.1+3*(0 % q*x.2)) % q=x.1
    rw [h1,h2,← h.1]
    rw [qbN (b:=x.1 % q) (c:=- c1*(x.1 % q) - 3*c2*x.2) (by grind),Int.emod_emod]
  · show (1 % q*x.2+0 % q*x.1) % q=x.2
    rw [h1,h2,← h.2]
    rw [qbN (b:=x.2 % q) (c:=- c1*(x.2 % q) - c2*x.1) (by grind),Int.emod_emod]
theorem qdo (q:Int):∀ m n,rpow q (m+n)=rmul q (rpow q m) (rpow q n)
  | 0,n=>by rw [Nat.zero_add,rone q (qeA q n)]
  | m+1,n=>by
    rw [Nat.succ_add]
    show rmul q (2,1) (rpow q (m+n))=rmul q (rmul q (2,1) (rpow q m)) (rpow q n)
    rw [qdo q m n,qcz]
noncomputable def rinv (q:Int):Nat→Rt
  | 0=>(1 % q,0 % q)
  | n+1=>rmul q (2,-1) (rinv q n)
theorem r21 (q:Int):rmul q (2,-1) (2,1)=rpow q 0:=by
  refine Prod.ext ?_ ?_
  · show (2*2+3*(-1*1)) % q=1 % q;rfl
  · show (2*1 + -1*2) % q=0 % q;rfl
theorem qlA (q:Int):∀ n,rmul q (rinv q n) (rpow q n)=rpow q 0
  | 0=>rone q (qeA q 0)
  | n+1=>by
    show rmul q (rmul q (2,-1) (rinv q n)) (rmul q (2,1) (rpow q n))=_
    rw [qcz,← qcz q (rinv q n),qnM q (rinv q n) (2,1),qcz q (2,1),qlA q n,← qcz,r21,rone q (qeA q 0)]
theorem qiV (q:Int) {m:Nat} (h:rpow q m=rpow q 0):∀ k,rpow q (m*k)=rpow q 0
  | 0=>rfl
  | k+1=>by rw [Nat.mul_succ,qdo,qiV q h k,h,rone q (qeA q 0)]
theorem rord (q:Int) {n:Nat} (h1:rpow q (2 ^ (n+1))=rpow q 0) (h2:rpow q (2 ^ n)≠rpow q 0):∀ d,0<d→d<2 ^ (n+1)→rpow q d≠rpow q 0:=by
  intro d
  induction d using Nat.strongRecOn with
  | _ d ih=>
  intro d0 hd e
  have hr:=Nat.mod_lt (2 ^ (n+1)) d0
  have er:rpow q (2 ^ (n+1) % d)=rpow q 0:=by
    have e1:=Nat.div_add_mod (2 ^ (n+1)) d
    rw [← e1,qdo,qiV q e,rone q (qeA q _)] at h1
    exact h1
  rcases Nat.eq_zero_or_pos (2 ^ (n+1) % d) with z | z
  · obtain ⟨k,hk⟩:=Nat.dvd_of_mod_eq_zero z
    obtain ⟨a,ha,hka⟩:=(qkG (n:=n+1) (k:=d)).mp ⟨k,hk⟩
    have hlt:a≤n:=by
      rcases Nat.lt_or_ge n a with h | h
      · exfalso
        have:a=n+1:=by omega
        rw [this] at hka
        omega
      · exact h
    apply h2
    have e2:2 ^ n=d*2 ^ (n - a):=by rw [hka,← Nat.pow_add];congr 1;omega
    rw [e2]
    exact qiV q e _
  · exact ih _ hr z (by omega) er
theorem rnorm (q:Int):∀ n,∃ c,(rpow q n).1*(rpow q n).1 - 3*((rpow q n).2*(rpow q n).2) - 1=q*c
  | 0=>by
    obtain ⟨c1,h1⟩:=em (a:=1) (q:=q)
    obtain ⟨c2,h2⟩:=em (a:=0) (q:=q)
    refine ⟨-2*c1+q*c1*c1 - 3*q*c2*c2,?_⟩
    show (1 % q)*(1 % q) - 3*((0 % q)*(0 % q)) - 1=_
    rw [h1,h2];grind
  | n+1=>by
    obtain ⟨c,hc⟩:=rnorm q n
    obtain ⟨c1,h1⟩:=em (a:=2*(rpow q n).1+3*(1*(rpow q n).2)) (q:=q)
    obtain ⟨c2,h2⟩:=em (a:=2*(rpow q n).2+1*(rpow q n).1) (q:=q)
    have e1:(rpow q (n+1)).1=2*(rpow q n).1+3*(1*(rpow q n).2) - q*c1:=h1
    have e2:(rpow q (n+1)).2=2*(rpow q n).2+1*(rpow q n).1 - q*c2:=h2
    rw [e1,e2]
    generalize (rpow q n).1=a at *
    generalize (rpow q n).2=b at *
    exact ⟨c - 2*c1*(2*a+3*b)+q*c1*c1+6*c2*(2*b+a) - 3*q*c2*c2,by grind⟩
theorem qqP (q:Int) (n:Nat):∃ c,2*(rpow q (n+n)).1=(2*(rpow q n).1)*(2*(rpow q n).1) - 2+q*c:=by
  obtain ⟨c,hc⟩:=rnorm q n
  rw [qdo]
  obtain ⟨c1,h1⟩:=em (a:=(rpow q n).1*(rpow q n).1+3*((rpow q n).2*(rpow q n).2)) (q:=q)
  refine ⟨-2*c1 - 2*c,?_⟩
  show 2*(((rpow q n).1*(rpow q n).1+3*((rpow q n).2*(rpow q n).2)) % q)=_
  rw [h1];grind
noncomputable def ll (M:Nat):Nat→Nat→Nat
  | 0,s=>s
  | k+1,s=>ll M k ((s*s+(M - 2)) % M)
theorem qnN {q:Int} {M:Nat} (hM:2≤M) (hq:q∣(M:Int)):∀ (k t s:Nat),q∣2*(rpow q (2 ^ t)).1 - (s:Int)→q∣2*(rpow q (2 ^ (t+k))).1 - (ll M k s:Int)
  | 0,t,s,h=>h
  | k+1,t,s,h=>by
    have:=qnN hM hq k (t+1) ((s*s+(M - 2)) % M) (by
      obtain ⟨c,hc⟩:=qqP q (2 ^ t)
      obtain ⟨d,hd⟩:=h
      obtain ⟨m,hm⟩:=hq
      have e:(2:Nat) ^ (t+1)=2 ^ t+2 ^ t:=by rw [Nat.pow_succ];omega
      rw [e,hc]
      have z:(((s*s+(M - 2)) % M:Nat):Int)=(s:Int)*s+(M - 2) - M*(((s*s+(M - 2)) / M:Nat):Int):=by
        have:=Nat.mod_add_div (s*s+(M - 2)) M
        have z2:(((s*s+(M - 2)) % M:Nat):Int)+(M:Int)*(((s*s+(M - 2)) / M:Nat):Int)=(s:Int)*s+(M - 2):=by
          have:=congrArg (fun x:Nat=>(x:Int)) this
          simp only [Int.natCast_add,Int.natCast_mul] at this
          rw [this,Int.natCast_sub hM]
          rfl
        omega
      rw [z]
      generalize (((s*s+(M - 2)) / M:Nat):Int)=w
      generalize (rpow q (2 ^ t)).1=a at hd
      have hd':2*a=s+q*d:=by omega
      rw [hd',hm]
      exact ⟨2*s*d+q*d*d+c - m+m*w,by grind⟩)
    rw [show t+(k+1)=t+1+k by omega]
    exact this
theorem qpf {n:Nat} (h:ll (2 ^ (n+2) - 1) n 4 % (2 ^ (n+2) - 1)=0):Pr (2 ^ (n+2) - 1):=by
  have big:4≤2 ^ (n+2):=by rw [Nat.pow_add];have:=Nat.one_le_two_pow (n:=n);omega
  generalize hM:2 ^ (n+2) - 1=M at h ⊢
  obtain ⟨q,pq,qM,hq⟩:=qjQ (m:=M) (by omega)
  rcases hq with e | hq
  · rw [← e];exact pq
  exfalso
  have qI:(q:Int)∣(M:Int):=Int.natCast_dvd_natCast.mpr qM
  have q2:=pq.two
  have odd:q≠2:=fun z=>by
    rw [z] at qM
    have:2 ^ (n+2)=2*2 ^ (n+1):=by rw [Nat.pow_succ 2 (n+1)];omega
    omega
  have s0:(q:Int)∣2*(rpow q (2 ^ (0+n))).1 - (ll M n 4:Int):=qnN (by omega) qI n 0 4 (by
    show (q:Int)∣2*(rmul q (2,1) (rpow q 0)).1 - 4
    obtain ⟨c1,h1⟩:=em (a:=1) (q:=(q:Int))
    obtain ⟨c2,h2⟩:=em (a:=0) (q:=(q:Int))
    show (q:Int)∣2*((2*(1 % (q:Int))+3*(1*(0 % (q:Int)))) % (q:Int)) - 4
    obtain ⟨c3,h3⟩:=em (a:=2*(1 % (q:Int))+3*(1*(0 % (q:Int)))) (q:=(q:Int))
    rw [h3,h1,h2]
    exact ⟨-4*c1 - 6*c2 - 2*c3,by grind⟩)
  have s1:(q:Int)∣(ll M n 4:Int):=Int.natCast_dvd_natCast.mpr (Nat.dvd_trans qM (Nat.dvd_of_mod_eq_zero h))
  have s2:(q:Int)∣2*(rpow q (2 ^ n)).1:=by
    have:=Int.dvd_add s0 s1
    rw [Nat.zero_add] at this
    rw [Int.sub_add_cancel] at this
    exact this
  have s3:(q:Int)∣(rpow q (2 ^ n)).1:=by
    rcases pq.mulI s2 with z | z
    · exfalso
      have z2:=Int.natCast_dvd_natCast.mp (show (q:Int)∣((2:Nat):Int) from z)
      have:=Nat.le_of_dvd (by decide) z2
      omega
    · exact z
  have qne:(q:Int)≠0:=by omega
  have m1:rpow q (2 ^ (n+1))=((-1) % (q:Int),0 % (q:Int)):=by
    have e:(2:Nat) ^ (n+1)=2 ^ n+2 ^ n:=by rw [Nat.pow_succ];omega
    rw [e,qdo]
    obtain ⟨c,hc⟩:=rnorm q (2 ^ n)
    obtain ⟨d,hd⟩:=s3
    refine Prod.ext ?_ ?_
    · show ((rpow q (2 ^ n)).1*(rpow q (2 ^ n)).1+3*((rpow q (2 ^ n)).2*(rpow q (2 ^ n)).2)) % (q:Int)=(-1) % (q:Int)
      refine qbN (c:=2*q*d*d - c) ?_
      generalize (rpow q (2 ^ n)).2=b at *
      rw [hd] at hc ⊢
      grind
    · show ((rpow q (2 ^ n)).1*(rpow q (2 ^ n)).2+(rpow q (2 ^ n)).2*(rpow q (2 ^ n)).1) % (q:Int)=0 % (q:Int)
      refine qbN (c:=2*d*(rpow q (2 ^ n)).2) ?_
      rw [hd];grind
  have h2:rpow q (2 ^ (n+1))≠rpow q 0:=fun z=>by
    rw [m1] at z
    have z1:(-1) % (q:Int)=1 % (q:Int):=congrArg Prod.fst z
    have z2:(q:Int)∣-1 - 1:=Int.dvd_of_emod_eq_zero ((Int.emod_eq_emod_iff_emod_sub_eq_zero).mp z1)
    have z3:=Int.natAbs_dvd_natAbs.mpr z2
    have:=Nat.le_of_dvd (by decide) z3
    rw [Int.natAbs_natCast] at this
    have:(-1 - 1:Int).natAbs=2:=by decide
    omega
  have h1:rpow q (2 ^ (n+1+1))=rpow q 0:=by
    have e:(2:Nat) ^ (n+1+1)=2 ^ (n+1)+2 ^ (n+1):=by rw [Nat.pow_succ 2 (n+1)];omega
    rw [e,qdo,m1]
    obtain ⟨c1,e1⟩:=em (a:=-1) (q:=(q:Int))
    obtain ⟨c2,e2⟩:=em (a:=0) (q:=(q:Int))
    refine Prod.ext ?_ ?_
    · show ((-1) % (q:Int)*((-1) % (q:Int))+3*(0 % (q:Int)*(0 % (q:Int)))) % (q:Int)=1 % (q:Int)
      refine qbN (c:=2*c1+q*c1*c1+3*q*c2*c2) ?_
      rw [e1,e2];grind
    · show ((-1) % (q:Int)*(0 % (q:Int))+0 % (q:Int)*((-1) % (q:Int))) % (q:Int)=0 % (q:Int)
      refine qbN (c:=2*c2+2*q*c1*c2) ?_
      rw [e1,e2];grind
  have ord:=rord (q:Int) h1 h2
  have ne:∀ i d,0<d→i+d<2 ^ (n+2)→rpow q i≠rpow q (i+d):=fun i d d0 hd z=>by
    have e:rpow q d=rpow q 0:=by
      have a:=qlA (q:Int) i
      have b:rmul q (rinv q i) (rpow q (i+d))=rpow q d:=by
        rw [qdo,← qcz,a,rone _ (qeA _ _)]
      rw [← b,← z,a]
    exact ord d d0 (by have:(2:Nat) ^ (n+1+1)=2 ^ (n+2):=rfl;omega) e
  have lt:∀ i,0≤(rpow q i).1∧(rpow q i).1<q∧0≤(rpow q i).2∧(rpow q i).2<q:=fun i=>by
    obtain ⟨a,b⟩:=qeA (q:Int) i
    have p0:(0:Int)<q:=by omega
    have u1:=Int.emod_nonneg (rpow q i).1 qne
    have u2:=Int.emod_lt_of_pos (rpow q i).1 p0
    have u3:=Int.emod_nonneg (rpow q i).2 qne
    have u4:=Int.emod_lt_of_pos (rpow q i).2 p0
    rw [a] at u1 u2
    rw [b] at u3 u4
    exact ⟨u1,u2,u3,u4⟩
  have pg:=pigeon (q*q) (2 ^ (n+2)) (fun i=>(rpow q i).1.toNat*q+(rpow q i).2.toNat) (fun i _=>by
    obtain ⟨a,b,c,d⟩:=lt i
    have a':(rpow q i).1.toNat+1≤q:=by omega
    have d':(rpow q i).2.toNat<q:=by omega
    have:=Nat.mul_le_mul_right q a'
    rw [Nat.add_mul,Nat.one_mul] at this
    show (rpow q i).1.toNat*q+(rpow q i).2.toNat<q*q
    omega) (fun i j hi hj e=>by
    have e:(rpow q i).1.toNat*q+(rpow q i).2.toNat=(rpow q j).1.toNat*q+(rpow q j).2.toNat:=e
    obtain ⟨a,b,c,d⟩:=lt i
    obtain ⟨a',b',c',d'⟩:=lt j
    have m1:=congrArg (· % q) e
    have m2:=congrArg (· / q) e
    simp only [Nat.mul_comm _ q,Nat.mul_add_mod,Nat.mul_add_div (show 0<q by omega)] at m1 m2
    rw [Nat.mod_eq_of_lt (by omega),Nat.mod_eq_of_lt (by omega)] at m1
    rw [Nat.div_eq_of_lt (by omega),Nat.div_eq_of_lt (by omega)] at m2
    have ee:rpow q i=rpow q j:=Prod.ext (by omega) (by omega)
    rcases Nat.lt_trichotomy i j with h | h | h
    · exact absurd ee (by have:=ne i (j - i) (by omega) (by omega);rw [show i+(j - i)=j by omega] at this;exact this)
    · exact h
    · exact absurd ee.symm (by have:=ne j (i - j) (by omega) (by omega);rw [show j+(i - j)=i by omega] at this;exact this))
  omega
end Bs
namespace Bs
noncomputable def llk (M k s:Nat):Nat:=Nat.rec (motive:=fun _=>Nat→Nat) (fun s=>s) (fun _ ih s=>ih ((s*s+(M - 2)) % M)) k s
noncomputable def llf (x:Nat) (f:Nat→Nat):Nat:=Nat.rec (motive:=fun _=>Nat) (f 0) (fun n _=>f (n+1)) x
noncomputable def llo (M k j s:Nat):Nat:=Nat.rec (motive:=fun _=>Nat→Nat) (fun s=>s) (fun _ ih s=>llf (llk M k s) ih) j s
theorem qnO (M:Nat):∀ k s,llk M k s=ll M k s
  | 0,_=>rfl
  | k+1,s=>qnO M k _
theorem qp1 (x:Nat) (f:Nat→Nat):llf x f=f x:=by cases x <;> rfl
theorem qnP (M:Nat):∀ a b s,ll M (a+b) s=ll M b (ll M a s)
  | 0,b,s=>by rw [Nat.zero_add];rfl
  | a+1,b,s=>by rw [Nat.succ_add];exact qnP M a b _
theorem qp2 (M k:Nat):∀ j s,llo M k j s=ll M (k*j) s
  | 0,_=>rfl
  | j+1,s=>by
    show llf (llk M k s) (llo M k j)=_
    rw [qp1,qnO,qp2 M k j,← qnP]
    congr 1
    rw [Nat.mul_succ,Nat.add_comm]
noncomputable def mers (e:Nat):Nat:=2 ^ e - 1
theorem qcR {n r k j:Nat} (e:n=k*j+r) (h:Nat.beq (llf (llo (mers (n+2)) k j 4) (fun s=>llk (mers (n+2)) r s % mers (n+2))) 0=true):Pr (mers (n+2)):=by
  refine qpf ?_
  replace h:=Nat.eq_of_beq_eq_true h
  rw [qp1,qp2,qnO,← qnP,← e] at h
  exact h
theorem qt2:Pr (mers 61):=qcR (n:=59) (r:=9) (k:=10) (j:=5) rfl (by decide +kernel)
theorem qsY:Pr (mers 127):=qcR (n:=125) (r:=5) (k:=20) (j:=6) rfl (by decide +kernel)
theorem qsZ:Pr (mers 521):=qcR (n:=519) (r:=19) (k:=50) (j:=10) rfl (by decide +kernel)
theorem qr3:Pr (mers 1279):=qcR (n:=1277) (r:=77) (k:=100) (j:=12) rfl (by decide +kernel)
theorem qr4:Pr (mers 4423):=qcR (n:=4421) (r:=21) (k:=100) (j:=44) rfl (by decide +kernel)
theorem qr5:Pr (mers 9941):=qcR (n:=9939) (r:=39) (k:=100) (j:=99) rfl (by decide +kernel)
theorem qqQ:Pr (mers 21701):=qcR (n:=21699) (r:=99) (k:=150) (j:=144) rfl (by decide +kernel)
theorem qqR:Pr (mers 44497):=qcR (n:=44495) (r:=95) (k:=200) (j:=222) rfl (by decide +kernel)
end Bs
namespace Bs
noncomputable def co (ns:List Int) (k:Nat):Int:=ns.getD k 0
section
variable {α:Type} [Lean.Grind.CommRing α]
noncomputable def qaI:List α→List α→List α
  | [],b=>b
  | a,[]=>a
  | x::a,y::b=>(x+y)::qaI a b
theorem qdd (a:List α):qaI a []=a:=by cases a <;> rfl
theorem qav (g:Nat→α):∀ (a b:List α) (k:Nat),cvL (qaI a b) g k=cvL a g k+cvL b g k
  | [],b,k=>by show cvL b g k=0+cvL b g k;grind
  | x::a,[],k=>by rw [qdd,qaB];grind
  | x::a,y::b,0=>by show cvL ((x+y)::qaI a b) g 0=_;rw [qam,qam,qam];grind
  | x::a,y::b,k+1=>by show cvL ((x+y)::qaI a b) g (k+1)=_;rw [qal,qal,qal,qav g a b k];grind
theorem qaq (c:α) (g:Nat→α):∀ (a:List α) (k:Nat),cvL (a.map (c*·)) g k=c*cvL a g k
  | [],k=>by show (0:α)=c*0;grind
  | x::a,0=>by rw [List.map_cons,qam,qam];grind
  | x::a,k+1=>by rw [List.map_cons,qal,qal,qaq c g a k];grind
noncomputable def upS (s:Nat) (f:Nat→α) (k:Nat):α:=if s≤k then f (k - s) else 0
theorem qcG (g:Nat→α):∀ (s:Nat) (a:List α) (k:Nat),cvL (List.replicate s 0++a) g k=upS s (cvL a g) k
  | 0,a,k=>by unfold upS;rw [if_pos (Nat.zero_le k)];rfl
  | s+1,a,0=>by unfold upS;rw [if_neg (by omega)];show cvL (0::(List.replicate s 0++a)) g 0=0;rw [qam];grind
  | s+1,a,k+1=>by
    show cvL (0::(List.replicate s 0++a)) g (k+1)=_
    rw [qal,qcG g s a k]
    unfold upS
    by_cases h:s≤k
    · rw [if_pos h,if_pos (by omega),show k+1 - (s+1)=k - s by omega];grind
    · rw [if_neg h,if_neg (by omega)];grind
noncomputable def qaF:List α→List α→List α
  | [],_=>[]
  | x::a,b=>qaI (b.map (x*·)) (0::qaF a b)
theorem qar (g:Nat→α):∀ (a b:List α) (k:Nat),cvL (qaF a b) g k=cvL a (cvL b g) k
  | [],b,k=>rfl
  | x::a,b,k=>by
    show cvL (qaI (b.map (x*·)) (0::qaF a b)) g k=_
    rw [qav,qaq,qcQ,qcQ]
    have e:up1 (cvL (qaF a b) g) k=up1 (cvL a (cvL b g)) k:=by
      cases k with
      | zero=>rfl
      | succ k=>exact qar g a b k
    rw [e]
    grind
theorem qbi (g:Nat→α) (s:α):∀ (a:List α) (k:Nat),cvL (a++[s]) g k=cvL a g k+s*upS a.length g k
  | [],0=>by show cvL [s] g 0=0+s*g 0;rw [qam];grind
  | [],k+1=>by show cvL [s] g (k+1)=0+s*g (k+1);rw [qal,qaB];grind
  | x::a,0=>by show cvL (x::(a++[s])) g 0=_;rw [qam,qam];unfold upS;rw [if_neg (by simp)];grind
  | x::a,k+1=>by
    show cvL (x::(a++[s])) g (k+1)=_
    rw [qal,qal,qbi g s a k]
    have e:upS (x::a).length g (k+1)=upS a.length g k:=by
      unfold upS
      rw [List.length_cons]
      by_cases h:a.length≤k
      · rw [if_pos h,if_pos (by omega),show k+1 - (a.length+1)=k - a.length by omega]
      · rw [if_neg h,if_neg (by omega)]
    rw [e];grind
theorem qb8 (a:List α) {g:Nat→α} (h:∀ k,g k=0) (k:Nat):cvL a g k=0:=by
  rw [qan (c:=fun k=>0*g k) (fun j=>by rw [h j];grind) a k,qbf]
  grind
end
theorem qaK (a:List Int) (k:Nat):co a k=cvL a qbZ k:=(qco a k).symm
theorem qbe (a b:List Int) (k:Nat):cvL a (co b) k=cvL b (co a) k:=by
  rw [qan (qaK b) a k,qed,qan (fun j=>(qaK a j).symm) b k]
theorem qaw {a:List Int} {k:Nat} (h:a.length≤k):co a k=0:=by
  unfold co;rw [List.getD_eq_getElem?_getD,List.getElem?_eq_none h];rfl
theorem qbA {g:Nat→Int} {n:Nat} (h:∀ i,n≤i→g i=0):∀ (a:List Int) (k:Nat),a.length+n≤k+1→cvL a g k=0
  | [],_,_=>rfl
  | x::a,0,hk=>by
    rw [List.length_cons] at hk
    rw [qam,h 0 (by omega)];omega
  | x::a,k+1,hk=>by
    rw [List.length_cons] at hk
    rw [qal,h (k+1) (by omega),qbA h a k (by omega)];omega
theorem qiW {p:Int} {g:Nat→Int} {n:Nat} (h:∀ i,n<i→p∣g i):∀ (a:List Int) (k:Nat),a.length+n≤k→p∣cvL a g k
  | [],_,_=>Int.dvd_zero p
  | x::a,0,hk=>absurd hk (by rw [List.length_cons];omega)
  | x::a,k+1,hk=>by
    rw [List.length_cons] at hk
    rw [qal]
    exact Int.dvd_add (Int.dvd_mul_of_dvd_right (h (k+1) (by omega))) (qiW h a k (by omega))
theorem qe0 {p:Nat} (hp:Pr p) {g:Nat→Int} {n:Nat} (h0:¬ (p:Int)∣g n) (h:∀ i,n<i→(p:Int)∣g i) (S:List Int) :
    (∀ k,n≤k→(p:Int)∣cvL S g k)→∀ s∈S,(p:Int)∣s:=by
  induction hl:S.length generalizing S with
  | zero=>intro _ s hs;rw [List.length_eq_zero_iff.mp hl] at hs;exact nomatch hs
  | succ m ih=>
    intro hk
    have ne:S≠[]:=fun z=>by rw [z] at hl;simp at hl
    obtain ⟨T,t,rfl⟩:∃ T t,S=T++[t]:=⟨S.dropLast,S.getLast ne,(List.dropLast_concat_getLast ne).symm⟩
    have hT:T.length=m:=by simpa using hl
    have ht:(p:Int)∣t:=by
      have a:=hk (T.length+n) (by omega)
      rw [qbi] at a
      have b:=qiW h T (T.length+n) (Nat.le_refl _)
      have c:(p:Int)∣t*upS T.length g (T.length+n):=by
        have:=Int.dvd_sub a b
        rwa [show ∀ x y:Int,x+y - x=y by intro x y;omega] at this
      unfold upS at c
      rw [if_pos (by omega),show T.length+n - T.length=n by omega] at c
      rcases hp.mulI c with z | z
      · exact z
      · exact absurd z h0
    have hT2:=ih T hT (fun k hk2=>by
      have a:=hk k hk2
      rw [qbi] at a
      have:=Int.dvd_sub a (Int.dvd_mul_of_dvd_left (c:=upS T.length g k) ht)
      rwa [show ∀ x y:Int,x+y - y=x by intro x y;omega] at this)
    intro s hs
    rcases List.mem_append.mp hs with h | h
    · exact hT2 s h
    · rw [List.mem_singleton.mp h];exact ht
noncomputable def Lz (g:List Int):Prop:=0<g.length∧co g (g.length - 1)≠0
noncomputable def QI (r o f:Nat→Int):Prop:=∃ d:Int,d≠0∧∃ U V:List Int,∀ k,d*f k=cvL U r k+cvL V o k
noncomputable def MQ (g f:Nat→Int):Prop:=∃ c:Int,c≠0∧∃ A:List Int,∀ k,c*f k=cvL A g k
theorem QI.congr {r o f h:Nat→Int} (q:QI r o f) (e:∀ k,h k=f k):QI r o h:=by
  obtain ⟨d,d0,U,V,hU⟩:=q
  exact ⟨d,d0,U,V,fun k=>by rw [e k];exact hU k⟩
theorem QI.left (r o:Nat→Int):QI r o r:=⟨1,by decide,[1],[],fun k=>by
  rw [qaB]
  cases k with
  | zero=>rw [qam];omega
  | succ k=>rw [qal,qaB];omega⟩
theorem QI.right (r o:Nat→Int):QI r o o:=⟨1,by decide,[],[1],fun k=>by
  rw [qaB]
  cases k with
  | zero=>rw [qam];omega
  | succ k=>rw [qal,qaB];omega⟩
theorem QI.less {r o f h:Nat→Int} (q:QI r o f) (q':QI r o h) (a w:Int) (s:Nat):QI r o (fun k=>a*f k - w*upS s h k):=by
  obtain ⟨d,d0,U,V,hU⟩:=q
  obtain ⟨d',d0',U',V',hU'⟩:=q'
  refine ⟨d*d',Int.mul_ne_zero d0 d0',qaI (U.map (d'*a*·)) (List.replicate s 0++U'.map (-(d*w)*·)),qaI (V.map (d'*a*·)) (List.replicate s 0++V'.map (-(d*w)*·)),fun k=>?_⟩
  show d*d'*(a*f k - w*upS s h k)=_
  rw [qav,qav,qaq,qaq,qcG,qcG]
  unfold upS
  have e1:=hU k
  by_cases hs:s≤k
  · rw [if_pos hs,if_pos hs,if_pos hs,qaq,qaq]
    have e2:=hU' (k - s)
    grind
  · rw [if_neg hs,if_neg hs,if_neg hs]
    grind
theorem QI.scal {r o f:Nat→Int} {c:Int} (c0:c≠0) (q:QI r o (fun k=>c*f k)):QI r o f:=by
  obtain ⟨d,d0,U,V,hU⟩:=q
  exact ⟨d*c,Int.mul_ne_zero d0 c0,U,V,fun k=>by rw [← hU k];grind⟩
theorem QI.trans {r o a b f:Nat→Int} (qa:QI r o a) (qb:QI r o b) (q:QI a b f):QI r o f:=by
  obtain ⟨d,d0,U,V,hU⟩:=q
  obtain ⟨d1,d10,U1,V1,h1⟩:=qa
  obtain ⟨d2,d20,U2,V2,h2⟩:=qb
  refine ⟨d1*d2*d,Int.mul_ne_zero (Int.mul_ne_zero d10 d20) d0,qaI ((qaF U U1).map (d2*·)) ((qaF V U2).map (d1*·)),qaI ((qaF U V1).map (d2*·)) ((qaF V V2).map (d1*·)),fun k=>?_⟩
  rw [qav,qav,qaq,qaq,qaq,qaq,qar,qar,qar,qar]
  have e1:d1*cvL U a k=cvL U (cvL U1 r) k+cvL U (cvL V1 o) k:=by
    rw [← qbf,← qdR];exact qan h1 U k
  have e2:d2*cvL V b k=cvL V (cvL U2 r) k+cvL V (cvL V2 o) k:=by
    rw [← qbf,← qdR];exact qan h2 V k
  have e3:=hU k
  grind
theorem MQ.refl (g:Nat→Int):MQ g g:=⟨1,by decide,[1],fun k=>by
  cases k with
  | zero=>rw [qam];omega
  | succ k=>rw [qal,qaB];omega⟩
theorem MQ.zero (g:Nat→Int) {f:Nat→Int} (h:∀ k,f k=0):MQ g f:=⟨1,by decide,[],fun k=>by rw [qaB,h k];rfl⟩
theorem MQ.congr {g f h:Nat→Int} (m:MQ g f) (e:∀ k,h k=f k):MQ g h:=by
  obtain ⟨c,c0,A,hA⟩:=m
  exact ⟨c,c0,A,fun k=>by rw [e k];exact hA k⟩
theorem MQ.less {g f h:Nat→Int} (m:MQ g f) (m':MQ g h) (a w:Int) (s:Nat):MQ g (fun k=>a*f k - w*upS s h k):=by
  obtain ⟨d,d0,U,hU⟩:=m
  obtain ⟨d',d0',U',hU'⟩:=m'
  refine ⟨d*d',Int.mul_ne_zero d0 d0',qaI (U.map (d'*a*·)) (List.replicate s 0++U'.map (-(d*w)*·)),fun k=>?_⟩
  show d*d'*(a*f k - w*upS s h k)=_
  rw [qav,qaq,qcG]
  unfold upS
  have e1:=hU k
  by_cases hs:s≤k
  · rw [if_pos hs,if_pos hs,qaq]
    have e2:=hU' (k - s)
    grind
  · rw [if_neg hs,if_neg hs]
    grind
theorem MQ.scal {g f:Nat→Int} {c:Int} (c0:c≠0) (m:MQ g (fun k=>c*f k)):MQ g f:=by
  obtain ⟨d,d0,A,hA⟩:=m
  exact ⟨d*c,Int.mul_ne_zero d0 c0,A,fun k=>by rw [← hA k];grind⟩
theorem MQ.trans {g f h:Nat→Int} (m:MQ g f) (m':MQ f h):MQ g h:=by
  obtain ⟨c,c0,A,hA⟩:=m
  obtain ⟨d,d0,B,hB⟩:=m'
  refine ⟨c*d,Int.mul_ne_zero c0 d0,qaF B A,fun k=>?_⟩
  rw [qar]
  have e:c*cvL B f k=cvL B (cvL A g) k:=by rw [← qbf];exact qan hA B k
  rw [← e,← hB k];grind
theorem MQ.of_QI {r o f g:Nat→Int} (m1:MQ g r) (m2:MQ g o) (q:QI r o f):MQ g f:=by
  obtain ⟨d,d0,U,V,hU⟩:=q
  obtain ⟨c,c0,A,hA⟩:=m1
  obtain ⟨e,e0,B,hB⟩:=m2
  refine ⟨c*e*d,Int.mul_ne_zero (Int.mul_ne_zero c0 e0) d0,qaI ((qaF U A).map (e*·)) ((qaF V B).map (c*·)),fun k=>?_⟩
  rw [qav,qaq,qaq,qar,qar]
  have e1:c*cvL U r k=cvL U (cvL A g) k:=by rw [← qbf];exact qan hA U k
  have e2:e*cvL V o k=cvL V (cvL B g) k:=by rw [← qbf];exact qan hB V k
  have e3:=hU k
  grind
theorem QI.of_MQ {r o f h:Nat→Int} (q:QI r o f) (m:MQ f h):QI r o h:=by
  obtain ⟨c,c0,A,hA⟩:=m
  obtain ⟨d,d0,U,V,hU⟩:=q
  refine ⟨d*c,Int.mul_ne_zero d0 c0,qaF A U,qaF A V,fun k=>?_⟩
  rw [qar,qar]
  have e:d*cvL A f k=cvL A (cvL U r) k+cvL A (cvL V o) k:=by rw [← qbf,← qdR];exact qan hU A k
  rw [← e,← hA k];grind
end Bs
namespace Bs
theorem qeB {f:List Int} (h:co f (f.length - 1)=0) (k:Nat):co f.dropLast k=co f k:=by
  unfold co at *
  rw [List.getD_eq_getElem?_getD,List.getD_eq_getElem?_getD]
  rw [List.getElem?_dropLast]
  by_cases hk:k<f.length - 1
  · rw [if_pos hk]
  · rw [if_neg hk]
    by_cases e:k=f.length - 1
    · subst e
      rw [List.getD_eq_getElem?_getD] at h
      rw [h];rfl
    · rw [List.getElem?_eq_none (by omega)]
theorem qhT (f:List Int):(∀ k,co f k=0)∨∃ g,Lz g∧g.length≤f.length∧∀ k,co g k=co f k:=by
  induction hn:f.length generalizing f with
  | zero=>exact .inl fun k=>qaw (by omega)
  | succ n ih=>
    by_cases h:co f (f.length - 1)=0
    · rcases ih f.dropLast (by rw [List.length_dropLast];omega) with z | ⟨g,g1,g2,g3⟩
      · exact .inl fun k=>by rw [← qeB h];exact z k
      · exact .inr ⟨g,g1,by omega,fun k=>by rw [g3,qeB h]⟩
    · exact .inr ⟨f,⟨by omega,h⟩,by omega,fun _=>rfl⟩
theorem qe1 (n:Nat) (F:Nat→Int) (k:Nat):co ((List.range n).map F) k=if k<n then F k else 0:=by
  unfold co
  rw [List.getD_eq_getElem?_getD,List.getElem?_map]
  by_cases h:k<n
  · rw [if_pos h,List.getElem?_range h];rfl
  · rw [if_neg h,List.getElem?_eq_none (by rw [List.length_range];omega)];rfl
structure Gen (r o:Nat→Int) (g:List Int):Prop where
  lz:Lz g
  qi:QI r o (co g)
  len:∀ h,Lz h→QI r o (co h)→g.length≤h.length
  last:∀ h,Lz h→QI r o (co h)→h.length=g.length→(co g (g.length - 1)).natAbs≤(co h (h.length - 1)).natAbs
theorem qr6 {r o:Nat→Int} {f:List Int} (lf:Lz f) (q:QI r o (co f)):∃ g,Gen r o g:=by
  have L:∀ n,(∃ f,f.length=n∧Lz f∧QI r o (co f))→∃ m,(∃ f,f.length=m∧Lz f∧QI r o (co f))∧∀ h,Lz h→QI r o (co h)→m≤h.length:=by
    intro n
    induction n using Nat.strongRecOn with
    | _ n ih=>
      intro hf
      by_cases hx:∃ m,m<n∧∃ f,f.length=m∧Lz f∧QI r o (co f)
      · obtain ⟨m,hm,hx⟩:=hx
        exact ih m hm hx
      · refine ⟨n,hf,fun h lh qh=>?_⟩
        rcases Nat.lt_or_ge h.length n with z | z
        · exact absurd ⟨h.length,z,h,rfl,lh,qh⟩ hx
        · exact z
  obtain ⟨m,⟨f1,e1,l1,q1⟩,hm⟩:=L f.length ⟨f,rfl,lf,q⟩
  have M:∀ n,(∃ f,f.length=m∧Lz f∧QI r o (co f)∧(co f (f.length - 1)).natAbs=n)→∃ g,Gen r o g:=by
    intro n
    induction n using Nat.strongRecOn with
    | _ n ih=>
      rintro ⟨f,fm,lf,qf,fn⟩
      by_cases hx:∃ j,j<n∧∃ f,f.length=m∧Lz f∧QI r o (co f)∧(co f (f.length - 1)).natAbs=j
      · obtain ⟨j,hj,hx⟩:=hx
        exact ih j hj hx
      · refine ⟨f,lf,qf,fun h lh qh=>by rw [fm];exact hm h lh qh,fun h lh qh hl=>?_⟩
        rcases Nat.lt_or_ge (co h (h.length - 1)).natAbs (co f (f.length - 1)).natAbs with z | z
        · exact absurd ⟨_,by omega,h,by omega,lh,qh,rfl⟩ hx
        · exact z
  exact M _ ⟨f1,e1,l1,q1,rfl⟩
theorem Gen.mq {r o:Nat→Int} {g:List Int} (G:Gen r o g):∀ (n:Nat) (f:List Int),f.length≤n→QI r o (co f)→MQ (co g) (co f)
  | 0,f,h,_=>MQ.zero _ fun k=>qaw (by omega)
  | n+1,f,h,q=>by
    rcases qhT f with z | ⟨f1,l1,h1,e1⟩
    · exact MQ.zero _ z
    have q1:QI r o (co f1):=q.congr e1
    have gl:=G.len f1 l1 q1
    refine MQ.congr (f:=co f1) ?_ fun k=>(e1 k).symm
    generalize hs:f1.length - g.length=s
    have g0:=G.lz.1
    let F:List Int:=(List.range (f1.length - 1)).map fun k=>co g (g.length - 1)*co f1 k - co f1 (f1.length - 1)*upS s (co g) k
    have eF:∀ k,co F k=co g (g.length - 1)*co f1 k - co f1 (f1.length - 1)*upS s (co g) k:=fun k=>by
      rw [qe1]
      by_cases hk:k<f1.length - 1
      · rw [if_pos hk]
      · rw [if_neg hk]
        unfold upS
        by_cases hk2:k=f1.length - 1
        · rw [if_pos (by omega),hk2,show f1.length - 1 - s=g.length - 1 by omega];grind
        · rw [qaw (a:=f1) (by omega)]
          by_cases hk3:s≤k
          · rw [if_pos hk3,qaw (a:=g) (k:=k - s) (by omega)];omega
          · rw [if_neg hk3];omega
    have qF:QI r o (co F):=QI.congr (q1.less G.qi (co g (g.length - 1)) (co f1 (f1.length - 1)) s) eF
    have lF:F.length≤n:=by
      have:F.length=f1.length - 1:=by show ((List.range (f1.length - 1)).map _).length=_;rw [List.length_map,List.length_range]
      omega
    have m:=Gen.mq G n F lF qF
    have m2:=MQ.less (MQ.congr m fun k=>(eF k).symm) (MQ.refl (co g)) 1 (-(co f1 (f1.length - 1))) s
    refine MQ.scal (c:=co g (g.length - 1)) G.lz.2 (MQ.congr m2 fun k=>?_)
    show _=1*_ - _*upS s (co g) k
    generalize upS s (co g) k=y
    grind
theorem Gen.prim {r o:Nat→Int} {g:List Int} (G:Gen r o g) {p:Nat} (hp:2≤p):∃ n,¬ (p:Int)∣co g n∧∀ i,n<i→(p:Int)∣co g i:=by
  have key:∀ n,(∀ i,n≤i→(p:Int)∣co g i)→(∀ i,(p:Int)∣co g i)∨∃ n,¬ (p:Int)∣co g n∧∀ i,n<i→(p:Int)∣co g i:=by
    intro n
    induction n with
    | zero=>intro h;exact .inl fun i=>h i (Nat.zero_le i)
    | succ n ih=>
      intro h
      by_cases hd:(p:Int)∣co g n
      · exact ih fun i hi=>by
          by_cases e:i=n
          · rw [e];exact hd
          · exact h i (by omega)
      · exact .inr ⟨n,hd,fun i hi=>h i (by omega)⟩
  rcases key g.length (fun i hi=>by rw [qaw hi];exact Int.dvd_zero _) with h | h
  · exfalso
    let h1:List Int:=g.map (· / (p:Int))
    have e1:∀ k,(p:Int)*co h1 k=co g k:=fun k=>by
      have:co h1 k=co g k / (p:Int):=by
        show (g.map (· / (p:Int))).getD k 0=g.getD k 0 / (p:Int)
        rw [List.getD_eq_getElem?_getD,List.getD_eq_getElem?_getD,List.getElem?_map]
        cases g[k]? with
        | none=>exact (Int.zero_ediv _).symm
        | some z=>rfl
      rw [this,Int.mul_ediv_cancel' (h k)]
    have p0:(p:Int)≠0:=by omega
    have qpj:h1.length=g.length:=List.length_map ..
    have ne:co h1 (h1.length - 1)≠0:=fun z=>G.lz.2 (by rw [← e1,← qpj,z];omega)
    have l1:Lz h1:=⟨by rw [qpj];exact G.lz.1,ne⟩
    have q1:QI r o (co h1):=QI.scal (c:=(p:Int)) p0 (QI.congr G.qi e1)
    have lt:=G.last h1 l1 q1 qpj
    have e2:=e1 (g.length - 1)
    rw [← qpj] at e2
    rw [qpj] at e2 lt
    rw [← e2,Int.natAbs_mul,Int.natAbs_natCast] at lt
    rw [qpj] at ne
    have pos:0<(co h1 (g.length - 1)).natAbs:=by omega
    have:=Nat.mul_le_mul_right (co h1 (g.length - 1)).natAbs hp
    omega
  · exact h
theorem Gen.loc {r o:Nat→Int} {g:List Int} (G:Gen r o g) {p:Nat} (hp:Pr p) {f:Nat→Int} (m:MQ (co g) f) :
    ∃ (c:Int) (A:List Int),¬ (p:Int)∣c∧∀ k,c*f k=cvL A (co g) k:=by
  obtain ⟨n,n0,n1⟩:=G.prim hp.two
  obtain ⟨c,c0,A,hA⟩:=m
  have key:∀ (m:Nat) (c:Int) (A:List Int),c.natAbs≤m→c≠0→(∀ k,c*f k=cvL A (co g) k)→∃ (c:Int) (A:List Int),¬ (p:Int)∣c∧∀ k,c*f k=cvL A (co g) k:=by
    intro m
    induction m with
    | zero=>intro c A h h0;omega
    | succ m ih=>
      intro c A h h0 hA
      by_cases hd:(p:Int)∣c
      · have dA:∀ a∈A,(p:Int)∣a:=qe0 hp n0 n1 A fun k _=>by rw [← hA k];exact Int.dvd_mul_of_dvd_left hd
        obtain ⟨c',rfl⟩:=hd
        have p2:=hp.two
        have c0':c'≠0:=fun z=>h0 (by rw [z];omega)
        have eA:A=(A.map (· / (p:Int))).map ((p:Int)*·):=by
          rw [List.map_map]
          conv=>lhs;rw [← List.map_id A]
          refine List.map_congr_left fun a ha=>?_
          show a=(p:Int)*(a / (p:Int))
          rw [Int.mul_ediv_cancel' (dA a ha)]
        refine ih c' (A.map (· / (p:Int))) ?_ c0' fun k=>?_
        · rw [Int.natAbs_mul,Int.natAbs_natCast] at h
          have pos:0<c'.natAbs:=by omega
          have:=Nat.mul_le_mul_right c'.natAbs p2
          omega
        · have e:=hA k
          rw [eA,qaq,Int.mul_assoc] at e
          exact Int.eq_of_mul_eq_mul_left (by omega) e
      · exact ⟨c,A,hd,hA⟩
  exact key _ c A (Nat.le_refl _) c0 hA
theorem qt3 (a b:Nat):∃ x y:Int,x*a+y*b=(Nat.gcd a b:Int):=by
  induction a,b using Nat.gcd.induction with
  | H0 n=>exact ⟨0,1,by simp⟩
  | H1 m n hm ih=>
    obtain ⟨x,y,h⟩:=ih
    refine ⟨y - x*((n / m:Nat):Int),x,?_⟩
    rw [Nat.gcd_rec,← h]
    have e:(n:Int)=(m:Int)*((n / m:Nat):Int)+((n % m:Nat):Int):=by
      have:=Nat.div_add_mod n m
      exact_mod_cast this.symm
    generalize ((n / m:Nat):Int)=q at *
    generalize ((n % m:Nat):Int)=w at *
    rw [e];grind
theorem qs3 (a b:Int):∃ x y:Int,x*a+y*b=(Int.gcd a b:Int):=by
  obtain ⟨x,y,h⟩:=qt3 a.natAbs b.natAbs
  have s:∀ z:Int,∃ e:Int,(z.natAbs:Int)=e*z:=fun z=>by
    rcases Int.natAbs_eq z with h | h
    · exact ⟨1,by omega⟩
    · exact ⟨-1,by omega⟩
  obtain ⟨e,he⟩:=s a
  obtain ⟨f,hf⟩:=s b
  refine ⟨x*e,y*f,?_⟩
  show _=((Nat.gcd a.natAbs b.natAbs:Nat):Int)
  rw [← h,he,hf];grind
noncomputable def Dm (p:Int) (g f:Nat→Int):Prop:=∃ S:List Int,∀ k,p∣f k - cvL S g k
theorem Gen.dm {r o:Nat→Int} {g:List Int} (G:Gen r o g) {p:Nat} (hp:Pr p) {f:Nat→Int} (m:MQ (co g) f):Dm (p:Int) (co g) f:=by
  obtain ⟨c,A,hc,hA⟩:=G.loc hp m
  have cop:Int.gcd c (p:Int)=1:=by
    have:=hp.cop (a:=c.natAbs) fun z=>hc (Int.natAbs_dvd_natAbs.mp (by rw [Int.natAbs_natCast];exact z))
    exact this
  obtain ⟨x,y,hxy⟩:∃ x y:Int,x*c+y*(p:Int)=1:=by
    obtain ⟨x,y,h⟩:=qs3 c (p:Int)
    exact ⟨x,y,by rw [h,cop];rfl⟩
  refine ⟨A.map (x*·),fun k=>⟨f k*y,?_⟩⟩
  rw [qaq,← hA k]
  grind
theorem Dm.less {p:Int} {g f h:Nat→Int} (m:Dm p g f) (m':Dm p g h) (a w:Int) (s:Nat):Dm p g (fun k=>a*f k - w*upS s h k):=by
  obtain ⟨S,hS⟩:=m
  obtain ⟨S',hS'⟩:=m'
  refine ⟨qaI (S.map (a*·)) (List.replicate s 0++S'.map (-w*·)),fun k=>?_⟩
  show p∣a*f k - w*upS s h k - _
  rw [qav,qaq,qcG]
  unfold upS
  obtain ⟨x,hx⟩:=hS k
  by_cases hs:s≤k
  · rw [if_pos hs,if_pos hs,qaq]
    obtain ⟨y,hy⟩:=hS' (k - s)
    exact ⟨a*x - w*y,by grind⟩
  · rw [if_neg hs,if_neg hs]
    exact ⟨a*x,by grind⟩
theorem Dm.congr {p:Int} {g f h:Nat→Int} (m:Dm p g f) (e:∀ k,p∣h k - f k):Dm p g h:=by
  obtain ⟨S,hS⟩:=m
  exact ⟨S,fun k=>by have:=Int.dvd_add (e k) (hS k);rwa [show ∀ x y z:Int,x - y+(y - z)=x - z by intro x y z;omega] at this⟩
theorem Dm.zero (p:Int) (g:Nat→Int) {f:Nat→Int} (h:∀ k,p∣f k):Dm p g f:=⟨[],fun k=>by rw [qaB];simpa using h k⟩
theorem Gen.lead {r o:Nat→Int} {g R:List Int} (G:Gen r o g) {p:Nat} (hp:Pr p) (lR:Lz R) (m:MQ (co g) (co R)) (h:¬ (p:Int)∣co R (R.length - 1)):¬ (p:Int)∣co g (g.length - 1):=by
  intro hd
  obtain ⟨n,n0,n1⟩:=G.prim hp.two
  obtain ⟨c,A,hc,hA⟩:=G.loc hp m
  have nl:n+1<g.length:=by
    rcases Nat.lt_or_ge n g.length with z | z
    · rcases Nat.lt_or_ge (n+1) g.length with y | y
      · exact y
      · exact absurd hd (by rw [show g.length - 1=n by omega];exact n0)
    · exact absurd (by rw [qaw z];exact Int.dvd_zero _) n0
  rcases qhT A with z | ⟨B,lB,_,eB⟩
  · have:c*co R (R.length - 1)=0:=by
      rw [hA,qbe,qb8 g z]
    rcases Int.mul_eq_zero.mp this with e | e
    · exact hc (by rw [e];exact Int.dvd_zero _)
    · exact lR.2 e
  · have hB:∀ k,c*co R k=cvL B (co g) k:=fun k=>by rw [hA,qbe,qan (fun j=>(eB j).symm) g k,← qbe]
    have bl:B.length+g.length≤R.length+1:=by
      rcases Nat.lt_or_ge (R.length+1) (B.length+g.length) with z | z
      · exfalso
        have b0:=lB.1
        have g0:=G.lz.1
        have e:=hB (B.length - 1+(g.length - 1))
        rw [qaw (by omega)] at e
        have ne:B≠[]:=fun z=>by rw [z] at b0;simp at b0
        obtain ⟨T,t,hT⟩:∃ T t,B=T++[t]:=⟨B.dropLast,B.getLast ne,(List.dropLast_concat_getLast ne).symm⟩
        have tl:T.length=B.length - 1:=by rw [hT];simp
        have tc:co B (B.length - 1)=t:=by rw [← tl,hT];unfold co;simp [List.getD_eq_getElem?_getD]
        rw [hT,qbi,← hT,qbA (n:=g.length) (fun i hi=>qaw hi) T _ (by omega)] at e
        unfold upS at e
        rw [if_pos (by omega),show B.length - 1+(g.length - 1) - T.length=g.length - 1 by omega] at e
        have e2:t*co g (g.length - 1)=0:=by omega
        rcases Int.mul_eq_zero.mp e2 with x | x
        · exact lB.2 (tc.trans x)
        · exact G.lz.2 x
      · exact z
    have hh:=qiW n1 B (R.length - 1) (by omega)
    rw [← hB] at hh
    rcases hp.mulI hh with x | x
    · exact hc x
    · exact h x
theorem Dm.len {p:Nat} (hp:Pr p) {g f:List Int} (lg:0<g.length) (hl:¬ (p:Int)∣co g (g.length - 1)) (d:Dm (p:Int) (co g) (co f)) (h0:∃ k,¬ (p:Int)∣co f k):g.length≤f.length:=by
  rcases Nat.lt_or_ge f.length g.length with z | z
  · exfalso
    obtain ⟨S,hS⟩:=d
    have sS:=qe0 hp hl (fun i hi=>by rw [qaw (by omega)];exact Int.dvd_zero _) S fun k hk=>by
      have:=hS k
      rw [qaw (by omega)] at this
      have e:=Int.dvd_neg.mpr this
      rwa [show ∀ x:Int,-(0 - x)=x by intro x;omega] at e
    obtain ⟨k,hk⟩:=h0
    apply hk
    have c:∀ (S:List Int),(∀ s∈S,(p:Int)∣s)→∀ k,(p:Int)∣cvL S (co g) k:=by
      intro S
      induction S with
      | nil=>intro _ k;exact Int.dvd_zero _
      | cons x S ih=>
        intro h k
        rw [qcQ]
        refine Int.dvd_add (Int.dvd_mul_of_dvd_left (h x (List.mem_cons_self ..))) ?_
        cases k with
        | zero=>exact Int.dvd_zero _
        | succ k=>exact ih (fun s hs=>h s (List.mem_cons_of_mem _ hs)) k
    have:=Int.dvd_add (hS k) (c S sS k)
    rwa [Int.sub_add_cancel] at this
  · exact z
structure RC (r o:Nat→Int) (g:List Int):Prop where
  lz:Lz g
  left:MQ (co g) r
  right:MQ (co g) o
  qi:QI r o (co g)
theorem Gen.rc {R O g:List Int} (G:Gen (co R) (co O) g):RC (co R) (co O) g:=
  ⟨G.lz,G.mq _ R (Nat.le_refl _) (QI.left _ _),G.mq _ O (Nat.le_refl _) (QI.right _ _),G.qi⟩
theorem qnQ {r o:Nat→Int} {g h:List Int} (G:RC r o g) (lh:Lz h) (m1:MQ (co h) r) (m2:MQ (co h) o) (hl:g.length≤h.length):RC r o h:=by
  refine ⟨lh,m1,m2,G.qi.of_MQ ?_⟩
  obtain ⟨d,d0,T,hT⟩:=MQ.of_QI m1 m2 G.qi
  rcases qhT T with z | ⟨B,lB,_,eB⟩
  · exfalso
    have:d*co g (g.length - 1)=0:=by rw [hT,qbe,qb8 h z]
    rcases Int.mul_eq_zero.mp this with e | e
    · exact d0 e
    · exact G.lz.2 e
  · have hB:∀ k,d*co g k=cvL B (co h) k:=fun k=>by rw [hT,qbe,qan (fun j=>(eB j).symm) h k,← qbe]
    have b0:=lB.1
    have g0:=lh.1
    have ne:B≠[]:=fun z=>by rw [z] at b0;simp at b0
    obtain ⟨X,t,hX⟩:∃ X t,B=X++[t]:=⟨B.dropLast,B.getLast ne,(List.dropLast_concat_getLast ne).symm⟩
    have tl:X.length=B.length - 1:=by rw [hX];simp
    have tc:co B (B.length - 1)=t:=by rw [← tl,hX];unfold co;simp [List.getD_eq_getElem?_getD]
    have one:B.length=1:=by
      rcases Nat.lt_or_ge 1 B.length with y | y
      · exfalso
        have e:=hB (B.length - 1+(h.length - 1))
        rw [qaw (by omega),hX,qbi,← hX,qbA (n:=h.length) (fun i hi=>qaw hi) X _ (by omega)] at e
        unfold upS at e
        rw [if_pos (by omega),show B.length - 1+(h.length - 1) - X.length=h.length - 1 by omega] at e
        have e2:t*co h (h.length - 1)=0:=by omega
        rcases Int.mul_eq_zero.mp e2 with x | x
        · exact lB.2 (tc.trans x)
        · exact lh.2 x
      · omega
    have X0:X=[]:=List.length_eq_zero_iff.mp (by omega)
    have t0:t≠0:=fun z=>lB.2 (tc.trans z)
    refine ⟨t,t0,[d],fun k=>?_⟩
    have e:=hB k
    rw [hX,X0] at e
    cases k with
    | zero=>rw [qam];rw [show ([]++[t]:List Int)=[t] from rfl,qam] at e;omega
    | succ k=>rw [qal,qaB];rw [show ([]++[t]:List Int)=[t] from rfl,qal,qaB] at e;omega
end Bs
namespace Bs
noncomputable def Prim (g:List Int):Prop:=∀ c:Int,(∀ k,c∣co g k)→c.natAbs=1
theorem Prim.top {g:List Int} (P:Prim g) {p:Nat} (hp:2≤p):∃ n,¬ (p:Int)∣co g n∧∀ i,n<i→(p:Int)∣co g i:=by
  have key:∀ n,(∀ i,n≤i→(p:Int)∣co g i)→(∀ i,(p:Int)∣co g i)∨∃ n,¬ (p:Int)∣co g n∧∀ i,n<i→(p:Int)∣co g i:=by
    intro n
    induction n with
    | zero=>intro h;exact .inl fun i=>h i (Nat.zero_le i)
    | succ n ih=>
      intro h
      by_cases hd:(p:Int)∣co g n
      · exact ih fun i hi=>by
          by_cases e:i=n
          · rw [e];exact hd
          · exact h i (by omega)
      · exact .inr ⟨n,hd,fun i hi=>h i (by omega)⟩
  rcases key g.length (fun i hi=>by rw [qaw hi];exact Int.dvd_zero _) with h | h
  · have:=P (p:Int) h
    omega
  · exact h
theorem gauss {g:List Int} (P:Prim g) {f:Nat→Int} (m:MQ (co g) f):∃ A:List Int,∀ k,f k=cvL A (co g) k:=by
  obtain ⟨c,c0,A,hA⟩:=m
  have key:∀ (m:Nat) (c:Int) (A:List Int),c.natAbs≤m→c≠0→(∀ k,c*f k=cvL A (co g) k)→∃ A:List Int,∀ k,f k=cvL A (co g) k:=by
    intro m
    induction m with
    | zero=>intro c A h h0;omega
    | succ m ih=>
      intro c A h h0 hA
      by_cases h1:c.natAbs=1
      · rcases Int.natAbs_eq c with e | e
        · exact ⟨A,fun k=>by rw [← hA k,e,h1];omega⟩
        · exact ⟨A.map (-1*·),fun k=>by rw [qaq,← hA k,e,h1];omega⟩
      · obtain ⟨p,hp,pd,_⟩:=qjQ (m:=c.natAbs) (by omega)
        have hd:(p:Int)∣c:=Int.natAbs_dvd_natAbs.mp (by rw [Int.natAbs_natCast];exact pd)
        obtain ⟨n,n0,n1⟩:=P.top hp.two
        have dA:∀ a∈A,(p:Int)∣a:=qe0 hp n0 n1 A fun k _=>by rw [← hA k];exact Int.dvd_mul_of_dvd_left hd
        obtain ⟨c',rfl⟩:=hd
        have p2:=hp.two
        have c0':c'≠0:=fun z=>h0 (by rw [z];omega)
        have eA:A=(A.map (· / (p:Int))).map ((p:Int)*·):=by
          rw [List.map_map]
          conv=>lhs;rw [← List.map_id A]
          refine List.map_congr_left fun a ha=>?_
          show a=(p:Int)*(a / (p:Int))
          rw [Int.mul_ediv_cancel' (dA a ha)]
        refine ih c' (A.map (· / (p:Int))) ?_ c0' fun k=>?_
        · rw [Int.natAbs_mul,Int.natAbs_natCast] at h
          have pos:0<c'.natAbs:=by omega
          have:=Nat.mul_le_mul_right c'.natAbs p2
          omega
        · have e:=hA k
          rw [eA,qaq,Int.mul_assoc] at e
          exact Int.eq_of_mul_eq_mul_left (by omega) e
  exact key _ c A (Nat.le_refl _) c0 hA
noncomputable def evI:List Int→Int→Int
  | [],_=>0
  | a::l,x=>a+x*evI l x
theorem qe2:∀ (l:List Int) (x:Int),(∀ k,co l k=0)→evI l x=0
  | [],_,_=>rfl
  | a::l,x,h=>by
    have h0:a=0:=h 0
    show a+x*evI l x=0
    rw [h0,qe2 l x fun k=>h (k+1)];omega
theorem qhb:∀ (a b:List Int) (x:Int),(∀ k,co a k=co b k)→evI a x=evI b x
  | [],b,x,h=>(qe2 b x fun k=>(h k).symm).symm
  | a::l,[],x,h=>qe2 (a::l) x h
  | a::l,b::m,x,h=>by
    have h0:a=b:=h 0
    show a+x*evI l x=b+x*evI m x
    rw [h0,qhb l m x fun k=>h (k+1)]
theorem qnR:∀ (a b:List Int) (x:Int),evI (qaI a b) x=evI a x+evI b x
  | [],b,x=>by show evI b x=0+evI b x;omega
  | a::l,[],x=>by rw [qdd];show _=_+0;omega
  | a::l,b::m,x=>by
    show (a+b)+x*evI (qaI l m) x=a+x*evI l x+(b+x*evI m x)
    rw [qnR l m x];grind
theorem qlB (c:Int):∀ (a:List Int) (x:Int),evI (a.map (c*·)) x=c*evI a x
  | [],x=>by show (0:Int)=c*0;omega
  | a::l,x=>by
    show c*a+x*evI (l.map (c*·)) x=c*(a+x*evI l x)
    rw [qlB c l x];grind
theorem qnS:∀ (a b:List Int) (x:Int),evI (qaF a b) x=evI a x*evI b x
  | [],b,x=>by show (0:Int)=0*_;omega
  | a::l,b,x=>by
    show evI (qaI (b.map (a*·)) (0::qaF l b)) x=(a+x*evI l x)*evI b x
    rw [qnR,qlB]
    show a*evI b x+(0+x*evI (qaF l b) x)=_
    rw [qnS l b x];grind
theorem qnT (a b:List Int) (k:Nat):co (qaF a b) k=cvL a (co b) k:=by
  rw [qaK,qar]
  exact qan (fun j=>(qaK b j).symm) a k
theorem qpg {r a g:List Int} (h:∀ k,co r k=cvL a (co g) k) (x:Int):evI r x=evI a x*evI g x:=by
  rw [← qnS]
  exact qhb r (qaF a g) x fun k=>by rw [qnT];exact h k
theorem qp3 {b c:Nat} {x:Int} (hx:Bd c x):∀ (l:List Int),(∀ z∈l,Bd b z)→Bd (b+l.length*(c+1)) (evI l x)
  | [],_=>qez _
  | a::l,hb=>by
    show Bd _ (a+x*evI l x)
    have h1:=hb a (List.mem_cons_self ..)
    have h2:=hx.mul (qp3 hx l fun z hz=>hb z (List.mem_cons_of_mem _ hz))
    have e:(l.length+1)*(c+1)=l.length*(c+1)+(c+1):=by rw [Nat.add_mul,Nat.one_mul]
    refine ((h1.mono (n:=c+(b+l.length*(c+1))) (by omega)).add h2).mono ?_
    rw [List.length_cons,e];omega
noncomputable def syn:List Int→Int→List Int
  | [],_=>[]
  | _::l,t=>evI l t::syn l t
theorem qiX:∀ (l:List Int) (t:Int),(syn l t).length=l.length
  | [],_=>rfl
  | _::l,t=>congrArg (·+1) (qiX l t)
theorem qnU:∀ (l:List Int) (t x:Int),evI l x - evI l t=(x - t)*evI (syn l t) x
  | [],t,x=>by show (0:Int) - 0=_*0;omega
  | a::l,t,x=>by
    show a+x*evI l x - (a+t*evI l t)=(x - t)*(evI l t+x*evI (syn l t) x)
    have:=qnU l t x
    grind
theorem qlC:∀ (l:List Int) (t:Int) (k:Nat),co l k=(if k=0 then evI l t else co (syn l t) (k - 1)) - t*co (syn l t) k
  | [],t,k=>by
    rw [show co (syn [] t) k=0 from qaw (Nat.zero_le _),show co (syn [] t) (k - 1)=0 from qaw (Nat.zero_le _),qaw (Nat.zero_le _)]
    show 0=(if k=0 then 0 else 0) - _
    split <;> omega
  | a::l,t,0=>by
    show a=a+t*evI l t - t*evI l t
    omega
  | a::l,t,k+1=>by
    have:=qlC l t k
    show co l k=(if k+1=0 then _ else co (evI l t::syn l t) (k+1 - 1)) - t*co (syn l t) k
    rw [if_neg (by omega),this]
    cases k with
    | zero=>rfl
    | succ k=>rw [if_neg (by omega)];rfl
theorem qph (l:List Int) (t:Int):co (syn l t) (l.length - 1)=0:=by
  induction l with
  | nil=>exact qaw (Nat.zero_le _)
  | cons a l ih=>
    show co (evI l t::syn l t) l.length=0
    cases h:l.length with
    | zero=>rw [List.length_eq_zero_iff.mp h];rfl
    | succ m=>rw [h] at ih;exact ih
theorem interp {c:Nat}:∀ (d:Nat) (l:List Int) (y:Nat) (x:Nat→Int),(∀ k,d<k→co l k=0)→(∀ i,i≤d→Bd c (x i))→(∀ i j,i≤d→j≤d→i≠j→x i≠x j)→(∀ i,i≤d→Bd y (evI l (x i)))→∀ k,Bd (y+d*(c+3)) (co l k)
  | 0,l,y,x,h1,_,_,h4,k=>by
    cases k with
    | zero=>
      have e:evI l (x 0)=co l 0:=by
        cases l with
        | nil=>rfl
        | cons a l=>
          show a+x 0*evI l (x 0)=a
          rw [qe2 l (x 0) fun k=>h1 (k+1) (by omega)];omega
      have:=h4 0 (Nat.le_refl 0)
      rw [e] at this
      exact this.mono (by omega)
    | succ k=>rw [h1 (k+1) (by omega)];exact qez _
  | d+1,l,y,x,h1,h2,h3,h4,k=>by
    have hs:∀ j,d<j→co (syn l (x (d+1))) j=0:=by
      have step:∀ n,∀ j,d<j→l.length≤j+n→co (syn l (x (d+1))) j=0:=by
        intro n
        induction n with
        | zero=>intro j _ h;exact qaw (by rw [qiX];omega)
        | succ n ih=>
          intro j hj h
          have e:=qlC l (x (d+1)) (j+1)
          rw [h1 (j+1) (by omega),if_neg (by omega),ih (j+1) (by omega) (by omega)] at e
          rw [show j+1 - 1=j by omega] at e
          omega
      intro j hj
      exact step l.length j hj (by omega)
    have ih:=interp d (syn l (x (d+1))) (y+1) x hs (fun i hi=>h2 i (by omega)) (fun i j hi hj=>h3 i j (by omega) (by omega)) (fun i hi=>by
      have e:=qnU l (x (d+1)) (x i)
      have ne:x i - x (d+1)≠0:=fun z=>h3 i (d+1) (by omega) (by omega) (by omega) (by omega)
      have b:=(h4 i (by omega)).sub (h4 (d+1) (by omega))
      rw [e] at b
      refine b.le ?_
      rw [Int.natAbs_mul]
      exact Nat.le_mul_of_pos_left _ (by omega))
    have e:=qlC l (x (d+1)) k
    rw [e]
    have hx:=h2 (d+1) (Nat.le_refl _)
    have b2:=hx.mul (ih k)
    have em:(d+1)*(c+3)=d*(c+3)+(c+3):=by rw [Nat.add_mul,Nat.one_mul]
    have b1:Bd (c+(y+1+d*(c+3))) (if k=0 then evI l (x (d+1)) else co (syn l (x (d+1))) (k - 1)):=by
      split
      · exact (h4 (d+1) (Nat.le_refl _)).mono (by omega)
      · exact (ih (k - 1)).mono (by omega)
    exact (b1.sub b2).mono (by omega)
end Bs
namespace Bs
open PySem L2
noncomputable def isN (H:Hp) (v:V) (q:Nu):Prop:=∃ p,v=.ref p∧H p=some (.tup [.int q.1,.int q.2])
noncomputable def Nums (H:Hp):List V→List Nu→Prop
  | [],[]=>True
  | x::xs,q::l=>isN H x q∧Nums H xs l
  | _,_=>False
noncomputable def Tp (H H':Hp):Prop:=∀ b xs,H b=some (.tup xs)→H' b=some (.tup xs)
theorem tpS {H H':Hp} (s:Same H H'):Tp H H':=fun b xs h=>s b _ h
theorem Tp.trans {H H1 H2:Hp} (a:Tp H H1) (b:Tp H1 H2):Tp H H2:=fun c xs h=>b c xs (a c xs h)
theorem Kp.tp {p:Addr} {H H':Hp} {xs:List V} (k:Kp p H H') (h:H p=some (.lst xs)):Tp H H':=fun b ys q=>k b _ (qsM q h (by intro z;cases z)) q
theorem Tp.updL {p:Addr} {H:Hp} {xs ys:List V} (h:H p=some (.lst xs)):Tp H (upd H p (.lst ys)):=Kp.tp Kp.upd h
theorem isN.tp {H H':Hp} {v:V} {q:Nu} (h:isN H v q) (t:Tp H H'):isN H' v q:=let ⟨p,e,z⟩:=h;⟨p,e,t _ _ z⟩
theorem Nums.tp {H H':Hp} (t:Tp H H'):∀ {xs:List V} {l:List Nu},Nums H xs l→Nums H' xs l
  | [],[],_=>trivial
  | _::_,_::_,h=>⟨h.1.tp t,Nums.tp t h.2⟩
  | [],_::_,h=>h.elim
  | _::_,[],h=>h.elim
theorem Nums.length {H:Hp}:∀ {xs:List V} {l:List Nu},Nums H xs l→xs.length=l.length
  | [],[],_=>rfl
  | _::_,_::_,h=>congrArg (·+1) (Nums.length h.2)
  | [],_::_,h=>h.elim
  | _::_,[],h=>h.elim
theorem Nums.get {H:Hp}:∀ {xs:List V} {l:List Nu} {i:Nat} {v:V},Nums H xs l→xs[i]?=some v→∃ q,l[i]?=some q∧isN H v q
  | [],[],_,_,_,e=>by simp at e
  | _::_,q::_,0,_,h,e=>by simp at e;subst e;exact ⟨q,rfl,h.1⟩
  | _::_,_::_,i+1,_,h,e=>by
    obtain ⟨q,h1,h2⟩:=Nums.get (i:=i) h.2 (by simpa using e)
    exact ⟨q,by simpa using h1,h2⟩
  | [],_::_,_,_,h,_=>h.elim
  | _::_,[],_,_,h,_=>h.elim
theorem Nums.at {H:Hp} {xs:List V} {l:List Nu} {i:Nat} (h:Nums H xs l) (hi:i<l.length) (d:Nu):∃ v,xs[i]?=some v∧isN H v (l.getD i d):=by
  have hx:i<xs.length:=by rw [h.length];exact hi
  obtain ⟨q,h1,h2⟩:=h.get (List.getElem?_eq_getElem hx)
  refine ⟨_,List.getElem?_eq_getElem hx,?_⟩
  rw [List.getD_eq_getElem?_getD,h1]
  exact h2
theorem Nums.append {H:Hp}:∀ {xs ys:List V} {l m:List Nu},Nums H xs l→Nums H ys m→Nums H (xs++ys) (l++m)
  | [],_,[],_,_,h=>h
  | _::_,_,_::_,_,h,h2=>⟨h.1,Nums.append h.2 h2⟩
  | [],_,_::_,_,h,_=>h.elim
  | _::_,_,[],_,h,_=>h.elim
theorem Nums.one {H:Hp} {v:V} {q:Nu} (h:isN H v q):Nums H [v] [q]:=⟨h,trivial⟩
theorem Nums.take {H:Hp}:∀ {xs:List V} {l:List Nu} (n:Nat),Nums H xs l→Nums H (xs.take n) (l.take n)
  | [],[],n,_=>by simp [Nums]
  | _::_,_::_,0,_=>trivial
  | _::_,_::_,n+1,h=>⟨h.1,Nums.take n h.2⟩
  | [],_::_,_,h=>h.elim
  | _::_,[],_,h=>h.elim
theorem Nums.set {H:Hp} {v:V} {q:Nu} (hv:isN H v q):∀ {xs:List V} {l:List Nu} (i:Nat),Nums H xs l→Nums H (xs.set i v) (l.set i q)
  | [],[],_,_=>trivial
  | _::_,_::_,0,h=>⟨hv,h.2⟩
  | _::_,_::_,i+1,h=>⟨h.1,Nums.set hv i h.2⟩
  | [],_::_,_,h=>h.elim
  | _::_,[],_,h=>h.elim
theorem Nums.rep {H:Hp} {v:V} {q:Nu} (hv:isN H v q):∀ n:Nat,Nums H (List.replicate n v) (List.replicate n q)
  | 0=>trivial
  | n+1=>⟨hv,Nums.rep hv n⟩
theorem qdp {α:Type} (v:α):∀ n:Nat,(List.replicate n [v]).flatten=List.replicate n v
  | 0=>rfl
  | n+1=>by rw [List.replicate_succ,List.flatten_cons,qdp v n];rfl
theorem qcS {α:Type} {xs:List α} {i:Int} {j:Nat} {v:α} (e:i=(j:Int)) (h:xs[j]?=some v):atI xs i=some v:=by subst e;exact qkv h
theorem qkH {H:Hp} {p:Addr} {q:Nu}:isN (upd H p (.tup [.int q.1,.int q.2])) (.ref p) q:=⟨p,rfl,qai⟩
theorem qnV {xs:List V} {m:Nat} (h:m≤xs.length):qjo xs none (some (m:Int))=xs.take m:=by
  unfold qjo HT.sIx
  simp only [List.drop_zero,Nat.sub_zero,Int.toNat_natCast]
  rw [if_neg (by omega),Nat.min_eq_left h]
noncomputable def qr7 (H:Hp) (Q:VK) (l:List Nu):Prop:=∀ (r:Addr) (zs:List V) (H':Hp),Same H H'→H' r=some (.tup zs)→Nums H' zs l→Q (.ref r) H'
noncomputable def qmE (q:Nu):PySem.W.Dat:=.tuple [.int q.1,.int q.2]
theorem qs5 {H:Hp} {v:V} {q:Nu} (h:isN H v q):RepD H v (qmE q):=by
  obtain ⟨p,rfl,hp⟩:=h
  exact .tup hp (.cons (.int _) (.cons (.int _) .nil))
theorem qr8 {H:Hp}:∀ {xs:List V} {l:List Nu},Nums H xs l→RepA H xs (l.map qmE)
  | [],[],_=>.nil
  | _::_,_::_,h=>.cons (qs5 h.1) (qr8 h.2)
  | [],_::_,h=>h.elim
  | _::_,[],h=>h.elim
theorem qtG {H:Hp} {p:Addr} {xs:List V} {l:List Nu} (hp:H p=some (.lst xs)) (h:Nums H xs l):RepD H (.ref p) (.list (l.map qmE)):=.lst hp (qr8 h)
theorem okN (q:Nu) (n:Nat):PySem.W.kqdOk (n+1) (qmE q)=true:=by simp [qmE,PySem.W.kqdOk]
end Bs
namespace Bs
open PySem L2
section
variable {σ:L2.St} {H:Hp} {Q:VK} {D:Ends} {rest:TS} {sp:Sp} {E:XK}
theorem qkI {ta:TE} {k:Nat} (h:ta σ H fun x H1=>sp [x] H1 (fun v H'=>rest D (σ.set k (some v)) H') E):qaE (qaL (qau sp [] E (qac ta qat)) (qaj k)) rest D σ H:=h
theorem qeC {ta tb:TE} {k:Nat} (h:ta σ H fun x H1=>tb σ H1 fun y H2=>sp [x,y] H2 (fun v H'=>rest D (σ.set k (some v)) H') E):qaE (qaL (qau sp [] E (qac ta (qac tb qat))) (qaj k)) rest D σ H:=h
theorem qkJ {ta tb tc:TE} {k:Nat} (h:ta σ H fun x H1=>tb σ H1 fun y H2=>tc σ H2 fun z H3=>sp [x,y,z] H3 (fun v H'=>rest D (σ.set k (some v)) H') E):qaE (qaL (qau sp [] E (qac ta (qac tb (qac tc qat)))) (qaj k)) rest D σ H:=h
theorem qhU {ta:TE} (h:ta σ H fun x H1=>sp [x] H1 Q E):qau sp [] E (qac ta qat) σ H Q:=h
theorem qeD {ta tb:TE} (h:ta σ H fun x H1=>tb σ H1 fun y H2=>sp [x,y] H2 Q E):qau sp [] E (qac ta (qac tb qat)) σ H Q:=h
theorem qhV {ta tb tc:TE} (h:ta σ H fun x H1=>tb σ H1 fun y H2=>tc σ H2 fun z H3=>sp [x,y,z] H3 Q E):qau sp [] E (qac ta (qac tb (qac tc qat))) σ H Q:=h
theorem qde {te:TE} {k:Nat} (h:te σ H fun x H1=>rest D (σ.set k (some x)) H1):qaE (qaL te (qaj k)) rest D σ H:=h
theorem qpi {te:TE} (h:te σ H D.rt):qbK te D σ H:=h
theorem qlD {ta tb:TE} (h:ta σ H fun x H1=>tb σ H1 fun y H2=>[x,y].length≤sizeLine∧∀ p,H2 p=none→Q (.ref p) (upd H2 p (.tup [x,y]))):qks (qac ta (qac tb qat)) σ H Q:=h
theorem qp4 {ta:TE} (h:ta σ H fun x H1=>[x].length≤sizeLine∧∀ p,H1 p=none→Q (.ref p) (upd H1 p (.lst [x]))):qea (qac ta qat) σ H Q:=h
theorem qnW {ta tb:TE} (h:ta σ H fun x H1=>tb σ H1 fun y H2=>[x,y].length≤sizeLine∧∀ p,H2 p=none→Q (.ref p) (upd H2 p (.lst [x,y]))):qea (qac ta (qac tb qat)) σ H Q:=h
theorem r_c {v:V} (h:Q v H):tC v σ H Q:=h
theorem qmF {r:R2} {ta tb:TE} (h:ta σ H fun x H1=>tb σ H1 fun y H2=>r x y H2 Q):tOp r ta tb σ H Q:=h
theorem qr9 {b:List V→Hp→VK→Prop} {ta:TE} (h:ta σ H fun x H1=>b [x] H1 Q):tCB b (qac ta qat) σ H Q:=h
theorem qs7 {ta tb tc td:TE} (h:ta σ H fun x H1=>tb σ H1 fun y H2=>tc σ H2 fun z H3=>td σ H3 fun a H4=>sp [x,y,z,a] H4 Q E):qau sp [] E (qac ta (qac tb (qac tc (qac td qat)))) σ H Q:=h
theorem qs8 {b:List V→Hp→VK→Prop} {ta tb:TE} (h:ta σ H fun x H1=>tb σ H1 fun y H2=>b [x,y] H2 Q):tCB b (qac ta (qac tb qat)) σ H Q:=h
theorem qsa {ta tb tc td te:TE} (h:ta σ H fun x H1=>tb σ H1 fun y H2=>tc σ H2 fun z H3=>td σ H3 fun a H4=>te σ H4 fun b H5=>sp [x,y,z,a,b] H5 Q E):qau sp [] E (qac ta (qac tb (qac tc (qac td (qac te qat))))) σ H Q:=h
theorem qkK {K:W.Frag} {tl:TE} {capt:List (Option Nat)} {g:TG} {te:TE} {σ:L2.St} {H:Hp} {Q:VK} (h:tl σ H (fun x H1=>∃ a,x=.ref a∧(∃ xs,SqL K H1 a xs)∧CompJ (Itl K a) capt g te σ Q H1)):qcu (qbR K tl) capt g te σ H Q:=h
theorem qnX {te:TE} {k:Nat} {D:Ends} {σ:L2.St} {H:Hp} (h:te σ H fun x H1=>D.nx (σ.set k (some x)) H1):qaL te (qaj k) D σ H:=h
theorem qtH {c:TT} {t u:TS} (h:c σ H fun b H1=>if b=true then t { D with nx:=rest D } σ H1 else u { D with nx:=rest D } σ H1):qaE (qdK c t u) rest D σ H:=h
theorem qp5 {te:TE} {Q:Bool→Hp→Prop} (h:te σ H fun x H'=>∃ k,x=.bl k∧Q k H'):qaU te σ H Q:=h
theorem qpj {x:V}:[x].length≤sizeLine:=by show 1≤_;exact sz (by decide)
theorem qqS {x y:V}:[x,y].length≤sizeLine:=by show 2≤_;exact sz (by decide)
end
end Bs
set_option maxHeartbeats 4000000
namespace Bs
open PySem L2
theorem qlE {g:Nat→Rat} {n:Nat} (h:∀ i,n<i→g i=0):∀ (a:List Rat) (k:Nat),a.length+n≤k→cvL a g k=0
  | [],_,_=>rfl
  | x::a,0,hk=>absurd hk (by rw [List.length_cons];omega)
  | x::a,k+1,hk=>by
    rw [List.length_cons] at hk
    rw [qal,h (k+1) (by omega),qlE h a k (by omega)];grind
theorem qkL {g:Nat→Rat} {n:Nat} (h0:g n≠0) (h:∀ i,n<i→g i=0) (S:List Rat):(∀ k,n≤k→cvL S g k=0)→∀ s∈S,s=0:=by
  induction hl:S.length generalizing S with
  | zero=>intro _ s hs;rw [List.length_eq_zero_iff.mp hl] at hs;exact nomatch hs
  | succ m ih=>
    intro hk
    have ne:S≠[]:=fun z=>by rw [z] at hl;simp at hl
    obtain ⟨T,t,rfl⟩:∃ T t,S=T++[t]:=⟨S.dropLast,S.getLast ne,(List.dropLast_concat_getLast ne).symm⟩
    have ht:t=0:=by
      have a:=hk (T.length+n) (by omega)
      rw [qbi,qlE h T _ (Nat.le_refl _)] at a
      unfold upS at a
      rw [if_pos (by omega),show T.length+n - T.length=n by omega] at a
      have a':t*g n=0:=by grind
      rcases Rat.mul_eq_zero.mp a' with z | z
      · exact z
      · exact absurd z h0
    have hT2:=ih T (by simpa using hl) (fun k hk2=>by
      have a:=hk k hk2
      rw [qbi,ht] at a
      grind)
    intro s hs
    rcases List.mem_append.mp hs with h | h
    · exact hT2 s h
    · rw [List.mem_singleton.mp h];exact ht
theorem qgI {g:Nat→Rat}:∀ (S:List Rat),(∀ s∈S,s=0)→∀ k,cvL S g k=0
  | [],_,_=>rfl
  | x::S,h,0=>by rw [qam,h x (List.mem_cons_self ..)];grind
  | x::S,h,k+1=>by rw [qal,h x (List.mem_cons_self ..),qgI S (fun s hs=>h s (List.mem_cons_of_mem _ hs)) k];grind
theorem qqT {G:Nat→Rat} {n:Nat} (h0:G n≠0) (hG:∀ i,n<i→G i=0) {A B:List Rat} (h:∀ k,cvL A G k=cvL B G k) (g:Nat→Rat) (k:Nat):cvL A g k=cvL B g k:=by
  have z:=qgI (g:=g) (qaI A (B.map ((-1:Rat)*·))) (qkL h0 hG _ fun k _=>by rw [qav,qaq,h k];grind) k
  rw [qav,qaq] at z
  grind
end Bs
namespace Bs
open PySem L2
structure Sr where
  c:Nat→Rat
theorem Sr.ext' {f g:Sr} (h:∀ k,f.c k=g.c k):f=g:=by
  cases f;cases g;congr;exact funext h
noncomputable def tr (n:Nat) (f:Nat→Rat):List Rat:=(List.range n).map f
theorem qhc (n:Nat) (f:Nat→Rat) (k:Nat):(tr n f).getD k 0=if k<n then f k else 0:=by
  unfold tr
  rw [List.getD_eq_getElem?_getD,List.getElem?_map]
  by_cases h:k<n
  · rw [List.getElem?_range h,if_pos h];rfl
  · rw [if_neg h,List.getElem?_eq_none (by rw [List.length_range];omega)];rfl
theorem qdS:∀ (a b:List Rat) (g h:Nat→Rat) (k:Nat),(∀ i,i≤k→a.getD i 0=b.getD i 0)→(∀ i,i≤k→g i=h i)→cvL a g k=cvL b h k:=by
  intro a
  induction a with
  | nil=>
    intro b
    induction b with
    | nil=>intro g h k _ _;rfl
    | cons y b ih=>
      intro g h k ab gh
      have y0:=ab 0 (Nat.zero_le _)
      simp at y0
      cases k with
      | zero=>rw [qaB,qam,← y0];grind
      | succ k=>
        rw [qaB,qal,← y0]
        have:=ih g h k (fun i hi=>by have:=ab (i+1) (by omega);simpa using this) (fun i hi=>gh i (by omega))
        rw [qaB] at this
        grind
  | cons x a ih=>
    intro b g h k ab gh
    cases b with
    | nil=>
      have x0:=ab 0 (Nat.zero_le _)
      simp at x0
      cases k with
      | zero=>rw [qaB,qam,x0];grind
      | succ k=>
        rw [qaB,qal,x0]
        have:=ih [] g h k (fun i hi=>by have:=ab (i+1) (by omega);simpa using this) (fun i hi=>gh i (by omega))
        rw [qaB] at this
        grind
    | cons y b=>
      have x0:=ab 0 (Nat.zero_le _)
      simp at x0
      cases k with
      | zero=>rw [qam,qam,x0,gh 0 (Nat.le_refl _)]
      | succ k=>
        rw [qal,qal,x0,gh _ (Nat.le_refl _),ih b g h k (fun i hi=>by have:=ab (i+1) (by omega);simpa using this) (fun i hi=>gh i (by omega))]
namespace Sr
noncomputable def zero:Sr:=⟨fun _=>0⟩
noncomputable def one:Sr:=⟨qbZ⟩
noncomputable def add (f g:Sr):Sr:=⟨fun k=>f.c k+g.c k⟩
noncomputable def neg (f:Sr):Sr:=⟨fun k=>- f.c k⟩
noncomputable def mul (f g:Sr):Sr:=⟨fun k=>cvL (tr (k+1) f.c) g.c k⟩
noncomputable def num (x:Rat):Sr:=⟨fun k=>x*qbZ k⟩
theorem qlF (f g:Sr) {n k:Nat} (h:k<n):(mul f g).c k=cvL (tr n f.c) g.c k:=by
  refine qdS _ _ _ _ _ (fun i hi=>?_) (fun _ _=>rfl)
  rw [qhc,qhc,if_pos (by omega),if_pos (by omega)]
theorem qkM (f g:Sr) {n m k:Nat} (h:k<n) (h':k<m):(mul f g).c k=cvL (tr n f.c) (cvL (tr m g.c) qbZ) k:=by
  rw [qlF f g h]
  refine qdS _ _ _ _ _ (fun _ _=>rfl) (fun i hi=>?_)
  rw [qco,qhc,if_pos (by omega)]
theorem mul_comm (f g:Sr):mul f g=mul g f:=ext' fun k=>by
  rw [qkM f g (Nat.lt_succ_self k) (Nat.lt_succ_self k),qkM g f (Nat.lt_succ_self k) (Nat.lt_succ_self k),qed]
theorem mul_assoc (f g h:Sr):mul (mul f g) h=mul f (mul g h):=ext' fun k=>by
  rw [qlF (mul f g) h (Nat.lt_succ_self k),qlF f (mul g h) (Nat.lt_succ_self k)]
  have e1:cvL (tr (k+1) (mul f g).c) h.c k=cvL (qaF (tr (k+1) f.c) (tr (k+1) g.c)) h.c k:=by
    refine qdS _ _ _ _ _ (fun i hi=>?_) (fun _ _=>rfl)
    rw [qhc,if_pos (by omega),← qco,qar,qkM f g (n:=k+1) (m:=k+1) (by omega) (by omega)]
  rw [e1,qar]
  exact qdS _ _ _ _ _ (fun _ _=>rfl) (fun i hi=>(qlF g h (by omega)).symm)
theorem mul_add (f g h:Sr):mul f (add g h)=add (mul f g) (mul f h):=ext' fun k=>by
  show cvL (tr (k+1) f.c) (fun k=>g.c k+h.c k) k=_
  rw [qdR];rfl
theorem mul_one (f:Sr):mul f one=f:=ext' fun k=>by
  show cvL (tr (k+1) f.c) qbZ k=_
  rw [qco,qhc,if_pos (Nat.lt_succ_self k)]
theorem mul_zero (f:Sr):mul f zero=zero:=ext' fun k=>by
  show cvL (tr (k+1) f.c) (fun _=>0) k=0
  have:=qbf (0:Rat) (fun _=>0) (tr (k+1) f.c) k
  rw [show (fun k:Nat=>(0:Rat)*(fun _=>(0:Rat)) k)=fun _=>0 from funext fun _=>by grind] at this
  rw [this];grind
noncomputable def npow (f:Sr):Nat→Sr
  | 0=>one
  | n+1=>mul (npow f n) f
noncomputable instance:Add Sr:=⟨add⟩
noncomputable instance:Mul Sr:=⟨mul⟩
noncomputable instance:Neg Sr:=⟨neg⟩
noncomputable instance:Sub Sr:=⟨fun f g=>add f (neg g)⟩
noncomputable instance:NatCast Sr:=⟨fun n=>num (n:Rat)⟩
noncomputable instance:IntCast Sr:=⟨fun n=>num (n:Rat)⟩
noncomputable instance (n:Nat):OfNat Sr n:=⟨num (n:Rat)⟩
noncomputable instance:Pow Sr Nat:=⟨npow⟩
noncomputable instance:SMul Nat Sr:=⟨fun n f=>mul (num (n:Rat)) f⟩
noncomputable instance:SMul Int Sr:=⟨fun n f=>mul (num (n:Rat)) f⟩
theorem num0:num 0=zero:=ext' fun k=>by show 0*qbZ k=(0:Rat);grind
theorem num1:num 1=one:=ext' fun k=>by show 1*qbZ k=(qbZ k:Rat);grind
theorem qnY (x y:Rat):num (x+y)=add (num x) (num y):=ext' fun k=>by show (x+y)*qbZ k=x*qbZ k+y*qbZ k;grind
theorem qkN (x:Rat):num (-x)=neg (num x):=ext' fun k=>by show (-x)*qbZ k = -(x*qbZ k);grind
theorem add_comm (f g:Sr):add f g=add g f:=ext' fun k=>by show f.c k+g.c k=g.c k+f.c k;grind
theorem add_assoc (f g h:Sr):add (add f g) h=add f (add g h):=ext' fun k=>by show f.c k+g.c k+h.c k=f.c k+(g.c k+h.c k);grind
theorem add_zero (f:Sr):add f zero=f:=ext' fun k=>by show f.c k+0=f.c k;grind
theorem qkO (f:Sr):add (neg f) f=zero:=ext' fun k=>by show -f.c k+f.c k=0;grind
theorem add_mul (f g h:Sr):mul (add f g) h=add (mul f h) (mul g h):=by rw [mul_comm,mul_add,mul_comm h f,mul_comm h g]
theorem neg_mul (f g:Sr):mul (neg f) g=neg (mul f g):=by
  have h:add (mul (neg f) g) (mul f g)=zero:=by rw [← add_mul,qkO,mul_comm,mul_zero]
  have h2:add (neg (mul f g)) (mul f g)=zero:=qkO _
  refine ext' fun k=>?_
  have a:=congrFun (congrArg Sr.c h) k
  have b:=congrFun (congrArg Sr.c h2) k
  have a:(mul (neg f) g).c k+(mul f g).c k=0:=a
  have b:(neg (mul f g)).c k+(mul f g).c k=0:=b
  grind
noncomputable instance:Lean.Grind.CommRing Sr where
  add_zero f:=(congrArg (add f) num0).trans (add_zero f)
  add_comm:=add_comm
  add_assoc:=add_assoc
  mul_assoc:=mul_assoc
  mul_comm:=mul_comm
  mul_one f:=(congrArg (mul f) num1).trans (mul_one f)
  one_mul f:=(congrArg (fun z=>mul z f) num1).trans ((mul_comm _ _).trans (mul_one f))
  left_distrib:=mul_add
  right_distrib:=add_mul
  zero_mul f:=by show mul (num 0) f=num 0;rw [num0,mul_comm,mul_zero]
  mul_zero f:=by show mul f (num 0)=num 0;rw [num0,mul_zero]
  pow_zero f:=num1.symm
  pow_succ f n:=rfl
  ofNat_succ n:=by
    show num ((n+1:Nat):Rat)=add (num (n:Rat)) (num 1)
    rw [← qnY];push_cast;rfl
  ofNat_eq_natCast n:=rfl
  nsmul_eq_natCast_mul n f:=rfl
  sub_eq_add_neg f g:=rfl
  neg_add_cancel f:=(qkO f).trans num0.symm
  intCast_neg n:=by show num ((-n:Int):Rat)=neg (num (n:Rat));rw [← qkN];push_cast;rfl
  intCast_ofNat n:=rfl
  neg_zsmul n f:=by show mul (num ((-n:Int):Rat)) f=neg (mul (num (n:Rat)) f);rw [show ((-n:Int):Rat) = -(n:Rat) by push_cast;rfl,qkN,neg_mul]
  zsmul_natCast_eq_nsmul n f:=rfl
end Sr
end Bs
namespace Bs
open PySem L2
namespace Sr
noncomputable def L (a:List Rat):Sr:=⟨cvL a qbZ⟩
theorem L_mul (a:List Rat) (g:Sr):L a*g=⟨cvL a g.c⟩:=ext' fun k=>by
  refine qdS _ _ _ _ _ (fun i hi=>?_) (fun _ _=>rfl)
  rw [qhc,if_pos (by omega)]
  exact qco a i
noncomputable def Bn (f:Sr) (n:Nat):Prop:=∀ k,n≤k→f.c k=0
theorem Bn.row {f:Sr} {n:Nat} (h:Bn f n):L (tr n f.c)=f:=ext' fun k=>by
  show cvL (tr n f.c) qbZ k=f.c k
  rw [qco,qhc]
  by_cases hk:k<n
  · rw [if_pos hk]
  · rw [if_neg hk,h k (by omega)]
noncomputable def Pol (f:Sr):Prop:=∃ a,f=L a
theorem Pol.L (a:List Rat):Pol (L a):=⟨a,rfl⟩
theorem Bn.pol {f:Sr} {n:Nat} (h:Bn f n):Pol f:=⟨_,h.row.symm⟩
theorem L_bn (a:List Rat):Bn (Sr.L a) a.length:=fun k hk=>by
  show cvL a qbZ k=0
  rw [qco,List.getD_eq_getElem?_getD,List.getElem?_eq_none hk];rfl
theorem Pol.bn {f:Sr} (h:Pol f):∃ n,Bn f n:=let ⟨a,e⟩:=h;⟨a.length,e ▸ L_bn a⟩
theorem Pol.add {f g:Sr} (h:Pol f) (h':Pol g):Pol (f+g):=by
  obtain ⟨a,rfl⟩:=h;obtain ⟨b,rfl⟩:=h'
  exact ⟨qaI a b,ext' fun k=>(qav qbZ a b k).symm⟩
theorem Pol.mul {f g:Sr} (h:Pol f) (h':Pol g):Pol (f*g):=by
  obtain ⟨a,rfl⟩:=h;obtain ⟨b,rfl⟩:=h'
  exact ⟨qaF a b,by rw [L_mul];exact ext' fun k=>(qar qbZ a b k).symm⟩
theorem Pol.num (x:Rat):Pol (num x):=⟨[x],ext' fun k=>by
  show x*qbZ k=cvL [x] qbZ k
  cases k with
  | zero=>rw [qam];grind
  | succ k=>rw [qal,qaB];grind⟩
theorem Pol.nat (n:Nat):Pol (OfNat.ofNat n:Sr):=Pol.num (n:Rat)
theorem Pol.neg {f:Sr} (h:Pol f):Pol (-f):=by
  have e:-f=Sr.num (-1)*f:=by
    have:Sr.num (-1)=(-1:Sr):=qkN 1
    rw [this];grind
  rw [e];exact (Pol.num _).mul h
theorem Pol.sub {f g:Sr} (h:Pol f) (h':Pol g):Pol (f - g):=by
  have e:f - g=f + -g:=by grind
  rw [e];exact h.add h'.neg
theorem Pol.pow {f:Sr} (h:Pol f):∀ n:Nat,Pol (f ^ n)
  | 0=>(num1 ▸ Pol.num 1:Pol one)
  | n+1=>(h.pow n).mul h
theorem qhd {f:Sr}:∀ n,Bn f n→f=0∨∃ m,m<n∧f.c m≠0∧Bn f (m+1)
  | 0,h=>.inl (ext' fun k=>by rw [h k (Nat.zero_le _)];show 0=((0:Nat):Rat)*qbZ k;push_cast;grind)
  | n+1,h=>by
    by_cases z:f.c n=0
    · rcases qhd n (fun k hk=>by rcases Nat.eq_or_lt_of_le hk with e | e;exact e ▸ z;exact h k e) with q | ⟨m,m1,m2,m3⟩
      · exact .inl q
      · exact .inr ⟨m,by omega,m2,m3⟩
    · exact .inr ⟨n,by omega,z,h⟩
theorem zero_c (k:Nat):(0:Sr).c k=0:=by show ((0:Nat):Rat)*qbZ k=0;push_cast;grind
theorem cancel {f g h:Sr} (pf:Pol f) (pg:Pol g) (ph:Pol h) (h0:h≠0) (e:f*h=g*h):f=g:=by
  obtain ⟨a,rfl⟩:=pf;obtain ⟨b,rfl⟩:=pg
  obtain ⟨n,hn⟩:=ph.bn
  rcases qhd n hn with z | ⟨m,_,m1,m2⟩
  · exact absurd z h0
  rw [L_mul,L_mul] at e
  exact ext' fun k=>qqT m1 (fun i hi=>m2 i hi) (fun k=>congrFun (congrArg Sr.c e) k) qbZ k
theorem qsb {f g:Sr} (pf:Pol f) (pg:Pol g) (f0:f≠0) (g0:g≠0):f*g≠0:=fun e=>f0 (cancel pf (Pol.nat 0) pg g0 (by rw [e];grind))
noncomputable def X (n:Nat):Sr:=L (List.replicate n 0++[1])
theorem qpk (n:Nat) (g:Sr) (k:Nat):(X n*g).c k=if n≤k then g.c (k - n) else 0:=by
  unfold X
  rw [L_mul]
  show cvL (List.replicate n 0++[1]) g.c k=_
  rw [qcG]
  unfold upS
  by_cases h:n≤k
  · rw [if_pos h,if_pos h]
    cases k - n with
    | zero=>rw [qam];grind
    | succ k=>rw [qal,qaB];grind
  · rw [if_neg h,if_neg h]
theorem num_mul (x:Rat) (g:Sr) (k:Nat):(num x*g).c k=x*g.c k:=by
  have:num x=L [x]:=ext' fun k=>by
    show x*qbZ k=cvL [x] qbZ k
    cases k with
    | zero=>rw [qam];grind
    | succ k=>rw [qal,qaB];grind
  rw [this,L_mul]
  show cvL [x] g.c k=_
  cases k with
  | zero=>rw [qam];grind
  | succ k=>rw [qal,qaB];grind
theorem qs9 (f g:Sr) (k:Nat):(f - g).c k=f.c k - g.c k:=by show f.c k + - g.c k=_;grind
theorem divide {g:Sr} {m:Nat} (g0:g.c m≠0) (hg:Bn g (m+1)):∀ (n:Nat) (f:Sr),Bn f n→∃ q r,Pol q∧Bn r m∧f=q*g+r
  | 0,f,h=>⟨0,f,Pol.nat 0,fun k _=>h k (Nat.zero_le _),by grind⟩
  | n+1,f,h=>by
    by_cases c:n+1≤m
    · exact ⟨0,f,Pol.nat 0,fun k hk=>h k (by omega),by grind⟩
    · obtain ⟨q,r,pq,br,e⟩:=divide g0 hg n (f - num (f.c n*(g.c m)⁻¹)*(X (n - m)*g)) fun k hk=>by
        rw [qs9,num_mul,qpk,if_pos (by omega)]
        rcases Nat.eq_or_lt_of_le hk with z | z
        · rw [← z,show n - (n - m)=m by omega]
          have:(g.c m)⁻¹*g.c m=1:=Rat.inv_mul_cancel _ g0
          grind
        · rw [h k z,hg (k - (n - m)) (by omega)];grind
      exact ⟨q+num (f.c n*(g.c m)⁻¹)*X (n - m),r,pq.add ((Pol.num _).mul (Pol.L _)),br,by grind⟩
theorem qp6:∀ (n:Nat) (S T:Sr),Pol S→Bn T n→(S≠0∨T≠0)→∃ g r e U W,Pol g∧Pol r∧Pol e∧Pol U∧Pol W∧g≠0∧S=g*r∧T=g*e∧U*r+W*e=1:=by
  intro n
  induction n using Nat.strongRecOn with
  | _ n ih=>
    intro S T pS bT h
    by_cases z:T=0
    · exact ⟨S,1,0,1,0,pS,Pol.nat 1,Pol.nat 0,Pol.nat 1,Pol.nat 0,by rcases h with h | h;exact h;exact absurd z h,by grind,by rw [z];grind,by grind⟩
    · rcases qhd n bT with q | ⟨m,mn,m0,mb⟩
      · exact absurd q z
      obtain ⟨a,rfl⟩:=pS
      obtain ⟨q,r,pq,br,e⟩:=divide m0 mb _ _ (L_bn a)
      obtain ⟨g,r1,e1,U,W,pg,pr,pe,pU,pW,g0,h1,h2,h3⟩:=ih m mn T r bT.pol br (.inl z)
      exact ⟨g,q*r1+e1,r1,W,U - W*q,pg,(pq.mul pr).add pe,pr,pW,pU.sub (pW.mul pq),g0,by rw [e,h1,h2];grind,h1,by grind⟩
noncomputable def D (f:Sr):Sr:=⟨fun k=>((k:Rat)+1)*f.c (k+1)⟩
theorem qsc (f g:Sr):D (f+g)=D f+D g:=ext' fun k=>by show ((k:Rat)+1)*(f.c (k+1)+g.c (k+1))=((k:Rat)+1)*f.c (k+1)+((k:Rat)+1)*g.c (k+1);grind
theorem D_num (x:Rat) (g:Sr):D (num x*g)=num x*D g:=ext' fun k=>by
  rw [num_mul]
  show ((k:Rat)+1)*(num x*g).c (k+1)=x*(((k:Rat)+1)*g.c (k+1))
  rw [num_mul];grind
theorem D_X (g:Sr):D (X 1*g)=g+X 1*D g:=ext' fun k=>by
  show ((k:Rat)+1)*(X 1*g).c (k+1)=g.c k+(X 1*D g).c k
  rw [qpk,qpk,if_pos (by omega)]
  cases k with
  | zero=>rw [if_neg (by omega)];push_cast;show ((0:Nat)+1)*g.c 0=_;push_cast;grind
  | succ k=>rw [if_pos (by omega)];show (((k+1:Nat):Rat)+1)*g.c (k+1)=g.c (k+1)+((k:Rat)+1)*g.c (k+1);push_cast;grind
theorem qp7 (x:Rat) (a:List Rat):L (x::a)=num x+X 1*L a:=ext' fun k=>by
  show cvL (x::a) qbZ k=x*qbZ k+(X 1*L a).c k
  rw [qpk,qcQ]
  cases k with
  | zero=>rw [if_neg (by omega)];rfl
  | succ k=>rw [if_pos (by omega)];rfl
theorem qta:D (L [])=0:=ext' fun k=>by show ((k:Rat)+1)*cvL [] qbZ (k+1)=_;rw [qaB,zero_c];grind
theorem L_nil:L []=0:=ext' fun k=>by rw [zero_c];rfl
theorem qnZ (x:Rat):D (num x)=0:=ext' fun k=>by show ((k:Rat)+1)*(x*qbZ (k+1))=_;rw [zero_c];show ((k:Rat)+1)*(x*0)=0;grind
theorem qp8 (g:Sr):∀ a:List Rat,D (L a*g)=D (L a)*g+L a*D g
  | []=>by
    have z:(0:Sr)=num 0:=rfl
    rw [qta,L_nil,z,D_num,← z]
    grind
  | x::a=>by
    have ih:=qp8 g a
    have e:L (x::a)*g=num x*g+X 1*(L a*g):=by rw [qp7];grind
    rw [e,qsc,D_num,D_X,ih,qp7,qsc,D_X,qnZ]
    grind
theorem D_mul {f:Sr} (pf:Pol f) (g:Sr):D (f*g)=D f*g+f*D g:=by
  obtain ⟨a,rfl⟩:=pf
  exact qp8 g a
theorem qtb {f:Sr} {n:Nat} (h:Bn f (n+1)):Bn (D f) n:=fun k hk=>by show ((k:Rat)+1)*f.c (k+1)=0;rw [h (k+1) (by omega)];grind
theorem qt4 {f:Sr} {n:Nat} (h:f.c (n+1)≠0):D f≠0:=fun e=>by
  have:=congrFun (congrArg Sr.c e) n
  rw [zero_c] at this
  have this:((n:Rat)+1)*f.c (n+1)=0:=this
  rcases Rat.mul_eq_zero.mp this with z | z
  · have:((n:Rat)+1)=((n+1:Nat):Rat):=by push_cast;rfl
    rw [this] at z
    have:n+1=0:=by exact_mod_cast z
    omega
  · exact h z
theorem Pol.D {f:Sr} (h:Pol f):Pol (D f):=by
  obtain ⟨n,hn⟩:=h.bn
  exact Bn.pol (n:=n) (qtb (n:=n) fun k hk=>hn k (by omega))
theorem rad_pow:∀ (n:Nat) (S R c:Sr),Bn S n→S≠0→Pol R→Pol c→D S*R=c*S→∃ (m:Nat) (a:Sr),Pol a∧R ^ m=a*S:=by
  intro n
  induction n using Nat.strongRecOn with
  | _ n ih=>
    intro S R c bS S0 pR pc e
    rcases qhd n bS with z | ⟨m,mn,m0,mb⟩
    · exact absurd z S0
    cases m with
    | zero=>
      refine ⟨0,num (S.c 0)⁻¹,Pol.num _,ext' fun k=>?_⟩
      rw [num_mul]
      have e1:(R ^ 0).c k=qbZ k:=rfl
      rw [e1]
      cases k with
      | zero=>show 1=_;have:(S.c 0)⁻¹*S.c 0=1:=Rat.inv_mul_cancel _ m0;grind
      | succ k=>show 0=_;rw [mb (k+1) (by omega)];grind
    | succ m=>
      obtain ⟨g,r,e1,U,W,pg,pr,pe,pU,pW,g0,h1,h2,h3⟩:=qp6 _ S (D S) mb.pol (qtb mb) (.inl S0)
      have sR:e1*R=c*r:=cancel (pe.mul pR) (pc.mul pr) pg g0 (by rw [h2,h1] at e;grind)
      have hR:R=(U*R+W*c)*r:=by
        have:R=(U*r+W*e1)*R:=by rw [h3];grind
        grind
      have pt:Pol (U*R+W*c):=(pU.mul pR).add (pW.mul pc)
      have dS:D g*r=g*(e1 - D r):=by
        have:=D_mul pg r
        rw [← h1,h2] at this
        grind
      have gR:D g*R=(e1 - D r)*(U*R+W*c)*g:=by
        have:D g*R=D g*r*(U*R+W*c):=by generalize U*R+W*c=t at hR;rw [hR];grind
        rw [this,dS]
        grind
      obtain ⟨N,hN⟩:=pg.bn
      obtain ⟨t,_,t0,tb⟩:=(qhd N hN).resolve_left g0
      have tm:t≤m:=by
        rcases Nat.lt_or_ge m t with q | q
        · exfalso
          obtain ⟨E,rfl⟩:=pe
          have h2':D S=L E*g:=by rw [h2];grind
          rw [L_mul] at h2'
          refine qt4 m0 (ext' fun k=>?_)
          rw [h2',zero_c]
          exact qgI E (qkL t0 (fun i hi=>tb i hi) E fun k hk=>by
            exact (congrFun (congrArg Sr.c h2') k).symm.trans (qtb mb k (by omega))) k
        · exact q
      obtain ⟨M,a,pa,ea⟩:=ih (t+1) (by omega) g R _ tb g0 pR ((pe.sub pr.D).mul pt) gR
      refine ⟨M+1,a*(U*R+W*c),pa.mul pt,?_⟩
      have:R ^ (M+1)=R ^ M*R:=rfl
      rw [this,ea,h1]
      have:a*(U*R+W*c)*(g*r)=a*g*((U*R+W*c)*r):=by grind
      rw [this,← hR]
noncomputable def Cs (f g:Sr):Prop:=∃ U W,Pol U∧Pol W∧U*f+W*g=1
theorem Cs.mul {f g h:Sr} (pf:Pol f) (pg:Pol g) (h1:Cs f g) (h2:Cs f h):Cs f (g*h):=by
  obtain ⟨U,W,pU,pW,e⟩:=h1
  obtain ⟨U',W',pU',pW',e'⟩:=h2
  refine ⟨U+W*U'*g,W*W',pU.add ((pW.mul pU').mul pg),pW.mul pW',?_⟩
  have:(U+W*U'*g)*f+W*W'*(g*h)=U*f+W*g*(U'*f+W'*h):=by grind
  rw [this,e',← e];grind
theorem Cs.one {f:Sr}:Cs f 1:=⟨0,1,Pol.nat 0,Pol.nat 1,by grind⟩
theorem Cs.pow {f g:Sr} (pf:Pol f) (pg:Pol g) (h:Cs f g):∀ n:Nat,Cs f (g ^ n)
  | 0=>⟨0,1,Pol.nat 0,Pol.nat 1,by grind⟩
  | n+1=>Cs.mul pf (pg.pow n) (Cs.pow pf pg h n) h
theorem Cs.add {f g z c:Sr} (h:Cs f g) (pc:Pol c) (e:z=f+c*g):Cs z g:=by
  obtain ⟨U,W,pU,pW,q⟩:=h
  exact ⟨U,W - U*c,pU,pW.sub (pU.mul pc),by rw [e];grind⟩
theorem Cs.neg {f g:Sr} (h:Cs f g):Cs (-f) g:=by
  obtain ⟨U,W,pU,pW,q⟩:=h
  exact ⟨-U,W,pU.neg,pW,by grind⟩
end Sr
end Bs
namespace Bs
open PySem L2
namespace Sr
theorem qn0 (f:Sr) (n:Nat):f ^ (n+1)=f ^ n*f:=rfl
theorem qn1 (f:Sr):f ^ 0=1:=num1.symm
theorem qsd:(1:Sr)≠0:=fun h=>by
  have:=congrFun (congrArg Sr.c h) 0
  rw [zero_c] at this
  have this:((1:Nat):Rat)*qbZ 0=0:=this
  have e:(qbZ 0:Rat)=1:=rfl
  rw [e] at this
  push_cast at this
  grind
theorem pow_ne {f:Sr} (pf:Pol f) (f0:f≠0):∀ n:Nat,f ^ n≠0
  | 0=>by rw [qn1];exact qsd
  | n+1=>by rw [qn0];exact qsb (pf.pow n) pf (pow_ne pf f0 n) f0
theorem qse {d:Sr} (pd:Pol d):∀ n:Nat,d*D (d ^ n)=num (n:Rat)*d ^ n*D d
  | 0=>by
    rw [qn1,show D 1=0 from qnZ _]
    show d*0=num ((0:Nat):Rat)*1*D d
    rw [show num ((0:Nat):Rat)=0 from rfl]
    grind
  | n+1=>by
    rw [qn0,D_mul (pd.pow n),show num ((n+1:Nat):Rat)=num (n:Rat)+1 by rw [show ((n+1:Nat):Rat)=(n:Rat)+((1:Nat):Rat) by push_cast;rfl,qnY];rfl]
    have h:=qse pd n
    grind
theorem qjR {b:Nat→Rat} {d:Nat} (h:∀ k,d<k→b k=0):∀ (a:List Rat) (k:Nat),d+a.length≤k→cvL a b k=0
  | [],_,_=>rfl
  | x::a,0,hk=>by simp at hk
  | x::a,k+1,hk=>by
    rw [qal,qjR h a k (by simp at hk;omega),h (k+1) (by simp at hk;omega)]
    grind
theorem top_mul {f g:Sr} {m n:Nat} (hf:Bn f (m+1)) (hg:Bn g (n+1)):(f*g).c (m+n)=f.c m*g.c n∧Bn (f*g) (m+n+1):=by
  have hi:∀ (a:List Rat) (k:Nat),n+a.length≤k→cvL a g.c k=0:=qjR fun k hk=>hg k hk
  rw [← hf.row,L_mul]
  refine ⟨?_,fun k hk=>hi _ k (by unfold tr;rw [List.length_map,List.length_range];omega)⟩
  show cvL (tr (m+1) f.c) g.c (m+n)=_
  have e:tr (m+1) f.c=tr m f.c++[f.c m]:=by unfold tr;rw [List.range_succ,List.map_append];rfl
  have tl:(tr m f.c).length=m:=by unfold tr;rw [List.length_map,List.length_range]
  rw [e,qbi,hi (tr m f.c) _ (by rw [tl];omega),tl]
  unfold upS
  rw [if_pos (by omega),show m+n - m=n by omega]
  have z:(L (tr m f.c++[f.c m])).c m=f.c m:=by
    rw [← e]
    exact congrFun (congrArg Sr.c hf.row) m
  rw [z]
  grind
theorem qqU {d g:Sr} (pd:Pol d) (pg:Pol g) (g0:g≠0) (h:∀ k:Nat,∃ q,Pol q∧g=d ^ k*q):∃ x:Rat,x≠0∧d=num x:=by
  obtain ⟨n,hn⟩:=pd.bn
  obtain ⟨N,hN⟩:=pg.bn
  rcases qhd n hn with z | ⟨m,_,m0,mb⟩
  · obtain ⟨q,_,e⟩:=h 1
    exact absurd (by rw [e,qn0,qn1,z];grind) g0
  rcases Nat.eq_zero_or_pos m with z | mp
  · subst z
    refine ⟨d.c 0,m0,ext' fun k=>?_⟩
    show d.c k=d.c 0*qbZ k
    cases k with
    | zero=>show _=d.c 0*1;grind
    | succ k=>rw [mb (k+1) (by omega)];show (0:Rat)=d.c 0*0;grind
  exfalso
  have key:∀ (k:Nat) (q:Sr),Pol q→q≠0→∃ j,k*m≤j∧(d ^ k*q).c j≠0∧Bn (d ^ k*q) (j+1):=fun k=>by
    induction k with
    | zero=>
      intro q pq q0
      obtain ⟨r,hr⟩:=pq.bn
      rcases qhd r hr with z | ⟨j,_,j0,jb⟩
      · exact absurd z q0
      · refine ⟨j,by omega,?_⟩
        rw [qn1,show (1:Sr)*q=q by grind]
        exact ⟨j0,jb⟩
    | succ k ih=>
      intro q pq q0
      obtain ⟨j,j1,j2,j3⟩:=ih q pq q0
      obtain ⟨t1,t2⟩:=top_mul mb j3
      rw [show d ^ (k+1)*q=d*(d ^ k*q) by rw [qn0];grind]
      refine ⟨m+j,by rw [Nat.succ_mul];omega,?_,t2⟩
      rw [t1]
      intro z
      rcases Rat.mul_eq_zero.mp z with z | z
      · exact m0 z
      · exact j2 z
  obtain ⟨q,pq,e⟩:=h (N+1)
  have q0:q≠0:=fun z=>g0 (by rw [e,z];grind)
  obtain ⟨j,j1,j2,_⟩:=key (N+1) q pq q0
  rw [← e] at j2
  refine j2 (hN j ?_)
  have:(N+1)*1≤(N+1)*m:=Nat.mul_le_mul_left _ mp
  omega
theorem Cs.of_unit {f g d U W:Sr} {x:Rat} (x0:x≠0) (e:d=num x) (pU:Pol U) (pW:Pol W) (h:U*f+W*g=d):Cs f g:=by
  refine ⟨num (x⁻¹)*U,num (x⁻¹)*W,(Pol.num _).mul pU,(Pol.num _).mul pW,?_⟩
  have i:num (x⁻¹)*num x=1:=ext' fun k=>by
    rw [num_mul]
    show x⁻¹*(x*qbZ k)=_
    have:x⁻¹*x=1:=Rat.inv_mul_cancel _ x0
    show _=((1:Nat):Rat)*qbZ k
    push_cast
    grind
  rw [e] at h
  grind
theorem simple_cop {f g l m:Sr} (pg:Pol g) (pl:Pol l) (pm:Pol m) (f0:f≠0) (h1:f=g*l) (h2:D f=g*m) (c:Cs l m):Cs l (D l):=by
  have g0:g≠0:=fun z=>f0 (by rw [h1,z];grind)
  have l0:l≠0:=fun z=>f0 (by rw [h1,z];grind)
  obtain ⟨n,hn⟩:=pl.D.bn
  obtain ⟨d,r,e,U,W,pd,pr,pe,pU,pW,d0,e1,e2,e3⟩:=qp6 n l (D l) pl hn (.inl l0)
  obtain ⟨U1,W1,pU1,pW1,e4⟩:=c
  have hs:D g*l=g*(m - D l):=by
    have:=D_mul pg l
    rw [← h1,h2] at this
    grind
  have dr:D d*r=d*(e - D r):=by
    have:=D_mul pd r
    rw [← e1,e2] at this
    grind
  have dv:∀ k:Nat,∃ q,Pol q∧g=d ^ k*q:=fun k=>by
    induction k with
    | zero=>exact ⟨g,pg,by rw [qn1];grind⟩
    | succ k ih=>
      obtain ⟨h,ph,eh⟩:=ih
      have a1:d*D g=d ^ k*(num (k:Rat)*D d*h+d*D h):=by
        rw [eh,D_mul (pd.pow k)]
        have:=qse pd k
        grind
      have a2:d ^ k*((num (k:Rat)*D d*h+d*D h)*r)=d ^ k*(h*(m - D l)):=by
        have:d*D g*r=g*(m - D l):=by
          rw [← hs,show D g*l=D g*(d*r) from congrArg _ e1]
          grind
        rw [a1] at this
        rw [eh] at this
        grind
      have a3:(num (k:Rat)*D d*h+d*D h)*r=h*(m - D l):=
        cancel ((((Pol.num _).mul pd.D).mul ph |>.add (pd.mul ph.D)).mul pr) (ph.mul (pm.sub pl.D)) (pd.pow k) (pow_ne pd d0 k) (by grind)
      have a4:h*m=d*(num (k:Rat)*h*(e - D r)+D h*r+h*e):=by
        rw [e2] at a3
        have:num (k:Rat)*D d*h*r=num (k:Rat)*h*(d*(e - D r)):=by rw [← dr];grind
        grind
      refine ⟨h*U1*r+W1*(num (k:Rat)*h*(e - D r)+D h*r+h*e),((ph.mul pU1).mul pr).add (pW1.mul ((((Pol.num _).mul ph).mul (pe.sub pr.D) |>.add (ph.D.mul pr)).add (ph.mul pe))),?_⟩
      have a5:h=d*(h*U1*r+W1*(num (k:Rat)*h*(e - D r)+D h*r+h*e)):=by
        rw [e1] at e4
        have:h=h*(U1*(d*r)+W1*m):=by rw [e4];grind
        grind
      rw [qn0,eh]
      grind
  obtain ⟨x,x0,ex⟩:=qqU pd pg g0 dv
  exact Cs.of_unit x0 ex pU pW (by rw [e2,show U*l=U*(d*r) from congrArg _ e1];grind)
theorem Cs.parts {l p q r:Sr} (pl:Pol l) (pp:Pol p) (pq:Pol q) (pr:Pol r) (c:Cs l (D l)) (e:l=p*q*r):Cs p q:=by
  obtain ⟨U,W,pU,pW,h⟩:=c
  have d1:D l=D p*(q*r)+p*(D q*r+q*D r):=by
    rw [e,show p*q*r=p*(q*r) by grind,D_mul pp,D_mul pq]
  refine ⟨U*(q*r)+W*(D q*r+q*D r),W*(D p*r),(pU.mul (pq.mul pr)).add (pW.mul ((pq.D.mul pr).add (pq.mul pr.D))),pW.mul (pp.D.mul pr),?_⟩
  rw [d1,e] at h
  grind
end Sr
end Bs
namespace Bs
open PySem L2
namespace Sr
noncomputable def ev:List Rat→Rat→Rat
  | [],_=>0
  | a::l,x=>a+x*ev l x
theorem qkP:∀ (l:List Rat) (x:Rat),(∀ k,l.getD k 0=0)→ev l x=0
  | [],_,_=>rfl
  | a::l,x,h=>by
    have h0:a=0:=h 0
    show a+x*ev l x=0
    rw [h0,qkP l x fun k=>by have:=h (k+1);rw [List.getD_cons_succ] at this;exact this];grind
theorem ev_congr':∀ (a b:List Rat) (x:Rat),(∀ k,a.getD k 0=b.getD k 0)→ev a x=ev b x
  | [],b,x,h=>(qkP b x fun k=>(h k).symm.trans (by simp)).symm
  | a::l,[],x,h=>qkP (a::l) x fun k=>(h k).trans (by simp)
  | a::l,b::m,x,h=>by
    have h0:a=b:=h 0
    show a+x*ev l x=b+x*ev m x
    rw [h0,ev_congr' l m x fun k=>by have:=h (k+1);rw [List.getD_cons_succ,List.getD_cons_succ] at this;exact this]
theorem ev_congr {a b:List Rat} (h:L a=L b) (x:Rat):ev a x=ev b x:=ev_congr' a b x fun k=>by rw [← qco,← qco];exact congrFun (congrArg Sr.c h) k
theorem qp9:∀ (a b:List Rat) (x:Rat),ev (qaI a b) x=ev a x+ev b x
  | [],b,x=>by show ev b x=0+ev b x;grind
  | a::l,[],x=>by rw [qdd];show _=_+0;grind
  | a::l,b::m,x=>by
    show (a+b)+x*ev (qaI l m) x=a+x*ev l x+(b+x*ev m x)
    rw [qp9 l m x];grind
theorem ev_scal (c:Rat):∀ (a:List Rat) (x:Rat),ev (a.map (c*·)) x=c*ev a x
  | [],x=>by show (0:Rat)=c*0;grind
  | a::l,x=>by
    show c*a+x*ev (l.map (c*·)) x=c*(a+x*ev l x)
    rw [ev_scal c l x];grind
theorem ev_mul:∀ (a b:List Rat) (x:Rat),ev (qaF a b) x=ev a x*ev b x
  | [],b,x=>by show (0:Rat)=0*_;grind
  | a::l,b,x=>by
    show ev (qaI (b.map (a*·)) (0::qaF l b)) x=(a+x*ev l x)*ev b x
    rw [qp9,ev_scal]
    show a*ev b x+(0+x*ev (qaF l b) x)=_
    rw [ev_mul l b x];grind
theorem L_scal (s:Rat) (a:List Rat):L (a.map (s*·))=num s*L a:=ext' fun k=>by rw [num_mul];exact qaq s qbZ a k
theorem L_mulRow (a b:List Rat):L (qaF a b)=L a*L b:=by rw [L_mul];exact ext' fun k=>qar qbZ a b k
theorem num_L (x:Rat):num x=L [x]:=ext' fun k=>by
  show x*qbZ k=cvL [x] qbZ k
  cases k with
  | zero=>rw [qam];grind
  | succ k=>rw [qal,qaB];grind
theorem num_num (x y:Rat):num x*num y=num (x*y):=ext' fun k=>by
  rw [num_mul]
  show x*(y*qbZ k)=x*y*qbZ k
  grind
theorem num_one:num 1=1:=congrArg num (show (1:Rat)=((1:Nat):Rat) by push_cast;rfl)
theorem num_inv {x:Rat} (h:x≠0):num x⁻¹*num x=1:=by
  rw [num_num,Rat.inv_mul_cancel _ h]
  exact num_one
end Sr
end Bs
namespace Bs
open PySem
noncomputable def qb1 (K:W.Frag):Addr:=match PySem.W.nsIn K PySem.mainGlobals "EXPONENTS" with | some (some (.ref a))=>a | _=>0
end Bs
namespace Bs
open PySem L2
noncomputable def evF (f:Nat→Rat) (n:Nat) (x:Rat):Nat→Rat
  | 0=>0
  | d+1=>f (n - 1 - d)+x*evF f n x d
noncomputable def sy (c:Int) (R:Nat→Int) (n:Nat):Nat→Int
  | 0=>R (n - 1)
  | d+1=>R (n - 1 - (d+1))+c*sy c R n d
noncomputable abbrev Nm (H:Hp) (p:Addr) (t d:Int):Prop:=H p=some (.tup [.int t,.int d])
noncomputable def qaH (_:W.Frag):Sp:=fun vs H Q _=>∃ a b:Int,vs=[.int a,.int b]∧Q (.int ((Int.gcd a b:Nat):Int)) H
noncomputable def qjS (K:W.Frag):Sp:=fun vs H Q _=>∃ (a:Addr) (ns:List Int),vs=[.ref a]∧SqL K H a (ns.map V.int)∧ns.length≤63∧∀ H',Q (.bl true) H'
noncomputable def qdf (_:W.Frag):Sp:=fun vs H Q _=>∃ (x n:Int) (b:Nat),vs=[.int x,.int n]∧0≤n∧Bd b x∧b*n.toNat+1≤200000∧Q (.int (x ^ n.toNat)) H
noncomputable def qbT (n:Nat) (f:Nat→Int):List V:=((List.range n).map f).map V.int
noncomputable def qcs (ns:List Int):Nat→Nat
  | 0=>0
  | m+1=>if ns.getD m 1=0 then qcs ns m else m+1
noncomputable def qdT (ns:List Int):List Int:=ns.take (qcs ns ns.length)
noncomputable def Pl (H:Hp) (r:Addr) (L:List Nu):Prop:=∃ zs,H r=some (.tup zs)∧Nums H zs L
noncomputable def qa1 (_:W.Frag):Sp:=fun vs H Q _=>∃ (p:Addr) (ns:List Int),vs=[.ref p]∧H p=some (.lst (ns.map V.int))∧∀ r,H r=none→Q (.ref r) (upd H r (.lst ((qdT ns).map V.int)))
noncomputable def Tz (ns:List Int):Prop:=ns=[]∨co ns (ns.length - 1)≠0
noncomputable def SDs (H:Hp):List V→List (List Int)→Prop
  | [],[]=>True
  | x::xs,r::rs=>(∃ p,x=.ref p∧H p=some (.lst (r.map V.int)))∧SDs H xs rs
  | _,_=>False
noncomputable def SD (H:Hp) (p:Addr) (rs:List (List Int)):Prop:=∃ xs,H p=some (.lst xs)∧SDs H xs rs
noncomputable def ZipR (R:List Int→List Int→List Int→Prop):List (List Int)→List (List Int)→List (List Int)→Prop
  | [],[],[]=>True
  | a::as,b::bs,c::cs=>R a b c∧ZipR R as bs cs
  | _,_,_=>False
noncomputable def qcA (_:W.Frag):Sp:=fun vs H Q _=>∃ (p:Addr) (ns:List Int) (st:Int),vs=[.ref p,.int st]∧H p=some (.lst (ns.map V.int))∧ns.length≤1000∧∀ (g:Int) (H':Hp),Same H H'→0≤g→g∣st→(∀ z∈ns,g∣z)→(∀ d:Int,d∣st→(∀ z∈ns,d∣z)→d∣g)→Q (.int g) H'
noncomputable def qbB (_:W.Frag):Sp:=fun vs H Q _=>∃ (p:Addr) (ns:List Int) (g:Int),vs=[.ref p,.int g]∧H p=some (.lst (ns.map V.int))∧(0<g∨ns=[])∧ns.length≤1000∧∀ r,H r=none→Q (.ref r) (upd H r (.lst ((ns.map (· / g)).map V.int)))
noncomputable def qbo (_:W.Frag):Sp:=fun vs H Q _=>∃ (p q:Addr) (ns ms:List Int) (f w:Int) (s:Nat),vs=[.ref p,.int f,.ref q,.int w,.int (s:Int)]∧H p=some (.lst (ns.map V.int))∧H q=some (.lst (ms.map V.int))∧ns.length≤1000∧s+ms.length≤1000∧Bd 60000000 f∧Bd 60000000 w∧(∀ z∈ns,Bd 60000000 z)∧(∀ z∈ms,Bd 60000000 z)∧
  ∀ (r:Addr) (rs:List Int) (H':Hp),Same H H'→H' r=some (.lst (rs.map V.int))→Tz rs→(∀ k,co rs k=f*co ns k - w*upS s (co ms) k)→Q (.ref r) H'
noncomputable def qbp (_:W.Frag):Sp:=fun vs H Q _=>∃ (p q:Addr) (ns ms:List Int) (b d:Nat),vs=[.ref p,.ref q]∧H p=some (.lst (ns.map V.int))∧H q=some (.lst (ms.map V.int))∧Lz ms∧(∀ z∈ns,Bd b z)∧(∀ z∈ms,Bd d z)∧b+ns.length*(d+1)≤60000000∧d≤60000000∧ns.length≤1000∧ms.length≤1000∧((¬ ∃ A:List Int,∀ k,co ns k=cvL A (co ms) k)→∀ H',Same H H'→Q .non H')∧
  ∀ (r:Addr) (qs:List Int) (H':Hp),Same H H'→H' r=some (.lst (qs.map V.int))→qs.length=ns.length+1 - ms.length→(∀ k,co ns k=cvL qs (co ms) k)→Q (.ref r) H'
noncomputable def Sh (rows rows':List (List Int)):Prop:=∃ g:Int,0<g∧rows=rows'.map (·.map (g*·))
noncomputable def qtc (rows:List (List Int)):Prop:=(∀ r∈rows,r=[])∨∀ d:Int,(∀ r∈rows,∀ z∈r,d∣z)→d.natAbs=1
noncomputable def qaQ (_:W.Frag):Sp:=fun vs H Q _=>∃ (p:Addr) (rows:List (List Int)),vs=[.ref p]∧SD H p rows∧rows.length≤1000∧(∀ r∈rows,r.length≤1000∧Tz r)∧
  ∀ (t:Addr) (rows':List (List Int)) (H':Hp),Same H H'→SD H' t rows'→Sh rows rows'→qtc rows'→Q (.ref t) H'
noncomputable def qaO (_:W.Frag):Sp:=fun vs H Q _=>∃ (p:Addr) (ns:List Int),vs=[.ref p]∧H p=some (.lst (ns.map V.int))∧ns.length≤1000∧Tz ns∧
  ∀ (t:Addr) (ms:List Int) (g:Int) (H':Hp),Same H H'→H' t=some (.lst (ms.map V.int))→0<g→ns=ms.map (g*·)→(ns=[]∨Prim ms)→Q (.ref t) H'
noncomputable def qbt (_:W.Frag):Sp:=fun vs H Q _=>∃ (p q:Addr) (o:List Int),vs=[.ref p,.ref q]∧SD H p [[]]∧SD H q [o]∧0<o.length∧∀ (t:Addr) (H':Hp),Same H H'→SD H' t [[]]→Q (.ref t) H'
noncomputable def qaX (_:W.Frag):Sp:=fun vs H Q _=>∃ (p q:Addr) (s o:List Int),vs=[.ref p,.ref q]∧SD H p [s]∧SD H q [o]∧(s=[]∨o=[])∧∀ (t:Addr) (H':Hp),Same H H'→SD H' t [if o=[] then s else o]→Q (.ref t) H'
noncomputable def qaV (_:W.Frag):Sp:=fun vs H Q _=>∃ a p:Int,vs=[.int a,.int p]∧2≤p∧Bd 45000 p∧∀ r:Int,0≤r→r<p→(Int.gcd a p=1→p∣r*a - 1)→Q (.int r) H
noncomputable def qa2 (_:W.Frag):Sp:=fun vs H Q _=>∃ (p:Addr) (ns:List Int) (m:Int),vs=[.ref p,.int m]∧H p=some (.lst (ns.map V.int))∧0<m∧ns.length≤1000∧∀ r,H r=none→Q (.ref r) (upd H r (.lst ((ns.map (· % m)).map V.int)))
noncomputable def Md (m:Int) (rs:List Int) (f:Nat→Int):Prop:=(∀ z∈rs,0≤z∧z<m)∧∀ k,m∣co rs k - f k
noncomputable def qaP (_:W.Frag):Sp:=fun vs H Q _=>∃ (p:Addr) (ns:List Int) (m:Int),vs=[.ref p,.int m]∧H p=some (.lst (ns.map V.int))∧0<m∧ns.length≤1000∧∀ (r:Addr) (rs:List Int) (H':Hp),Same H H'→H' r=some (.lst (rs.map V.int))→Tz rs→rs.length≤ns.length→Md m rs (co ns)→Q (.ref r) H'
noncomputable def qaM (_:W.Frag):Sp:=fun vs H Q _=>∃ (q:Addr) (ns:List Int) (p:Nat),vs=[.ref q,.int (p:Int)]∧H q=some (.lst (ns.map V.int))∧2≤p∧Bd 45000 (p:Int)∧ns.length≤1000∧(∀ z∈ns,Bd 60000000 z)∧(ns≠[]→Int.gcd (co ns (ns.length - 1)) (p:Int)=1)∧
  ∀ (r:Addr) (rs:List Int) (f:Int) (H':Hp),Same H H'→H' r=some (.lst (rs.map V.int))→rs.length=ns.length→(ns≠[]→co rs (rs.length - 1)=1)→Md (p:Int) rs (fun k=>f*co ns k)→Q (.ref r) H'
noncomputable def qaS (_:W.Frag):Sp:=fun vs H Q _=>∃ (p q:Addr) (ns ms:List Int) (m:Int) (b:Nat),vs=[.ref p,.ref q,.int m]∧H p=some (.lst (ns.map V.int))∧H q=some (.lst (ms.map V.int))∧0<ms.length∧co ms (ms.length - 1)=1∧0<m∧Bd b m∧(∀ z∈ms,Bd b z)∧b≤60000000∧ns.length≤1000∧ms.length≤1000∧
  ∀ (t r s:Addr) (qs rs:List Int) (H':Hp),Same H H'→H' t=some (.tup [.ref r,.ref s])→H' r=some (.lst (qs.map V.int))→H' s=some (.lst (rs.map V.int))→Tz qs→Tz rs→rs.length<ms.length→Md m rs (fun k=>co ns k - cvL qs (co ms) k)→(∀ z∈qs,0≤z∧z<m)→Q (.ref t) H'
noncomputable def qaN (_:W.Frag):Sp:=fun vs H Q _=>∃ (p q:Addr) (ns ms:List Int) (m:Int) (b:Nat),vs=[.ref p,.ref q,.int m]∧H p=some (.lst (ns.map V.int))∧H q=some (.lst (ms.map V.int))∧0<ms.length∧co ms (ms.length - 1)=1∧0<m∧Bd b m∧(∀ z∈ms,Bd b z)∧b≤60000000∧ns.length≤1000∧ms.length≤1000∧
  ∀ (s:Addr) (qs rs:List Int) (H':Hp),Same H H'→H' s=some (.lst (rs.map V.int))→Tz rs→rs.length<ms.length→Md m rs (fun k=>co ns k - cvL qs (co ms) k)→Q (.ref s) H'
noncomputable def qa7 (_:W.Frag):Sp:=fun vs H Q _=>∃ (a b:Addr) (ns ms:List Int) (p:Nat),vs=[.ref a,.ref b,.int (p:Int)]∧H a=some (.lst (ns.map V.int))∧H b=some (.lst (ms.map V.int))∧Pr p∧Bd 45000 (p:Int)∧ns.length≤1000∧ms.length≤1000∧((∃ k,¬ (p:Int)∣co ns k)∨∃ k,¬ (p:Int)∣co ms k)∧
  ∀ (s:Addr) (rs:List Int) (H':Hp),Same H H'→H' s=some (.lst (rs.map V.int))→0<rs.length→rs.length≤1000→co rs (rs.length - 1)=1→(∀ z∈rs,0≤z∧z<(p:Int))→(∀ g:Nat→Int,Dm (p:Int) g (co ns)→Dm (p:Int) g (co ms)→Dm (p:Int) g (co rs))→Dm (p:Int) (co rs) (co ns)→Dm (p:Int) (co rs) (co ms)→Q (.ref s) H'
noncomputable def qb2 (_:W.Frag):Sp:=fun vs H Q _=>∃ w p:Int,vs=[.int w,.int p]∧0<p∧∀ r:Int,p∣r - w→2*r.natAbs≤p.natAbs→Q (.int r) H
noncomputable def qtI (d n c p:Nat):Prop:=2 ^ ((d+n*(2*c+4)+c+2)*(2*(n - 1)))<p
noncomputable def qaW (_:W.Frag):Sp:=fun vs H Q _=>∃ (a b:Addr) (ns ms:List Int) (p d n c:Nat),vs=[.ref a,.ref b,.int (p:Int)]∧H a=some (.lst (ns.map V.int))∧H b=some (.lst (ms.map V.int))∧Pr p∧Bd 45000 (p:Int)∧Lz ns∧Lz ms∧(∀ z∈ns,Bd d z)∧(∀ z∈ms,Bd d z)∧d+ns.length*45001≤1000000∧d+ms.length*45001≤1000000∧ns.length≤n∧ms.length≤n∧n<2 ^ c∧2≤n∧(¬ qtI d n c p→∀ H',Same H H'→Q .non H')∧
  ∀ (s:Addr) (rs:List Int) (H':Hp),Same H H'→H' s=some (.lst (rs.map V.int))→RC (co ns) (co ms) rs→Prim rs→Q (.ref s) H'
noncomputable def qbC (_:W.Frag):Sp:=fun vs H Q _=>∃ (a b:Addr) (ns ms:List Int) (d n c:Nat),vs=[.ref a,.ref b]∧H a=some (.lst (ns.map V.int))∧H b=some (.lst (ms.map V.int))∧Tz ns∧Tz ms∧(∀ z∈ns,Bd d z)∧(∀ z∈ms,Bd d z)∧ns.length≤n∧ms.length≤n∧n≤20∧2≤n∧n<2 ^ c∧(d+n*(2*c+4)+c+2)*(2*(n - 1))≤44490∧((ns=[]∨ms=[])→2*3 ^ (ns.length+ms.length)*(d+1)≤60000000)∧
  ∀ (s:Addr) (rs:List Int) (H':Hp),Same H H'→H' s=some (.lst (rs.map V.int))→((ns≠[]∨ms≠[])→RC (co ns) (co ms) rs∧Prim rs)→(ns=[]→ms=[]→rs=[])→Q (.ref s) H'
structure Gq (b c:Nat) (l:List Nu):Prop where
  low:qcF l
  nz:Nz l
  ov:∃ M,Ov l M∧Bd c M∧∀ z∈ovN l M,Bd b z
noncomputable def mnc (g:List Int):List Nu:=g.map fun n=>qaT n (co g (g.length - 1))
noncomputable def MR (g f:Nat→Rat):Prop:=∃ A:List Rat,∀ k,f k=cvL A g k
noncomputable def qcT (_:W.Frag):Sp:=fun vs H Q _=>∃ a b:Int,vs=[.int a,.int b]∧b≠0∧∀ (p:Addr),H p=none→Q (.ref p) (upd H p (.tup [.int (qaT a b).1,.int (qaT a b).2]))
noncomputable def qn2 (_:W.Frag):Sp:=fun vs H Q _=>∃ (p:Addr) (xs:List V) (l:List Nu),vs=[.ref p]∧H p=some (.lst xs)∧Nums H xs l∧l.length≤1000∧qr7 H Q (trim l)
noncomputable def qcB (_:W.Frag):Sp:=fun vs H Q _=>∃ (p:Addr) (xs:List V) (l:List Nu) (M:Int),vs=[.ref p]∧H p=some (.tup xs)∧Nums H xs l∧qcF l∧Ov l M∧Bd 400000 M∧(∀ q∈l,Bd 60000000 q.1)∧l.length≤1000∧
  ∀ (r a:Addr) (H':Hp),Same H H'→H' r=some (.tup [.ref a,.int (qkE l)])→H' a=some (.lst ((qf7 l).map V.int))→Q (.ref r) H'
noncomputable def qf8 (_:W.Frag):Sp:=fun vs H Q _=>∃ (p:Addr) (ns:List Int) (B:Int),vs=[.ref p,.int B]∧H p=some (.lst (ns.map V.int))∧B≠0∧ns.length≤1000∧qr7 H Q (trim (ns.map fun n=>qaT n B))
noncomputable def qjT (_:W.Frag):Sp:=fun vs H Q _=>∃ (p q:Addr) (xs ys:List V) (l m:List Nu) (b c n e:Nat),vs=[.ref p,.ref q]∧H p=some (.tup xs)∧H q=some (.tup ys)∧Nums H xs l∧Nums H ys m∧Gq b c l∧Gq b c m∧l.length≤n∧m.length≤n∧n≤20∧2≤n∧n<2 ^ e∧(b+n*(2*e+4)+e+2)*(2*(n - 1))≤44490∧c≤90000∧((l=[]∨m=[])→2*3 ^ (l.length+m.length)*(b+1)≤60000000)∧
  (l=[]→m=[]→qr7 H Q [])∧((l≠[]∨m≠[])→∀ g,RC (co (qf7 l)) (co (qf7 m)) g→Prim g→qr7 H Q (mnc g))
noncomputable def qqa (f:Nu→Nu→Nu) (_:W.Frag):Sp:=fun vs H Q _=>∃ (p q:Addr) (a b c d:Int),vs=[.ref p,.ref q]∧Nm H p a b∧Nm H q c d∧0<b∧0<d∧Bd 60000000 a∧Bd 60000000 b∧Bd 60000000 c∧Bd 60000000 d∧
  ∀ (r:Addr),H r=none→Q (.ref r) (upd H r (.tup [.int (f (a,b) (c,d)).1,.int (f (a,b) (c,d)).2]))
noncomputable def Cop (T B:Nat→Rat):Prop:=∃ U W:List Rat,∀ k,(qbZ k:Rat)=cvL U T k+cvL W B k
noncomputable def qba (_:W.Frag):Sp:=fun vs H Q _=>∃ (p q:Addr) (ns ms:List Int) (b d:Nat),vs=[.ref p,.ref q]∧H p=some (.lst (ns.map V.int))∧H q=some (.lst (ms.map V.int))∧(∀ z∈ns,Bd b z)∧(∀ z∈ms,Bd d z)∧b≤900000∧d≤900000∧ns.length≤100∧ms.length≤100∧
  ∀ (r:Addr) (H':Hp),Same H H'→H' r=some (.lst ((if ns.length=0∨ms.length=0 then [] else (List.range (ns.length+ms.length - 1)).map fun k=>ps ns ms ns.length k).map V.int))→Q (.ref r) H'
structure Fr (l m T B:List Nu):Prop where
  eq:∀ k,cv (pwo T) (pwo m) T.length k=cv (pwo l) (pwo B) l.length k
  st:T.length≤l.length
  sb:B.length≤m.length
structure Fq (b c:Nat) (T B:List Nu):Prop where
  gt:Gq b c T
  gb:Gq b c B
  ne:B≠[]
  one:qij B (B.length - 1)=(1,1)
  cop:Cop (pwo T) (pwo B)
structure S1 (b c n e:Nat):Prop where
  n20:n≤20
  n2:2≤n
  ne:n<2 ^ e
  lu:(b+n*(2*e+4)+e+2)*(2*(n - 1))≤44490
  cc:c≤60000
  em:2*3 ^ n*(b+1)≤60000000
  dv:(n+2)*(b+n*(2*e+4)+1)≤200000
noncomputable def D1 (b n e:Nat):Nat:=b+n*(2*e+4)
noncomputable def Bt (b n e:Nat):Nat:=3*b+2*D1 b n e+n+1
structure S2 (b n e:Nat):Prop where
  a:S1 b b n e
  n20:2*n - 1≤20
  lu:(Bt b n e+(2*n - 1)*(2*(e+1)+4)+(e+1)+2)*(2*(2*n - 1 - 1))≤44490
  cc:4*b+D1 b n e≤60000
  em:2*3 ^ n*(Bt b n e+1)≤60000000
  dv:(2*n+2)*(D1 b n e+n*(2*e+4)+1)+Bt b n e≤200000
noncomputable def rw' (l:List Nu):List Rat:=(List.range l.length).map (pwo l)
noncomputable def dv (f:Nat→Rat) (k:Nat):Rat:=((k:Rat)+1)*f (k+1)
noncomputable def evN (l:List Nu) (x:Rat):Rat:=evF (pwo l) l.length x l.length
noncomputable def bS (b n e:Nat):Nat:=(b+5)+2*D1 (b+5) n e+n+2*b+1
noncomputable def bM (b n:Nat):Nat:=b+80*n+41*n*n+3
structure Mvd (s:Rat) (b n:Nat) (l L:List Nu):Prop where
  gq:Gq (bM b n) (bM b n) L
  len:L.length=l.length
  top:pwo L (l.length - 1)=pwo l (l.length - 1)
  ev:∀ x,evN L x=evN l (x+s)
noncomputable def qik (_:W.Frag):Sp:=fun vs H Q _=>∃ (p:Addr) (xs:List V) (l:List Nu) (b c:Nat),vs=[.ref p]∧H p=some (.tup xs)∧Nums H xs l∧Gq b c l∧l.length≤31∧b≤200000∧c≤200000∧
  ∀ (r:Addr) (R:List Nu) (H':Hp),Same H H'→Pl H' r R→Gq (b+5) c R→R.length=l.length - 1→(∀ k,pwo R k=dv (pwo l) k)→Q (.ref r) H'
structure S4 (b n e:Nat):Prop where
  a:S1 (b+5) (b+5) n e
  n20:2*n - 1≤20
  lu:(bS b n e+(2*n - 1)*(2*(e+1)+4)+(e+1)+2)*(2*(2*n - 1 - 1))≤44490
  m:S1 (bM b n+5) (bM b n+5) n e
  s8:bS b n e+4*b≤8000
  m8:bM b n≤8000
noncomputable def Hand (H:Hp) (p a:Addr) (n:Int):Prop:=∃ (ns:List Int) (x y z:Int),H p=some (.lst [.ref a,.int x,.int y,.int z])∧H a=some (.lst (ns.map V.int))∧ns.length≤1000∧a≠p∧0≤x∧x≤n∧0≤y
noncomputable def qdg (K:W.Frag):Sp:=fun vs H Q _=>∃ (s:Addr) (ns:List Int),vs=[.ref s]∧SqL K H s (ns.map V.int)∧ns.length≤63∧∀ (p a:Addr) (H':Hp),H p=none→Kp p H H'→Hand H' p a 0→Q (.ref p) H'
noncomputable def qa3 (_:W.Frag):Sp:=fun vs H Q _=>∃ (p a:Addr) (m n:Int),vs=[.ref p,.int m]∧Hand H p a n∧n≤100000∧0<m∧m≤1000∧
  ∀ (d:Int) (H':Hp),0≤d→d<m→Hand H' p a (n+2)→Kp p H H'→Q (.int d) H'
noncomputable abbrev qbx:=qcT
noncomputable def qbu (_:W.Frag):Sp:=fun vs H Q _=>∃ (p q:Addr) (a b:List Int) (n m:Nat),vs=[.ref p,.ref q]∧H p=some (.lst (a.map V.int))∧H q=some (.lst (b.map V.int))∧Lz a∧Lz b∧a.length≤20∧b.length≤20∧(∀ z∈a,Bd n z)∧(∀ z∈b,Bd m z)∧n≤1000∧m≤1000∧
  ∀ (r:Addr) (c:List Int) (H':Hp),Same H H'→H' r=some (.lst (c.map V.int))→c.length=a.length+b.length - 1→Lz c→(∀ k,co c k=ps a b a.length k)→Q (.ref r) H'
noncomputable def qbO (_:W.Frag):Sp:=fun vs H Q _=>∃ (p q:Addr) (ns:List Int) (t d:Int),vs=[.ref p,.ref q]∧H p=some (.lst (ns.map V.int))∧Nm H q t d∧d≠0∧Bd 1000 t∧(∀ z∈ns,Bd 1000 z)∧ns.length≤1000∧qr7 H Q (ns.map fun n=>qaT (n*t) d)
noncomputable def qcC (_:W.Frag):Sp:=fun vs H Q _=>∃ (p a:Addr) (n:Int),vs=[.ref p]∧Hand H p a n∧n≤90000∧
  ∀ (r:Addr) (t d:Int) (H':Hp),Nm H' r t d→Low t d→t≠0→Bd 4 t→Bd 4 d→Hand H' p a (n+6)→Kp p H H'→Q (.ref r) H'
noncomputable def qbk (_:W.Frag):Sp:=fun vs H Q _=>∃ (p a:Addr) (m s n:Int),vs=[.ref p,.int m,.int s]∧Hand H p a n∧n≤90000∧0≤m∧m≤8∧(s=9∨s=30)∧
  ∀ (r:Addr) (ns:List Int) (H':Hp),H' r=some (.lst (ns.map V.int))→(ns.length:Int)≤m+1→Lz ns→(∀ z∈ns,-s≤z∧z≤s)→r≠p→r≠a→Hand H' p a (n+40)→Kp p H H'→Q (.ref r) H'
noncomputable def sr (l:List Nu):Sr:=⟨pwo l⟩
noncomputable def si (ns:List Int):Sr:=⟨fun k=>(co ns k:Rat)⟩
noncomputable def dI (ns:List Int):List Int:=(List.range (ns.length - 1)).map fun k=>((k+1:Nat):Int)*co ns (k+1)
noncomputable def RadOf (F L:Sr):Prop:=∃ S M:Sr,Sr.Pol S∧Sr.Pol L∧Sr.Pol M∧F=S*L∧Sr.D F=S*M∧Sr.Cs L M
noncomputable def qby (_:W.Frag):Sp:=fun vs H Q _=>∃ (p:Addr) (ns:List Int) (b:Nat),vs=[.ref p]∧H p=some (.lst (ns.map V.int))∧ns.length≤100∧(∀ z∈ns,Bd b z)∧b≤100000∧∀ (r:Addr) (H':Hp),Same H H'→H' r=some (.lst ((dI ns).map V.int))→Q (.ref r) H'
noncomputable def qbD (_:W.Frag):Sp:=fun vs H Q _=>∃ (p:Addr) (ns:List Int),vs=[.ref p]∧H p=some (.lst (ns.map V.int))∧Lz ns∧(∀ z∈ns,Bd 40 z)∧ns.length≤9∧
  ∀ (r:Addr) (rs:List Int) (H':Hp),Same H H'→H' r=some (.lst (rs.map V.int))→Lz rs→rs.length≤9→(∀ z∈rs,Bd 148 z)→(∃ (c:Rat) (L:Sr),c≠0∧RadOf (si ns) L∧si rs=Sr.num c*L)→0<co rs (rs.length - 1)→Q (.ref r) H'
end Bs
namespace Bs
open PySem L2
noncomputable def dE:List Int→Int→Int
  | [],_=>0
  | _::l,r=>evI l r+r*dE l r
noncomputable def hw:List Int→Int→Int→Int
  | [],_,_=>0
  | a::l,t,s=>a*s ^ l.length+t*hw l t s
noncomputable def RtQ (l:List Int) (q:Nu):Prop:=Low q.1 q.2∧hw l q.1 q.2=0
noncomputable def Rising (rs:List Nu):Prop:=rs.Pairwise fun a b=>a.1*b.2<b.1*a.2
noncomputable def lst' (l:List Int):Int:=co l (l.length - 1)
noncomputable def qdq (_:W.Frag):Sp:=fun vs H Q _=>∃ n:Nat,vs=[.int (n:Int)]∧n≤1000000∧∀ b:Bool,(b=true↔Pr n)→Q (.bl b) H
noncomputable def qb5 (_:W.Frag):Sp:=fun vs H Q _=>∃ n g:Nat,vs=[.int (n:Int)]∧Pr g∧n<g∧g≤2000∧∀ r:Nat,Pr r→n<r→r≤g→Q (.int (r:Int)) H
noncomputable def qbr (_:W.Frag):Sp:=fun vs H Q _=>∃ (a:Addr) (ns:List Int) (x m:Int),vs=[.ref a,.int x,.int m]∧H a=some (.lst (ns.map V.int))∧ns.length≤1000∧0<m∧Bd 1000 m∧Bd 1000 x∧∀ v:Int,0≤v→v<m→m∣v - evI ns x→Q (.int v) H
noncomputable def qa8 (_:W.Frag):Sp:=fun vs H Q _=>∃ (a:Addr) (ns:List Int) (p:Nat),vs=[.ref a,.int (p:Int)]∧H a=some (.lst (ns.map V.int))∧Pr p∧p≤2000∧Lz ns∧ns.length≤9∧
  (((p:Int)∣lst' ns∨∃ x,(p:Int)∣evI ns x∧(p:Int)∣evI (dI ns) x)→∀ H',Same H H'→Q .non H')∧
  ∀ (r:Addr) (ss:List Int) (H':Hp),Same H H'→H' r=some (.lst (ss.map V.int))→¬ (p:Int)∣lst' ns→ss.Nodup→(∀ x,0≤x→x<(p:Int)→(p:Int)∣evI ns x→x∈ss)→(∀ x∈ss,0≤x∧x<(p:Int)∧(p:Int)∣evI ns x∧¬ (p:Int)∣evI (dI ns) x)→Q (.ref r) H'
noncomputable def qbU (_:W.Frag):Sp:=fun vs H Q _=>∃ (a b:Addr) (ns:List Int) (c:Int) (p:Nat),vs=[.ref a,.ref b,.int (p:Int)]∧H a=some (.lst (ns.map V.int))∧H b=some (.lst ([c,1].map V.int))∧Pr p∧p≤2000∧Bd 20 c∧ns.length≤20∧¬ (p:Int)∣evI ns (-c)∧
  ∀ (r:Addr) (w:Int) (H':Hp),Same H H'→H' r=some (.lst ([w].map V.int))→0≤w→w<(p:Int)→(p:Int)∣w*evI ns (-c) - 1→Q (.ref r) H'
noncomputable def qe3 (_:W.Frag):Sp:=fun vs H Q _=>∃ (a b:Addr) (ns:List Int) (s F:Int) (p:Nat),vs=[.ref a,.ref b,.int (p:Int),.int F]∧H a=some (.lst (ns.map V.int))∧H b=some (.lst ([-s,1].map V.int))∧Pr p∧p≤2000∧Lz ns∧ns.length≤9∧(∀ z∈ns,Bd 148 z)∧0≤s∧s<(p:Int)∧¬ (p:Int)∣lst' ns∧(p:Int)∣evI ns s∧¬ (p:Int)∣evI (dI ns) s∧0<F∧Bd 400 F∧
  ∀ (t u:Addr) (c:Int) (j:Nat) (H':Hp),Same H H'→H' t=some (.tup [.ref u,.int ((p ^ j:Nat):Int)])→H' u=some (.lst ([c,1].map V.int))→F<((p ^ j:Nat):Int)→Bd 1000 ((p ^ j:Nat):Int)→Bd 1000 c→((p ^ j:Nat):Int)∣evI ns (-c)→(p:Int)∣-c - s→Q (.ref t) H'
noncomputable def qbJ (_:W.Frag):Sp:=fun vs H Q _=>∃ (a:Addr) (ns:List Int),vs=[.ref a]∧H a=some (.lst (ns.map V.int))∧Lz ns∧ns.length≤9∧(∀ z∈ns,Bd 148 z)∧0<lst' ns∧
  ∀ (e:Int) (H':Hp),Same H H'→e≤200→(∀ i,i+1<ns.length→2 ^ (ns.length - 1 - i)*(co ns i).natAbs≤(lst' ns).natAbs*2 ^ ((ns.length - 1 - i)*e.toNat))→Q (.int e) H'
noncomputable def qbE (_:W.Frag):Sp:=fun vs H Q _=>∃ (a:Addr) (xs:List V) (l:List Nu),vs=[.ref a]∧H a=some (.tup xs)∧Nums H xs l∧qcF l∧l.length≤9∧Bd 40 (qkE l)∧(∀ q∈l,Bd 40 q.1)∧(∀ z∈qf7 l,Bd 40 z)∧Lz (qf7 l)∧
  ∀ (r:Addr) (us:List V) (rs:List Nu) (H':Hp),Same H H'→H' r=some (.lst us)→Nums H' us rs→Rising rs→(∀ q,q∈rs↔RtQ (qf7 l) q)→Q (.ref r) H'
noncomputable def qcD (_:W.Frag):Sp:=fun vs H Q _=>∃ (a b:Addr) (ns:List Int) (t s:Int),vs=[.ref a,.ref b]∧H a=some (.lst (ns.map V.int))∧Nm H b t s∧ns.length≤20∧(∀ z∈ns,Bd 100 z)∧Bd 100 t∧Bd 100 s∧Q (.int (hw ns t s)) H
noncomputable def qbL (_:W.Frag):Sp:=fun vs H Q _=>∃ n:Int,vs=[.int n]∧n≠0∧Bd 15 n∧∀ (r:Addr) (ds:List Int),H r=none→(∀ z,z∈ds↔0<z∧z∣n)→ds.length≤n.natAbs→Q (.ref r) (upd H r (.lst (ds.map V.int)))
noncomputable def qdr (_:W.Frag):Sp:=fun vs H Q _=>∃ (a:Addr) (us:List V) (ls:List Nu),vs=[.ref a]∧H a=some (.lst us)∧Nums H us ls∧qcF ls∧ls.length≤600000∧(∀ q∈ls,Bd 100 q.1∧Bd 100 q.2)∧
  ∀ (r:Addr) (ws:List V) (rs:List Nu) (H':Hp),Same H H'→H' r=some (.lst ws)→Nums H' ws rs→Rising rs→(∀ q,q∈rs↔q∈ls)→Q (.ref r) H'
noncomputable def qbV (_:W.Frag):Sp:=fun vs H Q _=>∃ (a:Addr) (ns:List Int),vs=[.ref a]∧H a=some (.lst (ns.map V.int))∧Lz ns∧ns.length≤9∧(∀ z∈ns,Bd 9 z)∧
  ∀ (r:Addr) (us:List V) (rs:List Nu) (H':Hp),Same H H'→H' r=some (.lst us)→Nums H' us rs→Rising rs→(∀ q,q∈rs↔RtQ ns q)→Q (.ref r) H'
end Bs
namespace Bs
open PySem L2
section
variable (K:W.Frag)
set_option linter.unusedVariables false
noncomputable def qdy (_:W.Frag):TS:=
  (qaE (qb7 (qaU (tOp rNe (qaf 1) (tC (.int 0)))) (qaE (qaL (tOp qqB (qaf 0) (qaf 1)) (qaj 2))
    (qaE (qaL (qaf 1) (qaj 0))
    (qaL (qaf 2) (qaj 1)))))
    (qbK (tCB qoS (qac (qaf 0) qat))))
noncomputable def qlG (_:W.Frag):TS:=
  (qaE (qaL (tC (.int 1)) (qaj 2))
    (qaE (qaL (qaf 0) (qaj 3))
    (qaE (qb7 (qaU (tOp iGt (qaf 1) (tC (.int 0)))) (qaE (qdK (qaU (tOp rEq (tOp qg0 (qaf 1) (tC (.int 2))) (tC (.int 1)))) (qmK 2 (qaf 3) qcy) qbz)
    (qaE (qmK 1 (tC (.int 2)) qjE)
    (qdK (qaU (tOp iGt (qaf 1) (tC (.int 0)))) (qmK 3 (qaf 3) qcy) qbz))))
    (qbK (qaf 2)))))
noncomputable def qmh (_:W.Frag):TS:=
  (qaE (qaL (tC (.int 2)) (qaj 1))
    (qaE (qb7 (qaU (tOp iLe (tOp qcy (qaf 1) (qaf 1)) (qaf 0))) (qaE (qdK (qaU (tOp rEq (tOp qg0 (qaf 0) (qaf 1)) (tC (.int 0)))) (qbK (tC (.bl false))) qbz)
    (qmK 1 (tC (.int 1)) qdx)))
    (qbK (tOp iGt (qaf 0) (tC (.int 1))))))
noncomputable def qiY:TS:=
  (qaE (qaL (tOp qdx (qaf 0) (tC (.int 1))) (qaj 1))
    (qaE (qb7 (qqs (tB (qau (qdq K) [] E0 (qac (qaf 1) qat)))) (qmK 1 (tC (.int 1)) qdx))
    (qbK (qaf 1))))
noncomputable def qjU:TS:=
  (qaE (qaL (qau (qaH K) [] E0 (qac (qpb (qg4 (qbR K (qaf 0)) [none] (qaj 0) (qaU (tOp rNe (qaf 0) (tC (.int 0)))) (tCB qoS (qac (qaf 0) qat)))) (qac (qaf 1) qat))) (qaj 2))
    (qaE (qdw (qbR K (qaf 0)) (qaj 3) (qaE (qdK (qaU (tOp rEq (qaf 2) (tC (.int 1)))) (qbK (tC (.int 1))) qbz)
    (qaL (qau (qaH K) [] E0 (qac (qaf 3) (qac (qaf 2) qat))) (qaj 2))))
    (qbK (qaf 2))))
noncomputable def qe4 (_:W.Frag):TS:=
  (qaE (qaL (tCB qbP (qac (qaf 0) qat)) (qaj 1))
    (qaE (qb7 (qoQ (qaU (tOp iGt (qaf 1) (tC (.int 0)))) (qaU (tOp rEq (tOp gL (qaf 0) (tOp qfC (qaf 1) (tC (.int 1)))) (tC (.int 0))))) (qmK 1 (tC (.int 1)) qfC))
    (qbK (tSl sL (qaf 0) qc6 (qhK (qaf 1))))))
noncomputable def qf9:TS:=
  (qbK (qcu (qbR K (qaf 0)) [none,some 1] (qaj 0) (tOp qjK (qaf 0) (qaf 1))))
noncomputable def qhe:TS:=
  (qaE (qdK (tOr (qqs (qhQ (qaf 0))) (qqs (qhQ (qaf 1)))) (qbK (qea qat)) qbz)
    (qaE (qaL (tOp qpS (qea (qac (tC (.int 0)) qat)) (tOp qfC (tOp qdx (tCB qbP (qac (qaf 0) qat)) (tCB qbP (qac (qaf 1) qat))) (tC (.int 1)))) (qaj 2))
    (qaE (qdw (qf6 K (qac (qaf 0) qat)) (qiR 2 (qeu (qaj 3) (qeu (qaj 4) qoV))) (qdK (qaU (tOp rNe (qaf 4) (tC (.int 0)))) (qdw (qf6 K (qac (qaf 1) qat)) (qiR 2 (qeu (qaj 5) (qeu (qaj 6) qoV))) (qkn (qaf 2) (tOp qdx (qaf 3) (qaf 5)) (tOp qcy (qaf 4) (qaf 6)) gL qdx qeU)) qbz))
    (qbK (qaf 2)))))
noncomputable def qhf (_:W.Frag):TS:=
  (qbK (qcu (ql3 (qac (tC (.int 1)) (qac (tCB qbP (qac (qaf 0) qat)) qat))) [none,some 0] (qaj 0) (tOp qcy (qaf 0) (tOp gL (qaf 1) (qaf 0)))))
noncomputable def qdU (_:W.Frag):TS:=
  (qdK (qaU (tOp rNe (qaf 6) (tC (.int 0)))) (qdw (qkp (qac (qaf 3) qat)) (qaj 7) (qkn (qaf 2) (tOp qdx (qaf 5) (qaf 7)) (tOp qcy (qaf 6) (tOp gL (qaf 1) (qaf 7))) gL qfC qeU)) qbz)
noncomputable def qdV:TS:=
  (qaE (qaL (qaf 6) (qoR (qaf 4) (qaf 5) qeU))
    (qdU K))
noncomputable def qdW:TS:=
  (qaE (qdK (qaU (tOp rNe (tOp qcy (qaf 6) (tOp gL (qaf 1) (tUn qdL (tC (.int 1))))) (tOp gL (qaf 2) (tOp qdx (qaf 5) (qaf 3))))) (qbK (tC .non)) qbz)
    (qdV K))
noncomputable def qdX:TS:=
  (qaE (qaL (tOp qhR (tOp gL (qaf 2) (tOp qdx (qaf 5) (qaf 3))) (tOp gL (qaf 1) (tUn qdL (tC (.int 1))))) (qaj 6))
    (qdW K))
noncomputable def qga (_:W.Frag):TS:=
  (qbK (tIf (tB (tCB qpc (qac (tSl sL (qaf 2) qc6 (qhK (qaf 3))) qat))) (tC .non) (qaf 4)))
noncomputable def qgb:TS:=
  (qaE (qdw (qo8 (qac (tOp qfC (tOp qfC (tCB qbP (qac (qaf 0) qat)) (qaf 3)) (tC (.int 1))) (qac (tUn qdL (tC (.int 1))) (qac (tUn qdL (tC (.int 1))) qat)))) (qaj 5) (qdX K))
    (qga K))
noncomputable def qgc:TS:=
  (qaE (qaL (tOp qpS (qea (qac (tC (.int 0)) qat)) (tCB qqC (qac (tOp qfC (tCB qbP (qac (qaf 0) qat)) (qaf 3)) (qac (tC (.int 0)) qat)))) (qaj 4))
    (qgb K))
noncomputable def qgd:TS:=
  (qaE (qaL (tOp qfC (tCB qbP (qac (qaf 1) qat)) (tC (.int 1))) (qaj 3))
    (qgc K))
noncomputable def qil:TS:=
  (qaE (qaL (tCB qih (qac (qaf 0) qat)) (qaj 2))
    (qgd K))
noncomputable def qhg:TS:=
  (qaE (qaL (tC (.int 0)) (qaj 3))
    (qaE (qdw (qsK K (qac (qaf 0) qat)) (qaj 4) (qaL (tOp qg0 (tOp qdx (tOp qcy (qaf 3) (qaf 1)) (qaf 4)) (qaf 2)) (qaj 3)))
    (qbK (qaf 3))))
noncomputable def qhh:TS:=
  (qaE (qaL (qea qat) (qaj 1))
    (qaE (qdw (ql3 (qac (tC (.int 1)) (qac (tCB qbP (qac (qaf 0) qat)) qat))) (qaj 2) (qaE (qaL (tOp gL (qaf 0) (tOp qfC (tOp qfC (tCB qbP (qac (qaf 0) qat)) (tC (.int 1))) (qaf 2))) (qaj 3))
    (qdK (qaU (tOp rNe (qaf 3) (tC (.int 0)))) (qeS (tBM K "list" qb0 (qaf 1) (qac (tUn qdL (tOp qjK (tOp qfC (tOp qfC (qrI K "int" qqG (tOp gL (qaf 0) (tUn qdL (tC (.int 1))))) (qrI K "int" qqG (qaf 3))) (tC (.int 1))) (qaf 2))) qat))) qbz)))
    (qbK (tOp qdx (tC (.int 1)) (qr1 (qaf 1))))))
noncomputable def qim:TS:=
  (qaE (qaL (qcu (qbR K (qaf 0)) [none,some 1] (qaj 0) (tOp qcy (qaf 1) (qaf 0))) (qaj 5))
    (qaE (qeS (tBM K "list" qiJ (qaf 5) (qac (tOp qpS (qea (qac (tC (.int 0)) qat)) (tOp qfC (tOp qdx (tCB qbP (qac (qaf 2) qat)) (qaf 4)) (tCB qbP (qac (qaf 0) qat)))) qat)))
    (qaE (qdw (qf6 K (qac (qaf 2) qat)) (qiR 2 (qeu (qaj 6) (qeu (qaj 7) qoV))) (qkn (qaf 5) (tOp qdx (qaf 6) (qaf 4)) (tOp qcy (qaf 3) (qaf 7)) gL qfC qeU))
    (qbK (qau (qa1 K) [] E0 (qac (qaf 5) qat))))))
noncomputable def qe5:TS:=
  (qaL (qcu (qsT K (qac (qaf 0) (qac (qaf 1) qat))) [none,none,some 6,some 7,some 2] (qiR 2 (qeu (qaj 0) (qeu (qaj 1) qoV))) (qau (qbo K) [] E0 (qac (qaf 0) (qac (qaf 2) (qac (qaf 1) (qac (qaf 3) (qac (qaf 4) qat))))))) (qaj 0))
noncomputable def qe6:TS:=
  (qaE (qaL (tOp qhR (qaf 3) (qaf 5)) (qaj 7))
    (qe5 K))
noncomputable def qe7:TS:=
  (qaE (qaL (tOp qhR (qaf 4) (qaf 5)) (qaj 6))
    (qe6 K))
noncomputable def qe8:TS:=
  (qaE (qaL (qau (qaH K) [] E0 (qac (qaf 3) (qac (qaf 4) qat))) (qaj 5))
    (qe7 K))
noncomputable def qe9:TS:=
  (qaE (qaL (tOp gL (tOp gL (qaf 1) (tC (.int 0))) (tUn qdL (tC (.int 1)))) (qaj 4))
    (qe8 K))
noncomputable def qfa:TS:=
  (qaE (qaL (tOp gL (tOp gL (qaf 0) (tC (.int 0))) (tUn qdL (tC (.int 1)))) (qaj 3))
    (qe9 K))
noncomputable def qfb:TS:=
  (qaE (qaL (tOp qfC (tCB qbP (qac (tOp gL (qaf 0) (tC (.int 0))) qat)) (tCB qbP (qac (tOp gL (qaf 1) (tC (.int 0))) qat))) (qaj 2))
    (qfa K))
noncomputable def qdY:TS:=
  (qbK (qau (qaQ K) [] E0 (qac (qaf 0) qat)))
noncomputable def qfc:TS:=
  (qaE (qb7 (qaU (tOp iGe (tCB qbP (qac (tOp gL (qaf 0) (tC (.int 0))) qat)) (tCB qbP (qac (tOp gL (qaf 1) (tC (.int 0))) qat)))) (qfb K))
    (qdY K))
noncomputable def qcU:TS:=
  (qaE (qaL (tC (.int 0)) (qaj 1))
    (qaE (qdw (qbR K (qaf 0)) (qaj 2) (qaL (qau (qcA K) [] E0 (qac (qaf 2) (qac (qaf 1) qat))) (qaj 1)))
    (qbK (qcu (qbR K (qaf 0)) [none,some 1] (qaj 0) (qau (qbB K) [] E0 (qac (qaf 0) (qac (qaf 1) qat)))))))
noncomputable def qdZ:TS:=
  (qbK (tOp gL (qau (qaQ K) [] E0 (qac (qea (qac (qaf 0) qat)) qat)) (tC (.int 0))))
noncomputable def qd0:TS:=
  (qaE (qb7 (qhQ (tOp gL (qaf 1) (tC (.int 0)))) (qaE (qdK (qaU (tOp rEq (tCB qbP (qac (tOp gL (qaf 1) (tC (.int 0))) qat)) (tC (.int 1)))) (qbK (qaf 1)) qbz)
    (qaE (qaL (qau (qbt K) [] E0 (qac (qaf 0) (qac (qaf 1) qat))) (qaj 2))
    (qaE (qaL (qaf 1) (qaj 0))
    (qaL (qaf 2) (qaj 1))))))
    (qbK (qaf 0)))
noncomputable def qb9 (_:W.Frag):TS:=
  (qaL (qaf 7) (qaj 5))
noncomputable def qca:TS:=
  (qaE (qaL (qaf 5) (qaj 4))
    (qb9 K))
noncomputable def qcb:TS:=
  (qaE (qaL (tOp qfC (qaf 4) (tOp qcy (qaf 6) (qaf 5))) (qaj 7))
    (qca K))
noncomputable def qcc:TS:=
  (qaE (qaL (qaf 7) (qaj 3))
    (qcb K))
noncomputable def qcd:TS:=
  (qaE (qaL (qaf 3) (qaj 2))
    (qcc K))
noncomputable def qce:TS:=
  (qaE (qaL (tOp qfC (qaf 2) (tOp qcy (qaf 6) (qaf 3))) (qaj 7))
    (qcd K))
noncomputable def qcf:TS:=
  (qaE (qaL (tOp qjK (qaf 2) (qaf 3)) (qaj 6))
    (qce K))
noncomputable def qcV (_:W.Frag):TS:=
  (qbK (tOp qg0 (qaf 4) (qaf 1)))
noncomputable def qcW:TS:=
  (qaE (qb7 (qaU (tOp rNe (qaf 3) (tC (.int 0)))) (qcf K))
    (qcV K))
noncomputable def qcX:TS:=
  (qaE (qaL (tC (.int 1)) (qaj 5))
    (qcW K))
noncomputable def qcY:TS:=
  (qaE (qaL (tC (.int 0)) (qaj 4))
    (qcX K))
noncomputable def qcZ:TS:=
  (qaE (qaL (tOp qg0 (qaf 0) (qaf 1)) (qaj 3))
    (qcY K))
noncomputable def qdz:TS:=
  (qaE (qaL (qaf 1) (qaj 2))
    (qcZ K))
noncomputable def qel:TS:=
  (qbK (qcu (qbR K (qaf 0)) [none,some 1] (qaj 0) (tOp qg0 (qaf 0) (qaf 1))))
noncomputable def qge:TS:=
  (qbK (qau (qa1 K) [] E0 (qac (qau (qa2 K) [] E0 (qac (qaf 0) (qac (qaf 1) qat))) qat)))
noncomputable def qem:TS:=
  (qaE (qdK (qqs (qhQ (qaf 0))) (qbK (qea qat)) qbz)
    (qaE (qaL (qau (qaV K) [] E0 (qac (tOp gL (qaf 0) (tUn qdL (tC (.int 1)))) (qac (qaf 1) qat))) (qaj 2))
    (qbK (qcu (qbR K (qaf 0)) [none,some 1,some 2] (qaj 0) (tOp qg0 (tOp qcy (qaf 0) (qaf 2)) (qaf 1))))))
noncomputable def qcH (_:W.Frag):TS:=
  (qdK (qaU (tOp rNe (qaf 7) (tC (.int 0)))) (qdw (qkp (qac (qaf 4) qat)) (qaj 8) (qkn (qaf 3) (tOp qdx (qaf 6) (qaf 8)) (tOp qcy (qaf 7) (tOp gL (qaf 1) (qaf 8))) gL qfC qeU)) qbz)
noncomputable def qcI:TS:=
  (qaE (qaL (qaf 7) (qoR (qaf 5) (qaf 6) qeU))
    (qcH K))
noncomputable def qcJ:TS:=
  (qaE (qaL (tOp qg0 (tOp gL (qaf 3) (tOp qdx (qaf 6) (qaf 4))) (qaf 2)) (qaj 7))
    (qcI K))
noncomputable def qdA:TS:=
  (qbK (qks (qac (qau (qa1 K) [] E0 (qac (qaf 5) qat)) (qac (qau (qaP K) [] E0 (qac (tSl sL (qaf 3) qc6 (qhK (qaf 4))) (qac (qaf 2) qat))) qat))))
noncomputable def qdB:TS:=
  (qaE (qdw (qo8 (qac (tOp qfC (tOp qfC (tCB qbP (qac (qaf 0) qat)) (qaf 4)) (tC (.int 1))) (qac (tUn qdL (tC (.int 1))) (qac (tUn qdL (tC (.int 1))) qat)))) (qaj 6) (qcJ K))
    (qdA K))
noncomputable def qdC:TS:=
  (qaE (qaL (tOp qpS (qea (qac (tC (.int 0)) qat)) (tCB qqC (qac (tOp qfC (tCB qbP (qac (qaf 0) qat)) (qaf 4)) (qac (tC (.int 0)) qat)))) (qaj 5))
    (qdB K))
noncomputable def qdD:TS:=
  (qaE (qaL (tOp qfC (tCB qbP (qac (qaf 1) qat)) (tC (.int 1))) (qaj 4))
    (qdC K))
noncomputable def qen:TS:=
  (qaE (qaL (tCB qih (qac (qaf 0) qat)) (qaj 3))
    (qdD K))
noncomputable def qfd:TS:=
  (qbK (tOp gT (qau (qaS K) [] E0 (qac (qaf 0) (qac (qaf 1) (qac (qaf 2) qat)))) (tC (.int 1))))
noncomputable def qd1:TS:=
  (qaE (qaL (qau (qaM K) [] E0 (qac (qau (qaP K) [] E0 (qac (qaf 0) (qac (qaf 2) qat))) (qac (qaf 2) qat))) (qaj 0))
    (qaE (qaL (qau (qaM K) [] E0 (qac (qau (qaP K) [] E0 (qac (qaf 1) (qac (qaf 2) qat))) (qac (qaf 2) qat))) (qaj 1))
    (qaE (qb7 (qhQ (qaf 1)) (qaE (qaL (qau (qaN K) [] E0 (qac (qaf 0) (qac (qaf 1) (qac (qaf 2) qat)))) (qaj 3))
    (qaE (qaL (qaf 1) (qaj 0))
    (qaL (qau (qaM K) [] E0 (qac (qaf 3) (qac (qaf 2) qat))) (qaj 1)))))
    (qbK (qaf 0)))))
noncomputable def qeE (_:W.Frag):TS:=
  (qaL (qaf 9) (qaj 6))
noncomputable def qeF:TS:=
  (qaE (qaL (qaf 6) (qaj 5))
    (qeE K))
noncomputable def qeG:TS:=
  (qaE (qaL (tOp gT (qaf 8) (tC (.int 1))) (qaj 4))
    (qeF K))
noncomputable def qeH:TS:=
  (qaE (qaL (qaf 4) (qaj 3))
    (qeG K))
noncomputable def qeI:TS:=
  (qaE (qaL (qau (qaP K) [] E0 (qac (qau (qbo K) [] E0 (qac (qaf 5) (qac (tC (.int 1)) (qac (qau (qba K) [] E0 (qac (tOp gT (qaf 8) (tC (.int 0))) (qac (qaf 6) qat))) (qac (tC (.int 1)) (qac (tC (.int 0)) qat)))))) (qac (qaf 2) qat))) (qaj 9))
    (qeH K))
noncomputable def qeJ:TS:=
  (qaE (qaL (qau (qaS K) [] E0 (qac (qaf 3) (qac (qaf 4) (qac (qaf 2) qat)))) (qaj 8))
    (qeI K))
noncomputable def qeK:TS:=
  (qaE (qdK (qaU (tOp rEq (tCB qbP (qac (qaf 4) qat)) (tC (.int 1)))) (qbK (qaf 6)) qbz)
    (qeJ K))
noncomputable def qcK:TS:=
  (qaE (qaL (qau (qaP K) [] E0 (qac (qcu (qbR K (qaf 6)) [none,some 7] (qaj 0) (tOp qcy (qaf 0) (qaf 1))) (qac (qaf 2) qat))) (qaj 6))
    (qeK K))
noncomputable def qeL:TS:=
  (qaE (qaL (qau (qaP K) [] E0 (qac (qcu (qbR K (qaf 4)) [none,some 7] (qaj 0) (tOp qcy (qaf 0) (qaf 1))) (qac (qaf 2) qat))) (qaj 4))
    (qcK K))
noncomputable def qcL:TS:=
  (qaE (qaL (qau (qaV K) [] E0 (qac (tOp gL (qaf 4) (tUn qdL (tC (.int 1)))) (qac (qaf 2) qat))) (qaj 7))
    (qeL K))
noncomputable def qgo:TS:=
  (qb7 (tB (tC (.bl true))) (qcL K))
noncomputable def qgp:TS:=
  (qaE (qaL (qea (qac (tC (.int 1)) qat)) (qaj 6))
    (qgo K))
noncomputable def qgq:TS:=
  (qaE (qaL (qea qat) (qaj 5))
    (qgp K))
noncomputable def qdE:TS:=
  (qaE (qaL (qau (qaN K) [] E0 (qac (qaf 0) (qac (qaf 1) (qac (qaf 2) qat)))) (qaj 4))
    (qgq K))
noncomputable def qhW:TS:=
  (qaE (qaL (qaf 1) (qaj 3))
    (qdE K))
noncomputable def qfe:TS:=
  (qaL (qau (qaN K) [] E0 (qac (qau (qba K) [] E0 (qac (qaf 6) (qac (qaf 10) qat))) (qac (qaf 1) (qac (qaf 4) qat)))) (qaj 6))
noncomputable def qff:TS:=
  (qaE (qaL (qau (qbo K) [] E0 (qac (qea (qac (tC (.int 2)) qat)) (qac (tC (.int 1)) (qac (qau (qaN K) [] E0 (qac (qau (qba K) [] E0 (qac (qaf 5) (qac (qaf 6) qat))) (qac (qaf 1) (qac (qaf 4) qat)))) (qac (tC (.int 1)) (qac (tC (.int 0)) qat)))))) (qaj 10))
    (qfe K))
noncomputable def qfg:TS:=
  (qaE (qaL (tOp gT (qau (qaS K) [] E0 (qac (qaf 7) (qac (qaf 1) (qac (qaf 4) qat)))) (tC (.int 0))) (qaj 5))
    (qff K))
noncomputable def qiZ:TS:=
  (qaE (qaL (qau (qaP K) [] E0 (qac (qau (qbo K) [] E0 (qac (qaf 1) (qac (tC (.int 1)) (qac (qaf 9) (qac (tUn qdL (tC (.int 1))) (qac (tC (.int 0)) qat)))))) (qac (qaf 4) qat))) (qaj 1))
    (qfg K))
noncomputable def qi0:TS:=
  (qaE (qaL (qau (qaN K) [] E0 (qac (qau (qba K) [] E0 (qac (qaf 8) (qac (qaf 6) qat))) (qac (qaf 1) (qac (qaf 4) qat)))) (qaj 9))
    (qiZ K))
noncomputable def qi1:TS:=
  (qaE (qaL (qau (qaN K) [] E0 (qac (qaf 7) (qac (qaf 1) (qac (qaf 4) qat)))) (qaj 8))
    (qi0 K))
noncomputable def qfh:TS:=
  (qaE (qaL (qau (qaM K) [] E0 (qac (qaf 0) (qac (qaf 4) qat))) (qaj 7))
    (qi1 K))
noncomputable def qi2:TS:=
  (qaE (qmK 4 (qaf 4) qcy)
    (qfh K))
noncomputable def qin (_:W.Frag):TS:=
  (qbK (qks (qac (qaf 1) (qac (qaf 4) qat))))
noncomputable def qmi:TS:=
  (qaE (qb7 (qaU (tOp iLe (qaf 4) (qaf 3))) (qi2 K))
    (qin K))
noncomputable def qio:TS:=
  (qaE (qaL (qau (qbU K) [] E0 (qac (qaf 5) (qac (qaf 1) (qac (qaf 2) qat)))) (qaj 6))
    (qmi K))
noncomputable def qip:TS:=
  (qaE (qaL (tOp gT (qau (qaS K) [] E0 (qac (qau (qaM K) [] E0 (qac (qaf 0) (qac (qaf 2) qat))) (qac (qaf 1) (qac (qaf 2) qat)))) (tC (.int 0))) (qaj 5))
    (qio K))
noncomputable def qpl:TS:=
  (qaE (qaL (qaf 2) (qaj 4))
    (qip K))
noncomputable def qjV (_:W.Frag):TS:=
  (qaE (qaL (tOp qg0 (qaf 0) (qaf 1)) (qaj 2))
    (qbK (tIf (qaU (tOp iGt (tOp qcy (tC (.int 2)) (qaf 2)) (qaf 1))) (tOp qfC (qaf 2) (qaf 1)) (qaf 2))))
noncomputable def qdh:TS:=
  (qaE (qaL (qau (qaH K) [] E0 (qac (tOp gL (qaf 0) (tUn qdL (tC (.int 1)))) (qac (tOp gL (qaf 1) (tUn qdL (tC (.int 1)))) qat))) (qaj 3))
    (qaE (qdK (qaU (tOp rEq (tOp qg0 (qaf 3) (qaf 2)) (tC (.int 0)))) (qbK (tC .non)) qbz)
    (qaE (qaL (qau (qa7 K) [] E0 (qac (qaf 0) (qac (qaf 1) (qac (qaf 2) qat)))) (qaj 4))
    (qaE (qaL (qau (qaO K) [] E0 (qac (qcu (qbR K (qaf 4)) [none,some 2,some 3] (qaj 0) (qau (qb2 K) [] E0 (qac (tOp qcy (qaf 2) (qaf 0)) (qac (qaf 1) qat)))) qat)) (qaj 5))
    (qaE (qdK (tOr (qaU (tOp qrW (qau (qbp K) [] E0 (qac (qaf 0) (qac (qaf 5) qat))) (tC .non))) (qaU (tOp qrW (qau (qbp K) [] E0 (qac (qaf 1) (qac (qaf 5) qat))) (tC .non)))) (qbK (tC .non)) qbz)
    (qbK (qaf 5)))))))
noncomputable def qgf:TS:=
  (qaE (qaL (qau (qaO K) [] E0 (qac (qaf 0) qat)) (qaj 2))
    (qaE (qaL (qau (qaO K) [] E0 (qac (qaf 1) qat)) (qaj 3))
    (qaE (qdK (qoQ (qhQ (qaf 0)) (qhQ (qaf 1))) (qdw (qoW K (tC (.ref (qb1 K)))) (qaj 4) (qaE (qaL (qau (qaW K) [] E0 (qac (qaf 2) (qac (qaf 3) (qac (tOp qfC (qau (qdf K) [] E0 (qac (tC (.int 2)) (qac (qaf 4) qat))) (tC (.int 1))) qat)))) (qaj 5))
    (qdK (qaU (tOp qpa (qaf 5) (tC .non))) (qbK (qaf 5)) qbz))) qbz)
    (qbK (tOp gL (qau (qaX K) [] E0 (qac (qea (qac (qaf 2) qat)) (qac (qea (qac (qaf 3) qat)) qat))) (tC (.int 0)))))))
noncomputable def qeo:TS:=
  (qbK (tIf (qaU (tOp iGt (tOp gL (qaf 2) (tUn qdL (tC (.int 1)))) (tC (.int 0)))) (qaf 2) (qcu (qbR K (qaf 2)) [none] (qaj 0) (tUn qdL (qaf 0)))))
noncomputable def qep:TS:=
  (qaE (qaL (qau (qbp K) [] E0 (qac (qaf 1) (qac (qau (qbC K) [] E0 (qac (qaf 1) (qac (qau (qby K) [] E0 (qac (qaf 1) qat)) qat))) qat))) (qaj 2))
    (qeo K))
noncomputable def qgg:TS:=
  (qaE (qaL (qau (qaO K) [] E0 (qac (qaf 0) qat)) (qaj 1))
    (qep K))
noncomputable def qn3:TS:=
  (qaE (qaL (qau (qaH K) [] E0 (qac (qaf 0) (qac (qaf 1) qat))) (qaj 2))
    (qaE (qdK (qaU (tOp iLt (qaf 1) (tC (.int 0)))) (qaL (tUn qdL (qaf 2)) (qaj 2)) qbz)
    (qbK (qks (qac (tOp qhR (qaf 0) (qaf 2)) (qac (tOp qhR (qaf 1) (qaf 2)) qat))))))
noncomputable def qjW:TS:=
  (qaE (qaL (tC (.int 1)) (qaj 1))
    (qaE (qdw (qoW K (qaf 0)) (qaj 2) (qmK 1 (tOp qjK (tOp gT (qaf 2) (tC (.int 1))) (qau (qaH K) [] E0 (qac (qaf 1) (qac (tOp gT (qaf 2) (tC (.int 1))) qat)))) qcy))
    (qbK (qks (qac (qcu (qoW K (qaf 0)) [none,some 1] (qaj 0) (tOp qcy (tOp gT (qaf 0) (tC (.int 0))) (tOp qjK (qaf 1) (tOp gT (qaf 0) (tC (.int 1)))))) (qac (qaf 1) qat))))))
noncomputable def qcg:TS:=
  (qaL (qau (qa8 K) [] E0 (qac (qaf 1) (qac (qaf 2) qat))) (qaj 3))
noncomputable def qch:TS:=
  (qaE (qaL (qau (qb5 K) [] E0 (qac (qaf 2) qat)) (qaj 2))
    (qcg K))
noncomputable def qd2:TS:=
  (qdK (qaU (tOp qpa (qau (qbp K) [] E0 (qac (qaf 1) (qac (qea (qac (tUn qdL (tOp gT (qaf 9) (tC (.int 0)))) (qac (tOp gT (qaf 9) (tC (.int 1))) qat))) qat))) (tC .non))) (qeS (tBM K "list" qb0 (qaf 5) (qac (qaf 8) qat))) qbz)
noncomputable def qci:TS:=
  (qaE (qaL (qau (qcT K) [] E0 (qac (qaf 8) (qac (tOp gL (qaf 1) (tUn qdL (tC (.int 1)))) qat))) (qaj 9))
    (qd2 K))
noncomputable def qcj:TS:=
  (qaE (qaL (qau (qb2 K) [] E0 (qac (tOp qcy (tUn qdL (tOp gL (tOp gT (qaf 7) (tC (.int 0))) (tC (.int 0)))) (tOp gL (qaf 1) (tUn qdL (tC (.int 1))))) (qac (tOp gT (qaf 7) (tC (.int 1))) qat))) (qaj 8))
    (qci K))
noncomputable def qck:TS:=
  (qaE (qaL (qau (qe3 K) [] E0 (qac (qaf 1) (qac (qea (qac (tUn qdL (qaf 6)) (qac (tC (.int 1)) qat))) (qac (qaf 2) (qac (qaf 4) qat))))) (qaj 7))
    (qcj K))
noncomputable def qc0:TS:=
  (qbK (qcu (qbR K (tCB qnE (qac (qaf 5) qat))) [none,some 1] (qaj 0) (qau (qcT K) [] E0 (qac (qaf 0) (qac (tOp gL (qaf 1) (tUn qdL (tC (.int 1)))) qat)))))
noncomputable def qfi:TS:=
  (qaE (qdw (qbR K (qaf 3)) (qaj 6) (qck K))
    (qc0 K))
noncomputable def qc1:TS:=
  (qaE (qaL (qea qat) (qaj 5))
    (qfi K))
noncomputable def qc2:TS:=
  (qaE (qaL (tOp qtF (tOp gL (qaf 1) (tUn qdL (tC (.int 1)))) (tOp qdx (tCB qqC (qac (qau (qbJ K) [] E0 (qac (qaf 1) qat)) (qac (tC (.int 0)) qat))) (tC (.int 1)))) (qaj 4))
    (qc1 K))
noncomputable def qfj:TS:=
  (qaE (qb7 (qaU (tOp qrW (qaf 3) (tC .non))) (qch K))
    (qc2 K))
noncomputable def qc3:TS:=
  (qaE (qaL (qau (qa8 K) [] E0 (qac (qaf 1) (qac (qaf 2) qat))) (qaj 3))
    (qfj K))
noncomputable def qfk:TS:=
  (qaE (qaL (tC (.int 2)) (qaj 2))
    (qc3 K))
noncomputable def qgr:TS:=
  (qaE (qaL (qau (qbD K) [] E0 (qac (tOp gT (qau (qcB K) [] E0 (qac (qaf 0) qat)) (tC (.int 0))) qat)) (qaj 1))
    (qfk K))
noncomputable def qei:TS:=
  (qeS (tBM K "list" qb0 (qaf 4) (qac (qaf 5) qat)))
noncomputable def qej:TS:=
  (qaE (qdK (qaU (tOp rEq (qau (qbr K) [] E0 (qac (qaf 3) (qac (qaf 5) (qac (qaf 1) qat)))) (tC (.int 0)))) (qbK (tC .non)) qbz)
    (qei K))
noncomputable def qfL (_:W.Frag):TS:=
  (qbK (qaf 4))
noncomputable def qfM:TS:=
  (qaE (qdw (qkp (qac (qaf 1) qat)) (qaj 5) (qdK (qaU (tOp rEq (qau (qbr K) [] E0 (qac (qaf 2) (qac (qaf 5) (qac (qaf 1) qat)))) (tC (.int 0)))) (qej K) qbz))
    (qfL K))
noncomputable def qfN:TS:=
  (qaE (qaL (qea qat) (qaj 4))
    (qfM K))
noncomputable def qfO:TS:=
  (qaE (qaL (qau (qby K) [] E0 (qac (qaf 2) qat)) (qaj 3))
    (qfN K))
noncomputable def qdi:TS:=
  (qaE (qaL (qau (qa2 K) [] E0 (qac (qaf 0) (qac (qaf 1) qat))) (qaj 2))
    (qfO K))
noncomputable def qhi:TS:=
  (qaE (qdK (qaU (tOp rEq (tOp qg0 (tOp gL (qaf 0) (tUn qdL (tC (.int 1)))) (qaf 1)) (tC (.int 0)))) (qbK (tC .non)) qbz)
    (qdi K))
noncomputable def qlH:TS:=
  (qaE (qaL (tCB qnB (qac (tSl (sS K) (qaf 0) qc6 (qhK (tC (.int 1)))) qat)) (qaj 1))
    (qbK (qea (qac (tCB qih (qac (tSl (sS K) (qaf 0) qc6 (qhK (tC (.int 63)))) qat)) (qac (tC (.int 0)) (qac (tOp qjE (tCB qoS (qac (qaf 1) qat)) (tC (.int 2))) (qac (tOp qg0 (qaf 1) (tC (.int 2))) qat)))))))
noncomputable def qfl (_:W.Frag):TS:=
  (qaL (tCB qoS (qac (tOp gL (tOp gL (qaf 0) (tC (.int 0))) (tOp gL (qaf 0) (tC (.int 1)))) qat)) (qoR (qaf 0) (tC (.int 2)) qeU))
noncomputable def qfm:TS:=
  (qaE (qaL (tOp qdx (tOp gL (qaf 0) (tC (.int 1))) (tC (.int 1))) (qoR (qaf 0) (tC (.int 1)) qeU))
    (qfl K))
noncomputable def qfn (_:W.Frag):TS:=
  (qbK (qaf 2))
noncomputable def qfo:TS:=
  (qaE (qaL (tOp qjE (tOp gL (qaf 0) (tC (.int 2))) (qaf 1)) (qoR (qaf 0) (tC (.int 2)) qeU))
    (qfn K))
noncomputable def qfp:TS:=
  (qaE (qaL (tOp qg0 (tOp gL (qaf 0) (tC (.int 2))) (qaf 1)) (qaj 2))
    (qfo K))
noncomputable def qiq (_:W.Frag):TS:=
  (qbK (tOp qg0 (tOp qjE (qaf 5) (tC (.int 7))) (qaf 1)))
noncomputable def qir:TS:=
  (qaE (qaL (tOp qg0 (tOp qdx (tOp qcy (qaf 4) (tOp qdx (tOp qg0 (qaf 4) (tC (.int 39373))) (tOp gL (qaf 0) (tC (.int 1))))) (tOp qcy (tC (.int 31)) (tOp gL (qaf 0) (tC (.int 1))))) (tC (.int 1999999973))) (qaj 5))
    (qiq K))
noncomputable def qis:TS:=
  (qaE (qaL (tOp qg0 (tOp qcy (tOp qdx (tOp qdx (tOp qg0 (qaf 3) (tC (.int 2147483629))) (tOp qcy (tC (.int 7919)) (tOp gL (qaf 0) (tC (.int 1))))) (tC (.int 11))) (tOp qdx (tC (.int 48271)) (tOp qcy (tC (.int 2)) (tOp gL (qaf 0) (tC (.int 1)))))) (tC (.int 2147483647))) (qaj 4))
    (qir K))
noncomputable def qit:TS:=
  (qaE (qaL (tCB qnB (qac (tSl sL (tSl sL (tOp gL (qaf 0) (tC (.int 0))) (qhK (tOp qg0 (tOp gL (qaf 0) (tC (.int 1))) (tCB qqC (qac (tC (.int 1)) (qac (tCB qbP (qac (tOp gL (qaf 0) (tC (.int 0))) qat)) qat))))) qc6) qc6 (qhK (tC (.int 1)))) qat)) (qaj 3))
    (qis K))
noncomputable def qfP:TS:=
  (qaE (qaL (tOp qdx (tOp gL (qaf 0) (tC (.int 1))) (tC (.int 1))) (qoR (qaf 0) (tC (.int 1)) qeU))
    (qit K))
noncomputable def qfQ:TS:=
  (qaE (qdK (qoQ (qaU (tOp rEq (tOp gL (qaf 0) (tC (.int 3))) (tC (.int 1)))) (qaU (tOp iGt (tOp gL (qaf 0) (tC (.int 2))) (tC (.int 0))))) (qfp K) qbz)
    (qfP K))
noncomputable def qlI:TS:=
  (qaE (qdK (qoQ (qaU (tOp rEq (tOp gL (qaf 0) (tC (.int 3))) (tC (.int 1)))) (qoQ (qaU (tOp rEq (tOp gL (qaf 0) (tC (.int 2))) (tC (.int 0)))) (qaU (tOp iLt (tOp qdx (tOp gL (qaf 0) (tC (.int 1))) (tC (.int 1))) (tCB qbP (qac (tOp gL (qaf 0) (tC (.int 0))) qat)))))) (qfm K) qbz)
    (qfQ K))
noncomputable def qiu (_:W.Frag):TS:=
  (qaE (qrD 2 3 (qac (tCB qoS (qac (qaf 0) qat)) (qac (tCB qoS (qac (qaf 1) qat)) qat)))
    (qaE (qb7 (qaU (tOp iGt (qaf 3) (tC (.int 0)))) (qrD 2 3 (qac (qaf 3) (qac (tOp qg0 (qaf 2) (qaf 3)) qat))))
    (qaE (qdK (qaU (tOp iLt (qaf 1) (tC (.int 0)))) (qaL (tUn qdL (qaf 2)) (qaj 2)) qbz)
    (qbK (qks (qac (tOp qhR (qaf 0) (qaf 2)) (qac (tOp qhR (qaf 1) (qaf 2)) qat)))))))
noncomputable def qfq:TS:=
  (qaE (qaL (tOp qpS (qea (qac (tC (.int 0)) qat)) (tOp qfC (tOp qdx (tCB qbP (qac (qaf 0) qat)) (tCB qbP (qac (qaf 1) qat))) (tC (.int 1)))) (qaj 2))
    (qaE (qdw (qf6 K (qac (qaf 0) qat)) (qiR 2 (qeu (qaj 3) (qeu (qaj 4) qoV))) (qdw (qf6 K (qac (qaf 1) qat)) (qiR 2 (qeu (qaj 5) (qeu (qaj 6) qoV))) (qaL (tOp qdx (tOp gL (qaf 2) (tOp qdx (qaf 3) (qaf 5))) (tOp qcy (qaf 4) (qaf 6))) (qoR (qaf 2) (tOp qdx (qaf 3) (qaf 5)) qeU))))
    (qbK (qaf 2))))
noncomputable def qhj:TS:=
  (qbK (tCB qo7 (qac (qcu (qbR K (qaf 0)) [none,some 1] (qaj 0) (qau (qbx K) [] E0 (qac (tOp qcy (qaf 0) (tOp gT (qaf 1) (tC (.int 0)))) (qac (tOp gT (qaf 1) (tC (.int 1))) qat)))) qat)))
noncomputable def qn4:TS:=
  (qaE (qaL (tC (.int 0)) (qaj 2))
    (qaE (qaL (tC (.int 1)) (qaj 3))
    (qaE (qdw (qsK K (qac (qaf 0) qat)) (qaj 4) (qaE (qaL (tOp qdx (tOp qcy (qaf 2) (tOp gT (qaf 1) (tC (.int 0)))) (tOp qcy (qaf 4) (qaf 3))) (qaj 2))
    (qaL (tOp qcy (qaf 3) (tOp gT (qaf 1) (tC (.int 1)))) (qaj 3))))
    (qbK (qaf 2)))))
noncomputable def qjX:TS:=
  (qbK (qau (qbx K) [] E0 (qac (tOp qcy (tOp gL (qea (qac (tC (.int 1)) (qac (tUn qdL (tC (.int 1))) qat))) (qau (qa3 K) [] E0 (qac (qaf 0) (qac (tC (.int 2)) qat)))) (tOp qdx (tC (.int 1)) (qau (qa3 K) [] E0 (qac (qaf 0) (qac (tC (.int 9)) qat))))) (qac (tOp qdx (tC (.int 1)) (qau (qa3 K) [] E0 (qac (qaf 0) (qac (tC (.int 9)) qat)))) qat))))
noncomputable def qhk:TS:=
  (qaE (qaL (qea qat) (qaj 3))
    (qaE (qdw (qkp (qac (qau (qa3 K) [] E0 (qac (qaf 0) (qac (tOp qdx (qaf 1) (tC (.int 1))) qat))) qat)) (qaj 4) (qeS (tBM K "list" qb0 (qaf 3) (qac (tOp gL (qea (qac (tC (.int 0)) (qac (tC (.int 1)) (qac (tUn qdL (tC (.int 1))) (qac (tOp qfC (qau (qa3 K) [] E0 (qac (qaf 0) (qac (tOp qdx (tOp qcy (tC (.int 2)) (qaf 2)) (tC (.int 1))) qat))) (qaf 2)) qat))))) (qau (qa3 K) [] E0 (qac (qaf 0) (qac (tC (.int 4)) qat)))) qat))))
    (qbK (tOp qsI (qaf 3) (qea (qac (tOp qcy (tOp gL (qea (qac (tC (.int 1)) (qac (tUn qdL (tC (.int 1))) qat))) (qau (qa3 K) [] E0 (qac (qaf 0) (qac (tC (.int 2)) qat)))) (tOp qdx (tC (.int 1)) (qau (qa3 K) [] E0 (qac (qaf 0) (qac (qaf 2) qat))))) qat))))))
noncomputable def qcM:TS:=
  (qdK (tOr (qaU (tOp rEq (qaf 3) (tCB qbP (qac (qaf 1) qat)))) (qaU (tOp neD (tOp gL (qaf 1) (qaf 3)) (qaf 2)))) (qeS (tBM K "list" qnC (qaf 1) (qac (qaf 3) (qac (qaf 2) qat)))) qbz)
noncomputable def qd3:TS:=
  (qaE (qb7 (qoQ (qaU (tOp iLt (qaf 3) (tCB qbP (qac (qaf 1) qat)))) (qaU (tOp iLt (tOp qcy (tOp gT (tOp gL (qaf 1) (qaf 3)) (tC (.int 0))) (tOp gT (qaf 2) (tC (.int 1)))) (tOp qcy (tOp gT (qaf 2) (tC (.int 0))) (tOp gT (tOp gL (qaf 1) (qaf 3)) (tC (.int 1))))))) (qaL (tOp qdx (qaf 3) (tC (.int 1))) (qaj 3)))
    (qcM K))
noncomputable def qd4:TS:=
  (qaE (qaL (tC (.int 0)) (qaj 3))
    (qd3 K))
noncomputable def qjY (_:W.Frag):TS:=
  (qbK (qaf 1))
noncomputable def qgh:TS:=
  (qaE (qdw (qbR K (qaf 0)) (qaj 2) (qd4 K))
    (qjY K))
noncomputable def qmj:TS:=
  (qaE (qaL (qea qat) (qaj 1))
    (qgh K))
noncomputable def qmk (_:W.Frag):TS:=
  (qbK (qg4 (ql3 (qac (tC (.int 1)) (qac (tOp qdx (tCB qoS (qac (qaf 0) qat)) (tC (.int 1))) qat))) [none,some 0] (qaj 0) (qaU (tOp rEq (tOp qg0 (qaf 1) (qaf 0)) (tC (.int 0)))) (qaf 0)))
noncomputable def qdF:TS:=
  (qbK (qau (qdr K) [] E0 (qac (qaf 1) qat)))
noncomputable def qdG:TS:=
  (qaE (qdw (qbR K (qau (qbL K) [] E0 (qac (qaf 2) qat))) (qaj 3) (qdw (qbR K (qau (qbL K) [] E0 (qac (tOp gL (qaf 0) (tUn qdL (tC (.int 1)))) qat))) (qaj 4) (qdw (qoW K (qks (qac (tC (.int 1)) (qac (tUn qdL (tC (.int 1))) qat)))) (qaj 5) (qdK (qaU (tOp rEq (qau (qcD K) [] E0 (qac (qaf 0) (qac (qks (qac (tOp qcy (qaf 5) (qaf 3)) (qac (qaf 4) qat))) qat))) (tC (.int 0)))) (qeS (tBM K "list" qb0 (qaf 1) (qac (qau (qbx K) [] E0 (qac (tOp qcy (qaf 5) (qaf 3)) (qac (qaf 4) qat))) qat))) qbz))))
    (qdF K))
noncomputable def qcp:TS:=
  (qaE (qaL (tOp gL (qg4 (qbR K (qaf 0)) [none] (qaj 0) (qaU (tOp rNe (qaf 0) (tC (.int 0)))) (qaf 0)) (tC (.int 0))) (qaj 2))
    (qdG K))
noncomputable def qdH:TS:=
  (qaE (qdK (qoQ (qaU (tOp rEq (tOp gL (qaf 0) (tC (.int 0))) (tC (.int 0)))) (qaU (tOp iGt (tCB qbP (qac (qaf 0) qat)) (tC (.int 1))))) (qeS (tBM K "list" qb0 (qaf 1) (qac (qks (qac (tC (.int 0)) (qac (tC (.int 1)) qat))) qat))) qbz)
    (qcp K))
noncomputable def qhX:TS:=
  (qaE (qaL (qea qat) (qaj 1))
    (qdH K))
noncomputable def qn5:TS:=
  (qbK (tOp eqD (qau (qbE K) [] E0 (qac (qaf 3) qat)) (qau (qbV K) [] E0 (qac (qaf 2) qat))))
noncomputable def qn6:TS:=
  (qaE (qaL (qau (qbO K) [] E0 (qac (qaf 2) (qac (qau (qcC K) [] E0 (qac (qaf 1) qat)) qat))) (qaj 3))
    (qn5 K))
noncomputable def qn7:TS:=
  (qaE (qdK (qaU (tOp rEq (qau (qa3 K) [] E0 (qac (qaf 1) (qac (tC (.int 3)) qat))) (tC (.int 0)))) (qaL (qau (qbu K) [] E0 (qac (qau (qbk K) [] E0 (qac (qaf 1) (qac (tC (.int 2)) (qac (tC (.int 9)) qat)))) (qac (qau (qbk K) [] E0 (qac (qaf 1) (qac (tC (.int 2)) (qac (tC (.int 9)) qat)))) qat))) (qaj 2)) qbz)
    (qn6 K))
noncomputable def qqV:TS:=
  (qaE (qaL (qau (qbk K) [] E0 (qac (qaf 1) (qac (tOp gL (qea (qac (tC (.int 5)) (qac (tC (.int 8)) qat))) (tCB qo4 (qac (tOp rEq (qau (qa3 K) [] E0 (qac (qaf 1) (qac (tC (.int 8)) qat))) (tC (.int 0))) qat))) (qac (tC (.int 30)) qat)))) (qaj 2))
    (qn7 K))
noncomputable def qtd:TS:=
  (qaE (qaL (qau (qdg K) [] E0 (qac (qaf 0) qat)) (qaj 1))
    (qqV K))
end
end Bs
namespace Bs
open PySem L2
variable {K:W.Frag} {vs:List V} {H:Hp} {Q:VK} {E:XK}
local macro_rules | `(tactic| rwa [$[$t:term],*]) => do
  let l : Array Lean.Term := (("qaE qaL qau qac qaf qat qaj qoR L2.start qdK tIf qaU L2.tB tOp rI0 rI L2.tC tUn rU qbz qbK qks qea qrD qmK qeS tCB qpO qoQ tOr qqs qrA qty qrB rEq rNe qeU qdx qfC qcy qjE qrL qg0 qqB qtA iLt iLe iGt iGe qdL gT gL gS qoS qqC qtB qo4 qrM qbP qrN qtC qnc qf5 qpT eqT qnd qnf qpU qpV List.map_cons List.map_nil List.length_cons List.length_nil List.replicate List.cons_append List.nil_append List.append_nil List.getElem?_cons_zero List.getElem?_cons_succ Option.some.injEq exists_eq_left' exists_eq_left V.int.injEq V.bl.injEq V.ref.injEq V.ty.injEq HO.tup.injEq HO.lst.injEq List.cons.injEq and_true true_and and_assoc exists_and_left List.set_cons_zero List.set_cons_succ decide_eq_true_eq decide_eq_false_iff_not Bool.not_eq_true' Bool.true_eq_false Bool.false_eq_true Bool.not_true Bool.not_false if_true if_false ite_true ite_false qng qnh qlp qlq qic qid qie qif qig Nat.zero_add Nat.reduceAdd Nat.reduceSub qai Int.cast_ofNat_Int decide_true decide_false eq_self not_true_eq_false not_false_eq_true Int.natCast_add Int.natCast_zero reduceCtorEq Nm qiR qeu qoV qkn tSl qc6 qhK sL sT qo7 qpX qih qhQ qrT qpS qsI qb0 qiJ qtz tBM qrI qlr qls qnk qnl qlt qnw qlu qnm qnn qnt qnu qpb qqE qpc qrW qpa qjK qhR qsL qqD qct Option.bind_some Option.bind_none Option.bind Option.join id_eq sS qnB qrZ qaH qdf qcA qa1 qbB qbp qbo qbt qaQ qaO qaX qaV qa2 qaP qaM qaS qaN qa7 qb2 qaW qbC qcT qn2 qcB qf8 qjT qqa qik qby qbD qdg qa3 qbu qbO qcC qbk qba".splitOn " ").map fun s => (⟨(Lean.mkIdent s.toName).raw⟩ : Lean.Term)).toArray
  `(tactic| simp only [$[$(l ++ t):term],*])
theorem qte {x:Int} (h1:-1099511627776<x) (h2:x<1099511627776):Bd 40 x:=by
  show x.natAbs<1099511627776
  omega
theorem qn8 {a b:Int} (ha:Bd 60000000 a) (hb:Bd 60000000 b):IntMulOk a b:=qr0 ha hb (by decide)
theorem qtf {a b:Int} (h1:-18446744073709551616<b) (h2:b<18446744073709551616):IntMulOk a b:=IntMulOk.of_right (intBits_le_64 (by omega) (by omega))
theorem qtg {a b:Int} (h1:-18446744073709551616<a) (h2:a<18446744073709551616):IntMulOk a b:=IntMulOk.of_left (intBits_le_64 (by omega) (by omega))
theorem qfR (h:qaH K vs H Q E):qdy K { nx:=fun _ H'=>Q .non H',rt:=Q } (L2.start ["one", "other", "rest"] vs) H:=by
  obtain ⟨a,b,rfl,q⟩:=h
  unfold qdy
  rwa []
  refine while_by (fun m σ H'=>∃ (x y:Int) (r:Option V),σ=[some (.int x),some (.int y),r]∧H'=H∧Int.gcd x y=Int.gcd a b∧m=y.natAbs) b.natAbs ⟨a,b,none,rfl,rfl,rfl,rfl⟩ ?_
  rintro m σ H' ⟨x,y,r,rfl,rfl,hg,rfl⟩
  rwa []
  refine qbM (fun c=>?_) (fun c=>?_)
  · refine ⟨fun σ' H''=>∃ m',m'<y.natAbs∧_,fun _ _ h=>h,?_⟩
    refine ⟨c,_,qnb x c,y,x.fmod y,_,rfl,rfl,?_,rfl⟩
    rw [qlo];exact hg
  · have y0:y=0:=Decidable.not_not.mp c
    subst y0
    have e:(if x<0 then -x else x)=((Int.gcd a b:Nat):Int):=by
      rw [← hg,Int.gcd_zero_right];split <;> omega
    rw [e];exact q
theorem qpm {ns:List Int} {k:Int} (h0:0≤k) (h:k<(ns.length:Int)):∃ v:Int,atI (ns.map V.int) k=some (.int v):=by
  have hk:k.toNat<ns.length:=by omega
  have ek:k=((k.toNat:Nat):Int):=by omega
  have q:atI (ns.map V.int) ((k.toNat:Nat):Int)=some (.int ns[k.toNat]):=qkv (by rw [List.getElem?_map,List.getElem?_eq_getElem hk] <;> rfl)
  rw [← ek] at q
  exact ⟨_,q⟩
theorem qn9 (h:qdf K vs H Q E):qlG K { nx:=fun _ H'=>Q .non H',rt:=Q } (L2.start ["whole", "n", "result", "square"] vs) H:=by
  obtain ⟨x,n,b,rfl,n0,bx,hb,q⟩:=h
  unfold qlG
  rwa []
  have BP:∀ k:Nat,k≤n.toNat→Bd 60000000 (x ^ k):=fun k hk=>(bx.pow k).mono (by
    have:=Nat.mul_le_mul_left b hk
    omega)
  refine while_by (fun m σ H'=>∃ r s:Nat,σ=[some (.int x),some (.int (m:Int)),some (.int (x ^ r)),some (.int (x ^ s))]∧H'=H∧r+s*m=n.toNat) n.toNat ⟨0,1,?_,rfl,by omega⟩ ?_
  · have e:((n.toNat:Nat):Int)=n:=by omega
    rw [e,Int.pow_zero,show x ^ 1=x by rw [Int.pow_succ,Int.pow_zero,Int.one_mul]]
  rintro m σ H' ⟨r,s,rfl,rfl,hm⟩
  rwa []
  refine qbM (fun c=>?_) (fun c=>?_)
  · have m1:1≤m:=by omega
    have sl:s≤s*m:=Nat.le_mul_of_pos_right s m1
    have d2:qsR (m:Int) 2:=⟨by decide,(qtZ (by decide) (by decide)).mono (by decide)⟩
    have hm2:s*m=(s+s)*(m / 2)+s*(m % 2):=by
      have e:m=2*(m / 2)+m % 2:=(Nat.div_add_mod m 2).symm
      generalize m / 2=u at e ⊢
      generalize m % 2=v at e ⊢
      subst e
      rw [Nat.mul_add]
      congr 1
      rw [← Nat.mul_assoc,Nat.mul_comm s 2]
      congr 1
      omega
    have ed:((m:Int) / 2)=((m / 2:Nat):Int):=by omega
    rw [ed]
    refine ⟨fun σ' H''=>∃ m',m'<m∧_,fun _ _ h=>h,?_⟩
    have fin:∀ r':Nat,r'+(s+s)*(m / 2)=n.toNat→qsR (m:Int) 2∧if 0<((m / 2:Nat):Int) then IntMulOk (x ^ s) (x ^ s)∧∃ m',m'<m∧∃ r s_1,[some (V.int x),some (V.int ((m / 2:Nat):Int)),some (V.int (x ^ r')),some (V.int (x ^ s*x ^ s))]=[some (V.int x),some (V.int (m':Int)),some (V.int (x ^ r)),some (V.int (x ^ s_1))]∧H'=H'∧r+s_1*m'=n.toNat
        else ∃ m',m'<m∧∃ r s_1,[some (V.int x),some (V.int ((m / 2:Nat):Int)),some (V.int (x ^ r')),some (V.int (x ^ s))]=[some (V.int x),some (V.int (m':Int)),some (V.int (x ^ r)),some (V.int (x ^ s_1))]∧H'=H'∧r+s_1*m'=n.toNat:=fun r' hr'=>by
      refine ⟨d2,qbM (fun c2=>?_) (fun c2=>?_)⟩
      · exact ⟨qn8 (BP s (by omega)) (BP s (by omega)),m / 2,by omega,r',s+s,by rw [Int.pow_add],rfl,hr'⟩
      · have z:m / 2=0:=by omega
        rw [z] at hr' ⊢
        exact ⟨0,by omega,r',s,rfl,rfl,by omega⟩
    refine ⟨by decide,qbM (fun c2=>⟨qn8 (BP r (by omega)) (BP s (by omega)),?_⟩) (fun c2=>?_)⟩
    · rw [← Int.pow_add]
      have e1:m % 2=1:=by omega
      rw [e1] at hm2
      exact fin (r+s) (by omega)
    · have e1:m % 2=0:=by omega
      rw [e1] at hm2
      exact fin r (by omega)
  · have z:m=0:=by omega
    subst z
    have e:r=n.toNat:=by omega
    subst e
    exact q
theorem qpn {l:List Nu} {i:Nat} {q:Nu} (h:l[i]?=some q):(l.take (i+1)).foldl (fun B q=>B*(q.2 / ((Int.gcd B q.2:Nat):Int))) 1=(l.take i).foldl (fun B q=>B*(q.2 / ((Int.gcd B q.2:Nat):Int))) 1*(q.2 / ((Int.gcd ((l.take i).foldl (fun B q=>B*(q.2 / ((Int.gcd B q.2:Nat):Int))) 1) q.2:Nat):Int)):=by
  rw [List.take_add_one,h,List.foldl_append]
  rfl
theorem qcv {α β:Type} {l:List α} {i:Nat} {q:α} (f:α→β) (h:l[i]?=some q):(l.take (i+1)).map f=(l.take i).map f++[f q]:=by
  rw [List.take_add_one,h,List.map_append]
  rfl
theorem qbq (n:Nat) (f:Nat→Int):(qbT n f).length=n:=by unfold qbT;rw [List.length_map,List.length_map,List.length_range]
theorem qbb {n k:Nat} (f:Nat→Int) (h:k<n):(qbT n f)[k]?=some (.int (f k)):=by
  unfold qbT
  rw [List.getElem?_map,List.getElem?_map,List.getElem?_range h]
  rfl
theorem qds {n k:Nat} {f g:Nat→Int} {z:Int} (h:k<n) (h1:g k=z) (h2:∀ i,i<n→i≠k→g i=f i):(qbT n f).set k (.int z)=qbT n g:=by
  apply List.ext_getElem?
  intro i
  by_cases hi:i<n
  · by_cases e:i=k
    · subst e
      rw [List.getElem?_set_self (by rw [qbq];exact hi),qbb g hi,h1]
    · rw [List.getElem?_set_ne (fun z=>e z.symm),qbb f hi,qbb g hi,h2 i hi e]
  · rw [List.getElem?_eq_none (by rw [List.length_set,qbq];omega),List.getElem?_eq_none (by rw [qbq];omega)]
theorem qb3 {n:Nat} {f g:Nat→Int} (h:∀ i,i<n→g i=f i):qbT n f=qbT n g:=by
  apply List.ext_getElem?
  intro i
  by_cases hi:i<n
  · rw [qbb f hi,qbb g hi,h i hi]
  · rw [List.getElem?_eq_none (by rw [qbq];omega),List.getElem?_eq_none (by rw [qbq];omega)]
theorem qgJ (n:Nat):(List.replicate n [V.int 0]).flatten=qbT n fun _=>0:=by
  rw [qdp]
  apply List.ext_getElem?
  intro i
  by_cases hi:i<n
  · rw [qbb _ hi,List.getElem?_replicate,if_pos hi]
  · rw [List.getElem?_replicate,if_neg hi,List.getElem?_eq_none (by rw [qbq];omega)]
theorem qhl {n k:Nat} {i:Int} (e:i=(k:Int)) (h:k<n):ixN n i=some k:=by
  subst e
  unfold ixN
  rw [if_pos (by omega),if_pos (by omega)]
  simp
theorem Pl.same {H H':Hp} {r:Addr} {L:List Nu} (h:Pl H r L) (s:Same H H'):Pl H' r L:=let ⟨zs,a,b⟩:=h;⟨zs,s _ _ a,b.tp (tpS s)⟩
theorem Pl.tp {H H':Hp} {r:Addr} {L:List Nu} (h:Pl H r L) (s:Tp H H'):Pl H' r L:=let ⟨zs,a,b⟩:=h;⟨zs,s _ _ a,b.tp s⟩
theorem qtJ {m n:Nat} {x y:Int} (hx:Bd m x) (hy:Bd n y) (hm:m≤60000000:=by decide) (hn:n≤60000000:=by decide):IntMulOk x y:=qn8 (hx.mono hm) (hy.mono hn)
theorem qcN (ns:List Int) (m:Nat):qcs ns (m+1)=if ns.getD m 1=0 then qcs ns m else m+1:=rfl
theorem qhY (h:qa1 K vs H Q E):qe4 K { nx:=fun _ H'=>Q .non H',rt:=Q } (L2.start ["row", "many"] vs) H:=by
  obtain ⟨p,ns,rfl,hp,q⟩:=h
  unfold qe4
  rwa [hp]
  have fin:∀ m:Nat,m≤ns.length→qcs ns m=qcs ns ns.length→qcs ns m=m→∀ r,H r=none→Q (V.ref r) (upd H r (HO.lst (qjo (ns.map V.int) none (some (m:Int))))):=fun m h1 h2 h3 r hr=>by
    rw [qnV (by rw [List.length_map];exact h1),← List.map_take,← h3,h2]
    exact q r hr
  refine while_by (fun m σ H'=>σ=[some (.ref p),some (.int (m:Int))]∧H'=H∧qcs ns m=qcs ns ns.length∧m≤ns.length) ns.length ⟨by rw [List.length_map],rfl,rfl,Nat.le_refl _⟩ ?_
  rintro m σ H' ⟨rfl,rfl,ht,hm⟩
  rwa [hp]
  refine qbM (fun c=>?_) (fun c=>?_)
  · obtain ⟨k,rfl⟩:∃ k,m=k+1:=⟨m - 1,by omega⟩
    have hv:(ns.map V.int)[k]?=some (V.int (ns.getD k 1)):=by
      rw [List.getElem?_map,List.getElem?_eq_getElem (by omega),List.getD_eq_getElem?_getD,List.getElem?_eq_getElem (by omega)];rfl
    refine ⟨_,qcS (by omega) hv,rfl,qbM (fun c2=>?_) (fun c2=>?_)⟩
    · have z:ns.getD k 1=0:=by injection c2
      rw [qcN,if_pos z] at ht
      exact ⟨fun σ' H''=>∃ m',m'<k+1∧_,fun _ _ h=>h,k,by omega,by rw [show ((k+1:Nat):Int) - 1=(k:Int) by omega],rfl,ht,by omega⟩
    · have z:ns.getD k 1≠0:=fun z=>c2 (by rw [z])
      exact fin (k+1) hm ht (by rw [qcN,if_neg z])
  · have z:m=0:=by omega
    subst z
    exact fin 0 hm ht rfl
theorem qhm (ns:List Int):∀ m,qcs ns m≤m
  | 0=>Nat.le_refl 0
  | m+1=>by
    rw [qcN]
    split
    · exact Nat.le_succ_of_le (qhm ns m)
    · exact Nat.le_refl _
theorem qhn {ns:List Int}:(qdT ns).length=qcs ns ns.length:=by
  unfold qdT
  rw [List.length_take,Nat.min_eq_left (qhm ns ns.length)]
theorem qjZ {ns:List Int} (k:Nat):(qdT ns).getD k 0=ns.getD k 0:=by
  have key:∀ (m:Nat),m≤ns.length→(∀ j,m≤j→j<ns.length→ns.getD j 0=0)→∀ j,qcs ns m≤j→j<ns.length→ns.getD j 0=0:=by
    intro m
    induction m with
    | zero=>intro _ h j hj1 hj2;exact h j (by omega) hj2
    | succ m ih=>
      intro hm h j h1 h2
      rw [qcN] at h1
      split at h1
      · rename_i z
        refine ih (by omega) (fun j hj1 hj2=>?_) j h1 h2
        by_cases e:j=m
        · subst e
          rw [List.getD_eq_getElem?_getD,List.getElem?_eq_getElem hj2] at z ⊢
          exact z
        · exact h j (by omega) hj2
      · exact h j h1 h2
  by_cases h1:k<qcs ns ns.length
  · unfold qdT
    rw [List.getD_eq_getElem?_getD,List.getD_eq_getElem?_getD,List.getElem?_take_of_lt h1]
  · have e:(qdT ns).getD k 0=0:=by
      rw [List.getD_eq_getElem?_getD,List.getElem?_eq_none (by rw [qhn];omega)]
      rfl
    rw [e]
    by_cases h2:k<ns.length
    · exact (key ns.length (Nat.le_refl _) (fun j a b=>absurd b (by omega)) k (by omega) h2).symm
    · rw [List.getD_eq_getElem?_getD,List.getElem?_eq_none (by omega)]
      rfl
theorem qpo {ns:List Int} {g:Int} (h:∀ z∈ns,g∣z) (k:Nat):g∣ns.getD k 0:=by
  rw [List.getD_eq_getElem?_getD]
  cases e:ns[k]? with
  | none=>exact Int.dvd_zero g
  | some z=>exact h z (List.mem_of_getElem? e)
theorem qqW {m:List Nu} (hm:qcF m) (nm:Nz m) (h1:1≤m.length):(qf7 m).getD (m.length - 1) 0≠0:=by
  rw [qqN,qqM]
  have hb:m.length - 1<m.length:=by omega
  have q:=nm m[m.length - 1] (by rw [List.getLast?_eq_getElem?];exact List.getElem?_eq_getElem hb)
  have e:qij m (m.length - 1)=m[m.length - 1]:=by unfold qij;rw [List.getD_eq_getElem?_getD,List.getElem?_eq_getElem hb];rfl
  rw [e]
  refine Int.mul_ne_zero q ?_
  have o:=qha hm
  have d:=o.2 m[m.length - 1] (List.getElem_mem hb)
  obtain ⟨y,hy⟩:=d
  have p0:=(hm m[m.length - 1] (List.getElem_mem hb)).pos
  rw [hy,Int.mul_ediv_cancel_left _ (Int.ne_of_gt p0)]
  intro z
  rw [z,Int.mul_zero] at hy
  have:=o.1
  omega
theorem atI_last {xs:List V} {v:V} (h:1≤xs.length) (e:xs[xs.length - 1]?=some v):atI xs (-1)=some v:=by
  unfold atI ixN
  rw [if_neg (by decide),if_pos (by omega),show (-1+(xs.length:Int)).toNat=xs.length - 1 by omega]
  exact e
theorem qpp (h:qcT K vs H Q E):qn3 K { nx:=fun _ H'=>Q .non H',rt:=Q } (L2.start ["top", "bottom", "shared"] vs) H:=by
  obtain ⟨a,b,rfl,hb,q⟩:=h
  unfold qn3
  rwa []
  have go:∀ s:Int,(s=if b<0 then -((Int.gcd a b:Nat):Int) else ((Int.gcd a b:Nat):Int))→qqD a s∧qqD b s∧2≤sizeLine∧∀ (p:Addr),H p=none→Q (V.ref p) (upd H p (HO.tup [V.int (a.fdiv s),V.int (b.fdiv s)])):=fun s hs=>by
    obtain ⟨h1,h2,h3,h4,h5,h6⟩:=qeb hb hs
    have e:qaT a b=(a.fdiv s,b.fdiv s):=by
      refine qfK (qbn hb) h3 ?_
      rw [qb4 hb,qg9 (q:=(a.fdiv s,b.fdiv s)) (Int.ne_of_gt h3.pos) hb h4]
    rw [e] at q
    exact ⟨h1,h1,sz (by decide),q⟩
  refine qbM (fun c=>?_) (fun c=>?_)
  · exact go _ (by rw [if_pos c])
  · exact go _ (by rw [if_neg c])
theorem qml (h:qcB K vs H Q E):qjW K { nx:=fun _ H'=>Q .non H',rt:=Q } (L2.start ["P", "bottom", "number"] vs) H:=by
  obtain ⟨p,xs,l,M,rfl,hp,hN,hL,hO,bM,hB,hl,q⟩:=h
  unfold qjW
  rwa [hp]
  have lx:=hN.length
  have B0:=(qha hL).1
  have BB:=qly (Int.ne_of_gt hO.1) (qlz hL hO) bM
  have qb:∀ q∈l,Bd 400000 q.2:=fun q hq=>qly (Int.ne_of_gt hO.1) (hO.2 q hq) bM
  refine ⟨⟨_,SqT.of hp⟩,ForT.by (xs:=xs) (fun i σ H'=>∃ x,σ=[some (.ref p),some (.int ((l.take i).foldl (fun B q=>B*(q.2 / ((Int.gcd B q.2:Nat):Int))) 1)),x]∧H'=H) ⟨none,rfl,rfl⟩ ?_ ?_ ?_⟩
  · rintro i σ H' _ ⟨x,rfl,rfl⟩
    exact hp
  · rintro i x σ H' hi ⟨y,rfl,rfl⟩
    obtain ⟨z,hz,p1,rfl,hp1⟩:=hN.get hi
    have zl:=hL z (List.mem_of_getElem? hz)
    have zb:=qb z (List.mem_of_getElem? hz)
    obtain ⟨f1,f3⟩:=qiU (M:=M) (l.take i) 1 (fun q hq=>⟨(hL q (List.mem_of_mem_take hq)).pos,hO.2 q (List.mem_of_mem_take hq)⟩) (by decide) (Int.one_dvd M)
    have f4:=qly (Int.ne_of_gt hO.1) f3 bM
    obtain ⟨s1,_,_,s4,s5,s6⟩:=qiT f1 zl.pos
    rwa [hp1]
    refine ⟨s5,qtJ f4 (zb.le s4),?_,_,rfl⟩
    rw [qpn hz]
  · rintro σ H' ⟨x,rfl,rfl⟩
    rw [lx,List.take_length]
    rwa [hp]
    refine ⟨⟨_,SqT.of hp⟩,CompJ.tup (xs:=xs) (fun i ys H''=>i≤xs.length∧ys=((qf7 l).take i).map V.int∧H''=H') ⟨Nat.zero_le _,rfl,rfl⟩ ?_ ?_ ?_⟩
    · rintro i ys H'' ⟨h1,rfl,rfl⟩
      refine ⟨h1,sz ?_,hp⟩
      rw [List.length_map,List.length_take];omega
    · rintro i x ys H'' hi ⟨h1,rfl,rfl⟩
      obtain ⟨z,hz,p1,rfl,hp1⟩:=hN.get hi
      have zl:=hL z (List.mem_of_getElem? hz)
      have zb:=qb z (List.mem_of_getElem? hz)
      have zn:=hB z (List.mem_of_getElem? hz)
      have hi2:i<xs.length:=(List.getElem?_eq_some_iff.mp hi).1
      rwa [hp1]
      have eB:l.foldl (fun B q=>B*(q.2 / ((Int.gcd B q.2:Nat):Int))) 1=qkE l:=rfl
      rw [eB]
      have cz:(qf7 l)[i]?=some (z.1*(qkE l / z.2)):=by unfold qf7;rw [List.getElem?_map,hz];rfl
      refine ⟨zl.pos,qtJ zn (BB.le (qhS B0 zl.pos)),by omega,?_⟩
      rw [qcv V.int cz]
    · rintro ys H'' ⟨_,rfl,rfl⟩ a ha
      refine ⟨sz (by decide),fun r hr=>?_⟩
      have e:(qf7 l).take xs.length=qf7 l:=by
        rw [lx,show l.length=(qf7 l).length by unfold qf7;rw [List.length_map],List.take_length]
      rw [e] at hr ⊢
      have s:=(qag ha (HO.lst ((qf7 l).map V.int))).trans (qag hr (HO.tup [V.ref a,V.int (qkE l)]))
      exact q r a _ s qai (qag hr _ _ _ qai)
theorem qsf {b:Nat} {l:List Nu} {M:Int} (hl:qcF l) (h:Ov l M) (hb:∀ z∈ovN l M,Bd b z):∀ q∈l,Bd b q.1:=fun q hq=>by
  refine (hb (q.1*(M / q.2)) (List.mem_map.mpr ⟨q,hq,rfl⟩)).le ?_
  rw [Int.natAbs_mul]
  obtain ⟨y,hy⟩:=h.2 q hq
  have p0:=(hl q hq).pos
  have m0:=h.1
  have:M / q.2=y:=by rw [hy,Int.mul_ediv_cancel_left _ (Int.ne_of_gt p0)]
  rw [this]
  refine Nat.le_mul_of_pos_right _ ?_
  rcases Nat.eq_zero_or_pos y.natAbs with z | z
  · have y0:y=0:=by omega
    rw [y0] at hy;omega
  · exact z
theorem qlJ {g f:List Int} (lg:Lz g) (lf:Lz f) (mq:MQ (co g) (co f)):g.length≤f.length:=by
  obtain ⟨c,c0,A,hA⟩:=mq
  rcases Nat.lt_or_ge f.length g.length with y | y
  · exfalso
    rcases qhT A with z | ⟨B,lB,_,eB⟩
    · have:c*co f (f.length - 1)=0:=by rw [hA,qbe,qb8 g z]
      rcases Int.mul_eq_zero.mp this with e | e
      · exact c0 e
      · exact lf.2 e
    · have hB:∀ k,c*co f k=cvL B (co g) k:=fun k=>by rw [hA,qbe,qan (fun j=>(eB j).symm) g k,← qbe]
      have b0:=lB.1
      have g0:=lg.1
      have ne:B≠[]:=List.length_pos_iff.mp b0
      obtain ⟨X,t,hX⟩:∃ X t,B=X++[t]:=⟨B.dropLast,B.getLast ne,(List.dropLast_concat_getLast ne).symm⟩
      have tl:X.length=B.length - 1:=by rw [hX];simp
      have tc:co B (B.length - 1)=t:=by rw [← tl,hX];unfold co;simp [List.getD_eq_getElem?_getD]
      have e:=hB (B.length - 1+(g.length - 1))
      rw [qaw (by omega),hX,qbi,← hX,qbA (n:=g.length) (fun i hi=>qaw hi) X _ (by omega)] at e
      unfold upS at e
      rw [if_pos (by omega),show B.length - 1+(g.length - 1) - X.length=g.length - 1 by omega] at e
      have e2:t*co g (g.length - 1)=0:=by omega
      rcases Int.mul_eq_zero.mp e2 with x | x
      · exact lB.2 (tc.trans x)
      · exact lg.2 x
  · exact y
theorem php:∀ (m n:Nat) (f:Nat→Nat),(∀ i,i<n→f i<m)→m<n→∃ i j,i<j∧j<n∧f i=f j
  | 0,n,f,h,hn=>absurd (h 0 hn) (Nat.not_lt_zero _)
  | m+1,n,f,h,hn=>by
    obtain ⟨n,rfl⟩:∃ k,n=k+1:=⟨n - 1,by omega⟩
    by_cases c:∃ i,i<n∧f i=f n
    · obtain ⟨i,hi,e⟩:=c
      exact ⟨i,n,hi,by omega,e⟩
    · have c:∀ i,i<n→f i≠f n:=fun i hi e=>c ⟨i,hi,e⟩
      have hv:=h n (by omega)
      obtain ⟨i,j,hij,hj,e⟩:=php m n (fun i=>if f n<f i then f i - 1 else f i) (fun i hi=>by
        have h1:=h i (by omega)
        have h2:=c i hi
        show (if f n<f i then f i - 1 else f i)<m
        split <;> omega) (by omega)
      refine ⟨i,j,hij,by omega,?_⟩
      have c1:=c i (by omega)
      have c2:=c j hj
      have e:(if f n<f i then f i - 1 else f i)=(if f n<f j then f j - 1 else f j):=e
      split at e <;> split at e <;> omega
noncomputable def enc (M:Nat):Nat→(Nat→Nat)→Nat
  | 0,_=>0
  | N+1,e=>e 0+M*enc M N (fun k=>e (k+1))
theorem qoa {M:Nat}:∀ (N:Nat) (e:Nat→Nat),(∀ k,k<N→e k<M)→enc M N e<M ^ N
  | 0,_,_=>Nat.one_pos
  | N+1,e,h=>by
    have h1:=qoa N (fun k=>e (k+1)) (fun k hk=>h (k+1) (by omega))
    have h0:=h 0 (by omega)
    show e 0+M*enc M N (fun k=>e (k+1))<M ^ (N+1)
    have h2:M*(enc M N (fun k=>e (k+1))+1)≤M*M ^ N:=Nat.mul_le_mul_left M h1
    rw [Nat.pow_succ,Nat.mul_comm (M ^ N)]
    rw [Nat.mul_add,Nat.mul_one] at h2
    omega
theorem qi3 {M a b x y:Nat} (ha:a<M) (hb:b<M) (h:a+M*x=b+M*y):a=b∧x=y:=by
  have h1:(a+M*x) % M=a:=by rw [Nat.add_mul_mod_self_left,Nat.mod_eq_of_lt ha]
  have h2:(b+M*y) % M=b:=by rw [Nat.add_mul_mod_self_left,Nat.mod_eq_of_lt hb]
  have e:a=b:=by rw [← h1,h,h2]
  subst e
  exact ⟨rfl,Nat.eq_of_mul_eq_mul_left (by omega) (Nat.add_left_cancel h)⟩
theorem qkQ {M:Nat}:∀ (N:Nat) (e e':Nat→Nat),(∀ k,k<N→e k<M)→(∀ k,k<N→e' k<M)→enc M N e=enc M N e'→∀ k,k<N→e k=e' k
  | 0,_,_,_,_,_,k,hk=>absurd hk (Nat.not_lt_zero _)
  | N+1,e,e',h,h',q,k,hk=>by
    obtain ⟨q1,q2⟩:=qi3 (h 0 (by omega)) (h' 0 (by omega)) q
    cases k with
    | zero=>exact q1
    | succ k=>exact qkQ N _ _ (fun k hk=>h (k+1) (by omega)) (fun k hk=>h' (k+1) (by omega)) q2 k (by omega)
noncomputable def digs (p:Nat):Nat→Nat→List Int
  | 0,_=>[]
  | N+1,t=>((t % p:Nat):Int)::digs p N (t / p)
theorem qfr (p:Nat):∀ (N t:Nat),(digs p N t).length=N
  | 0,_=>rfl
  | N+1,t=>by show (digs p N (t / p)).length+1=N+1;rw [qfr p N]
theorem qho {p:Nat} (p0:0<p):∀ (N t:Nat),∀ z∈digs p N t,0≤z∧z<(p:Int)
  | 0,_,z,h=>by cases h
  | N+1,t,z,h=>by
    rcases List.mem_cons.mp h with rfl | h
    · have:=Nat.mod_lt t p0;omega
    · exact qho p0 N _ z h
theorem qi4 {p:Nat} (p0:0<p):∀ (N t s:Nat),t<p ^ N→s<p ^ N→digs p N t=digs p N s→t=s
  | 0,t,s,h1,h2,_=>by rw [Nat.pow_zero] at h1 h2;omega
  | N+1,t,s,h1,h2,h=>by
    injection h with a b
    rw [Nat.pow_succ,Nat.mul_comm] at h1 h2
    have:=qi4 p0 N (t / p) (s / p) (Nat.div_lt_of_lt_mul h1) (Nat.div_lt_of_lt_mul h2) b
    have e1:=Nat.div_add_mod t p
    have e2:=Nat.div_add_mod s p
    have a:t % p=s % p:=by exact_mod_cast a
    rw [← e1,← e2,this,a]
theorem qj0 {g:Nat→Int} {h q:Nat} (hg:∀ k,(g k).natAbs≤h):∀ (a:List Int),(∀ z∈a,z.natAbs≤q)→∀ k,(cvL a g k).natAbs≤a.length*(q*h)
  | [],_,k=>by show (0:Int).natAbs≤_;simp
  | x::a,ha,0=>by
    rw [qam]
    have h1:(x*g 0).natAbs≤q*h:=by rw [Int.natAbs_mul];exact Nat.mul_le_mul (ha x (List.mem_cons_self ..)) (hg 0)
    have:(x::a).length*(q*h)=a.length*(q*h)+q*h:=by rw [List.length_cons,Nat.add_mul,Nat.one_mul]
    omega
  | x::a,ha,k+1=>by
    rw [qal]
    have h1:(x*g (k+1)).natAbs≤q*h:=by rw [Int.natAbs_mul];exact Nat.mul_le_mul (ha x (List.mem_cons_self ..)) (hg (k+1))
    have h2:=qj0 hg a (fun z hz=>ha z (List.mem_cons_of_mem _ hz)) k
    have:(x::a).length*(q*h)=a.length*(q*h)+q*h:=by rw [List.length_cons,Nat.add_mul,Nat.one_mul]
    omega
theorem qob {A B u v:List Int} (lA:Lz A) (lB:Lz B) (q:QI (co A) (co B) qbZ) (hu:u.length<B.length) (hv:v.length<A.length) (h:∀ k,cvL u (co A) k+cvL v (co B) k=0):(∀ k,co u k=0)∧∀ k,co v k=0:=by
  obtain ⟨d,d0,U,V,hd⟩:=q
  have half:∀ {A B u v U V:List Int},Lz B→(∀ k,d*qbZ k=cvL U (co A) k+cvL V (co B) k)→u.length<B.length→(∀ k,cvL u (co A) k+cvL v (co B) k=0)→∀ k,co u k=0:=fun {A B u v U V} lB hd hu h=>by
    rcases qhT u with z | ⟨f,lf,fl,ef⟩
    · exact z
    · exfalso
      have mq:MQ (co B) (co f):=by
        refine ⟨d,d0,qaI (qaF V u) ((qaF U v).map ((-1)*·)),fun k=>?_⟩
        rw [qav,qaq,qar,qar,ef k,qaK u k,← qbf,qan hd,qdR,qed (co A) u U,qed (co B) u V]
        have e:cvL U (cvL u (co A)) k = - cvL U (cvL v (co B)) k:=by
          have:cvL U (cvL u (co A)) k+cvL U (cvL v (co B)) k=0:=by rw [← qdR];exact qb8 U h k
          omega
        rw [e];omega
      have:=qlJ lB lf mq
      omega
  exact ⟨half lB hd hu h,half (A:=B) (B:=A) (u:=v) (v:=u) (U:=V) (V:=U) lA (fun k=>by rw [hd k];omega) hv (fun k=>by have:=h k;omega)⟩
theorem qpq {a b:Int} (h:a=b):a∣b:=by rw [h];exact Int.dvd_refl b
theorem cvD {p:Int} {f g:Nat→Int} {S:List Int} (h:∀ k,p∣f k - cvL S g k):∀ (a:List Int) (k:Nat),p∣cvL a f k - cvL a (cvL S g) k
  | [],k=>by show p∣(0:Int) - 0;simp
  | x::a,0=>by
    rw [qam,qam]
    have:=Int.dvd_trans (h 0) (Int.dvd_mul_left x _)
    rw [Int.mul_sub] at this
    refine Int.dvd_trans this (qpq ?_)
    omega
  | x::a,k+1=>by
    rw [qal,qal]
    have h1:=Int.dvd_trans (h (k+1)) (Int.dvd_mul_left x _)
    have h2:=cvD h a k
    rw [Int.mul_sub] at h1
    have:=Int.dvd_add h1 h2
    refine Int.dvd_trans this (qpq ?_)
    omega
theorem qfs:∀ (a b:List Int),(qaI a b).length=max a.length b.length
  | [],b=>by show b.length=max 0 b.length;omega
  | a,[]=>by rw [qdd];show a.length=max a.length 0;omega
  | x::a,y::b=>by
    show (qaI a b).length+1=max (a.length+1) (b.length+1)
    rw [qfs a b];omega
theorem qlK {a b:List Int} (hl:a.length=b.length) (h:∀ k,co a k=co b k):a=b:=by
  refine List.ext_getElem hl fun i h1 h2=>?_
  have:=h i
  unfold co at this
  rwa [List.getD_eq_getElem?_getD,List.getD_eq_getElem?_getD,List.getElem?_eq_getElem h1,List.getElem?_eq_getElem h2] at this
theorem lucky {A B G:List Int} {p b:Nat} (hp:Pr p) (lA:Lz A) (lB:Lz B) (q:QI (co A) (co B) qbZ) (hA:∀ k,Bd b (co A k)) (hB:∀ k,Bd b (co B k)) (n1:2≤A.length) (m1:2≤B.length) (g2:2≤G.length) (g1:¬ (p:Int)∣co G (G.length - 1)) (dA:Dm (p:Int) (co G) (co A)) (dB:Dm (p:Int) (co G) (co B))
    (big:(2*((A.length+B.length)*2 ^ b)) ^ (A.length+B.length - 2)<p):False:=by
  have p2:=hp.two
  have p0:0<p:=by omega
  generalize hn:A.length - 1=n at *
  generalize hm:B.length - 1=m at *
  generalize hE:(A.length+B.length)*2 ^ b=E at *
  have N1:A.length+B.length - 2=n+m:=by omega
  rw [N1] at big
  have hAn:∀ k,(co A k).natAbs≤2 ^ b:=fun k=>Nat.le_of_lt (hA k)
  have hBn:∀ k,(co B k).natAbs≤2 ^ b:=fun k=>Nat.le_of_lt (hB k)
  have E0:0<E:=by rw [← hE];exact Nat.mul_pos (by omega) (Nat.pow_pos (by decide))
  obtain ⟨u,hu⟩:∃ u:Nat→List Int,∀ t,u t=(digs p (m+n) t).take m:=⟨_,fun _=>rfl⟩
  obtain ⟨v,hv⟩:∃ v:Nat→List Int,∀ t,v t=(digs p (m+n) t).drop m:=⟨_,fun _=>rfl⟩
  obtain ⟨f,hf⟩:∃ f:Nat→Nat→Int,∀ t k,f t k=cvL (u t) (co A) k+cvL (v t) (co B) k:=⟨_,fun _ _=>rfl⟩
  have ul:∀ t,(u t).length=m:=fun t=>by rw [hu,List.length_take,qfr];omega
  have vl:∀ t,(v t).length=n:=fun t=>by rw [hv,List.length_drop,qfr];omega
  have uz:∀ t,∀ z∈u t,0≤z∧z<(p:Int):=fun t z hz=>qho p0 _ t z (List.mem_of_mem_take (hu t ▸ hz))
  have vz:∀ t,∀ z∈v t,0≤z∧z<(p:Int):=fun t z hz=>qho p0 _ t z (List.mem_of_mem_drop (hv t ▸ hz))
  have fb:∀ t k,(f t k).natAbs<E*p:=fun t k=>by
    have h1:=qj0 (q:=p - 1) hAn (u t) (fun z hz=>by have:=uz t z hz;omega) k
    have h2:=qj0 (q:=p - 1) hBn (v t) (fun z hz=>by have:=vz t z hz;omega) k
    rw [ul] at h1
    rw [vl] at h2
    have h3:(f t k).natAbs≤(m+n)*((p - 1)*2 ^ b):=by
      rw [Nat.add_mul,hf]
      omega
    refine Nat.lt_of_le_of_lt h3 ?_
    rw [← hE]
    have e:(m+n)*((p - 1)*2 ^ b)=((m+n)*2 ^ b)*(p - 1):=by rw [Nat.mul_comm (p - 1),Nat.mul_assoc]
    rw [e]
    exact Nat.lt_of_lt_of_le (Nat.mul_lt_mul_of_pos_left (by omega) (Nat.mul_pos (by omega) (Nat.pow_pos (by decide)))) (Nat.mul_le_mul_right p (Nat.mul_le_mul_right _ (by omega)))
  obtain ⟨e0,he0⟩:∃ e0:Nat→Nat,∀ t,e0 t=(f t 0 / (p:Int)+(E:Int)).toNat:=⟨_,fun _=>rfl⟩
  obtain ⟨ek,hek⟩:∃ ek:Nat→Nat→Nat,∀ t k,ek t k=(f t (k+1)+((E*p:Nat):Int)).toNat:=⟨_,fun _ _=>rfl⟩
  have e0r:∀ t,0≤f t 0 / (p:Int)+(E:Int)∧f t 0 / (p:Int)+(E:Int)<2*(E:Int):=fun t=>by
    have h:=fb t 0
    have h1:-((E:Int)*(p:Int))≤f t 0:=by have:((E*p:Nat):Int)=(E:Int)*(p:Int):=by push_cast;rfl
                                         omega
    have h2:f t 0<(E:Int)*(p:Int):=by have:((E*p:Nat):Int)=(E:Int)*(p:Int):=by push_cast;rfl
                                      omega
    have q1:-(E:Int)≤f t 0 / (p:Int):=by
      refine (Int.le_ediv_iff_mul_le (by omega)).mpr ?_
      rw [Int.neg_mul];exact h1
    have q2:f t 0 / (p:Int)<(E:Int):=Int.ediv_lt_of_lt_mul (by omega) h2
    omega
  have ekr:∀ t k,0≤f t (k+1)+((E*p:Nat):Int)∧f t (k+1)+((E*p:Nat):Int)<2*((E*p:Nat):Int):=fun t k=>by
    have h:=fb t (k+1)
    omega
  have e0l:∀ t,e0 t<2*E:=fun t=>by have:=e0r t;rw [he0];omega
  have ekl:∀ t k,ek t k<2*(E*p):=fun t k=>by have:=ekr t k;rw [hek];omega
  have cl:∀ t,e0 t+2*E*enc (2*(E*p)) (m+n - 1) (ek t)<2*E*(2*(E*p)) ^ (m+n - 1):=fun t=>by
    have h1:=qoa (M:=2*(E*p)) (m+n - 1) (ek t) (fun k _=>ekl t k)
    have h2:2*E*(enc (2*(E*p)) (m+n - 1) (ek t)+1)≤2*E*(2*(E*p)) ^ (m+n - 1):=Nat.mul_le_mul_left _ h1
    have h3:=e0l t
    rw [Nat.mul_add,Nat.mul_one] at h2
    omega
  have room:2*E*(2*(E*p)) ^ (m+n - 1)<p ^ (m+n):=by
    obtain ⟨N,hN⟩:∃ N,m+n=N+1:=⟨m+n - 1,by omega⟩
    rw [hN,Nat.add_sub_cancel]
    rw [Nat.add_comm n m,hN] at big
    have e:2*E*(2*(E*p)) ^ N=(2*E) ^ (N+1)*p ^ N:=by
      rw [← Nat.mul_assoc 2 E p,Nat.mul_pow (2*E) p N,Nat.pow_succ,Nat.mul_comm ((2*E) ^ N) (2*E),Nat.mul_assoc (2*E)]
    rw [e,Nat.pow_succ p,Nat.mul_comm (p ^ N) p]
    exact Nat.mul_lt_mul_of_pos_right big (Nat.pow_pos p0)
  obtain ⟨s,t,st,ht,e⟩:=php _ _ _ (fun i _=>cl i) room
  obtain ⟨q0,q1⟩:=qi3 (e0l s) (e0l t) e
  have qk:=qkQ (m+n - 1) _ _ (fun k _=>ekl s k) (fun k _=>ekl t k) q1
  have w0:∀ k,(co (u s) k - co (u t) k)=co (qaI (u s) ((u t).map ((-1)*·))) k:=fun k=>by rw [qaK,qaK,qaK,qav,qaq];omega
  have df:∀ k,f s k - f t k=cvL (qaI (u s) ((u t).map ((-1)*·))) (co A) k+cvL (qaI (v s) ((v t).map ((-1)*·))) (co B) k:=fun k=>by
    rw [qav,qav,qaq,qaq,hf,hf]
    omega
  have hi:∀ k,0<k→f s k - f t k=0:=fun k hk=>by
    rcases Nat.lt_or_ge k (m+n) with c | c
    · have:=qk (k - 1) (by omega)
      have r1:=ekr s (k - 1)
      have r2:=ekr t (k - 1)
      rw [hek,hek,show k - 1+1=k by omega] at this
      rw [show k - 1+1=k by omega] at r1 r2
      omega
    · have z:∀ t,f t k=0:=fun t=>by
        rw [hf,qbA (n:=A.length) (fun i hi=>qaw hi) (u t) k (by rw [ul];omega),qbA (n:=B.length) (fun i hi=>qaw hi) (v t) k (by rw [vl];omega)];rfl
      rw [z,z];rfl
  have d0:(f s 0 - f t 0).natAbs<p:=by
    have r1:=e0r s
    have r2:=e0r t
    rw [he0,he0] at q0
    have q0:f s 0 / (p:Int)=f t 0 / (p:Int):=by omega
    have m1:=Int.emod_add_mul_ediv (f s 0) p
    have m2:=Int.emod_add_mul_ediv (f t 0) p
    have b1:=Int.emod_nonneg (f s 0) (show (p:Int)≠0 by omega)
    have b2:=Int.emod_lt_of_pos (f s 0) (show (0:Int)<p by omega)
    have b3:=Int.emod_nonneg (f t 0) (show (p:Int)≠0 by omega)
    have b4:=Int.emod_lt_of_pos (f t 0) (show (0:Int)<p by omega)
    rw [q0] at m1
    omega
  have dm:Dm (p:Int) (co G) (co [f s 0 - f t 0]):=by
    obtain ⟨SA,hSA⟩:=dA
    obtain ⟨SB,hSB⟩:=dB
    refine ⟨qaI (qaF (qaI (u s) ((u t).map ((-1)*·))) SA) (qaF (qaI (v s) ((v t).map ((-1)*·))) SB),fun k=>?_⟩
    have e:co [f s 0 - f t 0] k=f s k - f t k:=by
      cases k with
      | zero=>rfl
      | succ k=>rw [hi (k+1) (by omega)];exact qaw (by simp)
    rw [e,df,qav (co G),qar,qar]
    have h1:=cvD (p:=(p:Int)) hSA (qaI (u s) ((u t).map ((-1)*·))) k
    have h2:=cvD (p:=(p:Int)) hSB (qaI (v s) ((v t).map ((-1)*·))) k
    have:=Int.dvd_add h1 h2
    refine Int.dvd_trans this (qpq ?_)
    omega
  have z0:f s 0 - f t 0=0:=by
    by_cases c:(p:Int)∣f s 0 - f t 0
    · obtain ⟨y,hy⟩:=c
      rcases Int.lt_trichotomy y 0 with z | z | z
      · have:(p:Int)*y≤(p:Int)*(-1):=Int.mul_le_mul_of_nonneg_left (by omega) (by omega)
        omega
      · rw [hy,z];omega
      · have:(p:Int)*1≤(p:Int)*y:=Int.mul_le_mul_of_nonneg_left (by omega) (by omega)
        omega
    · exfalso
      have:=Dm.len hp (by omega) g1 dm ⟨0,c⟩
      simp at this
      omega
  have all:∀ k,cvL (qaI (u s) ((u t).map ((-1)*·))) (co A) k+cvL (qaI (v s) ((v t).map ((-1)*·))) (co B) k=0:=fun k=>by
    rw [← df]
    cases k with
    | zero=>exact z0
    | succ k=>exact hi (k+1) (by omega)
  have ll:∀ {a c:List Int} {x:Nat},a.length=x→c.length=x→(qaI a (c.map ((-1)*·))).length=x:=fun {a c x} h1 h2=>by
    rw [qfs,List.length_map,h1,h2];omega
  obtain ⟨c1,c2⟩:=qob lA lB q (by rw [ll (ul s) (ul t)];omega) (by rw [ll (vl s) (vl t)];omega) all
  have eu:u s=u t:=qlK (by rw [ul,ul]) fun k=>by have:=c1 k;rw [← w0] at this;omega
  have ev:v s=v t:=qlK (by rw [vl,vl]) fun k=>by
    have:=c2 k
    rw [qaK,qav,qaq,← qaK,← qaK] at this;omega
  have:digs p (m+n) s=digs p (m+n) t:=by
    rw [← List.take_append_drop m (digs p (m+n) s),← List.take_append_drop m (digs p (m+n) t)]
    rw [← hu,← hv,← hu,← hv,eu,ev]
  have:=qi4 p0 _ _ _ (by omega) (by omega) this
  omega
theorem qiv:∀ (ts l:List Int),ts.Nodup→(∀ t∈ts,evI l t=0)→l.length≤ts.length→∀ k,co l k=0
  | [],l,_,_,h,k=>qaw (by have:l.length=0:=by simpa using h
                          omega)
  | t::ts,l,nd,hr,hl,k=>by
    have nd':=List.nodup_cons.mp nd
    have e0:=hr t (List.mem_cons_self ..)
    have sd:co (syn l t) ((syn l t).length - 1)=0:=by rw [qiX];exact qph l t
    have cd:=qeB sd
    have z:∀ k,co (syn l t) k=0:=fun k=>by
      rw [← cd k]
      refine qiv ts (syn l t).dropLast nd'.2 (fun x hx=>?_) (by rw [List.length_dropLast,qiX];simp at hl;omega) k
      rw [qhb _ _ x cd]
      have h1:=qnU l t x
      rw [hr x (List.mem_cons_of_mem _ hx),e0] at h1
      have ne:x - t≠0:=fun q=>nd'.1 (by have:x=t:=by omega
                                        rw [← this];exact hx)
      have h1:(x - t)*evI (syn l t) x=0:=by omega
      rcases Int.mul_eq_zero.mp h1 with q | q
      · exact absurd q ne
      · exact q
    rw [qlC l t k,z k]
    split
    · rw [e0];omega
    · rw [z (k - 1)];omega
theorem qoc (n:Nat):((List.range (2*n+1)).map fun i:Nat=>(i:Int) - (n:Int)).Nodup:=by
  unfold List.Nodup
  rw [List.pairwise_map]
  exact (List.nodup_range (n:=2*n+1)).imp fun h q=>h (by omega)
theorem qlL (f:Int→Bool):∀ P:List Int,(P.filter f).length+(P.filter fun x=>!f x).length=P.length
  | []=>rfl
  | x::P=>by
    have:=qlL f P
    rw [List.filter_cons,List.filter_cons,List.length_cons]
    cases f x
    · simp;omega
    · simp;omega
theorem qpr {r:List Int} {n:Nat} (r0:∃ k,co r k≠0) (rl:r.length≤n):∃ x:Nat→Int,(∀ i,i≤n→evI r (x i)≠0∧(x i).natAbs≤n)∧∀ i j,i≤n→j≤n→i≠j→x i≠x j:=by
  let P:List Int:=(List.range (2*n+1)).map fun i:Nat=>(i:Int) - (n:Int)
  have pl:P.length=2*n+1:=by show ((List.range (2*n+1)).map fun i:Nat=>(i:Int) - (n:Int)).length=_;rw [List.length_map,List.length_range]
  have pn:P.Nodup:=qoc n
  have pr:∀ x∈P,x.natAbs≤n:=fun x hx=>by
    obtain ⟨i,hi,rfl⟩:=List.mem_map.mp hx
    have:=List.mem_range.mp hi
    omega
  have parts:(P.filter fun x=>decide (evI r x=0)).length+(P.filter fun x=>!decide (evI r x=0)).length=P.length:=by
    exact qlL _ P
  have few:(P.filter fun x=>decide (evI r x=0)).length<r.length:=by
    rcases Nat.lt_or_ge (P.filter fun x=>decide (evI r x=0)).length r.length with c | c
    · exact c
    · exfalso
      obtain ⟨k,hk⟩:=r0
      exact hk (qiv _ r (pn.filter _) (fun t ht=>by simpa using (List.mem_filter.mp ht).2) c k)
  let Gd:=P.filter fun x=>!decide (evI r x=0)
  have gl:n+1≤Gd.length:=by
    show n+1≤(P.filter fun x=>!decide (evI r x=0)).length
    omega
  have gn:Gd.Nodup:=pn.filter _
  refine ⟨fun i=>Gd.getD i 0,fun i hi=>?_,fun i j hi hj hij e=>?_⟩
  · have hlt:i<Gd.length:=by omega
    have e:Gd.getD i 0=Gd[i]:=by rw [List.getD_eq_getElem?_getD,List.getElem?_eq_getElem hlt];rfl
    show evI r (Gd.getD i 0)≠0∧(Gd.getD i 0).natAbs≤n
    rw [e]
    have m:=List.mem_filter.mp (List.getElem_mem hlt)
    exact ⟨by simpa using m.2,pr _ m.1⟩
  · have h1:i<Gd.length:=by omega
    have h2:j<Gd.length:=by omega
    have e:Gd.getD i 0=Gd.getD j 0:=e
    rw [List.getD_eq_getElem?_getD,List.getD_eq_getElem?_getD,List.getElem?_eq_getElem h1,List.getElem?_eq_getElem h2] at e
    have e:Gd[i]=Gd[j]:=e
    have pw:=List.pairwise_iff_getElem.mp gn
    rcases Nat.lt_or_gt_of_ne hij with q | q
    · exact pw i j h1 h2 q e
    · exact pw j i h2 h1 q e.symm
theorem qfS {b n c:Nat} {r g A:List Int} (hr:∀ z∈r,Bd b z) (r0:∃ k,co r k≠0) (rl:r.length≤n) (gl:g.length≤n) (hn:n<2 ^ c) (hA:∀ k,co r k=cvL A (co g) k):∀ k,Bd (b+n*(2*c+4)) (co g k):=by
  by_cases g0:g.length=0
  · intro k;rw [qaw (by omega)];exact qez _
  obtain ⟨x,hx,xi⟩:=qpr r0 rl
  have bx:∀ i,i≤n→Bd c (x i):=fun i hi=>by
    show (x i).natAbs<2 ^ c
    have:=(hx i hi).2
    omega
  intro k
  have:=interp (c:=c) (g.length - 1) g (b+n*(c+1)) x (fun k hk=>qaw (by omega)) (fun i hi=>bx i (by omega)) (fun i j hi hj hij=>xi i j (by omega) (by omega) hij) (fun i hi=>by
    have ne:=(hx i (by omega)).1
    have e:=qpg hA (x i)
    have bd:=qp3 (bx i (by omega)) r hr
    have le:(evI g (x i)).natAbs≤(evI r (x i)).natAbs:=by
      rw [e,Int.natAbs_mul]
      refine Nat.le_mul_of_pos_left _ ?_
      rcases Nat.eq_zero_or_pos (evI A (x i)).natAbs with z | z
      · exact absurd (by rw [e,Int.natAbs_eq_zero.mp z];omega) ne
      · exact z
    refine (bd.le le).mono ?_
    have:=Nat.mul_le_mul_right (c+1) rl
    omega) k
  refine this.mono ?_
  have h1:(g.length - 1)*(c+3)≤n*(c+3):=Nat.mul_le_mul_right (c+3) (by omega)
  have h2:n*(2*c+4)=n*(c+1)+n*(c+3):=by rw [← Nat.mul_add];congr 1;omega
  omega
theorem qft {a g:List Int} (la:Lz a) (lg:Lz g):cvL a (co g) (a.length - 1+(g.length - 1))=co a (a.length - 1)*co g (g.length - 1):=by
  obtain ⟨i,s,rfl⟩:∃ i s,a=i++[s]:=⟨a.dropLast,a.getLast (List.length_pos_iff.mp la.1),(List.dropLast_concat_getLast _).symm⟩
  have e:(i++[s]).length - 1=i.length:=by rw [List.length_append];simp
  have hs:co (i++[s]) i.length=s:=by
    unfold co
    rw [List.getD_eq_getElem?_getD,List.getElem?_append_right (Nat.le_refl _),Nat.sub_self];rfl
  rw [e,hs,qbi,qbA (n:=g.length) (fun i hi=>qaw hi) i _ (by have:=lg.1;omega)]
  unfold upS
  rw [if_pos (by omega),show i.length+(g.length - 1) - i.length=g.length - 1 by omega]
  omega
theorem qod {X ms:List Int} (lm:Lz ms) {T:Nat} (h:∀ k,T+(ms.length - 1)≤k→cvL X (co ms) k=0):(∀ j,T≤j→co X j=0)∧∀ s,T=s+1→cvL X (co ms) (s+(ms.length - 1))=co X s*co ms (ms.length - 1):=by
  rcases qhT X with z | ⟨Y,lY,_,eY⟩
  · refine ⟨fun j _=>z j,fun s _=>?_⟩
    rw [qbe,qb8 ms z,z s];omega
  · have hY:∀ k,cvL X (co ms) k=cvL Y (co ms) k:=fun k=>by rw [qbe,qan (fun j=>(eY j).symm) ms k,← qbe]
    have tp:=qft lY lm
    have ly:Y.length≤T:=by
      rcases Nat.lt_or_ge T Y.length with c | c
      · exfalso
        have:=h (Y.length - 1+(ms.length - 1)) (by omega)
        rw [hY,tp] at this
        exact Int.mul_ne_zero lY.2 lm.2 this
      · exact c
    refine ⟨fun j hj=>by rw [← eY];exact qaw (by omega),fun s hs=>?_⟩
    rw [hY,← eY]
    have y0:=lY.1
    rcases Nat.lt_or_ge Y.length T with c | c
    · rw [qaw (by omega),qbA (n:=ms.length) (fun i hi=>qaw hi) Y _ (by have:=lm.1;omega)];omega
    · rw [show s=Y.length - 1 by omega];exact tp
theorem qgK {m n:Nat} {x y:Int} (hx:Bd m x) (hy:Bd n y) (hm:m≤60000000:=by omega) (hn:n≤60000000:=by omega):IntMulOk x y:=qn8 (hx.mono hm) (hy.mono hn)
theorem qqX {ns:List Int} {m:Int} (ms:List Int) (hms:ms=(ns.filter (fun z=>!decide (z=0))).map fun z=>if z<0 then -z else z) (h:ms=[]∧m=0∨m∈ms) (d:Int):(∀ z∈ns,d∣z)→d∣m:=by
  intro hd
  rcases h with ⟨_,e⟩ | h
  · rw [e];exact Int.dvd_zero d
  · rw [hms] at h
    obtain ⟨z,hz,rfl⟩:=List.mem_map.mp h
    have:=hd z (List.mem_filter.mp hz).1
    show d∣if z<0 then -z else z
    split
    · exact Int.dvd_neg.mpr this
    · exact this
theorem qmm (h:qcA K vs H Q E):qjU K { nx:=fun _ H'=>Q .non H',rt:=Q } (L2.start ["row", "start", "found", "whole"] vs) H:=by
  obtain ⟨p,ns,st,rfl,hp,hl,k⟩:=h
  unfold qjU
  rwa []
  refine ⟨⟨_,SqL.of hp⟩,CompF.lst (xs:=ns.map V.int) (fun i ys H'=>i≤ns.length∧H'=H∧ys=(((ns.take i).filter (fun z=>!decide (z=0))).map fun z=>if z<0 then -z else z).map V.int) ⟨Nat.zero_le _,rfl,rfl⟩ ?_ ?_ ?_⟩
  · rintro i ys H' ⟨h1,rfl,rfl⟩
    refine ⟨by rw [List.length_map];exact h1,sz ?_,SqL.of hp⟩
    rw [List.length_map,List.length_map]
    exact Nat.le_trans (List.length_filter_le _ _) (by rw [List.length_take];omega)
  · rintro i x ys H' hi ⟨h1,rfl,rfl⟩
    rw [List.getElem?_map] at hi
    cases e:ns[i]? with
    | none=>rw [e] at hi;cases hi
    | some n=>
      rw [e] at hi
      obtain rfl:V.int n=x:=Option.some.inj hi
      have hi2:i<ns.length:=(List.getElem?_eq_some_iff.mp e).1
      have et:ns.take (i+1)=ns.take i++[n]:=by rw [List.take_add_one,e];rfl
      rwa []
      refine qbM (fun c=>?_) (fun c=>?_)
      · refine ⟨by omega,?_⟩
        have c0:¬ n=0:=by simpa using c
        simp [et,List.filter_append,c0]
      · refine ⟨by omega,?_⟩
        have c0:n=0:=by simpa using c
        simp [et,List.filter_append,c0]
  · rintro ys H' ⟨_,rfl,rfl⟩ a ha
    rw [List.length_map,List.take_length]
    have sa:=qag ha (HO.lst (((ns.filter (fun z=>!decide (z=0))).map fun z=>if z<0 then -z else z).map V.int))
    have hpa:=sa _ _ hp
    refine ⟨_,rfl,_,qai,fun m hm=>?_⟩
    have hg:=qqX _ rfl hm
    generalize hHa:upd H' a (HO.lst (((ns.filter (fun z=>!decide (z=0))).map fun z=>if z<0 then -z else z).map V.int))=Ha at sa hpa ⊢
    refine ⟨⟨_,SqL.of hpa⟩,ForL.by (xs:=ns.map V.int) (fun i σ H2=>∃ (g:Int) (x:Option V),σ=[some (.ref p),some (.int st),some (.int g),x]∧H2=Ha∧0≤g∧g∣st∧(∀ z∈ns.take i,g∣z)∧(∀ d:Int,d∣st→(∀ z∈ns,d∣z)→d∣g)) ⟨_,none,rfl,rfl,by omega,Int.gcd_dvd_right m st,fun z hz=>(by simp at hz),fun d h1 h2=>Int.dvd_coe_gcd (hg d h2) h1⟩ ?_ ?_ ?_⟩
    · rintro i σ H2 _ ⟨g,x,rfl,rfl,_⟩
      exact SqL.of hpa
    · rintro i x σ H2 hi ⟨g,y,rfl,rfl,g0,g1,g2,g3⟩
      rw [List.getElem?_map] at hi
      cases e:ns[i]? with
      | none=>rw [e] at hi;cases hi
      | some n=>
        rw [e] at hi
        obtain rfl:V.int n=x:=Option.some.inj hi
        rwa []
        refine qbM (fun c=>?_) (fun c=>?_)
        · have c1:g=1:=by simpa using c
          subst c1
          exact k 1 _ sa (by decide) (Int.one_dvd _) (fun z _=>Int.one_dvd z) g3
        · refine ⟨by omega,Int.dvd_trans (Int.gcd_dvd_right n g) g1,fun z hz=>?_,fun d h1 h2=>Int.dvd_coe_gcd (h2 n (List.mem_of_getElem? e)) (g3 d h1 h2)⟩
          rw [List.take_add_one,e] at hz
          rcases List.mem_append.mp hz with z1 | z1
          · exact Int.dvd_trans (Int.gcd_dvd_right n g) (g2 z z1)
          · have z2:z=n:=by simpa using z1
            rw [z2];exact Int.gcd_dvd_left n g
    · rintro σ H2 ⟨g,x,rfl,rfl,g0,g1,g2,g3⟩
      rw [List.length_map,List.take_length] at g2
      rwa []
      exact k g _ sa g0 g1 g2 g3
theorem qi5 (h:qbB K vs H Q E):qf9 K { nx:=fun _ H'=>Q .non H',rt:=Q } (L2.start ["row", "divisor"] vs) H:=by
  obtain ⟨p,ns,g,rfl,hp,g0,hl,q⟩:=h
  unfold qf9
  rwa []
  refine ⟨⟨_,SqL.of hp⟩,CompJ.lst (xs:=ns.map V.int) (fun i ys H'=>i≤ns.length∧H'=H∧ys=((ns.map (· / g)).take i).map V.int) ⟨Nat.zero_le _,rfl,rfl⟩ ?_ ?_ ?_⟩
  · rintro i ys H' ⟨h1,rfl,rfl⟩
    refine ⟨by rw [List.length_map];exact h1,sz ?_,SqL.of hp⟩
    rw [List.length_map,List.length_take];omega
  · rintro i x ys H' hi ⟨h1,rfl,rfl⟩
    rw [List.getElem?_map] at hi
    cases e:ns[i]? with
    | none=>rw [e] at hi;cases hi
    | some n=>
      rw [e] at hi
      obtain rfl:V.int n=x:=Option.some.inj hi
      have hi2:i<ns.length:=(List.getElem?_eq_some_iff.mp e).1
      have gp:0<g:=by
        rcases g0 with h | h
        · exact h
        · rw [h] at hi2;exact absurd hi2 (by simp)
      rwa []
      refine ⟨gp,by omega,?_⟩
      rw [qcv V.int (q:=n / g) (by rw [List.getElem?_map,e];rfl)]
  · rintro ys H' ⟨_,rfl,rfl⟩ a ha
    have e:(ns.map (· / g)).take (ns.map V.int).length=ns.map (· / g):=by rw [List.length_map,show ns.length=(ns.map (· / g)).length by rw [List.length_map],List.take_length]
    rw [e]
    exact q a ha
theorem qqb {ns:List Int} {k:Nat}:co ns k=ns.getD k 0:=rfl
theorem qi6 (ns:List Int):Tz (qdT ns):=by
  have key:∀ m,m≤ns.length→qcs ns m=0∨co ns (qcs ns m - 1)≠0:=by
    intro m
    induction m with
    | zero=>intro _;exact .inl rfl
    | succ m ih=>
      intro hm
      rw [qcN]
      split
      · exact ih (by omega)
      · rename_i z
        right
        rw [show m+1 - 1=m by omega,qqb]
        rw [List.getD_eq_getElem?_getD,List.getElem?_eq_getElem (by omega)] at z ⊢
        exact z
  have hl:(qdT ns).length=qcs ns ns.length:=qhn
  rcases key ns.length (Nat.le_refl _) with h | h
  · left
    exact List.length_eq_zero_iff.mp (hl.trans h)
  · right
    rw [hl]
    show (qdT ns).getD _ 0≠0
    rw [qjZ]
    exact h
theorem qi7 (ns:List Int) (k:Nat):co (qdT ns) k=co ns k:=qjZ k
theorem qfu (n:Nat) (F:Nat→Int):qbT n F=((List.range n).map F).map V.int:=rfl
theorem qth (ns:List Int) (f:Int) (n:Nat) (h:ns.length≤n):List.map V.int (ns.map (f*·))++List.replicate (n - ns.length) (V.int 0)=qbT n fun k=>f*co ns k:=by
  rw [qfu]
  apply List.ext_getElem?
  intro i
  by_cases h1:i<ns.length
  · rw [List.getElem?_append_left (by rw [List.length_map,List.length_map];exact h1),List.getElem?_map,List.getElem?_map,List.getElem?_map,List.getElem?_map,List.getElem?_range (by omega),List.getElem?_eq_getElem h1]
    show _=some (V.int (f*ns.getD i 0))
    rw [List.getD_eq_getElem?_getD,List.getElem?_eq_getElem h1]
    rfl
  · rw [List.getElem?_append_right (by rw [List.length_map,List.length_map];omega),List.length_map,List.length_map,List.getElem?_map,List.getElem?_map]
    by_cases h2:i<n
    · rw [List.getElem?_replicate,if_pos (by omega),List.getElem?_range h2]
      show _=some (V.int (f*co ns i))
      rw [qaw (by omega),Int.mul_zero]
    · rw [List.getElem?_replicate,if_neg (by omega),List.getElem?_eq_none (by rw [List.length_range];omega)]
      rfl
theorem qkR (h:qbo K vs H Q E):qim K { nx:=fun _ H'=>Q .non H',rt:=Q } (L2.start ["row", "factor", "other", "weight", "shift", "result", "place", "whole"] vs) H:=by
  obtain ⟨p,q,ns,ms,f,w,s,rfl,hp,hq,hl,hls,bf,bw,bn,bm,k⟩:=h
  unfold qim
  rwa []
  refine ⟨⟨_,SqL.of hp⟩,CompJ.lst (xs:=ns.map V.int) (fun i ys H'=>i≤ns.length∧H'=H∧ys=((ns.map (f*·)).take i).map V.int) ⟨Nat.zero_le _,rfl,rfl⟩ ?_ ?_ ?_⟩
  · rintro i ys H' ⟨h1,rfl,rfl⟩
    refine ⟨by rw [List.length_map];exact h1,sz ?_,SqL.of hp⟩
    rw [List.length_map,List.length_take];omega
  · rintro i x ys H' hi ⟨h1,rfl,rfl⟩
    rw [List.getElem?_map] at hi
    cases e:ns[i]? with
    | none=>rw [e] at hi;cases hi
    | some n=>
      rw [e] at hi
      obtain rfl:V.int n=x:=Option.some.inj hi
      have hi2:i<ns.length:=(List.getElem?_eq_some_iff.mp e).1
      rwa []
      refine ⟨qgK bf (bn n (List.mem_of_getElem? e)),by omega,?_⟩
      rw [qcv V.int (q:=f*n) (by rw [List.getElem?_map,e];rfl)]
  · rintro ys H' ⟨_,rfl,rfl⟩ a ha
    have e:(ns.map (f*·)).take (ns.map V.int).length=ns.map (f*·):=by rw [List.length_map,show ns.length=(ns.map (f*·)).length by rw [List.length_map],List.take_length]
    rw [e]
    generalize hL:max ns.length (s+ms.length)=L
    have sa:=qag ha (HO.lst (List.map V.int (ns.map (f*·))))
    have hpa:=sa _ _ hp
    have hqa:=sa _ _ hq
    rwa [hpa,hqa]
    refine ⟨qdm qai,sz (by decide),fun b hb=>?_⟩
    have sb:=qag hb (HO.lst [V.int 0])
    refine ⟨_,sb _ _ hqa,_,sb _ _ hpa,?_⟩
    have e0:(((ms.map V.int).length:Int)+(s:Int) - ((ns.map V.int).length:Int))=(ms.length:Int)+(s:Int) - (ns.length:Int):=by rw [List.length_map,List.length_map]
    rw [e0]
    have ek:((ms.length:Int)+(s:Int) - (ns.length:Int)).toNat=L - ns.length:=by omega
    refine ⟨by omega,by omega,sz (by rw [ek];simp;omega),fun c hc=>?_⟩
    rw [ek,qdp]
    have sc:=qag hc (HO.lst (List.replicate (L - ns.length) (V.int 0)))
    have haa:upd H' a (HO.lst (List.map V.int (ns.map (f*·)))) a=some (HO.lst (List.map V.int (ns.map (f*·)))):=qai
    have hac:=sc _ _ (sb _ _ haa)
    refine ⟨_,hac,sz (by simp;omega),?_⟩
    rw [qth ns f L (by omega)]
    generalize hX:upd (upd (upd H' a (HO.lst (List.map V.int (ns.map (f*·))))) b (HO.lst [V.int 0])) c (HO.lst (List.replicate (L - ns.length) (V.int 0)))=Hx at hac ⊢
    have sx:Same H' Hx:=fun x o h=>by rw [← hX];exact sc x o (sb x o (sa x o h))
    have sd:Same H' (upd Hx a (HO.lst (qbT L fun k=>f*co ns k))):=fun x o h=>Kp.upd x o (qao h ha) (sx x o h)
    have had:(upd Hx a (HO.lst (qbT L fun k=>f*co ns k))) a=_:=qai
    generalize upd Hx a (HO.lst (qbT L fun k=>f*co ns k))=Hd at sd had ⊢
    refine ⟨⟨_,SqL.of (sd _ _ hq)⟩,ForJ.enumL (xs:=ms.map V.int) (fun j σ H2=>∃ x y:Option V,σ=[some (.ref p),some (.int f),some (.ref q),some (.int w),some (.int (s:Int)),some (.ref a),x,y]∧Same H' H2∧H2 a=some (.lst (qbT L fun k=>f*co ns k - (if s≤k∧k - s<j then w*co ms (k - s) else 0)))) ⟨none,none,rfl,sd,?_⟩ ?_ ?_ ?_⟩
    · rw [had]
      exact congrArg (fun l=>some (HO.lst l)) (qb3 fun k _=>by rw [if_neg (by omega)];omega)
    · rintro j σ H2 _ ⟨_,_,_,s2,_⟩
      exact SqL.of (s2 _ _ hq)
    · rintro j y pq σ H2 hj ⟨y3,y4,rfl,s2,hw2⟩ hpq
      rw [List.getElem?_map] at hj
      cases em:ms[j]? with
      | none=>rw [em] at hj;cases hj
      | some u=>
        rw [em] at hj
        obtain rfl:V.int u=y:=Option.some.inj hj
        have jl:j<ms.length:=(List.getElem?_eq_some_iff.mp em).1
        have ud:co ms j=u:=by rw [qqb,List.getD_eq_getElem?_getD,em];rfl
        have sq:=qag hpq (HO.tup [V.int (j:Int),V.int u])
        have hw3:=sq _ _ hw2
        rwa [hw3]
        have kl:s+j<L:=by omega
        refine ⟨_,qcS (by omega) (qbb _ kl),qgK bw (bm u (List.mem_of_getElem? em)),_,rfl,s+j,?_,fun b o h=>Kp.upd b o (qao h ha) (sq b o (s2 b o h)),?_⟩
        · rw [qbq];exact qhl (by omega) kl
        · refine qds kl ?_ fun k _ hk=>?_
          · rw [if_pos (by omega),if_neg (by omega),show s+j - s=j by omega,ud];omega
          · by_cases h:s≤k∧k - s<j
            · rw [if_pos h,if_pos (by omega)]
            · rw [if_neg h,if_neg (by omega)]
    · rintro σ H2 ⟨y3,y4,rfl,s2,hw2⟩
      rw [List.length_map,qfu] at hw2
      rwa [hw2]
      refine ⟨_,rfl,fun r hr=>k r _ _ (s2.trans (qag hr _)) qai (qi6 _) fun i=>?_⟩
      rw [qi7,qe1]
      unfold upS
      by_cases hi:i<L
      · rw [if_pos hi]
        by_cases h:s≤i
        · rw [if_pos h]
          by_cases h2:i - s<ms.length
          · rw [if_pos ⟨h,h2⟩]
          · rw [if_neg (by omega),qaw (a:=ms) (by omega)];omega
        · rw [if_neg h,if_neg (by omega)];omega
      · rw [if_neg hi,qaw (a:=ns) (by omega)]
        by_cases h:s≤i
        · rw [if_pos h,qaw (a:=ms) (by omega)];omega
        · rw [if_neg h];omega
theorem qqY (a b:Int):(a.fdiv b).natAbs≤a.natAbs:=by
  rw [Int.fdiv_eq_ediv]
  split
  · rw [Int.sub_zero];exact Int.natAbs_ediv_le_natAbs a b
  · rename_i h
    have hb:b<0:=by omega
    have hd:¬ b∣a:=fun z=>h (.inr z)
    have e:=Int.mul_ediv_add_emod a b
    have r0:=Int.emod_nonneg a (show b≠0 by omega)
    have r1:=Int.emod_lt_of_neg a hb
    have rn:a % b≠0:=fun z=>hd (Int.dvd_of_emod_eq_zero z)
    generalize a / b=q at *
    generalize a % b=r at *
    rcases Int.lt_or_le q 1 with hq | hq
    · have h1:(-b)*(-q) ≥ 2*(-q):=Int.mul_le_mul_of_nonneg_right (by omega) (by omega)
      rw [Int.neg_mul_neg] at h1
      omega
    · have h1:(-b)*(q - 1) ≥ 1*(q - 1):=Int.mul_le_mul_of_nonneg_right (by omega) (by omega)
      rw [Int.neg_mul,Int.mul_sub] at h1
      omega
theorem qlM {n m:Nat} {F:Nat→Int}:qjo (qbT n F) none (some (m:Int))=((List.range (min m n)).map F).map V.int:=by
  unfold qjo HT.sIx
  simp only [List.drop_zero,Nat.sub_zero,Int.toNat_natCast]
  rw [if_neg (by omega),qbq]
  unfold qbT
  rw [← List.map_take,← List.map_take,List.take_range]
  congr 3
  omega
theorem qps {n:Nat} {F:Nat→Int} (h:((List.range n).map F).any (fun z=>!decide (z=0))=false):∀ k,k<n→F k=0:=by
  intro k hk
  have:=List.any_eq_false.mp h (F k) (List.mem_map.mpr ⟨k,List.mem_range.mpr hk,rfl⟩)
  simpa using this
theorem qoe {n s:Nat} {F:Nat→Int} {w:Int} (hs:s<n) (h0:F s=0) (g:Nat→Int) (k:Nat) :
    cvL ((List.range n).map fun j=>if j=s then w else F j) g k=cvL ((List.range n).map F) g k+w*upS s g k:=by
  have e:∀ m,m≤n→cvL ((List.range m).map fun j=>if j=s then w else F j) g k=cvL ((List.range m).map F) g k+(if s<m then w*upS s g k else 0):=by
    intro m
    induction m with
    | zero=>intro _;rw [if_neg (by omega)];rfl
    | succ m ih=>
      intro hm
      rw [List.range_succ,List.map_append,List.map_append,List.map_singleton,List.map_singleton,qbi,qbi,ih (by omega),List.length_map,List.length_map,List.length_range]
      by_cases e:m=s
      · subst e
        rw [if_pos rfl,if_neg (by omega),if_pos (by omega),h0]
        omega
      · rw [if_neg e]
        by_cases h:s<m
        · rw [if_pos h,if_pos (by omega)];omega
        · rw [if_neg h,if_neg (by omega)];omega
  rw [e n (Nat.le_refl n),if_pos hs]
theorem qbc {b:Nat} {ns:List Int} (h:∀ z∈ns,Bd b z) (k:Nat):Bd b (co ns k):=qqK h k
theorem qgL {n:Nat} {g:Nat→Int} (k:Nat):cvL ((List.range n).map fun _=>(0:Int)) g k=0:=by
  have e:((List.range n).map fun _=>(0:Int))=(List.replicate n (1:Int)).map (0*·):=by
    apply List.ext_getElem?
    intro i
    rw [List.getElem?_map,List.getElem?_map]
    by_cases h:i<n
    · rw [List.getElem?_range h,List.getElem?_replicate,if_pos h];rfl
    · rw [List.getElem?_eq_none (by rw [List.length_range];omega),List.getElem?_replicate,if_neg h];rfl
  rw [e,qaq];omega
theorem qsg (ns:List Int):List.map V.int ns=qbT ns.length (co ns):=by
  rw [qfu]
  congr 1
  apply List.ext_getElem?
  intro i
  rw [List.getElem?_map]
  by_cases h:i<ns.length
  · rw [List.getElem?_range h,List.getElem?_eq_getElem h]
    show _=some (ns.getD i 0)
    rw [List.getD_eq_getElem?_getD,List.getElem?_eq_getElem h];rfl
  · rw [List.getElem?_eq_none (by omega),List.getElem?_eq_none (by rw [List.length_range];omega)];rfl
theorem qbW {ms:List Int} (h:0<ms.length):atI (ms.map V.int) (-1)=some (V.int (co ms (ms.length - 1))):=by
  refine atI_last (by rw [List.length_map];omega) ?_
  rw [List.length_map,List.getElem?_map,List.getElem?_eq_getElem (by omega)]
  show _=some (V.int (ms.getD (ms.length - 1) 0))
  rw [List.getD_eq_getElem?_getD,List.getElem?_eq_getElem (by omega)];rfl
theorem qkS (h:qbp K vs H Q E):qil K { nx:=fun _ H'=>Q .non H',rt:=Q } (L2.start ["row", "divisor", "rest", "last", "quotient", "shift", "weight", "place"] vs) H:=by
  obtain ⟨p,q,ns,ms,b,d,rfl,hp,hq,lm,bn,bm,bb,bd1,hn,hm,kN,kR⟩:=h
  have m0:=lm.1
  have lne:=lm.2
  obtain ⟨L,hL⟩:∃ L,ms.length=L+1:=⟨ms.length - 1,by omega⟩
  have hL1:ms.length - 1=L:=by omega
  rw [hL1] at lne
  generalize hlead:co ms L=lead at lne
  have aL:=qbW m0
  rw [hL1,hlead] at aL
  generalize hc:ns.length - L=c
  unfold qil
  rwa [hp]
  refine fun a ha=>?_
  have sa:=qag ha (HO.lst (ns.map V.int))
  unfold qgd
  have hpa:=sa _ _ hp
  have hqa:=sa _ _ hq
  rwa [hqa]
  unfold qgc
  rwa []
  refine ⟨sz (by decide),fun x hx=>?_⟩
  have sx:=qag hx (HO.lst [V.int 0])
  have hpx:=sx _ _ hpa
  rwa [hpx]
  have hmax:(if (0:Int) > ((List.map V.int ns).length:Int) - (((List.map V.int ms).length:Int) - 1) then (0:Int) else ((List.map V.int ns).length:Int) - (((List.map V.int ms).length:Int) - 1))=(c:Int):=by
    rw [List.length_map,List.length_map];split <;> omega
  rw [hmax]
  refine ⟨by omega,by omega,sz (by simp;omega),fun y hy=>?_⟩
  rw [Int.toNat_natCast,qdp]
  have sy:=qag hy (HO.lst (List.replicate c (V.int 0)))
  have sA:Same (upd H a (HO.lst (ns.map V.int))) (upd (upd (upd H a (HO.lst (ns.map V.int))) x (HO.lst [V.int 0])) y (HO.lst (List.replicate c (V.int 0)))):=fun z o h=>sy z o (sx z o h)
  have hay:=sA _ _ (show upd H a (HO.lst (ns.map V.int)) a=_ from qai)
  have hyy:(upd (upd (upd H a (HO.lst (ns.map V.int))) x (HO.lst [V.int 0])) y (HO.lst (List.replicate c (V.int 0)))) y=_:=qai
  have sH:Same H (upd (upd (upd H a (HO.lst (ns.map V.int))) x (HO.lst [V.int 0])) y (HO.lst (List.replicate c (V.int 0)))):=fun z o h=>sA z o (sa z o h)
  have nay:a≠y:=qao (sx _ _ (show upd H a (HO.lst (ns.map V.int)) a=_ from qai)) hy
  have nyH:H y=none:=by
    cases e:H y with
    | none=>rfl
    | some o=>have:=sx _ _ (sa _ _ e);rw [hy] at this;cases this
  generalize (upd (upd (upd H a (HO.lst (ns.map V.int))) x (HO.lst [V.int 0])) y (HO.lst (List.replicate c (V.int 0))))=H1 at hay hyy sH ⊢
  rw [qsg ns] at hay
  have e0:List.replicate c (V.int 0)=qbT c fun _=>0:=by rw [← qdp,qgJ]
  rw [e0] at hyy
  unfold qgb
  have hp1:=sH _ _ hp
  rwa [hp1]
  refine ⟨by rw [List.length_map,List.length_map];omega,?_⟩
  have elo:((List.map V.int ns).length:Int) - (((List.map V.int ms).length:Int) - 1) - 1=(ns.length:Int) - (L:Int) - 1:=by rw [List.length_map,List.length_map];omega
  have ela:((List.map V.int ms).length:Int) - 1=(L:Int):=by rw [List.length_map];omega
  rw [elo,ela]
  have ecn:((ns.length:Int) - (L:Int) - 1 - -1).toNat=c:=by omega
  rw [ecn]
  refine ⟨by omega,by decide,by decide,?_⟩
  let Iv:Nat→L2.St→Hp→Prop:=fun i σ H2=>i≤c∧∃ (F G:Nat→Int) (u v w:Option V),σ=[some (.ref p),some (.ref q),some (.ref a),some (.int (L:Int)),some (.ref y),u,v,w]∧Same H H2∧H2 a=some (.lst (qbT ns.length F))∧H2 y=some (.lst (qbT c G))∧
    (∀ j,j<c - i→G j=0)∧(∀ k,k<ns.length - i→F k=co ns k - cvL ((List.range c).map G) (co ms) k)∧(∀ k,ns.length - i≤k→co ns k=cvL ((List.range c).map G) (co ms) k)∧(∀ k,k<ns.length→Bd (b+i*(d+1)) (F k))
  refine ForJ.down Iv ⟨Nat.zero_le _,co ns,fun _=>0,none,none,none,rfl,sH,hay,hyy,fun _ _=>rfl,fun k _=>by rw [qgL];omega,fun k hk=>by rw [qgL,qaw (by omega)],fun k _=>(qbc bn k).mono (by omega)⟩ ?_ ?_
  · rintro i σ H2 hi ⟨_,F,G,u,v,w,rfl,s2,ha2,hy2,hG,hF,hF2,bF⟩
    have hq2:=s2 _ _ hq
    have ic:i<c:=hi
    have esh:((ns.length:Int) - (L:Int) - 1 - (i:Int))=((c - 1 - i:Nat):Int):=by omega
    rw [esh]
    generalize hs:c - 1 - i=s
    have hst:s+L=ns.length - 1 - i:=by omega
    have aT:atI (qbT ns.length F) ((s:Int)+(L:Int))=some (V.int (F (s+L))):=qcS (j:=s+L) (by omega) (qbb F (by omega))
    unfold qdX
    rwa [ha2,hq2,aL,aT]
    refine ⟨lne,?_⟩
    generalize hw:(F (s+L)).fdiv lead=wt
    have bFt:=bF (s+L) (by omega)
    have bwt:Bd (b+i*(d+1)) wt:=bFt.le (by rw [← hw];exact qqY _ _)
    have bi:b+i*(d+1)≤60000000:=by
      have:=Nat.mul_le_mul_right (d+1) (show i≤ns.length by omega)
      omega
    have bi1:b+(i+1)*(d+1)≤60000000:=by
      have:=Nat.mul_le_mul_right (d+1) (show i+1≤ns.length by omega)
      omega
    have bld:Bd d lead:=by rw [← hlead];exact qbc bm L
    unfold qdW
    rwa [ha2,hq2,aL,aT]
    refine ⟨qgK bwt bld,?_⟩
    refine qbM (fun ce=>?_) (fun ce=>?_)
    · refine kN (fun ⟨A,hA⟩=>?_) _ s2
      have ce':wt*lead≠F (s+L):=by simpa using ce
      have hX:∀ k,cvL (qaI A (((List.range c).map G).map ((-1)*·))) (co ms) k=co ns k - cvL ((List.range c).map G) (co ms) k:=fun k=>by rw [qav,qaq,← hA];omega
      have q:=(qod lm (X:=qaI A (((List.range c).map G).map ((-1)*·))) (T:=s+1) (fun k hk=>by rw [hX,hF2 k (by omega)];omega)).2 s rfl
      rw [hX,hL1,hlead,← hF (s+L) (by omega)] at q
      exact ce' (by rw [← hw,q,Int.mul_fdiv_cancel _ lne])
    have ex:wt*lead=F (s+L):=by simpa using ce
    unfold qdV
    rwa [hy2]
    refine ⟨s,by rw [qbq];exact qhl rfl (by omega),?_⟩
    have hG':(qbT c G).set s (V.int wt)=qbT c (fun j=>if j=s then wt else G j):=qds (by omega) (if_pos rfl) fun j _ hj=>if_neg hj
    rw [hG']
    have s3:Same H (upd H2 y (HO.lst (qbT c fun j=>if j=s then wt else G j))):=fun z o h=>Kp.upd z o (qao h nyH) (s2 z o h)
    have ha3:(upd H2 y (HO.lst (qbT c fun j=>if j=s then wt else G j))) a=_:=(qay nay).trans ha2
    have hy3:(upd H2 y (HO.lst (qbT c fun j=>if j=s then wt else G j))) y=_:=qai
    generalize (upd H2 y (HO.lst (qbT c fun j=>if j=s then wt else G j)))=H3 at s3 ha3 hy3 ⊢
    have cvE:∀ k,cvL ((List.range c).map fun j=>if j=s then wt else G j) (co ms) k=cvL ((List.range c).map G) (co ms) k+wt*upS s (co ms) k:=fun k=>qoe (by omega) (hG s (by omega)) _ k
    have fin:∀ (F':Nat→Int) (u v w:Option V) (H4:Hp),Same H H4→H4 a=some (.lst (qbT ns.length F'))→H4 y=some (.lst (qbT c fun j=>if j=s then wt else G j))→(∀ k,k<ns.length→F' k=F k - (if s≤k∧k - s<L then wt*co ms (k - s) else 0))→
        Iv (i+1) [some (.ref p),some (.ref q),some (.ref a),some (.int (L:Int)),some (.ref y),u,v,w] H4:=fun F' u v w H4 s4 ha4 hy4 eF=>by
      refine ⟨by omega,F',_,u,v,w,rfl,s4,ha4,hy4,fun j hj=>?_,fun k hk=>?_,fun k hk=>?_,fun k hk=>?_⟩
      · show (if j=s then wt else G j)=0
        rw [if_neg (by omega)];exact hG j (by omega)
      · rw [eF k (by omega),cvE,hF k (by omega)]
        unfold upS
        by_cases h:s≤k
        · rw [if_pos h,if_pos ⟨h,by omega⟩];omega
        · rw [if_neg h,if_neg (by omega)];omega
      · rw [cvE]
        by_cases ek:k=s+L
        · have hf:=hF k (by omega)
          rw [ek] at hf ⊢
          unfold upS
          rw [if_pos (by omega),show s+L - s=L by omega,hlead,ex];omega
        · have h2:=hF2 k (by omega)
          rw [h2]
          unfold upS
          by_cases h:s≤k
          · rw [if_pos h,qaw (a:=ms) (by omega)];omega
          · rw [if_neg h];omega
      · rw [eF k hk]
        have e2:b+(i+1)*(d+1)=b+i*(d+1)+d+1:=by rw [Nat.add_mul];omega
        rw [e2]
        refine Bd.sub ((bF k hk).mono (by omega)) ?_
        split
        · exact bwt.mul (qbc bm _)
        · exact qez _
    unfold qdU
    rwa []
    refine qbM (fun cw=>?_) (fun cw=>?_)
    · refine ⟨by omega,by omega,?_⟩
      rw [Int.toNat_natCast]
      refine ForR.by (fun j σ H4=>∃ (u:Option V),σ=[some (.ref p),some (.ref q),some (.ref a),some (.int (L:Int)),some (.ref y),some (.int (s:Int)),some (.int wt),u]∧Same H H4∧H4 a=some (.lst (qbT ns.length fun k=>F k - (if s≤k∧k - s<j then wt*co ms (k - s) else 0)))∧H4 y=some (.lst (qbT c fun j=>if j=s then wt else G j))) ⟨w,rfl,s3,?_,hy3⟩ ?_ ?_
      · rw [ha3]
        exact congrArg (fun l=>some (HO.lst l)) (qb3 fun k _=>by rw [if_neg (by omega)];omega)
      · rintro j σ H4 hj ⟨u',rfl,s4,ha4,hy4⟩
        have hq4:=s4 _ _ hq
        have aj:atI (ms.map V.int) (0+(j:Int))=some (V.int (co ms j)):=qcS (j:=j) (by omega) (by rw [qsg];exact qbb _ (by omega))
        rwa [ha4,hq4,aj]
        refine ⟨_,qcS (j:=s+j) (by omega) (qbb _ (by omega)),qgK bwt (qbc bm j),_,rfl,s+j,by rw [qbq];exact qhl (by omega) (by omega),?_,?_,?_⟩
        · intro z o h
          exact Kp.upd z o (qao h ha) (s4 z o h)
        · refine qds (by omega) ?_ fun k _ hk=>?_
          · rw [if_pos (by omega),if_neg (by omega),show s+j - s=j by omega];omega
          · by_cases h:s≤k∧k - s<j
            · rw [if_pos h,if_pos (by omega)]
            · rw [if_neg h,if_neg (by omega)]
        · rw [qay (Ne.symm nay)];exact hy4
      · rintro σ H4 ⟨u',rfl,s4,ha4,hy4⟩
        exact fin _ _ _ _ _ s4 ha4 hy4 fun k _=>rfl
    · have w0:wt=0:=by simpa using cw
      exact fin F _ _ _ _ s3 ha3 hy3 fun k _=>by rw [w0];split <;> omega
  · rintro σ H2 ⟨_,F,G,u,v,w,rfl,s2,ha2,hy2,hG,hF,hF2,bF⟩
    unfold qga
    rwa [ha2]
    refine fun z hz=>?_
    rw [qlM]
    have sz2:=qag hz (HO.lst (((List.range (min L ns.length)).map F).map V.int))
    refine ⟨_,rfl,qbM (fun ce=>?_) (fun ce=>?_)⟩
    · refine kN (fun ⟨A,hA⟩=>?_) _ (s2.trans sz2)
      have hX:∀ k,cvL (qaI A (((List.range c).map G).map ((-1)*·))) (co ms) k=co ns k - cvL ((List.range c).map G) (co ms) k:=fun k=>by rw [qav,qaq,← hA];omega
      have q:=(qod lm (X:=qaI A (((List.range c).map G).map ((-1)*·))) (T:=0) (fun k hk=>by rw [hX,hF2 k (by omega)];omega)).1
      have ce':((List.range (min L ns.length)).map F).any (fun z=>!decide (z=0))=true:=by simpa using ce
      obtain ⟨z,hz',hz0⟩:=List.any_eq_true.mp ce'
      obtain ⟨k,hk,rfl⟩:=List.mem_map.mp hz'
      have hk:=List.mem_range.mp hk
      have e:=hX k
      rw [qbe,qb8 ms (fun j=>q j (Nat.zero_le j)),← hF k (by omega)] at e
      rw [← e] at hz0
      simp at hz0
    · have ce':((List.range (min L ns.length)).map F).any (fun z=>!decide (z=0))=false:=by simpa using ce
      have hy3:=sz2 _ _ hy2
      rw [qfu] at hy3
      refine kR y _ _ (s2.trans sz2) hy3 (by rw [List.length_map,List.length_range];omega) fun k=>?_
      by_cases hk:ns.length - c≤k
      · exact hF2 k hk
      · have:=hF k (by omega)
        rw [qps ce' k (by omega)] at this
        omega
theorem qlN {K:W.Frag} {a:Addr} {capt:List (Option Nat)} {te:TE} {σ:L2.St} {Q:VK} {H:Hp} {ns:List Int} (F:Int→Int) (hp:H a=some (.lst (ns.map V.int))) (hl:ns.length≤1000)
    (hs:∀ n,n∈ns→∀ P:VK,P (.int (F n)) H→te ((qct capt σ).set 0 (some (.int n))) H P) (hd:∀ p,H p=none→Q (.ref p) (upd H p (.lst ((ns.map F).map V.int)))):CompJ (Itl K a) capt (qaj 0) te σ Q H:=by
  refine CompJ.lst (xs:=ns.map V.int) (fun i ys H'=>i≤ns.length∧H'=H∧ys=((ns.map F).take i).map V.int) ⟨Nat.zero_le _,rfl,rfl⟩ ?_ ?_ ?_
  · rintro i ys H' ⟨h1,rfl,rfl⟩
    refine ⟨by rw [List.length_map];exact h1,sz ?_,SqL.of hp⟩
    rw [List.length_map,List.length_take];omega
  · rintro i x ys H' hi ⟨h1,rfl,rfl⟩
    rw [List.getElem?_map] at hi
    cases e:ns[i]? with
    | none=>rw [e] at hi;cases hi
    | some n=>
      rw [e] at hi
      obtain rfl:V.int n=x:=Option.some.inj hi
      have hi2:i<ns.length:=(List.getElem?_eq_some_iff.mp e).1
      show te ((qct capt σ).set 0 (some (.int n))) H' _
      refine hs n (List.mem_of_getElem? e) _ ⟨by omega,rfl,?_⟩
      rw [qcv V.int (q:=F n) (by rw [List.getElem?_map,e];rfl)]
  · rintro ys H' ⟨_,rfl,rfl⟩ p hpn
    have e:(ns.map F).take (ns.map V.int).length=ns.map F:=by rw [List.length_map,show ns.length=(ns.map F).length by rw [List.length_map],List.take_length]
    rw [e]
    exact hd p hpn
theorem qhp (h:qa2 K vs H Q E):qel K { nx:=fun _ H'=>Q .non H',rt:=Q } (L2.start ["row", "prime"] vs) H:=by
  obtain ⟨p,ns,m,rfl,hp,m0,hl,q⟩:=h
  unfold qel
  rwa []
  refine ⟨⟨_,SqL.of hp⟩,qlN (· % m) hp hl (fun n _ P hP=>?_) q⟩
  rwa []
  exact ⟨m0,hP⟩
theorem qlO {F:Int→Int} (h0:F 0=0) (ns:List Int) (k:Nat):co (ns.map F) k=F (co ns k):=by
  unfold co
  rw [List.getD_eq_getElem?_getD,List.getD_eq_getElem?_getD,List.getElem?_map]
  cases ns[k]? with
  | none=>exact h0.symm
  | some z=>rfl
theorem qj1 {ns:List Int} {z:Int} (h:z∈qdT ns):z∈ns:=List.mem_of_mem_take h
theorem qpt (ns:List Int):(qdT ns).length≤ns.length:=by rw [qhn];exact qhm _ _
theorem qbd (a m:Int):m∣a % m - a:=⟨-(a / m),by have:=Int.emod_add_mul_ediv a m;rw [Int.mul_neg];omega⟩
theorem qi8 (h:qaP K vs H Q E):qge K { nx:=fun _ H'=>Q .non H',rt:=Q } (L2.start ["row", "prime"] vs) H:=by
  obtain ⟨p,ns,m,rfl,hp,m0,hl,q⟩:=h
  unfold qge
  rwa [hp]
  refine ⟨_,rfl,m0,hl,fun r hr=>?_⟩
  refine ⟨_,rfl,fun t ht=>?_⟩
  refine q t _ _ ((qag hr _).trans (qag ht _)) qai (qi6 _) (Nat.le_trans (qpt _) (by rw [List.length_map];exact Nat.le_refl _)) ⟨fun z hz=>?_,fun k=>?_⟩
  · obtain ⟨y,_,rfl⟩:=List.mem_map.mp (qj1 hz)
    exact ⟨Int.emod_nonneg _ (by omega),Int.emod_lt_of_pos _ m0⟩
  · rw [qi7,qlO (Int.zero_emod m)]
    exact qbd _ _
theorem qfT (h:qaV K vs H Q E):qdz K { nx:=fun _ H'=>Q .non H',rt:=Q } (L2.start ["whole", "prime", "one", "other", "one_weight", "other_weight", "quotient", "rest"] vs) H:=by
  obtain ⟨a,p,rfl,p2,bp,q⟩:=h
  unfold qdz qcZ qcY qcX qcW
  rwa []
  refine ⟨by omega,?_⟩
  have a0:=Int.emod_nonneg a (show p≠0 by omega)
  have a1:=Int.emod_lt_of_pos a (show 0<p by omega)
  refine while_by (fun n σ H'=>∃ (x y s t:Int) (u v:Option V),σ=[some (.int a),some (.int p),some (.int x),some (.int y),some (.int s),some (.int t),u,v]∧H'=H∧n=y.toNat∧0≤y∧y<x∧x≤p∧
    Int.gcd x y=Int.gcd a p∧p∣x - s*a∧p∣y - t*a∧(t.natAbs:Int)*x+(s.natAbs:Int)*y≤p∧(s.natAbs:Int)≤p) (a % p).toNat ⟨p,a % p,0,1,none,none,rfl,rfl,rfl,a0,a1,Int.le_refl _,?_,⟨1,by omega⟩,?_,by simp,by simp;omega⟩ ?_
  · rw [qiP a (by omega)]
  · rw [show a % p - 1*a=a % p - a by omega]
    exact qbd a p
  · rintro n σ H' ⟨x,y,s,t,u,v,rfl,rfl,rfl,y0,yx,xp,hg,hs,ht,hb,hsp⟩
    have tx:(t.natAbs:Int)*1≤(t.natAbs:Int)*x:=Int.mul_le_mul_of_nonneg_left (by omega) (by omega)
    have sy:0≤(s.natAbs:Int)*y:=Int.mul_nonneg (by omega) y0
    have tp:(t.natAbs:Int)≤p:=by omega
    rwa []
    refine qbM (fun c=>?_) (fun c=>?_)
    · have yp:0<y:=by
        have:y≠0:=by simpa using c
        omega
      unfold qcf qce qcd qcc qcb qca qb9
      have q0:=Int.ediv_nonneg (show 0≤x by omega) y0
      have q1:x / y≤x:=Int.ediv_le_self y (by omega)
      have r0:=Int.emod_nonneg x (show y≠0 by omega)
      have r1:=Int.emod_lt_of_pos x yp
      have er:x - x / y*y=x % y:=by have:=Int.emod_add_mul_ediv x y;rw [Int.mul_comm] at this;omega
      have B:∀ {z:Int},z.natAbs≤p.natAbs→Bd 60000000 z:=fun h=>(bp.le h).mono (by decide)
      refine ⟨fun σ' H''=>∃ m',m'<y.toNat∧_,fun _ _ h=>h,?_⟩
      rwa []
      refine ⟨yp,qgK (B (by omega)) (B (by omega)),qgK (B (by omega)) (B (by omega)),?_⟩
      refine ⟨(x - x / y*y).toNat,by omega,rfl,by omega,by omega,by omega,?_,ht,?_,?_,tp⟩
      · rw [er,qiP x y0];exact hg
      · obtain ⟨α,hα⟩:=hs
        obtain ⟨β,hβ⟩:=ht
        exact ⟨α - x / y*β,by
          generalize x / y=qq at *
          have e1:x=s*a+p*α:=by omega
          have e2:y=t*a+p*β:=by omega
          rw [e1,e2];grind⟩
      · have n1:((s - x / y*t).natAbs:Int)≤(s.natAbs:Int)+x / y*(t.natAbs:Int):=by
          have h1:=Int.natAbs_sub_le s (x / y*t)
          rw [Int.natAbs_mul] at h1
          have h2:((x / y).natAbs:Int)=x / y:=by omega
          have h3:(((x / y).natAbs*t.natAbs:Nat):Int)=x / y*(t.natAbs:Int):=by rw [Int.natCast_mul,h2]
          omega
        have n2:=Int.mul_le_mul_of_nonneg_right n1 y0
        rw [er]
        have n3:(t.natAbs:Int)*(x % y)=(t.natAbs:Int)*x - (t.natAbs:Int)*(x / y*y):=by rw [← er,Int.mul_sub]
        rw [n3]
        generalize (t.natAbs:Int)=tt at *
        generalize (s.natAbs:Int)=ss at *
        generalize x / y=qq at *
        have n4:(ss+qq*tt)*y=ss*y+tt*(qq*y):=by grind
        omega
    · have yz:y=0:=by simpa using c
      unfold qcV
      rwa []
      refine ⟨by omega,q _ (Int.emod_nonneg _ (by omega)) (Int.emod_lt_of_pos _ (by omega)) fun hc=>?_⟩
      have x1:x=1:=by
        rw [yz] at hg
        rw [Int.gcd_zero_right,hc] at hg
        omega
      obtain ⟨α,hα⟩:=hs
      obtain ⟨γ,hγ⟩:=qbd s p
      refine ⟨γ*a - α,?_⟩
      have e1:s % p=s+p*γ:=by omega
      rw [e1]
      have e2:s*a=1 - p*α:=by omega
      grind
theorem mbd {p:Nat} {ns:List Int} (bp:Bd 45000 (p:Int)) (h:∀ z∈ns,0≤z∧z<(p:Int)):∀ z∈ns,Bd 60000000 z:=fun z hz=>(bp.le (by have:=h z hz;omega)).mono (by decide)
theorem mcop {p:Nat} {ns:List Int} (pp:Pr p) (tz:Tz ns) (h:∀ z∈ns,0≤z∧z<(p:Int)) (hn:ns≠[]):Int.gcd (co ns (ns.length - 1)) (p:Int)=1:=by
  have l0:0<ns.length:=List.length_pos_iff.mpr hn
  have lne:co ns (ns.length - 1)≠0:=tz.resolve_left hn
  have lz:0≤co ns (ns.length - 1)∧co ns (ns.length - 1)<(p:Int):=h _ (by
    unfold co
    rw [List.getD_eq_getElem?_getD,List.getElem?_eq_getElem (by omega)]
    exact List.getElem_mem _)
  exact pp.cop fun z=>by
    have:=Nat.le_of_dvd (by omega) z
    omega
theorem qhq (h:qaM K vs H Q E):qem K { nx:=fun _ H'=>Q .non H',rt:=Q } (L2.start ["row", "prime", "factor"] vs) H:=by
  obtain ⟨q,ns,p,rfl,hq,p2n,bp,hl,bz,gcd1,k⟩:=h
  have p2:(2:Int)≤(p:Int):=by omega
  unfold qem
  rwa [hq]
  by_cases hn:ns=[]
  · subst hn
    refine qbM (fun _=>?_) (fun c=>absurd rfl c)
    refine ⟨sz (by decide),fun r hr=>k r [] 0 _ (qag hr _) qai rfl (fun z=>absurd rfl z) ⟨fun z hz=>(by cases hz),fun i=>?_⟩⟩
    show (p:Int)∣co [] i - 0*co [] i
    rw [qaw (Nat.zero_le _)];exact ⟨0,by omega⟩
  have l0:0<ns.length:=List.length_pos_iff.mpr hn
  refine qbM (fun c=>absurd c (by simpa using hn)) (fun _=>?_)
  have aL:=qbW l0
  rwa [aL]
  refine ⟨p2,bp,fun f f0 f1 hf=>?_⟩
  have gc:=gcd1 hn
  have hf:=hf gc
  have B:∀ {z:Int},0≤z→z<(p:Int)→Bd 60000000 z:=fun h1 h2=>(bp.le (by omega)).mono (by decide)
  refine ⟨⟨_,SqL.of hq⟩,qlN (fun n=>n*f % (p:Int)) hq hl (fun n hn P hP=>?_) fun r hr=>?_⟩
  · rwa []
    exact ⟨qgK (bz n hn) (B f0 f1),by omega,hP⟩
  · have cm:∀ i,co (ns.map fun n=>n*f % (p:Int)) i=co ns i*f % (p:Int):=fun i=>qlO (F:=fun n=>n*f % (p:Int)) (by simp) ns i
    refine k r _ f _ (qag hr _) qai (List.length_map ..) (fun _=>?_) ⟨fun z hz=>?_,fun i=>?_⟩
    · rw [List.length_map,cm]
      obtain ⟨c,hc⟩:=hf
      have e:co ns (ns.length - 1)*f=1+(p:Int)*c:=by rw [Int.mul_comm];omega
      rw [e,Int.add_mul_emod_self_left]
      exact Int.emod_eq_of_lt (by decide) (by omega)
    · obtain ⟨y,_,rfl⟩:=List.mem_map.mp hz
      exact ⟨Int.emod_nonneg _ (by omega),Int.emod_lt_of_pos _ (by omega)⟩
    · rw [cm]
      show (p:Int)∣co ns i*f % (p:Int) - f*co ns i
      rw [Int.mul_comm f]
      exact qbd _ _
theorem qmn (h:qb2 K vs H Q E):qjV K { nx:=fun _ H'=>Q .non H',rt:=Q } (L2.start ["whole", "prime", "rest"] vs) H:=by
  obtain ⟨w,p,rfl,p0,k⟩:=h
  unfold qjV
  rwa []
  have r0:=Int.emod_nonneg w (show p≠0 by omega)
  have r1:=Int.emod_lt_of_pos w p0
  have rd:=qbd w p
  refine ⟨p0,IntMulOk.of_left (intBits_le_64 (by omega) (by omega)),qbM (fun c=>?_) (fun c=>?_)⟩
  · refine k _ ?_ (by omega)
    obtain ⟨γ,hγ⟩:=rd
    exact ⟨γ - 1,by rw [Int.mul_sub];omega⟩
  · exact k _ rd (by omega)
theorem qhZ (h:qaN K vs H Q E):qfd K { nx:=fun _ H'=>Q .non H',rt:=Q } (L2.start ["row", "divisor", "modulus"] vs) H:=by
  obtain ⟨p,q,ns,ms,m,b,rfl,hp,hq,m0,ml,mp,bm,bms,bb,hn,hm,k⟩:=h
  unfold qfd
  rwa [hp,hq]
  refine ⟨ns,rfl,ms,rfl,m0,ml,mp,b,bm,bms,bb,hn,hm,fun t r s qs rs H' sH ht hr hs tq tr lr md _=>?_⟩
  refine ⟨_,ht,?_⟩
  rwa []
  exact k s qs rs H' sH hs tr lr md
theorem qgs (h:qa7 K vs H Q E):qd1 K { nx:=fun _ H'=>Q .non H',rt:=Q } (L2.start ["row", "other", "prime", "rest"] vs) H:=by
  obtain ⟨a,b,ns,ms,p,rfl,ha,hb,pp,bp,hn,hm,h0,k⟩:=h
  have p2:(2:Int)≤(p:Int):=by have:=pp.two;omega
  unfold qd1
  rwa [ha]
  refine ⟨ns,rfl,by omega,hn,fun c r1 H1 s1 hc tz1 l1 md1=>?_⟩
  refine ⟨r1,p,rfl,hc,pp.two,bp,by omega,mbd bp md1.1,mcop pp tz1 md1.1,fun d r2 f H2 s2 hd l2 o2 md2=>?_⟩
  have hb2:=s2 _ _ (s1 _ _ hb)
  rwa [hb2]
  refine ⟨ms,rfl,by omega,hm,fun c' r3 H3 s3 hc' tz3 l3 md3=>?_⟩
  refine ⟨r3,p,rfl,hc',pp.two,bp,by omega,mbd bp md3.1,mcop pp tz3 md3.1,fun d' r4 f' H4 s4 hd' l4 o4 md4=>?_⟩
  have s04:Same H H4:=((s1.trans s2).trans s3).trans s4
  have hd4:=(s3.trans s4) _ _ hd
  have step:∀ {g h:Nat→Int} {rs:List Int} {f:Int},Dm (p:Int) g h→Md (p:Int) rs (fun k=>f*h k)→Dm (p:Int) g (co rs):=fun {g h rs f} d md=>by
    refine Dm.congr (Dm.less d d f 0 0) fun k=>?_
    have:=md.2 k
    show (p:Int)∣co rs k - (f*h k - 0*_)
    rw [Int.zero_mul,Int.sub_zero]
    exact this
  have nz:∀ {xs rs rs2:List Int} {f:Int},(∃ k,¬ (p:Int)∣co xs k)→Md (p:Int) rs (co xs)→rs2.length=rs.length→0<rs2.length:=fun {xs rs rs2 f} ⟨k,hk⟩ md e=>by
    rcases Nat.eq_zero_or_pos rs2.length with z | z
    · exfalso
      have:=md.2 k
      rw [qaw (by omega)] at this
      have t2:=Int.dvd_neg.mpr this
      rw [show ∀ x:Int,-(0 - x)=x by intro x;omega] at t2
      exact hk t2
    · exact z
  have M1:∀ {xs rs:List Int},Md (p:Int) rs (co xs)→∀ {g:Nat→Int},Dm (p:Int) g (co xs)→Dm (p:Int) g (co rs):=fun md g d=>Dm.congr d md.2
  have back1:∀ {g:Nat→Int} {r r2:List Int} {f:Int},Md (p:Int) r2 (fun k=>f*co r k)→r2.length=r.length→(r≠[]→co r2 (r2.length - 1)=1)→Dm (p:Int) g (co r2)→Dm (p:Int) g (co r):=fun {g r r2 f} md l o d=>by
    by_cases r0:r=[]
    · exact Dm.zero _ _ fun k=>by rw [r0,qaw (Nat.zero_le _)];exact Int.dvd_zero _
    · refine Dm.congr (Dm.less d d (co r (r.length - 1)) 0 0) fun k=>?_
      show (p:Int)∣co r k - (co r (r.length - 1)*co r2 k - 0*_)
      rw [Int.zero_mul,Int.sub_zero]
      have h1:=md.2 k
      have h2:=md.2 (r2.length - 1)
      rw [o r0,l] at h2
      have q1:(p:Int)∣co r (r.length - 1)*(co r2 k - f*co r k):=Int.dvd_mul_of_dvd_right h1
      have q2:(p:Int)∣co r k*(1 - f*co r (r.length - 1)):=Int.dvd_mul_of_dvd_right h2
      refine Int.dvd_trans (Int.dvd_sub q2 q1) (qpq ?_)
      grind
  have back:∀ {g:Nat→Int} {xs r r2:List Int} {f:Int},Md (p:Int) r (co xs)→Md (p:Int) r2 (fun k=>f*co r k)→r2.length=r.length→(r≠[]→co r2 (r2.length - 1)=1)→Dm (p:Int) g (co r2)→Dm (p:Int) g (co xs):=fun {g xs r r2 f} md1 md l o d=>Dm.congr (back1 md l o d) fun k=>by
    have:=Int.dvd_neg.mpr (md1.2 k)
    refine Int.dvd_trans this (qpq ?_)
    omega
  refine while_by (fun m σ H'=>∃ (x y:Addr) (xs ys:List Int) (u:Option V),σ=[some (.ref x),some (.ref y),some (.int (p:Int)),u]∧Same H H'∧H' x=some (.lst (xs.map V.int))∧H' y=some (.lst (ys.map V.int))∧m=ys.length∧xs.length≤1000∧ys.length≤1000∧(0<xs.length∨0<ys.length)∧(xs≠[]→co xs (xs.length - 1)=1)∧(ys≠[]→co ys (ys.length - 1)=1)∧(∀ z∈xs,0≤z∧z<(p:Int))∧(∀ z∈ys,0≤z∧z<(p:Int))∧
    (∀ g:Nat→Int,Dm (p:Int) g (co ns)→Dm (p:Int) g (co ms)→Dm (p:Int) g (co xs)∧Dm (p:Int) g (co ys))∧(∀ g:Nat→Int,Dm (p:Int) g (co xs)→Dm (p:Int) g (co ys)→Dm (p:Int) g (co ns)∧Dm (p:Int) g (co ms))) r4.length ⟨d,d',r2,r4,none,rfl,s04,hd4,hd',rfl,by omega,by omega,?_,?_,?_,md2.1,md4.1,fun g d1 d2=>⟨step (M1 md1 d1) md2,step (M1 md3 d2) md4⟩,fun g d1 d2=>⟨back md1 md2 l2 o2 d1,back md3 md4 l4 o4 d2⟩⟩ ?_
  · rcases h0 with h | h
    · exact .inl (nz (f:=f) h md1 l2)
    · exact .inr (nz (f:=f) h md3 l4)
  · intro z
    exact o2 fun e=>z (List.length_eq_zero_iff.mp (by rw [l2,e];rfl))
  · intro z
    exact o4 fun e=>z (List.length_eq_zero_iff.mp (by rw [l4,e];rfl))
  · rintro m σ H' ⟨x,y,xs,ys,u,rfl,sH,hx,hy,rfl,xl,yl,ne,ox,oy,bx,bY,hD,hE⟩
    rwa [hy]
    by_cases hys:ys=[]
    · subst hys
      refine qbM (fun c=>absurd c (by simp)) (fun _=>?_)
      have x0:0<xs.length:=by simpa using ne
      have rfx:Dm (p:Int) (co xs) (co xs):=⟨[1],fun k=>by
        have e:cvL [1] (co xs) k=co xs k:=by
          cases k with
          | zero=>rw [qam];omega
          | succ k=>rw [qal,qaB];omega
        rw [e,Int.sub_self];exact Int.dvd_zero _⟩
      have zz:Dm (p:Int) (co xs) (co []):=Dm.zero _ _ fun k=>by rw [qaw (Nat.zero_le _)];exact Int.dvd_zero _
      exact k x xs H' sH hx x0 xl (ox (List.length_pos_iff.mp x0)) bx (fun g d1 d2=>(hD g d1 d2).1) (hE _ rfx zz).1 (hE _ rfx zz).2
    · have y0:0<ys.length:=List.length_pos_iff.mpr hys
      refine qbM (fun _=>?_) (fun c=>absurd hys (by simpa using c))
      refine ⟨fun σ' H''=>∃ m',m'<ys.length∧_,fun _ _ h=>h,?_⟩
      rwa [hx,hy]
      have B:∀ z:Int,0≤z→z<(p:Int)→Bd 45000 z:=fun z h1 h2=>bp.le (by omega)
      refine ⟨xs,rfl,ys,rfl,y0,oy hys,by omega,45000,bp,fun z hz=>B z (bY z hz).1 (bY z hz).2,by decide,xl,yl,fun s qs rs H2 sH2 hs trs lrs md=>?_⟩
      have whole:∀ g:Nat→Int,Dm (p:Int) g (co ys)→Dm (p:Int) g (co rs)→Dm (p:Int) g (co xs):=fun g d1 d2=>by
        obtain ⟨S1,h1⟩:=d1
        obtain ⟨S2,h2⟩:=d2
        refine ⟨qaI S2 (qaF qs S1),fun k=>?_⟩
        rw [qav,qar]
        have e1:=cvD h1 qs k
        have m2:(p:Int)∣co rs k - (co xs k - cvL qs (co ys) k):=md.2 k
        have:=Int.dvd_add (Int.dvd_sub (h2 k) m2) e1
        refine Int.dvd_trans this (qpq ?_)
        omega
      refine ⟨rs,p,rfl,hs,pp.two,bp,by omega,mbd bp md.1,mcop pp trs md.1,fun t ts f H3 sH3 ht lt ot mdt=>?_⟩
      refine ⟨ts.length,by omega,(sH.trans sH2).trans sH3,ys,(sH2.trans sH3) _ _ hy,ts,ht,rfl,yl,by omega,.inl y0,oy,fun z=>ot fun e=>z (List.length_eq_zero_iff.mp (by rw [lt,e];rfl)),bY,mdt.1,fun g d1 d2=>⟨(hD g d1 d2).2,?_⟩,fun g d1 d2=>hE g (whole g d1 (back1 mdt lt ot d2)) d1⟩
      obtain ⟨dx,dy⟩:=hD g d1 d2
      have dr:Dm (p:Int) g (co rs):=by
        obtain ⟨S1,h1⟩:=dx
        obtain ⟨S2,h2⟩:=dy
        refine Dm.congr (f:=fun k=>co xs k - cvL qs (co ys) k) ⟨qaI S1 ((qaF qs S2).map (-1*·)),fun k=>?_⟩ md.2
        rw [qav,qaq,qar]
        have e:(p:Int)∣cvL qs (co ys) k - cvL qs (cvL S2 g) k:=by
          have lin:∀ (A:List Int) (k:Nat),(p:Int)∣cvL A (co ys) k - cvL A (cvL S2 g) k:=by
            intro A
            induction A with
            | nil=>intro k;rw [qaB,qaB];exact ⟨0,by omega⟩
            | cons a A ih=>
              intro k
              rw [qcQ,qcQ]
              have i2:(p:Int)∣up1 (cvL A (co ys)) k - up1 (cvL A (cvL S2 g)) k:=by
                cases k with
                | zero=>exact ⟨0,by show (0:Int) - 0=_;omega⟩
                | succ k=>exact ih k
              have i1:(p:Int)∣a*(co ys k - cvL S2 g k):=Int.dvd_mul_of_dvd_right (h2 k)
              have:=Int.dvd_add i1 i2
              rw [show a*(co ys k - cvL S2 g k)+(up1 (cvL A (co ys)) k - up1 (cvL A (cvL S2 g)) k)=a*co ys k+up1 (cvL A (co ys)) k - (a*cvL S2 g k+up1 (cvL A (cvL S2 g)) k) by rw [Int.mul_sub];omega] at this
              exact this
          exact lin qs k
        have:=Int.dvd_sub (h1 k) e
        rw [show co xs k - cvL S1 g k - (cvL qs (co ys) k - cvL qs (cvL S2 g) k)=co xs k - cvL qs (co ys) k - (cvL S1 g k + -1*cvL qs (cvL S2 g) k) by omega] at this
        exact this
      exact step dr mdt
theorem qhr (h:qaS K vs H Q E):qen K { nx:=fun _ H'=>Q .non H',rt:=Q } (L2.start ["row", "divisor", "modulus", "rest", "last", "quotient", "shift", "weight", "place"] vs) H:=by
  obtain ⟨p,q,ns,ms,m,b,rfl,hp,hq,m0,ml,mp,bm,bms,bb,hn,hm,kR⟩:=h
  obtain ⟨L,hL⟩:∃ L,ms.length=L+1:=⟨ms.length - 1,by omega⟩
  have hL1:ms.length - 1=L:=by omega
  rw [hL1] at ml
  generalize hc:ns.length - L=c
  unfold qen
  rwa [hp]
  refine fun a ha=>?_
  have sa:=qag ha (HO.lst (ns.map V.int))
  unfold qdD
  have hpa:=sa _ _ hp
  have hqa:=sa _ _ hq
  rwa [hqa]
  unfold qdC
  rwa []
  refine ⟨sz (by decide),fun x hx=>?_⟩
  have sx:=qag hx (HO.lst [V.int 0])
  have hpx:=sx _ _ hpa
  rwa [hpx]
  have hmax:(if (0:Int) > ((List.map V.int ns).length:Int) - (((List.map V.int ms).length:Int) - 1) then (0:Int) else ((List.map V.int ns).length:Int) - (((List.map V.int ms).length:Int) - 1))=(c:Int):=by
    rw [List.length_map,List.length_map];split <;> omega
  rw [hmax]
  refine ⟨by omega,by omega,sz (by simp;omega),fun y hy=>?_⟩
  rw [Int.toNat_natCast,qdp]
  have sy:=qag hy (HO.lst (List.replicate c (V.int 0)))
  have sA:Same (upd H a (HO.lst (ns.map V.int))) (upd (upd (upd H a (HO.lst (ns.map V.int))) x (HO.lst [V.int 0])) y (HO.lst (List.replicate c (V.int 0)))):=fun z o h=>sy z o (sx z o h)
  have hay:=sA _ _ (show upd H a (HO.lst (ns.map V.int)) a=_ from qai)
  have hyy:(upd (upd (upd H a (HO.lst (ns.map V.int))) x (HO.lst [V.int 0])) y (HO.lst (List.replicate c (V.int 0)))) y=_:=qai
  have sH:Same H (upd (upd (upd H a (HO.lst (ns.map V.int))) x (HO.lst [V.int 0])) y (HO.lst (List.replicate c (V.int 0)))):=fun z o h=>sA z o (sa z o h)
  have nay:a≠y:=qao (sx _ _ (show upd H a (HO.lst (ns.map V.int)) a=_ from qai)) hy
  have nyH:H y=none:=by
    cases e:H y with
    | none=>rfl
    | some o=>have:=sx _ _ (sa _ _ e);rw [hy] at this;cases this
  generalize (upd (upd (upd H a (HO.lst (ns.map V.int))) x (HO.lst [V.int 0])) y (HO.lst (List.replicate c (V.int 0))))=H1 at hay hyy sH ⊢
  rw [qsg ns] at hay
  have e0:List.replicate c (V.int 0)=qbT c fun _=>0:=by rw [← qdp,qgJ]
  rw [e0] at hyy
  unfold qdB
  have hp1:=sH _ _ hp
  rwa [hp1]
  refine ⟨by rw [List.length_map,List.length_map];omega,?_⟩
  have elo:((List.map V.int ns).length:Int) - (((List.map V.int ms).length:Int) - 1) - 1=(ns.length:Int) - (L:Int) - 1:=by rw [List.length_map,List.length_map];omega
  have ela:((List.map V.int ms).length:Int) - 1=(L:Int):=by rw [List.length_map];omega
  rw [elo,ela]
  have ecn:((ns.length:Int) - (L:Int) - 1 - -1).toNat=c:=by omega
  rw [ecn]
  refine ⟨by omega,by decide,by decide,?_⟩
  let Iv:Nat→L2.St→Hp→Prop:=fun i σ H2=>i≤c∧∃ (F G:Nat→Int) (u v w:Option V),σ=[some (.ref p),some (.ref q),some (.int m),some (.ref a),some (.int (L:Int)),some (.ref y),u,v,w]∧Same H H2∧H2 a=some (.lst (qbT ns.length F))∧H2 y=some (.lst (qbT c G))∧
    (∀ j,j<c - i→G j=0)∧(∀ k,k<ns.length - i→m∣F k - (co ns k - cvL ((List.range c).map G) (co ms) k))∧(∀ k,ns.length - i≤k→m∣co ns k - cvL ((List.range c).map G) (co ms) k)∧(∀ j,j<c→0≤G j∧G j<m)
  refine ForJ.down Iv ⟨Nat.zero_le _,co ns,fun _=>0,none,none,none,rfl,sH,hay,hyy,fun _ _=>rfl,fun k _=>by rw [qgL];exact ⟨0,by omega⟩,fun k hk=>by rw [qgL,qaw (by omega)];exact ⟨0,by omega⟩,fun k _=>⟨Int.le_refl 0,mp⟩⟩ ?_ ?_
  · rintro i σ H2 hi ⟨_,F,G,u,v,w,rfl,s2,ha2,hy2,hG,hF,hF2,bG⟩
    have hq2:=s2 _ _ hq
    have ic:i<c:=hi
    have esh:((ns.length:Int) - (L:Int) - 1 - (i:Int))=((c - 1 - i:Nat):Int):=by omega
    rw [esh]
    generalize hs:c - 1 - i=s
    have hst:s+L=ns.length - 1 - i:=by omega
    have aT:atI (qbT ns.length F) ((s:Int)+(L:Int))=some (V.int (F (s+L))):=qcS (j:=s+L) (by omega) (qbb F (by omega))
    unfold qcJ
    rwa [ha2,hq2,aT]
    refine ⟨mp,?_⟩
    have w0:=Int.emod_nonneg (F (s+L)) (show m≠0 by omega)
    have w1:=Int.emod_lt_of_pos (F (s+L)) mp
    have wd:=qbd (F (s+L)) m
    generalize hw:F (s+L) % m=wt at w0 w1 wd
    have bwt:Bd b wt:=bm.le (by omega)
    unfold qcI
    rwa [hy2]
    refine ⟨s,by rw [qbq];exact qhl rfl (by omega),?_⟩
    have hG':(qbT c G).set s (V.int wt)=qbT c (fun j=>if j=s then wt else G j):=qds (by omega) (if_pos rfl) fun j _ hj=>if_neg hj
    rw [hG']
    have s3:Same H (upd H2 y (HO.lst (qbT c fun j=>if j=s then wt else G j))):=fun z o h=>Kp.upd z o (qao h nyH) (s2 z o h)
    have ha3:(upd H2 y (HO.lst (qbT c fun j=>if j=s then wt else G j))) a=_:=(qay nay).trans ha2
    have hy3:(upd H2 y (HO.lst (qbT c fun j=>if j=s then wt else G j))) y=_:=qai
    generalize (upd H2 y (HO.lst (qbT c fun j=>if j=s then wt else G j)))=H3 at s3 ha3 hy3 ⊢
    have cvE:∀ k,cvL ((List.range c).map fun j=>if j=s then wt else G j) (co ms) k=cvL ((List.range c).map G) (co ms) k+wt*upS s (co ms) k:=fun k=>qoe (by omega) (hG s (by omega)) _ k
    have fin:∀ (F':Nat→Int) (u v w:Option V) (H4:Hp),Same H H4→H4 a=some (.lst (qbT ns.length F'))→H4 y=some (.lst (qbT c fun j=>if j=s then wt else G j))→(∀ k,k<ns.length→F' k=F k - (if s≤k∧k - s<L then wt*co ms (k - s) else 0))→
        Iv (i+1) [some (.ref p),some (.ref q),some (.int m),some (.ref a),some (.int (L:Int)),some (.ref y),u,v,w] H4:=fun F' u v w H4 s4 ha4 hy4 eF=>by
      refine ⟨by omega,F',_,u,v,w,rfl,s4,ha4,hy4,fun j hj=>?_,fun k hk=>?_,fun k hk=>?_,fun j hj=>?_⟩
      · show (if j=s then wt else G j)=0
        rw [if_neg (by omega)];exact hG j (by omega)
      · have hf:=hF k (by omega)
        rw [eF k (by omega),cvE]
        unfold upS
        by_cases h:s≤k
        · rw [if_pos h,if_pos ⟨h,by omega⟩]
          rw [show ∀ x y z w:Int,x - y - (z - (w+y))=x - (z - w) by intro x y z w;omega]
          exact hf
        · rw [if_neg h,if_neg (by omega)]
          rw [show ∀ x z w:Int,x - 0 - (z - (w+wt*0))=x - (z - w) by intro x z w;omega]
          exact hf
      · rw [cvE]
        by_cases ek:k=s+L
        · have hf:=hF k (by omega)
          rw [ek] at hf ⊢
          unfold upS
          rw [if_pos (by omega),show s+L - s=L by omega,ml]
          obtain ⟨α,hα⟩:=hf
          obtain ⟨β,hβ⟩:=wd
          exact ⟨-α - β,by rw [Int.mul_sub,Int.mul_neg];omega⟩
        · have h2:=hF2 k (by omega)
          unfold upS
          by_cases h:s≤k
          · rw [if_pos h,qaw (a:=ms) (by omega),Int.mul_zero,Int.add_zero];exact h2
          · rw [if_neg h,Int.mul_zero,Int.add_zero];exact h2
      · show 0≤(if j=s then wt else G j)∧(if j=s then wt else G j)<m
        split
        · exact ⟨w0,w1⟩
        · exact bG j hj
    unfold qcH
    rwa []
    refine qbM (fun cw=>?_) (fun cw=>?_)
    · refine ⟨by omega,by omega,?_⟩
      rw [Int.toNat_natCast]
      refine ForR.by (fun j σ H4=>∃ (u:Option V),σ=[some (.ref p),some (.ref q),some (.int m),some (.ref a),some (.int (L:Int)),some (.ref y),some (.int (s:Int)),some (.int wt),u]∧Same H H4∧H4 a=some (.lst (qbT ns.length fun k=>F k - (if s≤k∧k - s<j then wt*co ms (k - s) else 0)))∧H4 y=some (.lst (qbT c fun j=>if j=s then wt else G j))) ⟨w,rfl,s3,?_,hy3⟩ ?_ ?_
      · rw [ha3]
        exact congrArg (fun l=>some (HO.lst l)) (qb3 fun k _=>by rw [if_neg (by omega)];omega)
      · rintro j σ H4 hj ⟨u',rfl,s4,ha4,hy4⟩
        have hq4:=s4 _ _ hq
        have aj:atI (ms.map V.int) (0+(j:Int))=some (V.int (co ms j)):=qcS (j:=j) (by omega) (by rw [qsg];exact qbb _ (by omega))
        rwa [ha4,hq4,aj]
        refine ⟨_,qcS (j:=s+j) (by omega) (qbb _ (by omega)),qgK bwt (qbc bms j),_,rfl,s+j,by rw [qbq];exact qhl (by omega) (by omega),?_,?_,?_⟩
        · intro z o h
          exact Kp.upd z o (qao h ha) (s4 z o h)
        · refine qds (by omega) ?_ fun k _ hk=>?_
          · rw [if_pos (by omega),if_neg (by omega),show s+j - s=j by omega];omega
          · by_cases h:s≤k∧k - s<j
            · rw [if_pos h,if_pos (by omega)]
            · rw [if_neg h,if_neg (by omega)]
        · rw [qay (Ne.symm nay)];exact hy4
      · rintro σ H4 ⟨u',rfl,s4,ha4,hy4⟩
        exact fin _ _ _ _ _ s4 ha4 hy4 fun k _=>rfl
    · have w0':wt=0:=by simpa using cw
      exact fin F _ _ _ _ s3 ha3 hy3 fun k _=>by rw [w0'];split <;> omega
  · rintro σ H2 ⟨_,F,G,u,v,w,rfl,s2,ha2,hy2,hG,hF,hF2,bG⟩
    unfold qdA
    rw [qfu] at hy2
    rwa [ha2,hy2]
    refine ⟨_,rfl,fun t ht=>?_⟩
    have st:=qag ht (HO.lst (List.map V.int (qdT (List.map G (List.range c)))))
    have ha3:=st _ _ ha2
    have htt:upd H2 t (HO.lst (List.map V.int (qdT (List.map G (List.range c))))) t=_:=qai
    generalize upd H2 t (HO.lst (List.map V.int (qdT (List.map G (List.range c)))))=H3 at st ha3 htt ⊢
    refine ⟨_,ha3,fun z hz=>?_⟩
    rw [qlM]
    have sz2:=qag hz (HO.lst (((List.range (min L ns.length)).map F).map V.int))
    refine ⟨_,rfl,mp,by rw [List.length_map,List.length_range];omega,fun r rs H4 s4 hr4 tr lr md=>?_⟩
    rw [List.length_map,List.length_range] at lr
    refine ⟨sz (by decide),fun e he=>?_⟩
    have se:=qag he (HO.tup [V.ref t,V.ref r])
    have cq:∀ k,cvL (qdT ((List.range c).map G)) (co ms) k=cvL ((List.range c).map G) (co ms) k:=fun k=>by
      rw [qbe,qan (fun j=>qi7 _ j) ms k,← qbe]
    refine kR e t r _ rs _ ((s2.trans st).trans ((sz2.trans s4).trans se)) qai (se _ _ (s4 _ _ (sz2 _ _ htt))) (se _ _ hr4) (qi6 _) tr (by omega) ⟨md.1,fun k=>?_⟩ fun z hz=>?_
    · have:=md.2 k
      rw [qe1] at this
      show m∣co rs k - (co ns k - cvL (qdT ((List.range c).map G)) (co ms) k)
      rw [cq]
      by_cases hk:k<min L ns.length
      · rw [if_pos hk] at this
        have h2:=Int.dvd_add this (hF k (by omega))
        rw [show ∀ x y z:Int,x - y+(y - z)=x - z by intro x y z;omega] at h2
        exact h2
      · rw [if_neg hk] at this
        have h2:=Int.dvd_sub this (hF2 k (by omega))
        rw [show ∀ x y:Int,x - 0 - y=x - y by intro x y;omega] at h2
        exact h2
    · obtain ⟨j,hj,rfl⟩:=List.mem_map.mp (qj1 hz)
      exact bG j (List.mem_range.mp hj)
theorem SDs.tp {H H':Hp} (s:Same H H'):∀ {xs:List V} {rs:List (List Int)},SDs H xs rs→SDs H' xs rs
  | [],[],_=>trivial
  | _::_,_::_,h=>⟨let ⟨p,e,q⟩:=h.1;⟨p,e,s _ _ q⟩,SDs.tp s h.2⟩
  | [],_::_,h=>h.elim
  | _::_,[],h=>h.elim
theorem SD.tp {H H':Hp} (s:Same H H') {p:Addr} {rs:List (List Int)} (h:SD H p rs):SD H' p rs:=let ⟨xs,e,q⟩:=h;⟨xs,s _ _ e,q.tp s⟩
theorem SDs.length {H:Hp}:∀ {xs:List V} {rs:List (List Int)},SDs H xs rs→xs.length=rs.length
  | [],[],_=>rfl
  | _::_,_::_,h=>congrArg (·+1) (SDs.length h.2)
  | [],_::_,h=>h.elim
  | _::_,[],h=>h.elim
theorem SDs.get {H:Hp}:∀ {xs:List V} {rs:List (List Int)} {i:Nat} {v:V},SDs H xs rs→xs[i]?=some v→∃ p r,v=.ref p∧rs[i]?=some r∧H p=some (.lst (r.map V.int))
  | [],[],_,_,_,e=>by simp at e
  | _::_,r::_,0,_,h,e=>by
    simp at e;subst e
    obtain ⟨p,e,q⟩:=h.1
    exact ⟨p,r,e,rfl,q⟩
  | _::_,_::_,i+1,_,h,e=>by
    obtain ⟨p,r,h1,h2,h3⟩:=SDs.get (i:=i) h.2 (by simpa using e)
    exact ⟨p,r,h1,by simpa using h2,h3⟩
  | [],_::_,_,_,h,_=>h.elim
  | _::_,[],_,_,h,_=>h.elim
theorem SDs.snoc {H:Hp} {p:Addr} {r:List Int} (hp:H p=some (.lst (r.map V.int))):∀ {xs:List V} {rs:List (List Int)},SDs H xs rs→SDs H (xs++[.ref p]) (rs++[r])
  | [],[],_=>⟨⟨p,rfl,hp⟩,trivial⟩
  | _::_,_::_,h=>⟨h.1,SDs.snoc hp h.2⟩
  | [],_::_,h=>h.elim
  | _::_,[],h=>h.elim
theorem SD.head {H:Hp} {p:Addr} {r:List Int} {rs:List (List Int)} (h:SD H p (r::rs)):∃ a xs,H p=some (.lst (.ref a::xs))∧H a=some (.lst (r.map V.int))∧SDs H (.ref a::xs) (r::rs):=by
  obtain ⟨xs,e,q⟩:=h
  match xs,q with
  | [],q=>exact q.elim
  | x::xs,q=>
    obtain ⟨a,e1,e2⟩:=q.1
    subst e1
    exact ⟨a,xs,e,e2,q⟩
theorem qee {α:Type} (x:α) (xs:List α):atI (x::xs) 0=some x:=by
  unfold atI ixN
  rw [if_pos (by decide),if_pos (by rw [List.length_cons];omega)]
  rfl
theorem qeM (h:qaQ K vs H Q E):qcU K { nx:=fun _ H'=>Q .non H',rt:=Q } (L2.start ["strand", "shared", "row"] vs) H:=by
  obtain ⟨p,rows,rfl,⟨xs,hp,hS⟩,hl,hr,k⟩:=h
  have lx:=hS.length
  unfold qcU
  rwa []
  refine ⟨⟨_,SqL.of hp⟩,ForL.by (xs:=xs) (fun i σ H'=>∃ (g:Int) (u:Option V),σ=[some (.ref p),some (.int g),u]∧Same H H'∧0≤g∧(∀ r∈rows.take i,∀ z∈r,g∣z)∧(∀ d:Int,(∀ r∈rows.take i,∀ z∈r,d∣z)→d∣g)) ⟨0,none,rfl,Same.refl H,Int.le_refl 0,fun r hr=>(by simp at hr),fun d _=>Int.dvd_zero d⟩ ?_ ?_ ?_⟩
  · rintro i σ H' _ ⟨g,u,rfl,s,_⟩
    exact SqL.of (s _ _ hp)
  · rintro i x σ H' hi ⟨g,u,rfl,s,g0,g1,g2⟩
    obtain ⟨a,r,rfl,hri,ha⟩:=hS.get hi
    have ha':=s _ _ ha
    have hrm:=hr r (List.mem_of_getElem? hri)
    rwa [ha']
    refine ⟨r,rfl,hrm.1,fun g' H2 s2 g0' d1 d2 d3=>?_⟩
    have et:rows.take (i+1)=rows.take i++[r]:=by rw [List.take_add_one,hri];rfl
    refine ⟨s.trans s2,g0',fun r' hr' z hz=>?_,fun d hd=>d3 d ?_ fun z hz=>?_⟩
    · rw [et] at hr'
      rcases List.mem_append.mp hr' with h | h
      · exact Int.dvd_trans d1 (g1 r' h z hz)
      · rw [List.mem_singleton.mp h] at hz;exact d2 z hz
    · exact g2 d fun r' hr' z hz=>hd r' (by rw [et];exact List.mem_append_left _ hr') z hz
    · exact hd r (by rw [et];exact List.mem_append_right _ (List.mem_singleton.mpr rfl)) z hz
  · rintro σ H' ⟨g,u,rfl,s,g0,g1,g2⟩
    rw [lx,List.take_length] at g1 g2
    have hp':=s _ _ hp
    have gz:∀ r∈rows,0<g∨r=[]:=fun r hrr=>by
      rcases Int.lt_or_le 0 g with h | h
      · exact .inl h
      · right
        have ge:g=0:=by omega
        rcases (hr r hrr).2 with h | h
        · exact h
        · exfalso
          by_cases hl0:r.length=0
          · rw [qaw (by omega)] at h;exact h rfl
          · have:=g1 r hrr (co r (r.length - 1)) (by
              unfold co
              rw [List.getD_eq_getElem?_getD,List.getElem?_eq_getElem (by omega)]
              exact List.getElem_mem _)
            rw [ge] at this
            exact h (Int.zero_dvd.mp this)
    rwa []
    refine ⟨⟨_,SqL.of hp'⟩,CompJ.lst (xs:=xs) (fun i ys H2=>i≤rows.length∧Same H H2∧SDs H2 ys ((rows.take i).map fun r=>r.map (· / g))) ⟨Nat.zero_le _,s,trivial⟩ ?_ ?_ ?_⟩
    · rintro i ys H2 ⟨h1,s2,hy⟩
      refine ⟨by omega,sz ?_,SqL.of (s2 _ _ hp)⟩
      rw [hy.length,List.length_map,List.length_take];omega
    · rintro i x ys H2 hi ⟨h1,s2,hy⟩
      obtain ⟨a,r,rfl,hri,ha⟩:=hS.get hi
      have ha':=s2 _ _ ha
      have hrm:=hr r (List.mem_of_getElem? hri)
      have hi2:i<rows.length:=(List.getElem?_eq_some_iff.mp hri).1
      rwa [ha']
      refine ⟨r,rfl,gz r (List.mem_of_getElem? hri),hrm.1,fun t ht=>?_⟩
      refine ⟨by omega,s2.trans (qag ht _),?_⟩
      have et:(rows.take (i+1)).map (fun r=>r.map (· / g))=(rows.take i).map (fun r=>r.map (· / g))++[r.map (· / g)]:=by rw [List.take_add_one,hri];simp
      rw [et]
      exact SDs.snoc qai (hy.tp (qag ht _))
    · rintro ys H2 ⟨_,s2,hy⟩ t ht
      rw [lx,List.take_length] at hy
      have st:=qag ht (HO.lst ys)
      by_cases gp:0<g
      · refine k t _ _ (s2.trans st) ⟨ys,qai,hy.tp st⟩ ⟨g,gp,?_⟩ (.inr fun d hd=>?_)
        · rw [List.map_map]
          conv=>lhs;rw [← List.map_id rows]
          refine List.map_congr_left fun r hrr=>?_
          show r=(r.map (· / g)).map (g*·)
          rw [List.map_map]
          conv=>lhs;rw [← List.map_id r]
          refine List.map_congr_left fun z hz=>?_
          show z=g*(z / g)
          rw [Int.mul_ediv_cancel' (g1 r hrr z hz)]
        · have hdg:d*g∣g:=g2 (d*g) fun r hrr z hz=>by
            have h1:=hd (r.map (· / g)) (List.mem_map.mpr ⟨r,hrr,rfl⟩) (z / g) (List.mem_map.mpr ⟨z,hz,rfl⟩)
            obtain ⟨c,hc⟩:=h1
            refine ⟨c,?_⟩
            have:=Int.mul_ediv_cancel' (g1 r hrr z hz)
            rw [← this,hc];grind
          obtain ⟨c,hc⟩:=hdg
          have e:g*(d*c)=g*1:=by rw [Int.mul_one];conv=>rhs;rw [hc]
                                 grind
          have e1:=Int.eq_of_mul_eq_mul_left (by omega) e
          have:d.natAbs*c.natAbs=1:=by rw [← Int.natAbs_mul,e1];rfl
          exact Nat.eq_one_of_mul_eq_one_right this
      · have ge:∀ r∈rows,r=[]:=fun r hrr=>by
          rcases gz r hrr with h | h
          · exact absurd h gp
          · exact h
        have em:rows.map (fun r=>r.map (· / g))=rows:=by
          conv=>rhs;rw [← List.map_id rows]
          refine List.map_congr_left fun r hrr=>?_
          rw [ge r hrr];rfl
        rw [em] at hy
        refine k t rows _ (s2.trans st) ⟨ys,qai,hy.tp st⟩ ⟨1,by decide,?_⟩ (.inl ge)
        conv=>lhs;rw [← List.map_id rows]
        refine List.map_congr_left fun r hrr=>?_
        rw [ge r hrr];rfl
theorem qqZ {r:List Int} (h:∀ d:Int,(∀ z∈r,d∣z)→d.natAbs=1):Prim r:=fun c hc=>h c fun z hz=>by
  obtain ⟨i,hi,rfl⟩:=List.getElem_of_mem hz
  have:=hc i
  unfold co at this
  rw [List.getD_eq_getElem?_getD,List.getElem?_eq_getElem hi] at this
  exact this
theorem qgt (h:qaO K vs H Q E):qdZ K { nx:=fun _ H'=>Q .non H',rt:=Q } (L2.start ["row"] vs) H:=by
  obtain ⟨p,ns,rfl,hp,hl,tz,k⟩:=h
  unfold qdZ
  rwa []
  refine ⟨sz (by decide),fun a ha=>?_⟩
  have sa:=qag ha (HO.lst [V.ref p])
  refine ⟨[ns],⟨[V.ref p],qai,⟨⟨p,rfl,sa _ _ hp⟩,trivial⟩⟩,by simp,?_,fun t rows' H' s' hSD hSh hP=>?_⟩
  · intro r hr
    rw [List.mem_singleton.mp hr]
    exact ⟨hl,tz⟩
  obtain ⟨g,g0,eg⟩:=hSh
  match rows',eg,hSD,hP with
  | [ms],eg,hSD,hP=>
    obtain ⟨b,xs,h1,h2,_⟩:=hSD.head
    have eg':ns=ms.map (g*·):=by simpa using eg
    refine ⟨_,h1,_,qee _ _,k b ms g H' (sa.trans s') h2 g0 eg' ?_⟩
    rcases hP with h | h
    · left;rw [eg',h ms (List.mem_singleton.mpr rfl)];rfl
    · right
      exact qqZ fun d hd=>h d fun r hr z hz=>by rw [List.mem_singleton.mp hr] at hz;exact hd z hz
  | [],eg,_,_=>simp at eg
  | _::_::_,eg,_,_=>simp at eg
theorem qsh {n:Nat} {a:List Int} (h:∀ k,Bd n (co a k)):∀ z∈a,Bd n z:=fun z hz=>by
  obtain ⟨i,hi,rfl⟩:=List.getElem_of_mem hz
  have:=h i
  unfold co at this
  rw [List.getD_eq_getElem?_getD,List.getElem?_eq_getElem hi] at this
  exact this
theorem qi9 (g:Int) (a:List Int) (k:Nat):co (a.map (g*·)) k=g*co a k:=qlO (F:=(g*·)) (by omega) a k
theorem qkT {g:Int} (g0:g≠0) {a:List Int} (h:Tz (a.map (g*·))):Tz a:=by
  rcases h with h | h
  · left;exact List.map_eq_nil_iff.mp h
  · right
    rw [qi9,List.length_map] at h
    exact fun z=>h (by rw [z];omega)
theorem qkU {n:Nat} {g:Int} (g0:0<g) {a:List Int} (h:∀ z∈a.map (g*·),Bd n z):∀ z∈a,Bd n z:=fun z hz=>(h (g*z) (List.mem_map.mpr ⟨z,hz,rfl⟩)).le (by
  rw [Int.natAbs_mul]
  exact Nat.le_mul_of_pos_left _ (by omega))
theorem ZipR.mono {R R':List Int→List Int→List Int→Prop} (h:∀ a b c,R a b c→R' a b c):∀ {A B C:List (List Int)},ZipR R A B C→ZipR R' A B C
  | [],[],[],_=>trivial
  | _::_,_::_,_::_,z=>⟨h _ _ _ z.1,ZipR.mono h z.2⟩
  | [],[],_::_,z=>z.elim
  | [],_::_,_,z=>z.elim
  | _::_,[],_,z=>z.elim
  | _::_,_::_,[],z=>z.elim
theorem ZipR.len {R:List Int→List Int→List Int→Prop}:∀ {A B C:List (List Int)},ZipR R A B C→C.length=A.length∧B.length=A.length
  | [],[],[],_=>⟨rfl,rfl⟩
  | _::_,_::_,_::_,z=>⟨congrArg (·+1) (ZipR.len z.2).1,congrArg (·+1) (ZipR.len z.2).2⟩
  | [],[],_::_,z=>z.elim
  | [],_::_,_,z=>z.elim
  | _::_,[],_,z=>z.elim
  | _::_,_::_,[],z=>z.elim
theorem ZipR.snoc {R:List Int→List Int→List Int→Prop} {a b c:List Int} (h:R a b c):∀ {A B C:List (List Int)},ZipR R A B C→ZipR R (A++[a]) (B++[b]) (C++[c])
  | [],[],[],_=>⟨h,trivial⟩
  | _::_,_::_,_::_,z=>⟨z.1,ZipR.snoc h z.2⟩
  | [],[],_::_,z=>z.elim
  | [],_::_,_,z=>z.elim
  | _::_,[],_,z=>z.elim
  | _::_,_::_,[],z=>z.elim
theorem ZipR.right {R:List Int→List Int→List Int→Prop} (h:∀ a b,R a b b):∀ {A B:List (List Int)},A.length=B.length→ZipR R A B B
  | [],[],_=>trivial
  | _::_,_::_,e=>⟨h _ _,ZipR.right h (by simpa using e)⟩
  | [],_::_,e=>by simp at e
  | _::_,[],e=>by simp at e
theorem ZipR.map {R R':List Int→List Int→List Int→Prop} {F:List Int→List Int} (h:∀ a b c,R a b (F c)→R' a b c):∀ {A B C:List (List Int)},ZipR R A B (C.map F)→ZipR R' A B C
  | [],[],[],_=>trivial
  | _::_,_::_,_::_,z=>⟨h _ _ _ z.1,ZipR.map h z.2⟩
  | [],[],_::_,z=>z.elim
  | [],_::_,_,z=>z.elim
  | _::_,[],_,z=>z.elim
  | _::_,_::_,[],z=>z.elim
theorem qti {a b:Int} (hb:b≠0) (h:a∣b):a.natAbs≤b.natAbs:=Nat.le_of_dvd (by omega) (Int.natAbs_dvd_natAbs.mpr h)
theorem qh0 (h:qbt K vs H Q E):qfc K { nx:=fun _ H'=>Q .non H',rt:=Q } (L2.start ["strand", "other", "shift", "top", "lead", "shared", "factor", "weight"] vs) H:=by
  obtain ⟨p,q,o,rfl,hS,hO,o0,k⟩:=h
  obtain ⟨ac,xc,hp,hac,_⟩:=hS.head
  obtain ⟨ao,xo,hq,hao,_⟩:=hO.head
  have A1:atI (V.ref ac::xc) 0=some (V.ref ac):=qee _ _
  have A2:atI (V.ref ao::xo) 0=some (V.ref ao):=qee _ _
  unfold qfc
  rwa []
  refine while_by (fun n σ H'=>σ=[some (.ref p),some (.ref q),none,none,none,none,none,none]∧H'=H∧n=0) 0 ⟨rfl,rfl,rfl⟩ ?_
  rintro n σ H' ⟨rfl,rfl,rfl⟩
  rwa [hp,hq,hac,hao,A1,A2]
  refine qbM (fun c=>by rw [List.length_map] at c;exfalso;omega) (fun _=>?_)
  unfold qdY
  rwa []
  refine ⟨[[]],hS,by decide,(fun r hr=>by rw [List.mem_singleton.mp hr];exact ⟨by decide,.inl rfl⟩),fun t rows H1 s1 hSD sh _=>k t H1 s1 ?_⟩
  obtain ⟨g,_,e⟩:=sh
  have l1:rows.length=1:=by have:=congrArg List.length e;simpa using this.symm
  obtain ⟨r,rfl⟩:∃ r,rows=[r]:=List.length_eq_one_iff.mp l1
  have e:[]=r.map (g*·):=List.head_eq_of_cons_eq e
  rw [List.map_eq_nil_iff.mp e.symm] at hSD
  exact hSD
theorem qmo {a:List Int} (h:Tz a) (ne:a≠[]):Lz a:=by
  refine ⟨List.length_pos_iff.mpr ne,?_⟩
  rcases h with e | e
  · exact absurd e ne
  · exact e
theorem qgu (h:qaX K vs H Q E):qd0 K { nx:=fun _ H'=>Q .non H',rt:=Q } (L2.start ["strand", "other", "rest"] vs) H:=by
  obtain ⟨p,q,s,o,rfl,hS,hO,em,k⟩:=h
  unfold qd0
  rwa []
  refine while_by (fun n σ H'=>(σ=[some (.ref p),some (.ref q),none]∧H'=H∧n=1)∨∃ (t:Addr) (u:Option V),σ=[some (.ref q),some (.ref t),u]∧Same H H'∧SD H' t [[]]∧o≠[]∧n=0) 1 (.inl ⟨rfl,rfl,rfl⟩) ?_
  rintro n σ H' (⟨rfl,rfl,rfl⟩ | ⟨t,u,rfl,sH,hT,o0,rfl⟩)
  · obtain ⟨ao,xo,hq,hao,_⟩:=hO.head
    have A2:atI (V.ref ao::xo) 0=some (V.ref ao):=qee _ _
    rwa [hq,hao,A2]
    by_cases oe:o=[]
    · refine qbM (fun c=>absurd oe (by simpa using c)) (fun _=>?_)
      rw [if_pos oe] at k
      exact k p _ (Same.refl _) hS
    · refine qbM (fun _=>?_) (fun c=>absurd (by simpa using c) oe)
      have se:s=[]:=by
        rcases em with z | z
        · exact z
        · exact absurd z oe
      rw [if_neg oe] at k
      refine ⟨fun σ' H''=>∃ m',m'<1∧_,fun _ _ h=>h,?_⟩
      rwa [hq,hao,A2]
      refine qbM (fun _=>k q _ (Same.refl _) hO) (fun _=>?_)
      refine ⟨by rw [← se];exact hS,o,hO,List.length_pos_iff.mpr oe,fun t H1 s1 hT=>?_⟩
      exact ⟨0,by decide,.inr ⟨s1,hT,oe,rfl⟩⟩
  · obtain ⟨at',xt,ht,hat,_⟩:=hT.head
    have A2:atI (V.ref at'::xt) 0=some (V.ref at'):=qee _ _
    rwa [ht,hat,A2]
    refine qbM (fun c=>absurd c (by simp)) (fun _=>?_)
    rw [if_neg o0] at k
    exact k q _ sH (hO.tp sH)
theorem qof {b n c:Nat} {r a g:List Int} (hr:∀ z∈r,Bd b z) (rl:r.length≤n) (hn:n<2 ^ c) (lg:Lz g) (h:∀ k,co r k=cvL a (co g) k):∀ k,Bd (b+n*(2*c+4)) (co a k):=by
  rcases qhT a with z | ⟨a',la,_,ea⟩
  · intro k;rw [z k];exact qez _
  have h':∀ k,co r k=cvL g (co a') k:=fun k=>by rw [h k,qbe,qan (fun k=>(ea k).symm) g k]
  have t:co r (a'.length - 1+(g.length - 1))≠0:=by rw [h',qbe,qft la lg];exact Int.mul_ne_zero la.2 lg.2
  have al:a'.length≤r.length:=by
    rcases Nat.lt_or_ge (a'.length - 1+(g.length - 1)) r.length with c | c
    · have:=la.1;omega
    · exact absurd (qaw c) t
  intro k
  rw [← ea k]
  exact qfS hr ⟨_,t⟩ rl (Nat.le_trans al rl) hn h' k
theorem qq0 {G S:List Int} (lG:Lz G) (h:∀ k,cvL S (co G) k=0) (k:Nat):co S k=0:=(qod lG (T:=0) fun k _=>h k).1 k (Nat.zero_le k)
theorem Gen.Prim {r o:Nat→Int} {g:List Int} (G:Gen r o g):Prim g:=fun c hc=>by
  rcases Nat.lt_or_ge c.natAbs 2 with h | h
  · rcases Nat.eq_zero_or_pos c.natAbs with z | z
    · exfalso
      have c0:c=0:=by omega
      have:=hc (g.length - 1)
      rw [c0] at this
      exact G.lz.2 (Int.zero_dvd.mp this)
    · omega
  · exfalso
    obtain ⟨n,hn,_⟩:=G.prim h
    exact hn (Int.natAbs_dvd.mpr (hc n))
theorem qq1 {R O A B G:List Int} (lG:Lz G) (hA:∀ k,co R k=cvL A (co G) k) (hB:∀ k,co O k=cvL B (co G) k) (q:QI (co R) (co O) (co G)):QI (co A) (co B) qbZ:=by
  obtain ⟨d,d0,U,V,h⟩:=q
  refine ⟨d,d0,U,V,fun k=>?_⟩
  have z:=qq0 (S:=qaI (qaI (qaF U A) (qaF V B)) [-d]) lG (fun k=>by
    rw [qav,qav,qar,qar,← qan hA,← qan hB]
    have:=h k
    have e:cvL [-d] (co G) k = -d*co G k:=by
      cases k with
      | zero=>rw [qam];omega
      | succ k=>rw [qal,qaB];omega
    rw [e,Int.neg_mul,this];omega) k
  rw [qaK,qav,qav,qar,qar,← qan (qaK A),← qan (qaK B)] at z
  have e:cvL [-d] qbZ k = -d*qbZ k:=by
    cases k with
    | zero=>rw [qam];omega
    | succ k=>rw [qal,qaB];omega
  rw [e,Int.neg_mul] at z
  omega
theorem qpu (p:Nat) (p0:0<p) (S:List Int):(∀ k,(p:Int)∣co S k)∨∃ T,Lz T∧(∀ k,(p:Int)∣co S k - co T k)∧¬ (p:Int)∣co T (T.length - 1):=by
  have cm:∀ k,co (S.map (· % (p:Int))) k=co S k % (p:Int):=fun k=>qlO (F:=(· % (p:Int))) (Int.zero_emod _) S k
  rcases qhT (S.map (· % (p:Int))) with z | ⟨T,lT,_,eT⟩
  · exact .inl fun k=>Int.dvd_of_emod_eq_zero (by rw [← cm k];exact z k)
  · refine .inr ⟨T,lT,fun k=>?_,fun h=>?_⟩
    · rw [eT,cm]
      exact ⟨co S k / p,by have:=Int.emod_add_mul_ediv (co S k) p;omega⟩
    · have h1:=eT (T.length - 1)
      rw [cm] at h1
      have b1:=Int.emod_nonneg (co S (T.length - 1)) (show (p:Int)≠0 by omega)
      have b2:=Int.emod_lt_of_pos (co S (T.length - 1)) (show (0:Int)<p by omega)
      have:=lT.2
      have l:=Int.le_of_dvd (by omega) h
      omega
theorem cvT {p:Int} {S T:List Int} {g:Nat→Int} {n:Nat} (hg:∀ i,n≤i→g i=0) (h:∀ k,p∣co S k - co T k) (k:Nat):p∣cvL S g k - cvL T g k:=by
  have e:∀ k,g k=co ((List.range n).map g) k:=fun k=>by
    rw [qe1];split
    · rfl
    · exact hg k (by omega)
  rw [qan e,qan e,qbe,qbe T]
  have:=cvD (S:=[1]) (f:=co S) (g:=co T) (fun k=>by
    have e1:cvL [1] (co T) k=co T k:=by
      cases k with
      | zero=>rw [qam];omega
      | succ k=>rw [qal,qaB];omega
    rw [e1];exact h k) ((List.range n).map g) k
  rwa [qan (b:=cvL [1] (co T)) (c:=co T) (fun k=>by
    cases k with
    | zero=>rw [qam];omega
    | succ k=>rw [qal,qaB];omega)] at this
theorem qog {p:Nat} (hp:Pr p) {R A G rs T:List Int} (hA:∀ k,co R k=cvL A (co G) k) (lG:Lz G) (pG:¬ (p:Int)∣co G (G.length - 1)) (hT:∀ k,(p:Int)∣co rs k - cvL T (co G) k) (d:Dm (p:Int) (co rs) (co R)):Dm (p:Int) (co T) (co A):=by
  obtain ⟨X,hX⟩:=d
  refine ⟨X,fun k=>?_⟩
  have z:=qe0 hp pG (fun i hi=>by rw [qaw (by omega)];exact Int.dvd_zero _) (qaI A ((qaF X T).map ((-1)*·))) (fun k _=>by
    rw [qav,qaq,qar,← hA]
    have h1:=hX k
    have h2:=cvD hT X k
    have:=Int.dvd_add h1 h2
    refine Int.dvd_trans this (qpq ?_)
    omega)
  have e:co A k - cvL X (co T) k=co (qaI A ((qaF X T).map ((-1)*·))) k:=by
    rw [qaK (qaI A _),qav,qaq,qar,← qaK,← qan (qaK T)];omega
  rw [e]
  exact qpo z k
theorem qq2 {x e c n p N:Nat} (hx:x<2 ^ (c+1)) (hN:N≤2*(n - 1)) (big:2 ^ ((e+c+2)*(2*(n - 1)))<p):(2*(x*2 ^ e)) ^ N<p:=by
  have h1:2*(x*2 ^ e)≤2 ^ (e+c+2):=by
    have:x*2 ^ e≤2 ^ (c+1)*2 ^ e:=Nat.mul_le_mul_right _ (Nat.le_of_lt hx)
    have e2:2 ^ (e+c+2)=2*(2 ^ (c+1)*2 ^ e):=by rw [← Nat.pow_add,show e+c+2=(c+1+e)+1 by omega,Nat.pow_succ];omega
    omega
  refine Nat.lt_of_le_of_lt ?_ big
  rw [Nat.pow_mul]
  exact Nat.le_trans (Nat.pow_le_pow_left h1 N) (Nat.pow_le_pow_right (Nat.pow_pos (by decide)) hN)
theorem qkV {ns ms rs gs G:List Int} {p d n c e:Nat} {lead:Int} (hp:Pr p) (ln:Lz ns) (lm:Lz ms) (bn:∀ z∈ns,Bd d z) (bm:∀ z∈ms,Bd d z) (nn:ns.length≤n) (mn:ms.length≤n) (hc:n<2 ^ c) (n2:2≤n) (he:e=d+n*(2*c+4)) (big:2 ^ ((e+c+2)*(2*(n - 1)))<p)
    (hld:((Int.gcd (co ns (ns.length - 1)) (co ms (ms.length - 1)):Nat):Int)=lead) (hG:Gen (co ns) (co ms) G) (r0:0<rs.length) (one:co rs (rs.length - 1)=1) (glen:G.length≤rs.length) (pG:¬ (p:Int)∣co G (G.length - 1)) (dG:Dm (p:Int) (co G) (co rs)) (dn:Dm (p:Int) (co rs) (co ns)) (dm:Dm (p:Int) (co rs) (co ms))
    (gl:gs.length=rs.length) (hg:∀ k,k<rs.length→(p:Int)∣co gs k - lead*co rs k) (hb:∀ z∈gs,2*z.natAbs≤p):MQ (co gs) (co ns)∧MQ (co gs) (co ms):=by
  have p2:=hp.two
  have P:=hG.Prim
  have lG:=hG.lz
  obtain ⟨A,hA⟩:=gauss P hG.rc.left
  obtain ⟨B,hB⟩:=gauss P hG.rc.right
  have bA:=qof bn nn hc lG hA
  have bB:=qof bm mn hc lG hB
  have bG:∀ k,Bd e (co G k):=by
    rw [he]
    exact qfS bn ⟨_,ln.2⟩ nn (Nat.le_trans (qlJ lG ln hG.rc.left) nn) hc hA
  rw [← he] at bA bB
  have n0:1≤n:=by have:=ln.1;omega
  have cop:=qq1 lG hA hB hG.qi
  obtain ⟨S,hS⟩:=dG
  have p0:0<p:=by omega
  have one':¬ (p:Int)∣(1:Int):=fun z=>by have:=Int.le_of_dvd (by decide) z;omega
  rcases qpu p p0 S with z | ⟨T,lT,hT,pT⟩
  · exfalso
    have h1:=hS (rs.length - 1)
    have h2:=cvT (p:=(p:Int)) (S:=S) (T:=[]) (g:=co G) (n:=G.length) (fun i hi=>qaw hi) (fun k=>by rw [qaw (a:=[]) (Nat.zero_le _),Int.sub_zero];exact z k) (rs.length - 1)
    rw [one] at h1
    rw [qaB,Int.sub_zero] at h2
    have:=Int.dvd_add h1 h2
    rw [Int.sub_add_cancel] at this
    exact one' this
  have hTr:∀ k,(p:Int)∣co rs k - cvL T (co G) k:=fun k=>by
    have:=Int.dvd_add (hS k) (cvT (fun i hi=>qaw hi) hT k (g:=co G) (n:=G.length))
    refine Int.dvd_trans this (qpq ?_)
    omega
  have t0:=lT.1
  have g0:=lG.1
  have tl:T.length+G.length=rs.length+1:=by
    have tp:=qft lT lG
    have np:¬ (p:Int)∣co T (T.length - 1)*co G (G.length - 1):=fun z=>by
      rcases hp.mulI z with q | q
      · exact pT q
      · exact pG q
    have h1:=hTr (T.length - 1+(G.length - 1))
    rw [tp] at h1
    have c1:T.length - 1+(G.length - 1)<rs.length:=by
      rcases Nat.lt_or_ge (T.length - 1+(G.length - 1)) rs.length with c | c
      · exact c
      · exfalso
        rw [qaw c,Int.zero_sub] at h1
        exact np (Int.dvd_neg.mp h1)
    have h2:=hTr (rs.length - 1)
    rw [one] at h2
    rcases Nat.lt_or_ge (T.length - 1+(G.length - 1)) (rs.length - 1) with c | c
    · exfalso
      rw [qbA (n:=G.length) (fun i hi=>qaw hi) T _ (by omega),Int.sub_zero] at h2
      exact one' h2
    · omega
  have dTA:=qog hp hA lG pG hTr dn
  have dTB:=qog hp hB lG pG hTr dm
  have trimmed:∀ {R A:List Int},Lz R→R.length≤n→(∀ k,co R k=cvL A (co G) k)→(∀ k,Bd e (co A k))→∃ A',Lz A'∧A'.length≤n∧co A'=co A:=fun {R A} lR Rn h _=>by
    rcases qhT A with z | ⟨A',la,_,ea⟩
    · exact absurd (by rw [h,qbe,qb8 G z]) lR.2
    · refine ⟨A',la,?_,funext ea⟩
      have t:co R (A'.length - 1+(G.length - 1))≠0:=by
        rw [h,qbe,qan (fun k=>(ea k).symm) G,← qbe,qft la lG];exact Int.mul_ne_zero la.2 lG.2
      rcases Nat.lt_or_ge (A'.length - 1+(G.length - 1)) R.length with c | c
      · have:=la.1;omega
      · exact absurd (qaw c) t
  obtain ⟨A',lA,An,eA⟩:=trimmed ln nn hA bA
  obtain ⟨B',lB,Bn,eB⟩:=trimmed lm mn hB bB
  have big1:2 ^ e<p:=Nat.lt_of_le_of_lt (Nat.pow_le_pow_right (by decide) (by
    have:(e+c+2)*1≤(e+c+2)*(2*(n - 1)):=Nat.mul_le_mul_left _ (by omega)
    omega)) big
  have T1:T.length=1:=by
    rcases Nat.lt_or_ge T.length 2 with cT | cT
    · omega
    · exfalso
      have short:∀ {A:List Int},Lz A→(∀ k,Bd e (co A k))→Dm (p:Int) (co T) (co A)→2≤A.length:=fun {A} lA bA dA=>by
        have:=Dm.len hp t0 pT dA ⟨A.length - 1,fun z=>by
          have h1:=bA (A.length - 1)
          have h2:=Int.natAbs_dvd_natAbs.mpr z
          have h3:=Nat.le_of_dvd (by have:=lA.2;omega) h2
          rw [Int.natAbs_natCast] at h3
          have:(co A (A.length - 1)).natAbs<2 ^ e:=h1
          omega⟩
        omega
      have a2:=short lA (fun k=>by rw [eA];exact bA k) (by rw [eA];exact dTA)
      have b2:=short lB (fun k=>by rw [eB];exact bB k) (by rw [eB];exact dTB)
      refine lucky hp lA lB (by rw [eA,eB];exact cop) (fun k=>by rw [eA];exact bA k) (fun k=>by rw [eB];exact bB k) a2 b2 cT pT (by rw [eA];exact dTA) (by rw [eB];exact dTB) (qq2 (x:=A'.length+B'.length) (c:=c) (n:=n) ?_ (by omega) big)
      rw [Nat.pow_succ];omega
  obtain ⟨s,rfl⟩:∃ s,T=[s]:=by
    match T,T1 with
    | [s],_=>exact ⟨s,rfl⟩
  have hrs:∀ k,(p:Int)∣co rs k - s*co G k:=fun k=>by
    have:=hTr k
    have e1:cvL [s] (co G) k=s*co G k:=by
      cases k with
      | zero=>rw [qam];omega
      | succ k=>rw [qal,qaB];omega
    rwa [e1] at this
  have lr:G.length=rs.length:=by simp at tl;omega
  have lcd:∀ {R A:List Int},(∀ k,co R k=cvL A (co G) k)→Lz R→co G (G.length - 1)∣co R (R.length - 1):=fun {R A} h lR=>by
    rcases qhT A with z | ⟨A',la,_,ea⟩
    · exact absurd (by rw [h,qbe,qb8 G z]) lR.2
    · have hh:∀ k,co R k=cvL A' (co G) k:=fun k=>by rw [h,qbe,qan (fun k=>(ea k).symm) G,← qbe]
      have tp:=qft la lG
      have a0:=la.1
      have rl:R.length - 1=A'.length - 1+(G.length - 1):=by
        rcases Nat.lt_trichotomy (R.length - 1) (A'.length - 1+(G.length - 1)) with c | c | c
        · exfalso
          have:=hh (A'.length - 1+(G.length - 1))
          rw [qaw (by have:=lR.1;omega),tp] at this
          exact Int.mul_ne_zero la.2 lG.2 this.symm
        · exact c
        · exfalso
          have:=hh (R.length - 1)
          rw [qbA (n:=G.length) (fun i hi=>qaw hi) A' _ (by omega)] at this
          exact lR.2 this
      rw [rl,hh,tp]
      exact Int.dvd_mul_left _ _
  obtain ⟨t,ht⟩:co G (G.length - 1)∣lead:=by rw [← hld];exact Int.dvd_coe_gcd (lcd hA ln) (lcd hB lm)
  have lead0:lead≠0:=fun z=>by
    rw [← hld] at z
    have:Int.gcd (co ns (ns.length - 1)) (co ms (ms.length - 1))=0:=by omega
    exact ln.2 (Int.gcd_eq_zero_iff.mp this).1
  have t0':t≠0:=fun z=>lead0 (by rw [ht,z,Int.mul_zero])
  have bt:t.natAbs<2 ^ d:=by
    have h1:lead∣co ns (ns.length - 1):=by rw [← hld];exact Int.gcd_dvd_left ..
    have h2:=Int.dvd_trans (show t∣lead from ⟨co G (G.length - 1),by rw [ht,Int.mul_comm]⟩) h1
    have h3:=Nat.le_of_dvd (by have:=ln.2;omega) (Int.natAbs_dvd_natAbs.mpr h2)
    have h4:(co ns (ns.length - 1)).natAbs<2 ^ d:=qbc bn _
    omega
  have egs:∀ k,co gs k=t*co G k:=fun k=>by
    rcases Nat.lt_or_ge k rs.length with ck | ck
    · have h1:=hg k ck
      have h2:=hrs k
      have h3:=hrs (rs.length - 1)
      rw [one,← lr] at h3
      have dv:(p:Int)∣co gs k - t*co G k:=by
        have q1:(p:Int)∣lead*(co rs k - s*co G k):=Int.dvd_mul_of_dvd_right h2
        have q2:(p:Int)∣(t*co G k)*(1 - s*co G (G.length - 1)):=Int.dvd_mul_of_dvd_right h3
        have:=Int.dvd_sub (Int.dvd_add h1 q1) q2
        refine Int.dvd_trans this (qpq ?_)
        rw [ht]
        grind
      have b1:2*(co gs k).natAbs≤p:=by
        have:co gs k∈gs:=by
          unfold co
          rw [List.getD_eq_getElem?_getD,List.getElem?_eq_getElem (by omega)]
          exact List.getElem_mem _
        exact hb _ this
      have b2:2*(t*co G k).natAbs<p:=by
        rw [Int.natAbs_mul]
        have h5:t.natAbs*(co G k).natAbs≤2 ^ d*2 ^ e:=Nat.mul_le_mul (Nat.le_of_lt bt) (Nat.le_of_lt (bG k))
        have h6:2*(2 ^ d*2 ^ e)≤2 ^ ((e+c+2)*(2*(n - 1))):=by
          rw [← Nat.pow_add,show 2*2 ^ (d+e)=2 ^ (d+e+1) by rw [Nat.pow_succ];omega]
          refine Nat.pow_le_pow_right (by decide) ?_
          have:(e+c+2)*2≤(e+c+2)*(2*(n - 1)):=Nat.mul_le_mul_left _ (by omega)
          omega
        omega
      obtain ⟨y,hy⟩:=dv
      have ab:(co gs k - t*co G k).natAbs<p:=by omega
      rcases Int.lt_trichotomy y 0 with z | z | z
      · have:(p:Int)*y≤(p:Int)*(-1):=Int.mul_le_mul_of_nonneg_left (by omega) (by omega)
        omega
      · rw [z] at hy;omega
      · have:(p:Int)*1≤(p:Int)*y:=Int.mul_le_mul_of_nonneg_left (by omega) (by omega)
        omega
    · rw [qaw (by omega),qaw (a:=G) (by omega)];omega
  have fin:∀ {R A:List Int},(∀ k,co R k=cvL A (co G) k)→MQ (co gs) (co R):=fun {R A} h=>⟨t,t0',A,fun k=>by rw [qan egs,qbf,h k]⟩
  exact ⟨fin hA,fin hB⟩
theorem qlP {g f:List Int} {A:List Int} (h:∀ k,co f k=cvL A (co g) k):MQ (co g) (co f):=⟨1,by decide,A,fun k=>by rw [← h k];omega⟩
theorem qfv (h:qaW K vs H Q E):qdh K { nx:=fun _ H'=>Q .non H',rt:=Q } (L2.start ["row", "other", "prime", "lead", "found", "guess"] vs) H:=by
  obtain ⟨a,b,ns,ms,p,d,nn,cc,rfl,ha,hb,pp,bp,ln,lm,bn,bm,dn,dm,nn1,nn2,nc,nn0,kN,kR⟩:=h
  have p2:(2:Int)≤(p:Int):=by have:=pp.two;omega
  unfold qdh
  have an:=qbW ln.1
  have am:=qbW lm.1
  rwa [ha,hb,an,am]
  generalize hld:((Int.gcd (co ns (ns.length - 1)) (co ms (ms.length - 1)):Nat):Int)=lead
  have ld1:lead∣co ns (ns.length - 1):=by rw [← hld];exact Int.gcd_dvd_left ..
  have bl:Bd d lead:=(qbc bn (ns.length - 1)).le (qti ln.2 ld1)
  refine ⟨by omega,qbM (fun c=>?_) (fun c=>?_)⟩
  · refine kN (fun bg=>?_) _ (Same.refl H)
    have bl':lead.natAbs<2 ^ d:=bl
    have z:=Int.dvd_of_emod_eq_zero (show lead % (p:Int)=0 by simpa using c)
    have l0:lead≠0:=fun z=>by
      rw [← hld] at z
      have:Int.gcd (co ns (ns.length - 1)) (co ms (ms.length - 1))=0:=by omega
      exact ln.2 (Int.gcd_eq_zero_iff.mp this).1
    have h3:=Nat.le_of_dvd (by omega) (Int.natAbs_dvd_natAbs.mpr z)
    rw [Int.natAbs_natCast] at h3
    have:2 ^ d≤2 ^ ((d+nn*(2*cc+4)+cc+2)*(2*(nn - 1))):=by
      refine Nat.pow_le_pow_right (by decide) ?_
      have:(d+nn*(2*cc+4)+cc+2)*1≤(d+nn*(2*cc+4)+cc+2)*(2*(nn - 1)):=Nat.mul_le_mul_left _ (by omega)
      omega
    have bg:2 ^ ((d+nn*(2*cc+4)+cc+2)*(2*(nn - 1)))<p:=bg
    omega
  have pl:¬ (p:Int)∣lead:=fun z=>c (by rw [Int.emod_eq_zero_of_dvd z])
  have hnl:¬ (p:Int)∣co ns (ns.length - 1)∨¬ (p:Int)∣co ms (ms.length - 1):=by
    by_cases h1:(p:Int)∣co ns (ns.length - 1)
    · right
      intro h2
      exact pl (by rw [← hld];exact Int.dvd_coe_gcd h1 h2)
    · exact .inl h1
  refine ⟨ns,ms,p,rfl,rfl,rfl,pp,bp,by omega,by omega,?_,fun s rs H1 s1 hs r0 rl one br hD dvn dvm=>?_⟩
  · rcases hnl with h | h
    · exact .inl ⟨_,h⟩
    · exact .inr ⟨_,h⟩
  refine ⟨⟨_,SqL.of hs⟩,CompJ.lst (xs:=rs.map V.int) (fun i ys H'=>i≤rs.length∧H'=H1∧∃ gs:List Int,ys=gs.map V.int∧gs.length=i∧(∀ k,k<i→(p:Int)∣co gs k - lead*co rs k)∧∀ z∈gs,Bd 45000 z∧2*z.natAbs≤p) ⟨Nat.zero_le _,rfl,[],rfl,rfl,fun k hk=>absurd hk (by omega),fun z hz=>nomatch hz⟩ ?_ ?_ ?_⟩
  · rintro i ys H' ⟨h1,rfl,gs,rfl,gl,_⟩
    exact ⟨by rw [List.length_map];exact h1,sz (by rw [List.length_map];omega),SqL.of hs⟩
  · rintro i x ys H' hi ⟨h1,rfl,gs,rfl,gl,hg,bg⟩
    rw [List.getElem?_map] at hi
    cases e:rs[i]? with
    | none=>rw [e] at hi;cases hi
    | some n=>
      rw [e] at hi
      obtain rfl:V.int n=x:=Option.some.inj hi
      have hi2:i<rs.length:=(List.getElem?_eq_some_iff.mp e).1
      have bnn:=br n (List.mem_of_getElem? e)
      have cn:co rs i=n:=by unfold co;rw [List.getD_eq_getElem?_getD,e];rfl
      rwa []
      refine ⟨qgK bl (bp.le (x:=(p:Int)) (y:=n) (by omega)),by omega,fun r hr1 hr2=>⟨by omega,gs++[r],by simp,by simp;omega,fun k hk=>?_,fun z hz=>?_⟩⟩
      · by_cases ek:k=i
        · subst ek
          have:co (gs++[r]) k=r:=by unfold co;rw [List.getD_eq_getElem?_getD,← gl];simp
          rw [this,cn];exact hr1
        · have:co (gs++[r]) k=co gs k:=by unfold co;rw [List.getD_eq_getElem?_getD,List.getD_eq_getElem?_getD,List.getElem?_append_left (by omega)]
          rw [this];exact hg k (by omega)
      · rcases List.mem_append.mp hz with z1 | z1
        · exact bg z z1
        · rw [List.mem_singleton.mp z1];exact ⟨bp.le (by omega),by rw [Int.natAbs_natCast] at hr2;exact hr2⟩
  · rintro ys H' ⟨_,rfl,gs,rfl,gl,hg,bg⟩ t ht
    rw [List.length_map] at gl hg
    have st:=qag ht (HO.lst (gs.map V.int))
    have htt:upd H' t (HO.lst (gs.map V.int)) t=_:=qai
    generalize upd H' t (HO.lst (gs.map V.int))=H2 at st htt ⊢
    have gl0:0<gs.length:=by omega
    have glast:co gs (gs.length - 1)≠0:=fun z=>by
      have:=hg (gs.length - 1) (by omega)
      rw [z,show gs.length - 1=rs.length - 1 by omega,one] at this
      exact pl (by have t2:=Int.dvd_neg.mpr this;rw [show -(0 - lead*1)=lead by omega] at t2;exact t2)
    rwa [htt]
    refine ⟨gs,rfl,by omega,.inr glast,fun u gu g H3 s3 hu g0 eg hp=>?_⟩
    have Pg:Prim gu:=by
      rcases hp with h | h
      · rw [h] at gl0;simp at gl0
      · exact h
    have lgu:gu.length=gs.length:=by rw [eg,List.length_map]
    have lzg:Lz gu:=qmo (qkT (Int.ne_of_gt g0) (by rw [← eg];exact .inr glast)) (fun z=>by rw [z] at lgu;simp at lgu;omega)
    have bgu:∀ z∈gu,Bd 45000 z:=qkU g0 (by rw [← eg];exact fun z hz=>(bg z hz).1)
    have s13:Same H H3:=(s1.trans st).trans s3
    have ha3:=s13 _ _ ha
    have hb3:=s13 _ _ hb
    obtain ⟨G,hG⟩:=qr6 ln (QI.left (co ns) (co ms))
    have mn:=hG.mq _ ns (Nat.le_refl _) (QI.left _ _)
    have mm:=hG.mq _ ms (Nat.le_refl _) (QI.right _ _)
    have lead':¬ (p:Int)∣co G (G.length - 1):=by
      rcases hnl with h | h
      · exact hG.lead pp ln mn h
      · exact hG.lead pp lm mm h
    have dG:=hD (co G) (hG.dm pp mn) (hG.dm pp mm)
    have glen:G.length≤rs.length:=Dm.len pp hG.lz.1 lead' dG ⟨rs.length - 1,by
      rw [one]
      intro z
      have:=Int.le_of_dvd (by decide) z
      omega⟩
    have tells:qtI d nn cc p→(∃ A:List Int,∀ k,co ns k=cvL A (co gu) k)∧∃ A:List Int,∀ k,co ms k=cvL A (co gu) k:=fun bp'=>by
      obtain ⟨q1,q2⟩:=qkV pp ln lm bn bm nn1 nn2 nc nn0 rfl bp' hld hG r0 one glen lead' dG dvn dvm gl hg (fun z hz=>(bg z hz).2)
      have sc:∀ k,co gs k=g*co gu k:=fun k=>by rw [eg,qi9]
      have mg:MQ (co gu) (co gs):=⟨1,by decide,[g],fun k=>by
        have e:cvL [g] (co gu) k=g*co gu k:=by
          cases k with
          | zero=>rw [qam];omega
          | succ k=>rw [qal,qaB];omega
        rw [e,sc];omega⟩
      exact ⟨gauss Pg (mg.trans q1),gauss Pg (mg.trans q2)⟩
    rwa [ha3,hu]
    refine ⟨ns,rfl,gu,rfl,lzg,d,bn,45000,bgu,by omega,by decide,by omega,by omega,fun no=>kN (fun bg=>no (tells bg).1) |> fun f H4 s4=>f H4 (s13.trans s4),fun r qs H4 s4 hr _ hq=>?_⟩
    have hb4:=s4 _ _ hb3
    have hu4:=s4 _ _ hu
    rwa [hb4,hu4]
    refine ⟨ms,rfl,gu,rfl,lzg,d,bm,45000,bgu,by omega,by decide,by omega,by omega,fun no=>kN (fun bg=>no (tells bg).2) |> fun f H5 s5=>f H5 ((s13.trans s4).trans s5),fun r2 qs2 H5 s5 hr2 _ hq2=>?_⟩
    exact kR u gu H5 ((s13.trans s4).trans s5) (s5 _ _ hu4) (qnQ hG.rc lzg (qlP hq) (qlP hq2) (by omega)) Pg
noncomputable def exps:List Nat:=[61,127,521,1279,4423,9941,21701,44497]
noncomputable def qt5 (K:W.Frag):Prop:=∀ H:Hp,SqT K H (qb1 K) (exps.map fun e:Nat=>V.int (e:Int))
theorem qq3:∀ e∈exps,Pr (mers e)∧e≤44497:=by
  intro e he
  have h:e=61∨e=127∨e=521∨e=1279∨e=4423∨e=9941∨e=21701∨e=44497:=by simpa [exps] using he
  rcases h with h | h | h | h | h | h | h | h <;> rw [h]
  · exact ⟨qt2,by decide⟩
  · exact ⟨qsY,by decide⟩
  · exact ⟨qsZ,by decide⟩
  · exact ⟨qr3,by decide⟩
  · exact ⟨qr4,by decide⟩
  · exact ⟨qr5,by decide⟩
  · exact ⟨qqQ,by decide⟩
  · exact ⟨qqR,by decide⟩
theorem qpv (e:Nat):(2:Int) ^ (e:Int).toNat - 1=((mers e:Nat):Int):=by
  unfold mers
  have:=Nat.one_le_two_pow (n:=e)
  rw [Int.natCast_sub this,Int.toNat_natCast,Int.natCast_pow]
  rfl
theorem qq4 {e:Nat} (h:e≤44497):Bd 45000 ((mers e:Nat):Int):=by
  unfold Bd mers
  rw [Int.natAbs_natCast]
  have h1:=Nat.one_le_two_pow (n:=e)
  have h2:=Nat.pow_le_pow_right (n:=2) (by decide) (show e≤45000 by omega)
  omega
theorem qkW {ns ms one two rs:List Int} {g h:Int} (g0:g≠0) (h0:h≠0) (e1:ns=one.map (g*·)) (e2:ms=two.map (h*·)) (R:RC (co one) (co two) rs):RC (co ns) (co ms) rs:=by
  have c1:∀ k,co ns k=g*co one k:=fun k=>by rw [e1,qi9]
  have c2:∀ k,co ms k=h*co two k:=fun k=>by rw [e2,qi9]
  refine ⟨R.lz,?_,?_,?_⟩
  · obtain ⟨c,c0,A,hA⟩:=R.left
    exact ⟨c,c0,A.map (g*·),fun k=>by rw [qaq,← hA k,c1 k];grind⟩
  · obtain ⟨c,c0,A,hA⟩:=R.right
    exact ⟨c,c0,A.map (h*·),fun k=>by rw [qaq,← hA k,c2 k];grind⟩
  · obtain ⟨d,d0,U,W,hU⟩:=R.qi
    refine ⟨g*h*d,Int.mul_ne_zero (Int.mul_ne_zero g0 h0) d0,U.map (h*·),W.map (g*·),fun k=>?_⟩
    rw [qaq,qaq,qan c1 U k,qan c2 W k,qbf,qbf]
    have:=hU k
    grind
theorem qja {K:W.Frag} (hK:qt5 K) {vs:List V} {H:Hp} {Q:VK} {E:XK} (h:qbC K vs H Q E):qgf K { nx:=fun _ H'=>Q .non H',rt:=Q } (L2.start ["row", "other", "one", "two", "exponent", "found"] vs) H:=by
  obtain ⟨a,b,ns,ms,d,nn,cc,rfl,ha,hb,tn,tm,bn,bm,nN,mN,N18,n2',nc,sm,hbd0,k⟩:=h
  have d9:d≤44490:=by
    have:(d+nn*(2*cc+4)+cc+2)*1≤(d+nn*(2*cc+4)+cc+2)*(2*(nn - 1)):=Nat.mul_le_mul_left _ (by omega)
    omega
  unfold qgf
  rwa [ha]
  refine ⟨ns,rfl,by omega,tn,fun a1 one g1 H1 s1 h1 g10 e1 p1=>?_⟩
  have hb1:=s1 _ _ hb
  rwa [hb1]
  refine ⟨ms,rfl,by omega,tm,fun a2 two g2 H2 s2 h2 g20 e2 p2=>?_⟩
  have s02:=s1.trans s2
  have ha2:=s02 _ _ ha
  have hb2:=s02 _ _ hb
  have h12:=s2 _ _ h1
  have l1:ns.length=one.length:=by rw [e1,List.length_map]
  have l2:ms.length=two.length:=by rw [e2,List.length_map]
  have t1:Tz one:=qkT (Int.ne_of_gt g10) (by rw [← e1];exact tn)
  have t2:Tz two:=qkT (Int.ne_of_gt g20) (by rw [← e2];exact tm)
  have b1:∀ z∈one,Bd d z:=qkU g10 (by rw [← e1];exact bn)
  have b2:∀ z∈two,Bd d z:=qkU g20 (by rw [← e2];exact bm)
  have n1:one=[]↔ns=[]:=by rw [← List.length_eq_zero_iff,← List.length_eq_zero_iff,l1]
  have n2:two=[]↔ms=[]:=by rw [← List.length_eq_zero_iff,← List.length_eq_zero_iff,l2]
  have last:(ns=[]∨ms=[])→∀ (H3:Hp) (u v:Option V),Same H2 H3→(qbK (tOp gL (qau (qaX K) [] E0 (qac (qea (qac (qaf 2) qat)) (qac (qea (qac (qaf 3) qat)) qat))) (tC (.int 0)))) { nx:=fun _ H'=>Q .non H',rt:=Q } [some (.ref a),some (.ref b),some (.ref a1),some (.ref a2),u,v] H3:=fun em H3 u v s3=>by
    have h13:=s3 _ _ h12
    have h23:=s3 _ _ h2
    rwa []
    refine ⟨sz (by decide),fun x hx=>?_⟩
    have sx:=qag hx (HO.lst [V.ref a1])
    refine ⟨sz (by decide),fun y hy=>?_⟩
    have sy:=qag hy (HO.lst [V.ref a2])
    have hxy:=sy _ _ (show upd H3 x (HO.lst [V.ref a1]) x=_ from qai)
    refine ⟨one,⟨[V.ref a1],hxy,⟨⟨a1,rfl,sy _ _ (sx _ _ h13)⟩,trivial⟩⟩,two,⟨[V.ref a2],qai,⟨⟨a2,rfl,sy _ _ (sx _ _ h23)⟩,trivial⟩⟩,em.imp (fun z=>n1.mpr z) (fun z=>n2.mpr z),fun t H4 s4 hSD=>?_⟩
    obtain ⟨ar,xr,ht,har,_⟩:=hSD.head
    refine ⟨_,ht,_,qee _ _,?_⟩
    refine k ar _ H4 (s02.trans (s3.trans ((sx.trans sy).trans s4))) har (fun hne=>?_) fun h1 h2=>by rw [if_pos (n2.mpr h2)];exact n1.mpr h1
    have z0:∀ {x:List Int},x=[]→∀ k,co x k=0:=fun e k=>by rw [e];exact qaw (Nat.zero_le _)
    by_cases te:two=[]
    · rw [if_pos te]
      have oe:ns≠[]:=by
        rcases hne with h | h
        · exact h
        · exact absurd (n2.mp te) h
      have l1':Lz one:=qmo t1 fun z=>oe (n1.mp z)
      exact ⟨qkW (Int.ne_of_gt g10) (Int.ne_of_gt g20) e1 e2 ⟨l1',MQ.refl _,MQ.zero _ (z0 te),QI.left _ _⟩,p1.resolve_left oe⟩
    · rw [if_neg te]
      have oe:one=[]:=n1.mpr (em.resolve_right fun z=>te (n2.mpr z))
      exact ⟨qkW (Int.ne_of_gt g10) (Int.ne_of_gt g20) e1 e2 ⟨qmo t2 te,MQ.zero _ (z0 oe),MQ.refl _,QI.right _ _⟩,p2.resolve_left fun z=>te (n2.mpr z)⟩
  have l0:=fun em=>last em H2 none none (Same.refl H2)
  simp only [qaE,qaL,qau,qac,qaf,qat,qaj,qoR,L2.start,qdK,tIf,qaU,tB,tOp,rI0,rI,tC,tUn,rU,qbz,qbK,qks,qea,qrD,qmK,qeS,tCB,qpO,qoQ,tOr,qqs,qrA,qty,qrB,rEq,rNe,qeU,qdx,qfC,qcy,qjE,qrL,qg0,qqB,qtA,iLt,iLe,iGt,iGe,qdL,gT,gL,gS,qoS,qqC,qtB,qo4,qrM,qbP,qrN,qtC,qnc,qf5,qpT,eqT,qnd,qnf,qpU,qpV,List.map_cons,List.map_nil,List.length_cons,List.length_nil,List.replicate,List.cons_append,List.nil_append,List.append_nil,List.getElem?_cons_zero,List.getElem?_cons_succ,Option.some.injEq,exists_eq_left',exists_eq_left,V.int.injEq,V.bl.injEq,V.ref.injEq,V.ty.injEq,HO.tup.injEq,HO.lst.injEq,List.cons.injEq,and_true,true_and,and_assoc,exists_and_left,List.set_cons_zero,List.set_cons_succ,decide_eq_true_eq,decide_eq_false_iff_not,Bool.not_eq_true',Bool.true_eq_false,Bool.false_eq_true,Bool.not_true,Bool.not_false,if_true,if_false,ite_true,ite_false,qng,qnh,qlp,qlq,qic,qid,qie,qif,qig,Nat.zero_add,Nat.reduceAdd,Nat.reduceSub,qai,Int.cast_ofNat_Int,decide_true,decide_false,eq_self,not_true_eq_false,not_false_eq_true,Int.natCast_add,Int.natCast_zero,reduceCtorEq,Nm,qiR,qeu,qoV,qkn,tSl,qc6,qhK,sL,sT,qo7,qpX,qih,qhQ,qrT,qpS,qsI,qb0,qiJ,qtz,tBM,qrI,qlr,qls,qnk,qnl,qlt,qnw,qlu,qnm,qnn,qnt,qnu,qpb,qqE,qpc,qrW,qpa,qjK,qhR,qsL,qqD,qct,Option.bind_some,Option.bind_none,Option.bind,Option.join,id_eq,sS,qnB,qrZ,qaH,qdf,qcA,qa1,qbB,qbp,qbo,qbt,qaQ,qaO,qaX,qaV,qa2,qaP,qaM,qaS,qaN,qa7,qb2,qaW,qbC,qcT,qn2,qcB,qf8,qjT,qqa,qik,qby,qbD,qdg,qa3,qbu,qbO,qcC,qbk,qba] at l0
  have lne:ns≠[]→ms≠[]→Lz one∧Lz two:=fun h1 h2=>⟨qmo t1 fun z=>h1 (n1.mp z),qmo t2 fun z=>h2 (n2.mp z)⟩
  refine ⟨_,ha2,qbM (fun c1=>⟨_,hb2,qbM (fun c2=>⟨⟨_,hK H2⟩,?_⟩) (fun c2=>l0 (.inr (by simpa using c2)))⟩) (fun c1=>l0 (.inl (by simpa using c1)))⟩
  obtain ⟨z1,z2⟩:=lne (by simpa using c1) (by simpa using c2)
  refine qmO (xs:=exps.map fun e:Nat=>V.int (e:Int)) (fun i σ H'=>i<8∧∃ u v,σ=[some (.ref a),some (.ref b),some (.ref a1),some (.ref a2),u,v]∧Same H2 H') ⟨by decide,none,none,rfl,Same.refl H2⟩ (fun i σ H' _ _=>hK H') ?_ ?_
  · rintro i x σ H' hi ⟨i8,u,v,rfl,s3⟩
    rw [List.getElem?_map] at hi
    cases e:exps[i]? with
    | none=>rw [e] at hi;cases hi
    | some ex=>
      rw [e] at hi
      obtain rfl:V.int (ex:Int)=x:=Option.some.inj hi
      obtain ⟨pe,pl⟩:=qq3 ex (List.mem_of_getElem? e)
      have h13:=s3 _ _ h12
      have h23:=s3 _ _ h2
      rwa [h13,h23]
      refine ⟨by omega,2,by unfold Bd;decide,by omega,one,two,mers ex,qpv ex,rfl,rfl,pe,qq4 pl,z1,z2,d,b1,b2,by omega,by omega,nn,by omega,by omega,cc,nc,n2',fun nb H4 s4=>⟨?_,s3.trans s4⟩,fun t rs H4 s4 ht rc pr=>?_⟩
      · rcases Nat.lt_or_ge (i+1) 8 with c8 | c8
        · exact c8
        · exfalso
          have i7:i=7:=by omega
          rw [i7] at e
          obtain rfl:44497=ex:=Option.some.inj e
          refine nb ?_
          show 2 ^ ((d+nn*(2*cc+4)+cc+2)*(2*(nn - 1)))<mers 44497
          have h1:2 ^ ((d+nn*(2*cc+4)+cc+2)*(2*(nn - 1)))≤2 ^ 44490:=Nat.pow_le_pow_right (by decide) sm
          have h2:2 ^ 44490<mers 44497:=by
            unfold mers
            have e7:2 ^ 44497=2 ^ 44490*2 ^ 7:=by rw [← Nat.pow_add]
            rw [e7]
            have:1≤2 ^ 44490:=Nat.one_le_two_pow
            omega
          omega
      exact k t rs H4 (s02.trans (s3.trans s4)) ht (fun _=>⟨qkW (Int.ne_of_gt g10) (Int.ne_of_gt g20) e1 e2 rc,pr⟩) fun h1 _=>absurd h1 (by simpa using c1)
  · rintro σ H' ⟨i8,_⟩
    exact absurd i8 (by simp [exps])
theorem qlQ (l:List Nu):(qf7 l).length=l.length:=by unfold qf7;rw [List.length_map]
theorem qq5 {l:List Nu} (hl:qcF l) (nl:Nz l):Tz (qf7 l):=by
  by_cases h:l=[]
  · left;rw [h];rfl
  · right
    rw [qlQ]
    exact qqW hl nl (List.length_pos_iff.mpr h)
theorem qtj {l:List Nu} {M N:Int} (hl:qcF l) (hM:Ov l M) (hN:Ov l N) (h:M∣N) {b:Nat} (hb:∀ z∈ovN l N,Bd b z):∀ z∈ovN l M,Bd b z:=fun z hz=>by
  obtain ⟨q,hq,rfl⟩:=List.mem_map.mp hz
  refine (hb (q.1*(N / q.2)) (List.mem_map.mpr ⟨q,hq,rfl⟩)).le ?_
  rw [Int.natAbs_mul,Int.natAbs_mul]
  refine Nat.mul_le_mul_left _ ?_
  have p0:=(hl q hq).pos
  obtain ⟨x,hx⟩:=hM.2 q hq
  obtain ⟨y,hy⟩:=h
  have e1:M / q.2=x:=by rw [hx,Int.mul_ediv_cancel_left _ (Int.ne_of_gt p0)]
  have e2:N / q.2=x*y:=by rw [hy,hx,Int.mul_assoc,Int.mul_ediv_cancel_left _ (Int.ne_of_gt p0)]
  rw [e1,e2,Int.natAbs_mul]
  refine Nat.le_mul_of_pos_right _ ?_
  rcases Nat.eq_zero_or_pos y.natAbs with z | z
  · have y0:y=0:=by omega
    have:=hN.1
    rw [hy,y0] at this;omega
  · exact z
theorem Gq.clr {b c:Nat} {l:List Nu} (G:Gq b c l):(∀ z∈qf7 l,Bd b z)∧Bd c (qkE l)∧(∀ q∈l,Bd b q.1):=by
  obtain ⟨M,hO,bM,hz⟩:=G.ov
  have hd:=qlz G.low hO
  exact ⟨qtj G.low (qha G.low) hO hd hz,qly (Int.ne_of_gt hO.1) hd bM,qsf G.low hO hz⟩
theorem qoh (g:List Int):(mnc g).length=g.length:=by unfold mnc;rw [List.length_map]
theorem qq6 {g:List Int} (lg:Lz g):qcF (mnc g):=fun q hq=>by
  obtain ⟨z,_,rfl⟩:=List.mem_map.mp hq
  exact qbn lg.2
theorem qq7 {g:List Int} (lg:Lz g) (k:Nat):pwo (mnc g) k=(co g k:Rat) / (co g (g.length - 1):Rat):=by
  unfold pwo qij mnc
  rw [List.getD_eq_getElem?_getD,List.getElem?_map]
  unfold co
  rw [List.getD_eq_getElem?_getD (l:=g) (i:=k)]
  cases e:g[k]? with
  | none=>
    show val (0,1)=((0:Int):Rat) / _
    unfold val
    show ((0:Int):Rat) / _=_
    rw [show ((0:Int):Rat)=0 from rfl,zdiv,zdiv]
  | some z=>exact qb4 lg.2
theorem qpw {g:List Int} (lg:Lz g):qij (mnc g) (g.length - 1)=(1,1):=qfK (qlw (qq6 lg) _) ⟨by decide,by decide⟩ (by
  have h:=qq7 lg (g.length - 1)
  unfold pwo at h
  rw [h]
  have:=qbj lg.2
  have e1:val (1,1)=1:=by unfold val;show ((1:Int):Rat) / ((1:Int):Rat)=1;grind
  rw [e1];grind)
theorem MR.short {g f:Nat→Rat} {n:Nat} (h0:g n≠0) (h:∀ i,n<i→g i=0) (m:MR g f) (hf:∀ k,n≤k→f k=0) (k:Nat):f k=0:=by
  obtain ⟨A,hA⟩:=m
  rw [hA k]
  exact qgI A (qkL h0 h A fun k hk=>by rw [← hA k];exact hf k hk) k
theorem MR.less {g f h:Nat→Rat} (m:MR g f) (γ:Rat) (s:Nat) (e:∀ k,h k=f k - γ*upS s g k):MR g h:=by
  obtain ⟨A,hA⟩:=m
  refine ⟨qaI A ((List.replicate s 0++[γ]).map ((-1:Rat)*·)),fun k=>?_⟩
  rw [qav,qaq,qcG,e k,hA k]
  have e2:upS s (cvL [γ] g) k=γ*upS s g k:=by
    unfold upS
    by_cases hk:s≤k
    · rw [if_pos hk,if_pos hk]
      cases hkk:k - s with
      | zero=>rw [qam];grind
      | succ j=>rw [qal,qaB];grind
    · rw [if_neg hk,if_neg hk];grind
  rw [e2];grind
theorem qoi {q:Nu} {n M:Int} (hq:q.2≠0) (hM:M≠0) (h:val q=(n:Rat) / (M:Rat)):Wo q n M:=by
  unfold Wo
  unfold val at h
  have a:=qbj hq
  have b:=qbj hM
  have e:(q.1:Rat)*(M:Rat)=(n:Rat)*(q.2:Rat):=by grind
  exact_mod_cast e
theorem qq8 {q:Nu} {n M:Int} (hl:Low q.1 q.2) (h:Wo q n M):q.2∣M∧q.1*(M / q.2)=n:=by
  unfold Wo at h
  have d:q.2∣M:=qfJ hl ⟨n,by rw [h,Int.mul_comm]⟩
  refine ⟨d,?_⟩
  have p0:=hl.pos
  have e:q.2*(q.1*(M / q.2))=q.2*n:=by
    have:=Int.mul_ediv_cancel' d
    calc q.2*(q.1*(M / q.2))=q.1*(q.2*(M / q.2)):=by grind
      _=q.1*M:=by rw [this]
      _=q.2*n:=by rw [h,Int.mul_comm]
  exact Int.eq_of_mul_eq_mul_left (Int.ne_of_gt p0) e
theorem qsi (f:Nat→Int):∀ (A:List Int) (k:Nat),cvL (A.map fun z:Int=>(z:Rat)) (fun k=>(f k:Rat)) k=((cvL A f k:Int):Rat)
  | [],_=>rfl
  | x::A,0=>by rw [List.map_cons,qam,qam];push_cast;grind
  | x::A,k+1=>by rw [List.map_cons,qal,qal,qsi f A k];push_cast;grind
theorem qoj {f:Nat→Int} {G:Nat→Rat} {β:Rat} (β0:β≠0) (hG:∀ k,G k=β*(f k:Rat)) (A:List Int) (k:Nat):((cvL A f k:Int):Rat)=β⁻¹*cvL (A.map fun z:Int=>(z:Rat)) G k:=by
  rw [qan hG,qbf,qsi]
  grind
theorem MR.of {f g:Nat→Int} {F G:Nat→Rat} {α β:Rat} (β0:β≠0) (hF:∀ k,F k=α*(f k:Rat)) (hG:∀ k,G k=β*(g k:Rat)) (m:MQ g f):MR G F:=by
  obtain ⟨c,c0,A,hA⟩:=m
  have c1:=qbj c0
  refine ⟨(A.map fun z:Int=>(z:Rat)).map (α*(c:Rat)⁻¹*β⁻¹*·),fun k=>?_⟩
  have e:(c:Rat)*(f k:Rat)=((cvL A g k:Int):Rat):=by exact_mod_cast hA k
  rw [qaq,hF k]
  rw [qoj β0 hG] at e
  grind
theorem MR.qi {r o g:Nat→Int} {n L M G:Nat→Rat} {α β γ:Rat} (α0:α≠0) (β0:β≠0) (hL:∀ k,L k=α*(r k:Rat)) (hM:∀ k,M k=β*(o k:Rat)) (hG:∀ k,G k=γ*(g k:Rat)) (q:QI r o g) (m1:MR n L) (m2:MR n M):MR n G:=by
  obtain ⟨d,d0,U,W,hU⟩:=q
  obtain ⟨A,hA⟩:=m1
  obtain ⟨B,hB⟩:=m2
  have d1:=qbj d0
  refine ⟨qaI ((qaF (U.map fun z:Int=>(z:Rat)) A).map (γ*(d:Rat)⁻¹*α⁻¹*·)) ((qaF (W.map fun z:Int=>(z:Rat)) B).map (γ*(d:Rat)⁻¹*β⁻¹*·)),fun k=>?_⟩
  rw [qav,qaq,qaq,qar,qar,← qan hA,← qan hB]
  have e:(d:Rat)*(g k:Rat)=((cvL U r k:Int):Rat)+((cvL W o k:Int):Rat):=by exact_mod_cast hU k
  rw [qoj α0 hL,qoj β0 hM] at e
  rw [hG k]
  grind
theorem RC.symm {r o:Nat→Int} {g:List Int} (G:RC r o g):RC o r g:=by
  obtain ⟨d,d0,U,W,h⟩:=G.qi
  exact ⟨G.lz,G.right,G.left,⟨d,d0,W,U,fun k=>by rw [h k];omega⟩⟩
theorem qsj {lead:Int} (h0:lead≠0) {B:Nat} {ns:List Int} (hb:∀ z∈ns,Bd B z):Ov (ns.map fun n=>qaT n lead) (lead.natAbs:Int)∧∀ z∈ovN (ns.map fun n=>qaT n lead) (lead.natAbs:Int),Bd B z:=by
  have A0:(0:Int)<(lead.natAbs:Int):=by omega
  have key:∀ n∈ns,(qaT n lead).2∣(lead.natAbs:Int)∧Bd B ((qaT n lead).1*((lead.natAbs:Int) / (qaT n lead).2)):=fun n hn=>by
    have lq:=qbn (n:=n) h0
    have l1:=qbj h0
    have:∃ s:Int,val (qaT n lead)=(s:Rat) / (((lead.natAbs:Int):Int):Rat)∧Bd B s:=by
      rw [qb4 h0]
      rcases Int.natAbs_eq lead with e | e
      · exact ⟨n,by rw [← e],hb n hn⟩
      · refine ⟨-n,?_,(hb n hn).neg⟩
        have e':(lead.natAbs:Int) = -lead:=by omega
        rw [e'];push_cast;grind
    obtain ⟨s,hs,bs⟩:=this
    obtain ⟨d1,d2⟩:=qq8 lq (qoi (Int.ne_of_gt lq.pos) (Int.ne_of_gt A0) hs)
    exact ⟨d1,by rw [d2];exact bs⟩
  refine ⟨⟨A0,fun q hq=>?_⟩,fun z hz=>?_⟩
  · obtain ⟨n,hn,rfl⟩:=List.mem_map.mp hq
    exact (key n hn).1
  · obtain ⟨q,hq,rfl⟩:=List.mem_map.mp hz
    obtain ⟨n,hn,rfl⟩:=List.mem_map.mp hq
    exact (key n hn).2
theorem MR.trans {n M L:Nat→Rat} (h1:MR n M) (h2:MR M L):MR n L:=by
  obtain ⟨A,hA⟩:=h1
  obtain ⟨B,hB⟩:=h2
  exact ⟨qaF B A,fun k=>by rw [qar,← qan hA,hB k]⟩
theorem MR.add {n F G L:Nat→Rat} (h1:MR n F) (h2:MR n G) (h:∀ k,L k=F k+G k):MR n L:=by
  obtain ⟨A,hA⟩:=h1
  obtain ⟨B,hB⟩:=h2
  exact ⟨qaI A B,fun k=>by rw [qav,← hA k,← hB k,h k]⟩
theorem MR.smul {n F L:Nat→Rat} (h1:MR n F) (c:Rat) (h:∀ k,L k=c*F k):MR n L:=by
  obtain ⟨A,hA⟩:=h1
  exact ⟨A.map (c*·),fun k=>by rw [qaq,← hA k,h k]⟩
theorem MR.sub {n F G L:Nat→Rat} (h1:MR n F) (h2:MR n G) (h:∀ k,L k=F k - G k):MR n L:=
  h1.add (h2.smul (-1) (L:=fun k=>-1*G k) fun _=>rfl) fun k=>by rw [h k];grind
theorem MR.len {g h:List Int} (lg:Lz g) (lh:Lz h) (m:MR (pwo (mnc g)) (pwo (mnc h))):g.length≤h.length:=by
  rcases Nat.lt_or_ge h.length g.length with y | y
  · exfalso
    have g0:=lg.1
    have one:∀ {x:List Int},Lz x→pwo (mnc x) (x.length - 1)=1:=fun {x} lx=>by unfold pwo;rw [qpw lx];unfold val;show ((1:Int):Rat) / ((1:Int):Rat)=1;grind
    have z:=MR.short (n:=g.length - 1) (by rw [one lg];decide) (fun i hi=>qp0 (by rw [qoh];omega)) m (fun k hk=>qp0 (by rw [qoh];omega)) (h.length - 1)
    rw [one lh] at z
    exact absurd z (by decide)
  · exact y
theorem Gq.mono {b c b' c':Nat} {l:List Nu} (G:Gq b c l) (h1:b≤b') (h2:c≤c'):Gq b' c' l:=by
  obtain ⟨x,y,M,O,bM,bz⟩:=G
  exact ⟨x,y,M,O,bM.mono h2,fun z hz=>(bz z hz).mono h1⟩
theorem qt6 (ns:List Int) (f:Int):List.map V.int (ns.map (f*·))=qbT ns.length fun k=>f*ns.getD k 0:=by
  unfold qbT
  congr 1
  apply List.ext_getElem?
  intro i
  rw [List.getElem?_map,List.getElem?_map]
  by_cases h:i<ns.length
  · rw [List.getElem?_range h,List.getElem?_eq_getElem h]
    show _=some (f*ns.getD i 0)
    rw [List.getD_eq_getElem?_getD,List.getElem?_eq_getElem h]
    rfl
  · rw [List.getElem?_eq_none (by omega),List.getElem?_eq_none (by rw [List.length_range];omega)]
    rfl
theorem qok (m:Nat) (f:Nat→Int):qbT (m+1) f=qbT m f++[V.int (f m)]:=by
  unfold qbT
  rw [List.range_succ,List.map_append,List.map_append]
  rfl
theorem qol (ns:List Int):ns.map V.int=qbT ns.length fun k=>ns.getD k 0:=by
  have h:=qt6 ns 1
  have e:ns.map (1*·)=ns:=by
    have e2:(fun x:Int=>1*x)=id:=funext fun x=>Int.one_mul x
    rw [e2,List.map_id]
  rw [e] at h
  rw [h]
  exact qb3 fun i _=>by rw [Int.one_mul]
theorem qgM (ns:List Int) (lo hi:Option Int):∃ ms:List Int,qjo (ns.map V.int) lo hi=ms.map V.int∧ms.length≤ns.length:=by
  unfold qjo
  rw [← List.map_drop,← List.map_take]
  exact ⟨_,rfl,by rw [List.length_take,List.length_drop];omega⟩
theorem qom (h:qdg K vs H Q E):qlH K { nx:=fun _ H'=>Q .non H',rt:=Q } (L2.start ["_law_script", "_law_first"] vs) H:=by
  obtain ⟨s,ns,rfl,hs,n63,k⟩:=h
  unfold qlH
  rwa []
  obtain ⟨c1,e1,_⟩:=qgM ns none (some 1)
  obtain ⟨c2,e2,l2⟩:=qgM ns none (some 63)
  refine ⟨_,hs,fun p hp=>⟨c1,e1,_,Same.seq (qag hp _) hs,fun p1 h1 l hl=>⟨⟨by decide,(qte (by decide) (by decide)).mono (by decide)⟩,by decide,sz (by decide),fun r hr=>?_⟩⟩⟩
  have t1:=qag hp (HO.lst (qjo (ns.map V.int) none (some 1)))
  have t2:=qag h1 (HO.lst (qjo (ns.map V.int) none (some 63)))
  have t3:=qag hl (HO.lst (qjo (ns.map V.int) none (some 63)))
  have t4:=(t1.trans t2).trans t3
  have r0:H r=none:=by
    cases e:H r with
    | none=>rfl
    | some o=>have z:=t4 _ _ e;rw [hr] at z;cases z
  refine k r l _ r0 (Kp.of_same (t4.trans (qag hr _))) ⟨c2,0,_,_,qai,?_,by omega,?_,by decide,by decide,?_⟩
  · rw [← e2];exact (qag hr _) _ _ qai
  · exact qao qai hr
  · refine Int.ediv_nonneg ?_ (by decide)
    split <;> omega
theorem qon (h:qa3 K vs H Q E):qlI K { nx:=fun _ H'=>Q .non H',rt:=Q } (L2.start ["_law_hand_here", "_law_many", "_law_found", "_law_cell", "_law_once", "_law_twice"] vs) H:=by
  obtain ⟨p,a,m,n,rfl,⟨ns,x,y,z,hp,ha,ln,ap,x0,xn,y0⟩,n9,m0,m9,k⟩:=h
  have A0:∀ x y:Int,atI [V.ref a,V.int x,V.int y,V.int z] 0=some (V.ref a):=fun _ _=>rfl
  have A1:∀ x y:Int,atI [V.ref a,V.int x,V.int y,V.int z] 1=some (V.int x):=fun _ _=>rfl
  have A2:∀ x y:Int,atI [V.ref a,V.int x,V.int y,V.int z] 2=some (V.int y):=fun _ _=>rfl
  have A3:∀ x y:Int,atI [V.ref a,V.int x,V.int y,V.int z] 3=some (V.int z):=fun _ _=>rfl
  have I1:ixN 4 1=some 1:=rfl
  have I2:ixN 4 2=some 2:=rfl
  have kpa:∀ {H1:Hp} {o:HO},H1 a=some (.lst (ns.map V.int))→(upd H1 p o) a=some (.lst (ns.map V.int)):=fun h=>by rw [qay ap];exact h
  have go:∀ (x y:Int) (H1:Hp),H1 p=some (.lst [V.ref a,V.int x,V.int y,V.int z])→H1 a=some (.lst (ns.map V.int))→0≤x→x≤n+1→0≤y→Kp p H H1→qfQ K { nx:=fun x H'=>Q V.non H',rt:=Q } [some (V.ref p),some (V.int m),none,none,none,none] H1:=fun x y H1 hp ha x0 xn y0 k1=>by
    have go2:qfP K { nx:=fun x H'=>Q V.non H',rt:=Q } [some (V.ref p),some (V.int m),none,none,none,none] H1:=by
      unfold qfP
      rwa [hp,A1,I1]
      have k2:Kp p H (upd H1 p (HO.lst [V.ref a,V.int (x+1),V.int y,V.int z])):=k1.trans Kp.upd
      have hp2:upd H1 p (HO.lst [V.ref a,V.int (x+1),V.int y,V.int z]) p=_:=qai
      have ha2:upd H1 p (HO.lst [V.ref a,V.int (x+1),V.int y,V.int z]) a=_:=kpa ha
      generalize upd H1 p (HO.lst [V.ref a,V.int (x+1),V.int y,V.int z])=H2 at k2 hp2 ha2 ⊢
      unfold qit
      rwa [hp2,ha2,A0,A1]
      obtain ⟨c1,e1,_⟩:=qgM ns (some ((x+1) % if ((ns.map V.int).length:Int) > 1 then ((ns.map V.int).length:Int) else 1)) none
      obtain ⟨c2,e2,_⟩:=qgM c1 none (some 1)
      rw [e1,e2]
      refine ⟨by split <;> omega,fun q1 h1 q2 h2=>⟨c2,rfl,?_⟩⟩
      have s3:=(qag h1 (HO.lst (c1.map V.int))).trans (qag h2 (HO.lst (c2.map V.int)))
      have hp3:=s3 _ _ hp2
      have ha3:=s3 _ _ ha2
      have k3:=k2.same s3
      generalize upd (upd H2 q1 (HO.lst (c1.map V.int))) q2 (HO.lst (c2.map V.int))=H3 at hp3 ha3 k3 ⊢
      generalize c2.sum=cell
      unfold qis
      rwa [hp3,A1]
      have L:∀ {x y:Int},0≤x→x<4611686018427387904→IntMulOk x y:=fun h1 h2=>qtg (by omega) (by omega)
      have R:∀ {x y:Int},0≤y→y<4611686018427387904→IntMulOk x y:=fun h1 h2=>qtf (by omega) (by omega)
      refine ⟨by decide,L (by decide) (by decide),L (by decide) (by decide),R (by omega) (by omega),by decide,?_⟩
      generalize (cell % 2147483629+7919*(x+1)+11)*(48271+2*(x+1)) % 2147483647=once
      unfold qir
      rwa [hp3,A1]
      have z:=Int.emod_nonneg once (show (39373:Int)≠0 by decide)
      have z2:=Int.emod_lt_of_pos once (show (0:Int)<39373 by decide)
      refine ⟨by decide,R (by omega) (by omega),L (by decide) (by decide),by decide,?_⟩
      unfold qiq
      rwa []
      exact ⟨⟨by decide,(qte (by decide) (by decide)).mono (by decide)⟩,m0,k _ _ (Int.emod_nonneg _ (by omega)) (Int.emod_lt_of_pos _ m0) ⟨ns,x+1,y,_,hp3,ha3,ln,ap,by omega,by omega,y0⟩ k3⟩
    unfold qfQ
    rwa [hp,A2,A3]
    refine qbM (fun _=>?_) (fun _=>go2)
    refine qbM (fun _=>?_) (fun _=>go2)
    unfold qfp
    rwa [hp,A2]
    refine ⟨m0,?_⟩
    unfold qfo qfn
    rwa [hp,A2,I2]
    exact ⟨⟨m0,(qte (by omega) (by omega)).mono (by decide)⟩,k _ _ (Int.emod_nonneg _ (by omega)) (Int.emod_lt_of_pos _ m0) ⟨ns,x,y / m,z,qai,kpa ha,ln,ap,x0,by omega,Int.ediv_nonneg y0 (by omega)⟩ (k1.trans Kp.upd)⟩
  unfold qlI
  rwa [hp,ha,A0,A1,A2,A3]
  have go0:=go x y H hp ha x0 (by omega) y0 (Kp.of_same (Same.refl H))
  refine qbM (fun _=>?_) (fun _=>go0)
  refine qbM (fun _=>?_) (fun _=>go0)
  refine qbM (fun xl=>?_) (fun _=>go0)
  unfold qfm
  rwa [hp,A1,I1]
  have hp2:upd H p (HO.lst [V.ref a,V.int (x+1),V.int y,V.int z]) p=_:=qai
  have ha2:upd H p (HO.lst [V.ref a,V.int (x+1),V.int y,V.int z]) a=_:=kpa ha
  have k2:Kp p H (upd H p (HO.lst [V.ref a,V.int (x+1),V.int y,V.int z])):=Kp.upd
  generalize upd H p (HO.lst [V.ref a,V.int (x+1),V.int y,V.int z])=H2 at k2 hp2 ha2 ⊢
  unfold qfl
  rwa [hp2,ha2,A0,A1,I2]
  rw [List.length_map] at xl
  obtain ⟨v,hv⟩:=qpm (ns:=ns) (k:=x+1) (by omega) (by omega)
  exact ⟨_,hv,v,rfl,go (x+1) _ _ qai (kpa ha2) (by omega) (by omega) (by split <;> omega) (k2.trans Kp.upd)⟩
theorem qkX (h:qbx K vs H Q E):qiu K { nx:=fun _ H'=>Q .non H',rt:=Q } (L2.start ["_law_top", "_law_bottom", "_law_one", "_law_other"] vs) H:=by
  obtain ⟨a,b,rfl,hb,q⟩:=h
  unfold qiu
  rwa []
  have go:∀ s:Int,(s=if b<0 then -((Int.gcd a b:Nat):Int) else ((Int.gcd a b:Nat):Int))→qqD a s∧qqD b s∧2≤sizeLine∧∀ (p:Addr),H p=none→Q (V.ref p) (upd H p (HO.tup [V.int (a.fdiv s),V.int (b.fdiv s)])):=fun s hs=>by
    obtain ⟨h1,h2,h3,h4,h5,h6⟩:=qeb hb hs
    have e:qaT a b=(a.fdiv s,b.fdiv s):=by
      refine qfK (qbn hb) h3 ?_
      rw [qb4 hb,qg9 (q:=(a.fdiv s,b.fdiv s)) (Int.ne_of_gt h3.pos) hb h4]
    rw [e] at q
    exact ⟨h1,h1,sz (by decide),q⟩
  refine while_by (fun m σ H'=>∃ x y:Int,σ=[some (.int a),some (.int b),some (.int x),some (.int y)]∧H'=H∧0≤x∧0≤y∧Int.gcd x y=Int.gcd a b∧m=y.natAbs) b.natAbs ⟨_,_,rfl,rfl,by split <;> omega,by split <;> omega,?_,by split <;> omega⟩ ?_
  · split <;> split <;> simp [Int.neg_gcd,Int.gcd_neg]
  rintro m σ H' ⟨x,y,rfl,rfl,x0,y0,hg,rfl⟩
  rwa []
  refine qbM (fun c=>?_) (fun c=>?_)
  · refine ⟨fun σ' H''=>∃ m',m'<y.natAbs∧_,fun _ _ h=>h,?_⟩
    have z1:=Int.emod_nonneg x (show y≠0 by omega)
    have z2:=Int.emod_lt_of_pos x c
    refine ⟨c,(x % y).natAbs,by omega,y,x % y,rfl,rfl,y0,z1,?_,rfl⟩
    rw [qiP x y0];exact hg
  · have e:y=0:=by omega
    subst e
    have ex:x=((Int.gcd a b:Nat):Int):=by rw [← hg,Int.gcd_zero_right];omega
    refine qbM (fun c2=>?_) (fun c2=>?_)
    · exact go _ (by rw [if_pos c2,ex])
    · exact go _ (by rw [if_neg c2,ex])
theorem qj2 (h:qbO K vs H Q E):qhj K { nx:=fun _ H'=>Q .non H',rt:=Q } (L2.start ["_law_row", "_law_scale_here"] vs) H:=by
  obtain ⟨p,q,ns,t,d,rfl,hp,hq,d0,bt,bn,l9,k⟩:=h
  unfold qhj
  rwa [hp,hq]
  refine ⟨⟨_,SqL.of hp⟩,CompJ.lst (xs:=ns.map V.int) (fun i ys H'=>i≤ns.length∧Same H H'∧Nums H' ys ((ns.map fun n=>qaT (n*t) d).take i)) ⟨Nat.zero_le _,Same.refl H,trivial⟩ ?_ ?_ ?_⟩
  · rintro i ys H' ⟨h1,s1,hZ⟩
    refine ⟨by rw [List.length_map];exact h1,sz ?_,SqL.of (s1 _ _ hp)⟩
    rw [hZ.length,List.length_take];omega
  · rintro i x ys H' hi ⟨h1,s1,hZ⟩
    rw [List.getElem?_map] at hi
    cases e:ns[i]? with
    | none=>rw [e] at hi;cases hi
    | some z=>
      rw [e] at hi
      obtain rfl:=Option.some.inj hi
      have hq1:=s1 _ _ hq
      have hi2:i<ns.length:=(List.getElem?_eq_some_iff.mp e).1
      rwa [hq1]
      refine ⟨qgK (bn z (List.mem_of_getElem? e)) bt,d0,fun r hr=>⟨by omega,s1.trans (qag hr _),?_⟩⟩
      have e2:(ns.map fun n=>qaT (n*t) d)[i]?=some (qaT (z*t) d):=by rw [List.getElem?_map,e];rfl
      rw [List.take_add_one,e2]
      exact (hZ.tp (tpS (qag hr _))).append (Nums.one qkH)
  · rintro ys H' ⟨_,s1,hZ⟩ a ha
    have e:(ns.map fun n=>qaT (n*t) d).take (ns.map V.int).length=ns.map fun n=>qaT (n*t) d:=by rw [List.length_map,show ns.length=(ns.map fun n=>qaT (n*t) d).length by rw [List.length_map],List.take_length]
    rw [e] at hZ
    rwa []
    intro r hr
    have s2:=(qag ha (HO.lst ys)).trans (qag hr (HO.tup ys))
    exact k r ys _ (s1.trans s2) qai (hZ.tp (tpS s2))
theorem qsk {a b:List Int} (la:0<a.length) (lb:0<b.length):ps a b a.length (a.length+b.length - 1 - 1)=co a (a.length - 1)*co b (b.length - 1):=by
  obtain ⟨i,hi⟩:∃ i,a.length=i+1:=⟨a.length - 1,by omega⟩
  rw [hi]
  show ps a b i _+_=_
  rw [qkF i _ (by omega),if_pos ⟨by omega,by omega⟩,show i+1+b.length - 1 - 1 - i=b.length - 1 by omega]
  show 0+co a i*co b (b.length - 1)=_
  rw [Nat.add_sub_cancel];omega
theorem qh1 (h:qbu K vs H Q E):qfq K { nx:=fun _ H'=>Q .non H',rt:=Q } (L2.start ["_law_one", "_law_other", "_law_made", "_law_k", "_law_a", "_law_j", "_law_b"] vs) H:=by
  obtain ⟨p,q,ns,ms,n,m,rfl,hp,hq,la,lb,a20,b20,ba,bb,n9,m9,k⟩:=h
  have la1:=la.1
  have lb1:=lb.1
  unfold qfq
  rwa [hp,hq]
  refine ⟨sz (by decide),fun a ha=>?_⟩
  have sa:=qag ha (HO.lst [V.int 0])
  have hpa:=sa _ _ hp
  have hqa:=sa _ _ hq
  rwa [hpa,hqa]
  rw [List.length_map,List.length_map]
  have eL:((ns.length:Int)+(ms.length:Int) - 1).toNat=ns.length+ms.length - 1:=by omega
  rw [eL,qgJ]
  refine ⟨by omega,by omega,sz (by omega),fun w hw=>?_⟩
  generalize hLL:ns.length+ms.length - 1=L at hw ⊢
  have sw:=qag hw (HO.lst (qbT L fun _=>0))
  have w0:H w=none:=by
    cases e:H w with
    | none=>rfl
    | some o=>have z:=sa _ _ e;rw [hw] at z;cases z
  refine ⟨⟨_,SqL.of (sw _ _ hpa)⟩,ForJ.enumL (xs:=ns.map V.int) (fun i σ H'=>∃ x1 x2 x3 x4:Option V,σ=[some (.ref p),some (.ref q),some (.ref w),x1,x2,x3,x4]∧Same H H'∧H' w=some (.lst (qbT L fun k=>ps ns ms i k)))
    ⟨none,none,none,none,rfl,sa.trans sw,qai⟩ ?_ ?_ ?_⟩
  · rintro i σ H' _ ⟨_,_,_,_,_,s1,_⟩
    exact SqL.of (s1 _ _ hp)
  · rintro i x pp σ H1 hi ⟨x1,x2,x3,x4,rfl,s1,hw1⟩ hpp
    rw [List.getElem?_map] at hi
    cases en:ns[i]? with
    | none=>rw [en] at hi;cases hi
    | some z=>
      rw [en] at hi
      obtain rfl:V.int z=x:=Option.some.inj hi
      have il:i<ns.length:=(List.getElem?_eq_some_iff.mp en).1
      have zd:ns.getD i 0=z:=by rw [List.getD_eq_getElem?_getD,en];rfl
      have sp:=qag hpp (HO.tup [V.int (i:Int),V.int z])
      rwa []
      refine ⟨⟨_,SqL.of (sp _ _ (s1 _ _ hq))⟩,ForJ.enumL (xs:=ms.map V.int) (fun j σ H'=>∃ x3 x4:Option V,σ=[some (.ref p),some (.ref q),some (.ref w),some (.int (i:Int)),some (.int z),x3,x4]∧Same H H'∧H' w=some (.lst (qbT L fun k=>in2 ns ms i j k)))
          ⟨x3,x4,rfl,s1.trans sp,by rw [sp _ _ hw1];exact congrArg (fun l=>some (HO.lst l)) (qb3 fun k _=>(qlx ns ms i k))⟩ ?_ ?_ ?_⟩
      · rintro j σ H' _ ⟨_,_,_,s2,_⟩
        exact SqL.of (s2 _ _ hq)
      · rintro j y pq σ H2 hj ⟨y3,y4,rfl,s2,hw2⟩ hpq
        rw [List.getElem?_map] at hj
        cases em:ms[j]? with
        | none=>rw [em] at hj;cases hj
        | some u=>
          rw [em] at hj
          obtain rfl:V.int u=y:=Option.some.inj hj
          have jl:j<ms.length:=(List.getElem?_eq_some_iff.mp em).1
          have ud:ms.getD j 0=u:=by rw [List.getD_eq_getElem?_getD,em];rfl
          have sq:=qag hpq (HO.tup [V.int (j:Int),V.int u])
          have hw3:=sq _ _ hw2
          rwa [hw3]
          have kl:i+j<L:=by omega
          refine ⟨_,qcS (by omega) (qbb _ kl),qgK (ba z (List.mem_of_getElem? en)) (bb u (List.mem_of_getElem? em)),_,rfl,i+j,?_,fun b o h=>Kp.upd b o (qao h w0) (sq b o (s2 b o h)),?_⟩
          · rw [qbq];exact qhl (by omega) kl
          · refine qds kl ?_ fun k _ hk=>?_
            · rw [qgH,if_pos rfl,zd,ud]
            · rw [qgH,if_neg hk]
      · rintro σ H2 ⟨y3,y4,rfl,s2,hw2⟩
        rw [List.length_map] at hw2
        exact ⟨_,_,_,_,rfl,s2,hw2⟩
  · rintro σ H1 ⟨x1,x2,x3,x4,rfl,s1,hw1⟩
    rwa []
    rw [List.length_map] at hw1
    have ck:∀ k,co ((List.range L).map fun k=>ps ns ms ns.length k) k=ps ns ms ns.length k:=fun k=>by
      unfold co
      rw [List.getD_eq_getElem?_getD,List.getElem?_map]
      by_cases hk:k<L
      · rw [List.getElem?_range hk];rfl
      · rw [List.getElem?_eq_none (by rw [List.length_range];omega),qkF _ _ (by omega)];rfl
    have cl:((List.range L).map fun k=>ps ns ms ns.length k).length=L:=by rw [List.length_map,List.length_range]
    refine k w _ H1 s1 hw1 (by rw [cl];omega) ⟨by rw [cl];omega,?_⟩ ck
    rw [ck,cl,← hLL,qsk la1 lb1]
    exact Int.mul_ne_zero la.2 lb.2
theorem Hand.same {H H':Hp} {p a:Addr} {n:Int} (h:Hand H p a n) (s:Same H H'):Hand H' p a n:=by
  obtain ⟨ns,x,y,z,h1,h2,r⟩:=h
  exact ⟨ns,x,y,z,s _ _ h1,s _ _ h2,r⟩
theorem Hand.mono {H:Hp} {p a:Addr} {n n':Int} (h:Hand H p a n) (e:n≤n'):Hand H p a n':=by
  obtain ⟨ns,x,y,z,h1,h2,h3,h4,h5,h6,h7⟩:=h
  exact ⟨ns,x,y,z,h1,h2,h3,h4,h5,by omega,h7⟩
theorem Hand.ne {H:Hp} {p a q:Addr} {n:Int} (h:Hand H p a n) (e:H q=none):q≠p:=by
  obtain ⟨ns,x,y,z,h1,_⟩:=h
  exact fun w=>by rw [w,h1] at e;cases e
theorem Hand.ne2 {H:Hp} {p a q:Addr} {n:Int} (h:Hand H p a n) (e:H q=none):q≠a:=by
  obtain ⟨ns,x,y,z,_,h1,_⟩:=h
  exact fun w=>by rw [w,h1] at e;cases e
theorem Hand.upd {H:Hp} {p a q:Addr} {n:Int} {o:HO} (h:Hand H p a n) (e:q≠p) (e2:q≠a):Hand (upd H q o) p a n:=by
  obtain ⟨ns,x,y,z,h1,h2,r⟩:=h
  exact ⟨ns,x,y,z,by rw [qay e.symm];exact h1,by rw [qay e2.symm];exact h2,r⟩
theorem qsl {d:Int} (h0:0≤d) (h2:d<2):∃ s:Int,atI [V.int 1,V.int (-1)] d=some (V.int s)∧s≠0∧-1≤s∧s≤1:=by
  rcases (show d=0∨d=1 by omega) with e | e <;> subst e
  · exact ⟨1,rfl,by decide,by decide,by decide⟩
  · exact ⟨-1,rfl,by decide,by decide,by decide⟩
theorem bdN {n:Nat} {x:Int} (h:x.natAbs<2 ^ n):Bd n x:=h
theorem qoo {n m:Int} (hm:m≠0) (hn:n≠0):(qaT n m).1≠0:=fun z=>by
  have v:=qb4 (n:=n) hm
  unfold val at v
  rw [z,show ((0:Int):Rat)=0 from rfl,zdiv] at v
  have a:=qbj hm
  have b:=qbj hn
  grind
theorem qop {s d:Int} (s0:s≠0) (h1:-1≤s) (h2:s≤1):(s*d).natAbs=d.natAbs:=by
  rw [Int.natAbs_mul]
  have:s.natAbs=1:=by omega
  rw [this,Nat.one_mul]
theorem qmp (h:qcC K vs H Q E):qjX K { nx:=fun _ H'=>Q .non H',rt:=Q } (L2.start ["_law_hand_here"] vs) H:=by
  obtain ⟨p,ad,n,rfl,hH,n9,k⟩:=h
  unfold qjX
  rwa []
  refine ⟨sz (by decide),fun q hq=>⟨ad,n,hH.same (qag hq _),by omega,by decide,by decide,fun d H1 d0 d2 h1 k1=>?_⟩⟩
  obtain ⟨s,hs,s0,s1,s2⟩:=qsl d0 d2
  have k01:Kp p H H1:=(Kp.of_same (qag hq _)).trans k1
  refine ⟨_,k1 _ _ (hH.ne hq) qai,_,hs,ad,n+2,h1,by omega,by decide,by decide,fun e H2 e0 e9 h2 k2=>⟨s,rfl,qtf (by omega) (by omega),ad,n+2+2,h2,by omega,by decide,by decide,fun f H3 f0 f9 h3 k3=>⟨by omega,fun r hr=>?_⟩⟩⟩
  have sr:=qag hr (HO.tup [V.int (qaT (s*(1+e)) (1+f)).1,V.int (qaT (s*(1+e)) (1+f)).2])
  have f1:1+f≠0:=by omega
  have sm:=qop (d:=1+e) s0 s1 s2
  obtain ⟨b1,b2⟩:=qqL (c:=4) (d:=4) (n:=s*(1+e)) f1 (bdN (by rw [sm];show _<16;omega)) (bdN (by show _<16;omega))
  exact k r _ _ _ qai (qbn f1) (qoo f1 (Int.mul_ne_zero s0 (by omega))) b1 b2 ((h3.same sr).mono (by omega)) (((k01.trans k2).trans k3).same sr)
theorem qtk {d v S0:Int} (hS:1≤S0) (h0:0≤d) (h2:d<4) (v1:-S0≤v) (v2:v≤S0):∃ s:Int,atI [V.int 0,V.int 1,V.int (-1),V.int v] d=some (V.int s)∧-S0≤s∧s≤S0:=by
  rcases (show d=0∨d=1∨d=2∨d=3 by omega) with e | e | e | e <;> subst e
  · exact ⟨0,rfl,by omega,by omega⟩
  · exact ⟨1,rfl,by omega,by omega⟩
  · exact ⟨-1,rfl,by omega,by omega⟩
  · exact ⟨v,rfl,v1,v2⟩
theorem qj3 (h:qbk K vs H Q E):qhk K { nx:=fun _ H'=>Q .non H',rt:=Q } (L2.start ["_law_hand_here", "_law_most", "_law_size", "_law_row", "_law_k"] vs) H:=by
  obtain ⟨p,ad,m,S0,n,rfl,hH,n9,m0,m7,hS,k⟩:=h
  have hS1:1≤S0:=by omega
  unfold qhk
  rwa []
  refine ⟨sz (by decide),fun w hw=>⟨ad,n,hH.same (qag hw _),by omega,by omega,by omega,fun d H1 d0 dm h1 k1=>⟨by omega,by omega,?_⟩⟩⟩
  have wp:w≠p:=hH.ne hw
  have wa:w≠ad:=hH.ne2 hw
  have k01:Kp p H H1:=(Kp.of_same (qag hw _)).trans k1
  have hw1:H1 w=some (.lst []):=k1 _ _ wp qai
  refine ForR.by (fun i σ H'=>i≤d.toNat∧∃ (ns:List Int) (x:Option V),σ=[some (.ref p),some (.int m),some (.int S0),some (.ref w),x]∧H' w=some (.lst (ns.map V.int))∧ns.length=i∧(∀ z∈ns,-S0≤z∧z≤S0)∧Hand H' p ad (n+2+4*i)∧Kp p H H') ⟨Nat.zero_le _,[],none,rfl,hw1,rfl,fun z hz=>absurd hz (by simp),by simpa using h1,k01⟩ ?_ ?_
  · rintro i σ H' hi ⟨_,ns,x,rfl,hw2,ln,bn,h2,k2⟩
    rwa [hw2]
    refine ⟨qdm hw2,qtg (by decide) (by decide),ad,_,h2,by omega,by omega,by omega,fun e H3 e0 e9 h3 k3=>⟨sz (by decide),fun c hc=>?_⟩⟩
    have hw3:=k3 _ _ wp hw2
    have sc:=qag hc (HO.lst [V.int 0,V.int 1,V.int (-1),V.int (e - S0)])
    refine ⟨ad,_,h3.same sc,by omega,by decide,by decide,fun f H4 f0 f4 h4 k4=>?_⟩
    obtain ⟨s,hs,s1,s2⟩:=qtk hS1 (v:=e - S0) f0 f4 (by omega) (by omega)
    have hw4:=k4 _ _ wp (sc _ _ hw3)
    refine ⟨_,k4 _ _ (h3.ne hc) qai,_,hs,_,hw4,sz (by rw [List.length_map];omega),by omega,ns++[s],by simp,by simp;omega,fun z hz=>?_,(h4.mono (by omega)).upd wp wa,fun b o hb ho=>?_⟩
    · rcases List.mem_append.mp hz with h | h
      · exact bn z h
      · rw [List.mem_singleton.mp h];exact ⟨s1,s2⟩
    · rw [qay (qao ho hw)]
      exact k4 _ _ hb (sc _ _ (k3 _ _ hb (k2 _ _ hb ho)))
  · rintro σ H' ⟨_,ns,x,rfl,hw2,ln,bn,h2,k2⟩
    rwa [hw2]
    refine ⟨sz (by decide),fun c hc=>⟨ad,_,h2.same (qag hc _),by omega,by decide,by decide,fun e H3 e0 e2 h3 k3=>?_⟩⟩
    obtain ⟨s,hs,s0,s1,s2⟩:=qsl e0 e2
    have hw3:=k3 _ _ wp (qag hc _ _ _ hw2)
    refine ⟨_,k3 _ _ (h2.ne hc) qai,_,hs,ad,_,h3,by omega,by omega,by omega,fun f H4 f0 f9 h4 k4=>⟨s,rfl,qtf (by omega) (by omega),sz (by decide),fun g hg=>?_⟩⟩
    have hw4:=k4 _ _ wp hw3
    have sg:=qag hg (HO.lst [V.int (s*(1+f))])
    refine ⟨_,sg _ _ hw4,sz (by rw [List.length_map];omega),fun r hr=>?_⟩
    have sr:=qag hr (HO.lst (ns.map V.int++[V.int (s*(1+f))]))
    have sgr:=sg.trans sr
    have em:ns.map V.int++[V.int (s*(1+f))]=(ns++[s*(1+f)]).map V.int:=by simp
    have sm:=qop (d:=1+f) s0 s1 s2
    refine k r (ns++[s*(1+f)]) _ (by rw [← em];exact qai) (by rw [List.length_append];simp;omega) ⟨by simp,?_⟩ (fun z hz=>?_) ?_ ?_ ((h4.same sgr).mono (by omega)) (fun b o hb ho=>sgr _ _ (k4 _ _ hb (k3 _ _ hb (qag hc _ _ _ (k2 _ _ hb ho)))))
    · unfold co
      rw [List.length_append,List.length_singleton,Nat.add_sub_cancel,List.getD_eq_getElem?_getD,List.getElem?_append_right (Nat.le_refl _)]
      simp
      exact ⟨s0,by omega⟩
    · rcases List.mem_append.mp hz with h | h
      · exact bn z h
      · rw [List.mem_singleton.mp h];omega
    · exact (h4.same sg).ne hr
    · exact (h4.same sg).ne2 hr
theorem qiw (p:Nat→Int):∀ (w:List Int) (k:Nat),((cvL w p k:Int):Rat)=cvL (w.map fun z:Int=>(z:Rat)) (fun k=>(p k:Rat)) k
  | [],_=>rfl
  | x::w,0=>by rw [qam];show _=(x:Rat)*(p 0:Rat)+0;push_cast;rfl
  | x::w,k+1=>by rw [qal];show _=(x:Rat)*(p (k+1):Rat)+cvL (w.map fun z:Int=>(z:Rat)) (fun k=>(p k:Rat)) k;rw [← qiw p w k];push_cast;rfl
theorem qoT (ns:List Int):si ns=Sr.L (ns.map fun z:Int=>(z:Rat)):=Sr.ext' fun k=>by
  show ((co ns k:Int):Rat)=cvL _ qbZ k
  rw [qco]
  unfold co
  rw [List.getD_eq_getElem?_getD,List.getD_eq_getElem?_getD,List.getElem?_map]
  cases ns[k]? <;> rfl
theorem qfw (ns:List Int):Sr.Pol (si ns):=⟨_,qoT ns⟩
theorem qlR {ns qs ms:List Int} (h:∀ k,co ns k=cvL qs (co ms) k):si ns=si qs*si ms:=by
  rw [qoT qs,Sr.L_mul]
  refine Sr.ext' fun k=>?_
  show ((co ns k:Int):Rat)=cvL _ (fun k=>((co ms k:Int):Rat)) k
  rw [h k,qiw]
theorem qpx {ns:List Int} (h:Lz ns):si ns≠0:=fun z=>h.2 (by
  have:=congrFun (congrArg Sr.c z) (ns.length - 1)
  rw [Sr.zero_c] at this
  have this:((co ns (ns.length - 1):Int):Rat)=0:=this
  exact_mod_cast this)
theorem qsm (ns:List Int):Sr.Bn (si ns) ns.length:=fun k hk=>by
  show ((co ns k:Int):Rat)=0
  rw [qaw hk];rfl
theorem qkY (ns:List Int) (k:Nat):co (dI ns) k=((k+1:Nat):Int)*co ns (k+1):=by
  by_cases h:k<ns.length - 1
  · unfold dI
    show ((List.range (ns.length - 1)).map _).getD k 0=_
    rw [List.getD_eq_getElem?_getD,List.getElem?_map,List.getElem?_range h]
    rfl
  · rw [qaw (by unfold dI;rw [List.length_map,List.length_range];omega),qaw (k:=k+1) (by omega),Int.mul_zero]
theorem qj4 (ns:List Int):(dI ns).length=ns.length - 1:=by unfold dI;rw [List.length_map,List.length_range]
theorem qtK (ns:List Int):si (dI ns)=Sr.D (si ns):=Sr.ext' fun k=>by
  show ((co (dI ns) k:Int):Rat)=((k:Rat)+1)*((co ns (k+1):Int):Rat)
  rw [qkY];push_cast;rfl
theorem qjb {g:Int} (ms:List Int):si (ms.map (g*·))=Sr.num (g:Rat)*si ms:=Sr.ext' fun k=>by
  rw [Sr.num_mul]
  show ((co (ms.map (g*·)) k:Int):Rat)=(g:Rat)*((co ms k:Int):Rat)
  have e:co (ms.map (g*·)) k=g*co ms k:=by
    unfold co
    rw [List.getD_eq_getElem?_getD,List.getD_eq_getElem?_getD,List.getElem?_map]
    cases ms[k]? with
    | none=>simp
    | some z=>rfl
  rw [e];push_cast;rfl
theorem RadOf.smul {F L:Sr} {x:Rat} (h:RadOf F L):RadOf (Sr.num x*F) L:=by
  obtain ⟨S,M,pS,pL,pM,e1,e2,c⟩:=h
  refine ⟨Sr.num x*S,M,(Sr.Pol.num x).mul pS,pL,pM,by rw [e1];grind,by rw [Sr.D_num,e2];grind,c⟩
theorem qtl {g f:List Int} (m:MQ (co g) (co f)):∃ B,Sr.Pol B∧si f=B*si g:=by
  obtain ⟨c,c0,A,h⟩:=m
  have c1:=qbj c0
  refine ⟨Sr.num ((c:Rat)⁻¹)*si A,(Sr.Pol.num _).mul (qfw A),?_⟩
  have e:Sr.num (c:Rat)*si f=si A*si g:=by
    rw [← qjb]
    refine qlR fun k=>?_
    rw [← h k]
    unfold co
    rw [List.getD_eq_getElem?_getD,List.getD_eq_getElem?_getD,List.getElem?_map]
    cases f[k]? with
    | none=>simp
    | some z=>rfl
  have i:=Sr.num_inv c1
  have:si f=Sr.num ((c:Rat)⁻¹)*Sr.num (c:Rat)*si f:=by rw [i];grind
  rw [this,show Sr.num ((c:Rat)⁻¹)*Sr.num (c:Rat)*si f=Sr.num ((c:Rat)⁻¹)*(Sr.num (c:Rat)*si f) by grind,e]
  grind
theorem qtm {r o g:List Int} (R:RC (co r) (co o) g) {A B:Sr} (pA:Sr.Pol A) (pB:Sr.Pol B) (h1:si r=A*si g) (h2:si o=B*si g):Sr.Cs A B:=by
  obtain ⟨d,d0,U,W,h⟩:=R.qi
  have e:Sr.num (d:Rat)*si g=si U*si r+si W*si o:=by
    rw [qoT U,qoT W,Sr.L_mul,Sr.L_mul]
    refine Sr.ext' fun k=>?_
    rw [Sr.num_mul]
    show (d:Rat)*((co g k:Int):Rat)=cvL _ (fun k=>((co r k:Int):Rat)) k+cvL _ (fun k=>((co o k:Int):Rat)) k
    rw [← qiw,← qiw]
    exact_mod_cast h k
  have e2:Sr.num (d:Rat)=si U*A+si W*B:=Sr.cancel (Sr.Pol.num _) (((qfw U).mul pA).add ((qfw W).mul pB)) (qfw g) (qpx R.lz) (by rw [e,h1,h2];grind)
  exact Sr.Cs.of_unit (qbj d0) rfl (qfw U) (qfw W) e2.symm
theorem qpy {ms rs qs:List Int} (R:RC (co ms) (co (dI ms)) rs) (h:∀ k,co ms k=cvL qs (co rs) k):RadOf (si ms) (si qs):=by
  obtain ⟨B,pB,eB⟩:=qtl R.right
  have e:=qlR h
  refine ⟨si rs,B,qfw rs,qfw qs,pB,by rw [e];grind,by rw [← qtK,eB];grind,qtm R (qfw qs) pB e eB⟩
theorem qq9 {ns qs ms:List Int} (ln:Lz ns) (lm:Lz ms) (hl:qs.length=ns.length+1 - ms.length) (h:∀ k,co ns k=cvL qs (co ms) k):Lz qs∧qs.length+ms.length=ns.length+1:=by
  have e:=qlR h
  have n0:=ln.1
  have m0:=lm.1
  have q0:0<qs.length:=by
    rcases Nat.eq_zero_or_pos qs.length with z | z
    · rw [List.length_eq_zero_iff.mp z] at e
      exact absurd (by rw [e,qoT []];show Sr.L []*_=0;rw [Sr.L_nil];grind) (qpx ln)
    · exact z
  refine ⟨⟨q0,fun z=>?_⟩,by omega⟩
  have b1:Sr.Bn (si qs) (qs.length - 1+1):=by rw [Nat.sub_add_cancel q0];exact qsm qs
  have b2:Sr.Bn (si ms) (ms.length - 1+1):=by rw [Nat.sub_add_cancel m0];exact qsm ms
  have t:=(Sr.top_mul b1 b2).1
  rw [← e,show qs.length - 1+(ms.length - 1)=ns.length - 1 by omega] at t
  have t:((co ns (ns.length - 1):Int):Rat)=((co qs (qs.length - 1):Int):Rat)*((co ms (ms.length - 1):Int):Rat):=t
  rw [z] at t
  have t2:((co ns (ns.length - 1):Int):Rat)=0:=by rw [t];push_cast;grind
  exact ln.2 (by exact_mod_cast t2)
noncomputable def DvI (ms g:List Int):Prop:=∃ A:List Int,∀ k,co ms k=cvL A (co g) k
theorem DvI.fac {ms g q a:List Int} (h:DvI ms g) (e:∀ k,co g k=cvL q (co a) k):DvI ms a∧DvI ms q:=by
  obtain ⟨A,hA⟩:=h
  refine ⟨⟨qaF A q,fun k=>?_⟩,⟨qaF A a,fun k=>?_⟩⟩
  · rw [hA k,qar,qan e]
  · have e2:∀ k,co g k=cvL a (co q) k:=fun k=>by
      have h1:∀ (b:List Int) (k:Nat),co b k=cvL b qbZ k:=fun b k=>by rw [qco];rfl
      rw [e k,qan (h1 a),qan (h1 q),qed]
    rw [hA k,qar,qan e2]
theorem DvI.self (ms:List Int):DvI ms ms:=⟨[1],fun k=>by
  cases k with
  | zero=>rw [qam];grind
  | succ k=>rw [qal,qaB];grind⟩
theorem DvI.len {ms g:List Int} (h:DvI ms g) (l1:Lz ms) (l2:Lz g):g.length≤ms.length:=qlJ l2 l1 (by
  obtain ⟨A,hA⟩:=h
  exact ⟨1,by decide,A,fun k=>by rw [Int.one_mul];exact hA k⟩)
theorem DvI.bd {ms g:List Int} (h:DvI ms g) (l1:Lz ms) (bm:∀ z∈ms,Bd 40 z) (m9:ms.length≤9) (l2:Lz g):∀ z∈g,Bd 148 z:=by
  have gl:=h.len l1 l2
  obtain ⟨A,hA⟩:=h
  exact qsh (qfS (n:=9) (c:=4) bm ⟨_,l1.2⟩ m9 (by omega) (by decide) hA)
theorem qra {a:List Int} (h:Lz a):Tz a:=.inr h.2
theorem qtn {ns:List Int} (h:Lz ns):Tz (dI ns):=by
  by_cases c:2≤ns.length
  · refine qra ⟨by rw [qj4];omega,?_⟩
    rw [qj4,qkY,show ns.length - 1 - 1+1=ns.length - 1 by omega]
    exact Int.mul_ne_zero (by omega) h.2
  · have e:dI ns=[]:=List.length_eq_zero_iff.mp (by rw [qj4];omega)
    exact .inl e
theorem qto {ns:List Int} (h:∀ z∈ns,Bd 40 z) (n9:ns.length≤9):∀ z∈dI ns,Bd 148 z:=fun z hz=>by
  unfold dI at hz
  obtain ⟨k,hk,rfl⟩:=List.mem_map.mp hz
  have hk':=List.mem_range.mp hk
  have b4:Bd 4 ((k+1:Nat):Int):=by
    show ((k+1:Nat):Int).natAbs<2 ^ 4
    omega
  exact (b4.mul (qbc h (k+1))).mono (by decide)
theorem qj5 (h:qby K vs H Q E):qhf K { nx:=fun _ H'=>Q .non H',rt:=Q } (L2.start ["row"] vs) H:=by
  obtain ⟨p,ns,b,rfl,hp,l1,bn,b9,k⟩:=h
  unfold qhf
  rwa [hp]
  rw [List.length_map]
  refine ⟨by decide,by decide,by omega,by omega,CompJ.range (fun i zs H'=>i≤ns.length - 1∧Same H H'∧zs=qbT i fun k=>((k+1:Nat):Int)*co ns (k+1)) ⟨Nat.zero_le _,Same.refl H,rfl⟩ ?_ ?_ ?_⟩
  · rintro i zs H' ⟨h1,s1,rfl⟩
    exact ⟨by omega,sz (by rw [qbq];omega)⟩
  · rintro i zs H' hi ⟨h1,s1,rfl⟩
    have hp1:=s1 _ _ hp
    have g1:atI (ns.map V.int) (1+(i:Int))=some (V.int (co ns (i+1))):=by
      refine qcS (j:=i+1) (by omega) ?_
      rw [qol]
      exact qbb _ (by omega)
    rwa [hp1,g1]
    refine ⟨qtg (by omega) (by omega),by omega,s1,?_⟩
    rw [qok i,show (1+(i:Int))=((i+1:Nat):Int) by omega]
    rfl
  · rintro zs H' ⟨_,s1,rfl⟩ a ha
    refine k a _ (s1.trans (qag ha _)) ?_
    rw [qai,show ((ns.length:Int) - 1).toNat=ns.length - 1 by omega]
    rfl
theorem qkZ {ns ms:List Int} {g:Int} (g0:0<g) (e:ns=ms.map (g*·)) (ln:Lz ns) (bn:∀ z∈ns,Bd 40 z):Lz ms∧(∀ z∈ms,Bd 40 z)∧ms.length=ns.length:=by
  have l:ms.length=ns.length:=by rw [e,List.length_map]
  refine ⟨⟨by have:=ln.1;omega,fun z=>ln.2 ?_⟩,fun z hz=>?_,l⟩
  · have:=congrFun (congrArg Sr.c (qjb (g:=g) ms)) (ns.length - 1)
    rw [← e,Sr.num_mul] at this
    have this:((co ns (ns.length - 1):Int):Rat)=(g:Rat)*((co ms (ns.length - 1):Int):Rat):=this
    rw [← l,z] at this
    have t2:((co ns (ms.length - 1):Int):Rat)=0:=by rw [this];push_cast;grind
    rw [← l]
    exact_mod_cast t2
  · have b:=bn (g*z) (by rw [e];exact List.mem_map.mpr ⟨z,hz,rfl⟩)
    refine Bd.le b ?_
    rw [Int.natAbs_mul]
    exact Nat.le_mul_of_pos_left _ (by omega)
theorem em9 {ns ms:List Int} (h1:ns.length≤9) (h2:ms.length≤9) (h:ns=[]∨ms=[]):2*3 ^ (ns.length+ms.length)*(148+1)≤60000000:=by
  have:ns.length+ms.length≤9:=by rcases h with rfl | rfl <;> simp <;> omega
  have p:=Nat.pow_le_pow_right (show 0<3 by decide) this
  have:3 ^ 9=19683:=by decide
  omega
theorem qrb {ms rs qs:List Int} (lm:Lz ms) (bm:∀ z∈ms,Bd 40 z) (m9:ms.length≤9) (R:RC (co ms) (co (dI ms)) rs) (hl:qs.length=ms.length+1 - rs.length) (h:∀ k,co ms k=cvL qs (co rs) k):Lz qs∧qs.length+rs.length=ms.length+1∧qs.length≤9∧(∀ z∈qs,Bd 148 z)∧(∀ z∈rs,Bd 148 z)∧DvI ms qs∧DvI ms rs∧RadOf (si ms) (si qs):=by
  obtain ⟨lq,le⟩:=qq9 lm R.lz hl h
  have d:=(DvI.self ms).fac h
  have r0:=R.lz.1
  exact ⟨lq,le,by omega,d.2.bd lm bm m9 lq,d.1.bd lm bm m9 R.lz,d.2,d.1,qpy R h⟩
theorem qrc (qs:List Int):si (qs.map fun z=>-z)=Sr.num (-1)*si qs:=by
  have e:(qs.map fun z=>-z)=qs.map ((-1:Int)*·):=List.map_congr_left fun z _=>by omega
  rw [e,qjb]
  congr 1
theorem qjc (h:qbD K vs H Q E):qgg K { nx:=fun _ H'=>Q .non H',rt:=Q } (L2.start ["row", "short", "simple"] vs) H:=by
  obtain ⟨p,ns,rfl,hp,ln,bn,n9,k⟩:=h
  unfold qgg
  rwa [hp]
  refine ⟨ns,rfl,by omega,qra ln,fun t ms g H1 s1 ht g0 eg pr=>?_⟩
  obtain ⟨lm,bm,ml⟩:=qkZ g0 eg ln bn
  have m9:ms.length≤9:=by omega
  have ne:ns≠[]:=List.length_pos_iff.mp ln.1
  have mne:ms≠[]:=List.length_pos_iff.mp lm.1
  have pm:Prim ms:=pr.resolve_left ne
  unfold qep
  rwa [ht]
  refine ⟨ms,rfl,by omega,40,bm,by decide,fun a H2 s2 ha=>?_⟩
  have ht2:=s2 _ _ ht
  rwa [ht2,ha]
  refine ⟨ms,rfl,dI ms,rfl,qra lm,qtn lm,148,fun z hz=>(bm z hz).mono (by decide),qto bm m9,9,m9,by rw [qj4];omega,by decide,by decide,4,by decide,by decide,em9 m9 (by rw [qj4];omega),fun b rs H3 s3 hb rc _=>?_⟩
  obtain ⟨R,Pr⟩:=rc (.inl mne)
  have ht3:=s3 _ _ ht2
  have dv:∃ A:List Int,∀ k,co ms k=cvL A (co rs) k:=gauss Pr R.left
  have lrs:rs.length≤9:=by have:=qlJ R.lz lm R.left;omega
  have brs:∀ z∈rs,Bd 148 z:=DvI.bd dv lm bm m9 R.lz
  rwa [ht3,hb]
  refine ⟨ms,rfl,rs,rfl,R.lz,40,bm,148,brs,by omega,by decide,by omega,by omega,fun no=>absurd dv no,fun r qs H4 s4 hr hl hq=>?_⟩
  obtain ⟨lq,le,q9,bq,_,_,_,rad⟩:=qrb lm bm m9 R hl hq
  have S4:=((s1.trans s2).trans s3).trans s4
  have al:=qbW lq.1
  have out:RadOf (si ns) (si qs):=by rw [eg,qjb];exact rad.smul
  unfold qeo
  rwa [hr,al]
  refine qbM (fun c=>?_) (fun c=>?_)
  · exact k r qs H4 S4 hr lq q9 bq ⟨1,si qs,by decide,out,by rw [Sr.num_one];grind⟩ (by omega)
  · refine ⟨⟨_,SqL.of hr⟩,CompJ.lst (xs:=qs.map V.int) (fun i ys H'=>i≤qs.length∧Same H4 H'∧ys=((qs.map fun z=>-z).take i).map V.int) ⟨Nat.zero_le _,Same.refl H4,rfl⟩ ?_ ?_ ?_⟩
    · rintro i ys H' ⟨h1,s5,rfl⟩
      exact ⟨by rw [List.length_map];exact h1,sz (by rw [List.length_map,List.length_take];omega),SqL.of (s5 _ _ hr)⟩
    · rintro i x ys H' hi ⟨h1,s5,rfl⟩
      rw [List.getElem?_map] at hi
      cases e:qs[i]? with
      | none=>rw [e] at hi;cases hi
      | some z=>
        rw [e] at hi
        obtain rfl:=Option.some.inj hi
        have hi2:i<qs.length:=(List.getElem?_eq_some_iff.mp e).1
        rwa []
        refine ⟨by omega,s5,?_⟩
        rw [List.take_add_one,List.getElem?_map,e,List.map_append]
        rfl
    · rintro ys H' ⟨_,s5,rfl⟩ a5 ha5
      have e:(qs.map fun z=>-z).take (qs.map V.int).length=qs.map fun z=>-z:=by
        rw [List.length_map]
        exact List.take_of_length_le (by rw [List.length_map];exact Nat.le_refl _)
      rw [e]
      have cn:∀ k,co (qs.map fun z=>-z) k = - co qs k:=fun k=>by
        unfold co
        rw [List.getD_eq_getElem?_getD,List.getD_eq_getElem?_getD,List.getElem?_map]
        cases qs[k]? <;> simp
      refine k a5 (qs.map fun z=>-z) _ ((S4.trans s5).trans (qag ha5 _)) qai ⟨by rw [List.length_map];exact lq.1,?_⟩ (by rw [List.length_map];exact q9) ?_ ⟨-1,si qs,by decide,out,qrc qs⟩ ?_
      · rw [List.length_map,cn]
        have:=lq.2
        omega
      · intro z hz
        obtain ⟨y,hy,rfl⟩:=List.mem_map.mp hz
        exact (bq y hy).neg
      · rw [List.length_map,cn]
        have:=lq.2
        omega
theorem qrd {ns:List Int} {t d:Int} (lz:Lz ns) (bn:∀ z∈ns,Bd 36 z) (l:Low t d) (t0:t≠0) (bt:Bd 4 t) (bd:Bd 4 d):Gq 40 40 (ns.map fun n=>qaT (n*t) d):=by
  have d0:d≠0:=Int.ne_of_gt l.pos
  have e:(ns.map fun n=>qaT (n*t) d)=(ns.map (·*t)).map fun n=>qaT n d:=by rw [List.map_map];rfl
  have b:∀ z∈ns.map (·*t),Bd 40 z:=fun z hz=>by obtain ⟨y,hy,rfl⟩:=List.mem_map.mp hz;exact (bn y hy).mul bt
  have r:=qsj d0 b
  rw [← e] at r
  refine ⟨fun q hq=>?_,fun q hq=>?_,_,r.1,(bd.le (by omega)).mono (by decide),r.2⟩
  · obtain ⟨z,_,rfl⟩:=List.mem_map.mp hq;exact qbn d0
  · rw [List.getLast?_map] at hq
    have l0:=lz.1
    have hl:ns.getLast?=some (co ns (ns.length - 1)):=by
      rw [List.getLast?_eq_getElem?]
      unfold co
      rw [List.getD_eq_getElem?_getD,List.getElem?_eq_getElem (by omega)];rfl
    rw [hl] at hq
    obtain rfl:=Option.some.inj hq
    exact qoo d0 (Int.mul_ne_zero lz.2 t0)
theorem qre {H:Hp} {p a q:Addr} {n:Int} {ns:List Int} (h:Hand H p a n) (hq:H q=some (.lst (ns.map V.int))):q≠p:=fun z=>by
  obtain ⟨_,_,_,_,e,_⟩:=h
  subst z
  rw [e] at hq
  injection hq with hq
  injection hq with hq
  cases ns with
  | nil=>simp at hq
  | cons x ns=>rw [List.map_cons] at hq;injection hq with h1 _;cases h1
theorem qj6 (h:qba K vs H Q E):qhe K { nx:=fun _ H'=>Q .non H',rt:=Q } (L2.start ["row", "other", "result", "place", "whole", "step", "factor"] vs) H:=by
  obtain ⟨p,q,ns,ms,b,d,rfl,hp,hq,bn,bm,b9,d9,ln,lm,k⟩:=h
  unfold qhe
  rwa [hp,hq]
  have non:∀ xs:List Int,((!(List.map V.int xs).isEmpty)=false)↔xs.length=0:=fun xs=>by cases xs <;> simp
  simp only [non]
  refine qbM (fun c=>?_) (fun c=>qbM (fun c2=>?_) (fun c2=>?_))
  · exact ⟨sz (by decide),fun r hr=>k r _ (qag hr _) (by rw [if_pos (.inl c)];exact qai)⟩
  · exact ⟨sz (by decide),fun r hr=>k r _ (qag hr _) (by rw [if_pos (.inr c2)];exact qai)⟩
  rw [if_neg (by omega)] at k
  refine ⟨sz (by decide),fun a ha=>?_⟩
  have sa:=qag ha (HO.lst [V.int 0])
  have hpa:=sa _ _ hp
  have hqa:=sa _ _ hq
  rwa [hpa,hqa]
  rw [List.length_map,List.length_map]
  have eL:((ns.length:Int)+(ms.length:Int) - 1).toNat=ns.length+ms.length - 1:=by omega
  rw [eL,qgJ]
  refine ⟨by omega,by omega,sz (by omega),fun w hw=>?_⟩
  generalize hLL:ns.length+ms.length - 1=L at hw ⊢
  have sw:=qag hw (HO.lst (qbT L fun _=>0))
  have w0:H w=none:=by
    cases e:H w with
    | none=>rfl
    | some o=>have z:=sa _ _ e;rw [hw] at z;cases z
  refine ⟨⟨_,SqL.of (sw _ _ hpa)⟩,ForJ.enumL (xs:=ns.map V.int) (fun i σ H'=>∃ x1 x2 x3 x4:Option V,σ=[some (.ref p),some (.ref q),some (.ref w),x1,x2,x3,x4]∧Same H H'∧H' w=some (.lst (qbT L fun k=>ps ns ms i k)))
    ⟨none,none,none,none,rfl,sa.trans sw,qai⟩ ?_ ?_ ?_⟩
  · rintro i σ H' _ ⟨_,_,_,_,_,s1,_⟩
    exact SqL.of (s1 _ _ hp)
  · rintro i x pp σ H1 hi ⟨x1,x2,x3,x4,rfl,s1,hw1⟩ hpp
    rw [List.getElem?_map] at hi
    cases en:ns[i]? with
    | none=>rw [en] at hi;cases hi
    | some z=>
      rw [en] at hi
      obtain rfl:V.int z=x:=Option.some.inj hi
      have il:i<ns.length:=(List.getElem?_eq_some_iff.mp en).1
      have zd:ns.getD i 0=z:=by rw [List.getD_eq_getElem?_getD,en];rfl
      have sp:=qag hpp (HO.tup [V.int (i:Int),V.int z])
      rwa []
      refine qbM (fun c3=>?_) (fun c3=>?_)
      · refine ⟨⟨_,SqL.of (sp _ _ (s1 _ _ hq))⟩,ForJ.enumL (xs:=ms.map V.int) (fun j σ H'=>∃ x3 x4:Option V,σ=[some (.ref p),some (.ref q),some (.ref w),some (.int (i:Int)),some (.int z),x3,x4]∧Same H H'∧H' w=some (.lst (qbT L fun k=>in2 ns ms i j k)))
          ⟨x3,x4,rfl,s1.trans sp,by rw [sp _ _ hw1];exact congrArg (fun l=>some (HO.lst l)) (qb3 fun k _=>(qlx ns ms i k))⟩ ?_ ?_ ?_⟩
        · rintro j σ H' _ ⟨_,_,_,s2,_⟩
          exact SqL.of (s2 _ _ hq)
        · rintro j y pq σ H2 hj ⟨y3,y4,rfl,s2,hw2⟩ hpq
          rw [List.getElem?_map] at hj
          cases em:ms[j]? with
          | none=>rw [em] at hj;cases hj
          | some u=>
            rw [em] at hj
            obtain rfl:V.int u=y:=Option.some.inj hj
            have jl:j<ms.length:=(List.getElem?_eq_some_iff.mp em).1
            have ud:ms.getD j 0=u:=by rw [List.getD_eq_getElem?_getD,em];rfl
            have sq:=qag hpq (HO.tup [V.int (j:Int),V.int u])
            have hw3:=sq _ _ hw2
            rwa [hw3]
            have kl:i+j<L:=by omega
            refine ⟨_,qcS (by omega) (qbb _ kl),qn8 ((bn z (List.mem_of_getElem? en)).mono (by omega)) ((bm u (List.mem_of_getElem? em)).mono (by omega)),_,rfl,i+j,?_,fun b o h=>Kp.upd b o (qao h w0) (sq b o (s2 b o h)),?_⟩
            · rw [qbq];exact qhl (by omega) kl
            · refine qds kl ?_ fun k _ hk=>?_
              · rw [qgH,if_pos rfl,zd,ud]
              · rw [qgH,if_neg hk]
        · rintro σ H2 ⟨y3,y4,rfl,s2,hw2⟩
          rw [List.length_map] at hw2
          exact ⟨_,_,_,_,rfl,s2,hw2⟩
      · refine ⟨s1.trans sp,?_⟩
        rw [sp _ _ hw1]
        refine congrArg (fun l=>some (HO.lst l)) (qb3 fun k _=>?_)
        have z0:z=0:=Decidable.not_not.mp c3
        show ps ns ms i k+_=ps ns ms i k
        rw [zd,z0]
        simp
  · rintro σ H1 ⟨x1,x2,x3,x4,rfl,s1,hw1⟩
    rwa []
    rw [List.length_map] at hw1
    subst hLL
    exact k w H1 s1 hw1
theorem qtp:Low 1 1:=⟨by decide,by decide⟩
theorem qsn {B:List Nu} (lB:qcF B) (h:pwo B (B.length - 1)=1):qij B (B.length - 1)=(1,1):=by
  refine qfK (qlw lB _) qtp ?_
  have:val ((1:Int),(1:Int))=1:=by unfold val;show ((1:Int):Rat) / ((1:Int):Rat)=1;rw [show ((1:Int):Rat)=1 from rfl];grind
  rw [this];exact h
theorem qso {B:List Nu} (h:qij B (B.length - 1)=(1,1)):pwo B (B.length - 1)=1:=by
  unfold pwo
  rw [h]
  unfold val;show ((1:Int):Rat) / ((1:Int):Rat)=1;rw [show ((1:Int):Rat)=1 from rfl];grind
theorem Fq.mono {b c b' c':Nat} {T B:List Nu} (h:Fq b c T B) (h1:b≤b') (h2:c≤c'):Fq b' c' T B:=⟨h.gt.mono h1 h2,h.gb.mono h1 h2,h.ne,h.one,h.cop⟩
theorem Mvd.ne {s:Rat} {b n:Nat} {l L:List Nu} (h:Mvd s b n l L) (h0:l≠[]):L≠[]:=fun z=>h0 (List.length_eq_zero_iff.mp (by rw [← h.len,z];rfl))
theorem Mvd.one {s:Rat} {b n:Nat} {l L:List Nu} (h:Mvd s b n l L) (h1:qij l (l.length - 1)=(1,1)):qij L (L.length - 1)=(1,1):=qsn h.gq.low (by rw [h.len,h.top];exact qso h1)
theorem qdt:∀ (a b:List Int) (x:Int),evI (qaI a b) x=evI a x+evI b x
  | [],b,x=>by show evI b x=0+evI b x;omega
  | a::l,[],x=>by rw [qdd];show _=_+0;omega
  | a::l,b::m,x=>by
    show (a+b)+x*evI (qaI l m) x=a+x*evI l x+(b+x*evI m x)
    rw [qdt l m x];grind
theorem qfU (c:Int):∀ (a:List Int) (x:Int),evI (a.map (c*·)) x=c*evI a x
  | [],x=>by show (0:Int)=c*0;omega
  | a::l,x=>by
    show c*a+x*evI (l.map (c*·)) x=c*(a+x*evI l x)
    rw [qfU c l x];grind
theorem qk0:∀ (a b:List Int) (x:Int),dE (qaI a b) x=dE a x+dE b x
  | [],b,x=>by show dE b x=0+dE b x;omega
  | a::l,[],x=>by rw [qdd];show _=_+0;omega
  | a::l,b::m,x=>by
    show evI (qaI l m) x+x*dE (qaI l m) x=evI l x+x*dE l x+(evI m x+x*dE m x)
    rw [qdt,qk0 l m x];grind
theorem qoq (c:Int):∀ (a:List Int) (x:Int),dE (a.map (c*·)) x=c*dE a x
  | [],x=>by show (0:Int)=c*0;omega
  | a::l,x=>by
    show evI (l.map (c*·)) x+x*dE (l.map (c*·)) x=c*(evI l x+x*dE l x)
    rw [qfU,qoq c l x];grind
theorem qcq {m:Int}:∀ (a b:List Int) (x:Int),(∀ k,m∣co a k - co b k)→m∣evI a x - evI b x
  | [],[],x,_=>⟨0,by show (0:Int) - 0=m*0;omega⟩
  | a::l,[],x,h=>by
    obtain ⟨u,hu⟩:=h 0
    obtain ⟨v,hv⟩:=qcq l [] x fun k=>h (k+1)
    have e1:a - 0=m*u:=hu
    have e2:evI l x - 0=m*v:=hv
    exact ⟨u+x*v,by show a+x*evI l x - 0=_;grind⟩
  | [],b::l,x,h=>by
    obtain ⟨u,hu⟩:=h 0
    obtain ⟨v,hv⟩:=qcq [] l x fun k=>h (k+1)
    have e1:0 - b=m*u:=hu
    have e2:0 - evI l x=m*v:=hv
    exact ⟨u+x*v,by show 0 - (b+x*evI l x)=_;grind⟩
  | a::l,b::l',x,h=>by
    obtain ⟨u,hu⟩:=h 0
    obtain ⟨v,hv⟩:=qcq l l' x fun k=>h (k+1)
    have e1:a - b=m*u:=hu
    exact ⟨u+x*v,by show a+x*evI l x - (b+x*evI l' x)=_;grind⟩
theorem qj7 {m:Int}:∀ (a b:List Int) (x:Int),(∀ k,m∣co a k - co b k)→m∣dE a x - dE b x
  | [],[],x,_=>⟨0,by show (0:Int) - 0=m*0;omega⟩
  | a::l,[],x,h=>by
    obtain ⟨u,hu⟩:=qcq l [] x fun k=>h (k+1)
    obtain ⟨v,hv⟩:=qj7 l [] x fun k=>h (k+1)
    have e1:evI l x - 0=m*u:=hu
    have e2:dE l x - 0=m*v:=hv
    exact ⟨u+x*v,by show evI l x+x*dE l x - 0=_;grind⟩
  | [],b::l,x,h=>by
    obtain ⟨u,hu⟩:=qcq [] l x fun k=>h (k+1)
    obtain ⟨v,hv⟩:=qj7 [] l x fun k=>h (k+1)
    have e1:0 - evI l x=m*u:=hu
    have e2:0 - dE l x=m*v:=hv
    exact ⟨u+x*v,by show 0 - (evI l x+x*dE l x)=_;grind⟩
  | a::l,b::l',x,h=>by
    obtain ⟨u,hu⟩:=qcq l l' x fun k=>h (k+1)
    obtain ⟨v,hv⟩:=qj7 l l' x fun k=>h (k+1)
    exact ⟨u+x*v,by show evI l x+x*dE l x - (evI l' x+x*dE l' x)=_;grind⟩
noncomputable def lin (c:Int) (q:List Int):List Int:=qaI (q.map (c*·)) (0::q)
theorem qqc (c:Int) (q:List Int) (k:Nat):co (lin c q) k=cvL q (co [c,1]) k:=by
  rw [qbe,qaK,lin,qav,qaq]
  cases k with
  | zero=>rw [qam,qam,qaK];omega
  | succ k=>
    rw [qal,qal,qaK,← qaK q k]
    cases k with
    | zero=>rw [qam];omega
    | succ k=>rw [qal,qaB];omega
theorem qsp (c:Int) (q:List Int) (x:Int):evI (lin c q) x=(c+x)*evI q x:=by
  rw [lin,qdt,qfU];show c*evI q x+(0+x*evI q x)=_;grind
theorem qsq (c:Int) (q:List Int) (x:Int):dE (lin c q) x=(c+x)*dE q x+evI q x:=by
  rw [lin,qk0,qoq];show c*dE q x+(evI q x+x*dE q x)=_;grind
theorem parted {m c:Int} {ns qs rs:List Int} (h:∀ k,m∣co rs k - (co ns k - cvL qs (co [c,1]) k)) (l1:rs.length<2):m∣evI ns (-c) - co rs 0∧m∣dE ns (-c) - evI qs (-c):=by
  have h':∀ k,m∣co ns k - co (qaI (lin c qs) rs) k:=fun k=>by
    have e:co (qaI (lin c qs) rs) k=cvL qs (co [c,1]) k+co rs k:=by rw [qaK,qav,← qaK,← qaK,qqc]
    obtain ⟨u,hu⟩:=h k
    exact ⟨-u,by rw [e];grind⟩
  have e1:=qcq _ _ (-c) h'
  have e2:=qj7 _ _ (-c) h'
  rw [qdt,qsp] at e1
  rw [qk0,qsq] at e2
  have er:evI rs (-c)=co rs 0∧dE rs (-c)=0:=by
    match rs,l1 with
    | [],_=>exact ⟨rfl,rfl⟩
    | [v],_=>exact ⟨by show v + -c*0=v;omega,by show (0:Int) + -c*0=0;omega⟩
  rw [er.1] at e1
  rw [er.2] at e2
  have z:c + -c=0:=by omega
  rw [z] at e1 e2
  refine ⟨?_,?_⟩
  · obtain ⟨u,hu⟩:=e1;exact ⟨u,by grind⟩
  · obtain ⟨u,hu⟩:=e2;exact ⟨u,by grind⟩
theorem qtL:∀ (l:List Int) (r h:Int),∃ E,evI l (r+h)=evI l r+h*E
  | [],r,h=>⟨0,by show (0:Int)=0+h*0;omega⟩
  | a::l,r,h=>by
    obtain ⟨E,e⟩:=qtL l r h
    exact ⟨evI l r+(r+h)*E,by show a+(r+h)*evI l (r+h)=a+r*evI l r+h*_;rw [e];grind⟩
theorem qtq:∀ (l:List Int) (r h:Int),∃ E,evI l (r+h)=evI l r+h*dE l r+h*h*E
  | [],r,h=>⟨0,by show (0:Int)=0+h*0+h*h*0;omega⟩
  | a::l,r,h=>by
    obtain ⟨E,e⟩:=qtq l r h
    exact ⟨dE l r+(r+h)*E,by show a+(r+h)*evI l (r+h)=a+r*evI l r+h*(evI l r+r*dE l r)+h*h*_;rw [e];grind⟩
theorem qtr:∀ (l:List Int) (r h:Int),∃ E,dE l (r+h)=dE l r+h*E
  | [],r,h=>⟨0,by show (0:Int)=0+h*0;omega⟩
  | a::l,r,h=>by
    obtain ⟨E,e⟩:=qtL l r h
    obtain ⟨F,f⟩:=qtr l r h
    exact ⟨E+dE l r+(r+h)*F,by show evI l (r+h)+(r+h)*dE l (r+h)=evI l r+r*dE l r+h*_;rw [e,f];grind⟩
theorem hensel {row:List Int} {r w U lead m v r':Int} (h1:m∣evI row r) (h2:m∣w*dE row r - lead) (hU:m*m∣U*lead - 1) (hv:m*m∣v - U*evI row r) (hr:m*m∣r' - (r - v*w)) :
    m∣r' - r∧m*m∣evI row r'∧∀ t w':Int,m*m∣t - U*dE row r'*w→m*m∣w' - w*(2 - t)→m*m∣w'*dE row r' - lead:=by
  obtain ⟨a,ha⟩:=h1
  obtain ⟨b,hb⟩:=h2
  obtain ⟨c,hc⟩:=hU
  obtain ⟨d,hd⟩:=hv
  obtain ⟨e,he⟩:=hr
  obtain ⟨k,hk⟩:∃ k,k = -(U*a*w) - m*d*w+m*e:=⟨_,rfl⟩
  have hh:r'=r+m*k:=by
    have v1:v=U*(m*a)+m*m*d:=by rw [ha] at hd;omega
    rw [hk];rw [v1] at he;grind
  obtain ⟨E,hE⟩:=qtq row r (m*k)
  obtain ⟨F,hF⟩:=qtr row r (m*k)
  rw [← hh] at hE hF
  generalize dE row r=f at hb hE hF
  generalize hfr:dE row r'=f' at hF ⊢
  generalize hev:evI row r'=g at hE ⊢
  rw [ha] at hE
  have hl:U*lead=1+m*m*c:=by omega
  have hw:w*f=lead+m*b:=by omega
  refine ⟨⟨k,by omega⟩,⟨-(a*m*c) - U*a*b+e*f - d*(lead+m*b)+k*k*E,?_⟩,fun t w' ht hw'=>?_⟩
  · have kf:k*f = -(a*(1+m*m*c)) - U*a*m*b - m*d*(lead+m*b)+m*e*f:=by
      rw [hk]
      have:-(U*a*w)*f = -(a*(U*(w*f))):=by grind
      have q2:m*d*w*f=m*d*(w*f):=by grind
      have q3:(-(U*a*w) - m*d*w+m*e)*f = -(U*a*w)*f - m*d*w*f+m*e*f:=by grind
      rw [q3,this,q2,hw]
      have q4:U*(lead+m*b)=U*lead+U*(m*b):=by grind
      rw [q4,hl];grind
    rw [hE]
    have:m*k*f=m*(k*f):=by grind
    rw [this,kf];grind
  · obtain ⟨g',hg⟩:=ht
    obtain ⟨j,hj⟩:=hw'
    obtain ⟨y,hy⟩:∃ y,y=b+w*k*F:=⟨_,rfl⟩
    have hz:w*f'=lead+m*y:=by rw [hF,hy];grind
    have t1:t=U*(w*f')+m*m*g':=by grind
    have w1:w'=w*(2 - t)+m*m*j:=by omega
    have e1:w'*f'=(w*f')*(2 - t)+m*m*j*f':=by rw [w1];grind
    rw [t1,hz] at e1
    refine ⟨-(lead*c) - 2*m*y*c - U*y*y - g'*(lead+m*y)+j*f',?_⟩
    rw [e1]
    have u1:U*(lead+m*y)=1+m*m*c+U*(m*y):=by rw [← hl];grind
    rw [u1]
    have u2:(lead+m*y)*(U*(m*y))=(1+m*m*c)*(m*y)+U*(m*y)*(m*y):=by rw [← hl];grind
    have:(lead+m*y)*(2 - (1+m*m*c+U*(m*y)+m*m*g'))=(lead+m*y)*(1 - m*m*c - m*m*g') - (lead+m*y)*(U*(m*y)):=by grind
    rw [this,u2];grind
theorem qjd {a b c:Int} (h:a∣b*c) (g:Int.gcd a c=1):a∣b:=by
  have h1:Nat.Coprime a.natAbs c.natAbs:=g
  refine Int.natAbs_dvd_natAbs.mp (h1.dvd_of_dvd_mul_right ?_)
  rw [← Int.natAbs_mul]
  exact Int.natAbs_dvd_natAbs.mpr h
theorem qor {s:Int} (h:s≠0):∀ n:Nat,s ^ n≠0
  | 0=>by rw [Int.pow_zero];decide
  | n+1=>by rw [Int.pow_succ];exact Int.mul_ne_zero (qor h n) h
theorem qlS {p:Nat} (hp:Pr p) {a:Int} (h:¬ (p:Int)∣a):Int.gcd (p:Int) a=1:=by
  rcases hp.div _ (Int.gcd_dvd_natAbs_left (p:Int) a) with z | z
  · exact z
  · exact absurd (z ▸ Int.gcd_dvd_right (p:Int) a) h
theorem qos {p:Nat} (hp:Pr p) {a:Int} (h:¬ (p:Int)∣a) (j:Nat):Int.gcd ((p ^ j:Nat):Int) a=1:=by
  have h1:Nat.Coprime p a.natAbs:=qlS hp h
  exact Nat.Coprime.pow_left j h1
theorem qot {p:Nat} (hp:Pr p) {a h:Int} (n:¬ (p:Int)∣a) (j:Nat) (d:((p ^ j:Nat):Int)∣h*a):((p ^ j:Nat):Int)∣h:=qjd d (qos hp n j)
theorem qfx {p:Nat} (hp:Pr p) {a b:Int} (h:(p:Int)∣a*b):(p:Int)∣a∨(p:Int)∣b:=by
  by_cases c:(p:Int)∣b
  · exact .inr c
  · have:=qot hp c 1 (h:=a) (by rw [Nat.pow_one];exact h)
    rw [Nat.pow_one] at this
    exact .inl this
theorem qou {p:Nat} (hp:Pr p) {a:Int}:∀ n:Nat,(p:Int)∣a ^ n→(p:Int)∣a
  | 0,h=>by
    rw [Int.pow_zero] at h
    have:=Int.le_of_dvd (by decide) h
    have:=hp.two
    omega
  | n+1,h=>by
    rw [Int.pow_succ] at h
    rcases qfx hp h with z | z
    · exact qou hp n z
    · exact z
theorem uniq {p j:Nat} (hp:Pr p) {row:List Int} {r x:Int} (d:(p:Int)∣x - r) (h1:((p ^ j:Nat):Int)∣evI row r) (h2:((p ^ j:Nat):Int)∣evI row x) (n:¬ (p:Int)∣dE row r):((p ^ j:Nat):Int)∣x - r:=by
  obtain ⟨E,hE⟩:=qtq row r (x - r)
  rw [show r+(x - r)=x by omega] at hE
  have e:(x - r)*(dE row r+(x - r)*E)=evI row x - evI row r:=by rw [hE];grind
  refine qot hp (a:=dE row r+(x - r)*E) (fun z=>n ?_) j (by rw [e];exact Int.dvd_sub h2 h1)
  obtain ⟨u,hu⟩:=d
  obtain ⟨v,hv⟩:=z
  exact ⟨v - u*E,by rw [hu] at hv;grind⟩
theorem qrf {m t s x:Int} (h:m∣s*x - t):∀ l:List Int,m∣s ^ l.length*evI l x - s*hw l t s
  | []=>⟨0,by show s ^ 0*0 - s*0=m*0;omega⟩
  | a::l=>by
    obtain ⟨u,hu⟩:=qrf h l
    obtain ⟨v,hv⟩:=h
    refine ⟨v*(s ^ l.length*evI l x)+t*u,?_⟩
    show s ^ (l.length+1)*(a+x*evI l x) - s*(a*s ^ l.length+t*hw l t s)=_
    rw [Int.pow_succ]
    generalize s ^ l.length=y at hu ⊢
    generalize evI l x=z at hu ⊢
    grind
theorem qov {t s:Int}:∀ l:List Int,l≠[]→s∣hw l t s - t ^ (l.length - 1)*co l (l.length - 1)
  | [a],_=>⟨0,by show a*s ^ 0+t*0 - t ^ 0*a=s*0;simp⟩
  | a::b::l,_=>by
    obtain ⟨u,hu⟩:=qov (t:=t) (s:=s) (b::l) (by simp)
    have e:co (a::b::l) ((a::b::l).length - 1)=co (b::l) ((b::l).length - 1):=rfl
    have e2:(a::b::l).length - 1=(b::l).length - 1+1:=rfl
    rw [e,e2,Int.pow_succ]
    show s∣a*s ^ (l.length+1)+t*hw (b::l) t s - _
    rw [Int.pow_succ]
    generalize hw (b::l) t s=y at hu ⊢
    generalize t ^ ((b::l).length - 1)=x at hu ⊢
    generalize co (b::l) ((b::l).length - 1)=w at hu ⊢
    generalize s ^ l.length=v
    exact ⟨a*v+t*u,by grind⟩
theorem qow {a b:Int} (h:Int.gcd a b=1) (n:Nat):Int.gcd a (b ^ n)=1:=by
  have h1:Nat.Coprime a.natAbs b.natAbs:=h
  show Nat.gcd a.natAbs (b ^ n).natAbs=1
  rw [Int.natAbs_pow]
  exact Nat.Coprime.pow_right n h1
theorem qlT {t s:Int} {l:List Int} (n:l≠[]) (g:Int.gcd t s=1) (z:hw l t s=0):s∣co l (l.length - 1):=by
  have h:=qov (t:=t) (s:=s) l n
  rw [z] at h
  have h':s∣co l (l.length - 1)*t ^ (l.length - 1):=by obtain ⟨u,hu⟩:=h;exact ⟨-u,by grind⟩
  exact qjd h' (qow (by rw [Int.gcd_comm];exact g) _)
theorem qqd {t s a:Int} {l:List Int} (g:Int.gcd t s=1) (z:hw (a::l) t s=0):t∣a:=by
  have z':a*s ^ l.length+t*hw l t s=0:=z
  have h':t∣a*s ^ l.length:=⟨-hw l t s,by grind⟩
  exact qjd h' (qow g _)
theorem qpz (l:List Int) (t s:Int):hw (0::l) t s=t*hw l t s:=by show 0*_+_=_;omega
theorem qqe {t s:Int} (g:Int.gcd t s=1):∀ (n:Nat) (l:List Int),l.length=n→hw l t s=0→∃ A:List Int,∀ k,co l k=cvL A (co [-t,s]) k
  | 0,l,h,_=>⟨[],fun k=>by rw [List.length_eq_zero_iff.mp h];rfl⟩
  | n+1,[],h,_=>nomatch h
  | n+1,[a],_,z=>by
    have z':a*s ^ 0+t*0=0:=z
    rw [Int.pow_zero] at z'
    exact ⟨[],fun k=>by rw [show a=0 by omega];cases k <;> rfl⟩
  | n+1,a::b::l,h,z=>by
    by_cases t0:t=0
    · subst t0
      have s1:s=1∨s = -1:=by rw [Int.gcd_zero_left] at g;omega
      have z':a*s ^ (l.length+1)+0*hw (b::l) 0 s=0:=z
      have a0:a=0:=by
        have:a*s ^ (l.length+1)=0:=by omega
        rcases Int.mul_eq_zero.mp this with q | q
        · exact q
        · exact absurd q (qor (show s≠0 by omega) _)
      refine ⟨(b::l).map (s*·),fun k=>?_⟩
      rw [qbe]
      cases k with
      | zero=>rw [a0];show (0:Int) = -0*co ((b::l).map (s*·)) 0+0;omega
      | succ k=>
        rw [qal]
        have e:co ((b::l).map (s*·)) k=s*co (b::l) k:=by
          unfold co;rw [List.getD_eq_getElem?_getD,List.getD_eq_getElem?_getD,List.getElem?_map]
          cases (b::l)[k]? <;> simp
        have e2:cvL [s] (co ((b::l).map (s*·))) k=s*co ((b::l).map (s*·)) k:=by
          cases k with
          | zero=>rw [qam];omega
          | succ k=>rw [qal,qaB];omega
        rw [e2,e]
        show co (b::l) k=_
        have ss:s*s=1:=by rcases s1 with z | z <;> rw [z] <;> rfl
        grind
    · obtain ⟨c,hc⟩:=qqd g z
      have z':a*s ^ (l.length+1)+t*(b*s ^ l.length+t*hw l t s)=0:=z
      have z2:hw ((b+s*c)::l) t s=0:=by
        show (b+s*c)*s ^ l.length+t*hw l t s=0
        have:t*((b+s*c)*s ^ l.length+t*hw l t s)=0:=by
          rw [hc,Int.pow_succ] at z'
          generalize s ^ l.length=y at z' ⊢
          generalize hw l t s=w at z' ⊢
          grind
        exact (Int.mul_eq_zero.mp this).resolve_left t0
      obtain ⟨A,hA⟩   := qqe g n ((b+s*c)::l) (by simpa using h) z2
      refine ⟨-c::A,fun k=>?_⟩
      cases k with
      | zero=>rw [qam];show a = -c * -t+0;rw [hc];grind
      | succ k=>
        rw [qal,← hA k]
        cases k with
        | zero=>show b = -c*s+(b+s*c);grind
        | succ k=>show co l k = -c*co [-t,s] (k+2)+co l k;rw [show co [-t,s] (k+2)=0 from rfl];omega
noncomputable abbrev qR (l:List Int):List Rat:=l.map fun z:Int=>(z:Rat)
theorem rpow_ne' {x:Rat} (h:x≠0):∀ n:Nat,x ^ n≠0
  | 0=>by rw [Rat.pow_zero];grind
  | n+1=>by rw [Rat.pow_succ];exact fun z=>(Rat.mul_eq_zero.mp z).elim (rpow_ne' h n) h
theorem qqf {t s:Int} (s0:s≠0):∀ l:List Int,(hw l t s:Rat)*(s:Rat)=Sr.ev (qR l) ((t:Rat) / (s:Rat))*(s:Rat) ^ l.length
  | []=>by show ((0:Int):Rat)*_=0*_;grind
  | a::l=>by
    have s1:(s:Rat)≠0:=qbj s0
    have ih:=qqf s0 l (t:=t)
    show ((a*s ^ l.length+t*hw l t s:Int):Rat)*s=((a:Rat)+(t:Rat) / (s:Rat)*Sr.ev (qR l) _)*(s:Rat) ^ (l.length+1)
    rw [Rat.pow_succ]
    push_cast
    have q:(t:Rat) / (s:Rat)*(s:Rat)=t:=Rat.div_mul_cancel s1
    generalize (t:Rat) / (s:Rat)=x at q ih ⊢
    generalize Sr.ev (qR l) x=y at ih ⊢
    generalize (s:Rat) ^ l.length=z at ih ⊢
    have e:((t:Rat)*(hw l t s:Rat))*(s:Rat)=t*(y*z):=by rw [← ih];grind
    have e2:(t:Rat)*(y*z)=x*y*(z*s):=by rw [← q];grind
    grind
theorem qj8 {t s:Int} (s0:s≠0) (l:List Int):hw l t s=0↔Sr.ev (qR l) ((t:Rat) / (s:Rat))=0:=by
  have s1:(s:Rat)≠0:=qbj s0
  have h:=qqf s0 l (t:=t)
  constructor
  · intro z
    rw [z] at h
    have h:Sr.ev (qR l) ((t:Rat) / (s:Rat))*(s:Rat) ^ l.length=0:=by rw [← h];show ((0:Int):Rat)*_=0;grind
    rcases Rat.mul_eq_zero.mp h with q | q
    · exact q
    · exact absurd q (rpow_ne' s1 _)
  · intro z
    rw [z] at h
    have h:(hw l t s:Rat)*(s:Rat)=0:=by rw [h];grind
    rcases Rat.mul_eq_zero.mp h with q | q
    · exact_mod_cast q
    · exact absurd q s1
theorem qsr (l:List Int):Sr.L (qR l)=si l:=(qoT l).symm
theorem qss {t s:Int} (s0:s≠0) {l A:List Int} (h:∀ k,co l k=cvL A (co [-t,s]) k):hw l t s=0:=by
  rw [qj8 s0]
  have e:Sr.L (qR l)=Sr.L (qaF (qR A) (qR [-t,s])):=by rw [Sr.L_mulRow,qsr,qsr,qsr];exact qlR h
  rw [Sr.ev_congr e,Sr.ev_mul]
  have s1:(s:Rat)≠0:=qbj s0
  have q:(t:Rat) / (s:Rat)*(s:Rat)=t:=Rat.div_mul_cancel s1
  have:Sr.ev (qR [-t,s]) ((t:Rat) / (s:Rat))=0:=by
    show ((-t:Int):Rat)+(t:Rat) / (s:Rat)*((s:Rat)+(t:Rat) / (s:Rat)*0)=0
    push_cast;grind
  rw [this];grind
theorem qpA {ns rs:List Int} (n0:si ns≠0) (h:∃ (c:Rat) (L:Sr),c≠0∧RadOf (si ns) L∧si rs=Sr.num c*L) (x:Rat):Sr.ev (qR ns) x=0↔Sr.ev (qR rs) x=0:=by
  obtain ⟨c,L,c0,⟨S,M,pS,pL,pM,e1,e2,cs⟩,e3⟩:=h
  obtain ⟨s,rfl⟩:=pS
  obtain ⟨l,rfl⟩:=pL
  have S0:Sr.L s≠0:=fun z=>n0 (by rw [e1,z];grind)
  have en:Sr.L (qR ns)=Sr.L (qaF s l):=by rw [qsr,Sr.L_mulRow];exact e1
  have er:Sr.L (qR rs)=Sr.L (l.map (c*·)):=by rw [qsr,Sr.L_scal];exact e3
  rw [Sr.ev_congr en,Sr.ev_congr er,Sr.ev_mul,Sr.ev_scal]
  constructor
  · intro z
    rcases Rat.mul_eq_zero.mp z with q | q
    · have hD:Sr.D (Sr.L s)*Sr.L l=(M - Sr.D (Sr.L l))*Sr.L s:=by
        rw [e1,Sr.D_mul (Sr.Pol.L s)] at e2
        grind
      obtain ⟨m,a,⟨a',rfl⟩,pw⟩:=Sr.rad_pow _ (Sr.L s) (Sr.L l) _ (Sr.L_bn s) S0 (Sr.Pol.L l) (Sr.Pol.sub pM (Sr.Pol.D (Sr.Pol.L l))) hD
      obtain ⟨lm,hlm⟩:∃ lm:Nat→List Rat,∀ n,Sr.L (lm n)=Sr.L l ^ n∧Sr.ev (lm n) x=Sr.ev l x ^ n:=by
        refine ⟨fun n=>Nat.rec [1] (fun _ y=>qaF y l) n,fun n=>?_⟩
        induction n with
        | zero=>exact ⟨by show Sr.L [1]=_;rw [← Sr.num_L,Sr.num_one];grind,by show (1:Rat)+x*0=_;rw [Rat.pow_zero];grind⟩
        | succ n ih=>exact ⟨by show Sr.L (qaF _ l)=_;rw [Sr.L_mulRow,ih.1];grind,by show Sr.ev (qaF _ l) x=_;rw [Sr.ev_mul,ih.2,Rat.pow_succ]⟩
      have e:Sr.L (lm m)=Sr.L (qaF a' s):=by rw [(hlm m).1,Sr.L_mulRow];exact pw
      have v:=Sr.ev_congr e x
      rw [(hlm m).2,Sr.ev_mul,q] at v
      have l0:Sr.ev l x=0:=by
        by_cases y:Sr.ev l x=0
        · exact y
        · exact absurd (show Sr.ev l x ^ m=0 by rw [v];grind) (rpow_ne' y m)
      rw [l0];grind
    · rw [q];grind
  · intro z
    rw [(Rat.mul_eq_zero.mp z).resolve_left c0];grind
theorem siegel {A B:List Int} {T b:Nat} (lA:Lz A) (lB:Lz B) (q:QI (co A) (co B) qbZ) (hA:∀ k,Bd b (co A k)) (hB:∀ k,Bd b (co B k)) (n1:2≤A.length) (m1:2≤B.length) (T0:0<T)
    (big:(2*((A.length+B.length)*2 ^ b)) ^ (A.length+B.length - 2)<T):∃ (U V:List Int) (d:Int),d≠0∧d.natAbs<T∧∀ k,cvL U (co A) k+cvL V (co B) k=co [d] k:=by
  generalize hn:A.length - 1=n at *
  generalize hm:B.length - 1=m at *
  generalize hE:(A.length+B.length)*2 ^ b=E at *
  have N1:A.length+B.length - 2=n+m:=by omega
  rw [N1] at big
  have hAn:∀ k,(co A k).natAbs≤2 ^ b:=fun k=>Nat.le_of_lt (hA k)
  have hBn:∀ k,(co B k).natAbs≤2 ^ b:=fun k=>Nat.le_of_lt (hB k)
  have E0:0<E:=by rw [← hE];exact Nat.mul_pos (by omega) (Nat.pow_pos (by decide))
  obtain ⟨u,hu⟩:∃ u:Nat→List Int,∀ t,u t=(digs T (m+n) t).take m:=⟨_,fun _=>rfl⟩
  obtain ⟨v,hv⟩:∃ v:Nat→List Int,∀ t,v t=(digs T (m+n) t).drop m:=⟨_,fun _=>rfl⟩
  obtain ⟨f,hf⟩:∃ f:Nat→Nat→Int,∀ t k,f t k=cvL (u t) (co A) k+cvL (v t) (co B) k:=⟨_,fun _ _=>rfl⟩
  have ul:∀ t,(u t).length=m:=fun t=>by rw [hu,List.length_take,qfr];omega
  have vl:∀ t,(v t).length=n:=fun t=>by rw [hv,List.length_drop,qfr];omega
  have uz:∀ t,∀ z∈u t,0≤z∧z<(T:Int):=fun t z hz=>qho T0 _ t z (List.mem_of_mem_take (hu t ▸ hz))
  have vz:∀ t,∀ z∈v t,0≤z∧z<(T:Int):=fun t z hz=>qho T0 _ t z (List.mem_of_mem_drop (hv t ▸ hz))
  have fb:∀ t k,(f t k).natAbs<E*T:=fun t k=>by
    have h1:=qj0 (q:=T - 1) hAn (u t) (fun z hz=>by have:=uz t z hz;omega) k
    have h2:=qj0 (q:=T - 1) hBn (v t) (fun z hz=>by have:=vz t z hz;omega) k
    rw [ul] at h1
    rw [vl] at h2
    have h3:(f t k).natAbs≤(m+n)*((T - 1)*2 ^ b):=by
      rw [Nat.add_mul,hf]
      omega
    refine Nat.lt_of_le_of_lt h3 ?_
    rw [← hE]
    have e:(m+n)*((T - 1)*2 ^ b)=((m+n)*2 ^ b)*(T - 1):=by rw [Nat.mul_comm (T - 1),Nat.mul_assoc]
    rw [e]
    exact Nat.lt_of_lt_of_le (Nat.mul_lt_mul_of_pos_left (by omega) (Nat.mul_pos (by omega) (Nat.pow_pos (by decide)))) (Nat.mul_le_mul_right T (Nat.mul_le_mul_right _ (by omega)))
  obtain ⟨e0,he0⟩:∃ e0:Nat→Nat,∀ t,e0 t=(f t 0 / (T:Int)+(E:Int)).toNat:=⟨_,fun _=>rfl⟩
  obtain ⟨ek,hek⟩:∃ ek:Nat→Nat→Nat,∀ t k,ek t k=(f t (k+1)+((E*T:Nat):Int)).toNat:=⟨_,fun _ _=>rfl⟩
  have e0r:∀ t,0≤f t 0 / (T:Int)+(E:Int)∧f t 0 / (T:Int)+(E:Int)<2*(E:Int):=fun t=>by
    have h:=fb t 0
    have h1:-((E:Int)*(T:Int))≤f t 0:=by have:((E*T:Nat):Int)=(E:Int)*(T:Int):=by push_cast;rfl
                                         omega
    have h2:f t 0<(E:Int)*(T:Int):=by have:((E*T:Nat):Int)=(E:Int)*(T:Int):=by push_cast;rfl
                                      omega
    have q1:-(E:Int)≤f t 0 / (T:Int):=by
      refine (Int.le_ediv_iff_mul_le (by omega)).mpr ?_
      rw [Int.neg_mul];exact h1
    have q2:f t 0 / (T:Int)<(E:Int):=Int.ediv_lt_of_lt_mul (by omega) h2
    omega
  have ekr:∀ t k,0≤f t (k+1)+((E*T:Nat):Int)∧f t (k+1)+((E*T:Nat):Int)<2*((E*T:Nat):Int):=fun t k=>by
    have h:=fb t (k+1)
    omega
  have e0l:∀ t,e0 t<2*E:=fun t=>by have:=e0r t;rw [he0];omega
  have ekl:∀ t k,ek t k<2*(E*T):=fun t k=>by have:=ekr t k;rw [hek];omega
  have cl:∀ t,e0 t+2*E*enc (2*(E*T)) (m+n - 1) (ek t)<2*E*(2*(E*T)) ^ (m+n - 1):=fun t=>by
    have h1:=qoa (M:=2*(E*T)) (m+n - 1) (ek t) (fun k _=>ekl t k)
    have h2:2*E*(enc (2*(E*T)) (m+n - 1) (ek t)+1)≤2*E*(2*(E*T)) ^ (m+n - 1):=Nat.mul_le_mul_left _ h1
    have h3:=e0l t
    rw [Nat.mul_add,Nat.mul_one] at h2
    omega
  have room:2*E*(2*(E*T)) ^ (m+n - 1)<T ^ (m+n):=by
    obtain ⟨N,hN⟩:∃ N,m+n=N+1:=⟨m+n - 1,by omega⟩
    rw [hN,Nat.add_sub_cancel]
    rw [Nat.add_comm n m,hN] at big
    have e:2*E*(2*(E*T)) ^ N=(2*E) ^ (N+1)*T ^ N:=by
      rw [← Nat.mul_assoc 2 E T,Nat.mul_pow (2*E) T N,Nat.pow_succ,Nat.mul_comm ((2*E) ^ N) (2*E),Nat.mul_assoc (2*E)]
    rw [e,Nat.pow_succ T,Nat.mul_comm (T ^ N) T]
    exact Nat.mul_lt_mul_of_pos_right big (Nat.pow_pos T0)
  obtain ⟨s,t,st,ht,e⟩:=php _ _ _ (fun i _=>cl i) room
  obtain ⟨q0,q1⟩:=qi3 (e0l s) (e0l t) e
  have qk:=qkQ (m+n - 1) _ _ (fun k _=>ekl s k) (fun k _=>ekl t k) q1
  have w0:∀ k,(co (u s) k - co (u t) k)=co (qaI (u s) ((u t).map ((-1)*·))) k:=fun k=>by rw [qaK,qaK,qaK,qav,qaq];omega
  have df:∀ k,f s k - f t k=cvL (qaI (u s) ((u t).map ((-1)*·))) (co A) k+cvL (qaI (v s) ((v t).map ((-1)*·))) (co B) k:=fun k=>by
    rw [qav,qav,qaq,qaq,hf,hf]
    omega
  have hi:∀ k,0<k→f s k - f t k=0:=fun k hk=>by
    rcases Nat.lt_or_ge k (m+n) with c | c
    · have:=qk (k - 1) (by omega)
      have r1:=ekr s (k - 1)
      have r2:=ekr t (k - 1)
      rw [hek,hek,show k - 1+1=k by omega] at this
      rw [show k - 1+1=k by omega] at r1 r2
      omega
    · have z:∀ t,f t k=0:=fun t=>by
        rw [hf,qbA (n:=A.length) (fun i hi=>qaw hi) (u t) k (by rw [ul];omega),qbA (n:=B.length) (fun i hi=>qaw hi) (v t) k (by rw [vl];omega)];rfl
      rw [z,z];rfl
  have d0:(f s 0 - f t 0).natAbs<T:=by
    have r1:=e0r s
    have r2:=e0r t
    rw [he0,he0] at q0
    have q0:f s 0 / (T:Int)=f t 0 / (T:Int):=by omega
    have m1:=Int.emod_add_mul_ediv (f s 0) T
    have m2:=Int.emod_add_mul_ediv (f t 0) T
    have b1:=Int.emod_nonneg (f s 0) (show (T:Int)≠0 by omega)
    have b2:=Int.emod_lt_of_pos (f s 0) (show (0:Int)<T by omega)
    have b3:=Int.emod_nonneg (f t 0) (show (T:Int)≠0 by omega)
    have b4:=Int.emod_lt_of_pos (f t 0) (show (0:Int)<T by omega)
    rw [q0] at m1
    omega
  refine ⟨qaI (u s) ((u t).map ((-1)*·)),qaI (v s) ((v t).map ((-1)*·)),f s 0 - f t 0,fun z0=>?_,d0,fun k=>?_⟩
  · have all:∀ k,cvL (qaI (u s) ((u t).map ((-1)*·))) (co A) k+cvL (qaI (v s) ((v t).map ((-1)*·))) (co B) k=0:=fun k=>by
      rw [← df]
      cases k with
      | zero=>exact z0
      | succ k=>exact hi (k+1) (by omega)
    have ll:∀ {a c:List Int} {x:Nat},a.length=x→c.length=x→(qaI a (c.map ((-1)*·))).length=x:=fun {a c x} h1 h2=>by
      rw [qfs,List.length_map,h1,h2];omega
    obtain ⟨c1,c2⟩:=qob lA lB q (by rw [ll (ul s) (ul t)];omega) (by rw [ll (vl s) (vl t)];omega) all
    have eu:u s=u t:=qlK (by rw [ul,ul]) fun k=>by have:=c1 k;rw [← w0] at this;omega
    have ev:v s=v t:=qlK (by rw [vl,vl]) fun k=>by
      have:=c2 k
      rw [qaK,qav,qaq,← qaK,← qaK] at this;omega
    have:digs T (m+n) s=digs T (m+n) t:=by
      rw [← List.take_append_drop m (digs T (m+n) s),← List.take_append_drop m (digs T (m+n) t)]
      rw [← hu,← hv,← hu,← hv,eu,ev]
    have:=qi4 T0 _ _ _ (by omega) (by omega) this
    omega
  · rw [← df]
    cases k with
    | zero=>rfl
    | succ k=>rw [hi (k+1) (by omega)];exact (qaw (by simp)).symm
theorem qk1 (A B:List Int) (x:Int) (L:List Int) (h:∀ k,co L k=cvL A (co B) k):evI L x=evI A x*evI B x:=by
  have e:∀ k,(0:Int)∣co L k - co (qaF A B) k:=fun k=>⟨0,by rw [h k,qaK (qaF A B),qar,← qan (fun j=>qaK B j)];omega⟩
  have h1:=qcq _ _ x e
  have h2:evI L x=evI (qaF A B) x:=by have:=Int.zero_dvd.mp h1;omega
  rw [h2]
  have:∀ A:List Int,evI (qaF A B) x=evI A x*evI B x:=by
    intro A
    induction A with
    | nil=>show (0:Int)=0*_;omega
    | cons a l ih=>
      show evI (qaI (B.map (a*·)) (0::qaF l B)) x=(a+x*evI l x)*evI B x
      rw [qdt,qfU]
      show a*evI B x+(0+x*evI (qaF l B) x)=_
      rw [ih];grind
  exact this A
theorem qrg {a b:List Int} (h:∀ k,co a k=co b k) (x:Int):evI a x=evI b x:=by
  have h1:=qcq (m:=0) a b x fun k=>⟨0,by rw [h k];omega⟩
  have:=Int.zero_dvd.mp h1
  omega
theorem qrh:∀ (l:List Int) (x:Int),evI (dI l) x=dE l x:=by
  have key:∀ (l:List Int) (c x:Int),∀ D:List Int,(∀ k,co D k=((k:Int)+c)*co l k)→evI D x=c*evI l x+x*dE l x:=by
    intro l
    induction l with
    | nil=>
      intro c x D h
      rw [qe2 D x fun k=>by rw [h k];show _*0=(0:Int);omega]
      show (0:Int)=c*0+x*0;omega
    | cons a l ih=>
      intro c x D h
      have e:=ih (c+1) x (D.drop 1) fun k=>by
        have:=h (k+1)
        have e1:co (D.drop 1) k=co D (k+1):=by unfold co;rw [List.getD_eq_getElem?_getD,List.getD_eq_getElem?_getD,List.getElem?_drop,Nat.add_comm]
        rw [e1,this]
        show (((k+1:Nat):Int)+c)*co l k=_
        push_cast;grind
      have e2:evI D x=co D 0+x*evI (D.drop 1) x:=by
        cases D with
        | nil=>show (0:Int)=0+x*0;omega
        | cons d D=>rfl
      rw [e2,e,h 0]
      show ((0:Nat)+c)*a+x*((c+1)*evI l x+x*dE l x)=c*(a+x*evI l x)+x*(evI l x+x*dE l x)
      push_cast;grind
  intro l x
  cases l with
  | nil=>rfl
  | cons a l=>
    have e:=key l 1 x (dI (a::l)) fun k=>by
      rw [qkY]
      show ((k+1:Nat):Int)*co l k=_
      push_cast;rfl
    rw [e]
    show 1*evI l x+x*dE l x=evI l x+x*dE l x
    omega
noncomputable def syA (a:Int):List Int→List Int
  | []=>[]
  | _::l=>qaI l ((syA a l).map (a*·))
theorem qk2 (a:Int):∀ l:List Int,(syA a l).length=l.length - 1
  | []=>rfl
  | x::l=>by
    show (qaI l ((syA a l).map (a*·))).length=l.length
    rw [qfs,List.length_map,qk2 a l];omega
theorem qqg (a:Int):∀ (l:List Int) (x:Int),evI l x - evI l a=(x - a)*evI (syA a l) x
  | [],x=>by show (0:Int) - 0=_*0;omega
  | b::l,x=>by
    show b+x*evI l x - (b+a*evI l a)=(x - a)*evI (qaI l ((syA a l).map (a*·))) x
    rw [qdt,qfU]
    have:=qqg a l x
    generalize evI (syA a l) x=y at this ⊢
    grind
theorem qri (a:Int):∀ l:List Int,2≤l.length→co (syA a l) (l.length - 2)=co l (l.length - 1)
  | x::y::l,_=>by
    show co (qaI (y::l) ((syA a (y::l)).map (a*·))) l.length=co (y::l) l.length
    rw [qaK (qaI _ _),qav,qaq,← qaK,← qaK]
    rw [qaw (a:=syA a (y::l)) (by rw [qk2];exact Nat.le_refl _)]
    omega
theorem few {p:Nat} (hp:Pr p):∀ (n:Nat) (l:List Int) (ss:List Int),l.length=n+1→¬ (p:Int)∣co l n→ss.Nodup→(∀ x∈ss,0≤x∧x<p∧(p:Int)∣evI l x)→ss.length≤n
  | 0,l,ss,hl,h0,_,h=>by
    match l,hl with
    | [a],_=>
      cases ss with
      | nil=>exact Nat.le_refl _
      | cons x ss=>
        have:=(h x (List.mem_cons_self ..)).2.2
        have e:evI [a] x=a:=by show a+x*0=a;omega
        rw [e] at this
        exact absurd this h0
  | n+1,l,[],hl,h0,_,h=>Nat.zero_le _
  | n+1,l,a::ss,hl,h0,nd,h=>by
    obtain ⟨a0,ap,ha⟩:=h a (List.mem_cons_self ..)
    rw [List.nodup_cons] at nd
    refine Nat.succ_le_succ (few hp n (syA a l) ss (by rw [qk2];omega) ?_ nd.2 fun x hx=>?_)
    · have:=qri a l (by omega)
      rw [show l.length - 2=n by omega,show l.length - 1=n+1 by omega] at this
      rw [this];exact h0
    · obtain ⟨x0,xp,hx'⟩:=h x (List.mem_cons_of_mem _ hx)
      refine ⟨x0,xp,?_⟩
      have e:(p:Int)∣(x - a)*evI (syA a l) x:=by rw [← qqg];exact Int.dvd_sub hx' ha
      rcases qfx hp e with z | z
      · exfalso
        have ne:x≠a:=fun z=>nd.1 (z ▸ hx)
        obtain ⟨k,hk⟩:=z
        rcases Int.lt_trichotomy k 0 with q | q | q
        · have:(p:Int)*k≤(p:Int)*(-1):=Int.mul_le_mul_of_nonneg_left (by omega) (by omega)
          omega
        · rw [q] at hk;omega
        · have:(p:Int)*1≤(p:Int)*k:=Int.mul_le_mul_of_nonneg_left (by omega) (by omega)
          omega
      · exact z
theorem qk3:∀ A:List Rat,∃ (N:Int) (Z:List Int),N≠0∧A.map ((N:Rat)*·)=Z.map fun z:Int=>(z:Rat)
  | []=>⟨1,[],by decide,rfl⟩
  | a::A=>by
    obtain ⟨N,Z,N0,h⟩:=qk3 A
    refine ⟨(a.den:Int)*N,(a.num*N)::Z.map ((a.den:Int)*·),Int.mul_ne_zero (by have:=a.den_nz;omega) N0,?_⟩
    rw [List.map_cons,List.map_cons]
    congr 1
    · have h:=Rat.num_divInt_den a
      rw [Rat.divInt_eq_div] at h
      have d:((a.den:Int):Rat)≠0:=by have:=a.den_nz;exact_mod_cast this
      have e:((a.den:Int):Rat)=(a.den:Rat):=by push_cast;rfl
      push_cast
      grind
    · rw [List.map_map]
      have e:A.map (fun x=>(((a.den:Int)*N:Int):Rat)*x)=(A.map ((N:Rat)*·)).map ((a.den:Rat)*·):=by
        rw [List.map_map]
        refine List.map_congr_left fun x _=>?_
        show _=(a.den:Rat)*((N:Rat)*x)
        push_cast;grind
      rw [e,h,List.map_map]
      refine List.map_congr_left fun z _=>?_
      show (a.den:Rat)*(z:Rat)=(((a.den:Int)*z:Int):Rat)
      push_cast;rfl
theorem qts {rs:List Int} (c:Sr.Cs (si rs) (si (dI rs))):QI (co rs) (co (dI rs)) qbZ:=by
  obtain ⟨U,W,⟨u,rfl⟩,⟨w,rfl⟩,e⟩:=c
  obtain ⟨N,Z,N0,hZ⟩:=qk3 u
  obtain ⟨M,Y,M0,hY⟩:=qk3 w
  refine ⟨N*M,Int.mul_ne_zero N0 M0,Z.map (M*·),Y.map (N*·),fun k=>?_⟩
  rw [qaq,qaq]
  have e1:Sr.num (N:Rat)*Sr.L u=si Z:=by rw [← Sr.L_scal,hZ,qoT]
  have e2:Sr.num (M:Rat)*Sr.L w=si Y:=by rw [← Sr.L_scal,hY,qoT]
  have e3:Sr.num (M:Rat)*(si Z*si rs)+Sr.num (N:Rat)*(si Y*si (dI rs))=Sr.num ((N:Rat)*M):=by
    rw [← e1,← e2]
    have:Sr.num (N:Rat)*Sr.num (M:Rat)=Sr.num ((N:Rat)*M):=Sr.num_num _ _
    rw [← this]
    have q:Sr.num (M:Rat)*(Sr.num (N:Rat)*Sr.L u*si rs)+Sr.num (N:Rat)*(Sr.num (M:Rat)*Sr.L w*si (dI rs))=Sr.num (N:Rat)*Sr.num (M:Rat)*(Sr.L u*si rs+Sr.L w*si (dI rs)):=by grind
    rw [q,e];grind
  have e4:=congrFun (congrArg Sr.c e3) k
  rw [qoT Z,qoT Y,Sr.L_mul,Sr.L_mul] at e4
  have e4:(Sr.num (M:Rat)*(⟨cvL (Z.map fun z:Int=>(z:Rat)) (si rs).c⟩:Sr)).c k+(Sr.num (N:Rat)*(⟨cvL (Y.map fun z:Int=>(z:Rat)) (si (dI rs)).c⟩:Sr)).c k=(Sr.num ((N:Rat)*M)).c k:=e4
  rw [Sr.num_mul,Sr.num_mul] at e4
  have e5:(M:Rat)*((cvL Z (co rs) k:Int):Rat)+(N:Rat)*((cvL Y (co (dI rs)) k:Int):Rat)=((N:Rat)*M)*qbZ k:=by
    rw [qiw,qiw];exact e4
  have e6:((qbZ k:Int):Rat)=qbZ k:=by cases k <;> rfl
  rw [← e6] at e5
  exact_mod_cast e5.symm
theorem qst {ns rs:List Int} (n0:si ns≠0) (h:∃ (c:Rat) (L:Sr),c≠0∧RadOf (si ns) L∧si rs=Sr.num c*L):QI (co rs) (co (dI rs)) qbZ:=by
  obtain ⟨c,L,c0,⟨S,M,pS,pL,pM,e1,e2,cs⟩,e3⟩:=h
  obtain ⟨U,W,pU,pW,e⟩:=Sr.simple_cop pS pL pM n0 e1 e2 cs
  refine qts ⟨Sr.num c⁻¹*U,Sr.num c⁻¹*W,(Sr.Pol.num _).mul pU,(Sr.Pol.num _).mul pW,?_⟩
  have i:=Sr.num_inv c0
  have d:si (dI rs)=Sr.num c*Sr.D L:=by rw [← Sr.D_num,← e3,qtK]
  rw [d,e3]
  have q:Sr.num c⁻¹*U*(Sr.num c*L)+Sr.num c⁻¹*W*(Sr.num c*Sr.D L)=Sr.num c⁻¹*Sr.num c*(U*L+W*Sr.D L):=by grind
  rw [q,i,e];grind
noncomputable def isP (p:Nat):Bool:=decide (2≤p) && (List.range 45).all fun d=>decide (d<2) || decide (p≤d) || decide (p % d≠0)
noncomputable def plist:List Nat:=(List.range 2001).filter isP
theorem qqh {p:Nat} (h:isP p=true) (l:p<2025):Pr p:=by
  unfold isP at h
  rw [Bool.and_eq_true] at h
  obtain ⟨h1,h2⟩:=h
  have h1:=of_decide_eq_true h1
  have sm:∀ d,2≤d→d<45→d<p→¬ d∣p:=fun d d2 d45 dp hd=>by
    have:=List.all_eq_true.mp h2 d (List.mem_range.mpr d45)
    rw [Bool.or_eq_true,Bool.or_eq_true] at this
    rcases this with (z | z) | z
    · have:=of_decide_eq_true z;omega
    · have:=of_decide_eq_true z;omega
    · exact of_decide_eq_true z (Nat.mod_eq_zero_of_dvd hd)
  refine ⟨h1,fun d hd=>?_⟩
  obtain ⟨e,he⟩:=hd
  by_cases d1:d=1
  · exact .inl d1
  by_cases dp:d=p
  · exact .inr dp
  exfalso
  have d0:d≠0:=fun z=>by rw [z] at he;omega
  have e0:e≠0:=fun z=>by rw [z] at he;omega
  have e1:e≠1:=fun z=>by rw [z] at he;omega
  rcases Nat.lt_or_ge d 45 with q | q
  · have dl:d<p:=by
      have:d*2≤d*e:=Nat.mul_le_mul_left d (by omega)
      omega
    exact sm d (by omega) q dl ⟨e,he⟩
  · rcases Nat.lt_or_ge e 45 with q' | q'
    · have el:e<p:=by
        have:2*e≤d*e:=Nat.mul_le_mul_right e (by omega)
        omega
      exact sm e (by omega) q' el ⟨d,by rw [he,Nat.mul_comm]⟩
    · have:=Nat.mul_le_mul q q'
      omega
theorem qlU {N:Int}:∀ l:List Nat,l.Nodup→(∀ p∈l,Pr p∧(p:Int)∣N)→((l.foldr (·*·) 1:Nat):Int)∣N
  | [],_,_=>Int.one_dvd _
  | p::l,nd,h=>by
    rw [List.nodup_cons] at nd
    obtain ⟨c,hc⟩:=qlU l nd.2 fun q hq=>h q (List.mem_cons_of_mem _ hq)
    obtain ⟨hp,hpN⟩:=h p (List.mem_cons_self ..)
    have np:∀ m:List Nat,(∀ q∈m,Pr q∧q≠p)→¬ (p:Int)∣((m.foldr (·*·) 1:Nat):Int):=by
      intro m
      induction m with
      | nil=>
        intro _ z
        have:=Int.le_of_dvd (by decide) z
        have:=hp.two
        have:((([]:List Nat).foldr (·*·) 1:Nat):Int)=1:=rfl
        omega
      | cons q m ih=>
        intro hq z
        have z:(p:Int)∣((q*m.foldr (·*·) 1:Nat):Int):=z
        rw [Int.natCast_mul] at z
        rcases qfx hp z with y | y
        · obtain ⟨q1,q2⟩:=hq q (List.mem_cons_self ..)
          rcases q1.div p (Int.natCast_dvd_natCast.mp y) with w | w
          · have:=hp.two;omega
          · exact q2 w.symm
        · exact ih (fun r hr=>hq r (List.mem_cons_of_mem _ hr)) y
    have y:(p:Int)∣c:=by
      rw [hc] at hpN
      rcases qfx hp hpN with z | z
      · exact absurd z (np l fun q hq=>⟨(h q (List.mem_cons_of_mem _ hq)).1,fun z=>nd.1 (z ▸ hq)⟩)
      · exact z
    obtain ⟨e,he⟩:=y
    refine ⟨e,?_⟩
    show N=((p*l.foldr (·*·) 1:Nat):Int)*e
    rw [Int.natCast_mul,hc,he];grind
theorem qmq:2 ^ 2600<plist.foldr (·*·) 1:=by decide +kernel
theorem qmr {N:Int} (N0:N≠0) (b:N.natAbs<2 ^ 2600):∃ g,Pr g∧g≤2000∧¬ (g:Int)∣N:=by
  have:∃ g∈plist,¬ (g:Int)∣N:=by
    refine Classical.byContradiction fun hn=>?_
    have hall:∀ p∈plist,Pr p∧(p:Int)∣N:=fun p hp=>by
      have hm:=List.mem_filter.mp hp
      exact ⟨qqh hm.2 (by have:=List.mem_range.mp hm.1;omega),Classical.byContradiction fun z=>hn ⟨p,hp,z⟩⟩
    have d:=qlU plist (List.nodup_range.filter _) hall
    have:=Nat.le_of_dvd (by omega) (Int.natAbs_dvd_natAbs.mpr d)
    have pp:=qmq
    rw [Int.natAbs_natCast] at this
    omega
  obtain ⟨g,hg,n⟩:=this
  have hm:=List.mem_filter.mp hg
  have:=List.mem_range.mp hm.1
  exact ⟨g,qqh hm.2 (by omega),by omega,n⟩
theorem qms {rs:List Int} (lz:Lz rs) (l9:rs.length≤9) (b:∀ z∈rs,Bd 148 z) (q:QI (co rs) (co (dI rs)) qbZ):∃ g,Pr g∧g≤2000∧¬ (g:Int)∣co rs (rs.length - 1)∧∀ x,(g:Int)∣evI rs x→¬ (g:Int)∣evI (dI rs) x:=by
  have bl:(co rs (rs.length - 1)).natAbs<2 ^ 148:=qbc b _
  generalize hlead:co rs (rs.length - 1)=lead at bl
  have l0:lead≠0:=by rw [← hlead];exact lz.2
  have hlen:(dI rs).length=rs.length - 1:=by unfold dI;rw [List.length_map,List.length_range]
  have key:∃ d:Int,d≠0∧d.natAbs<2 ^ 2400∧∀ (g:Nat) (x:Int),Pr g→¬ (g:Int)∣lead→(g:Int)∣evI rs x→(g:Int)∣evI (dI rs) x→(g:Int)∣d:=by
    rcases Nat.lt_or_ge rs.length 3 with c | c
    · refine ⟨1,by decide,by decide +kernel,fun g x hg hn h1 h2=>?_⟩
      exfalso
      match rs,lz,hlead,c,h1,h2 with
      | [],lz,_,_,_,_=>exact absurd lz.1 (by simp)
      | [a],_,hl,_,h1,_=>
        have:a=lead:=hl
        have e:evI [a] x=a:=by show a+x*0=a;omega
        rw [e,this] at h1;exact hn h1
      | [a,e],_,hl,_,_,h2=>
        have:e=lead:=hl
        have e:evI (dI [a,e]) x=e:=by rw [qrh];show (e+x*0)+x*(0+x*0)=e;omega
        rw [e,this] at h2;exact hn h2
    · have bd:∀ k,Bd 152 (co (dI rs) k):=fun k=>by
        rw [qkY]
        by_cases hk:k+1<rs.length
        · have e:Bd 4 ((k+1:Nat):Int):=by unfold Bd;rw [Int.natAbs_natCast];have:(2:Nat) ^ 4=16:=by decide
                                          omega
          have:=e.mul (qbc b (k+1))
          exact this
        · rw [qaw (by omega),Int.mul_zero];exact qez _
      have lB:Lz (dI rs):=by
        refine ⟨by omega,?_⟩
        rw [qkY,hlen,show rs.length - 1 - 1+1=rs.length - 1 by omega,hlead]
        exact Int.mul_ne_zero (by omega) l0
      obtain ⟨U,V,d,d0,db,hd⟩:=siegel (T:=2 ^ 2400) lz lB q (fun k=>(qbc b k).mono (by omega)) bd (by omega) (by omega) (Nat.pow_pos (by decide)) (by
        have h1:2*((rs.length+(dI rs).length)*2 ^ 152)≤2 ^ 158:=by
          have:(rs.length+(dI rs).length)*2 ^ 152≤17*2 ^ 152:=Nat.mul_le_mul_right _ (by omega)
          have e:17*2 ^ 152*2≤2 ^ 158:=by decide +kernel
          omega
        refine Nat.lt_of_le_of_lt (Nat.pow_le_pow_left h1 _) (Nat.lt_of_le_of_lt (Nat.pow_le_pow_right (Nat.pow_pos (by decide)) (show rs.length+(dI rs).length - 2≤15 by omega)) ?_)
        decide +kernel)
      refine ⟨d,d0,db,fun g x _ _ h1 h2=>?_⟩
      have e:evI (qaI (qaF U rs) (qaF V (dI rs))) x=evI [d] x:=qrg (fun k=>by
        rw [← hd k,qaK (qaI _ _),qav,qar,qar,← qan (fun j=>qaK rs j),← qan (fun j=>qaK (dI rs) j)]) x
      rw [qdt,qk1 U rs x (qaF U rs) (fun k=>by rw [qaK (qaF U rs),qar,← qan (fun j=>qaK rs j)]),qk1 V (dI rs) x (qaF V (dI rs)) (fun k=>by rw [qaK (qaF V (dI rs)),qar,← qan (fun j=>qaK (dI rs) j)])] at e
      have e2:evI [d] x=d:=by show d+x*0=d;omega
      rw [← e2,← e]
      exact Int.dvd_add (Int.dvd_trans h1 (Int.dvd_mul_left ..)) (Int.dvd_trans h2 (Int.dvd_mul_left ..))
  obtain ⟨d,d0,db,hd⟩:=key
  obtain ⟨g,hg,g2,hn⟩:=qmr (N:=d*lead) (Int.mul_ne_zero d0 l0) (by
    rw [Int.natAbs_mul]
    have:d.natAbs*lead.natAbs≤2 ^ 2400*2 ^ 148:=Nat.mul_le_mul (Nat.le_of_lt db) (Nat.le_of_lt bl)
    rw [← Nat.pow_add] at this
    exact Nat.lt_of_le_of_lt this (Nat.pow_lt_pow_right (by decide) (by decide)))
  have nl:¬ (g:Int)∣lead:=fun z=>hn (Int.dvd_trans z (Int.dvd_mul_left ..))
  exact ⟨g,hg,g2,nl,fun x h1 h2=>hn (Int.dvd_trans (hd g x hg nl h1 h2) (Int.dvd_mul_right ..))⟩
theorem qqi {t s lead:Int} {E:Nat} (l0:0<lead) (s0:0<s) (ht:s.natAbs*2 ^ E≤t.natAbs):∀ l:List Int,l≠[]→co l (l.length - 1)=lead→(∀ i,i+1<l.length→2 ^ (l.length - 1 - i)*(co l i).natAbs≤lead.natAbs*2 ^ ((l.length - 1 - i)*E))→lead.natAbs*t.natAbs ^ (l.length - 1)≤2 ^ (l.length - 1)*(hw l t s).natAbs
  | [a],_,e,_=>by
    have e:a=lead:=e
    have:hw [a] t s=a:=by show a*s ^ 0+t*0=a;rw [Int.pow_zero];omega
    rw [this,e]
    show lead.natAbs*t.natAbs ^ 0≤2 ^ 0*lead.natAbs
    rw [Nat.pow_zero,Nat.pow_zero];omega
  | a::b::l,_,e,h=>by
    have ih:=qqi l0 s0 ht (b::l) (by simp) e fun i hi=>by
      have:=h (i+1) (by simp at hi ⊢;omega)
      have e1:(a::b::l).length - 1 - (i+1)=(b::l).length - 1 - i:=by simp
      rw [e1] at this
      exact this
    have h0:=h 0 (by simp)
    have e1:(a::b::l).length - 1=(b::l).length - 1+1:=rfl
    rw [Nat.sub_zero] at h0
    rw [e1] at h0 ⊢
    have h0:2 ^ ((b::l).length - 1+1)*a.natAbs≤lead.natAbs*2 ^ (((b::l).length - 1+1)*E):=h0
    have eh:hw (a::b::l) t s=a*s ^ ((b::l).length - 1+1)+t*hw (b::l) t s:=rfl
    rw [eh]
    generalize (b::l).length - 1=k at ih h0 ⊢
    generalize hw (b::l) t s=y at ih ⊢
    have tri:t.natAbs*y.natAbs≤(a*s ^ (k+1)+t*y).natAbs+a.natAbs*s.natAbs ^ (k+1):=by
      have q1:(a*s ^ (k+1)).natAbs=a.natAbs*s.natAbs ^ (k+1):=by rw [Int.natAbs_mul,Int.natAbs_pow]
      have q2:(t*y).natAbs=t.natAbs*y.natAbs:=Int.natAbs_mul ..
      rw [← q1,← q2];omega
    have st:s.natAbs ^ (k+1)*2 ^ ((k+1)*E)≤t.natAbs ^ (k+1):=by
      rw [Nat.mul_comm (k+1) E,Nat.pow_mul,← Nat.mul_pow]
      exact Nat.pow_le_pow_left ht _
    have c1:2 ^ (k+1)*a.natAbs*s.natAbs ^ (k+1)≤lead.natAbs*t.natAbs ^ (k+1):=by
      refine Nat.le_trans (Nat.mul_le_mul_right _ h0) ?_
      rw [Nat.mul_assoc,Nat.mul_comm (2 ^ _)]
      exact Nat.mul_le_mul_left _ st
    have c2:2*(lead.natAbs*t.natAbs ^ (k+1))≤2 ^ (k+1)*(t.natAbs*y.natAbs):=by
      have:=Nat.mul_le_mul_left (2*t.natAbs) ih
      rw [Nat.pow_succ,Nat.pow_succ]
      have e1:2*t.natAbs*(lead.natAbs*t.natAbs ^ k)=2*(lead.natAbs*(t.natAbs ^ k*t.natAbs)):=by grind
      have e2:2*t.natAbs*(2 ^ k*y.natAbs)=2 ^ k*2*(t.natAbs*y.natAbs):=by grind
      rw [e1,e2] at this
      exact this
    have c3:=Nat.mul_le_mul_left (2 ^ (k+1)) tri
    rw [Nat.mul_add] at c3
    have e3:2 ^ (k+1)*(a.natAbs*s.natAbs ^ (k+1))=2 ^ (k+1)*a.natAbs*s.natAbs ^ (k+1):=(Nat.mul_assoc ..).symm
    rw [e3] at c3
    omega
theorem qrj {t s lead:Int} {E:Nat} {l:List Int} (l0:0<lead) (s0:0<s) (n:l≠[]) (e:co l (l.length - 1)=lead) (h:∀ i,i+1<l.length→2 ^ (l.length - 1 - i)*(co l i).natAbs≤lead.natAbs*2 ^ ((l.length - 1 - i)*E)) (z:hw l t s=0):t.natAbs<s.natAbs*2 ^ E:=by
  refine Classical.byContradiction fun c=>?_
  have q:=qqi l0 s0 (Nat.not_lt.mp c) l n e h
  rw [z] at q
  have t0:0<t.natAbs:=Nat.lt_of_lt_of_le (Nat.mul_pos (by omega) (Nat.pow_pos (by decide))) (Nat.not_lt.mp c)
  have:=Nat.mul_pos (show 0<lead.natAbs by omega) (Nat.pow_pos (n:=l.length - 1) t0)
  have e0:2 ^ (l.length - 1)*(0:Int).natAbs=0:=by show _*0=0;omega
  rw [e0] at q
  omega
theorem qrs:([]:List V).length≤sizeLine:=Nat.zero_le _
theorem qk4 (h:qdq K vs H Q E):qmh K { nx:=fun _ H'=>Q .non H',rt:=Q } (L2.start ["whole", "divisor"] vs) H:=by
  obtain ⟨n,rfl,hn,k⟩:=h
  refine while_by (fun m σ H'=>∃ d:Nat,σ=[some (.int (n:Int)),some (.int (d:Int))]∧H'=H∧2≤d∧m=n+2 - d∧d≤n+2∧∀ e,2≤e→e<d→¬ e∣n) n ⟨2,rfl,rfl,by omega,by omega,by omega,fun e h1 h2=>by omega⟩ ?_
  rintro m σ H' ⟨d,rfl,rfl,d2,rfl,dn,hd⟩
  have bd:Bd 30 (d:Int):=by unfold Bd;rw [Int.natAbs_natCast];have:(2:Nat) ^ 30=1073741824:=by decide
                            omega
  refine ⟨_,rfl,_,rfl,_,_,rfl,rfl,qgK bd bd,_,rfl,_,_,rfl,rfl,_,rfl,qbM (fun c=>?_) (fun c=>?_)⟩
  · have c:=of_decide_eq_true c
    have c':d*d≤n:=by exact_mod_cast c
    have dl:d<n:=by
      have:d*2≤d*d:=Nat.mul_le_mul_left d d2
      omega
    refine ⟨_,fun _ _ h=>h,?_⟩
    refine ⟨_,rfl,_,rfl,_,_,rfl,rfl,by omega,rfl,_,rfl,qbM (fun z=>?_) (fun z=>?_)⟩
    · refine k false ⟨(fun z=>by cases z),fun hp=>?_⟩
      have z:(n:Int) % (d:Int)=0:=by simpa using z
      have dv:d∣n:=Int.natCast_dvd_natCast.mp (Int.dvd_of_emod_eq_zero z)
      rcases hp.div d dv with y | y <;> omega
    · have z:¬ (n:Int) % (d:Int)=0:=by simpa using z
      refine ⟨_,rfl,_,_,rfl,rfl,?_⟩
      refine ⟨n+2 - (d+1),by omega,d+1,rfl,rfl,by omega,rfl,by omega,fun e e2 ed he=>?_⟩
      rcases Nat.lt_succ_iff_lt_or_eq.mp ed with y | y
      · exact hd e e2 y he
      · rw [y] at he;exact z (Int.emod_eq_zero_of_dvd (Int.natCast_dvd_natCast.mpr he))
  · have c:¬ (d:Int)*(d:Int)≤(n:Int):=fun y=>c (decide_eq_true y)
    have c':n<d*d:=by have:(n:Int)<((d*d:Nat):Int):=by push_cast;omega
                      omega
    refine ⟨_,rfl,_,_,rfl,rfl,k _ ?_⟩
    constructor
    · intro y
      have n2:1<(n:Int):=of_decide_eq_true y
      refine ⟨by omega,fun e he=>?_⟩
      obtain ⟨f,hf⟩:=he
      by_cases e1:e=1
      · exact .inl e1
      by_cases en:e=n
      · exact .inr en
      exfalso
      have e0:e≠0:=fun z=>by rw [z] at hf;omega
      have f0:f≠0:=fun z=>by rw [z] at hf;omega
      have f1:f≠1:=fun z=>by rw [z] at hf;omega
      rcases Nat.lt_or_ge e d with y1 | y1
      · exact hd e (by omega) y1 ⟨f,hf⟩
      · rcases Nat.lt_or_ge f d with y2 | y2
        · exact hd f (by omega) y2 ⟨e,by rw [hf,Nat.mul_comm]⟩
        · have:=Nat.mul_le_mul y1 y2
          omega
    · intro y
      have:=y.two
      exact decide_eq_true (by omega)
theorem qh2 (h:qb5 K vs H Q E):qiY K { nx:=fun _ H'=>Q .non H',rt:=Q } (L2.start ["whole", "found"] vs) H:=by
  obtain ⟨n,g,rfl,hg,ng,g2,k⟩:=h
  refine ⟨_,rfl,_,_,rfl,rfl,?_⟩
  refine while_by (fun m σ H'=>∃ d:Nat,σ=[some (.int (n:Int)),some (.int (d:Int))]∧H'=H∧n<d∧d≤g∧m=g - d) (g - (n+1)) ⟨n+1,rfl,rfl,by omega,by omega,rfl⟩ ?_
  rintro m σ H' ⟨d,rfl,rfl,nd,dg,rfl⟩
  refine qhU ⟨_,rfl,d,rfl,by omega,fun b hb=>⟨_,rfl,?_⟩⟩
  cases b with
  | true=>
    show (if (!true)=true then _ else _)
    refine qbM (fun c=>by cases c) (fun _=>?_)
    exact ⟨_,rfl,k d (hb.mp rfl) nd dg⟩
  | false=>
    refine qbM (fun _=>?_) (fun c=>absurd rfl c)
    have ne:d≠g:=fun z=>by have:=hb.mpr (z ▸ hg);cases this
    refine ⟨_,fun _ _ h=>h,?_⟩
    exact ⟨_,rfl,_,_,rfl,rfl,g - (d+1),by omega,d+1,rfl,rfl,by omega,by omega,rfl⟩
theorem qrk (ns:List Int) (x:Int) {i:Nat} (h:i<ns.length):evI (ns.drop (ns.length - (i+1))) x=co ns (ns.length - 1 - i)+x*evI (ns.drop (ns.length - i)) x:=by
  have e:ns.length - (i+1)<ns.length:=by omega
  rw [List.drop_eq_getElem_cons e,show ns.length - (i+1)+1=ns.length - i by omega]
  show ns[ns.length - (i+1)]+_=_
  have:co ns (ns.length - 1 - i)=ns[ns.length - (i+1)]:=by
    unfold co
    rw [List.getD_eq_getElem?_getD,show ns.length - 1 - i=ns.length - (i+1) by omega,List.getElem?_eq_getElem e];rfl
  rw [this]
theorem qhs {ns:List Int} {i:Nat} {x:V} (hi:i<ns.length) (h:(ns.map V.int)[i]?=some x):x=.int (co ns i):=by
  rw [List.getElem?_map,List.getElem?_eq_getElem hi] at h
  unfold co
  rw [List.getD_eq_getElem?_getD,List.getElem?_eq_getElem hi]
  exact (Option.some.inj h).symm
theorem qgv (h:qbr K vs H Q E):qhg K { nx:=fun _ H'=>Q .non H',rt:=Q } (L2.start ["row", "place", "modulus", "value", "whole"] vs) H:=by
  obtain ⟨a,ns,x,m,rfl,ha,l1,m0,bm,bx,k⟩:=h
  refine ⟨_,rfl,_,_,rfl,SqL.of ha,ForJ.rev (xs:=ns.map V.int) (fun i σ H'=>∃ (v:Int) (u:Option V),σ=[some (.ref a),some (.int x),some (.int m),some (.int v),u]∧H'=H∧i≤ns.length∧0≤v∧v<m∧m∣v - evI (ns.drop (ns.length - i)) x) ⟨0,none,rfl,rfl,Nat.zero_le _,Int.le_refl _,m0,?_⟩ ?_ ?_ ?_⟩
  · rw [Nat.sub_zero,List.drop_length];exact ⟨0,by show (0:Int) - 0=_;omega⟩
  · rintro i σ H' _ ⟨v,u,rfl,rfl,_⟩
    exact SqL.of ha
  · rintro i y σ H' hi hy ⟨v,u,rfl,rfl,_,v0,vm,hv⟩
    rw [List.length_map] at hi hy
    have hy:=qhs (by omega) hy
    subst hy
    have bv:Bd 1000 v:=bm.le (by omega)
    refine ⟨_,rfl,_,rfl,_,_,rfl,rfl,qgK bv bx,_,rfl,_,_,rfl,rfl,_,rfl,_,_,rfl,rfl,m0,?_⟩
    refine ⟨_,_,rfl,rfl,by omega,Int.emod_nonneg _ (by omega),Int.emod_lt_of_pos _ m0,?_⟩
    rw [qrk ns x hi]
    obtain ⟨c,hc⟩:=hv
    obtain ⟨d,hd⟩:=qbd (v*x+co ns (ns.length - 1 - i)) m
    exact ⟨d+c*x,by have:v=m*c+evI (ns.drop (ns.length - i)) x:=by omega
                    grind⟩
  · rintro σ H' ⟨v,u,rfl,rfl,_,v0,vm,hv⟩
    rw [List.length_map,Nat.sub_self,List.drop_zero] at hv
    exact ⟨_,rfl,k v v0 vm hv⟩
theorem qox (ns:List Int) (t s:Int) {i:Nat} (h:i<ns.length):hw (ns.drop (ns.length - (i+1))) t s=co ns (ns.length - 1 - i)*s ^ i+t*hw (ns.drop (ns.length - i)) t s:=by
  have e:ns.length - (i+1)<ns.length:=by omega
  rw [List.drop_eq_getElem_cons e,show ns.length - (i+1)+1=ns.length - i by omega]
  show ns[ns.length - (i+1)]*s ^ (ns.drop (ns.length - i)).length+_=_
  have:co ns (ns.length - 1 - i)=ns[ns.length - (i+1)]:=by
    unfold co
    rw [List.getD_eq_getElem?_getD,show ns.length - 1 - i=ns.length - (i+1) by omega,List.getElem?_eq_getElem e];rfl
  rw [this,List.length_drop,show ns.length - (ns.length - i)=i by omega]
theorem qmt (h:qcD K vs H Q E):qn4 K { nx:=fun _ H'=>Q .non H',rt:=Q } (L2.start ["_law_row", "_law_c", "_law_found", "_law_scale_here", "_law_one"] vs) H:=by
  obtain ⟨a,b,ns,t,s,rfl,ha,hb,l1,bn,bt,bs,k⟩:=h
  refine ⟨_,rfl,_,_,rfl,SqL.of ha,ForJ.rev (xs:=ns.map V.int) (fun i σ H'=>∃ (u:Option V),σ=[some (.ref a),some (.ref b),some (.int (hw (ns.drop (ns.length - i)) t s)),some (.int (s ^ i)),u]∧H'=H∧i≤ns.length∧Bd (200*i+200) (hw (ns.drop (ns.length - i)) t s)) ⟨none,?_,rfl,Nat.zero_le _,?_⟩ ?_ ?_ ?_⟩
  · rw [Nat.sub_zero,List.drop_length,Int.pow_zero];rfl
  · rw [Nat.sub_zero,List.drop_length];exact qez _
  · rintro i σ H' _ ⟨u,rfl,rfl,_⟩
    exact SqL.of ha
  · rintro i y σ H' hi hy ⟨u,rfl,rfl,_,bh⟩
    rw [List.length_map] at hi hy
    have hy:=qhs (by omega) hy
    subst hy
    have bp:Bd (100*i+1) (s ^ i):=bs.pow i
    have bc:=qbc bn (ns.length - 1 - i)
    refine ⟨_,rfl,_,rfl,_,_,_,_,rfl,rfl,hb,rfl,_,_,rfl,rfl,qgK bh bt (by omega),_,rfl,_,rfl,_,_,rfl,rfl,qgK bc bp,_,_,rfl,rfl,?_⟩
    refine ⟨_,rfl,_,rfl,_,_,_,_,rfl,rfl,hb,rfl,_,_,rfl,rfl,qgK bp bs,?_⟩
    refine ⟨some (.int (co ns (ns.length - 1 - i))),?_,rfl,by omega,?_⟩
    · rw [qox ns t s hi,Int.pow_succ,Int.mul_comm t,Int.add_comm];rfl
    · rw [qox ns t s hi]
      have h1:Bd (200*i+300) (co ns (ns.length - 1 - i)*s ^ i):=(bc.mul bp).mono (by omega)
      have h2:Bd (200*i+300) (t*hw (ns.drop (ns.length - i)) t s):=(bt.mul bh).mono (by omega)
      exact (h1.add h2).mono (by omega)
  · rintro σ H' ⟨u,rfl,rfl,_,_⟩
    rw [List.length_map,Nat.sub_self,List.drop_zero]
    exact ⟨_,rfl,k⟩
theorem qsu (ns:List Int) (m x:Int):m∣evI (ns.map (· % m)) x - evI ns x∧m∣evI (dI (ns.map (· % m))) x - evI (dI ns) x:=by
  have h:∀ k,m∣co (ns.map (· % m)) k - co ns k:=fun k=>by
    have:co (ns.map (· % m)) k=co ns k % m:=by
      unfold co
      rw [List.getD_eq_getElem?_getD,List.getD_eq_getElem?_getD,List.getElem?_map]
      cases ns[k]? with
      | none=>show (0:Int)=0 % m;rw [Int.zero_emod]
      | some z=>rfl
    rw [this];exact qbd _ _
  refine ⟨qcq _ _ x h,qcq _ _ x fun k=>?_⟩
  rw [qkY,qkY,← Int.mul_sub]
  exact Int.dvd_trans (h (k+1)) (Int.dvd_mul_left ..)
theorem qgw (h:qa8 K vs H Q E):qhi K { nx:=fun _ H'=>Q .non H',rt:=Q } (L2.start ["row", "prime", "short", "slope", "starts", "start"] vs) H:=by
  obtain ⟨a,ns,p,rfl,ha,hp,p2,lz,l9,kN,kS⟩:=h
  have pp:=hp.two
  have aL:atI (ns.map V.int) (-1)=some (V.int (lst' ns)):=qbW lz.1
  refine ⟨_,rfl,_,rfl,_,_,_,_,rfl,rfl,ha,aL,_,rfl,_,_,rfl,rfl,by omega,rfl,_,rfl,qbM (fun c=>?_) (fun c=>?_)⟩
  · have c:lst' ns % (p:Int)=0:=by simpa using c
    exact kN (.inl (Int.dvd_of_emod_eq_zero c)) H (Same.refl H)
  have c:¬ lst' ns % (p:Int)=0:=by simpa using c
  have nl:¬ (p:Int)∣lst' ns:=fun z=>c (Int.emod_eq_zero_of_dvd z)
  show qdi K _ _ _
  refine qeC ⟨_,rfl,_,rfl,a,ns,p,rfl,ha,by omega,by omega,fun b hb=>?_⟩
  have sb:=qag hb (HO.lst ((ns.map (· % (p:Int))).map V.int))
  have hbb:upd H b (HO.lst ((ns.map (· % (p:Int))).map V.int)) b=_:=qai
  generalize upd H b (HO.lst ((ns.map (· % (p:Int))).map V.int))=H1 at sb hbb ⊢
  have bs:∀ z∈ns.map (· % (p:Int)),Bd 20 z:=fun z hz=>by
    obtain ⟨y,_,rfl⟩:=List.mem_map.mp hz
    have h1:=Int.emod_nonneg y (show (p:Int)≠0 by omega)
    have h2:=Int.emod_lt_of_pos y (show (0:Int)<p by omega)
    unfold Bd
    have:(2:Nat) ^ 20=1048576:=by decide
    omega
  refine qkI ⟨_,rfl,b,_,20,rfl,hbb,by rw [List.length_map];omega,bs,by decide,fun d H2 s2 hd=>?_⟩
  have hb2:=s2 _ _ hbb
  refine qde ⟨qrs,fun e he=>?_⟩
  have se:=qag he (HO.lst [])
  have hee:upd H2 e (HO.lst []) e=_:=qai
  have hb3:=se _ _ hb2
  have hd3:=se _ _ hd
  have s3:=(sb.trans s2).trans se
  have eN:H e=none:=by
    cases q:H e with
    | none=>rfl
    | some o=>have:=(sb.trans s2) _ _ q;rw [he] at this;cases this
  have nb:b≠e:=qao hb2 he
  have nd:d≠e:=qao hd he
  generalize upd H2 e (HO.lst [])=H3 at se hee hb3 hd3 s3 ⊢
  have bp:Bd 1000 (p:Int):=by unfold Bd;rw [Int.natAbs_natCast];exact Nat.lt_of_le_of_lt p2 (by decide +kernel)
  refine ⟨_,rfl,_,rfl,by omega,by omega,?_⟩
  rw [Int.toNat_natCast]
  refine ForR.by (fun i σ H'=>∃ (ss:List Int) (u:Option V),σ=[some (.ref a),some (.int (p:Int)),some (.ref b),some (.ref d),some (.ref e),u]∧Same H H'∧H' b=some (.lst ((ns.map (· % (p:Int))).map V.int))∧H' d=some (.lst ((dI (ns.map (· % (p:Int)))).map V.int))∧H' e=some (.lst (ss.map V.int))∧i≤p∧ss.length≤i∧ss.Nodup∧(∀ x:Int,0≤x→x<(i:Int)→(p:Int)∣evI ns x→x∈ss)∧∀ x∈ss,0≤x∧x<(i:Int)∧(p:Int)∣evI ns x∧¬ (p:Int)∣evI (dI ns) x) ⟨[],none,rfl,s3,hb3,hd3,hee,Nat.zero_le _,Nat.le_refl _,List.nodup_nil,fun x h1 h2=>by omega,fun x h=>nomatch h⟩ ?_ ?_
  · rintro i σ H' hi ⟨ss,u,rfl,sH,hb4,hd4,he4,ip,sl,nd4,hin,hall⟩
    have bx:Bd 1000 (0+(i:Int)):=by rw [Int.zero_add];exact bp.le (by omega)
    obtain ⟨m1,m2⟩:=qsu ns (p:Int) (0+(i:Int))
    rw [Int.zero_add] at m1 m2 bx
    show qdK _ _ _ _ _ _
    rw [Int.zero_add]
    refine qhV ⟨_,rfl,_,rfl,_,rfl,b,_,_,_,rfl,hb4,by rw [List.length_map];omega,by omega,bp,bx,fun v v0 vp hv=>?_⟩
    refine ⟨rfl,_,rfl,qbM (fun z=>?_) (fun z=>?_)⟩
    · have z:v=0:=by simpa using z
      have e1:(p:Int)∣evI ns (i:Int):=by
        obtain ⟨x,hx⟩:=hv;obtain ⟨y,hy⟩:=m1
        exact ⟨-x - y,by rw [Int.mul_sub,Int.mul_neg];omega⟩
      refine qhV ⟨_,rfl,_,rfl,_,rfl,d,_,_,_,rfl,hd4,by unfold dI;rw [List.length_map,List.length_range,List.length_map];omega,by omega,bp,bx,fun w w0 wp hw=>?_⟩
      refine ⟨rfl,_,rfl,qbM (fun y=>?_) (fun y=>?_)⟩
      · have y:w=0:=by simpa using y
        have e2:(p:Int)∣evI (dI ns) (i:Int):=by
          obtain ⟨x,hx⟩:=hw;obtain ⟨u,hu⟩:=m2
          exact ⟨-x - u,by rw [Int.mul_sub,Int.mul_neg];omega⟩
        exact kN (.inr ⟨_,e1,e2⟩) H' sH
      · have y:¬ w=0:=by simpa using y
        have e2:¬ (p:Int)∣evI (dI ns) (i:Int):=fun q=>y (by
          obtain ⟨x,hx⟩:=hw;obtain ⟨u,hu⟩:=m2;obtain ⟨t,ht⟩:=q
          have:(p:Int)∣w:=⟨x+u+t,by rw [Int.mul_add,Int.mul_add];omega⟩
          have:=Int.emod_eq_zero_of_dvd this
          rw [Int.emod_eq_of_lt w0 wp] at this
          exact this)
        refine ⟨_,rfl,qdm he4,_,rfl,_,_,_,rfl,rfl,he4,sz (by rw [List.length_map];omega),?_⟩
        have ue:upd H' e (HO.lst (ss.map V.int++[V.int (i:Int)]))=upd H' e (HO.lst ((ss++[(i:Int)]).map V.int)):=by rw [List.map_append];rfl
        refine ⟨ss++[(i:Int)],_,rfl,fun x o hx=>Kp.upd x o (qao hx eN) (sH x o hx),(qay nb).trans hb4,(qay nd).trans hd4,by rw [List.map_append];exact qai,by omega,by rw [List.length_append];exact Nat.succ_le_succ sl,?_,fun x x0 xi hx=>?_,fun x hx=>?_⟩
        · refine List.nodup_append.mpr ⟨nd4,by simp,fun x hx y hy=>?_⟩
          have:=(hall x hx).2.1
          rw [List.mem_singleton.mp hy];omega
        · rcases Int.lt_or_eq_of_le (show x≤(i:Int) by omega) with q | q
          · exact List.mem_append_left _ (hin x x0 q hx)
          · exact List.mem_append_right _ (by rw [q];exact List.mem_singleton_self _)
        · rcases List.mem_append.mp hx with q | q
          · obtain ⟨q1,q2,q3⟩:=hall x q
            exact ⟨q1,by omega,q3⟩
          · rw [List.mem_singleton.mp q];exact ⟨by omega,by omega,e1,e2⟩
    · have z:¬ v=0:=by simpa using z
      have e1:¬ (p:Int)∣evI ns (i:Int):=fun q=>z (by
        obtain ⟨x,hx⟩:=hv;obtain ⟨y,hy⟩:=m1;obtain ⟨t,ht⟩:=q
        have:(p:Int)∣v:=⟨x+y+t,by rw [Int.mul_add,Int.mul_add];omega⟩
        have:=Int.emod_eq_zero_of_dvd this
        rw [Int.emod_eq_of_lt v0 vp] at this
        exact this)
      refine ⟨ss,_,rfl,sH,hb4,hd4,he4,by omega,by omega,nd4,fun x x0 xi hx=>?_,fun x hx=>?_⟩
      · rcases Int.lt_or_eq_of_le (show x≤(i:Int) by omega) with q | q
        · exact hin x x0 q hx
        · rw [q] at hx;exact absurd hx e1
      · obtain ⟨q1,q2,q3⟩:=hall x hx
        exact ⟨q1,by omega,q3⟩
  · rintro σ H' ⟨ss,u,rfl,sH,hb4,hd4,he4,ip,sl,nd4,hin,hall⟩
    exact ⟨_,rfl,kS e ss H' sH he4 nl nd4 hin hall⟩
theorem qsv (i:Int):i.natAbs<2 ^ blN i:=by
  unfold blN
  split
  · rename_i h;rw [h];decide
  · exact Nat.lt_log2_self
theorem qqj {i:Int} (h:i≠0):2 ^ (blN i - 1)≤i.natAbs∧1≤blN i:=by
  unfold blN
  rw [if_neg h,Nat.add_sub_cancel]
  exact ⟨Nat.log2_self_le (by omega),by omega⟩
theorem qoy {b:Nat} {i:Int} (h:Bd b i):blN i≤b:=by
  by_cases z:i=0
  · unfold blN;rw [if_pos z];exact Nat.zero_le _
  · have h1:=(qqj z).1
    have h2:i.natAbs<2 ^ b:=h
    have:=(Nat.pow_lt_pow_iff_right (a:=2) (by decide)).mp (Nat.lt_of_le_of_lt h1 h2)
    omega
theorem qrl {w lead:Int} {st E:Nat} (l0:0<lead) (s0:0<st) (h:-(((blN lead:Int) - (blN w:Int) - 1) / (st:Int))≤(E:Int) - 1):2 ^ st*w.natAbs≤lead.natAbs*2 ^ (st*E):=by
  have q:((blN lead:Int) - (blN w:Int) - 1) / (st:Int)*(st:Int)≤(blN lead:Int) - (blN w:Int) - 1:=Int.ediv_mul_le _ (by omega)
  have q2:(1 - (E:Int))*(st:Int)≤((blN lead:Int) - (blN w:Int) - 1) / (st:Int)*(st:Int):=Int.mul_le_mul_of_nonneg_right (by omega) (by omega)
  have q3:(blN w:Int)+(st:Int)≤(st:Int)*(E:Int)+(blN lead:Int) - 1:=by
    have:(1 - (E:Int))*(st:Int)=(st:Int) - (st:Int)*(E:Int):=by grind
    omega
  obtain ⟨h1,h2⟩:=qqj (show lead≠0 by omega)
  have q4:blN w+st≤st*E+(blN lead - 1):=by
    have:((st*E:Nat):Int)=(st:Int)*(E:Int):=by push_cast;rfl
    omega
  have e1:2 ^ st*w.natAbs≤2 ^ st*2 ^ blN w:=Nat.mul_le_mul_left _ (Nat.le_of_lt (qsv w))
  rw [← Nat.pow_add] at e1
  refine Nat.le_trans e1 (Nat.le_trans (Nat.pow_le_pow_right (by decide) (show st+blN w≤(blN lead - 1)+st*E by omega)) ?_)
  rw [Nat.pow_add]
  exact Nat.mul_le_mul_right _ h1
theorem qgx (h:qbJ K vs H Q E):qhh K { nx:=fun _ H'=>Q .non H',rt:=Q } (L2.start ["row", "sizes", "step", "whole"] vs) H:=by
  obtain ⟨a,ns,rfl,ha,lz,l9,bn,l0,k⟩:=h
  have aL:atI (ns.map V.int) (-1)=some (V.int (lst' ns)):=qbW lz.1
  refine qde ⟨qrs,fun e he=>?_⟩
  have se:=qag he (HO.lst [])
  have hee:upd H e (HO.lst []) e=_:=qai
  have ha1:=se _ _ ha
  have ne:a≠e:=qao ha he
  generalize upd H e (HO.lst [])=H1 at se hee ha1 ⊢
  have ll:((ns.map V.int).length:Int)=(ns.length:Int):=by rw [List.length_map]
  refine ⟨_,rfl,_,_,rfl,ha1,_,_,rfl,⟨by omega,by omega,by omega,by omega⟩,?_⟩
  refine ForR.by (fun i σ H'=>∃ (zs:List Int) (u v:Option V),σ=[some (.ref a),some (.ref e),u,v]∧Same H H'∧H' a=some (.lst (ns.map V.int))∧H' e=some (.lst (zs.map V.int))∧i≤ns.length - 1∧zs.length≤i∧(∀ z∈zs,z≤160)∧∀ st,1≤st→st≤i→co ns (ns.length - 1 - st)≠0→-(((blN (lst' ns):Int) - (blN (co ns (ns.length - 1 - st)):Int) - 1) / (st:Int))∈zs) ⟨[],none,none,rfl,se,ha1,hee,Nat.zero_le _,Nat.le_refl _,(fun z h=>nomatch h),fun st h1 h2=>by omega⟩ ?_ ?_
  · rintro i σ H' hi ⟨zs,u,v,rfl,sH,ha4,he4,il,zl,z160,hin⟩
    rw [ll] at hi
    have hi':i+1≤ns.length - 1:=by omega
    have ei:(1:Int)+(i:Int)=((i+1:Nat):Int):=by omega
    rw [ei]
    have aT:atI (ns.map V.int) (((ns.map V.int).length:Int) - 1 - ((i+1:Nat):Int))=some (V.int (co ns (ns.length - 1 - (i+1)))):=qcS (j:=ns.length - 1 - (i+1)) (by omega) (by rw [qsg];exact qbb _ (by omega))
    refine ⟨_,rfl,_,rfl,_,_,rfl,ha4,_,_,rfl,rfl,_,rfl,_,_,rfl,rfl,_,_,_,_,rfl,rfl,ha4,aT,?_⟩
    generalize hw:co ns (ns.length - 1 - (i+1))=w
    have bw:blN w≤148:=by rw [← hw];exact qoy (qbc bn _)
    have bl:blN (lst' ns)≤148:=qoy (qbc bn _)
    refine ⟨_,rfl,rfl,_,rfl,qbM (fun c=>?_) (fun c=>?_)⟩
    · have c:¬ w=0:=by simpa using c
      refine ⟨_,rfl,qdm he4,_,rfl,_,rfl,_,_,_,_,rfl,rfl,ha4,aL,rfl,_,rfl,rfl,_,rfl,rfl,_,rfl,rfl,_,_,rfl,rfl,_,_,rfl,rfl,_,rfl,_,_,rfl,rfl,by unfold qsL;omega,_,rfl,_,_,_,rfl,rfl,he4,sz (by rw [List.length_map];omega),?_⟩
      refine ⟨zs++[-(((blN (lst' ns):Int) - (blN w:Int) - 1) / ((i+1:Nat):Int))],_,_,rfl,fun x o hx=>Kp.upd x o (qao hx he) (sH x o hx),(qay ne).trans ha4,by rw [List.map_append];exact qai,hi',by rw [List.length_append];exact Nat.succ_le_succ zl,fun z hz=>?_,fun st h1 h2 h3=>?_⟩
      · rcases List.mem_append.mp hz with q | q
        · exact z160 z q
        · rw [List.mem_singleton.mp q]
          have:-(150:Int)≤((blN (lst' ns):Int) - (blN w:Int) - 1) / ((i+1:Nat):Int):=(Int.le_ediv_iff_mul_le (by omega)).mpr (by
            have:-(150:Int)*((i+1:Nat):Int)≤-(150:Int)*1:=by omega
            omega)
          omega
      · rcases Nat.lt_or_ge st (i+1) with q | q
        · exact List.mem_append_left _ (hin st h1 (by omega) h3)
        · have:st=i+1:=by omega
          subst this
          rw [hw]
          exact List.mem_append_right _ (List.mem_singleton_self _)
    · have c:w=0:=by simpa using c
      refine ⟨zs,_,_,rfl,sH,ha4,he4,hi',by omega,z160,fun st h1 h2 h3=>?_⟩
      rcases Nat.lt_or_ge st (i+1) with q | q
      · exact hin st h1 (by omega) h3
      · have:st=i+1:=by omega
        subst this
        exact absurd (hw.trans c) h3
  · rintro σ H' ⟨zs,u,v,rfl,sH,ha4,he4,il,zl,z160,hin⟩
    have ei:((((ns.map V.int).length:Int)) - 1).toNat=ns.length - 1:=by omega
    rw [ei] at hin
    refine ⟨_,rfl,e,zs,rfl,he4,fun M hM=>⟨_,_,rfl,rfl,?_⟩⟩
    refine k (1+M) H' sH ?_ fun i hi=>?_
    · rcases hM with ⟨_,z⟩ | ⟨z,_⟩
      · omega
      · have:=z160 M z;omega
    · by_cases w0:co ns i=0
      · rw [w0];exact Nat.zero_le _
      · have hm:=hin (ns.length - 1 - i) (by omega) (by omega) (by rw [show ns.length - 1 - (ns.length - 1 - i)=i by omega];exact w0)
        rw [show ns.length - 1 - (ns.length - 1 - i)=i by omega] at hm
        have hle:-(((blN (lst' ns):Int) - (blN (co ns i):Int) - 1) / ((ns.length - 1 - i:Nat):Int))≤M:=by
          rcases hM with ⟨z,_⟩ | ⟨_,z⟩
          · rw [z] at hm;cases hm
          · exact z _ hm
        exact qrl l0 (by omega) (Int.le_trans hle (by omega))
theorem qlV {K:W.Frag} {H:Hp} {Q:VK} {q:Addr} {v f:Int} {σ:L2.St} {j:Nat} (hq:H q=some (.lst ([v].map V.int))) (hf:σ[j]?=some (some (.int f))) (ok:IntMulOk v f) (k:∀ r,H r=none→Q (.ref r) (upd H r (.lst ([v*f].map V.int)))):CompJ (Itl K q) [none,some j] (qaj 0) (tOp qcy (qaf 0) (qaf 1)) σ Q H:=by
  refine CompJ.lst (xs:=[v].map V.int) (fun i ys H'=>H'=H∧i≤1∧ys=([v*f].map V.int).take i) ⟨rfl,Nat.zero_le _,rfl⟩ ?_ ?_ ?_
  · rintro i ys H' ⟨rfl,hi,rfl⟩
    exact ⟨hi,sz (by rw [List.length_take];simp;omega),SqL.of hq⟩
  · rintro i x ys H' hx ⟨rfl,hi,rfl⟩
    cases i with
    | zero=>
      obtain rfl:=Option.some.inj hx
      have e1:(qct [none,some j] σ)=[none,some (.int f)]:=by unfold qct;simp [hf]
      rw [e1]
      exact ⟨_,rfl,_,rfl,_,_,rfl,rfl,ok,rfl,by omega,rfl⟩
    | succ i=>cases hx
  · rintro ys H' ⟨rfl,_,rfl⟩ r hr
    exact k r hr
theorem qk5 {rs:List Int} (h:rs.length<2) (z:co rs 0≠0):rs=[co rs 0]:=by
  match rs,h with
  | [],_=>exact absurd rfl z
  | [v],_=>rfl
theorem qht (h:qbU K vs H Q E):qhW K { nx:=fun _ H'=>Q .non H',rt:=Q } (L2.start ["row", "divisor", "prime", "one", "other", "one_weight", "other_weight", "factor", "parted", "weight"] vs) H:=by
  obtain ⟨a,b,ns,c,p,rfl,ha,hb,hp,p2,bc,l2,nd,k⟩:=h
  have pp:=hp.two
  have bp:Bd 20 (p:Int):=by unfold Bd;rw [Int.natAbs_natCast];have:(2:Nat) ^ 20=1048576:=by decide
                            omega
  refine ⟨_,rfl,?_⟩
  show qdE K _ _ _
  refine qkJ ⟨_,rfl,_,rfl,_,rfl,a,b,ns,[c,1],(p:Int),20,rfl,ha,hb,by show 0<2;decide,rfl,by omega,bp,?_,by decide,by omega,by show 2≤1000;decide,fun d qs rs H1 s1 hd tz rl md=>?_⟩
  · intro z hz
    rcases List.mem_cons.mp hz with rfl | hz
    · exact bc
    · rw [List.mem_singleton.mp hz];unfold Bd;decide
  have pd:=(parted md.2 rl).1
  have v0:co rs 0≠0:=fun z=>nd (by rw [z,Int.sub_zero] at pd;exact pd)
  have er:=qk5 rl v0
  have vb:=md.1 (co rs 0) (by rw [er];exact List.mem_cons_self ..)
  generalize hv:co rs 0=v at pd v0 er vb
  subst er
  refine qde ⟨qrs,fun e he=>?_⟩
  have s2:=qag he (HO.lst [])
  have hd2:=s2 _ _ hd
  generalize upd H1 e (HO.lst [])=H2 at s2 hd2 ⊢
  refine qde (qp4 (r_c ⟨qpj,fun g hg=>?_⟩))
  have s3:=qag hg (HO.lst [V.int 1])
  have hd3:=s3 _ _ hd2
  have hg3:upd H2 g (HO.lst [V.int 1]) g=some (HO.lst ([(1:Int)].map V.int)):=qai
  have s13:=(s1.trans s2).trans s3
  generalize upd H2 g (HO.lst [V.int 1])=H3 at s3 hd3 hg3 s13 ⊢
  refine while_by (fun m σ H'=>m=0∧σ=[some (.ref a),some (.ref b),some (.int (p:Int)),some (.ref b),some (.ref d),some (.ref e),some (.ref g),none,none,none]∧H'=H3) 0 ⟨rfl,rfl,rfl⟩ ?_
  rintro m σ H' ⟨rfl,rfl,rfl⟩
  refine ⟨_,rfl,qbM (fun _=>?_) (fun z=>absurd rfl z)⟩
  refine ⟨fun _ _=>False,fun _ _ z=>z.elim,?_⟩
  show qcL K _ _ _
  have aL:atI ([v].map V.int) (-1)=some (V.int v):=rfl
  refine qeC ⟨_,rfl,_,rfl,_,_,_,_,rfl,rfl,hd3,aL,_,rfl,v,(p:Int),rfl,by omega,bp.mono (by decide),fun f f0 fp hf=>?_⟩
  have gc:Int.gcd v (p:Int)=1:=by
    rw [Int.gcd_comm]
    exact qlS hp fun z=>by
      have:=Int.emod_eq_zero_of_dvd z
      rw [Int.emod_eq_of_lt vb.1 vb.2] at this
      exact v0 this
  have hf:=hf gc
  have bf:Bd 20 f:=bp.le (by omega)
  have bv:Bd 20 v:=bp.le (by omega)
  refine qde (qeD (qkK ⟨_,rfl,d,rfl,⟨_,SqL.of hd3⟩,qlV hd3 rfl (qgK bv bf) fun r hr=>?_⟩))
  have s4:=qag hr (HO.lst ([v*f].map V.int))
  have hr4:upd H' r (HO.lst ([v*f].map V.int)) r=_:=qai
  have hg4:=s4 _ _ hg3
  generalize upd H' r (HO.lst ([v*f].map V.int))=H4 at s4 hr4 hg4 ⊢
  refine ⟨_,rfl,r,[v*f],(p:Int),rfl,hr4,by omega,by show 1≤1000;decide,fun o os H5 s5 ho tzo lo mdo=>?_⟩
  have hg5:=s5 _ _ hg4
  have o1:co os 0=1:=by
    have h1:=mdo.2 0
    obtain ⟨x,hx⟩:=hf
    obtain ⟨y,hy⟩:=h1
    have hy:co os 0 - v*f=(p:Int)*y:=hy
    have e:co os 0=1+(p:Int)*(x+y):=by grind
    have bo:0≤co os 0∧co os 0<(p:Int):=by
      match os,mdo.1 with
      | [],_=>exact ⟨Int.le_refl _,by show (0:Int)<p;omega⟩
      | z::_,h=>exact h z (List.mem_cons_self ..)
    have:co os 0 % (p:Int)=1 % (p:Int):=by rw [e,Int.add_mul_emod_self_left]
    rw [Int.emod_eq_of_lt bo.1 bo.2,Int.emod_eq_of_lt (by decide) (by omega)] at this
    exact this
  have eo:=qk5 (Nat.lt_succ_of_le lo) (by rw [o1];decide)
  rw [o1] at eo
  subst eo
  show qcK K _ _ _
  refine qde (qeD (qkK ⟨_,rfl,g,rfl,⟨_,SqL.of hg5⟩,qlV hg5 rfl (qgK (show Bd 20 1 by unfold Bd;decide) bf) fun r2 hr2=>?_⟩))
  have s6:=qag hr2 (HO.lst ([1*f].map V.int))
  have hr6:upd H5 r2 (HO.lst ([1*f].map V.int)) r2=_:=qai
  have ho6:=s6 _ _ ho
  generalize upd H5 r2 (HO.lst ([1*f].map V.int))=H6 at s6 hr6 ho6 ⊢
  refine ⟨_,rfl,r2,[1*f],(p:Int),rfl,hr6,by omega,by show 1≤1000;decide,fun w ws H7 s7 hw7 tzw lw mdw=>?_⟩
  have f0':f≠0:=fun z=>by
    rw [z] at hf
    obtain ⟨x,hx⟩:=hf
    have:(p:Int)∣1:=⟨-x,by rw [Int.mul_neg];omega⟩
    have:=Int.le_of_dvd (by decide) this
    omega
  have w1:co ws 0=f:=by
    obtain ⟨y,hy⟩:=mdw.2 0
    have hy:co ws 0 - 1*f=(p:Int)*y:=hy
    have bo:0≤co ws 0∧co ws 0<(p:Int):=by
      match ws,mdw.1 with
      | [],_=>exact ⟨Int.le_refl _,by show (0:Int)<p;omega⟩
      | z::_,h=>exact h z (List.mem_cons_self ..)
    have e:co ws 0=f+(p:Int)*y:=by omega
    have:co ws 0 % (p:Int)=f % (p:Int):=by rw [e,Int.add_mul_emod_self_left]
    rw [Int.emod_eq_of_lt bo.1 bo.2,Int.emod_eq_of_lt f0 fp] at this
    exact this
  have ew:=qk5 (Nat.lt_succ_of_le lw) (by rw [w1];exact f0')
  rw [w1] at ew
  subst ew
  have ho7:=s7 _ _ ho6
  refine ⟨_,rfl,_,_,rfl,ho7,rfl,_,rfl,qbM (fun _=>?_) (fun z=>absurd rfl z)⟩
  refine ⟨_,rfl,k w f H7 (((s13.trans s4).trans s5).trans (s6.trans s7)) hw7 f0 fp ?_⟩
  obtain ⟨x,hx⟩:=hf
  obtain ⟨y,hy⟩:=pd
  exact ⟨x+f*y,by grind⟩
theorem qqk (a b:List Int) (k:Nat):∀ n,n≤a.length→ps a b n k=cvL (a.take n) (co b) k
  | 0,_=>by rw [List.take_zero,qaB];rfl
  | n+1,h=>by
    have e:a.take (n+1)=a.take n++[co a n]:=by
      rw [List.take_add_one,List.getElem?_eq_getElem (by omega)]
      unfold co
      rw [List.getD_eq_getElem?_getD,List.getElem?_eq_getElem (by omega)];rfl
    rw [e,qbi,← qqk a b k n (by omega),List.length_take,Nat.min_eq_left (by omega)]
    show ps a b n k+(if n≤k∧k - n<b.length then co a n*co b (k - n) else 0)=_
    unfold upS
    by_cases c:n≤k
    · rw [if_pos c]
      by_cases d:k - n<b.length
      · rw [if_pos ⟨c,d⟩]
      · rw [if_neg (fun z=>d z.2),qaw (a:=b) (by omega)];omega
    · rw [if_neg c,if_neg (fun z=>c z.1)];omega
noncomputable def rT (a b:List Int):List Int:=if a.length=0∨b.length=0 then [] else (List.range (a.length+b.length - 1)).map fun k=>ps a b a.length k
theorem qtt (a b:List Int) (k:Nat):co (rT a b) k=cvL a (co b) k:=by
  unfold rT
  by_cases c:a.length=0∨b.length=0
  · rw [if_pos c]
    rcases c with z | z
    · rw [List.length_eq_zero_iff.mp z];rfl
    · rw [List.length_eq_zero_iff.mp z,qbe];rfl
  · rw [if_neg c,qe1]
    by_cases d:k<a.length+b.length - 1
    · rw [if_pos d,qqk a b k a.length (Nat.le_refl _),List.take_length]
    · rw [if_neg d,qbA (n:=b.length) (fun i hi=>qaw hi) a k (by omega)]
theorem qrm (a b:List Int) (x:Int):evI (rT a b) x=evI a x*evI b x:=qk1 a b x _ fun k=>qtt a b k
theorem qoz (a b:List Int):(rT a b).length≤a.length+b.length:=by
  unfold rT
  split
  · exact Nat.zero_le _
  · rw [List.length_map,List.length_range];omega
theorem qj9 {a:List Int} (h:a.length<2) (x:Int):evI a x=co a 0:=by
  match a,h with
  | [],_=>rfl
  | [v],_=>show v+x*0=v;omega
theorem qsw {m c:Int} {ms qs rs:List Int} (h:∀ k,m∣co rs k - (co ms k - cvL qs (co [c,1]) k)) (rl:rs.length<2) (tz:Tz qs) (hq:∀ z∈qs,0≤z∧z<m):qs.length≤ms.length:=by
  rcases Nat.lt_or_ge ms.length qs.length with c1 | c1
  · exfalso
    have q0:qs≠[]:=fun z=>by rw [z] at c1;exact absurd c1 (Nat.not_lt_zero _)
    have top:=tz.resolve_left q0
    have l0:0<qs.length:=List.length_pos_iff.mpr q0
    have hk:=h qs.length
    have e:cvL qs (co [c,1]) qs.length=co qs (qs.length - 1):=by
      rw [← qqc,lin,qaK,qav,qaq,← qaK,qaw (a:=qs) (Nat.le_refl _)]
      obtain ⟨n,hn⟩:∃ n,qs.length=n+1:=⟨qs.length - 1,by omega⟩
      rw [hn,← qaK]
      show c*0+co qs n=co qs n
      omega
    rw [qaw (a:=rs) (by omega),qaw (a:=ms) (by omega),e] at hk
    have hk:m∣co qs (qs.length - 1):=by obtain ⟨u,hu⟩:=hk;exact ⟨u,by omega⟩
    have mem:co qs (qs.length - 1)∈qs:=by
      unfold co
      rw [List.getD_eq_getElem?_getD,List.getElem?_eq_getElem (by omega)]
      exact List.getElem_mem _
    have b:=hq _ mem
    have:=Int.le_of_dvd (by omega) hk
    omega
  · exact c1
theorem qql {a:List Int} (ha:Tz a) (n:Nat) (h:∀ k,n≤k→co a k=0):a.length≤n:=by
  rcases Nat.lt_or_ge n a.length with z | z
  · rcases ha with e | e
    · rw [e] at z;simp at z
    · exact absurd (h _ (by omega)) e
  · exact z
theorem qoA {m:Int} {rs:List Int} {b:Nat} (bm:Bd b m) (h:∀ z∈rs,0≤z∧z<m):∀ z∈rs,Bd b z:=fun z hz=>bm.le (by have:=h z hz;omega)
theorem qsx {m:Int} (m0:0<m) {rs:List Int} (h:∀ z∈rs,0≤z∧z<m) (k:Nat):0≤co rs k∧co rs k<m:=by
  by_cases c:k<rs.length
  · refine h _ ?_
    unfold co
    rw [List.getD_eq_getElem?_getD,List.getElem?_eq_getElem c]
    exact List.getElem_mem _
  · rw [qaw (by omega)];omega
theorem qje {m f x:Int} {rs ns:List Int} (h:∀ k,m∣co rs k - f*co ns k):m∣evI rs x - f*evI ns x∧m∣dE rs x - f*dE ns x:=by
  have h':∀ k,m∣co rs k - co (ns.map (f*·)) k:=fun k=>by
    have:co (ns.map (f*·)) k=f*co ns k:=by rw [qaK,qaq,← qaK]
    rw [this];exact h k
  have h1:=qcq _ _ x h'
  have h2:=qj7 _ _ x h'
  rw [qfU] at h1
  rw [qoq] at h2
  exact ⟨h1,h2⟩
theorem qrn {fs:List Int} (h:fs.length≤2) (z:co fs 1=1):fs=[co fs 0,1]:=by
  match fs,h with
  | [],_=>exact absurd z (by decide)
  | [v],_=>exact absurd z (by show ¬ (0:Int)=1;decide)
  | [v,w],_=>have:w=1:=z;rw [this];rfl
theorem bd1 (b:Nat) (h:1≤b):Bd b 1:=(show Bd 1 1 by unfold Bd;decide).mono h
theorem qeN {c:Int} {b:Nat} (h:Bd b c) (h1:1≤b):∀ z∈[c,1],Bd b z:=fun z hz=>by
  rcases List.mem_cons.mp hz with rfl | hz
  · exact h
  · rw [List.mem_singleton.mp hz];exact bd1 b h1
theorem qix {m a b:Int} (h:m∣a - b):m∣b - a:=by obtain ⟨u,hu⟩:=h;exact ⟨-u,by rw [Int.mul_neg];omega⟩
theorem qoB {m a b c:Int} (h:m∣a - b) (h':m∣b - c):m∣a - c:=by obtain ⟨u,hu⟩:=h;obtain ⟨v,hv⟩:=h';exact ⟨u+v,by rw [Int.mul_add];omega⟩
theorem qqm {m a b:Int} (h:m∣a - b) (c:Int):m∣a*c - b*c:=by obtain ⟨u,hu⟩:=h;exact ⟨u*c,by rw [← Int.sub_mul,hu];grind⟩
theorem qoC (h:qe3 K vs H Q E):qpl K { nx:=fun _ H'=>Q .non H',rt:=Q } (L2.start ["row", "factor", "prime", "floor", "modulus", "quotient", "weight", "whole", "rest", "more", "spare"] vs) H:=by
  obtain ⟨a,b,ns,s,F,p,rfl,ha,hb,hp,p2,lz,l9,bn,s0,sp,nl,hs,hs',F0,bF,k⟩:=h
  have pp:=hp.two
  rw [qrh] at hs'
  have nne:ns≠[]:=List.length_pos_iff.mp lz.1
  have bn':∀ z∈ns,Bd 60000000 z:=fun z hz=>(bn z hz).mono (by decide)
  have bp:Bd 20 (p:Int):=by unfold Bd;rw [Int.natAbs_natCast];have:(2:Nat) ^ 20=1048576:=by decide
                            omega
  have bs:Bd 20 (-s):=bp.le (by omega)
  generalize hlead:lst' ns=lead at nl
  have hl2:co ns (ns.length - 1)=lead:=hlead
  refine ⟨_,rfl,?_⟩
  show qip K _ _ _
  refine qde (qmF (qhV (qeD ⟨_,rfl,_,rfl,a,ns,p,rfl,ha,pp,bp.mono (by decide),by omega,bn',fun _=>by rw [hl2,Int.gcd_comm];exact qlS hp nl,fun r1 ms f H1 s1 h1 l1 o1 md1=>?_⟩)))
  have o1:=o1 nne
  have hf:(p:Int)∣f*lead - 1:=by
    have this:(p:Int)∣co ms (ms.length - 1) - f*co ns (ms.length - 1):=md1.2 _
    rw [o1,l1,hl2] at this
    exact qix this
  have hb1:=s1 _ _ hb
  refine ⟨_,rfl,_,rfl,r1,b,ms,[-s,1],(p:Int),20,rfl,h1,hb1,by show 0<2;decide,rfl,by omega,bp,qeN bs (by decide),by decide,by omega,by show 2≤1000;decide,fun t r d qs rs H2 s2 ht hr hd tq tr rl md2 hq=>?_⟩
  obtain ⟨_,pd⟩:=parted md2.2 rl
  rw [Int.neg_neg] at pd
  have me:=(qje (x:=s) md1.2).2
  have ql:qs.length≤ms.length:=qsw md2.2 rl tq hq
  have nq:¬ (p:Int)∣evI qs s:=fun z=>by
    have h1:(p:Int)∣f*dE ns s:=by
      obtain ⟨x,hx⟩:=me;obtain ⟨y,hy⟩:=pd;obtain ⟨w,hw⟩:=z
      exact ⟨w+y - x,by rw [Int.mul_sub,Int.mul_add];omega⟩
    rcases qfx hp h1 with y | y
    · obtain ⟨x,hx⟩:=y;obtain ⟨w,hw⟩:=hf
      have:(p:Int)∣1:=⟨x*lead - w,by rw [hx] at hw;grind⟩
      have:=Int.le_of_dvd (by decide) this
      omega
    · exact hs' y
  refine ⟨_,_,_,_,rfl,rfl,ht,rfl,?_⟩
  have hb2:=s2 _ _ hb1
  show qio K _ [some (.ref a),some (.ref b),some (.int (p:Int)),some (.int F),some (.int (p:Int)),some (.ref r),none,none,none,none,none] H2
  refine qkJ ⟨_,rfl,_,rfl,_,rfl,r,b,qs,-s,p,rfl,hr,hb2,hp,p2,bs,by omega,by rw [Int.neg_neg];exact nq,fun g w H3 s3 hg w0 wp hw=>?_⟩
  rw [Int.neg_neg] at hw
  have s13:=(s1.trans s2).trans s3
  have hb3:=s3 _ _ hb2
  have ep:(p:Int)=((p ^ 1:Nat):Int):=by rw [Nat.pow_one]
  have bF2:Bd 800 (F*F):=bF.mul bF
  refine while_by (fun m σ H'=>∃ (b' g:Addr) (c:Int) (ws:List Int) (j:Nat) (o5 o7 o8 o9 o10:Option V),σ=[some (.ref a),some (.ref b'),some (.int (p:Int)),some (.int F),some (.int ((p ^ j:Nat):Int)),o5,some (.ref g),o7,o8,o9,o10]∧Same H H'∧H' b'=some (.lst ([c,1].map V.int))∧H' g=some (.lst (ws.map V.int))∧ws.length<2∧Bd 850 c∧(∀ z∈ws,Bd 850 z)∧1≤j∧((p ^ j:Nat):Int)∣evI ns (-c)∧((p ^ j:Nat):Int)∣co ws 0*dE ns (-c) - lead∧(p:Int)∣-c - s∧Bd 850 ((p ^ j:Nat):Int)∧m=(F+1 - ((p ^ j:Nat):Int)).toNat) _ ⟨b,g,-s,[w],1,_,_,_,_,_,by rw [← ep];rfl,s13,hb3,hg,by show 1<2;decide,bs.mono (by decide),?_,Nat.le_refl _,?_,?_,?_,?_,rfl⟩ ?_
  · intro z hz
    rw [List.mem_singleton.mp hz]
    exact (bp.le (by omega)).mono (by decide)
  · rw [← ep,Int.neg_neg];exact hs
  · rw [← ep,Int.neg_neg]
    show (p:Int)∣w*dE ns s - lead
    obtain ⟨x,hx⟩:=hw
    obtain ⟨y,hy⟩:=hf
    obtain ⟨u,hu⟩:=me
    obtain ⟨v,hv⟩:=pd
    have e:f*(w*dE ns s - lead)=(p:Int)*(x - w*u+w*v - y):=by
      have h1:f*dE ns s=evI qs s+(p:Int)*v - (p:Int)*u:=by omega
      have h2:f*(w*dE ns s - lead)=w*(f*dE ns s) - f*lead:=by grind
      rw [h2,h1,show f*lead=1+(p:Int)*y by omega]
      have h3:w*evI qs s=1+(p:Int)*x:=by omega
      have h4:w*(evI qs s+(p:Int)*v - (p:Int)*u)=w*evI qs s+w*((p:Int)*v) - w*((p:Int)*u):=by grind
      rw [h4,h3];grind
    rcases qfx hp (show (p:Int)∣f*(w*dE ns s - lead) from ⟨_,e⟩) with z | z
    · obtain ⟨q,hq⟩:=z
      have:(p:Int)∣1:=⟨q*lead - y,by rw [hq] at hy;grind⟩
      have:=Int.le_of_dvd (by decide) this
      omega
    · exact z
  · rw [Int.neg_neg,Int.sub_self];exact Int.dvd_zero _
  · rw [← ep];exact bp.mono (by decide)
  rintro m σ H' ⟨b',g,c,ws,j,o5,o7,o8,o9,o10,rfl,s4,hb4,hg4,wl,bc,bw,j1,h1,h2,h3,bM,rfl⟩
  have M2:2≤p ^ j:=Nat.le_trans pp (by
    have:=Nat.pow_le_pow_right (show 0<p by omega) j1
    rw [Nat.pow_one] at this
    exact this)
  refine ⟨_,rfl,_,rfl,_,_,rfl,rfl,_,rfl,qbM (fun cc=>?_) (fun cc=>?_)⟩
  · have cc:((p ^ j:Nat):Int)≤F:=of_decide_eq_true cc
    refine ⟨_,fun _ _ h=>h,?_⟩
    have eM:((p ^ j:Nat):Int)*((p ^ j:Nat):Int)=((p ^ (j+j):Nat):Int):=by rw [Nat.pow_add];push_cast;rfl
    have bMM:Bd 850 ((p ^ (j+j):Nat):Int):=by
      rw [← eM]
      refine (bF2.mono (by decide)).le ?_
      rw [Int.natAbs_mul,Int.natAbs_mul]
      exact Nat.mul_le_mul (by omega) (by omega)
    refine ⟨_,rfl,_,rfl,_,_,rfl,rfl,qgK bM bM,?_⟩
    show qfh K _ [some (.ref a),some (.ref b'),some (.int (p:Int)),some (.int F),some (.int (((p ^ j:Nat):Int)*((p ^ j:Nat):Int))),o5,some (.ref g),o7,o8,o9,o10] H'
    rw [eM]
    have MM2:2≤p ^ (j+j):=Nat.le_trans M2 (Nat.pow_le_pow_right (by omega) (by omega))
    refine qeC ⟨_,rfl,_,rfl,a,ns,p ^ (j+j),rfl,s4 _ _ ha,MM2,bMM.mono (by decide),by omega,bn',fun _=>by rw [hl2,Int.gcd_comm];exact qos hp nl (j+j),fun r1 wh U H1 s1 h1' l1 o1 md1=>?_⟩
    have o1:=o1 nne
    have hU:((p ^ (j+j):Nat):Int)∣U*lead - 1:=by
      have this:((p ^ (j+j):Nat):Int)∣co wh (wh.length - 1) - U*co ns (wh.length - 1):=md1.2 _
      rw [o1,l1,hl2] at this
      exact qix this
    have M0:(0:Int)<((p ^ (j+j):Nat):Int):=by omega
    have eM':=eM
    generalize hMM:((p ^ (j+j):Nat):Int)=N at bMM hU M0 md1 eM ⊢
    have hb5:=s1 _ _ hb4
    have hg5:=s1 _ _ hg4
    refine qkJ ⟨_,rfl,_,rfl,_,rfl,r1,b',wh,[c,1],N,850,rfl,h1',hb5,by show 0<2;decide,rfl,M0,bMM,qeN bc (by decide),by decide,by omega,by show 2≤1000;decide,fun d qs1 rs1 H2 s2 hd tz1 rl1 md2=>?_⟩
    have rl1:rs1.length<2:=rl1
    obtain ⟨pv,_⟩:=parted md2.2 rl1
    have hb6:=s2 _ _ hb5
    have hg6:=s2 _ _ hg5
    have hr6:=s2 _ _ h1'
    have brs1:=qoA bMM md2.1
    refine qde (qhV (qeD ⟨_,rfl,_,rfl,d,g,rs1,ws,850,850,rfl,hd,hg6,brs1,bw,by decide,by decide,by omega,by omega,fun x H3 s3 hx=>?_⟩))
    have hb7:=s3 _ _ hb6
    refine ⟨_,rfl,_,rfl,x,b',rT rs1 ws,[c,1],N,850,rfl,hx,hb7,by show 0<2;decide,rfl,M0,bMM,qeN bc (by decide),by decide,by have:=qoz rs1 ws;omega,by show 2≤1000;decide,fun d2 qs2 rs2 H4 s4' hd2 tz2 rl2 md3=>?_⟩
    have rl2:rs2.length<2:=rl2
    obtain ⟨pm,_⟩:=parted md3.2 rl2
    rw [qrm,qj9 rl1,qj9 wl] at pm
    have hb8:=s4' _ _ hb7
    have brs2:=qoA bMM md3.1
    refine qde (qeD (qsa ⟨_,rfl,_,rfl,_,rfl,b',d2,[c,1],rs2,1,-1,0,rfl,hb8,hd2,by show 2≤1000;decide,by omega,bd1 _ (by decide),by unfold Bd;exact Nat.one_lt_two_pow (by decide),fun z hz=>(qeN bc (by decide) z hz).mono (by decide),fun z hz=>(brs2 z hz).mono (by decide),fun y rs3 H5 s5 hy tz3 e3=>?_⟩))
    have c3:∀ k,co rs3 k=co [c,1] k+co rs2 k:=fun k=>by
      rw [e3 k];unfold upS;rw [if_pos (Nat.zero_le _),Nat.sub_zero];omega
    have l3:rs3.length≤2:=qql tz3 2 fun k hk=>by rw [c3 k,qaw (a:=[c,1]) hk,qaw (a:=rs2) (by omega)];rfl
    refine ⟨_,rfl,y,rs3,N,rfl,hy,M0,by omega,fun b2 fs H6 s6 hb2 tzf lf mdf=>?_⟩
    have f1:co fs 1=1:=by
      have q:=mdf.2 1
      rw [c3 1,qaw (a:=rs2) (by omega)] at q
      have q:N∣co fs 1 - (1+0):=q
      have b1:=qsx M0 mdf.1 1
      obtain ⟨x,hx⟩:=q
      have e:co fs 1=1+N*x:=by omega
      have:co fs 1 % N=1 % N:=by rw [e,Int.add_mul_emod_self_left]
      rw [Int.emod_eq_of_lt b1.1 b1.2,Int.emod_eq_of_lt (by decide) (by omega)] at this
      exact this
    have ef:=qrn (by omega) f1
    have f0:=mdf.2 0
    rw [c3 0] at f0
    have bc':Bd 850 (co fs 0):=by have:=qsx M0 mdf.1 0;exact bMM.le (by omega)
    generalize hc':co fs 0=c' at f0 bc' ef
    subst ef
    have f0:N∣c' - (c+co rs2 0):=f0
    have s16:=((s2.trans s3).trans s4').trans (s5.trans s6)
    have hr9:=s16 _ _ h1'
    have hg9:=s16 _ _ hg5
    show qfg K _ _ _
    refine qde (qmF (qhV ⟨_,rfl,_,rfl,_,rfl,r1,b2,wh,[c',1],N,850,rfl,hr9,hb2,by show 0<2;decide,rfl,M0,bMM,qeN bc' (by decide),by decide,by omega,by show 2≤1000;decide,fun t r d3 qs rs H7 s7 ht hr hd3 tq tr rl md4 hq=>⟨_,_,_,_,rfl,rfl,ht,rfl,?_⟩⟩))
    have rl:rs.length<2:=rl
    obtain ⟨_,pq⟩:=parted md4.2 rl
    have ql:qs.length≤wh.length:=qsw md4.2 rl tq hq
    have hb10:=s7 _ _ hb2
    have hg10:=s7 _ _ hg9
    show qff K _ [some (.ref a),some (.ref b2),some (.int (p:Int)),some (.int F),some (.int N),some (.ref r),some (.ref g),some (.ref r1),some (.ref d),some (.ref d2),o10] H7
    refine qde (qsa (qp4 (r_c ⟨qpj,fun y2 hy2=>?_⟩)))
    have s8:=qag hy2 (HO.lst [V.int 2])
    have hy8:upd H7 y2 (HO.lst [V.int 2]) y2=some (HO.lst ([(2:Int)].map V.int)):=qai
    have hb11:=s8 _ _ hb10
    have hg11:=s8 _ _ hg10
    have hr11:=s8 _ _ hr
    generalize upd H7 y2 (HO.lst [V.int 2])=H8 at s8 hy8 hb11 hg11 hr11 ⊢
    have bq:=qoA bMM hq
    refine r_c (qhV (qeD ⟨_,rfl,_,rfl,r,g,qs,ws,850,850,rfl,hr11,hg11,bq,bw,by decide,by decide,by omega,by omega,fun x2 H9 s9 hx2=>?_⟩))
    have hb12:=s9 _ _ hb11
    refine ⟨_,rfl,_,rfl,x2,b2,rT qs ws,[c',1],N,850,rfl,hx2,hb12,by show 0<2;decide,rfl,M0,bMM,qeN bc' (by decide),by decide,by have:=qoz qs ws;omega,by show 2≤1000;decide,fun d4 qs4 rs4 HA sA hd4 tz4 rl4 md5=>?_⟩
    have rl4:rs4.length<2:=rl4
    obtain ⟨pt,_⟩:=parted md5.2 rl4
    rw [qrm,qj9 wl] at pt
    have brs4:=qoA bMM md5.1
    refine r_c (r_c ⟨y2,d4,[2],rs4,1,1,0,rfl,(s9.trans sA) _ _ hy8,hd4,by show 1≤1000;decide,by omega,bd1 _ (by decide),bd1 _ (by decide),fun z hz=>by rw [List.mem_singleton.mp hz];unfold Bd;exact Nat.lt_of_lt_of_le (show (2:Int).natAbs<2 ^ 2 by decide) (Nat.pow_le_pow_right (by decide) (by decide)),fun z hz=>(brs4 z hz).mono (by decide),fun y3 rs5 HB sB hy3 tz5 e5=>?_⟩)
    have c5:∀ k,co rs5 k=co [2] k - co rs4 k:=fun k=>by
      rw [e5 k];unfold upS;rw [if_pos (Nat.zero_le _),Nat.sub_zero];omega
    have l5:rs5.length<2:=Nat.lt_succ_of_le (qql tz5 1 fun k hk=>by rw [c5 k,qaw (a:=[2]) hk,qaw (a:=rs4) (by omega)];rfl)
    have b5:∀ z∈rs5,Bd 860 z:=by
      intro z hz
      have:rs5=[co rs5 0]:=by
        match rs5,l5,hz with
        | [v],_,_=>rfl
      rw [this] at hz
      rw [List.mem_singleton.mp hz,c5 0]
      have h2:Bd 850 (co [2] 0):=by unfold Bd;exact Nat.lt_of_lt_of_le (show (2:Int).natAbs<2 ^ 2 by decide) (Nat.pow_le_pow_right (by decide) (by decide))
      exact (Bd.sub h2 (qbc brs4 0)).mono (by decide)
    have sAB:=(s9.trans sA).trans sB
    have hgB:=sAB _ _ hg11
    have hbB:=sAB _ _ hb11
    show qfe K _ _ _
    refine qnX (qhV (qeD ⟨_,rfl,_,rfl,g,y3,ws,rs5,850,860,rfl,hgB,hy3,bw,b5,by decide,by decide,by omega,by omega,fun x3 HC sC hx3=>?_⟩))
    have hbC:=sC _ _ hbB
    refine ⟨_,rfl,_,rfl,x3,b2,rT ws rs5,[c',1],N,850,rfl,hx3,hbC,by show 0<2;decide,rfl,M0,bMM,qeN bc' (by decide),by decide,by have:=qoz ws rs5;omega,by show 2≤1000;decide,fun g2 qs6 ws2 HD sD hg2 tz6 rl6 md6=>?_⟩
    have rl6:ws2.length<2:=rl6
    obtain ⟨pw,_⟩:=parted md6.2 rl6
    rw [qrm,qj9 wl,qj9 l5,c5 0] at pw
    have hbD:=sD _ _ hbC
    have me:=qje (x:=-c) md1.2
    have me':=qje (x:=-c') md1.2
    obtain ⟨i1,i2,i3⟩:=hensel (row:=ns) (r:=-c) (w:=co ws 0) (U:=U) (lead:=lead) (m:=((p ^ j:Nat):Int)) (v:=co rs1 0) (r':=-c') h1 h2 (by rw [eM];exact hU) (by rw [eM];exact qoB (qix pv) me.1) (by
      rw [eM]
      obtain ⟨x,hx⟩:=f0
      obtain ⟨y,hy⟩:=pm
      exact ⟨-x+y,by rw [Int.mul_add,Int.mul_neg];omega⟩)
    rw [eM] at i2 i3
    have t1:N∣co rs4 0 - U*dE ns (-c')*co ws 0:=qoB (qix pt) (qqm (qoB (qix pq) me'.2) (co ws 0))
    have w1:N∣co ws2 0 - co ws 0*(2 - co rs4 0):=qix pw
    have i3:=i3 _ _ t1 w1
    have dp:(p:Int)∣((p ^ j:Nat):Int):=by
      obtain ⟨i,hi⟩:∃ i,j=i+1:=⟨j - 1,by omega⟩
      rw [hi,Nat.pow_succ];push_cast;exact Int.dvd_mul_left ..
    refine ⟨(F+1 - N).toNat,?_,b2,g2,c',ws2,j+j,_,_,_,_,_,by rw [hMM];rfl,((((s4.trans s1).trans s16).trans (s7.trans s8)).trans sAB).trans (sC.trans sD),hbD,hg2,rl6,bc',qoA bMM md6.1,by omega,by rw [hMM];exact i2,by rw [hMM];exact i3,qoB (Int.dvd_trans dp i1) h3,by rw [hMM];exact bMM,by rw [hMM]⟩
    have:((p ^ j:Nat):Int)*2≤((p ^ j:Nat):Int)*((p ^ j:Nat):Int):=Int.mul_le_mul_of_nonneg_left (by omega) (by omega)
    omega
  · have cc:¬ ((p ^ j:Nat):Int)≤F:=fun z=>cc (decide_eq_true z)
    show qin K _ _ _
    refine qpi (qlD ⟨_,rfl,_,rfl,qqS,fun t ht=>?_⟩)
    have st:=qag ht (HO.tup [V.ref b',V.int ((p ^ j:Nat):Int)])
    exact k t b' c j _ (s4.trans st) qai (st _ _ hb4) (by omega) (bM.mono (by decide)) (bc.mono (by decide)) h1 h3
theorem qlW {k:Int} {q:Nu} (k0:0<k) (h:Low q.1 q.2):qaT (k*q.1) (k*q.2)=q:=by
  have d0:k*q.2≠0:=Int.mul_ne_zero (by omega) (by have:=h.pos;omega)
  refine qfK (qbn d0) h ?_
  rw [qb4 d0]
  unfold val
  have k1:(k:Rat)≠0:=qbj (by omega)
  have q1:(q.2:Rat)≠0:=qbj (by have:=h.pos;omega)
  push_cast
  rw [Rat.div_def,Rat.div_def,Rat.inv_mul_rev]
  have:=Rat.mul_inv_cancel _ k1
  grind
theorem qmu {a b n:Int} (n0:0<n) (h:a<b):(qaT a n).1*(qaT b n).2<(qaT b n).1*(qaT a n).2:=by
  have l1:=qbn (n:=a) (m:=n) (by omega)
  have l2:=qbn (n:=b) (m:=n) (by omega)
  have v1:=qb4 (n:=a) (m:=n) (by omega)
  have v2:=qb4 (n:=b) (m:=n) (by omega)
  have cr:∀ {t d x:Int},0<d→val (t,d)=(x:Rat) / (n:Rat)→t*n=x*d:=fun {t d x} d0 e=>by
    unfold val at e
    have d1:(d:Rat)≠0:=qbj (by omega)
    have n1:(n:Rat)≠0:=qbj (by omega)
    have e:(t:Rat) / (d:Rat)=(x:Rat) / (n:Rat):=e
    have h1:(t:Rat) / (d:Rat)*d=t:=Rat.div_mul_cancel d1
    have h2:(x:Rat) / (n:Rat)*n=x:=Rat.div_mul_cancel n1
    have:(t:Rat)*n=x*d:=by rw [← h1,← h2,e];grind
    exact_mod_cast this
  have e1:(qaT a n).1*n=a*(qaT a n).2:=cr l1.pos v1
  have e2:(qaT b n).1*n=b*(qaT b n).2:=cr l2.pos v2
  have p1:=l1.pos
  have p2:=l2.pos
  clear v1 v2 cr l1 l2
  generalize (qaT a n).1=t at *
  generalize (qaT a n).2=d at *
  generalize (qaT b n).1=u at *
  generalize (qaT b n).2=e at *
  have:(t*e)*n<(u*d)*n:=by
    have h1:(t*e)*n=(a*d)*e:=by rw [← e1];grind
    have h2:(u*d)*n=(b*e)*d:=by rw [← e2];grind
    rw [h1,h2]
    have:a*(d*e)<b*(d*e):=Int.mul_lt_mul_of_pos_right h (Int.mul_pos p1 p2)
    have h3:a*d*e=a*(d*e):=by grind
    have h4:b*e*d=b*(d*e):=by grind
    omega
  exact Int.lt_of_mul_lt_mul_right this (by omega)
theorem qqn:Pr 2:=⟨by decide,fun d hd=>by have:=Nat.le_of_dvd (by decide) hd;have:d≠0:=fun z=>by rw [z] at hd;revert hd;decide
                                          omega⟩
theorem qpB {rs:List Int} {p:Nat} (hp:Pr p) (ne:rs≠[]) (nl:¬ (p:Int)∣lst' rs) {q:Nu} (lq:Low q.1 q.2) (z:hw rs q.1 q.2=0):¬ (p:Int)∣q.2∧∃ s:Int,0≤s∧s<(p:Int)∧(p:Int)∣q.2*s - q.1∧(p:Int)∣evI rs s:=by
  have np:¬ (p:Int)∣q.2:=fun y=>nl (Int.dvd_trans y (qlT ne lq.one z))
  refine ⟨np,?_⟩
  have pp:=hp.two
  obtain ⟨b,hb⟩:∃ b,(p:Int)∣q.2*b - 1:=by
    have g:=qlS hp np
    obtain ⟨x,y,hxy⟩:=qs3 (p:Int) q.2
    rw [g] at hxy
    have hxy:x*(p:Int)+y*q.2=1:=hxy
    exact ⟨y,⟨-x,by rw [Int.mul_neg,Int.mul_comm q.2,Int.mul_comm (p:Int)];omega⟩⟩
  have e0:(p:Int)∣q.2*(b*q.1 % (p:Int)) - q.1:=by
    obtain ⟨u,hu⟩:=hb
    obtain ⟨v,hv⟩:=qbd (b*q.1) (p:Int)
    refine ⟨q.2*v+u*q.1,?_⟩
    have:b*q.1 % (p:Int)=b*q.1+(p:Int)*v:=by omega
    rw [this]
    have h2:q.2*b=1+(p:Int)*u:=by omega
    have h3:q.2*(b*q.1+(p:Int)*v)=q.2*b*q.1+q.2*((p:Int)*v):=by grind
    rw [h3,h2];grind
  refine ⟨b*q.1 % (p:Int),Int.emod_nonneg _ (by omega),Int.emod_lt_of_pos _ (by omega),e0,?_⟩
  have h:=qrf e0 rs
  rw [z,Int.mul_zero,Int.sub_zero] at h
  rcases qfx hp h with y | y
  · exact absurd (qou hp _ y) np
  · exact y
theorem qpC {rs:List Int} {p j E:Nat} (hp:Pr p) (ne:rs≠[]) {lead c s W:Int} (hl:lst' rs=lead) (l0:0<lead) (nl:¬ (p:Int)∣lead) {q:Nu} (lq:Low q.1 q.2) (z:hw rs q.1 q.2=0) (hs:(p:Int)∣q.2*s - q.1) (hd:¬ (p:Int)∣dE rs s)
    (hr:((p ^ j:Nat):Int)∣evI rs (-c)) (hc:(p:Int)∣-c - s) (hW:((p ^ j:Nat):Int)∣W - -c*lead) (bW:2*W.natAbs≤((p ^ j:Nat):Int).natAbs) (big:lead*2 ^ (E+1)<((p ^ j:Nat):Int)) (sz:∀ i,i+1<rs.length→2 ^ (rs.length - 1 - i)*(co rs i).natAbs≤lead.natAbs*2 ^ ((rs.length - 1 - i)*E)):∃ k:Int,0<k∧lead=k*q.2∧W=k*q.1:=by
  have np:¬ (p:Int)∣q.2:=fun y=>nl (hl ▸ Int.dvd_trans y (qlT ne lq.one z))
  have near:=qrj l0 lq.pos ne hl sz z
  obtain ⟨k,hk⟩:q.2∣lead:=hl ▸ qlT ne lq.one z
  have q2:=lq.pos
  have k0:0<k:=by
    by_cases y:0<k
    · exact y
    · have:q.2*k≤q.2*0:=Int.mul_le_mul_of_nonneg_left (by omega) (by omega)
      omega
  refine ⟨k,k0,by rw [hk,Int.mul_comm],?_⟩
  generalize hN:((p ^ j:Nat):Int)=N at hr hW bW big
  obtain ⟨b,hb⟩:∃ b,N∣q.2*b - 1:=by
    have g:=qos hp np j
    rw [hN] at g
    obtain ⟨x,y,hxy⟩:=qs3 N q.2
    rw [g] at hxy
    have hxy:x*N+y*q.2=1:=hxy
    exact ⟨y,⟨-x,by rw [Int.mul_neg,Int.mul_comm q.2,Int.mul_comm N];omega⟩⟩
  have e0:N∣q.2*(b*q.1) - q.1:=by
    obtain ⟨u,hu⟩:=hb
    exact ⟨u*q.1,by have h2:q.2*b=1+N*u:=by omega
                    have h3:q.2*(b*q.1)=q.2*b*q.1:=by grind
                    rw [h3,h2];grind⟩
  have ev0:N∣evI rs (b*q.1):=by
    have h:=qrf e0 rs
    rw [z,Int.mul_zero,Int.sub_zero,Int.mul_comm] at h
    rw [← hN] at h ⊢
    exact qot hp (fun y=>np (qou hp _ y)) j h
  have hrN:=hr
  rw [← hN] at ev0 hr
  by_cases j0:j=0
  · -- modulus 1:cannot hold floor
    rw [j0,Nat.pow_zero] at hN
    have:(0:Int)<lead*2 ^ (E+1):=Int.mul_pos l0 (Int.pow_pos (by decide))
    omega
  have dp:(p:Int)∣N:=by
    obtain ⟨i,hi⟩:∃ i,j=i+1:=⟨j - 1,by omega⟩
    rw [← hN,hi,Nat.pow_succ];push_cast;exact Int.dvd_mul_left ..
  have ps:(p:Int)∣b*q.1 - s:=by
    have h1:(p:Int)∣q.2*(b*q.1) - q.1:=Int.dvd_trans dp e0
    have h2:(p:Int)∣(b*q.1 - s)*q.2:=by
      obtain ⟨u,hu⟩:=h1;obtain ⟨v,hv⟩:=hs
      exact ⟨u - v,by rw [Int.mul_sub,← hu,← hv];grind⟩
    rcases qfx hp h2 with y | y
    · exact y
    · exact absurd y np
  have pr:(p:Int)∣b*q.1 - -c:=by
    obtain ⟨u,hu⟩:=ps;obtain ⟨v,hv⟩:=hc
    exact ⟨u - v,by rw [Int.mul_sub];omega⟩
  have nd:¬ (p:Int)∣dE rs (-c):=fun y=>hd (by
    obtain ⟨F,hF⟩:=qtr rs (-c) (s - -c)
    rw [show -c+(s - -c)=s by omega] at hF
    obtain ⟨u,hu⟩:=y;obtain ⟨v,hv⟩:=hc
    exact ⟨u - v*F,by rw [hF,hu,show s - -c = -((p:Int)*v) by omega];grind⟩)
  have uq:=uniq hp pr hr ev0 nd
  rw [hN] at uq
  have fin:N∣W - k*q.1:=by
    obtain ⟨x,hx⟩:=uq
    obtain ⟨y,hy⟩:=e0
    obtain ⟨w,hw⟩:=hW
    refine ⟨w - k*q.2*x+k*y,?_⟩
    have h1:-c=b*q.1 - N*x:=by omega
    have h2:W = -c*lead+N*w:=by omega
    rw [h2,h1,hk]
    have h3:q.2*(b*q.1)=q.1+N*y:=by omega
    have h4:(b*q.1 - N*x)*(q.2*k)=q.2*(b*q.1)*k - N*x*(q.2*k):=by grind
    rw [h4,h3];grind
  have small:2*(k*q.1).natAbs<N.natAbs:=by
    have h1:(k*q.1).natAbs=k.natAbs*q.1.natAbs:=Int.natAbs_mul ..
    have h2:k.natAbs*q.1.natAbs<k.natAbs*(q.2.natAbs*2 ^ E):=Nat.mul_lt_mul_of_pos_left near (by omega)
    have h3:lead.natAbs=q.2.natAbs*k.natAbs:=by rw [hk];exact Int.natAbs_mul ..
    have h4:2*(k.natAbs*(q.2.natAbs*2 ^ E))=lead.natAbs*2 ^ (E+1):=by rw [h3,Nat.pow_succ];grind
    have h5:((lead.natAbs*2 ^ (E+1):Nat):Int)=lead*2 ^ (E+1):=by push_cast;rw [Int.natAbs_of_nonneg (by omega)]
    omega
  obtain ⟨x,hx⟩:=fin
  rcases Int.lt_trichotomy x 0 with y | y | y
  · have:N*x≤N*(-1):=Int.mul_le_mul_of_nonneg_left (by omega) (by omega)
    omega
  · rw [y] at hx;omega
  · have:N*1≤N*x:=Int.mul_le_mul_of_nonneg_left (by omega) (by omega)
    omega
theorem qjf {W n:Int} (n0:0<n):∃ k:Int,k≠0∧W=(qaT W n).1*k∧n=(qaT W n).2*k:=by
  have l1:=qbn (n:=W) (m:=n) (by omega)
  have v1:=qb4 (n:=W) (m:=n) (by omega)
  have e:(qaT W n).1*n=W*(qaT W n).2:=by
    unfold val at v1
    have d1:((qaT W n).2:Rat)≠0:=qbj (by have:=l1.pos;omega)
    have n1:(n:Rat)≠0:=qbj (by omega)
    have h1:((qaT W n).1:Rat) / ((qaT W n).2:Rat)*((qaT W n).2:Rat)=((qaT W n).1:Rat):=Rat.div_mul_cancel d1
    have h2:(W:Rat) / (n:Rat)*n=W:=Rat.div_mul_cancel n1
    have:((qaT W n).1:Rat)*n=W*((qaT W n).2:Rat):=by rw [← h1,← h2,v1];grind
    exact_mod_cast this
  have d0:=l1.pos
  have hd:(qaT W n).2∣n:=qjd (c:=(qaT W n).1) ⟨W,by rw [Int.mul_comm,e,Int.mul_comm]⟩ (by rw [Int.gcd_comm];exact l1.one)
  obtain ⟨k,hk⟩:=hd
  generalize (qaT W n).1=t at *
  generalize (qaT W n).2=d at *
  refine ⟨k,fun z=>by rw [z] at hk;omega,?_,hk⟩
  have:W*d=t*k*d:=by rw [← e,hk];grind
  exact Int.eq_of_mul_eq_mul_right (by omega) this
theorem qoD {W n:Int} (n0:0<n):(qaT W n).1.natAbs≤W.natAbs:=by
  obtain ⟨k,k0,e,_⟩:=qjf (W:=W) n0
  generalize (qaT W n).1=t at e
  rw [e,Int.natAbs_mul]
  exact Nat.le_mul_of_pos_right _ (by omega)
theorem qlX {W n:Int} (n0:0<n):(qaT W n).2.natAbs≤n.natAbs:=by
  obtain ⟨k,k0,_,e⟩:=qjf (W:=W) n0
  generalize (qaT W n).2=t at e
  rw [e,Int.natAbs_mul]
  exact Nat.le_mul_of_pos_right _ (by omega)
noncomputable def StM (rs:List Int) (g:Nat) (H:Hp) (pr:Nat) (st:V):Prop:=(st=.non∧pr<g)∨∃ (e:Addr) (ss:List Int),st=.ref e∧H e=some (.lst (ss.map V.int))∧¬ (pr:Int)∣lst' rs∧ss.Nodup∧(∀ x,0≤x→x<(pr:Int)→(pr:Int)∣evI rs x→x∈ss)∧∀ x∈ss,0≤x∧x<(pr:Int)∧(pr:Int)∣evI rs x∧¬ (pr:Int)∣evI (dI rs) x
theorem qka {K:W.Frag} {H:Hp} {Q:VK} {E:XK} {r:Addr} {rs:List Int} {g pr:Nat} (hr:H r=some (.lst (rs.map V.int))) (lz:Lz rs) (l9:rs.length≤9) (hp:Pr pr) (pg:pr≤g) (g2:g≤2000) (gl:¬ (g:Int)∣lst' rs) (gx:∀ x,(g:Int)∣evI rs x→¬ (g:Int)∣evI (dI rs) x)
    (k:∀ (st:V) (H':Hp),Same H H'→StM rs g H' pr st→Q st H'):qa8 K [.ref r,.int (pr:Int)] H Q E:=by
  refine ⟨r,rs,pr,rfl,hr,hp,by omega,lz,l9,fun bad H' s=>k _ _ s (.inl ⟨rfl,?_⟩),fun e ss H' s he nl nd h1 h2=>k _ _ s (.inr ⟨e,ss,rfl,he,nl,nd,h1,h2⟩)⟩
  rcases Nat.lt_or_eq_of_le pg with z | z
  · exact z
  · subst z
    rcases bad with y | ⟨x,y1,y2⟩
    · exact absurd y gl
    · exact absurd y2 (gx x y1)
theorem qfV (h:qbE K vs H Q E):qgr K { nx:=fun _ H'=>Q .non H',rt:=Q } (L2.start ["P", "row", "prime", "starts", "floor", "wholes", "start", "found", "whole", "root"] vs) H:=by
  obtain ⟨a,xs,l,rfl,ha,hN,hlow,l9,bB,b1,bZ,lzN,k⟩:=h
  have cl:(qf7 l).length=l.length:=by unfold qf7;rw [List.length_map]
  refine qde (qhU (qmF (qhU ⟨_,rfl,a,xs,l,qkE l,rfl,ha,hN,hlow,qha hlow,bB.mono (by decide),fun q hq=>(b1 q hq).mono (by decide),by omega,fun r0 a0 H1 s1 hr0 ha0=>⟨_,_,_,_,rfl,rfl,hr0,rfl,a0,qf7 l,rfl,ha0,lzN,bZ,by omega,fun r rs H2 s2 hr lz l9' b148 rad pos=>?_⟩⟩)))
  obtain ⟨g,hg,g2,gl,gx⟩:=qms lz l9' b148 (qst (qpx lzN) rad)
  have same:∀ q:Nu,Low q.1 q.2→(hw (qf7 l) q.1 q.2=0↔hw rs q.1 q.2=0):=fun q hq=>by
    have q0:q.2≠0:=by have:=hq.pos;omega
    rw [qj8 q0,qj8 q0]
    exact qpA (qpx lzN) rad _
  have ne:rs≠[]:=List.length_pos_iff.mp lz.1
  have aL:atI (rs.map V.int) (-1)=some (V.int (lst' rs)):=qbW lz.1
  have gl:¬ (g:Int)∣lst' rs:=gl
  have pos:0<lst' rs:=pos
  have bl:Bd 148 (lst' rs):=qbc b148 _
  have hg2:=hg.two
  have s12:=s1.trans s2
  generalize hlead:lst' rs=lead at aL gl pos bl
  show qc3 K _ [some (.ref a),some (.ref r),some (.int ((2:Nat):Int)),none,none,none,none,none,none,none] H2
  refine qeC ⟨_,rfl,_,rfl,qka hr lz l9' qqn hg2 g2 (by rw [hlead];exact gl) gx fun st H3 s3 hst=>?_⟩
  refine while_by (fun m σ H'=>∃ (pr:Nat) (st:V),σ=[some (.ref a),some (.ref r),some (.int (pr:Int)),some st,none,none,none,none,none,none]∧Same H2 H'∧Pr pr∧pr≤g∧StM rs g H' pr st∧m=g - pr) _ ⟨2,st,rfl,s3,qqn,hg2,hst,rfl⟩ ?_
  rintro m σ H' ⟨pr,st,rfl,sH,hp,pg,hst,rfl⟩
  have hr':=sH _ _ hr
  refine ⟨_,rfl,rfl,_,rfl,qbM (fun c=>?_) (fun c=>?_)⟩
  · have c:st=.non:=of_decide_eq_true c
    have pl:pr<g:=by
      rcases hst with ⟨_,z⟩ | ⟨e,ss,z,_⟩
      · exact z
      · rw [c] at z;cases z
    refine ⟨_,fun _ _ h=>h,?_⟩
    show qch K _ _ _
    refine qkI ⟨_,rfl,pr,g,rfl,hg,pl,g2,fun p' hp' h1 h2=>?_⟩
    show qcg K _ _ _
    refine qnX (qeD ⟨_,rfl,_,rfl,qka hr' lz l9' hp' h2 g2 (by rw [hlead];exact gl) gx fun st' H4 s4 hst'=>?_⟩)
    exact ⟨g - p',by omega,p',st',rfl,sH.trans s4,hp',h2,hst',rfl⟩
  · have c:¬ st=.non:=fun z=>c (decide_eq_true z)
    obtain ⟨e,ss,rfl,he,nl,nd,hall,hss⟩:∃ (e:Addr) (ss:List Int),st=.ref e∧H' e=some (.lst (ss.map V.int))∧¬ (pr:Int)∣lst' rs∧ss.Nodup∧(∀ x,0≤x→x<(pr:Int)→(pr:Int)∣evI rs x→x∈ss)∧∀ x∈ss,0≤x∧x<(pr:Int)∧(pr:Int)∣evI rs x∧¬ (pr:Int)∣evI (dI rs) x:=hst.resolve_left fun z=>c z.1
    rw [hlead] at nl
    have pp:=hp.two
    have few8:ss.length≤8:=by
      have:=few hp (rs.length - 1) rs ss (by have:=lz.1;omega) (by rw [show co rs (rs.length - 1)=lead from hlead];exact nl) nd fun x hx=>⟨(hss x hx).1,(hss x hx).2.1,(hss x hx).2.2.1⟩
      omega
    show qc2 K _ _ _
    refine qde (qmF ⟨_,rfl,_,rfl,_,_,_,_,rfl,rfl,hr',aL,?_⟩)
    refine qmF (qs8 (qhU ⟨_,rfl,r,rs,rfl,hr',lz,l9',b148,by rw [hlead];exact pos,fun e0 H4 s4 e200 hsz=>?_⟩))
    rw [hlead] at hsz
    have ee:(if (0:Int) > e0 then (0:Int) else e0)=(e0.toNat:Int):=by split <;> omega
    have t1:((e0.toNat:Int)+1).toNat=e0.toNat+1:=by omega
    have bE:e0.toNat≤200:=by omega
    have bb:=qoy bl
    refine ⟨_,_,rfl,_,_,rfl,rfl,lead,(e0.toNat:Int)+1,rfl,by rw [ee],⟨by omega,by omega⟩,?_⟩
    show qc1 K _ [some (.ref a),some (.ref r),some (.int (pr:Int)),some (.ref e),some (.int (lead*2 ^ ((e0.toNat:Int)+1).toNat)),none,none,none,none,none] H4
    rw [t1]
    clear ee t1
    generalize e0.toNat=E0 at hsz bE ⊢
    have F0:0<lead*2 ^ (E0+1):=Int.mul_pos pos (Int.pow_pos (by decide))
    have bF:Bd 400 (lead*2 ^ (E0+1)):=by
      have:Bd (E0+2) ((2:Int) ^ (E0+1)):=by unfold Bd;rw [Int.natAbs_pow];exact Nat.pow_lt_pow_right (by decide) (by omega)
      exact (bl.mul this).mono (by omega)
    have hr4:=s4 _ _ hr'
    have he4:=s4 _ _ he
    have sH4:=sH.trans s4
    generalize hF:lead*2 ^ (E0+1)=F at F0 bF ⊢
    refine qde ⟨qrs,fun w hwN=>?_⟩
    have sw:=qag hwN (HO.lst [])
    have hww:upd H4 w (HO.lst []) w=_:=qai
    have hr5:=sw _ _ hr4
    have he5:=sw _ _ he4
    have sH5:=sH4.trans sw
    have s05:=s12.trans sH5
    have wN:H w=none:=by
      cases q:H w with
      | none=>rfl
      | some o=>have:=(s12.trans sH4) _ _ q;rw [hwN] at this;cases this
    have rw':r≠w:=qao hr4 hwN
    have ew:e≠w:=qao he4 hwN
    generalize upd H4 w (HO.lst [])=H5 at sw hww hr5 he5 sH5 s05 ⊢
    refine ⟨_,rfl,e,rfl,⟨_,SqL.of he5⟩,?_⟩
    refine ForL.by (xs:=ss.map V.int) (fun i σ H'=>∃ (zs:List Int) (o6 o7 o8 o9:Option V),σ=[some (.ref a),some (.ref r),some (.int (pr:Int)),some (.ref e),some (.int F),some (.ref w),o6,o7,o8,o9]∧Same H H'∧H' r=some (.lst (rs.map V.int))∧H' e=some (.lst (ss.map V.int))∧H' w=some (.lst (zs.map V.int))∧i≤ss.length∧zs.length≤i∧zs.Nodup∧(∀ z∈zs,hw rs (qaT z lead).1 (qaT z lead).2=0∧∃ s∈ss.take i,(pr:Int)∣z - s*lead)∧∀ (q:Nu) (s:Int),Low q.1 q.2→hw rs q.1 q.2=0→s∈ss.take i→(pr:Int)∣q.2*s - q.1→∃ z∈zs,qaT z lead=q)
      ⟨[],none,none,none,none,rfl,s05,hr5,he5,hww,Nat.zero_le _,Nat.le_refl _,List.nodup_nil,(fun z h=>nomatch h),fun q s _ _ h=>by rw [List.take_zero] at h;cases h⟩ ?_ ?_ ?_
    · rintro i σ H' _ ⟨zs,o6,o7,o8,o9,rfl,_,_,he6,_⟩
      exact SqL.of he6
    · rintro i x σ H6 hx ⟨zs,o6,o7,o8,o9,rfl,s6,hr6,he6,hw6,il,zl,zn,hz,hq⟩
      have il':i<ss.length:=by have:=(List.getElem?_eq_some_iff.mp hx).1;rw [List.length_map] at this;exact this
      have hx:=qhs il' hx
      subst hx
      generalize hs:co ss i=s
      have sm:s∈ss:=by rw [← hs];unfold co;rw [List.getD_eq_getElem?_getD,List.getElem?_eq_getElem il'];exact List.getElem_mem _
      have tk:ss.take (i+1)=ss.take i++[s]:=by
        rw [List.take_add_one,List.getElem?_eq_getElem il',← hs];unfold co;rw [List.getD_eq_getElem?_getD,List.getElem?_eq_getElem il'];rfl
      have snot:s∉ss.take i:=fun z=>by
        have:=(List.nodup_append.mp (show (ss.take i++[s]).Nodup by rw [← tk];exact nd.sublist (List.take_sublist ..))).2.2 s z s (List.mem_singleton_self _)
        exact this rfl
      obtain ⟨s0,sp,sv,sd⟩:=hss s sm
      show qck K _ _ _
      refine qde (qs7 ⟨_,rfl,?_⟩)
      refine qnW ⟨_,rfl,_,rfl,qqS,fun y hy=>?_⟩
      have sy:=qag hy (HO.lst [V.int (-s),V.int 1])
      have hyy:upd H6 y (HO.lst [V.int (-s),V.int 1]) y=some (.lst ([-s,1].map V.int)):=qai
      have hr7:=sy _ _ hr6
      have he7:=sy _ _ he6
      have hw7:=sy _ _ hw6
      generalize upd H6 y (HO.lst [V.int (-s),V.int 1])=H7 at sy hyy hr7 he7 hw7 ⊢
      refine ⟨_,rfl,_,rfl,r,y,rs,s,F,pr,rfl,hr7,hyy,hp,by omega,lz,l9',b148,s0,sp,by rw [hlead];exact nl,sv,sd,F0,bF,fun t u c j H8 s8 ht hu big bM bc hev hcs=>?_⟩
      have hr8:=s8 _ _ hr7
      have M0:(0:Int)<((pr ^ j:Nat):Int):=by omega
      show qcj K _ _ _
      refine qeC ⟨_,rfl,_,_,_,_,rfl,rfl,ht,rfl,_,_,_,_,rfl,rfl,hu,rfl,_,rfl,_,rfl,_,rfl,_,_,_,_,rfl,rfl,hr8,aL,_,_,rfl,rfl,qgK bc.neg bl,_,rfl,_,_,_,_,rfl,rfl,ht,rfl,-c*lead,((pr ^ j:Nat):Int),rfl,M0,fun W hW bW=>?_⟩
      show qci K _ _ _
      refine qeC ⟨_,rfl,_,rfl,_,rfl,_,_,_,_,rfl,rfl,hr8,aL,W,lead,rfl,by omega,fun ra hra=>?_⟩
      have s9:=qag hra (HO.tup [V.int (qaT W lead).1,V.int (qaT W lead).2])
      have hra9:upd H8 ra (HO.tup [V.int (qaT W lead).1,V.int (qaT W lead).2]) ra=_:=qai
      have hr9:=s9 _ _ hr8
      have lowq:=qbn (n:=W) (m:=lead) (by omega)
      have s79:=sy.trans (s8.trans s9)
      generalize upd H8 ra (HO.tup [V.int (qaT W lead).1,V.int (qaT W lead).2])=H9 at s9 hra9 hr9 s79 ⊢
      have claim:∀ q:Nu,Low q.1 q.2→hw rs q.1 q.2=0→(pr:Int)∣q.2*s - q.1→qaT W lead=q:=fun q lq z hs=>by
        obtain ⟨k,k0,e1,e2⟩:=qpC hp ne hlead pos nl lq z hs (by rw [← qrh];exact sd) hev hcs hW bW (by rw [hF];exact big) hsz
        rw [e1,e2]
        exact qlW k0 lq
      have bW':Bd 1000 W:=bM.le (by omega)
      have bt:Bd 1000 (-(qaT W lead).1):=by
        refine Bd.neg (bW'.le ?_)
        exact qoD (by omega)
      have bd:Bd 1000 (qaT W lead).2:=(bl.mono (by decide)).le (qlX (by omega))
      refine qeD ⟨_,rfl,?_⟩
      refine qnW ⟨_,rfl,_,_,_,_,rfl,rfl,hra9,rfl,_,rfl,_,rfl,_,_,_,_,rfl,rfl,hra9,rfl,qqS,fun y2 hy2=>?_⟩
      have sA:=qag hy2 (HO.lst [V.int (-(qaT W lead).1),V.int (qaT W lead).2])
      have hyA:upd H9 y2 (HO.lst [V.int (-(qaT W lead).1),V.int (qaT W lead).2]) y2=some (.lst ([-(qaT W lead).1,(qaT W lead).2].map V.int)):=qai
      have hrA:=sA _ _ hr9
      have hwA:=sA _ _ (s79 _ _ hw6)
      have heA:=sA _ _ (s79 _ _ he6)
      have s6A:=(s6.trans s79).trans sA
      generalize upd H9 y2 (HO.lst [V.int (-(qaT W lead).1),V.int (qaT W lead).2])=HA at sA hyA hrA hwA heA s6A ⊢
      refine ⟨r,y2,rs,[-(qaT W lead).1,(qaT W lead).2],148,1000,rfl,hrA,hyA,⟨by show 0<2;decide,by show (qaT W lead).2≠0;have:=lowq.pos;omega⟩,b148,?_,by have:=l9';omega,by decide,by omega,by show 2≤1000;decide,fun no HB sB=>?_,fun rq qs HB sB hrq _ hqs=>?_⟩
      · intro z hz
        rcases List.mem_cons.mp hz with rfl | hz
        · exact bt
        · rw [List.mem_singleton.mp hz];exact bd
      · refine ⟨rfl,_,rfl,qbM (fun c=>absurd c (by decide)) (fun _=>?_)⟩
        refine ⟨zs,_,_,_,_,rfl,s6A.trans sB,sB _ _ hrA,sB _ _ heA,sB _ _ hwA,il',by omega,zn,fun z h=>?_,fun q s' lq hz' hs' hd'=>?_⟩
        · obtain ⟨h1,s',h2,h3⟩:=hz z h
          exact ⟨h1,s',by rw [tk];exact List.mem_append_left _ h2,h3⟩
        · rw [tk] at hs'
          rcases List.mem_append.mp hs' with y | y
          · exact hq q s' lq hz' y hd'
          · rw [List.mem_singleton.mp y] at hd'
            exfalso
            have e:=claim q lq hz' hd'
            exact no (by rw [e];exact qqe lq.one _ rs rfl hz')
      · have root:hw rs (qaT W lead).1 (qaT W lead).2=0:=qss (by have:=lowq.pos;omega) hqs
        have hwB:=sB _ _ hwA
        refine ⟨rfl,_,rfl,qbM (fun _=>?_) (fun c=>absurd (by simp) c)⟩
        refine ⟨_,rfl,qdm hwB,_,rfl,_,_,_,rfl,rfl,hwB,sz (by rw [List.length_map];omega),?_⟩
        have s6B:=s6A.trans sB
        have Ws:(pr:Int)∣W - s*lead:=by
          have dp:(pr:Int)∣((pr ^ j:Nat):Int):=by
            by_cases j0:j=0
            · rw [j0,Nat.pow_zero] at big;omega
            · obtain ⟨i,hi⟩:∃ i,j=i+1:=⟨j - 1,by omega⟩
              rw [hi,Nat.pow_succ];push_cast;exact Int.dvd_mul_left ..
          exact qoB (Int.dvd_trans dp hW) (qqm hcs lead)
        refine ⟨zs++[W],_,_,_,_,rfl,fun x o hx=>Kp.upd x o (qao hx wN) (s6B x o hx),(qay rw').trans (sB _ _ hrA),(qay ew).trans (sB _ _ heA),by rw [List.map_append];exact qai,il',by rw [List.length_append];exact Nat.succ_le_succ zl,?_,fun z h=>?_,fun q s' lq hz' hs' hd'=>?_⟩
        · refine List.nodup_append.mpr ⟨zn,by simp,fun z h y hy=>?_⟩
          rw [List.mem_singleton.mp hy]
          rintro rfl
          obtain ⟨_,s',h2,h3⟩:=hz z h
          have d:(pr:Int)∣(s' - s)*lead:=by
            obtain ⟨x,hx⟩:=h3;obtain ⟨v,hv⟩:=Ws
            exact ⟨v - x,by rw [Int.mul_sub,Int.sub_mul];omega⟩
          rcases qfx hp d with q | q
          · obtain ⟨k,hk⟩:=q
            obtain ⟨b1,b2,_⟩:=hss s' (List.mem_of_mem_take h2)
            have:s'=s:=by
              rcases Int.lt_trichotomy k 0 with y | y | y
              · have:(pr:Int)*k≤(pr:Int)*(-1):=Int.mul_le_mul_of_nonneg_left (by omega) (by omega)
                omega
              · rw [y] at hk;omega
              · have:(pr:Int)*1≤(pr:Int)*k:=Int.mul_le_mul_of_nonneg_left (by omega) (by omega)
                omega
            rw [this] at h2
            exact snot h2
          · exact nl q
        · rcases List.mem_append.mp h with y | y
          · obtain ⟨h1,s',h2,h3⟩:=hz z y
            exact ⟨h1,s',by rw [tk];exact List.mem_append_left _ h2,h3⟩
          · rw [List.mem_singleton.mp y]
            exact ⟨root,s,by rw [tk];exact List.mem_append_right _ (List.mem_singleton_self _),Ws⟩
        · rw [tk] at hs'
          rcases List.mem_append.mp hs' with y | y
          · obtain ⟨z,h1,h2⟩:=hq q s' lq hz' y hd'
            exact ⟨z,List.mem_append_left _ h1,h2⟩
          · rw [List.mem_singleton.mp y] at hd'
            exact ⟨W,List.mem_append_right _ (List.mem_singleton_self _),claim q lq hz' hd'⟩
    · rintro σ H6 ⟨zs,o6,o7,o8,o9,rfl,s6,hr6,he6,hw6,il,zl,zn,hz,hq⟩
      rw [List.length_map] at zl hz hq
      rw [List.take_length] at hz hq
      show qc0 K _ _ _
      refine qpi (qkK (qr9 ⟨_,rfl,w,zs,rfl,hw6,by omega,fun v ms hv pm sr=>⟨v,rfl,⟨_,SqL.of qai⟩,?_⟩⟩))
      have sv:=qag hv (HO.lst (ms.map V.int))
      have hvv:upd H6 v (HO.lst (ms.map V.int)) v=some (.lst (ms.map V.int)):=qai
      have hr7:=sv _ _ hr6
      have ml:=pm.length_eq
      generalize upd H6 v (HO.lst (ms.map V.int))=H7 at sv hvv hr7 ⊢
      refine CompJ.lst (xs:=ms.map V.int) (fun i ys H'=>i≤ms.length∧Same H7 H'∧Nums H' ys ((ms.take i).map fun z=>qaT z lead)) ⟨Nat.zero_le _,Same.refl _,trivial⟩ ?_ ?_ ?_
      · rintro i ys H' ⟨h1,s8,n8⟩
        exact ⟨by rw [List.length_map];exact h1,sz (by rw [n8.length,List.length_map,List.length_take];omega),SqL.of (s8 _ _ hvv)⟩
      · rintro i x ys H' hx ⟨h1,s8,n8⟩
        have il':i<ms.length:=by have:=(List.getElem?_eq_some_iff.mp hx).1;rw [List.length_map] at this;exact this
        have hx:=qhs il' hx
        subst hx
        refine qeD ⟨_,rfl,_,rfl,_,rfl,_,_,_,_,rfl,rfl,s8 _ _ hr7,aL,co ms i,lead,rfl,by omega,fun u hu=>?_⟩
        have su:=qag hu (HO.tup [V.int (qaT (co ms i) lead).1,V.int (qaT (co ms i) lead).2])
        have tk:ms.take (i+1)=ms.take i++[co ms i]:=by
          rw [List.take_add_one,List.getElem?_eq_getElem il'];unfold co;rw [List.getD_eq_getElem?_getD,List.getElem?_eq_getElem il'];rfl
        refine ⟨by omega,s8.trans su,?_⟩
        rw [tk,List.map_append]
        exact (n8.tp (tpS su)).append (Nums.one ⟨u,rfl,qai⟩)
      · rintro ys H' ⟨h1,s8,n8⟩ x hx
        rw [List.length_map,List.take_length] at n8
        have sx:=qag hx (HO.lst ys)
        have nm:ms.Nodup:=pm.symm.nodup zn
        refine k x ys (ms.map fun z=>qaT z lead) _ (((s6.trans sv).trans s8).trans sx) qai (n8.tp (tpS sx)) ?_ fun q=>?_
        · unfold Rising
          rw [List.pairwise_map]
          refine (sr.and nm).imp fun {x y} h=>qmu pos ?_
          rcases Int.lt_or_eq_of_le h.1 with z | z
          · exact z
          · exact absurd z h.2
        · constructor
          · intro h
            obtain ⟨z,hz1,rfl⟩:=List.mem_map.mp h
            have lq:=qbn (n:=z) (m:=lead) (by omega)
            exact ⟨lq,(same _ lq).mpr (hz z (pm.mem_iff.mp hz1)).1⟩
          · rintro ⟨lq,hq0⟩
            have hq0:=(same q lq).mp hq0
            obtain ⟨_,s,s0,sp,sd,sv⟩:=qpB hp ne (by rw [hlead];exact nl) lq hq0
            obtain ⟨z,hz1,e⟩:=hq q s lq hq0 (hall s s0 sp sv) sd
            exact List.mem_map.mpr ⟨z,pm.mem_iff.mpr hz1,e⟩
theorem CompF.range {capt:List (Option Nat)} {g:TG} {tc:TT} {te:TE} {σ:L2.St} {H:Hp} {Q:VK} {lo:Int} {n:Nat} (W:Nat→List V→Hp→Prop) (h0:W 0 [] H) (hb:∀ i ys H,W i ys H→i≤n∧ys.length≤sizeLine)
    (hs:∀ i ys H,i<n→W i ys H→g (.int (lo+i)) (qct capt σ) H fun σ2 H2=>tc σ2 H2 fun b H3=>if b=true then te σ2 H3 fun y H4=>W (i+1) (ys++[y]) H4 else W (i+1) ys H3) (hd:∀ ys H,W n ys H→∀ p,H p=none→Q (.ref p) (upd H p (.lst ys))):CompF (Itr lo n) capt g tc te σ Q H:=by
  refine ⟨n,W,h0,fun i ys H w=>⟨(hb i ys H w).1,(hb i ys H w).2,?_⟩⟩
  by_cases h:i<n
  · refine .inr ⟨h,h,fun x H' y=>?_⟩
    obtain ⟨e,y⟩:=y
    subst e y
    exact hs i ys _ h w
  · have e:i=n:=Nat.le_antisymm (hb i ys H w).1 (Nat.not_lt.mp h)
    subst e
    exact .inl ⟨Nat.le_refl _,hd ys H w⟩
theorem qk6 (h:qbL K vs H Q E):qmk K { nx:=fun _ H'=>Q .non H',rt:=Q } (L2.start ["_law_number"] vs) H:=by
  obtain ⟨n,rfl,n0,bn,k⟩:=h
  have bn:n.natAbs<32768:=bn
  have ea:(if n<0 then -n else n)=(n.natAbs:Int):=by split <;> omega
  refine ⟨_,rfl,n,rfl,_,_,rfl,rfl,_,_,rfl,?_,?_⟩
  · rw [ea]
    exact ⟨by decide,by decide,by omega,by omega⟩
  · rw [ea,show ((n.natAbs:Int)+1 - 1).toNat=n.natAbs by omega]
    refine CompF.range (fun i ys H'=>i≤n.natAbs∧H'=H∧∃ ds:List Int,ys=ds.map V.int∧ds.length≤i∧∀ z,z∈ds↔0<z∧z≤(i:Int)∧z∣n) ⟨Nat.zero_le _,rfl,[],rfl,Nat.le_refl _,fun z=>⟨(fun h=>nomatch h),fun h=>by have:=h.1;have:=h.2.1;omega⟩⟩ ?_ ?_ ?_
    · rintro i ys H' ⟨hi,_,ds,rfl,hd,_⟩
      exact ⟨hi,sz (by rw [List.length_map];omega)⟩
    · rintro i ys H' hi ⟨_,rfl,ds,rfl,hd,hz⟩
      have i1:(0:Int)<1+(i:Int):=by omega
      refine ⟨_,rfl,_,rfl,_,_,rfl,rfl,i1,rfl,_,rfl,qbM (fun c=>?_) (fun c=>?_)⟩
      · have c:V.int (n % (1+(i:Int)))=V.int 0:=of_decide_eq_true c
        have c:n % (1+(i:Int))=0:=by injection c
        refine ⟨_,rfl,hi,rfl,ds++[1+(i:Int)],by rw [List.map_append];rfl,by rw [List.length_append];exact Nat.succ_le_succ hd,fun z=>?_⟩
        rw [List.mem_append,hz,List.mem_singleton]
        constructor
        · rintro (⟨h1,h2,h3⟩ | rfl)
          · exact ⟨h1,by omega,h3⟩
          · exact ⟨i1,by omega,Int.dvd_of_emod_eq_zero c⟩
        · rintro ⟨h1,h2,h3⟩
          by_cases e:z=1+(i:Int)
          · exact .inr e
          · exact .inl ⟨h1,by omega,h3⟩
      · have c:¬ n % (1+(i:Int))=0:=fun z=>c (decide_eq_true (congrArg V.int z))
        refine ⟨hi,rfl,ds,rfl,by omega,fun z=>?_⟩
        rw [hz]
        constructor
        · rintro ⟨h1,h2,h3⟩
          exact ⟨h1,by omega,h3⟩
        · rintro ⟨h1,h2,h3⟩
          refine ⟨h1,?_,h3⟩
          have:z≠1+(i:Int):=fun e=>c (Int.emod_eq_zero_of_dvd (e ▸ h3))
          omega
    · rintro ys H' ⟨_,rfl,ds,rfl,hd,hz⟩ p hp
      refine k p ds hp (fun z=>?_) hd
      rw [hz]
      constructor
      · rintro ⟨h1,h2,h3⟩
        exact ⟨h1,h3⟩
      · rintro ⟨h1,h2⟩
        refine ⟨h1,?_,h2⟩
        have:=Int.le_of_dvd (b:=(n.natAbs:Int)) (by omega) (Int.dvd_natAbs.mpr h2)
        exact this
theorem qmv:∀ {rs ws:List Nu},Rising rs→Rising ws→(∀ q,q∈rs↔q∈ws)→rs=ws:=by
  intro rs
  induction rs with
  | nil=>
    intro ws _ _ h
    cases ws with
    | nil=>rfl
    | cons b m=>exact absurd ((h b).mpr (List.mem_cons_self ..)) (by simp)
  | cons a l ih=>
    intro ws hr hw h
    cases ws with
    | nil=>exact absurd ((h a).mp (List.mem_cons_self ..)) (by simp)
    | cons b m=>
      obtain ⟨ra,rl⟩:=List.pairwise_cons.mp hr
      obtain ⟨wa,wl⟩:=List.pairwise_cons.mp hw
      have e:a=b:=by
        rcases List.mem_cons.mp ((h a).mp (List.mem_cons_self ..)) with z | z
        · exact z
        · rcases List.mem_cons.mp ((h b).mpr (List.mem_cons_self ..)) with y | y
          · exact y.symm
          · have:=ra b y
            have:=wa a z
            omega
      subst e
      have:l=m:=ih rl wl fun q=>by
        constructor
        · intro hq
          rcases List.mem_cons.mp ((h q).mp (List.mem_cons_of_mem _ hq)) with z | z
          · have:=ra q hq
            rw [z] at this;omega
          · exact z
        · intro hq
          rcases List.mem_cons.mp ((h q).mpr (List.mem_cons_of_mem _ hq)) with z | z
          · have:=wa q hq
            rw [z] at this;omega
          · exact z
      rw [this]
theorem qtu {a b c:Nu} (ha:0<a.2) (hb:0<b.2) (hc:0<c.2) (h1:a.1*b.2<b.1*a.2) (h2:b.1*c.2<c.1*b.2):a.1*c.2<c.1*a.2:=by
  have h3:a.1*b.2*c.2<b.1*a.2*c.2:=Int.mul_lt_mul_of_pos_right h1 hc
  have h4:b.1*c.2*a.2<c.1*b.2*a.2:=Int.mul_lt_mul_of_pos_right h2 ha
  refine Int.lt_of_mul_lt_mul_right (a:=b.2) ?_ (by omega)
  have e1:a.1*c.2*b.2=a.1*b.2*c.2:=by grind
  have e2:c.1*a.2*b.2=c.1*b.2*a.2:=by grind
  have e3:b.1*a.2*c.2=b.1*c.2*a.2:=by grind
  omega
theorem qpD {rs:List Nu} {k:Nat} {c:Nu} (hr:Rising rs) (pos:∀ q∈rs,0<q.2) (c0:0<c.2) (h1:∀ q∈rs.take k,q.1*c.2<c.1*q.2) (h2:∀ q,rs[k]?=some q→c.1*q.2<q.1*c.2):Rising (rs.take k++c::rs.drop k):=by
  have hr':Rising (rs.take k++rs.drop k):=by rw [List.take_append_drop];exact hr
  obtain ⟨r1,r2,r3⟩:=List.pairwise_append.mp hr'
  have after:∀ q∈rs.drop k,c.1*q.2<q.1*c.2:=fun q hq=>by
    by_cases hk:k<rs.length
    · rw [List.drop_eq_getElem_cons hk] at hq r2
      have g:=h2 _ (List.getElem?_eq_getElem hk)
      rcases List.mem_cons.mp hq with rfl | hq
      · exact g
      · have:=(List.pairwise_cons.mp r2).1 q hq
        exact qtu c0 (pos _ (List.getElem_mem hk)) (pos q (List.mem_of_mem_drop hq)) g this
    · rw [List.drop_eq_nil_of_le (by omega)] at hq;cases hq
  refine List.pairwise_append.mpr ⟨r1,List.pairwise_cons.mpr ⟨after,r2⟩,fun x hx y hy=>?_⟩
  rcases List.mem_cons.mp hy with rfl | hy
  · exact h1 x hx
  · exact r3 x hx y hy
theorem qsy {a b:Nu} (ha:Low a.1 a.2) (hb:Low b.1 b.2) (e:a.1*b.2=b.1*a.2):a=b:=by
  refine qfK ha hb ?_
  unfold val
  have a1:(a.2:Rat)≠0:=qbj (by have:=ha.pos;omega)
  have b1:(b.2:Rat)≠0:=qbj (by have:=hb.pos;omega)
  have e:(a.1:Rat)*b.2=b.1*a.2:=by exact_mod_cast e
  have:=Rat.mul_inv_cancel _ a1
  have:=Rat.mul_inv_cancel _ b1
  rw [Rat.div_def,Rat.div_def]
  grind
theorem datN_inj {q c:Nu}:qmE q=qmE c↔q=c:=by
  constructor
  · intro h
    unfold qmE at h
    injection h with h
    injection h with h1 h
    injection h with h2 h
    injection h1 with h1
    injection h2 with h2
    exact Prod.ext h1 h2
  · intro h;rw [h]
theorem Nums.ins {H:Hp} {v:V} {q:Nu} (hv:isN H v q) {xs:List V} {l:List Nu} (k:Nat) (h:Nums H xs l):Nums H (xs.take k++v::xs.drop k) (l.take k++q::l.drop k):=by
  have hd:∀ {xs:List V} {l:List Nu} (n:Nat),Nums H xs l→Nums H (xs.drop n) (l.drop n):=by
    intro xs
    induction xs with
    | nil=>intro l n h;cases l with
      | nil=>rw [List.drop_nil,List.drop_nil];trivial
      | cons _ _=>exact h.elim
    | cons x xs ih=>intro l n h;cases l with
      | nil=>exact h.elim
      | cons q l=>cases n with
        | zero=>exact h
        | succ n=>exact ih n h.2
  exact Nums.append (h.take k) ⟨hv,hd k h⟩
theorem qk7 (h:qdr K vs H Q E):qmj K { nx:=fun _ H'=>Q .non H',rt:=Q } (L2.start ["_law_numbers", "_law_found", "_law_c", "_law_place"] vs) H:=by
  obtain ⟨a,us,ls,rfl,ha,hN,hlow,lL,bls,k⟩:=h
  refine qde ⟨qrs,fun w hw=>?_⟩
  show qgh K _ [some (.ref a),some (.ref w),none,none] _
  have s1:=qag hw (HO.lst [])
  have ll:=hN.length
  refine ⟨_,rfl,a,rfl,⟨us,SqL.of (s1 _ _ ha)⟩,?_⟩
  refine ForL.by (xs:=us) (fun i σ H'=>∃ (ys:List V) (rs:List Nu) (o2 o3:Option V),σ=[some (.ref a),some (.ref w),o2,o3]∧Same H H'∧H' w=some (.lst ys)∧Nums H' ys rs∧Rising rs∧(∀ q,q∈rs↔q∈ls.take i)∧rs.length≤i) ⟨[],[],none,none,rfl,s1,qai,trivial,List.Pairwise.nil,fun q=>by rw [List.take_zero],Nat.le_refl _⟩ ?_ ?_ ?_
  · rintro i σ H' _ ⟨ys,rs,o2,o3,rfl,s,_⟩
    exact SqL.of (s _ _ ha)
  · rintro i x σ H1 hx ⟨ys,rs,o2,o3,rfl,s,hw1,hr,ris,mem,li⟩
    obtain ⟨c,hc,pc,rfl,hpc⟩:=hN.get hx
    have il:i<ls.length:=(List.getElem?_eq_some_iff.mp hc).1
    have cm:c∈ls:=by obtain ⟨z,e⟩:=List.getElem?_eq_some_iff.mp hc;exact e ▸ List.getElem_mem z
    have tk:ls.take (i+1)=ls.take i++[c]:=by rw [List.take_add_one,hc];rfl
    have hpc:=s _ _ hpc
    have inl:∀ q∈rs,q∈ls:=fun q hq=>List.mem_of_mem_take ((mem q).mp hq)
    have c0:=(hlow c cm).pos
    obtain ⟨bc1,bc2⟩:=bls c cm
    have ly:=hr.length
    show qd4 K _ _ _
    refine qde ?_
    show qd3 K _ [some (.ref a),some (.ref w),some (.ref pc),some (.int ((0:Nat):Int))] H1
    refine while_by (fun m σ H'=>∃ k:Nat,σ=[some (.ref a),some (.ref w),some (.ref pc),some (.int (k:Int))]∧H'=H1∧k≤rs.length∧(∀ q∈rs.take k,q.1*c.2<c.1*q.2)∧m=rs.length - k) _ ⟨0,rfl,rfl,Nat.zero_le _,(fun q h=>by rw [List.take_zero] at h;cases h),rfl⟩ ?_
    rintro m σ H' ⟨k,rfl,rfl,kl,before,rfl⟩
    have ins:(∀ q,rs[k]?=some q→c.1*q.2<q.1*c.2)→∃ (zs:List V) (qs:List Nu) (o2 o3:Option V),[some (.ref a),some (.ref w),some (.ref pc),some (.int (k:Int))]=[some (.ref a),some (.ref w),o2,o3]∧Same H (upd H' w (.lst (ys.take k++.ref pc::ys.drop k)))∧upd H' w (.lst (ys.take k++.ref pc::ys.drop k)) w=some (.lst zs)∧Nums (upd H' w (.lst (ys.take k++.ref pc::ys.drop k))) zs qs∧Rising qs∧(∀ q,q∈qs↔q∈ls.take (i+1))∧qs.length≤i+1:=fun hk=>by
      refine ⟨_,rs.take k++c::rs.drop k,_,_,rfl,fun b o h=>Kp.upd b o (qao h hw) (s b o h),qai,(Nums.ins ⟨pc,rfl,hpc⟩ k hr).tp (Tp.updL hw1),qpD ris (fun q hq=>(hlow q (inl q hq)).pos) c0 before hk,fun q=>?_,?_⟩
      · rw [tk,List.mem_append,List.mem_append,List.mem_cons,← mem,List.mem_singleton]
        constructor
        · rintro (z | z | z)
          · exact .inl (List.mem_of_mem_take z)
          · exact .inr z
          · exact .inl (List.mem_of_mem_drop z)
        · rintro (z | z)
          · rw [← List.take_append_drop k rs,List.mem_append] at z
            rcases z with z | z
            · exact .inl z
            · exact .inr (.inr z)
          · exact .inr (.inl z)
      · rw [List.length_append,List.length_cons,List.length_take,List.length_drop];omega
    refine ⟨_,rfl,_,rfl,w,ys,rfl,hw1,_,_,rfl,rfl,_,rfl,qbM (fun c1=>?_) (fun c1=>?_)⟩
    · have c1:k<rs.length:=by have:=of_decide_eq_true c1;omega
      obtain ⟨v,hv,q,rfl,hq⟩:=hr.at c1 c
      have gq:rs[k]?=some (rs.getD k c):=by rw [List.getD_eq_getElem?_getD,List.getElem?_eq_getElem c1];rfl
      have qm:rs.getD k c∈rs:=by obtain ⟨z,e⟩:=List.getElem?_eq_some_iff.mp gq;exact e ▸ List.getElem_mem z
      generalize rs.getD k c=d at hq gq qm
      have lq:=hlow d (inl d qm)
      obtain ⟨bq1,bq2⟩:=bls d (inl d qm)
      have hv:=qkv hv
      refine ⟨_,rfl,_,rfl,_,_,_,_,rfl,rfl,hw1,hv,_,_,_,_,rfl,rfl,hq,rfl,_,rfl,_,_,_,_,rfl,rfl,hpc,rfl,_,_,rfl,rfl,qgK bq1 bc2,_,rfl,_,_,_,_,rfl,rfl,hpc,rfl,_,rfl,_,rfl,_,_,_,_,rfl,rfl,hw1,hv,_,_,_,_,rfl,rfl,hq,rfl,_,_,rfl,rfl,qgK bc1 bq2,_,_,rfl,rfl,_,rfl,qbM (fun c2=>?_) (fun c2=>?_)⟩
      · have c2:d.1*c.2<c.1*d.2:=of_decide_eq_true c2
        refine ⟨_,fun _ _ h=>h,_,rfl,_,_,rfl,rfl,rs.length - (k+1),by omega,k+1,rfl,rfl,c1,fun q hq=>?_,rfl⟩
        rw [List.take_add_one,gq] at hq
        rcases List.mem_append.mp hq with z | z
        · exact before q z
        · rw [List.mem_singleton.mp z];exact c2
      · have c2:¬ d.1*c.2<c.1*d.2:=fun z=>c2 (decide_eq_true z)
        show qcM K _ _ _
        refine ⟨_,rfl,_,rfl,w,ys,rfl,hw1,rfl,_,rfl,qbM (fun c3=>?_) (fun _=>?_)⟩
        · have c3:V.int (k:Int)=V.int (ys.length:Int):=of_decide_eq_true c3
          have c3:(k:Int)=(ys.length:Int):=by injection c3
          omega
        · refine ⟨_,rfl,_,rfl,_,_,_,_,rfl,rfl,hw1,hv,_,rfl,qmE d,qmE c,decide (d=c),qs5 ⟨q,rfl,hq⟩,qs5 ⟨pc,rfl,hpc⟩,okN _ 7,okN _ 7,⟨fun z=>by rw [of_decide_eq_true z],fun z=>decide_eq_true (datN_inj.mp z)⟩,_,rfl,?_⟩
          by_cases e:d=c
          · rw [decide_eq_true e]
            subst e
            refine ⟨ys,rs,_,_,rfl,s,hw1,hr,ris,fun q=>?_,by omega⟩
            rw [tk,List.mem_append,← mem,List.mem_singleton]
            exact ⟨.inl,fun z=>z.elim id fun z=>z ▸ qm⟩
          · rw [decide_eq_false e]
            refine ⟨_,rfl,qdm hw1,_,rfl,_,rfl,w,ys,_,k,rfl,rfl,hw1,by omega,sz (by omega),ins fun q hq=>?_⟩
            rw [gq] at hq
            cases hq
            rcases Int.lt_trichotomy (d.1*c.2) (c.1*d.2) with z | z | z
            · exact absurd z c2
            · exact absurd (qsy lq (hlow c cm) z) e
            · exact z
    · have c1:k=rs.length:=by
        have:¬ (k:Int)<(ys.length:Int):=fun z=>c1 (decide_eq_true z)
        omega
      show (if false=true then _ else _)
      refine qbM (fun z=>by cases z) fun _=>?_
      show qcM K _ _ _
      refine ⟨_,rfl,_,rfl,w,ys,rfl,hw1,rfl,_,rfl,?_⟩
      rw [decide_eq_true (show V.int (k:Int)=V.int (ys.length:Int) by rw [c1,ly])]
      refine ⟨_,rfl,qdm hw1,_,rfl,_,rfl,w,ys,_,k,rfl,rfl,hw1,by omega,sz (by omega),ins fun q hq=>?_⟩
      rw [List.getElem?_eq_none (by omega)] at hq;cases hq
  · rintro σ H' ⟨ys,rs,o2,o3,rfl,s,hw',hr,ris,mem,li⟩
    refine ⟨_,rfl,k w ys rs H' s hw' hr ris fun q=>?_⟩
    rw [mem,ll,List.take_length]
theorem qsz {K:W.Frag} {tl:TE} {g:TG} {tb rest:TS} {D:Ends} {σ:L2.St} {H:Hp} (h:tl σ H (fun x H1=>∃ a,x=.ref a∧(∃ xs,SqL K H1 a xs)∧ForL K a g tb { D with nx:=rest D } σ H1)):qaE (qdw (qbR K tl) g tb) rest D σ H:=h
theorem qro {K:W.Frag} {tl:TE} {g:TG} {tb:TS} {D:Ends} {σ:L2.St} {H:Hp} (h:tl σ H (fun x H1=>∃ a,x=.ref a∧(∃ xs,SqL K H1 a xs)∧ForL K a g tb D σ H1)):qdw (qbR K tl) g tb D σ H:=h
theorem qrp {K:W.Frag} {tl:TE} {g:TG} {tb:TS} {D:Ends} {σ:L2.St} {H:Hp} (h:tl σ H (fun x H1=>∃ a,x=.ref a∧(∃ xs,SqT K H1 a xs)∧ForT K a g tb D σ H1)):qdw (qoW K tl) g tb D σ H:=h
theorem qsA {K:W.Frag} {i:Nat} {w:Addr} {ta:TE} {D:Ends} {σ:L2.St} {H:Hp} (h1:σ[i]?=some (some (.ref w))) (h2:tyV K "list" (.ref w) H) (h:ta σ H fun y H1=>qb0 (.ref w) [y] H1 fun _ H2=>D.nx σ H2):qeS (tBM K "list" qb0 (qaf i) (qac ta qat)) D σ H:=⟨_,h1,h2,h⟩
theorem qtv {c:TT} {t u:TS} {D:Ends} {σ:L2.St} {H:Hp} (h:c σ H fun b H1=>if b=true then t D σ H1 else u D σ H1):qdK c t u D σ H:=h
theorem qoE {t s f:Int} (g:Int.gcd t s=1) (t0:t≠0):∀ {ns r:List Int},ns.filter (fun z=>!decide (z=0))=f::r→hw ns t s=0→t∣f:=by
  intro ns
  induction ns with
  | nil=>intro r h;cases h
  | cons a l ih=>
    intro r h z
    by_cases a0:a=0
    · subst a0
      rw [qpz] at z
      exact ih h ((Int.mul_eq_zero.mp z).resolve_left t0)
    · rw [List.filter_cons_of_pos (by simp [a0])] at h
      injection h with h1 _
      exact h1 ▸ qqd g z
theorem qpE {K:W.Frag} {a w:Addr} {ns:List Int} {f:V} {t s g:Int} {ys:List V} {qs:List Nu} {D:Ends} {H:Hp} (ha:H a=some (.lst (ns.map V.int))) (hw':H w=some (.lst ys)) (hN:Nums H ys qs) (l9:ns.length≤9) (bn:∀ z∈ns,Bd 9 z) (lq:qs.length≤900000) (t0:Bd 9 t) (s0:0<s) (bs:Bd 9 s) (g1:g=1∨g = -1)
    (k1:hw ns (g*t) s≠0→∀ H',Kp w H H'→Nums H' ys qs→H' w=some (.lst ys)→D.nx [some (.ref a),some (.ref w),some f,some (.int t),some (.int s),some (.int g)] H')
    (k2:hw ns (g*t) s=0→∀ H' y,Kp w H H'→Nums H' (ys++[y]) (qs++[qaT (g*t) s])→H' w=some (.lst (ys++[y]))→D.nx [some (.ref a),some (.ref w),some f,some (.int t),some (.int s),some (.int g)] H') :
    (qdK (qaU (tOp rEq (qau (qcD K) [] E0 (qac (qaf 0) (qac (qks (qac (tOp qcy (qaf 5) (qaf 3)) (qac (qaf 4) qat))) qat))) (tC (.int 0)))) (qeS (tBM K "list" qb0 (qaf 1) (qac (qau (qbx K) [] E0 (qac (tOp qcy (qaf 5) (qaf 3)) (qac (qaf 4) qat))) qat))) qbz) D [some (.ref a),some (.ref w),some f,some (.int t),some (.int s),some (.int g)] H:=by
  have bg:Bd 9 g:=by rcases g1 with rfl | rfl <;> (unfold Bd;decide)
  have bt:Bd 100 (g*t):=(bg.mul t0).mono (by decide)
  refine qtv (qp5 (qmF (qeD ⟨_,rfl,qlD ⟨_,rfl,_,rfl,_,_,rfl,rfl,qgK bg t0,_,rfl,qqS,fun b hb=>?_⟩⟩)))
  have sb:=qag hb (HO.tup [V.int (g*t),V.int s])
  have hbb:upd H b (HO.tup [V.int (g*t),V.int s]) b=_:=qai
  refine ⟨a,b,ns,g*t,s,rfl,sb _ _ ha,hbb,by omega,fun z hz=>(bn z hz).mono (by decide),bt,bs.mono (by decide),rfl,_,rfl,qbM (fun c=>?_) (fun c=>?_)⟩
  · have c:V.int (hw ns (g*t) s)=V.int 0:=of_decide_eq_true c
    have c:hw ns (g*t) s=0:=by injection c
    have hwb:=sb _ _ hw'
    have nb:=hN.tp (tpS sb)
    have kb:=Kp.of_same (p:=w) sb
    generalize upd H b (HO.tup [V.int (g*t),V.int s])=H1 at sb hbb hwb nb kb ⊢
    refine qsA rfl (qdm hwb) (qeD ⟨_,rfl,_,rfl,_,_,rfl,rfl,qgK bg t0,_,rfl,g*t,s,rfl,by omega,fun r hr=>?_⟩)
    have sr:=qag hr (HO.tup [V.int (qaT (g*t) s).1,V.int (qaT (g*t) s).2])
    have hwr:=sr _ _ hwb
    have nr:=nb.tp (tpS sr)
    refine ⟨_,_,_,rfl,rfl,hwr,sz (by have:=hN.length;omega),k2 c _ _ ((kb.same sr).trans Kp.upd) ((nr.tp (Tp.updL hwr)).append (Nums.one ?_)) qai⟩
    exact isN.tp qkH (Tp.updL hwr)
  · have c:hw ns (g*t) s≠0:=fun z=>c (decide_eq_true (congrArg V.int z))
    exact k1 c _ (Kp.of_same sb) (hN.tp (tpS sb)) (sb _ _ hw')
theorem qpF {K:W.Frag} {tl:TE} {capt:List (Option Nat)} {g:TG} {tc:TT} {te:TE} {σ:L2.St} {H:Hp} {Q:VK} (h:tl σ H (fun x H1=>∃ a,x=.ref a∧(∃ xs,SqL K H1 a xs)∧CompF (Itl K a) capt g tc te σ Q H1)):qg4 (qbR K tl) capt g tc te σ H Q:=h
noncomputable def Fnd (ns:List Int) (w:Addr) (H:Hp) (qs:List Nu):Prop:=∃ ys,H w=some (.lst ys)∧Nums H ys qs∧∀ q∈qs,RtQ ns q∧Bd 100 q.1∧Bd 100 q.2
theorem Fnd.same {ns:List Int} {w:Addr} {H H':Hp} {qs:List Nu} (h:Fnd ns w H qs) (s:Same H H'):Fnd ns w H' qs:=by
  obtain ⟨ys,h1,h2,h3⟩:=h
  exact ⟨ys,s _ _ h1,h2.tp (tpS s),h3⟩
noncomputable def Dn (ns:List Int) (qs:List Nu) (t s:Int):Prop:=∀ g:Int,g=1∨g = -1→hw ns (g*t) s=0→qaT (g*t) s∈qs
theorem Dn.sub {ns:List Int} {qs ws:List Nu} {t s:Int} (h:Dn ns qs t s) (sb:∀ q∈qs,q∈ws):Dn ns ws t s:=fun g hg z=>sb _ (h g hg z)
theorem qoF {ns:List Int} {i:Nat} (h:i<ns.length):co ns i∈ns:=by
  unfold co;rw [List.getD_eq_getElem?_getD,List.getElem?_eq_getElem h];exact List.getElem_mem _
theorem qk8 {ns:List Int} {i:Nat} (h:i<ns.length):ns.take (i+1)=ns.take i++[co ns i]:=by
  rw [List.take_add_one,List.getElem?_eq_getElem h];unfold co;rw [List.getD_eq_getElem?_getD,List.getElem?_eq_getElem h];rfl
theorem qqo {n:Nat} {a b:Int} (h:Bd n b) (b0:b≠0) (d:a∣b):Bd n a:=h.le (Nat.le_of_dvd (by omega) (Int.natAbs_dvd_natAbs.mpr d))
theorem qpG {K:W.Frag} {a w:Addr} {ns:List Int} {f:Int} {qs0:List Nu} {D:Ends} {rest:TS} {H:Hp} (ha:H a=some (.lst (ns.map V.int))) (aw:a≠w) (hF:Fnd ns w H qs0) (l9:ns.length≤9) (lz:Lz ns) (bn:∀ z∈ns,Bd 9 z) (q1:qs0.length≤1) (f0:f≠0) (bf:Bd 9 f)
    (k:∀ (σ:L2.St) (H':Hp) (qs:List Nu),σ[1]?=some (some (.ref w))→Kp w H H'→Fnd ns w H' qs→qs.length≤600000→(∀ q∈qs0,q∈qs)→(∀ t s,0<t→t∣f→0<s→s∣lst' ns→Dn ns qs t s)→rest D σ H') :
    qaE (qdw (qbR K (qau (qbL K) [] E0 (qac (qaf 2) qat))) (qaj 3) (qdw (qbR K (qau (qbL K) [] E0 (qac (tOp gL (qaf 0) (tUn qdL (tC (.int 1)))) qat))) (qaj 4) (qdw (qoW K (qks (qac (tC (.int 1)) (qac (tUn qdL (tC (.int 1))) qat)))) (qaj 5) (qdK (qaU (tOp rEq (qau (qcD K) [] E0 (qac (qaf 0) (qac (qks (qac (tOp qcy (qaf 5) (qaf 3)) (qac (qaf 4) qat))) qat))) (tC (.int 0)))) (qeS (tBM K "list" qb0 (qaf 1) (qac (qau (qbx K) [] E0 (qac (tOp qcy (qaf 5) (qaf 3)) (qac (qaf 4) qat))) qat))) qbz)))) rest D [some (.ref a),some (.ref w),some (.int f),none,none,none] H:=by
  have bl:Bd 9 (lst' ns):=qbc bn _
  have lne:lst' ns≠0:=lz.2
  have aL:atI (ns.map V.int) (-1)=some (V.int (lst' ns)):=qbW lz.1
  generalize hlead:lst' ns=lead at bl lne aL k
  refine qsz (qhU ⟨_,rfl,f,rfl,f0,bf.mono (by decide),fun r ds hr hds ld=>?_⟩)
  have wr:r≠w:=fun z=>by obtain ⟨ys,h,_⟩:=hF;rw [z] at hr;rw [hr] at h;cases h
  have s1:=qag hr (HO.lst (ds.map V.int))
  have hrr:upd H r (HO.lst (ds.map V.int)) r=_:=qai
  have ha1:=s1 _ _ ha
  have F1:=hF.same s1
  have k1:=Kp.of_same (p:=w) s1
  generalize upd H r (HO.lst (ds.map V.int))=H1 at s1 hrr ha1 F1 k1 ⊢
  have bf':f.natAbs<512:=bf
  have bl':lead.natAbs<512:=bl
  refine ⟨r,rfl,⟨_,SqL.of hrr⟩,ForL.by (xs:=ds.map V.int) (fun i σ H'=>∃ (qs:List Nu) (o3 o4 o5:Option V),σ=[some (.ref a),some (.ref w),some (.int f),o3,o4,o5]∧Kp w H1 H'∧Fnd ns w H' qs∧i≤ds.length∧qs.length≤1+1022*i∧(∀ q∈qs0,q∈qs)∧∀ t∈ds.take i,∀ s,0<s→s∣lead→Dn ns qs t s)
    ⟨qs0,none,none,none,rfl,Kp.of_same (Same.refl _),F1,Nat.zero_le _,by omega,fun _ h=>h,fun t h=>by rw [List.take_zero] at h;cases h⟩ ?_ ?_ ?_⟩
  · rintro i σ H' _ ⟨qs,o3,o4,o5,rfl,k',_⟩
    exact SqL.of (k' _ _ wr hrr)
  · rintro i x σ H2 hx ⟨qs,o3,o4,o5,rfl,k2,F2,il,lq,sub,dn⟩
    have il':i<ds.length:=by have:=(List.getElem?_eq_some_iff.mp hx).1;rw [List.length_map] at this;exact this
    have hx:=qhs il' hx
    subst hx
    have tk:=qk8 il'
    have tm:=(hds _).mp (qoF il')
    generalize co ds i=t at tk tm
    have bt:Bd 9 t:=qqo bf f0 tm.2
    have ha2:=k2 _ _ aw ha1
    refine qro (qhU (qmF ⟨_,rfl,_,rfl,_,_,_,_,rfl,rfl,ha2,aL,lead,rfl,lne,bl.mono (by decide),fun r2 ds2 hr2 hds2 ld2=>?_⟩))
    have wr2:r2≠w:=fun z=>by obtain ⟨ys,h,_⟩:=F2;rw [z] at hr2;rw [hr2] at h;cases h
    have s3:=qag hr2 (HO.lst (ds2.map V.int))
    have hrr2:upd H2 r2 (HO.lst (ds2.map V.int)) r2=_:=qai
    have ha3:=s3 _ _ ha2
    have F3:=F2.same s3
    have k3:=k2.same s3
    generalize upd H2 r2 (HO.lst (ds2.map V.int))=H3 at s3 hrr2 ha3 F3 k3 ⊢
    refine ⟨r2,rfl,⟨_,SqL.of hrr2⟩,ForL.by (xs:=ds2.map V.int) (fun j σ H'=>∃ (ws:List Nu) (o4 o5:Option V),σ=[some (.ref a),some (.ref w),some (.int f),some (.int t),o4,o5]∧Kp w H3 H'∧Fnd ns w H' ws∧j≤ds2.length∧ws.length≤1+1022*i+2*j∧(∀ q∈qs,q∈ws)∧∀ s∈ds2.take j,Dn ns ws t s)
      ⟨qs,o4,o5,rfl,Kp.of_same (Same.refl _),F3,Nat.zero_le _,by omega,fun _ h=>h,fun t h=>by rw [List.take_zero] at h;cases h⟩ ?_ ?_ ?_⟩
    · rintro j σ H' _ ⟨ws,o4,o5,rfl,k',_⟩
      exact SqL.of (k' _ _ wr2 hrr2)
    · rintro j x σ H4 hx ⟨ws,o4,o5,rfl,k4,F4,jl,lw,sub4,dn4⟩
      have jl':j<ds2.length:=by have:=(List.getElem?_eq_some_iff.mp hx).1;rw [List.length_map] at this;exact this
      have hx:=qhs jl' hx
      subst hx
      have tk2:=qk8 jl'
      have sm:=(hds2 _).mp (qoF jl')
      generalize co ds2 j=s at tk2 sm
      have bs:Bd 9 s:=qqo bl lne sm.2
      refine qrp (qlD ⟨_,rfl,qqS,fun y hy=>?_⟩)
      have wy:y≠w:=fun z=>by obtain ⟨ys,h,_⟩:=F4;rw [z] at hy;rw [hy] at h;cases h
      have s5:=qag hy (HO.tup [V.int 1,V.int (-1)])
      have hyy:upd H4 y (HO.tup [V.int 1,V.int (-1)]) y=_:=qai
      have ha5:=s5 _ _ (k4 _ _ aw ha3)
      have F5:=F4.same s5
      have k5:=k4.same s5
      show ∃ _,_
      generalize upd H4 y (HO.tup [V.int 1,V.int (-1)])=H5 at s5 hyy ha5 F5 k5 ⊢
      refine ⟨y,rfl,⟨_,SqT.of hyy⟩,ForT.by (xs:=[V.int 1,V.int (-1)]) (fun n σ H'=>∃ (us:List Nu) (o5:Option V),σ=[some (.ref a),some (.ref w),some (.int f),some (.int t),some (.int s),o5]∧Kp w H5 H'∧Fnd ns w H' us∧n≤2∧us.length≤1+1022*i+2*j+n∧(∀ q∈ws,q∈us)∧∀ g∈([1,-1]:List Int).take n,hw ns (g*t) s=0→qaT (g*t) s∈us)
        ⟨ws,o5,rfl,Kp.of_same (Same.refl _),F5,Nat.zero_le _,by omega,fun _ h=>h,fun t h=>by rw [List.take_zero] at h;cases h⟩ ?_ ?_ ?_⟩
      · rintro n σ H' _ ⟨us,o5,rfl,k',_⟩
        exact k' _ _ wy hyy
      · rintro n x σ H6 hx ⟨us,o5,rfl,k6,F6,nl,lu,sub6,dn6⟩
        obtain ⟨g,rfl,g1,tkg,n2⟩:∃ g:Int,x=.int g∧(g=1∨g = -1)∧([1,-1]:List Int).take (n+1)=([1,-1]:List Int).take n++[g]∧n+1≤2:=by
          rcases n with _ | _ | n
          · cases hx;exact ⟨1,rfl,.inl rfl,rfl,by decide⟩
          · cases hx;exact ⟨-1,rfl,.inr rfl,rfl,by decide⟩
          · cases hx
        obtain ⟨ys,hw6,N6,R6⟩:=F6
        have ha6:=k6 _ _ aw ha5
        refine qpE ha6 hw6 N6 l9 bn (by omega) bt sm.1 bs g1 (fun hn H' kk NN hh=>?_) (fun hz H' y kk NN hh=>?_)
        · refine ⟨us,_,rfl,k6.trans kk,⟨ys,hh,NN,R6⟩,n2,by omega,sub6,fun g' hg' z=>?_⟩
          rw [tkg] at hg'
          rcases List.mem_append.mp hg' with h | h
          · exact dn6 g' h z
          · rw [List.mem_singleton.mp h] at z;exact absurd z hn
        · have lowq:=qbn (n:=g*t) (m:=s) (by have:=sm.1;omega)
          refine ⟨us++[qaT (g*t) s],_,rfl,k6.trans kk,⟨_,hh,NN,fun q hq=>?_⟩,n2,by rw [List.length_append];show us.length+1≤_;omega,fun q hq=>List.mem_append_left _ (sub6 q hq),fun g' hg' z=>?_⟩
          · rcases List.mem_append.mp hq with h | h
            · exact R6 q h
            · rw [List.mem_singleton.mp h]
              have bg:Bd 9 (g*t):=bt.le (by rcases g1 with rfl | rfl <;> omega)
              refine ⟨⟨lowq,?_⟩,(bg.le (qoD sm.1)).mono (by decide),(bs.le (qlX sm.1)).mono (by decide)⟩
              have v:=qb4 (n:=g*t) (m:=s) (by have:=sm.1;omega)
              rw [qj8 (by have:=lowq.pos;omega)]
              rw [qj8 (by have:=sm.1;omega)] at hz
              unfold val at v
              rw [v];exact hz
          · rw [tkg] at hg'
            rcases List.mem_append.mp hg' with h | h
            · exact List.mem_append_left _ (dn6 g' h z)
            · rw [List.mem_singleton.mp h];exact List.mem_append_right _ (List.mem_singleton_self _)
      · rintro σ H' ⟨us,o5,rfl,k6,F6,nl,lu,sub6,dn6⟩
        have lu:us.length≤1+1022*i+2*j+2:=lu
        refine ⟨us,_,_,rfl,k5.trans k6,F6,jl',by omega,fun q hq=>sub6 q (sub4 q hq),fun s' hs'=>?_⟩
        rw [tk2] at hs'
        rcases List.mem_append.mp hs' with h | h
        · exact (dn4 s' h).sub sub6
        · rw [List.mem_singleton.mp h]
          exact fun g hg z=>dn6 g (by rcases hg with rfl | rfl <;> simp) z
    · rintro σ H' ⟨ws,o4,o5,rfl,k4,F4,jl,lw,sub4,dn4⟩
      rw [List.length_map] at lw dn4
      refine ⟨ws,_,_,_,rfl,k3.trans k4,F4,il',by omega,fun q hq=>sub4 q (sub q hq),fun t' ht' s' s0 sd=>?_⟩
      rw [tk] at ht'
      rcases List.mem_append.mp ht' with h | h
      · exact (dn t' h s' s0 sd).sub sub4
      · rw [List.mem_singleton.mp h]
        exact dn4 s' (by rw [List.take_length];exact (hds2 s').mpr ⟨s0,sd⟩)
  · rintro σ H' ⟨qs,o3,o4,o5,rfl,k2,F2,il,lq,sub,dn⟩
    rw [List.length_map] at lq dn
    exact k _ H' qs rfl (k1.trans k2) F2 (by omega) sub fun t s t0 td s0 sd=>dn t (by rw [List.take_length];exact (hds t).mpr ⟨t0,td⟩) s s0 sd
theorem qhu (h:qbV K vs H Q E):qhX K { nx:=fun _ H'=>Q .non H',rt:=Q } (L2.start ["_law_row", "_law_found", "_law_first", "_law_top", "_law_bottom", "_law_sign"] vs) H:=by
  obtain ⟨a,ns,rfl,ha,lz,l9,bn,k⟩:=h
  refine qde ⟨qrs,fun w hw'=>?_⟩
  have s0:=qag hw' (HO.lst [])
  have hww:upd H w (HO.lst []) w=_:=qai
  have aw:a≠w:=qao ha hw'
  have ha0:=s0 _ _ ha
  have kw:∀ {H'},Kp w (upd H w (HO.lst [])) H'→Same H H':=fun kk x o hx=>kk x o (qao hx hw') (s0 x o hx)
  show qdH K _ [some (.ref a),some (.ref w),none,none,none,none] _
  generalize upd H w (HO.lst [])=H1 at s0 hww ha0 kw ⊢
  have go2:∀ (H2:Hp) (qs0:List Nu),Kp w H1 H2→Fnd ns w H2 qs0→qs0.length≤1→(∀ q,RtQ ns q→q.1=0→q∈qs0)→qcp K { nx:=fun _ H'=>Q V.non H',rt:=Q } [some (.ref a),some (.ref w),none,none,none,none] H2:=fun H2 qs0 k2 F2 q1 noughts=>by
    have ha2:=k2 _ _ aw ha0
    obtain ⟨f,r,hfr⟩:∃ f r,ns.filter (fun z=>!decide (z=0))=f::r:=by
      cases e:ns.filter (fun z=>!decide (z=0)) with
      | nil=>
        have m:lst' ns∈ns:=qoF (by have:=lz.1;omega)
        have:=List.filter_eq_nil_iff.mp e _ m
        have l0:lst' ns≠0:=lz.2
        simp [l0] at this
      | cons f r=>exact ⟨f,r,rfl⟩
    have fm:f∈ns.filter (fun z=>!decide (z=0)):=by rw [hfr];exact List.mem_cons_self ..
    obtain ⟨fn,f0⟩:=List.mem_filter.mp fm
    have f0:f≠0:=by simpa using f0
    refine qde (qmF (qpF ⟨_,rfl,a,rfl,⟨_,SqL.of ha2⟩,CompF.lst (xs:=ns.map V.int) (fun i ys H'=>i≤ns.length∧H'=H2∧ys=((ns.take i).filter (fun z=>!decide (z=0))).map V.int) ⟨Nat.zero_le _,rfl,by rw [List.take_zero];rfl⟩ ?_ ?_ ?_⟩))
    · rintro i ys H' ⟨hi,rfl,rfl⟩
      refine ⟨by rw [List.length_map];exact hi,sz ?_,SqL.of ha2⟩
      rw [List.length_map]
      have:=List.length_filter_le (fun z=>!decide (z=0)) (ns.take i)
      rw [List.length_take] at this
      omega
    · rintro i x ys H' hx ⟨hi,rfl,rfl⟩
      have il:i<ns.length:=by have:=(List.getElem?_eq_some_iff.mp hx).1;rw [List.length_map] at this;exact this
      have hx:=qhs il hx
      subst hx
      have tk:=qk8 il
      generalize co ns i=z at tk
      refine ⟨_,rfl,rfl,_,rfl,qbM (fun c=>?_) (fun c=>?_)⟩
      · have c:(!decide (V.int z=V.int 0))=true:=c
        have z0:z≠0:=fun e=>by rw [e] at c;simp at c
        refine ⟨_,rfl,il,rfl,?_⟩
        rw [tk,List.filter_append,List.filter_cons_of_pos (by simp [z0]),List.map_append];rfl
      · have c:¬ (!decide (V.int z=V.int 0))=true:=c
        have z0:z=0:=by
          by_cases e:z=0
          · exact e
          · exact absurd (by simp [e]) c
        refine ⟨il,rfl,?_⟩
        rw [tk,List.filter_append,List.filter_cons_of_neg (by simp [z0])];simp
    · rintro ys H' ⟨_,rfl,rfl⟩ p hp
      rw [List.length_map,List.take_length,hfr]
      have sp:=qag hp (HO.lst ((f::r).map V.int))
      refine ⟨p,0,_,V.int f,rfl,rfl,qai,qcS (j:=0) rfl rfl,?_⟩
      have k3:=k2.same sp
      have F3:=F2.same sp
      have ha3:=sp _ _ ha2
      generalize upd H' p (HO.lst ((f::r).map V.int))=H3 at k3 F3 ha3 ⊢
      show qdG K _ [some (.ref a),some (.ref w),some (.int f),none,none,none] H3
      refine qpG ha3 aw F3 l9 lz bn q1 f0 (bn f fn) fun σ H4 qs hσ k4 F4 lq sub dn=>?_
      obtain ⟨ys,hw4,N4,R4⟩:=F4
      show qdF K _ _ _
      refine qpi (qhU ⟨_,hσ,w,ys,qs,rfl,hw4,N4,(fun q hq=>(R4 q hq).1.1),lq,(fun q hq=>(R4 q hq).2),fun r5 us rs H5 s5 h5 N5 ris mem=>k r5 us rs H5 ((kw (k3.trans k4)).trans s5) h5 N5 ris fun q=>?_⟩)
      rw [mem]
      constructor
      · exact fun hq=>(R4 q hq).1
      · intro hq
        by_cases q0:q.1=0
        · exact sub q (noughts q hq q0)
        · have sp:=hq.1.pos
          have e1:qaT q.1 q.2=q:=by have:=qlW (k:=1) (by decide) hq.1;rw [Int.one_mul,Int.one_mul] at this;exact this
          have ne:ns≠[]:=List.length_pos_iff.mp lz.1
          have ds:q.2∣lst' ns:=qlT ne hq.1.one hq.2
          have dt:q.1∣f:=qoE hq.1.one q0 hfr hq.2
          rcases Int.lt_or_gt_of_ne q0 with h | h
          · have:=dn (-q.1) q.2 (by omega) (Int.neg_dvd.mpr dt) sp ds (-1) (.inr rfl)
            rw [show -1 * -q.1=q.1 by omega,e1] at this
            exact this hq.2
          · have:=dn q.1 q.2 h dt sp ds 1 (.inl rfl)
            rw [Int.one_mul,e1] at this
            exact this hq.2
  obtain ⟨x,l,rfl⟩:∃ x l,ns=x::l:=by
    cases ns with
    | nil=>exact absurd lz.1 (by simp)
    | cons x l=>exact ⟨x,l,rfl⟩
  have non:(¬ x=0∨¬ 1<(x::l).length)→qcp K { nx:=fun _ H'=>Q V.non H',rt:=Q } [some (.ref a),some (.ref w),none,none,none,none] H1:=fun c=>go2 H1 [] (Kp.of_same (Same.refl _)) ⟨[],hww,trivial,fun _ h=>nomatch h⟩ (by decide) fun q hq q0=>by
    have e:x*q.2 ^ l.length+q.1*hw l q.1 q.2=0:=hq.2
    rw [q0,Int.zero_mul,Int.add_zero] at e
    have sp:=hq.1.pos
    have x0:x=0:=(Int.mul_eq_zero.mp e).resolve_right (Int.ne_of_gt (Int.pow_pos sp))
    rcases c with c | c
    · exact absurd x0 c
    · have l0:l=[]:=by cases l with
        | nil=>rfl
        | cons _ _=>exact absurd (by simp) c
      subst l0
      exact absurd x0 lz.2
  refine qtH ?_
  refine ⟨_,rfl,_,_,_,V.int x,rfl,rfl,ha0,qcS (j:=0) rfl rfl,rfl,_,rfl,qbM (fun c1=>?_) (fun c1=>?_)⟩
  · have c1:V.int x=V.int 0:=of_decide_eq_true c1
    have x0:x=0:=by injection c1
    refine ⟨_,rfl,_,_,rfl,ha0,_,_,rfl,rfl,_,rfl,qbM (fun c2=>?_) (fun c2=>?_)⟩
    · refine qsA rfl (qdm hww) (qlD ⟨qqS,fun p hp=>?_⟩)
      have sp:=qag hp (HO.tup [V.int 0,V.int 1])
      refine ⟨_,_,_,rfl,rfl,sp _ _ hww,sz (by decide),go2 _ [(0,1)] ((Kp.of_same sp).trans Kp.upd) ⟨_,qai,Nums.one (isN.tp (qkH (q:=(0,1))) (Tp.updL (sp _ _ hww))),fun q hq=>?_⟩ (by decide) fun q hq q0=>?_⟩
      · rw [List.mem_singleton.mp hq]
        refine ⟨⟨⟨by decide,by decide⟩,?_⟩,by unfold Bd;decide,by unfold Bd;decide⟩
        show x*1 ^ l.length+0*hw l 0 1=0
        rw [x0];omega
      · have o:=hq.1.one
        have sp:=hq.1.pos
        rw [q0,Int.gcd_zero_left] at o
        exact List.mem_singleton.mpr (Prod.ext q0 (by show q.2=1;omega))
    · exact non (.inr fun z=>c2 (decide_eq_true (by rw [List.length_map];omega)))
  · exact non (.inl fun z=>c1 (decide_eq_true (by rw [z])))
theorem qsB {A B t s:Int} {g:Int→Int}:∀ {row:List Int},(∀ n∈row,A*g n=B*n)→A*hw (row.map g) t s=B*hw row t s:=by
  intro row
  induction row with
  | nil=>intro _;show A*0=B*0;omega
  | cons a l ih=>
    intro h
    show A*(g a*s ^ (l.map g).length+t*hw (l.map g) t s)=B*(a*s ^ l.length+t*hw l t s)
    rw [List.length_map]
    have h1:=h a (List.mem_cons_self ..)
    have h2:=ih fun n hn=>h n (List.mem_cons_of_mem _ hn)
    have e1:A*(g a*s ^ l.length+t*hw (l.map g) t s)=A*g a*s ^ l.length+t*(A*hw (l.map g) t s):=by grind
    rw [e1,h1,h2];grind
theorem qpH {row:List Int} {t d:Int} (d0:0<d) (t0:t≠0) (q:Nu):hw (qf7 (row.map fun n=>qaT (n*t) d)) q.1 q.2=0↔hw row q.1 q.2=0:=by
  have hl:qcF (row.map fun n=>qaT (n*t) d):=fun q hq=>by
    obtain ⟨n,_,rfl⟩:=List.mem_map.mp hq
    exact qbn (by omega)
  have ov:=qha hl
  unfold qf7
  generalize qkE (row.map fun n=>qaT (n*t) d)=B at ov ⊢
  have B0:B≠0:=by have:=ov.1;omega
  rw [List.map_map]
  have e:=qsB (A:=d) (B:=t*B) (t:=q.1) (s:=q.2) (row:=row) (g:=(fun q:Nu=>q.1*(B / q.2)) ∘ fun n=>qaT (n*t) d) fun n hn=>by
    obtain ⟨k,k0,e1,e2⟩:=qjf (W:=n*t) d0
    obtain ⟨c,hc⟩:=ov.2 _ (List.mem_map.mpr ⟨n,hn,rfl⟩)
    have p:=(qbn (n:=n*t) (m:=d) (by omega)).pos
    show d*((qaT (n*t) d).1*(B / (qaT (n*t) d).2))=t*B*n
    generalize (qaT (n*t) d).1=x at *
    generalize (qaT (n*t) d).2=y at *
    rw [hc,Int.mul_ediv_cancel_left _ (by omega),show t*(y*c)*n=n*t*(y*c) by grind,e1,e2]
    grind
  have d1:d≠0:=by omega
  have tB:t*B≠0:=Int.mul_ne_zero t0 B0
  constructor
  · intro z
    rw [z,Int.mul_zero] at e
    exact (Int.mul_eq_zero.mp e.symm).resolve_left tB
  · intro z
    rw [z,Int.mul_zero] at e
    exact (Int.mul_eq_zero.mp e).resolve_left d1
theorem qtw {a b:List Int} {A B:Nat} (ha:∀ z∈a,z.natAbs≤A) (hb:∀ z∈b,z.natAbs≤B) (k:Nat):∀ i,(ps a b i k).natAbs≤i*(A*B):=by
  have g:∀ {c:List Int} {C:Nat},(∀ z∈c,z.natAbs≤C)→∀ j,(c.getD j 0).natAbs≤C:=fun {c C} h j=>by
    rw [List.getD_eq_getElem?_getD]
    by_cases hj:j<c.length
    · rw [List.getElem?_eq_getElem hj];exact h _ (List.getElem_mem hj)
    · rw [List.getElem?_eq_none (by omega)];exact Nat.zero_le _
  intro i
  induction i with
  | zero=>show (0:Int).natAbs≤_;exact Nat.zero_le _
  | succ i ih=>
    unfold ps
    have h:(if i≤k∧k - i<b.length then a.getD i 0*b.getD (k - i) 0 else 0).natAbs≤A*B:=by
      split
      · rw [Int.natAbs_mul];exact Nat.mul_le_mul (g ha i) (g hb _)
      · exact Nat.zero_le _
    rw [Nat.add_mul,Nat.one_mul]
    omega
theorem qtM (l:List Nu):PySem.W.kqdOk 8 (.list (l.map qmE))=true:=by
  show (l.map qmE).all (PySem.W.kqdOk 7)=true
  rw [List.all_eq_true]
  intro x hx
  obtain ⟨p,_,rfl⟩:=List.mem_map.mp hx
  exact okN p 6
theorem qsC (h:qjS K vs H Q E):qtd K { nx:=fun _ H'=>Q .non H',rt:=Q } (L2.start ["_law_script", "_law_hand_here", "_law_row", "_law_kp"] vs) H:=by
  obtain ⟨s,sc,rfl,hs,n63,k⟩:=h
  refine qkI ⟨_,rfl,s,sc,rfl,hs,n63,fun p ad H1 hp k1 h1=>?_⟩
  have go3:∀ (a:Addr) (row:List Int) (H2:Hp) (n:Int),H2 a=some (.lst (row.map V.int))→Lz row→row.length≤9→(∀ z∈row,z.natAbs≤243)→Hand H2 p ad n→n≤80000→a≠p→qn6 K { nx:=fun _ H'=>Q V.non H',rt:=Q } [some (.ref s),some (.ref p),some (.ref a),none] H2:=fun a row H2 n ha lr rw9 br hh n8 nap=>by
    have b9:∀ z∈row,Bd 9 z:=fun z hz=>by
      have:=br z hz
      show z.natAbs<512
      omega
    refine qeC ⟨_,rfl,qhU ⟨_,rfl,p,ad,n,rfl,hh,by omega,fun r t d H3 hr lt t0 bt bd h3 k3=>?_⟩⟩
    have ha3:=k3 _ _ nap ha
    have d0:d≠0:=Int.ne_of_gt lt.pos
    refine ⟨a,r,row,t,d,rfl,ha3,hr,d0,bt.mono (by decide),fun z hz=>(b9 z hz).mono (by decide),by omega,fun r4 zs H4 s4 h4 n4=>?_⟩
    have G:=qrd lr (fun z hz=>(b9 z hz).mono (by decide)) lt t0 bt bd
    obtain ⟨bZ,bB,b1⟩:=G.clr
    have ln:(row.map fun n=>qaT (n*t) d).length=row.length:=List.length_map ..
    have lne:(row.map fun n=>qaT (n*t) d)≠[]:=fun z=>by have z2:=congrArg List.length z;rw [List.length_map] at z2;have:=lr.1;simp at z2;rw [z2] at this;simp at this
    have lzN:=qmo (qq5 G.low G.nz) fun z=>lne (by have:=congrArg List.length z;rw [qlQ] at this;exact List.length_eq_zero_iff.mp this)
    have same:=qpH (row:=row) lt.pos t0
    generalize (row.map fun n=>qaT (n*t) d)=l at G bZ bB b1 ln lzN same n4
    show qn5 K _ _ _
    refine qpi (qmF (qhU ⟨_,rfl,r4,zs,l,rfl,h4,n4,G.low,by omega,bB,b1,bZ,lzN,fun r5 us rs H5 s5 h5 N5 ris mem=>?_⟩))
    refine qhU ⟨_,rfl,a,row,rfl,s5 _ _ (s4 _ _ ha3),lr,rw9,b9,fun r6 ws qs H6 s6 h6 N6 ris6 mem6=>?_⟩
    have e:rs=qs:=qmv ris ris6 fun q=>by
      rw [mem,mem6]
      exact ⟨fun h=>⟨h.1,(same q).mp h.2⟩,fun h=>⟨h.1,(same q).mpr h.2⟩⟩
    subst e
    exact ⟨_,_,true,qtG (s6 _ _ h5) (N5.tp (tpS s6)),qtG h6 N6,qtM _,qtM _,⟨fun _=>rfl,fun _=>rfl⟩,k _⟩
  refine qde (qhV ⟨_,rfl,?_⟩)
  refine qmF (qnW ⟨qqS,fun w hw'=>?_⟩)
  have sw:=qag hw' (HO.lst [V.int 5,V.int 8])
  have wp:=h1.ne hw'
  refine qr9 (qmF (qeD ⟨_,rfl,p,ad,_,_,rfl,h1.same sw,by decide,by decide,by decide,fun d H2 d0 d1 h2 k2=>?_⟩))
  obtain ⟨m,hm,m5⟩:∃ m:Int,atI [V.int 5,V.int 8] (if decide (V.int d=V.int 0)=true then 1 else 0)=some (V.int m)∧(m=5∨m=8):=by
    by_cases z:decide (V.int d=V.int 0)=true
    · rw [if_pos z];exact ⟨8,rfl,.inr rfl⟩
    · rw [if_neg z];exact ⟨5,rfl,.inl rfl⟩
  refine ⟨rfl,_,rfl,_,_,_,_,rfl,rfl,k2 _ _ wp qai,hm,p,ad,m,30,_,rfl,h2,by omega,by omega,by omega,.inr rfl,fun a row H3 ha lrow lz br nap naa h3 k3=>?_⟩
  show qn7 K _ _ _
  refine qtH (qp5 (qmF (qeD ⟨_,rfl,p,ad,_,_,rfl,h3,by omega,by decide,by decide,fun e H4 e0 e1 h4 k4=>⟨rfl,_,rfl,qbM (fun c=>?_) (fun c=>?_)⟩⟩)))
  · refine qnX (qeD (qhV ⟨_,rfl,p,ad,2,9,_,rfl,h4,by omega,by decide,by decide,.inl rfl,fun a5 row5 H5 ha5 l5 lz5 br5 na5 _ h5 k5=>?_⟩))
    refine qhV ⟨_,rfl,p,ad,2,9,_,rfl,h5,by omega,by decide,by decide,.inl rfl,fun a6 row6 H6 ha6 l6 lz6 br6 na6 _ h6 k6=>?_⟩
    have ha56:=k6 _ _ na5 ha5
    have b5:∀ z∈row5,z.natAbs≤9:=fun z hz=>by have:=br5 z hz;omega
    have b6:∀ z∈row6,z.natAbs≤9:=fun z hz=>by have:=br6 z hz;omega
    have c4:∀ {z:Int},z.natAbs≤9→Bd 4 z:=fun {z} h=>by show z.natAbs<16;omega
    refine ⟨a5,a6,row5,row6,4,4,rfl,ha56,ha6,lz5,lz6,by omega,by omega,fun z hz=>c4 (b5 z hz),fun z hz=>c4 (b6 z hz),by decide,by decide,fun r c H7 s7 h7 cl lc ec=>?_⟩
    refine go3 r c H7 _ h7 lc (by omega) (fun z hz=>?_) (h6.same s7) (by omega) (qre (h6.same s7) h7)
    obtain ⟨i,hi,rfl⟩:=List.getElem_of_mem hz
    have e:=ec i
    unfold co at e
    rw [List.getD_eq_getElem?_getD,List.getElem?_eq_getElem hi] at e
    have e:c[i]=ps row5 row6 row5.length i:=e
    rw [e]
    have h1:=qtw b5 b6 i row5.length
    have h2:row5.length*(9*9)≤3*81:=Nat.mul_le_mul_right _ (by omega)
    omega
  · exact go3 a row H4 _ (k4 _ _ nap ha) lz (by omega) (fun z hz=>by have:=br z hz;omega) h4 (by omega) nap
end Bs
namespace Bs
open PySem PySem.Spec PyProof.Rows L2
set_option maxHeartbeats 4000000
open Hd
structure Bl (K:W.Frag) (mg:Str→Option Value):Prop where
  abs:mg "abs" = none
  min:mg "min" = none
  len:mg "len" = none
  enumerate:mg "enumerate" = none
  range:mg "range" = none
  list:mg "list" = none
  max:mg "max" = none
  any:mg "any" = none
  reversed:mg "reversed" = none
  zip:mg "zip" = none
  EXPONENTS:mg "EXPONENTS" = some (.ref (qb1 K))
  sorted:mg "sorted" = none
  sum:mg "sum" = none
  tuple:mg "tuple" = none
  int:mg "int" = none
  xEXPONENTS:∀ H:Hp,SqT K H (qb1 K) (exps.map fun e:Nat=>V.int (e:Int))
section
variable (P:Program) (w:World) (K:W.Frag) (mg:Str→Option Value) (base:Heap)
noncomputable abbrev qa9:Prop:=Cal P w K mg base 1 "common_divisor" ["one", "other"] (qaH K)
noncomputable abbrev qlY:Prop:=Cal P w K mg base 1 "raised" ["whole", "n"] (qdf K)
noncomputable abbrev qiy:Prop:=Cal P w K mg base 1 "is_prime" ["whole"] (qdq K)
noncomputable abbrev qfy:Prop:=Cal P w K mg base 2 "prime_after" ["whole"] (qb5 K)
noncomputable abbrev qkb:Prop:=Cal P w K mg base 2 "content" ["row", "start"] (qcA K)
noncomputable abbrev qcw:Prop:=Cal P w K mg base 1 "row_trimmed" ["row"] (qa1 K)
noncomputable abbrev qgi:Prop:=Cal P w K mg base 1 "row_parted" ["row", "divisor"] (qbB K)
noncomputable abbrev qeO:Prop:=Cal P w K mg base 1 "row_times" ["row", "other"] (qba K)
noncomputable abbrev qeP:Prop:=Cal P w K mg base 1 "row_slope" ["row"] (qby K)
noncomputable abbrev qef:Prop:=Cal P w K mg base 1 "row_over" ["row", "divisor"] (qbp K)
noncomputable abbrev qd5:Prop:=Cal P w K mg base 1 "row_at_modulo" ["row", "place", "modulus"] (qbr K)
noncomputable abbrev qd6:Prop:=Cal P w K mg base 1 "root_exponent" ["row"] (qbJ K)
noncomputable abbrev qeg:Prop:=Cal P w K mg base 2 "row_less" ["row", "factor", "other", "weight", "shift"] (qbo K)
noncomputable abbrev qfz:Prop:=Cal P w K mg base 4 "strand_rest" ["strand", "other"] (qbt K)
noncomputable abbrev qbX:Prop:=Cal P w K mg base 3 "strand_shortened" ["strand"] (qaQ K)
noncomputable abbrev qbY:Prop:=Cal P w K mg base 4 "row_shortened" ["row"] (qaO K)
noncomputable abbrev qd7:Prop:=Cal P w K mg base 5 "strand_euclid" ["strand", "other"] (qaX K)
noncomputable abbrev qcr:Prop:=Cal P w K mg base 1 "inverse_modulo" ["whole", "prime"] (qaV K)
noncomputable abbrev qc8:Prop:=Cal P w K mg base 1 "rests_modulo" ["row", "prime"] (qa2 K)
noncomputable abbrev qcl:Prop:=Cal P w K mg base 2 "row_modulo" ["row", "prime"] (qaP K)
noncomputable abbrev qc9:Prop:=Cal P w K mg base 2 "monic_modulo" ["row", "prime"] (qaM K)
noncomputable abbrev qb6:Prop:=Cal P w K mg base 3 "split_modulo" ["row", "divisor", "modulus"] (qaS K)
noncomputable abbrev qcx:Prop:=Cal P w K mg base 4 "rest_modulo" ["row", "divisor", "modulus"] (qaN K)
noncomputable abbrev qd8:Prop:=Cal P w K mg base 5 "euclid_modulo" ["row", "other", "prime"] (qa7 K)
noncomputable abbrev qeq:Prop:=Cal P w K mg base 5 "inverse_rest" ["row", "divisor", "prime"] (qbU K)
noncomputable abbrev qlZ:Prop:=Cal P w K mg base 6 "lifted" ["row", "factor", "prime", "floor"] (qe3 K)
noncomputable abbrev qhv:Prop:=Cal P w K mg base 1 "nearest" ["whole", "prime"] (qb2 K)
noncomputable abbrev qdj:Prop:=Cal P w K mg base 6 "common_by_prime" ["row", "other", "prime"] (qaW K)
noncomputable abbrev qgj:Prop:=Cal P w K mg base 7 "row_common" ["row", "other"] (qbC K)
noncomputable abbrev qgk:Prop:=Cal P w K mg base 8 "simple_row" ["row"] (qbD K)
noncomputable abbrev qoG:Prop:=Cal P w K mg base 2 "ratio" ["top", "bottom"] (qcT K)
noncomputable abbrev qkc:Prop:=Cal P w K mg base 2 "cleared" ["P"] (qcB K)
noncomputable abbrev qdI:Prop:=Cal P w K mg base 9 "rational_roots" ["P"] (qbE K)
noncomputable abbrev qd9:Prop:=Cal P w K mg base 2 "starts_modulo" ["row", "prime"] (qa8 K)
noncomputable abbrev ql0:Prop:=Cal P w K mg base 1 "_law_hand" ["_law_script"] (qdg K)
noncomputable abbrev qgN:Prop:=Cal P w K mg base 1 "_law_draw" ["_law_hand_here", "_law_many"] (qa3 K)
noncomputable abbrev qeh:Prop:=Cal P w K mg base 1 "_law_lowest" ["_law_top", "_law_bottom"] (qbx K)
noncomputable abbrev qfA:Prop:=Cal P w K mg base 1 "_law_row_times" ["_law_one", "_law_other"] (qbu K)
noncomputable abbrev qhw:Prop:=Cal P w K mg base 2 "_law_poly_of" ["_law_row", "_law_scale_here"] (qbO K)
noncomputable abbrev qkd:Prop:=Cal P w K mg base 1 "_law_worth" ["_law_row", "_law_c"] (qcD K)
noncomputable abbrev qke:Prop:=Cal P w K mg base 2 "_law_scale" ["_law_hand_here"] (qcC K)
noncomputable abbrev qhx:Prop:=Cal P w K mg base 2 "_law_any_row" ["_law_hand_here", "_law_most", "_law_size"] (qbk K)
noncomputable abbrev qiz:Prop:=Cal P w K mg base 1 "_law_rising" ["_law_numbers"] (qdr K)
noncomputable abbrev qiA:Prop:=Cal P w K mg base 1 "_law_parted" ["_law_number"] (qbL K)
noncomputable abbrev qer:Prop:=Cal P w K mg base 2 "_law_looked_for" ["_law_row"] (qbV K)
end
section
variable {P:Program} {w:World} {K:W.Frag} {mg:Str→Option Value} {base:Heap} {f:Addr} {fd:FuncData}
theorem okm {n:Str} {st:Stmt} {N ps:List Str} {k:Nat} {sp:Sp} {t:TS} (F:Fun K n n st f fd) (v:∀ {vs:List V} {H:Hp} {Q:VK} {E:XK},sp vs H Q E→t { nx:=fun _ H'=>Q .non H',rt:=Q } (start N vs) H) (d:∀ {cdv:Value} {A:Around} {outer:List Env} {s:Shared} {H:Hp} {E:XK} (hr:Room k (A.deeper (envOfC n (qa4 st) s.heap.objs.size f cdv))) (nd:N.Nodup) (hu:(A.deeper (envOfC n (qa4 st) s.heap.objs.size f cdv)).units<cLine) (hu64:(A.deeper (envOfC n (qa4 st) s.heap.objs.size f cdv)).units+64<cLine),PSs (qqw CX0 P w K mg base N n (qa4 st) f cdv A outer s H E).nox (qcm st) t) (S:FnScope N ps (qa4 st):=by exact ⟨rfl,rfl,rfl,by decide +kernel,rfl,by decide +kernel,by decide +kernel⟩) (len:∀ vs H Q E,sp vs H Q E→vs.length=ps.length:=by intro vs H Q E h;repeat (first | (obtain ⟨rfl,_⟩:=h;rfl) | obtain ⟨_,h⟩:=h)):FnOk P w K mg base CX0 (k+1) f fd ps sp:=F.ok S len fun cdv A outer s H vs Q E hr h=>⟨t,d hr S.nd hr.units0 hr.units,v h⟩
theorem li {a:Prop} {α:Type} {x:α}:x=x∨a:=Or.inl rfl
theorem qfW (F:Fun K "common_divisor" "common_divisor" qgl f fd) (B:Bl K mg)  : FnOk P w K mg base CX0 1 f fd ["one", "other"] (qaH K):=okm F (qfR ) fun hr nd hu ht=>(qab (qbv PassesOwn.never (qaz qiF (pv 1) qad (nomark _)) (qab (qak (i:=2) nd rfl li (qap qqu (pv 0) (pv 1)))
    (qab (qak (i:=0) nd rfl li (pv 1))
    (qah (qak (i:=1) nd rfl li (pv 2))))))
    (qah (qaC (qax qcE rfl B.abs qg1 (qaa (pv 0) qae)))))
theorem qoH (F:Fun K "raised" "raised" qo0 f fd) (B:Bl K mg)  : FnOk P w K mg base CX0 1 f fd ["whole", "n"] (qdf K):=okm F (qn9 ) fun hr nd hu ht=>(qab (qak (i:=2) nd rfl li qad)
    (qab (qak (i:=3) nd rfl li (pv 0))
    (qab (qbv PassesOwn.never (qaz qiG (pv 1) qad (nomark _)) (qab (qbQ (qaz qdk (qap qbH (pv 1) qad) qad (nomark _)) (qah (qf3 (i:=2) nd rfl li (pv 3) qgF)) qaR)
    (qab (qf3 (i:=1) nd rfl li qad qns)
    (qah (qbQ (qaz qiG (pv 1) qad (nomark _)) (qah (qf3 (i:=3) nd rfl li (pv 3) qgF)) qaR)))))
    (qah (qaC (pv 2))))))
theorem qk9 (F:Fun K "is_prime" "is_prime" ql6 f fd) (B:Bl K mg)  : FnOk P w K mg base CX0 1 f fd ["whole"] (qdq K):=okm F (qk4 ) fun hr nd hu ht=>(qab (qak (i:=1) nd rfl li qad)
    (qab (qbv PassesOwn.never (qaz qrE (qap qaJ (pv 1) (pv 1)) (pv 0) (nomark _)) (qab (qbQ (qaz qdk (qap qbH (pv 0) (pv 1)) qad (nomark _)) (qah (qaC qrz)) qaR)
    (qah (qf3 (i:=1) nd rfl li qad qkq))))
    (qah (qaC (qkr qiG (pv 0) qad (nomark _))))))
theorem qh3 (F:Fun K "prime_after" "prime_after" qiK f fd) (B:Bl K mg) (c0:qiy P w K mg base):FnOk P w K mg base CX0 2 f fd ["whole"] (qb5 K):=okm F (qh2 ) fun hr nd hu ht=>(qab (qak (i:=1) nd rfl li (qap qaY (pv 0) qad))
    (qab (qbv PassesOwn.never (qli (qmI (c0.pe hr (by decide) rfl (qaa (pv 1) qae)))) (qah (qf3 (i:=1) nd rfl li qad qkq)))
    (qah (qaC (pv 1)))))
theorem qmw (F:Fun K "content" "content" qm5 f fd) (B:Bl K mg) (c0:qa9 P w K mg base):FnOk P w K mg base CX0 2 f fd ["row", "start"] (qcA K):=okm F (qmm ) fun hr nd hu ht=>(qab (qak (i:=2) nd rfl li (c0.pe hr (by decide) rfl (qaa (qqF rfl B.min qrO (qiS (N:=["whole"]) (capt:=[none]) rfl (BlkOk.of rfl rfl rfl rfl (fun _ h=>nomatch h) rfl rfl rfl) (qbm (pv 0)) (fun _ _ _ _=>(qaA (i:=0) (show (["whole"]:List PySem.Str).Nodup by decide +kernel) rfl li)) (fun _ _ _ _=>(qaz qiF (pv 0) qad (nomark _))) (fun _ _ _ _=>(qax qcE rfl B.abs qg1 (qaa (pv 0) qae))))) (qaa (pv 1) qae))))
    (qab (qbw PassesOwn.never rfl (qbm (pv 0)) (qaA (i:=3) nd rfl li) (qab (qbQ (qaz qdk (pv 2) qad (nomark _)) (qah (qaC qad)) qaR)
    (qah (qak (i:=2) nd rfl li (c0.pe hr (by decide) rfl (qaa (pv 3) (qaa (pv 2) qae)))))))
    (qah (qaC (pv 2)))))
theorem qh4 (F:Fun K "row_trimmed" "row_trimmed" qiL f fd) (B:Bl K mg)  : FnOk P w K mg base CX0 1 f fd ["row"] (qa1 K):=okm F (qhY ) fun hr nd hu ht=>(qab (qak (i:=1) nd rfl li (qax qaG rfl B.len qbh (qaa (pv 0) qae)))
    (qab (qbv PassesOwn.never (PW.pt (qgO (qaz qiG (pv 1) qad (nomark _)) (qfD (qaz qdk (qaD qas (pv 0) (qap qbF (pv 1) qad) (fun _ _=>rfl)) qad (nomark _))))) (qah (qf3 (i:=1) nd rfl li qad qiE)))
    (qah (qaC (qdl qg3 (pv 0) qev (qew (pv 1)))))))
theorem qjg (F:Fun K "row_parted" "row_parted" qjA f fd) (B:Bl K mg)  : FnOk P w K mg base CX0 1 f fd ["row", "divisor"] (qbB K):=okm F (qi5 ) fun hr nd hu ht=>(qah (qaC (qcn (N:=["whole", "divisor"]) (capt:=[none,some 1]) rfl (BlkOk.of rfl rfl rfl rfl (List.forall_mem_singleton.mpr rfl) rfl rfl rfl) (qbm (pv 0)) (fun _ _ _ _=>(qaA (i:=0) (show (["whole", "divisor"]:List PySem.Str).Nodup by decide +kernel) rfl li)) (fun _ _ _ _=>(qap qeZ (pv 0) (pv 1))))))
theorem qkf (F:Fun K "row_times" "row_times" qkw f fd) (B:Bl K mg)  : FnOk P w K mg base CX0 1 f fd ["row", "other"] (qba K):=okm F (qj6 ) fun hr nd hu ht=>(qab (qbQ (PW.pt (qqt (qli (qey (pv 0) (fun _=>rfl))) (qmJ (qli (qey (pv 1) (fun _=>rfl)))))) (qah (qaC (qbg qae))) qaR)
    (qab (qak (i:=2) nd rfl li (qap qjz (qbg (qaa qad qae)) (qap qbF (qap qaY (qax qaG rfl B.len qbh (qaa (pv 0) qae)) (qax qaG rfl B.len qbh (qaa (pv 1) qae))) qad)))
    (qab (qbw PassesOwn.never rfl (qeX rfl B.enumerate (qaa (pv 0) qae)) (qfI rfl (qbI (qaA (i:=3) nd rfl li) (qbI (qaA (i:=4) nd rfl li) qfE))) (qah (qbQ (qaz qiF (pv 4) qad (nomark _)) (qah (qbw PassesOwn.never rfl (qeX rfl B.enumerate (qaa (pv 1) qae)) (qfI rfl (qbI (qaA (i:=5) nd rfl li) (qbI (qaA (i:=6) nd rfl li) qfE))) (qah (qiD (pv 2) (qap qaY (pv 3) (pv 5)) qgG (qap qaJ (pv 4) (pv 6)) qkq qbS)))) qaR)))
    (qah (qaC (pv 2))))))
theorem qkg (F:Fun K "row_slope" "row_slope" qkx f fd) (B:Bl K mg)  : FnOk P w K mg base CX0 1 f fd ["row"] (qby K):=okm F (qj5 ) fun hr nd hu ht=>(qah (qaC (qcn (N:=["place", "row"]) (capt:=[none,some 0]) rfl (BlkOk.of rfl rfl rfl rfl (List.forall_mem_singleton.mpr rfl) rfl rfl rfl) (qgR rfl B.range (qaa qad (qaa (qax qaG rfl B.len qbh (qaa (pv 0) qae)) qae))) (fun _ _ _ _=>(qaA (i:=0) (show (["place", "row"]:List PySem.Str).Nodup by decide +kernel) rfl li)) (fun _ _ _ _=>(qap qaJ (pv 0) (qaD qas (pv 1) (pv 0) (fun _ _=>rfl)))))))
theorem qla (F:Fun K "row_over" "row_over" ql7 f fd) (B:Bl K mg)  : FnOk P w K mg base CX0 1 f fd ["row", "divisor"] (qbp K):=okm F (qkS ) fun hr nd hu ht=>(qab (qak (i:=2) nd rfl li (qdP qfH rfl B.list qkA (qaa (pv 0) qae)))
    (qab (qak (i:=3) nd rfl li (qap qbF (qax qaG rfl B.len qbh (qaa (pv 1) qae)) qad))
    (qab (qak (i:=4) nd rfl li (qap qjz (qbg (qaa qad qae)) (qax (qeW rfl) rfl B.max qjF (qaa (qap qbF (qax qaG rfl B.len qbh (qaa (pv 0) qae)) (pv 3)) (qaa qad qae)))))
    (qab (qbw PassesOwn.never rfl (qjJ rfl B.range (qaa (qap qbF (qap qbF (qax qaG rfl B.len qbh (qaa (pv 0) qae)) (pv 3)) qad) (qaa (qbG qaZ qad) (qaa (qbG qaZ qad) qae)))) (qaA (i:=5) nd rfl li) (qab (qak (i:=6) nd rfl li (qap qcP (qaD qas (pv 2) (qap qaY (pv 5) (pv 3)) (fun _ _=>rfl)) (qaD qas (pv 1) (qbG qaZ qad) (fun _ _=>rfl))))
    (qab (qbQ (qaz qiF (qap qaJ (pv 6) (qaD qas (pv 1) (qbG qaZ qad) (fun _ _=>rfl))) (qaD qas (pv 2) (qap qaY (pv 5) (pv 3)) (fun _ _=>rfl)) (nomark _)) (qah (qaC qdM)) qaR)
    (qab (qgQ (pv 6) (qgP (pv 4) (pv 5) qbS))
    (qah (qbQ (qaz qiF (pv 6) qad (nomark _)) (qah (qbw PassesOwn.never rfl (qeT rfl B.range (qaa (pv 3) qae)) (qaA (i:=7) nd rfl li) (qah (qiD (pv 2) (qap qaY (pv 5) (pv 7)) qgG (qap qaJ (pv 6) (qaD qas (pv 1) (pv 7) (fun _ _=>rfl))) qiE qbS)))) qaR))))))
    (qah (qaC (qiC (qmI (qax (qnz rfl) rfl B.any qrY (qaa (qdl qg3 (pv 2) qev (qew (pv 3))) qae))) qdM (pv 4))))))))
theorem qgy (F:Fun K "row_at_modulo" "row_at_modulo" qgU f fd) (B:Bl K mg)  : FnOk P w K mg base CX0 1 f fd ["row", "place", "modulus"] (qbr K):=okm F (qgv ) fun hr nd hu ht=>(qab (qak (i:=3) nd rfl li qad)
    (qab (qbw PassesOwn.never rfl (qpZ rfl B.reversed (qaa (pv 0) qae)) (qaA (i:=4) nd rfl li) (qah (qak (i:=3) nd rfl li (qap qbH (qap qaY (qap qaJ (pv 3) (pv 1)) (pv 4)) (pv 2)))))
    (qah (qaC (pv 3)))))
theorem qgz (F:Fun K "root_exponent" "root_exponent" qgV f fd) (B:Bl K mg)  : FnOk P w K mg base CX0 1 f fd ["row"] (qbJ K):=okm F (qgx ) fun hr nd hu ht=>(qab (qak (i:=1) nd rfl li (qbg qae))
    (qab (qbw PassesOwn.never rfl (qgR rfl B.range (qaa qad (qaa (qax qaG rfl B.len qbh (qaa (pv 0) qae)) qae))) (qaA (i:=2) nd rfl li) (qab (qak (i:=3) nd rfl li (qaD qas (pv 0) (qap qbF (qap qbF (qax qaG rfl B.len qbh (qaa (pv 0) qae)) qad) (pv 2)) (fun _ _=>rfl)))
    (qah (qbQ (qaz qiF (pv 3) qad (nomark _)) (qah (qdN (qjx PySem.F.plainAttrs_list PySem.F.slot_list_append PySem.F.type_list_append qdc (pv 1) (qaa (qbG qaZ (qap qeZ (qap qbF (qap qbF (qpR PySem.F.plainAttrs_int PySem.F.slot_int_bit_length PyProof.Rows.type_int_bit_length qnG (qaD qas (pv 0) (qbG qaZ qad) (fun _ _=>rfl))) (qpR PySem.F.plainAttrs_int PySem.F.slot_int_bit_length PyProof.Rows.type_int_bit_length qnG (pv 3))) qad) (pv 2))) qae)))) qaR))))
    (qah (qaC (qap qaY qad (qqI rfl B.max qjF (pv 1)))))))
theorem qlb (F:Fun K "row_less" "row_less" ql8 f fd) (B:Bl K mg) (c0:qcw P w K mg base):FnOk P w K mg base CX0 2 f fd ["row", "factor", "other", "weight", "shift"] (qbo K):=okm F (qkR ) fun hr nd hu ht=>(qab (qnq (i:=5) (N:=["whole", "factor"]) (capt:=[none,some 1]) nd rfl li rfl (BlkOk.of rfl rfl rfl rfl (List.forall_mem_singleton.mpr rfl) rfl rfl rfl) (qbm (pv 0)) (fun _ _ _ _=>(qaA (i:=0) (show (["whole", "factor"]:List PySem.Str).Nodup by decide +kernel) rfl li)) (fun _ _ _ _=>(qap qaJ (pv 1) (pv 0))))
    (qab (qdN (qjx PySem.F.plainAttrs_list PySem.F.slot_list_extend PySem.F.type_list_extend qm2 (pv 5) (qaa (qap qjz (qbg (qaa qad qae)) (qap qbF (qap qaY (qax qaG rfl B.len qbh (qaa (pv 2) qae)) (pv 4)) (qax qaG rfl B.len qbh (qaa (pv 0) qae)))) qae)))
    (qab (qbw PassesOwn.never rfl (qeX rfl B.enumerate (qaa (pv 2) qae)) (qfI rfl (qbI (qaA (i:=6) nd rfl li) (qbI (qaA (i:=7) nd rfl li) qfE))) (qah (qiD (pv 5) (qap qaY (pv 6) (pv 4)) qgG (qap qaJ (pv 3) (pv 7)) qiE qbS)))
    (qah (qaC (c0.pe hr (by decide) rfl (qaa (pv 5) qae)))))))
theorem qh5 (F:Fun K "strand_rest" "strand_rest" qiM f fd) (B:Bl K mg) (c0:qa9 P w K mg base) (c1:qeg P w K mg base) (c2:qbX P w K mg base):FnOk P w K mg base CX0 4 f fd ["strand", "other"] (qbt K):=okm F (qh0 ) fun hr nd hu ht=>(qab (qbv PassesOwn.never (qaz qsO (qax qaG rfl B.len qbh (qaa (qaD qas (pv 0) qad (fun _ _=>rfl)) qae)) (qax qaG rfl B.len qbh (qaa (qaD qas (pv 1) qad (fun _ _=>rfl)) qae)) (nomark _)) (qab (qak (i:=2) nd rfl (Or.inr rfl) (qap qbF (qax qaG rfl B.len qbh (qaa (qaD qas (pv 0) qad (fun _ _=>rfl)) qae)) (qax qaG rfl B.len qbh (qaa (qaD qas (pv 1) qad (fun _ _=>rfl)) qae))))
    (qab (qak (i:=3) nd rfl li (qaD qas (qaD qas (pv 0) qad (fun _ _=>rfl)) (qbG qaZ qad) (fun _ _=>rfl)))
    (qab (qak (i:=4) nd rfl li (qaD qas (qaD qas (pv 1) qad (fun _ _=>rfl)) (qbG qaZ qad) (fun _ _=>rfl)))
    (qab (qak (i:=5) nd rfl li (c0.pe hr (by decide) rfl (qaa (pv 3) (qaa (pv 4) qae))))
    (qab (qak (i:=6) nd rfl (Or.inr rfl) (qap qcP (pv 4) (pv 5)))
    (qab (qak (i:=7) nd rfl (Or.inr rfl) (qap qcP (pv 3) (pv 5)))
    (qah (qnq (i:=0) (N:=["row", "follower", "factor", "weight", "shift"]) (capt:=[none,none,some 6,some 7,some 2]) nd rfl li rfl (BlkOk.of rfl rfl rfl rfl (List.forall_mem_cons.mpr ⟨rfl,(List.forall_mem_cons.mpr ⟨rfl,(List.forall_mem_singleton.mpr rfl)⟩)⟩) rfl rfl rfl) (qrX rfl B.zip (qaa (pv 0) (qaa (pv 1) qae))) (fun _ _ _ _=>(qfI rfl (qbI (qaA (i:=0) (show (["row", "follower", "factor", "weight", "shift"]:List PySem.Str).Nodup by decide +kernel) rfl li) (qbI (qaA (i:=1) (show (["row", "follower", "factor", "weight", "shift"]:List PySem.Str).Nodup by decide +kernel) rfl li) qfE)))) (fun _ _ _ _=>(c1.pe hr (by decide) rfl (qaa (pv 0) (qaa (pv 2) (qaa (pv 1) (qaa (pv 3) (qaa (pv 4) qae))))))))))))))))
    (qah (qaC (c2.pe hr (by decide) rfl (qaa (pv 0) qae)))))
theorem qeQ (F:Fun K "strand_shortened" "strand_shortened" qeV f fd) (B:Bl K mg) (c0:qkb P w K mg base) (c1:qgi P w K mg base):FnOk P w K mg base CX0 3 f fd ["strand"] (qaQ K):=okm F (qeM ) fun hr nd hu ht=>(qab (qak (i:=1) nd rfl (Or.inr rfl) qad)
    (qab (qbw PassesOwn.never rfl (qbm (pv 0)) (qaA (i:=2) nd rfl li) (qah (qak (i:=1) nd rfl (Or.inr rfl) (c0.pe hr (by decide) rfl (qaa (pv 2) (qaa (pv 1) qae))))))
    (qah (qaC (qcn (N:=["row", "shared"]) (capt:=[none,some 1]) rfl (BlkOk.of rfl rfl rfl rfl (List.forall_mem_singleton.mpr rfl) rfl rfl rfl) (qbm (pv 0)) (fun _ _ _ _=>(qaA (i:=0) (show (["row", "shared"]:List PySem.Str).Nodup by decide +kernel) rfl li)) (fun _ _ _ _=>(c1.pe hr (by decide) rfl (qaa (pv 0) (qaa (pv 1) qae)))))))))
theorem qgA (F:Fun K "row_shortened" "row_shortened" qgW f fd) (B:Bl K mg) (c0:qbX P w K mg base):FnOk P w K mg base CX0 4 f fd ["row"] (qaO K):=okm F (qgt ) fun hr nd hu ht=>(qah (qaC (qaD qas (c0.pe hr (by decide) rfl (qaa (qbg (qaa (pv 0) qae)) qae)) qad (fun _ _=>rfl))))
theorem qgB (F:Fun K "strand_euclid" "strand_euclid" qgX f fd) (B:Bl K mg) (c0:qfz P w K mg base):FnOk P w K mg base CX0 5 f fd ["strand", "other"] (qaX K):=okm F (qgu ) fun hr nd hu ht=>(qab (qbv PassesOwn.never (qey (qaD qas (pv 1) qad (fun _ _=>rfl)) (fun _=>rfl)) (qab (qbQ (qaz qdk (qax qaG rfl B.len qbh (qaa (qaD qas (pv 1) qad (fun _ _=>rfl)) qae)) qad (nomark _)) (qah (qaC (pv 1))) qaR)
    (qab (qak (i:=2) nd rfl li (c0.pe hr (by decide) rfl (qaa (pv 0) (qaa (pv 1) qae))))
    (qab (qak (i:=0) nd rfl li (pv 1))
    (qah (qak (i:=1) nd rfl li (pv 2)))))))
    (qah (qaC (pv 0))))
theorem qfX (F:Fun K "inverse_modulo" "inverse_modulo" qgm f fd) (B:Bl K mg)  : FnOk P w K mg base CX0 1 f fd ["whole", "prime"] (qaV K):=okm F (qfT ) fun hr nd hu ht=>(qab (qak (i:=2) nd rfl li (pv 1))
    (qab (qak (i:=3) nd rfl li (qap qbH (pv 0) (pv 1)))
    (qab (qak (i:=4) nd rfl li qad)
    (qab (qak (i:=5) nd rfl li qad)
    (qab (qbv PassesOwn.never (qaz qiF (pv 3) qad (nomark _)) (qab (qak (i:=6) nd rfl li (qap qeZ (pv 2) (pv 3)))
    (qab (qak (i:=7) nd rfl li (qap qbF (pv 2) (qap qaJ (pv 6) (pv 3))))
    (qab (qak (i:=2) nd rfl li (pv 3))
    (qab (qak (i:=3) nd rfl li (pv 7))
    (qab (qak (i:=7) nd rfl li (qap qbF (pv 4) (qap qaJ (pv 6) (pv 5))))
    (qab (qak (i:=4) nd rfl li (pv 5))
    (qah (qak (i:=5) nd rfl li (pv 7))))))))))
    (qah (qaC (qap qbH (pv 4) (pv 1)))))))))
theorem qhy (F:Fun K "rests_modulo" "rests_modulo" qhL f fd) (B:Bl K mg)  : FnOk P w K mg base CX0 1 f fd ["row", "prime"] (qa2 K):=okm F (qhp ) fun hr nd hu ht=>(qah (qaC (qcn (N:=["whole", "prime"]) (capt:=[none,some 1]) rfl (BlkOk.of rfl rfl rfl rfl (List.forall_mem_singleton.mpr rfl) rfl rfl rfl) (qbm (pv 0)) (fun _ _ _ _=>(qaA (i:=0) (show (["whole", "prime"]:List PySem.Str).Nodup by decide +kernel) rfl li)) (fun _ _ _ _=>(qap qbH (pv 0) (pv 1))))))
theorem qjh (F:Fun K "row_modulo" "row_modulo" qjB f fd) (B:Bl K mg) (c0:qc8 P w K mg base) (c1:qcw P w K mg base):FnOk P w K mg base CX0 2 f fd ["row", "prime"] (qaP K):=okm F (qi8 ) fun hr nd hu ht=>(qah (qaC (c1.pe hr (by decide) rfl (qaa (c0.pe hr (by decide) rfl (qaa (pv 0) (qaa (pv 1) qae))) qae))))
theorem qhz (F:Fun K "monic_modulo" "monic_modulo" qhM f fd) (B:Bl K mg) (c0:qcr P w K mg base):FnOk P w K mg base CX0 2 f fd ["row", "prime"] (qaM K):=okm F (qhq ) fun hr nd hu ht=>(qab (qbQ (qli (qey (pv 0) (fun _=>rfl))) (qah (qaC (qbg qae))) qaR)
    (qab (qak (i:=2) nd rfl (Or.inr rfl) (c0.pe hr (by decide) rfl (qaa (qaD qas (pv 0) (qbG qaZ qad) (fun _ _=>rfl)) (qaa (pv 1) qae))))
    (qah (qaC (qcn (N:=["whole", "prime", "factor"]) (capt:=[none,some 1,some 2]) rfl (BlkOk.of rfl rfl rfl rfl (List.forall_mem_cons.mpr ⟨rfl,(List.forall_mem_singleton.mpr rfl)⟩) rfl rfl rfl) (qbm (pv 0)) (fun _ _ _ _=>(qaA (i:=0) (show (["whole", "prime", "factor"]:List PySem.Str).Nodup by decide +kernel) rfl li)) (fun _ _ _ _=>(qap qbH (qap qaJ (pv 0) (pv 2)) (pv 1))))))))
theorem qhA (F:Fun K "split_modulo" "split_modulo" qhN f fd) (B:Bl K mg) (c0:qcw P w K mg base) (c1:qcl P w K mg base):FnOk P w K mg base CX0 3 f fd ["row", "divisor", "modulus"] (qaS K):=okm F (qhr ) fun hr nd hu ht=>(qab (qak (i:=3) nd rfl li (qdP qfH rfl B.list qkA (qaa (pv 0) qae)))
    (qab (qak (i:=4) nd rfl li (qap qbF (qax qaG rfl B.len qbh (qaa (pv 1) qae)) qad))
    (qab (qak (i:=5) nd rfl li (qap qjz (qbg (qaa qad qae)) (qax (qeW rfl) rfl B.max qjF (qaa (qap qbF (qax qaG rfl B.len qbh (qaa (pv 0) qae)) (pv 4)) (qaa qad qae)))))
    (qab (qbw PassesOwn.never rfl (qjJ rfl B.range (qaa (qap qbF (qap qbF (qax qaG rfl B.len qbh (qaa (pv 0) qae)) (pv 4)) qad) (qaa (qbG qaZ qad) (qaa (qbG qaZ qad) qae)))) (qaA (i:=6) nd rfl li) (qab (qak (i:=7) nd rfl li (qap qbH (qaD qas (pv 3) (qap qaY (pv 6) (pv 4)) (fun _ _=>rfl)) (pv 2)))
    (qab (qgQ (pv 7) (qgP (pv 5) (pv 6) qbS))
    (qah (qbQ (qaz qiF (pv 7) qad (nomark _)) (qah (qbw PassesOwn.never rfl (qeT rfl B.range (qaa (pv 4) qae)) (qaA (i:=8) nd rfl li) (qah (qiD (pv 3) (qap qaY (pv 6) (pv 8)) qgG (qap qaJ (pv 7) (qaD qas (pv 1) (pv 8) (fun _ _=>rfl))) qiE qbS)))) qaR)))))
    (qah (qaC (qf4 (qaa (c0.pe hr (by decide) rfl (qaa (pv 5) qae)) (qaa (c1.pe hr (by decide) rfl (qaa (qdl qg3 (pv 3) qev (qew (pv 4))) (qaa (pv 2) qae))) qae)))))))))
theorem qh6 (F:Fun K "rest_modulo" "rest_modulo" qiN f fd) (B:Bl K mg) (c0:qb6 P w K mg base):FnOk P w K mg base CX0 4 f fd ["row", "divisor", "modulus"] (qaN K):=okm F (qhZ ) fun hr nd hu ht=>(qah (qaC (qaD qa5 (c0.pe hr (by decide) rfl (qaa (pv 0) (qaa (pv 1) (qaa (pv 2) qae)))) qad (fun _ _=>rfl))))
theorem qgC (F:Fun K "euclid_modulo" "euclid_modulo" qgY f fd) (B:Bl K mg) (c0:qcl P w K mg base) (c1:qc9 P w K mg base) (c2:qcx P w K mg base):FnOk P w K mg base CX0 5 f fd ["row", "other", "prime"] (qa7 K):=okm F (qgs ) fun hr nd hu ht=>(qab (qak (i:=0) nd rfl li (c1.pe hr (by decide) rfl (qaa (c0.pe hr (by decide) rfl (qaa (pv 0) (qaa (pv 2) qae))) (qaa (pv 2) qae))))
    (qab (qak (i:=1) nd rfl li (c1.pe hr (by decide) rfl (qaa (c0.pe hr (by decide) rfl (qaa (pv 1) (qaa (pv 2) qae))) (qaa (pv 2) qae))))
    (qab (qbv PassesOwn.never (qey (pv 1) (fun _=>rfl)) (qab (qak (i:=3) nd rfl li (c2.pe hr (by decide) rfl (qaa (pv 0) (qaa (pv 1) (qaa (pv 2) qae)))))
    (qab (qak (i:=0) nd rfl li (pv 1))
    (qah (qak (i:=1) nd rfl li (c1.pe hr (by decide) rfl (qaa (pv 3) (qaa (pv 2) qae))))))))
    (qah (qaC (pv 0))))))
theorem qhB (F:Fun K "inverse_rest" "inverse_rest" qhO f fd) (B:Bl K mg) (c0:qcx P w K mg base) (c1:qcr P w K mg base) (c2:qcl P w K mg base) (c3:qb6 P w K mg base) (c4:qeO P w K mg base) (c5:qeg P w K mg base):FnOk P w K mg base CX0 5 f fd ["row", "divisor", "prime"] (qbU K):=okm F (qht ) fun hr nd hu ht=>(qab (qak (i:=3) nd rfl li (pv 1))
    (qab (qak (i:=4) nd rfl li (c0.pe hr (by decide) rfl (qaa (pv 0) (qaa (pv 1) (qaa (pv 2) qae)))))
    (qab (qak (i:=5) nd rfl li (qbg qae))
    (qab (qak (i:=6) nd rfl li (qbg (qaa qad qae)))
    (qah (qbv PassesOwn.never (qmI qrz) (qab (qak (i:=7) nd rfl (Or.inr rfl) (c1.pe hr (by decide) rfl (qaa (qaD qas (pv 4) (qbG qaZ qad) (fun _ _=>rfl)) (qaa (pv 2) qae))))
    (qab (qak (i:=4) nd rfl li (c2.pe hr (by decide) rfl (qaa (qcn (N:=["whole", "factor"]) (capt:=[none,some 7]) rfl (BlkOk.of rfl rfl rfl rfl (List.forall_mem_singleton.mpr rfl) rfl rfl rfl) (qbm (pv 4)) (fun _ _ _ _=>(qaA (i:=0) (show (["whole", "factor"]:List PySem.Str).Nodup by decide +kernel) rfl li)) (fun _ _ _ _=>(qap qaJ (pv 0) (pv 1)))) (qaa (pv 2) qae))))
    (qab (qak (i:=6) nd rfl li (c2.pe hr (by decide) rfl (qaa (qcn (N:=["whole", "factor"]) (capt:=[none,some 7]) rfl (BlkOk.of rfl rfl rfl rfl (List.forall_mem_singleton.mpr rfl) rfl rfl rfl) (qbm (pv 6)) (fun _ _ _ _=>(qaA (i:=0) (show (["whole", "factor"]:List PySem.Str).Nodup by decide +kernel) rfl li)) (fun _ _ _ _=>(qap qaJ (pv 0) (pv 1)))) (qaa (pv 2) qae))))
    (qab (qbQ (qaz qdk (qax qaG rfl B.len qbh (qaa (pv 4) qae)) qad (nomark _)) (qah (qaC (pv 6))) qaR)
    (qab (qak (i:=8) nd rfl li (c3.pe hr (by decide) rfl (qaa (pv 3) (qaa (pv 4) (qaa (pv 2) qae)))))
    (qab (qak (i:=9) nd rfl li (c2.pe hr (by decide) rfl (qaa (c5.pe hr (by decide) rfl (qaa (pv 5) (qaa qad (qaa (c4.pe hr (by decide) rfl (qaa (qaD qa5 (pv 8) qad (fun _ _=>rfl)) (qaa (pv 6) qae))) (qaa qad (qaa qad qae)))))) (qaa (pv 2) qae))))
    (qab (qak (i:=3) nd rfl li (pv 4))
    (qab (qak (i:=4) nd rfl li (qaD qa5 (pv 8) qad (fun _ _=>rfl)))
    (qab (qak (i:=5) nd rfl li (pv 6))
    (qah (qak (i:=6) nd rfl li (pv 9))))))))))))))))))
theorem qoI (F:Fun K "lifted" "lifted" qo1 f fd) (B:Bl K mg) (c0:qc9 P w K mg base) (c1:qb6 P w K mg base) (c2:qeq P w K mg base) (c3:qcx P w K mg base) (c4:qeO P w K mg base) (c5:qeg P w K mg base) (c6:qcl P w K mg base):FnOk P w K mg base CX0 6 f fd ["row", "factor", "prime", "floor"] (qe3 K):=okm F (qoC ) fun hr nd hu ht=>(qab (qak (i:=4) nd rfl li (pv 2))
    (qab (qak (i:=5) nd rfl li (qaD qa5 (c1.pe hr (by decide) rfl (qaa (c0.pe hr (by decide) rfl (qaa (pv 0) (qaa (pv 2) qae))) (qaa (pv 1) (qaa (pv 2) qae)))) qad (fun _ _=>rfl)))
    (qab (qak (i:=6) nd rfl li (c2.pe hr (by decide) rfl (qaa (pv 5) (qaa (pv 1) (qaa (pv 2) qae)))))
    (qab (qbv PassesOwn.never (qaz qrE (pv 4) (pv 3) (nomark _)) (qab (qf3 (i:=4) nd rfl li (pv 4) qgF)
    (qab (qak (i:=7) nd rfl li (c0.pe hr (by decide) rfl (qaa (pv 0) (qaa (pv 4) qae))))
    (qab (qak (i:=8) nd rfl li (c3.pe hr (by decide) rfl (qaa (pv 7) (qaa (pv 1) (qaa (pv 4) qae)))))
    (qab (qak (i:=9) nd rfl li (c3.pe hr (by decide) rfl (qaa (c4.pe hr (by decide) rfl (qaa (pv 8) (qaa (pv 6) qae))) (qaa (pv 1) (qaa (pv 4) qae)))))
    (qab (qak (i:=1) nd rfl li (c6.pe hr (by decide) rfl (qaa (c5.pe hr (by decide) rfl (qaa (pv 1) (qaa qad (qaa (pv 9) (qaa (qbG qaZ qad) (qaa qad qae)))))) (qaa (pv 4) qae))))
    (qab (qak (i:=5) nd rfl li (qaD qa5 (c1.pe hr (by decide) rfl (qaa (pv 7) (qaa (pv 1) (qaa (pv 4) qae)))) qad (fun _ _=>rfl)))
    (qab (qak (i:=10) nd rfl li (c5.pe hr (by decide) rfl (qaa (qbg (qaa qad qae)) (qaa qad (qaa (c3.pe hr (by decide) rfl (qaa (c4.pe hr (by decide) rfl (qaa (pv 5) (qaa (pv 6) qae))) (qaa (pv 1) (qaa (pv 4) qae)))) (qaa qad (qaa qad qae)))))))
    (qah (qak (i:=6) nd rfl li (c3.pe hr (by decide) rfl (qaa (c4.pe hr (by decide) rfl (qaa (pv 6) (qaa (pv 10) qae))) (qaa (pv 1) (qaa (pv 4) qae))))))))))))))
    (qah (qaC (qf4 (qaa (pv 1) (qaa (pv 4) qae)))))))))
theorem qmx (F:Fun K "nearest" "nearest" qm6 f fd) (B:Bl K mg)  : FnOk P w K mg base CX0 1 f fd ["whole", "prime"] (qb2 K):=okm F (qmn ) fun hr nd hu ht=>(qab (qak (i:=2) nd rfl li (qap qbH (pv 0) (pv 1)))
    (qah (qaC (qiC (qaz qiG (qap qaJ qad (pv 2)) (pv 1) (nomark _)) (qap qbF (pv 2) (pv 1)) (pv 2)))))
theorem qfB (F:Fun K "common_by_prime" "common_by_prime" qfG f fd) (B:Bl K mg) (c0:qa9 P w K mg base) (c1:qd8 P w K mg base) (c2:qhv P w K mg base) (c3:qbY P w K mg base) (c4:qef P w K mg base):FnOk P w K mg base CX0 6 f fd ["row", "other", "prime"] (qaW K):=okm F (qfv ) fun hr nd hu ht=>(qab (qak (i:=3) nd rfl (Or.inr rfl) (c0.pe hr (by decide) rfl (qaa (qaD qas (pv 0) (qbG qaZ qad) (fun _ _=>rfl)) (qaa (qaD qas (pv 1) (qbG qaZ qad) (fun _ _=>rfl)) qae))))
    (qab (qbQ (qaz qdk (qap qbH (pv 3) (pv 2)) qad (nomark _)) (qah (qaC qdM)) qaR)
    (qab (qak (i:=4) nd rfl li (c1.pe hr (by decide) rfl (qaa (pv 0) (qaa (pv 1) (qaa (pv 2) qae)))))
    (qab (qak (i:=5) nd rfl li (c3.pe hr (by decide) rfl (qaa (qcn (N:=["whole", "prime", "lead"]) (capt:=[none,some 2,some 3]) rfl (BlkOk.of rfl rfl rfl rfl (List.forall_mem_cons.mpr ⟨rfl,(List.forall_mem_singleton.mpr rfl)⟩) rfl rfl rfl) (qbm (pv 4)) (fun _ _ _ _=>(qaA (i:=0) (show (["whole", "prime", "lead"]:List PySem.Str).Nodup by decide +kernel) rfl li)) (fun _ _ _ _=>(c2.pe hr (by decide) rfl (qaa (qap qaJ (pv 2) (pv 0)) (qaa (pv 1) qae))))) qae)))
    (qab (qbQ (PW.pt (qqt (qaz qmU (c4.pe hr (by decide) rfl (qaa (pv 0) (qaa (pv 5) qae))) qdM (nomark _)) (qmJ (qaz qmU (c4.pe hr (by decide) rfl (qaa (pv 1) (qaa (pv 5) qae))) qdM (nomark _))))) (qah (qaC qdM)) qaR)
    (qah (qaC (pv 5))))))))
theorem qji (F:Fun K "row_common" "row_common" qjC f fd) (B:Bl K mg) (c0:qbY P w K mg base) (c1:qlY P w K mg base) (c2:qdj P w K mg base) (c3:qd7 P w K mg base):FnOk P w K mg base CX0 7 f fd ["row", "other"] (qbC K):=okm F (qja B.xEXPONENTS ) fun hr nd hu ht=>(qab (qak (i:=2) nd rfl li (c0.pe hr (by decide) rfl (qaa (pv 0) qae)))
    (qab (qak (i:=3) nd rfl li (c0.pe hr (by decide) rfl (qaa (pv 1) qae)))
    (qab (qbQ (PW.pt (qgO (qey (pv 0) (fun _=>rfl)) (qfD (qey (pv 1) (fun _=>rfl))))) (qah (qbw PassesOwn.never rfl (qlj (qqr rfl B.EXPONENTS rfl)) (qaA (i:=4) nd rfl li) (qab (qak (i:=5) nd rfl li (c2.pe hr (by decide) rfl (qaa (pv 2) (qaa (pv 3) (qaa (qap qbF (c1.pe hr (by decide) rfl (qaa qad (qaa (pv 4) qae))) qad) qae)))))
    (qah (qbQ (qaz qmV (pv 5) qdM (nomark _)) (qah (qaC (pv 5))) qaR))))) qaR)
    (qah (qaC (qaD qas (c3.pe hr (by decide) rfl (qaa (qbg (qaa (pv 2) qae)) (qaa (qbg (qaa (pv 3) qae)) qae))) qad (fun _ _=>rfl)))))))
theorem qjj (F:Fun K "simple_row" "simple_row" qjD f fd) (B:Bl K mg) (c0:qbY P w K mg base) (c1:qeP P w K mg base) (c2:qgj P w K mg base) (c3:qef P w K mg base):FnOk P w K mg base CX0 8 f fd ["row"] (qbD K):=okm F (qjc ) fun hr nd hu ht=>(qab (qak (i:=1) nd rfl li (c0.pe hr (by decide) rfl (qaa (pv 0) qae)))
    (qab (qak (i:=2) nd rfl li (c3.pe hr (by decide) rfl (qaa (pv 1) (qaa (c2.pe hr (by decide) rfl (qaa (pv 1) (qaa (c1.pe hr (by decide) rfl (qaa (pv 1) qae)) qae))) qae))))
    (qah (qaC (qiC (qaz qiG (qaD qas (pv 2) (qbG qaZ qad) (fun _ _=>rfl)) qad (nomark _)) (pv 2) (qcn (N:=["whole"]) (capt:=[none]) rfl (BlkOk.of rfl rfl rfl rfl (fun _ h=>nomatch h) rfl rfl rfl) (qbm (pv 2)) (fun _ _ _ _=>(qaA (i:=0) (show (["whole"]:List PySem.Str).Nodup by decide +kernel) rfl li)) (fun _ _ _ _=>(qbG qaZ (pv 0)))))))))
theorem qpI (F:Fun K "ratio" "ratio" qqA f fd) (B:Bl K mg) (c0:qa9 P w K mg base):FnOk P w K mg base CX0 2 f fd ["top", "bottom"] (qcT K):=okm F (qpp ) fun hr nd hu ht=>(qab (qak (i:=2) nd rfl li (c0.pe hr (by decide) rfl (qaa (pv 0) (qaa (pv 1) qae))))
    (qab (qbQ (qaz qmT (pv 1) qad (nomark _)) (qah (qak (i:=2) nd rfl li (qbG qaZ (pv 2)))) qaR)
    (qah (qaC (qf4 (qaa (qap qcP (pv 0) (pv 2)) (qaa (qap qcP (pv 1) (pv 2)) qae)))))))
theorem qmy (F:Fun K "cleared" "cleared" qm7 f fd) (B:Bl K mg) (c0:qa9 P w K mg base):FnOk P w K mg base CX0 2 f fd ["P"] (qcB K):=okm F (qml ) fun hr nd hu ht=>(qab (qak (i:=1) nd rfl (Or.inr rfl) qad)
    (qab (qbw PassesOwn.never rfl (qlj (pv 0)) (qaA (i:=2) nd rfl li) (qah (qf3 (i:=1) nd rfl (Or.inr rfl) (qap qeZ (qaD qa5 (pv 2) qad (fun _ _=>rfl)) (c0.pe hr (by decide) rfl (qaa (pv 1) (qaa (qaD qa5 (pv 2) qad (fun _ _=>rfl)) qae)))) qgF)))
    (qah (qaC (qf4 (qaa (qcn (N:=["number", "bottom"]) (capt:=[none,some 1]) rfl (BlkOk.of rfl rfl rfl rfl (List.forall_mem_singleton.mpr rfl) rfl rfl rfl) (qlj (pv 0)) (fun _ _ _ _=>(qaA (i:=0) (show (["number", "bottom"]:List PySem.Str).Nodup by decide +kernel) rfl li)) (fun _ _ _ _=>(qap qaJ (qaD qa5 (pv 0) qad (fun _ _=>rfl)) (qap qeZ (pv 1) (qaD qa5 (pv 0) qad (fun _ _=>rfl)))))) (qaa (pv 1) qae)))))))
theorem qfY (F:Fun K "rational_roots" "rational_roots" qgn f fd) (B:Bl K mg) (c0:qkc P w K mg base) (c1:qgk P w K mg base) (c2:qd9 P w K mg base) (c3:qfy P w K mg base) (c4:qd6 P w K mg base) (c5:qlZ P w K mg base) (c6:qhv P w K mg base) (c7:qoG P w K mg base) (c8:qef P w K mg base):FnOk P w K mg base CX0 9 f fd ["P"] (qbE K):=okm F (qfV ) fun hr nd hu ht=>(qab (qak (i:=1) nd rfl (Or.inr rfl) (c1.pe hr (by decide) rfl (qaa (qaD qa5 (c0.pe hr (by decide) rfl (qaa (pv 0) qae)) qad (fun _ _=>rfl)) qae)))
    (qab (qak (i:=2) nd rfl li qad)
    (qab (qak (i:=3) nd rfl li (c2.pe hr (by decide) rfl (qaa (pv 1) (qaa (pv 2) qae))))
    (qab (qbv PassesOwn.never (qaz qmU (pv 3) qdM (nomark _)) (qab (qak (i:=2) nd rfl li (c3.pe hr (by decide) rfl (qaa (pv 2) qae)))
    (qah (qak (i:=3) nd rfl li (c2.pe hr (by decide) rfl (qaa (pv 1) (qaa (pv 2) qae)))))))
    (qab (qak (i:=4) nd rfl li (qap op_shl (qaD qas (pv 1) (qbG qaZ qad) (fun _ _=>rfl)) (qap qaY (qax (qeW rfl) rfl B.max qjF (qaa (c4.pe hr (by decide) rfl (qaa (pv 1) qae)) (qaa qad qae))) qad)))
    (qab (qak (i:=5) nd rfl li (qbg qae))
    (qab (qbw PassesOwn.never rfl (qbm (pv 3)) (qaA (i:=6) nd rfl li) (qab (qak (i:=7) nd rfl li (c5.pe hr (by decide) rfl (qaa (pv 1) (qaa (qbg (qaa (qbG qaZ (pv 6)) (qaa qad qae))) (qaa (pv 2) (qaa (pv 4) qae))))))
    (qab (qak (i:=8) nd rfl li (c6.pe hr (by decide) rfl (qaa (qap qaJ (qbG qaZ (qaD qas (qaD qa5 (pv 7) qad (fun _ _=>rfl)) qad (fun _ _=>rfl))) (qaD qas (pv 1) (qbG qaZ qad) (fun _ _=>rfl))) (qaa (qaD qa5 (pv 7) qad (fun _ _=>rfl)) qae))))
    (qab (qak (i:=9) nd rfl li (c7.pe hr (by decide) rfl (qaa (pv 8) (qaa (qaD qas (pv 1) (qbG qaZ qad) (fun _ _=>rfl)) qae))))
    (qah (qbQ (qaz qmV (c8.pe hr (by decide) rfl (qaa (pv 1) (qaa (qbg (qaa (qbG qaZ (qaD qa5 (pv 9) qad (fun _ _=>rfl))) (qaa (qaD qa5 (pv 9) qad (fun _ _=>rfl)) qae))) qae))) qdM (nomark _)) (qah (qdN (qjx PySem.F.plainAttrs_list PySem.F.slot_list_append PySem.F.type_list_append qdc (pv 5) (qaa (pv 8) qae)))) qaR))))))
    (qah (qaC (qcn (N:=["whole", "row"]) (capt:=[none,some 1]) rfl (BlkOk.of rfl rfl rfl rfl (List.forall_mem_singleton.mpr rfl) rfl rfl rfl) (qbm (qax qjO rfl B.sorted qnF (qaa (pv 5) qae))) (fun _ _ _ _=>(qaA (i:=0) (show (["whole", "row"]:List PySem.Str).Nodup by decide +kernel) rfl li)) (fun _ _ _ _=>(c7.pe hr (by decide) rfl (qaa (pv 0) (qaa (qaD qas (pv 1) (qbG qaZ qad) (fun _ _=>rfl)) qae))))))))))))))
theorem qgD (F:Fun K "starts_modulo" "starts_modulo" qgZ f fd) (B:Bl K mg) (c0:qc8 P w K mg base) (c1:qeP P w K mg base) (c2:qd5 P w K mg base):FnOk P w K mg base CX0 2 f fd ["row", "prime"] (qa8 K):=okm F (qgw ) fun hr nd hu ht=>(qab (qbQ (qaz qdk (qap qbH (qaD qas (pv 0) (qbG qaZ qad) (fun _ _=>rfl)) (pv 1)) qad (nomark _)) (qah (qaC qdM)) qaR)
    (qab (qak (i:=2) nd rfl li (c0.pe hr (by decide) rfl (qaa (pv 0) (qaa (pv 1) qae))))
    (qab (qak (i:=3) nd rfl li (c1.pe hr (by decide) rfl (qaa (pv 2) qae)))
    (qab (qak (i:=4) nd rfl li (qbg qae))
    (qab (qbw PassesOwn.never rfl (qeT rfl B.range (qaa (pv 1) qae)) (qaA (i:=5) nd rfl li) (qah (qbQ (qaz qdk (c2.pe hr (by decide) rfl (qaa (pv 2) (qaa (pv 5) (qaa (pv 1) qae)))) qad (nomark _)) (qab (qbQ (qaz qdk (c2.pe hr (by decide) rfl (qaa (pv 3) (qaa (pv 5) (qaa (pv 1) qae)))) qad (nomark _)) (qah (qaC qdM)) qaR)
    (qah (qdN (qjx PySem.F.plainAttrs_list PySem.F.slot_list_append PySem.F.type_list_append qdc (pv 4) (qaa (pv 5) qae))))) qaR)))
    (qah (qaC (pv 4))))))))
theorem qoJ (F:Fun K "_law_hand" "_law_hand" qo2 f fd) (B:Bl K mg)  : FnOk P w K mg base CX0 1 f fd ["_law_script"] (qdg K):=okm F (qom ) fun hr nd hu ht=>(qab (qak (i:=1) nd rfl li (qax (qjN rfl) rfl B.sum qpW (qaa (qdl qjM (pv 0) qev (qew qad)) qae)))
    (qah (qaC (qbg (qaa (qdP qfH rfl B.list qkA (qaa (qdl qjM (pv 0) qev (qew qad)) qae)) (qaa qad (qaa (qap qiQ (qax qcE rfl B.abs qg1 (qaa (pv 1) qae)) qad) (qaa (qap qbH (pv 1) qad) qae))))))))
theorem qoK (F:Fun K "_law_draw" "_law_draw" qo3 f fd) (B:Bl K mg)  : FnOk P w K mg base CX0 1 f fd ["_law_hand_here", "_law_many"] (qa3 K):=okm F (qon ) fun hr nd hu ht=>(qab (qbQ (PW.pt (qgO (qaz qdk (qaD qas (pv 0) qad (fun _ _=>rfl)) qad (nomark _)) (qgO (qaz qdk (qaD qas (pv 0) qad (fun _ _=>rfl)) qad (nomark _)) (qfD (qaz qmT (qap qaY (qaD qas (pv 0) qad (fun _ _=>rfl)) qad) (qax qaG rfl B.len qbh (qaa (qaD qas (pv 0) qad (fun _ _=>rfl)) qae)) (nomark _)))))) (qab (qgQ (qap qaY (qaD qas (pv 0) qad (fun _ _=>rfl)) qad) (qgP (pv 0) qad qbS))
    (qah (qgQ (qax qcE rfl B.abs qg1 (qaa (qaD qas (qaD qas (pv 0) qad (fun _ _=>rfl)) (qaD qas (pv 0) qad (fun _ _=>rfl)) (fun _ _=>rfl)) qae)) (qgP (pv 0) qad qbS)))) qaR)
    (qab (qbQ (PW.pt (qgO (qaz qdk (qaD qas (pv 0) qad (fun _ _=>rfl)) qad (nomark _)) (qfD (qaz qiG (qaD qas (pv 0) qad (fun _ _=>rfl)) qad (nomark _))))) (qab (qak (i:=2) nd rfl li (qap qbH (qaD qas (pv 0) qad (fun _ _=>rfl)) (pv 1)))
    (qab (qgQ (qap qiQ (qaD qas (pv 0) qad (fun _ _=>rfl)) (pv 1)) (qgP (pv 0) qad qbS))
    (qah (qaC (pv 2))))) qaR)
    (qab (qgQ (qap qaY (qaD qas (pv 0) qad (fun _ _=>rfl)) qad) (qgP (pv 0) qad qbS))
    (qab (qak (i:=3) nd rfl li (qax (qjN rfl) rfl B.sum qpW (qaa (qdl qg3 (qdl qg3 (qaD qas (pv 0) qad (fun _ _=>rfl)) (qew (qap qbH (qaD qas (pv 0) qad (fun _ _=>rfl)) (qax (qeW rfl) rfl B.max qjF (qaa qad (qaa (qax qaG rfl B.len qbh (qaa (qaD qas (pv 0) qad (fun _ _=>rfl)) qae)) qae))))) qev) qev (qew qad)) qae)))
    (qab (qak (i:=4) nd rfl li (qap qbH (qap qaJ (qap qaY (qap qaY (qap qbH (pv 3) qad) (qap qaJ qad (qaD qas (pv 0) qad (fun _ _=>rfl)))) qad) (qap qaY qad (qap qaJ qad (qaD qas (pv 0) qad (fun _ _=>rfl))))) qad))
    (qab (qak (i:=5) nd rfl li (qap qbH (qap qaY (qap qaJ (pv 4) (qap qaY (qap qbH (pv 4) qad) (qaD qas (pv 0) qad (fun _ _=>rfl)))) (qap qaJ qad (qaD qas (pv 0) qad (fun _ _=>rfl)))) qad))
    (qah (qaC (qap qbH (qap qiQ (pv 5) qad) (pv 1))))))))))
theorem qlc (F:Fun K "_law_lowest" "_law_lowest" ql9 f fd) (B:Bl K mg)  : FnOk P w K mg base CX0 1 f fd ["_law_top", "_law_bottom"] (qbx K):=okm F (qkX ) fun hr nd hu ht=>(qab (qpM (i:=2) (j:=3) rfl nd rfl rfl (by decide) rfl rfl (qaa (qax qcE rfl B.abs qg1 (qaa (pv 0) qae)) (qaa (qax qcE rfl B.abs qg1 (qaa (pv 1) qae)) qae)) rfl)
    (qab (qbv PassesOwn.never (qaz qiG (pv 3) qad (nomark _)) (qah (qpM (i:=2) (j:=3) rfl nd rfl rfl (by decide) rfl rfl (qaa (pv 3) (qaa (qap qbH (pv 2) (pv 3)) qae)) rfl)))
    (qab (qbQ (qaz qmT (pv 1) qad (nomark _)) (qah (qak (i:=2) nd rfl li (qbG qaZ (pv 2)))) qaR)
    (qah (qaC (qf4 (qaa (qap qcP (pv 0) (pv 2)) (qaa (qap qcP (pv 1) (pv 2)) qae))))))))
theorem qh7 (F:Fun K "_law_row_times" "_law_row_times" qiO f fd) (B:Bl K mg)  : FnOk P w K mg base CX0 1 f fd ["_law_one", "_law_other"] (qbu K):=okm F (qh1 ) fun hr nd hu ht=>(qab (qak (i:=2) nd rfl li (qap qjz (qbg (qaa qad qae)) (qap qbF (qap qaY (qax qaG rfl B.len qbh (qaa (pv 0) qae)) (qax qaG rfl B.len qbh (qaa (pv 1) qae))) qad)))
    (qab (qbw PassesOwn.never rfl (qeX rfl B.enumerate (qaa (pv 0) qae)) (qfI rfl (qbI (qaA (i:=3) nd rfl li) (qbI (qaA (i:=4) nd rfl li) qfE))) (qah (qbw PassesOwn.never rfl (qeX rfl B.enumerate (qaa (pv 1) qae)) (qfI rfl (qbI (qaA (i:=5) nd rfl li) (qbI (qaA (i:=6) nd rfl li) qfE))) (qah (qgQ (qap qaY (qaD qas (pv 2) (qap qaY (pv 3) (pv 5)) (fun _ _=>rfl)) (qap qaJ (pv 4) (pv 6))) (qgP (pv 2) (qap qaY (pv 3) (pv 5)) qbS))))))
    (qah (qaC (pv 2)))))
theorem qkh (F:Fun K "_law_poly_of" "_law_poly_of" qky f fd) (B:Bl K mg) (c0:qeh P w K mg base):FnOk P w K mg base CX0 2 f fd ["_law_row", "_law_scale_here"] (qbO K):=okm F (qj2 ) fun hr nd hu ht=>(qah (qaC (qdP qnr rfl B.tuple qo5 (qaa (qcn (N:=["_law_one", "_law_scale_here"]) (capt:=[none,some 1]) rfl (BlkOk.of rfl rfl rfl rfl (List.forall_mem_singleton.mpr rfl) rfl rfl rfl) (qbm (pv 0)) (fun _ _ _ _=>(qaA (i:=0) (show (["_law_one", "_law_scale_here"]:List PySem.Str).Nodup by decide +kernel) rfl li)) (fun _ _ _ _=>(c0.pe hr (by decide) rfl (qaa (qap qaJ (pv 0) (qaD qa5 (pv 1) qad (fun _ _=>rfl))) (qaa (qaD qa5 (pv 1) qad (fun _ _=>rfl)) qae))))) qae))))
theorem qmz (F:Fun K "_law_worth" "_law_worth" qm8 f fd) (B:Bl K mg)  : FnOk P w K mg base CX0 1 f fd ["_law_row", "_law_c"] (qcD K):=okm F (qmt ) fun hr nd hu ht=>(qab (qak (i:=2) nd rfl li qad)
    (qab (qak (i:=3) nd rfl li qad)
    (qab (qbw PassesOwn.never rfl (qpZ rfl B.reversed (qaa (pv 0) qae)) (qaA (i:=4) nd rfl li) (qab (qak (i:=2) nd rfl li (qap qaY (qap qaJ (pv 2) (qaD qa5 (pv 1) qad (fun _ _=>rfl))) (qap qaJ (pv 4) (pv 3))))
    (qah (qak (i:=3) nd rfl li (qap qaJ (pv 3) (qaD qa5 (pv 1) qad (fun _ _=>rfl)))))))
    (qah (qaC (pv 2))))))
theorem qmA (F:Fun K "_law_scale" "_law_scale" qm9 f fd) (B:Bl K mg) (c0:qgN P w K mg base) (c1:qeh P w K mg base):FnOk P w K mg base CX0 2 f fd ["_law_hand_here"] (qcC K):=okm F (qmp ) fun hr nd hu ht=>(qah (qaC (c1.pe hr (by decide) rfl (qaa (qap qaJ (qaD qas (qbg (qaa qad (qaa (qbG qaZ qad) qae))) (c0.pe hr (by decide) rfl (qaa (pv 0) (qaa qad qae))) (fun _ _=>rfl)) (qap qaY qad (c0.pe hr (by decide) rfl (qaa (pv 0) (qaa qad qae))))) (qaa (qap qaY qad (c0.pe hr (by decide) rfl (qaa (pv 0) (qaa qad qae)))) qae)))))
theorem qki (F:Fun K "_law_any_row" "_law_any_row" qkz f fd) (B:Bl K mg) (c0:qgN P w K mg base):FnOk P w K mg base CX0 2 f fd ["_law_hand_here", "_law_most", "_law_size"] (qbk K):=okm F (qj3 ) fun hr nd hu ht=>(qab (qak (i:=3) nd rfl li (qbg qae))
    (qab (qbw PassesOwn.never rfl (qeT rfl B.range (qaa (c0.pe hr (by decide) rfl (qaa (pv 0) (qaa (qap qaY (pv 1) qad) qae))) qae)) (qaA (i:=4) nd rfl li) (qah (qdN (qjx PySem.F.plainAttrs_list PySem.F.slot_list_append PySem.F.type_list_append qdc (pv 3) (qaa (qaD qas (qbg (qaa qad (qaa qad (qaa (qbG qaZ qad) (qaa (qap qbF (c0.pe hr (by decide) rfl (qaa (pv 0) (qaa (qap qaY (qap qaJ qad (pv 2)) qad) qae))) (pv 2)) qae))))) (c0.pe hr (by decide) rfl (qaa (pv 0) (qaa qad qae))) (fun _ _=>rfl)) qae)))))
    (qah (qaC (qap qrJ (pv 3) (qbg (qaa (qap qaJ (qaD qas (qbg (qaa qad (qaa (qbG qaZ qad) qae))) (c0.pe hr (by decide) rfl (qaa (pv 0) (qaa qad qae))) (fun _ _=>rfl)) (qap qaY qad (c0.pe hr (by decide) rfl (qaa (pv 0) (qaa (pv 2) qae))))) qae)))))))
theorem qld (F:Fun K "_law_rising" "_law_rising" qma f fd) (B:Bl K mg)  : FnOk P w K mg base CX0 1 f fd ["_law_numbers"] (qdr K):=okm F (qk7 ) fun hr nd hu ht=>(qab (qak (i:=1) nd rfl li (qbg qae))
    (qab (qbw PassesOwn.never rfl (qbm (pv 0)) (qaA (i:=2) nd rfl li) (qab (qak (i:=3) nd rfl li qad)
    (qab (qbv PassesOwn.never (PW.pt (qgO (qaz qmT (pv 3) (qax qaG rfl B.len qbh (qaa (pv 1) qae)) (nomark _)) (qfD (qaz qmT (qap qaJ (qaD qa5 (qaD qas (pv 1) (pv 3) (fun _ _=>rfl)) qad (fun _ _=>rfl)) (qaD qa5 (pv 2) qad (fun _ _=>rfl))) (qap qaJ (qaD qa5 (pv 2) qad (fun _ _=>rfl)) (qaD qa5 (qaD qas (pv 1) (pv 3) (fun _ _=>rfl)) qad (fun _ _=>rfl))) (nomark _))))) (qah (qak (i:=3) nd rfl li (qap qaY (pv 3) qad))))
    (qah (qbQ (PW.pt (qqt (qaz qdk (pv 3) (qax qaG rfl B.len qbh (qaa (pv 1) qae)) (nomark _)) (qmJ (qaz (qrV ht) (qaD qas (pv 1) (pv 3) (fun _ _=>rfl)) (pv 2) (nomark _))))) (qah (qdN (qjx PySem.F.plainAttrs_list PySem.F.slot_list_insert PySem.F.type_list_insert qnD (pv 1) (qaa (pv 3) (qaa (pv 2) qae))))) qaR)))))
    (qah (qaC (pv 1)))))
theorem qle (F:Fun K "_law_parted" "_law_parted" qmb f fd) (B:Bl K mg)  : FnOk P w K mg base CX0 1 f fd ["_law_number"] (qbL K):=okm F (qk6 ) fun hr nd hu ht=>(qah (qaC (qiS (N:=["_law_k", "_law_number"]) (capt:=[none,some 0]) rfl (BlkOk.of rfl rfl rfl rfl (List.forall_mem_singleton.mpr rfl) rfl rfl rfl) (qgR rfl B.range (qaa qad (qaa (qap qaY (qax qcE rfl B.abs qg1 (qaa (pv 0) qae)) qad) qae))) (fun _ _ _ _=>(qaA (i:=0) (show (["_law_k", "_law_number"]:List PySem.Str).Nodup by decide +kernel) rfl li)) (fun _ _ _ _=>(qaz qdk (qap qbH (pv 1) (pv 0)) qad (nomark _))) (fun _ _ _ _=>(pv 0)))))
theorem qhC (F:Fun K "_law_looked_for" "_law_looked_for" qhP f fd) (B:Bl K mg) (c0:qiA P w K mg base) (c1:qkd P w K mg base) (c2:qeh P w K mg base) (c3:qiz P w K mg base):FnOk P w K mg base CX0 2 f fd ["_law_row"] (qbV K):=okm F (qhu ) fun hr nd hu ht=>(qab (qak (i:=1) nd rfl li (qbg qae))
    (qab (qbQ (PW.pt (qgO (qaz qdk (qaD qas (pv 0) qad (fun _ _=>rfl)) qad (nomark _)) (qfD (qaz qiG (qax qaG rfl B.len qbh (qaa (pv 0) qae)) qad (nomark _))))) (qah (qdN (qjx PySem.F.plainAttrs_list PySem.F.slot_list_append PySem.F.type_list_append qdc (pv 1) (qaa (qf4 (qaa qad (qaa qad qae))) qae)))) qaR)
    (qab (qak (i:=2) nd rfl li (qaD qas (qiS (N:=["_law_one"]) (capt:=[none]) rfl (BlkOk.of rfl rfl rfl rfl (fun _ h=>nomatch h) rfl rfl rfl) (qbm (pv 0)) (fun _ _ _ _=>(qaA (i:=0) (show (["_law_one"]:List PySem.Str).Nodup by decide +kernel) rfl li)) (fun _ _ _ _=>(qaz qiF (pv 0) qad (nomark _))) (fun _ _ _ _=>(pv 0))) qad (fun _ _=>rfl)))
    (qab (qbw PassesOwn.never rfl (qbm (c0.pe hr (by decide) rfl (qaa (pv 2) qae))) (qaA (i:=3) nd rfl li) (qah (qbw PassesOwn.never rfl (qbm (c0.pe hr (by decide) rfl (qaa (qaD qas (pv 0) (qbG qaZ qad) (fun _ _=>rfl)) qae))) (qaA (i:=4) nd rfl li) (qah (qbw PassesOwn.never rfl (qlj (qf4 (qaa qad (qaa (qbG qaZ qad) qae)))) (qaA (i:=5) nd rfl li) (qah (qbQ (qaz qdk (c1.pe hr (by decide) rfl (qaa (pv 0) (qaa (qf4 (qaa (qap qaJ (pv 5) (pv 3)) (qaa (pv 4) qae))) qae))) qad (nomark _)) (qah (qdN (qjx PySem.F.plainAttrs_list PySem.F.slot_list_append PySem.F.type_list_append qdc (pv 1) (qaa (c2.pe hr (by decide) rfl (qaa (qap qaJ (pv 5) (pv 3)) (qaa (pv 4) qae))) qae)))) qaR)))))))
    (qah (qaC (c3.pe hr (by decide) rfl (qaa (pv 1) qae))))))))
theorem qsD (F:Fun K "law" "law" qna f fd) (B:Bl K mg) (c0:ql0 P w K mg base) (c1:qgN P w K mg base) (c2:qhx P w K mg base) (c3:qfA P w K mg base) (c4:qke P w K mg base) (c5:qhw P w K mg base) (c6:qdI P w K mg base) (c7:qer P w K mg base):FnOk P w K mg base CX0 10 f fd ["_law_script"] (qjS K):=okm F (qsC ) fun hr nd hu ht=>(qab (qak (i:=1) nd rfl li (c0.pe hr (by decide) rfl (qaa (pv 0) qae)))
    (qab (qak (i:=2) nd rfl li (c2.pe hr (by decide) rfl (qaa (pv 1) (qaa (qaD qas (qbg (qaa qad (qaa qad qae))) (qdP qnj rfl B.int qrP (qaa (qkr qdk (c1.pe hr (by decide) rfl (qaa (pv 1) (qaa qad qae))) qad (nomark _)) qae)) (fun _ _=>rfl)) (qaa qad qae)))))
    (qab (qbQ (qaz qdk (c1.pe hr (by decide) rfl (qaa (pv 1) (qaa qad qae))) qad (nomark _)) (qah (qak (i:=2) nd rfl li (c3.pe hr (by decide) rfl (qaa (c2.pe hr (by decide) rfl (qaa (pv 1) (qaa qad (qaa qad qae)))) (qaa (c2.pe hr (by decide) rfl (qaa (pv 1) (qaa qad (qaa qad qae)))) qae))))) qaR)
    (qab (qak (i:=3) nd rfl li (c5.pe hr (by decide) rfl (qaa (pv 2) (qaa (c4.pe hr (by decide) rfl (qaa (pv 1) qae)) qae))))
    (qah (qaC (qkr (qrU ht) (c6.pe hr (by decide) rfl (qaa (pv 3) qae)) (c7.pe hr (by decide) rfl (qaa (pv 2) qae)) (nomark _))))))))
end
end Bs
namespace Bs
open PySem PySem.Spec PyProof.Rows L2
set_option maxHeartbeats 4000000
open Hd
theorem qrq {K:W.Frag} {st:Stmt} {f c:Addr} {n:Str} {pm:Value} (l:K.lookup f=some (fnO n st pm c)) (e:PySem.W.codeIn K (.ref c) n=true) (k:PySem.W.keepIn K (.ref f)=true):Fun K n n st f (PySem.W.fnOf n n (qc7 st) (qcm st) (qa4 st) .none .none .none pm none (.ref c) .none):=qrK (st:=st) l e k
theorem qsE {P:Program} {K:W.Frag} {w:World} {h base:Heap} {mg:Str→Option Value} {k:Nat} {f:Addr} {fd:FuncData} {n:Str} {ps:List Str} {sp:Sp} (X:K.In h) (G:h.Ns mainGlobals mg) (ok:FnOk P w K mg base CX0 k f fd ps sp) (b:Binds K fd ps []) (e:PySem.W.keepIn K (.ref f)=true) (a:PySem.W.nsIn K mainGlobals n=some (some (.ref f))):Cal P w K mg base k n ps sp:=⟨f,fd,ok,b,e,PySem.W.mg_of X G a⟩
theorem qsF {us:List Value} {n:Nat} (h:us.length=n+1):∃ x t,us=x::t∧t.length=n:=by cases us with | nil=>cases h | cons x t=>exact ⟨x,t,rfl,Nat.succ.inj h⟩
theorem qtN (us:List Value) (h:us.length=1):∃ x0,us=[x0]:=by obtain ⟨x,t,rfl,q⟩:=qsF h;exact ⟨x,by rw [List.length_eq_zero_iff.mp q]⟩
theorem qtO (us:List Value) (h:us.length=2):∃ x0 x1,us=[x0,x1]:=by obtain ⟨x,t,rfl,q⟩:=qsF h;obtain ⟨x1,rfl⟩:=qtN t q;exact ⟨x,x1,rfl⟩
theorem qtP (us:List Value) (h:us.length=3):∃ x0 x1 x2,us=[x0,x1,x2]:=by obtain ⟨x,t,rfl,q⟩:=qsF h;obtain ⟨x1,x2,rfl⟩:=qtO t q;exact ⟨x,x1,x2,rfl⟩
theorem qtQ (us:List Value) (h:us.length=4):∃ x0 x1 x2 x3,us=[x0,x1,x2,x3]:=by obtain ⟨x,t,rfl,q⟩:=qsF h;obtain ⟨x1,x2,x3,rfl⟩:=qtP t q;exact ⟨x,x1,x2,x3,rfl⟩
theorem qt7 (us:List Value) (h:us.length=5):∃ x0 x1 x2 x3 x4,us=[x0,x1,x2,x3,x4]:=by obtain ⟨x,t,rfl,q⟩:=qsF h;obtain ⟨x1,x2,x3,x4,rfl⟩:=qtQ t q;exact ⟨x,x1,x2,x3,x4,rfl⟩
theorem qa6 {P:Program} {K:W.Frag} {w:World} {h base:Heap} {mg:Str→Option Value} {k:Nat} {f c:Addr} {n:Str} {ps:List Str} {sp:Sp} {st:Stmt} {pm:Value} (X:K.In h) (G:h.Ns mainGlobals mg) (ok:Fun K n n st f (PySem.W.fnOf n n (qc7 st) (qcm st) (qa4 st) .none .none .none pm none (.ref c) .none)→FnOk P w K mg base CX0 k f (PySem.W.fnOf n n (qc7 st) (qcm st) (qa4 st) .none .none .none pm none (.ref c) .none) ps sp) (l:K.lookup f=some (fnO n st pm c):=by kernel_rfl) (e:PySem.W.codeIn K (.ref c) n=true:=by kernel_rfl) (q:PySem.W.keepIn K (.ref f)=true:=by kernel_rfl) (a:PySem.W.nsIn K mainGlobals n=some (some (.ref f)):=by kernel_rfl) (b:∀ (kV doc pm:Value) (an:Option Addr) (cdv ct:Value) (us:List Value),us.length=ps.length→bindArgs (PySem.W.fnOf n n (qc7 st) (qcm st) (qa4 st) .none kV doc pm an cdv ct) ⟨us,[]⟩=pure (ps.zip us):=by first | exact fun _ _ _ _ _ _ us hl=>by obtain ⟨_,rfl⟩:=qtN us hl;rfl | exact fun _ _ _ _ _ _ us hl=>by obtain ⟨_,_,rfl⟩:=qtO us hl;rfl | exact fun _ _ _ _ _ _ us hl=>by obtain ⟨_,_,_,rfl⟩:=qtP us hl;rfl | exact fun _ _ _ _ _ _ us hl=>by obtain ⟨_,_,_,_,rfl⟩:=qtQ us hl;rfl | exact fun _ _ _ _ _ _ us hl=>by obtain ⟨_,_,_,_,_,rfl⟩:=qt7 us hl;rfl):Cal P w K mg base k n ps sp:=qsE X G (ok (qrq l e q)) ((qrq l e q).binds b) q a
section
variable {P:Program} {w:World} {mg:Str→Option Value} {base h:Heap} (X:(hp w.params).In h) (G:h.Ns mainGlobals mg) (B:Bl (hp w.params) mg)
include X G B
theorem qbs:qa9 P w (hp w.params) mg base:=qa6 (f:=22) (c:=21) (pm:=mo0) X G fun F=>qfW F B
theorem qpJ:qlY P w (hp w.params) mg base:=qa6 (f:=29) (c:=28) (pm:=mo0) X G fun F=>qoH F B
theorem qmB:qiy P w (hp w.params) mg base:=qa6 (f:=36) (c:=35) (pm:=mo0) X G fun F=>qk9 F B
theorem qdu:qcw P w (hp w.params) mg base:=qa6 (f:=55) (c:=54) (pm:=mo0) X G fun F=>qh4 F B
theorem qkj:qgi P w (hp w.params) mg base:=qa6 (f:=60) (c:=59) (pm:=mo0) X G fun F=>qjg F B
theorem qhD:qeO P w (hp w.params) mg base:=qa6 (f:=67) (c:=66) (pm:=mo0) X G fun F=>qkf F B
theorem qhE:qeP P w (hp w.params) mg base:=qa6 (f:=72) (c:=71) (pm:=mo0) X G fun F=>qkg F B
theorem qfZ:qef P w (hp w.params) mg base:=qa6 (f:=79) (c:=78) (pm:=mo0) X G fun F=>qla F B
theorem qhF:qd5 P w (hp w.params) mg base:=qa6 (f:=86) (c:=85) (pm:=mo0) X G fun F=>qgy F B
theorem qhG:qd6 P w (hp w.params) mg base:=qa6 (f:=93) (c:=92) (pm:=mo0) X G fun F=>qgz F B
theorem qdJ:qcr P w (hp w.params) mg base:=qa6 (f:=129) (c:=128) (pm:=mo0) X G fun F=>qfX F B
theorem qes:qc8 P w (hp w.params) mg base:=qa6 (f:=134) (c:=133) (pm:=mo0) X G fun F=>qhy F B
theorem qkk:qhv P w (hp w.params) mg base:=qa6 (f:=186) (c:=185) (pm:=mo0) X G fun F=>qmx F B
theorem qpK:ql0 P w (hp w.params) mg base:=qa6 (f:=234) (c:=233) (pm:=mo4) X G fun F=>qoJ F B
theorem qjk:qgN P w (hp w.params) mg base:=qa6 (f:=241) (c:=240) (pm:=mo4) X G fun F=>qoK F B
theorem qf0:qeh P w (hp w.params) mg base:=qa6 (f:=248) (c:=247) (pm:=mo4) X G fun F=>qlc F B
theorem qjl:qfA P w (hp w.params) mg base:=qa6 (f:=255) (c:=254) (pm:=mo4) X G fun F=>qh7 F B
theorem qoL:qkd P w (hp w.params) mg base:=qa6 (f:=267) (c:=266) (pm:=mo4) X G fun F=>qmz F B
theorem qmC:qiz P w (hp w.params) mg base:=qa6 (f:=288) (c:=287) (pm:=mo4) X G fun F=>qld F B
theorem qmD:qiA P w (hp w.params) mg base:=qa6 (f:=293) (c:=292) (pm:=mo4) X G fun F=>qle F B
theorem qjm:qfy P w (hp w.params) mg base:=qa6 (f:=43) (c:=42) (pm:=mo0) X G fun F=>qh3 F B (qmB X G B)
theorem qoM:qkb P w (hp w.params) mg base:=qa6 (f:=48) (c:=47) (pm:=mo0) X G fun F=>qmw F B (qbs X G B)
theorem qf1:qeg P w (hp w.params) mg base:=qa6 (f:=98) (c:=97) (pm:=mo0) X G fun F=>qlb F B (qdu X G B)
theorem qc4:qcl P w (hp w.params) mg base:=qa6 (f:=141) (c:=140) (pm:=mo0) X G fun F=>qjh F B (qes X G B) (qdu X G B)
theorem qet:qc9 P w (hp w.params) mg base:=qa6 (f:=146) (c:=145) (pm:=mo0) X G fun F=>qhz F B (qdJ X G B)
theorem qrr:qoG P w (hp w.params) mg base:=qa6 (f:=210) (c:=209) (pm:=mo1) X G fun F=>qpI F B (qbs X G B)
theorem qoN:qkc P w (hp w.params) mg base:=qa6 (f:=215) (c:=214) (pm:=mo2) X G fun F=>qmy F B (qbs X G B)
theorem qhH:qd9 P w (hp w.params) mg base:=qa6 (f:=227) (c:=226) (pm:=mo3) X G fun F=>qgD F B (qes X G B) (qhE X G B) (qhF X G B)
theorem qlf:qhw P w (hp w.params) mg base:=qa6 (f:=260) (c:=259) (pm:=mo4) X G fun F=>qkh F B (qf0 X G B)
theorem qoO:qke P w (hp w.params) mg base:=qa6 (f:=274) (c:=273) (pm:=mo4) X G fun F=>qmA F B (qjk X G B) (qf0 X G B)
theorem qlg:qhx P w (hp w.params) mg base:=qa6 (f:=281) (c:=280) (pm:=mo4) X G fun F=>qki F B (qjk X G B)
theorem qh8:qer P w (hp w.params) mg base:=qa6 (f:=298) (c:=297) (pm:=mo4) X G fun F=>qhC F B (qmD X G B) (qoL X G B) (qf0 X G B) (qmC X G B)
theorem qc5:qbX P w (hp w.params) mg base:=qa6 (f:=108) (c:=107) (pm:=mo0) X G fun F=>qeQ F B (qoM X G B) (qkj X G B)
theorem qda:qb6 P w (hp w.params) mg base:=qa6 (f:=153) (c:=152) (pm:=mo0) X G fun F=>qhA F B (qdu X G B) (qc4 X G B)
theorem qjn:qfz P w (hp w.params) mg base:=qa6 (f:=103) (c:=102) (pm:=mo0) X G fun F=>qh5 F B (qbs X G B) (qf1 X G B) (qc5 X G B)
theorem qcO:qbY P w (hp w.params) mg base:=qa6 (f:=115) (c:=114) (pm:=mo0) X G fun F=>qgA F B (qc5 X G B)
theorem qdv:qcx P w (hp w.params) mg base:=qa6 (f:=160) (c:=159) (pm:=mo0) X G fun F=>qh6 F B (qda X G B)
theorem qhI:qd7 P w (hp w.params) mg base:=qa6 (f:=122) (c:=121) (pm:=mo0) X G fun F=>qgB F B (qjn X G B)
theorem qhJ:qd8 P w (hp w.params) mg base:=qa6 (f:=167) (c:=166) (pm:=mo0) X G fun F=>qgC F B (qc4 X G B) (qet X G B) (qdv X G B)
theorem qh9:qeq P w (hp w.params) mg base:=qa6 (f:=172) (c:=171) (pm:=mo0) X G fun F=>qhB F B (qdv X G B) (qdJ X G B) (qc4 X G B) (qda X G B) (qhD X G B) (qf1 X G B)
theorem qpL:qlZ P w (hp w.params) mg base:=qa6 (f:=179) (c:=178) (pm:=mo0) X G fun F=>qoI F B (qet X G B) (qda X G B) (qh9 X G B) (qdv X G B) (qhD X G B) (qf1 X G B) (qc4 X G B)
theorem qf2:qdj P w (hp w.params) mg base:=qa6 (f:=191) (c:=190) (pm:=mo0) X G fun F=>qfB F B (qbs X G B) (qhJ X G B) (qkk X G B) (qcO X G B) (qfZ X G B)
theorem qkl:qgj P w (hp w.params) mg base:=qa6 (f:=198) (c:=197) (pm:=mo0) X G fun F=>qji F B (qcO X G B) (qpJ X G B) (qf2 X G B) (qhI X G B)
theorem qkm:qgk P w (hp w.params) mg base:=qa6 (f:=203) (c:=202) (pm:=mo0) X G fun F=>qjj F B (qcO X G B) (qhE X G B) (qkl X G B) (qfZ X G B)
theorem qgE:qdI P w (hp w.params) mg base:=qa6 (f:=220) (c:=219) (pm:=mo3) X G fun F=>qfY F B (qoN X G B) (qkm X G B) (qhH X G B) (qjm X G B) (qhG X G B) (qpL X G B) (qkk X G B) (qrr X G B) (qfZ X G B)
end
theorem all_mk {l:PySem.W.OpenLaw} {w:World} {h:Heap} {mg:Str→Option Value} {fa:Addr} (X:(hp w.params).In h) (G:h.Ns mainGlobals mg) (hfa:mg "law" = some (.ref fa))
    : ∃ fd:FuncData,(∀ (s:Shared) (v:Value),BindsTo s fd ⟨[v],[]⟩ [("_law_script", v)])∧∀ base:Heap,(hp w.params).In base→base.Ns mainGlobals mg→FnOk l.prog w (hp w.params) mg base CX0 10 fa fd ["_law_script"] (qjS (hp w.params)):=by
  have e:=hfa.symm.trans (PySem.W.mg_of X G (n := "law") (v:=.ref 305) (by kernel_rfl))
  cases e
  have qEXPONENTS:qb1 (hp w.params)=15:=by kernel_rfl
  have xEXPONENTS:∀ H:Hp,SqT (hp w.params) H (qb1 (hp w.params)) (exps.map fun e:Nat=>V.int (e:Int)):=fun H=>.inr ⟨_,_,_,(show (hp w.params).lookup (qb1 (hp w.params))=some ⟨.type "tuple", none,.seq #[(.int 61 189),(.int 127 190),(.int 521 191),(.int 1279 192),(.int 4423 193),(.int 9941 194),(.int 21701 195),(.int 44497 196)] 0,#[]⟩ by rw [qEXPONENTS];kernel_rfl),rfl,rfl,by show 8≤sizeLine;rw [sizeLine_eq];decide,.cons ⟨_,rfl⟩ (.cons ⟨_,rfl⟩ (.cons ⟨_,rfl⟩ (.cons ⟨_,rfl⟩ (.cons ⟨_,rfl⟩ (.cons ⟨_,rfl⟩ (.cons ⟨_,rfl⟩ (.cons ⟨_,rfl⟩ (.nil))))))))⟩
  have B:Bl (hp w.params) mg:=⟨PySem.W.mg_none_of X G (by kernel_rfl),PySem.W.mg_none_of X G (by kernel_rfl),PySem.W.mg_none_of X G (by kernel_rfl),PySem.W.mg_none_of X G (by kernel_rfl),PySem.W.mg_none_of X G (by kernel_rfl),PySem.W.mg_none_of X G (by kernel_rfl),PySem.W.mg_none_of X G (by kernel_rfl),PySem.W.mg_none_of X G (by kernel_rfl),PySem.W.mg_none_of X G (by kernel_rfl),PySem.W.mg_none_of X G (by kernel_rfl),by rw [qEXPONENTS];exact PySem.W.mg_of X G (by kernel_rfl),PySem.W.mg_none_of X G (by kernel_rfl),PySem.W.mg_none_of X G (by kernel_rfl),PySem.W.mg_none_of X G (by kernel_rfl),PySem.W.mg_none_of X G (by kernel_rfl),xEXPONENTS⟩
  have FL:=qrq (K:=hp w.params) (st:=qna) (f:=305) (c:=304) (n := "law") (pm:=mo4) (by kernel_rfl) (by kernel_rfl) (by kernel_rfl)
  refine ⟨PySem.W.fnOf "law" "law" (qc7 qna) (qcm qna) (qa4 qna) .none .none .none mo4 none (.ref 304) .none,fun s v=>.of_eq rfl,fun base _ _=>?_⟩
  exact qsD FL B (qpK X G B) (qjk X G B) (qlg X G B) (qjl X G B) (qoO X G B) (qlf X G B) (qgE X G B) (qh8 X G B)
theorem walk {l:PySem.W.OpenLaw} {q:Program} {loose:List Str} {XP:(Str→Option Value)→Heap→Prop} {YP:World→Heap→Prop} {d:DefRec} {K:Params→W.Frag} (hn:l.most=some 63) (hdf:d.params.defaults=[]) (hq:importsNone q=true) (ht:∀ w,(model l.prog w).prog.given.tree=none)
    (hY:∀ (w:World) (h:Heap),YP w h→(K w.params).In h)
    (F:∀ (w:World) (mg:Str→Option Value) (fa:Addr) (h:Heap),(K w.params).In h→h.Ns mainGlobals mg→mg d.name=some (.ref fa)→
      ∃ fd:FuncData,(∀ (s:Shared) (u:Value),BindsTo s fd ⟨[u],[]⟩ [("_law_script", u)])∧∀ base:Heap,(K w.params).In base→base.Ns mainGlobals mg→FnOk l.prog w (K w.params) mg base CX0 10 fa fd ["_law_script"] (qjS (K w.params))) :
    PySem.W.WalkO q loose XP YP l.row.toRowW d [] (fun f vs=>PySem.call f vs):=
  L2.walk_of (n:=63) (k:=10) (x := "_law_script") (CX:=fun _=>CX0) (sp:=fun w=>qjS (K w.params)) hn (by decide) hdf hq ht ⟨rfl,by decide,by decide⟩ hY F (fun _ _ a ns hl _ hS=>⟨a,ns,rfl,hS,hl,fun _=>rfl⟩) fun _ _ _ _ _ z=>z
end Bs
open PySem PySem.W PyProof.Rows
set_option maxRecDepth 100000 in
set_option maxHeartbeats 0 in
theorem PySem.Challenge.cw_backslope_k12_rational_roots_looked_for_holds : PySem.Challenge.rw_backslope_k12_rational_roots_looked_for.Holds := by
  w_on; o_law
  refine PySem.W.holds_open (q := Bs.Hd.vw) (loose := []) (Xt := fun s => PySem.W.xlAt Bs.Hd.vw [] s && PySem.W.recOk (PySem.W.RowW.records (PySem.W.OpenRow.toRowW (PySem.W.OpenLaw.row PySem.Challenge.rw_backslope_k12_rational_roots_looked_for))) s) (XP := PySem.W.XL Bs.Hd.vw []) (Yf := Bs.Hd.hk.obs) (Ya := Bs.Hd.hk.val) (YP := Bs.Hd.hk.says) (N := 3032) Bs.Hd.left Bs.Hd.hk.of Bs.Hd.hk.keeps (fun s e => PySem.W.xl_of s (Bool.and_eq_true_iff.mp e).1) PySem.W.XL.keeps (by rfl) (by rfl) (by rfl) (fun s e => PySem.W.recFacts_of (Bool.and_eq_true_iff.mp e).2) (by rfl) (by first | assumption | decide +kernel) (by decide +kernel) ⟨rfl, rfl, rfl, rfl, rfl, by decide +kernel⟩ ?hw ?hc
  case hw => w_witness2
  case hc => exact Bs.walk (l := PySem.Challenge.rw_backslope_k12_rational_roots_looked_for) (K := Bs.Hd.hp) rfl rfl (by decide +kernel) (fun _ => rfl) (fun w h Y => Y) (fun w mg fa h KX G hmg => Bs.all_mk KX G hmg)
#print axioms PySem.Challenge.cw_backslope_k12_rational_roots_looked_for_holds
