import PyProof.Rows.All
import Wide.All
import OpenK.AllK
import Wide.FinOn
import Lean
import PyProof.EqAt
import PyProof.EqKinds
import PyProof.TupleCall
import PySem.Challenge.RW_backslope_k08_all_solutions
set_option Elab.async false
set_option linter.all false
set_option maxRecDepth 100000
namespace L2
open PySem PySem.Spec PyProof.Rows
noncomputable abbrev Key := Sum Int Str
noncomputable def qot : Key → Value → Bool
  | .inl k, v => Value.isInt k v
  | .inr x, v => Value.isStrOf x v
noncomputable def qqd (w : World) : Key → Int
  | .inl k => hashInt k
  | .inr x => hashStr w x
theorem qaW : ∀ {k : Key} {v : Value}, qot k v = true → (∃ i t, k = Sum.inl i ∧ v = Value.int i t) ∨ (∃ x t, k = Sum.inr x ∧ v = Value.str x t)
  | .inl i, v, h => by
    obtain ⟨t, e⟩ := Value.isInt_shape (k := i) (v := v) h
    exact .inl ⟨i, t, rfl, e⟩
  | .inr x, v, h => by
    obtain ⟨t, e⟩ := Value.isStrOf_shape (x := x) (v := v) h
    exact .inr ⟨x, t, rfl, e⟩
theorem qou (a b : Int) : decide ((Sum.inl a : Key) = Sum.inl b) = (a == b) := by
  by_cases e : a = b
  · subst e; simp
  · have h : ¬ (Sum.inl a : Key) = Sum.inl b := fun q => e (Sum.inl.inj q)
    rw [decide_eq_false h]
    exact (beq_eq_false_iff_ne.mpr e).symm
theorem qov (a b : Str) : decide ((Sum.inr a : Key) = Sum.inr b) = decide (a = b) := by
  by_cases e : a = b
  · subst e; simp
  · have h : ¬ (Sum.inr a : Key) = Sum.inr b := fun q => e (Sum.inr.inj q)
    rw [decide_eq_false h, decide_eq_false e]
theorem qow (a : Int) (b : Str) : decide ((Sum.inl a : Key) = Sum.inr b) = false := decide_eq_false (fun q => nomatch q)
theorem qox (a : Str) (b : Int) : decide ((Sum.inr a : Key) = Sum.inl b) = false := decide_eq_false (fun q => nomatch q)
noncomputable def qiu (prog : Program) (w : World) : PySem.KeyKind prog w Key where
  is := qot
  hash := qqd w
  inj := fun v a b ha hb => by
    rcases qaW ha with ⟨i, t, rfl, rfl⟩ | ⟨x, t, rfl, rfl⟩
    · rcases qaW hb with ⟨j, u, rfl, e⟩ | ⟨y, u, rfl, e⟩
      · injection e with e1 _; rw [e1]
      · exact nomatch e
    · rcases qaW hb with ⟨j, u, rfl, e⟩ | ⟨y, u, rfl, e⟩
      · exact nomatch e
      · injection e with e1 _; rw [e1]
  byValue := fun k v h => by
    rcases qaW h with ⟨i, t, rfl, rfl⟩ | ⟨x, t, rfl, rfl⟩ <;> rfl
  pyHash := fun hv h => by
    rcases qaW hv with ⟨i, t, rfl, rfl⟩ | ⟨x, t, rfl, rfl⟩
    · exact wpAny_pyHash_int h
    · exact wpAny_pyHash_str h
  eqBool := fun hu hv h => by
    rcases qaW hu with ⟨i, t, rfl, rfl⟩ | ⟨x, t, rfl, rfl⟩
    · rcases qaW hv with ⟨j, u, rfl, rfl⟩ | ⟨y, u, rfl, rfl⟩
      · rw [qou] at h; exact wpAny_eqBool_int h
      · rw [qow] at h; exact SeqAt.EqAt.int_str i t y u _ _ _ _ h
    · rcases qaW hv with ⟨j, u, rfl, rfl⟩ | ⟨y, u, rfl, rfl⟩
      · rw [qox] at h; exact SeqAt.EqAt.str_int x t j u _ _ _ _ h
      · rw [qov] at h; exact wpAny_eqBool_str h
  «strs» := fun k x t v h => by
    rcases qaW h with ⟨i, u, rfl, e⟩ | ⟨y, u, rfl, e⟩
    · exact nomatch e
    · injection e with e1 _
      subst e1
      cases v <;> rfl
end L2
namespace L2
open PySem PySem.Spec PyProof.Rows
inductive V where
  | non | bl (b : Bool) | int (i : Int) | str (x : Str) | byt (b : Array UInt8) | flt (b : UInt64) | ref (a : Addr) | ty (n : String)
  deriving DecidableEq
noncomputable def RelV : V → Value → Prop
  | .non, u => u = Value.none
  | .bl b, u => u = Value.bool b
  | .int i, u => ∃ t, u = Value.int i t
  | .str x, u => ∃ t, u = Value.str x t
  | .byt b, u => ∃ t, u = Value.bytes b t
  | .flt b, u => ∃ t, u = Value.float b t
  | .ref a, u => u = Value.ref a
  | .ty n, u => u = Value.type n
noncomputable abbrev Vals : List V → List Value → Prop := Paired RelV
theorem Vals.length {xs : List V} {us : List Value} (r : Vals xs us) : xs.length = us.length := Paired.length r
theorem Vals.get : ∀ {xs : List V} {us : List Value} {i : Nat} {x : V}, Vals xs us → xs[i]? = some x → ∃ u, us[i]? = some u ∧ RelV x u
  | _, _, _, _, .nil, e => by simp at e
  | _, _, 0, _, .cons r _, e => by simp at e; subst e; exact ⟨_, rfl, r⟩
  | _, _, i + 1, x, .cons _ t, e => by
    obtain ⟨u, h1, h2⟩ := Vals.get (i := i) (x := x) t (by simpa using e)
    exact ⟨u, by simpa using h1, h2⟩
theorem Vals.set {x : V} {u : Value} (r : RelV x u) : ∀ {xs : List V} {us : List Value} (i : Nat), Vals xs us → Vals (xs.set i x) (us.set i u)
  | _, _, _, .nil => .nil
  | _, _, 0, .cons _ t => .cons r t
  | _, _, i + 1, .cons q t => .cons q (Vals.set r i t)
theorem Vals.append : ∀ {xs ys : List V} {us ws : List Value}, Vals xs us → Vals ys ws → Vals (xs ++ ys) (us ++ ws)
  | _, _, _, _, .nil, s => s
  | _, _, _, _, .cons r t, s => .cons r (Vals.append t s)
theorem Vals.take : ∀ {xs : List V} {us : List Value} (n : Nat), Vals xs us → Vals (xs.take n) (us.take n)
  | _, _, 0, _ => .nil
  | _, _, _ + 1, .nil => .nil
  | _, _, n + 1, .cons r t => .cons r (Vals.take n t)
theorem Vals.drop : ∀ {xs : List V} {us : List Value} (n : Nat), Vals xs us → Vals (xs.drop n) (us.drop n)
  | _, _, 0, r => r
  | _, _, _ + 1, .nil => .nil
  | _, _, n + 1, .cons _ t => Vals.drop n t
noncomputable def RelO : Option V → Option Value → Prop
  | some v, some u => RelV v u
  | none, none => True
  | _, _ => False
noncomputable def KV {κ : Type} : List (κ × V) → List (κ × Value) → Prop := Paired fun (p : κ × V) (q : κ × Value) => p.1 = q.1 ∧ RelV p.2 q.2
noncomputable def kV : Key → V
  | .inl i => .int i
  | .inr x => .str x
inductive HO where

  | lst (xs : List V)

  | tup (xs : List V)

  | dK (kvs : List (Key × V)) | dT (kvs : List (List Key × V))

  | set (S : Int → Bool) (n : Nat)

  | ins (C dx : Addr) (fs : List (Str × V))

  | own (x : Addr)

  | xd (fs : List (Str × V))

  | met (f x : Addr)

  | rng (lo hi : Int)

  | frz (o : Obj) (u : HO)

  | tbl (ps : Array Value)

  | ext (φ : Heap → Prop)
noncomputable abbrev Hp := Addr → Option HO
noncomputable def upd (H : Hp) (a : Addr) (o : HO) : Hp := fun b => if b = a then some o else H b
theorem qac {H : Hp} {a : Addr} {o : HO} : upd H a o a = some o := by unfold upd; rw [if_pos rfl]
theorem qav {H : Hp} {a b : Addr} {o : HO} (h : b ≠ a) : upd H a o b = H b := by unfold upd; rw [if_neg h]
theorem qkx {H : Hp} {a : Addr} {o u : HO} : upd (upd H a o) a u = upd H a u := by
  funext b; unfold upd; split <;> rfl
theorem qiv {H : Hp} {a b : Addr} {o u : HO} (h : H a = some o) (h' : H b = some u) (d : o ≠ u) : a ≠ b := by
  intro e; subst e; rw [h] at h'; exact d (Option.some.inj h')
theorem qaj {H : Hp} {a b : Addr} {o : HO} (h : H a = some o) (h' : H b = none) : a ≠ b := by
  intro e; subst e; rw [h] at h'; cases h'
section
variable (P : Program) (w : World)
noncomputable def ObjOk (H : Hp) (h : Heap) (a : Addr) : HO → Prop
  | .lst xs => xs.length ≤ sizeLine ∧ ∃ (its : List Value) (n : Nat), Vals xs its ∧ h.get? a = some { cls := .type "list", data := .seq its.toArray n }
  | .tup xs => xs.length ≤ sizeLine ∧ ∃ its : List Value, Vals xs its ∧ IsTup h a its.toArray
  | .dK kvs => kvs.length ≤ sizeLine ∧ (a == sysModules) = false ∧ ∃ vs, KV kvs vs ∧ h.DictOf (qiu P w) a vs
  | .dT kvs => kvs.length ≤ sizeLine ∧ (a == sysModules) = false ∧ ∃ xs : List (List Key × Addr × Value),
      Paired (fun (p : List Key × V) (q : List Key × Addr × Value) => p.1 = q.1 ∧ H q.2.1 = some (.tup (p.1.map kV)) ∧ RelV p.2 q.2.2) kvs xs ∧
      ∃ o es ep, h.get? a = some o ∧ o.ExactDict ∧ o.data = .dict es ep ∧ es.toList = xs.map (entryOfKey (tupleKind (qiu P w))) ∧ (xs.map (·.1)).Nodup
  | .set S n => h.SetOf (intKind P w) a S n
  | .ins C dx fs => H dx = some (.own a) ∧ fs.length ≤ 1000 ∧ dx ≠ a ∧ h.get? a = some (PySem.W.instObj C dx) ∧
      ∃ mA, h.Ns1 dx mA ∧ (∀ f, RelO (fs.lookup f) (mA f)) ∧ PySem.Within mA (fs.map (·.1))
  | .own _ => ∃ o, h.get? a = some o
  | .xd fs => ∃ mA, h.Ns1 a mA ∧ ∀ f, RelO (fs.lookup f) (mA f)
  | .rng lo hi => ∃ t u v, h.get? a = some { cls := .type "range", data := .fields #[.int lo t, .int hi u, .int 1 v] }
  | .frz o u => h.get? a = some o ∧ ObjOk H h a u
  | .tbl ps => h.get? a = some { cls := .none, data := .fields ps }
  | .met f x => h.get? a = some (PySem.W.methodObj (.ref f) (.ref x))
  | .ext φ => φ h ∧ (∃ o, h.get? a = some o) ∧ ∀ h1 h2 : Heap, φ h1 → (∀ o, h1.get? a = some o → h2.get? a = some o) → φ h2
noncomputable def HOk (H : Hp) (h : Heap) : Prop := ∀ a o, H a = some o → ObjOk P w H h a o
end
section
variable {P : Program} {w : World} {H H' : Hp} {h h' : Heap} {a : Addr} {o : HO}
theorem ObjOk.lt (x : ObjOk P w H h a o) : a < h.objs.size := by
  cases o with
  | lst xs => obtain ⟨_, _, _, _, e⟩ := x; exact Heap.lt_size e
  | tup xs => obtain ⟨_, _, _, p⟩ := x; exact p.lt
  | dK kvs => obtain ⟨_, _, _, _, o, _, _, e, _⟩ := x; exact Heap.lt_size e
  | dT kvs => obtain ⟨_, _, _, _, o, _, _, e, _⟩ := x; exact Heap.lt_size e
  | set S n => obtain ⟨o, _, _, _, e, _⟩ := x; exact Heap.lt_size e
  | ins C dx fs => obtain ⟨_, _, _, e, _⟩ := x; exact Heap.lt_size e
  | own y => obtain ⟨_, e⟩ := x; exact Heap.lt_size e
  | xd fs => obtain ⟨_, ⟨_, _, _, e, _⟩, _⟩ := x; exact Heap.lt_size e
  | rng lo hi => obtain ⟨_, _, _, e⟩ := x; exact Heap.lt_size e
  | frz ob u => obtain ⟨e, _⟩ := x; exact Heap.lt_size e
  | tbl ps => exact Heap.lt_size (show h.get? a = some _ from x)
  | met f y => exact Heap.lt_size (show h.get? a = some _ from x)
  | ext φ => obtain ⟨_, ⟨_, e⟩, _⟩ := x; exact Heap.lt_size e
theorem Paired.mapP {α β : Type} {F G : α → β → Prop} : ∀ {l₁ : List α} {l₂ : List β}, Paired F l₁ l₂ → (∀ a b, F a b → G a b) → Paired G l₁ l₂
  | _, _, .nil, _ => .nil
  | _, _, .cons r t, f => .cons (f _ _ r) (Paired.mapP t f)
theorem ObjOk.stay (x : ObjOk P w H h a o) (k : ∀ b u, (b = a ∨ H b = some (.own a)) → h.get? b = some u → h'.get? b = some u)
    (ho : ∀ b, H b = some (.own a) → H' b = some (.own a)) (ht : ∀ b xs, H b = some (.tup xs) → H' b = some (.tup xs)) : ObjOk P w H' h' a o := by
  induction o with
  | lst xs => obtain ⟨z, its, n, r, e⟩ := x; exact ⟨z, its, n, r, k _ _ (.inl rfl) e⟩
  | tup xs => obtain ⟨z, its, r, ob, e, c⟩ := x; exact ⟨z, its, r, ob, k _ _ (.inl rfl) e, c⟩
  | dK kvs => obtain ⟨z, y, vs, r, ob, es, ep, e, c⟩ := x; exact ⟨z, y, vs, r, ob, es, ep, k _ _ (.inl rfl) e, c⟩
  | dT kvs =>
    obtain ⟨z, y, xs, r, ob, es, ep, e, c⟩ := x
    exact ⟨z, y, xs, Paired.mapP r fun p q z => ⟨z.1, ht _ _ z.2.1, z.2.2⟩, ob, es, ep, k _ _ (.inl rfl) e, c⟩
  | set S n => obtain ⟨ob, es, ep, t, e, c⟩ := x; exact ⟨ob, es, ep, t, k _ _ (.inl rfl) e, c⟩
  | ins C dx fs =>
    obtain ⟨d, z, ne, e, mA, ⟨od, es, ep, e2, c⟩, r⟩ := x
    exact ⟨ho _ d, z, ne, k _ _ (.inl rfl) e, mA, ⟨od, es, ep, k _ _ (.inr d) e2, c⟩, r⟩
  | own y => obtain ⟨ob, e⟩ := x; exact ⟨ob, k _ _ (.inl rfl) e⟩
  | xd fs => obtain ⟨mA, ⟨od, es, ep, e, c⟩, r⟩ := x; exact ⟨mA, ⟨od, es, ep, k _ _ (.inl rfl) e, c⟩, r⟩
  | rng lo hi => obtain ⟨t, u, v, e⟩ := x; exact ⟨t, u, v, k _ _ (.inl rfl) e⟩
  | frz ob u ih => obtain ⟨e, q⟩ := x; exact ⟨k _ _ (.inl rfl) e, ih q⟩
  | tbl ps =>
    have e : h.get? a = some { cls := .none, data := .fields ps } := x
    show h'.get? a = some { cls := .none, data := .fields ps }
    exact k a _ (.inl rfl) e
  | met f y =>
    have e : h.get? a = some (PySem.W.methodObj (.ref f) (.ref y)) := x
    show h'.get? a = some (PySem.W.methodObj (.ref f) (.ref y))
    exact k a _ (.inl rfl) e
  | ext φ => obtain ⟨p, ⟨o, e⟩, st⟩ := x; exact ⟨st _ _ p fun o q => k _ _ (.inl rfl) q, ⟨o, k _ _ (.inl rfl) e⟩, st⟩
theorem HOk.lt (x : HOk P w H h) (e : H a = some o) : a < h.objs.size := (x a o e).lt
theorem HOk.fresh (x : HOk P w H h) (e : h.objs.size ≤ a) : H a = none := by
  cases q : H a with
  | none => rfl
  | some u => exact absurd (Nat.lt_of_lt_of_le (x.lt q) e) (Nat.lt_irrefl _)
theorem HOk.kept (x : HOk P w H h) (k : ∀ b u, h.get? b = some u → h'.get? b = some u) : HOk P w H h' := fun a o e =>
  (x a o e).stay (fun b u _ q => k b u q) (fun _ q => q) fun _ _ q => q
theorem HOk.laid (x : HOk P w H h) (k : ∀ b u, h.get? b = some u → h'.get? b = some u) (hp : h.objs.size ≤ a) (new : ObjOk P w (upd H a o) h' a o) : HOk P w (upd H a o) h' := fun b u e => by
  have hn := x.fresh hp
  by_cases hb : b = a
  · subst hb; rw [qac] at e; cases e; exact new
  · rw [qav hb] at e
    exact (x b u e).stay (fun c v _ q => k c v q) (fun c q => by rw [qav (qaj q hn)]; exact q) fun c xs q => by rw [qav (qaj q hn)]; exact q
end
noncomputable def Rd (H : Hp) (a : Addr) (u : HO) : Prop := H a = some u ∨ ∃ o, H a = some (.frz o u)
theorem Rd.ok {P : Program} {w : World} {H : Hp} {h : Heap} {a : Addr} {u : HO} (r : Rd H a u) (x : HOk P w H h) : ObjOk P w H h a u := by
  rcases r with r | ⟨o, r⟩
  · exact x a u r
  · obtain ⟨_, q⟩ := x a _ r
    exact q
noncomputable def Mut : Option HO → Prop
  | some (.lst _) => True
  | some (.dK _) => True
  | some (.dT _) => True
  | some (.set _ _) => True
  | some (.ins _ _ _) => True
  | some (.ext _) => True
  | _ => False
section
variable {P : Program} {w : World} {H : Hp} {h h' : Heap} {x e : Addr} {o' : HO}
theorem HOk.write (ok : HOk P w H h) (mu : Mut (H x)) (he : e = x ∨ H e = some (.own x)) (k : ∀ b u, b ≠ e → h.get? b = some u → h'.get? b = some u) (heo : ∃ u, h'.get? e = some u)
    (new : ObjOk P w (upd H x o') h' x o') : HOk P w (upd H x o') h' := fun b u q => by
  have nown : ∀ c y, H c = some (.own y) → c ≠ x := fun c y r z => by subst z; rw [r] at mu; exact mu
  have ntup : ∀ c xs, H c = some (.tup xs) → c ≠ x := fun c xs r z => by subst z; rw [r] at mu; exact mu
  by_cases hb : b = x
  · subst hb; rw [qac] at q; cases q; exact new
  · rw [qav hb] at q
    by_cases hbe : b = e
    · have q' : H b = some (.own x) := by
        rcases he with z | z
        · exact absurd (hbe.trans z) hb
        · rw [hbe]; exact z
      rw [q] at q'; cases q'
      obtain ⟨v, hv⟩ := heo
      exact ⟨v, by rw [hbe]; exact hv⟩
    · refine (ok b u q).stay (fun c v hc r => k c v ?_ r) (fun c r => by rw [qav (nown c b r)]; exact r) fun c xs r => by rw [qav (ntup c xs r)]; exact r
      rcases hc with rfl | hc
      · exact hbe
      · rintro rfl
        rcases he with z | z
        · exact nown c b hc z
        · rw [hc] at z; cases z; exact hb rfl
end
structure Un (fs ex : List Addr) (H H' : Hp) (h h' : Heap) : Prop where
  keep : ∀ b o, h.get? b = some o → H b = none → b ∉ fs → b ∉ ex → h'.get? b = some o
  slot : ∀ b o, h.get? b = some o → H b = none → b ∈ fs → b ∉ ex → ∃ sl, h'.get? b = some { o with slots := sl }
  free : ∀ b o, h.get? b = some o → H b = none → b ∉ ex → H' b = none
  there : ∀ b o, h.get? b = some o → b ∉ ex → ∃ o', h'.get? b = some o'
  tups : ∀ b xs, H b = some (.tup xs) → H' b = some (.tup xs)
  frzs : ∀ b o u, H b = some (.frz o u) → H' b = some (.frz o u)
  tbls : ∀ b ps, H b = some (.tbl ps) → ∃ more, H' b = some (.tbl (ps ++ more))
section
variable {fs fs' ex ex' : List Addr} {H H1 H2 : Hp} {h h1 h2 h' : Heap} {a x e : Addr} {o : HO}
theorem Un.any (u : Un fs ex H H1 h h1) {b : Addr} {ob : Obj} (q : h.get? b = some ob) (n : H b = none) (hx : b ∉ ex) : ∃ sl, h1.get? b = some { ob with slots := sl } := by
  by_cases hb : b ∈ fs
  · exact u.slot b ob q n hb hx
  · exact ⟨ob.slots, u.keep b ob q n hb hx⟩
theorem Un.kept (k : ∀ b u, h.get? b = some u → h'.get? b = some u) : Un fs ex H H h h' :=
  ⟨fun b ob q _ _ _ => k b ob q, fun b ob q _ _ _ => ⟨ob.slots, k b ob q⟩, fun _ _ _ n _ => n, fun b ob q _ => ⟨ob, k b ob q⟩, fun _ _ q => q, fun _ _ _ q => q, fun _ ps q => ⟨#[], by rw [q]; simp⟩⟩
theorem Un.refl : Un fs ex H H h h := Un.kept fun _ _ q => q
theorem Un.laid (k : ∀ b u, h.get? b = some u → h'.get? b = some u) (hp : h.objs.size ≤ a) (hn : H a = none) : Un fs ex H (upd H a o) h h' where
  keep := fun b u q _ _ _ => k b u q
  slot := fun b u q _ _ _ => ⟨u.slots, k b u q⟩
  free := fun b u q n _ => by rw [qav (Nat.ne_of_lt (Nat.lt_of_lt_of_le (Heap.lt_size q) hp))]; exact n
  there := fun b u q _ => ⟨u, k b u q⟩
  tups := fun b xs q => by rw [qav (qaj q hn)]; exact q
  frzs := fun b u xs q => by rw [qav (qaj q hn)]; exact q
  tbls := fun b ps q => ⟨#[], by rw [qav (qaj q hn), q]; simp⟩
theorem Un.write (mu : Mut (H x)) (he : e = x ∨ H e = some (.own x)) (k : ∀ b u, b ≠ e → h.get? b = some u → h'.get? b = some u) (heo : ∃ u, h'.get? e = some u) : Un fs ex H (upd H x o) h h' := by
  have hx : ∀ b, H b = none → b ≠ x := fun b n z => by subst z; rw [n] at mu; exact mu
  have hb : ∀ b, H b = none → b ≠ e := fun b n z => by
    subst z
    rcases he with r | r
    · exact hx b n r
    · rw [n] at r; cases r
  have hm : ∀ b u, H b = some u → ¬ Mut (some u) → b ≠ x := fun b u q nm z => by subst z; rw [q] at mu; exact nm mu
  refine ⟨fun b u q n _ _ => k b u (hb b n) q, fun b u q n _ _ => ⟨u.slots, k b u (hb b n) q⟩, fun b u q n _ => by rw [qav (hx b n)]; exact n, fun b u q _ => ?_,
    fun b xs q => by rw [qav (hm b _ q fun z => z)]; exact q, fun b u xs q => by rw [qav (hm b _ q fun z => z)]; exact q, fun b ps q => ⟨#[], by rw [qav (hm b _ q fun z => z), q]; simp⟩⟩
  by_cases hbe : b = e
  · subst hbe; exact heo
  · exact ⟨u, k b u hbe q⟩
end
noncomputable def trk (h : Heap) (H : Hp) : List Addr := (List.range h.objs.size).filter fun a => (H a).isSome
noncomputable def qma (h : Heap) (H : Hp) : Heap := PySem.W.hideAll h (trk h H)
theorem qky (h : Heap) (H : Hp) : (qma h H).objs.size = h.objs.size := PySem.W.hideAll_size _ _
theorem qmd {h : Heap} {H : Hp} {b : Addr} {o : Obj} (e : h.get? b = some o) (n : H b = none) : (qma h H).get? b = some o :=
  PySem.W.hideAll_get _ e fun hm => by
    have q : (H b).isSome = true := (List.mem_filter.mp hm).2
    rw [n] at q; simp at q
theorem qnu {h : Heap} {H : Hp} {b : Addr} {o : Obj} (e : (qma h H).get? b = some o) : h.get? b = some o ∧ H b = none := by
  have e' : h.get? b = some o := PySem.W.of_hideAll (trk h H) e
  refine ⟨e', ?_⟩
  cases q : H b with
  | none => rfl
  | some x =>
    have hm : b ∈ trk h H := List.mem_filter.mpr ⟨List.mem_range.mpr (Heap.lt_size e'), by simp [q]⟩
    have z : (qma h H).get? b = none := PySem.W.hideAll_none (trk h H) hm
    rw [z] at e; cases e
noncomputable def qnv (g h : Heap) (L : Addr) : List (Addr × Obj) := (List.range h.objs.size).filterMap fun a => if a = L ∨ (g.get? a).isSome = true then none else (h.get? a).map fun o => (a, o)
noncomputable def rest (g h : Heap) (L d : Addr) : List (Addr × Obj) := (qnv g h L).filter fun p => decide (p.1 ≠ d)
end L2
namespace L2
open PySem PySem.Spec PyProof.Rows
structure Mod (K : PySem.W.Frag) (mg : Str → Option Value) (base : Heap) : Prop where
  kin : K.In base
  glob : base.Ns mainGlobals mg
  blt : ∃ mb, base.Ns builtinsNs mb ∧ ∀ x : Str, x ≠ "__name__" → mb x = bootBuiltins x
  nolimit : base.NoLimit
structure Cx where
  prog : Program
  w : World
  K : PySem.W.Frag
  mg : Str → Option Value
  base : Heap
  A : Around
  N : List Str
  s₀ : Shared
  H₀ : Hp
  env : Env
  outer : List Env
  stack : List Env
  ex : List Addr
  fn : Str → Bool
  calm : Bool
  pn : List (Addr × Obj)
  xe : Value → Shared → Prop
noncomputable def frs (l : List Env) : List Addr := l.filterMap (·.frame)
noncomputable abbrev Cx.fs (X : Cx) : List Addr := frs X.outer
noncomputable def Vis (sc : Scope) (x : Str) : Prop := sc.names.lookup x = some .local ∨ sc.names.lookup x = some .cell ∨ sc.names.lookup x = some .free
noncomputable def Loc (sc : Scope) (x : Str) : Prop := sc.names.lookup x = some .local ∨ sc.names.lookup x = some .cell
noncomputable def Look (env : Env) (h : Heap) (m : Str → Option Value) (x : Str) (u : Value) : Prop :=
  (env.kindOf x = some .local ∧ m x = some u) ∨ ((env.kindOf x = some .cell ∨ env.kindOf x = some .free) ∧ ∃ c, env.cells.lookup x = some c ∧ h.IsCell c (some u))
structure Cx.Ok (X : Cx) : Prop where
  mod : Mod X.K X.mg X.base
  kind : X.env.scope.kind = .function
  glob : X.env.globals = mainGlobals
  blt : X.env.builtins = builtinsNs
  above : X.s₀.heap.objs.size ≤ X.env.locals
  inj : ∀ x y c, X.env.cells.lookup x = some c → X.env.cells.lookup y = some c → x = y
  has : ∀ x, (X.env.kindOf x = some .cell ∨ X.env.kindOf x = some .free) → ∃ c, X.env.cells.lookup x = some c
  cab : ∀ x c, X.fn x = true → X.env.cells.lookup x = some c → X.s₀.heap.objs.size ≤ c
  hd : X.calm = true → X.A.handled = none
  frames : X.A.frames = some X.stack
  stk : X.stack = X.outer ∨ (X.stack = X.env :: X.outer ∧ X.env.frame = some X.env.locals)
  exf : ∀ b ∈ X.ex, b ≠ X.env.locals ∧ ∀ x c, X.env.cells.lookup x = some c → c ≠ b
  bs : ∀ b o, X.base.get? b = some o → X.s₀.heap.get? b = some o ∧ X.H₀ b = none
  bsz : X.base.objs.size ≤ X.s₀.heap.objs.size
  noex : ∀ b o, X.base.get? b = some o → b ∉ X.ex
  exfs : ∀ b ∈ X.ex, b ∉ X.fs
  funs : X.s₀.heap.FunFrames X.base X.outer
  frf : ∀ b ∈ X.fs, X.H₀ b = none
  seer : X.base.NoSeer
  tree : (model X.prog X.w).prog.given.tree = none
  plr : ∀ s : Shared, (∀ b o, X.base.get? b = some o → s.heap.get? b = some o) → PySem.PylongRoom (model X.prog X.w) X.A s
structure Inv (X : Cx) (pins : List (Addr × Obj)) (σ : List (Option V)) (H : Hp) (s : Shared) : Prop where
  ok : X.Ok
  os : s.os = X.s₀.os
  bare : AllBare s.gens
  base : Un X.fs X.ex X.H₀ H X.s₀.heap s.heap
  loc : ∃ m, s.heap.Ns X.env.locals m ∧ ∀ (i : Nat) (x : Str) (v : V), X.N[i]? = some x → σ[i]? = some (some v) → Vis X.env.scope x → ∃ u, RelV v u ∧ Look X.env s.heap m x u
  cell : ∀ x c, X.env.cells.lookup x = some c → ∃ v, s.heap.IsCell c v
  free : H X.env.locals = none
  freeC : ∀ x c, X.env.cells.lookup x = some c → H c = none
  pin : ∀ p ∈ X.pn ++ pins, s.heap.get? p.1 = some p.2 ∧ H p.1 = none ∧ p.1 ≠ X.env.locals ∧ p.1 ∉ X.fs ∧ ∀ v, p.2.data ≠ .cell v
  hok : HOk X.prog X.w H s.heap
  len : σ.length = X.N.length
section
variable {X : Cx} {pins : List (Addr × Obj)} {σ : List (Option V)} {H H' : Hp} {s : Shared} {h' : Heap}
theorem Cx.Ok.nofr (ok : X.Ok) {b : Addr} {o : Obj} (e : X.base.get? b = some o) : b ∉ X.fs := fun hb => by
  have := (ok.funs.mem hb).1
  rw [e] at this; cases this
theorem Inv.bs (I : Inv X pins σ H s) : ∀ b o, X.base.get? b = some o → s.heap.get? b = some o ∧ H b = none := fun b o e =>
  ⟨I.base.keep b o (I.ok.bs b o e).1 (I.ok.bs b o e).2 (I.ok.nofr e) (I.ok.noex b o e), I.base.free b o (I.ok.bs b o e).1 (I.ok.bs b o e).2 (I.ok.noex b o e)⟩
theorem Inv.bk (I : Inv X pins σ H s) : ∀ b o, X.base.get? b = some o → s.heap.get? b = some o := fun b o e => (I.bs b o e).1
theorem Inv.mod (I : Inv X pins σ H s) : Mod X.K X.mg X.base := I.ok.mod
theorem Inv.kIn (I : Inv X pins σ H s) : X.K.In s.heap := I.ok.mod.kin.keeps I.bk
theorem Inv.lt (I : Inv X pins σ H s) : X.env.locals < s.heap.objs.size := let ⟨_, hn, _⟩ := I.loc; hn.lt
theorem Inv.sz (I : Inv X pins σ H s) : X.s₀.heap.objs.size ≤ s.heap.objs.size := Nat.le_trans I.ok.above (Nat.le_of_lt I.lt)
theorem Inv.nofs (I : Inv X pins σ H s) {a : Addr} (h : s.heap.objs.size ≤ a) : a ∉ X.fs := fun hb => by
  obtain ⟨_, o, ho, _⟩ := I.ok.funs.mem hb
  exact absurd (Nat.lt_of_lt_of_le (Heap.lt_size ho) (Nat.le_trans I.sz h)) (Nat.lt_irrefl _)
theorem Inv.cne (I : Inv X pins σ H s) : ∀ x c, X.env.cells.lookup x = some c → c ≠ X.env.locals := fun x c e z => by
  obtain ⟨v, o, ho, hd⟩ := I.cell x c e
  obtain ⟨m, ⟨o', es, ep, ho', hd', _⟩, _⟩ := I.loc
  rw [z, ho'] at ho; cases ho; rw [hd'] at hd; cases hd
theorem Inv.funs (I : Inv X pins σ H s) : s.heap.FunFrames X.base X.outer := by
  have all : ∀ (l : List Env), (∀ b ∈ frs l, b ∈ X.fs) → X.s₀.heap.FunFrames X.base l → s.heap.FunFrames X.base l := by
    intro l
    induction l with
    | nil => intro _ _; trivial
    | cons env r ih =>
      intro hs hl
      obtain ⟨hk, ⟨L, o, hf, hn, ho, hd⟩, hr⟩ := hl
      have hL : L ∈ X.fs := hs L (by unfold frs; rw [List.filterMap_cons, hf]; exact List.mem_cons_self)
      obtain ⟨sl, e⟩ := I.base.slot L o ho (I.ok.frf L hL) hL fun z => I.ok.exfs L z hL
      exact ⟨hk, ⟨L, _, hf, hn, e, hd⟩, ih (fun b hb => hs b (by unfold frs; rw [List.filterMap_cons, hf]; exact List.mem_cons_of_mem _ hb)) hr⟩
  exact all X.outer (fun _ hb => hb) I.ok.funs
theorem Inv.stack (I : Inv X pins σ H s) : s.heap.FunFrames X.base X.stack := by
  rcases I.ok.stk with e | ⟨e, hf⟩
  · rw [e]; exact I.funs
  · rw [e]
    obtain ⟨m, hn, _⟩ := I.loc
    refine .cons (by rw [I.ok.kind]; decide) hf hn ?_ I.funs
    exact Heap.get?_none_of_le (Nat.le_trans I.ok.bsz I.ok.above)
theorem Inv.stkSub (I : Inv X pins σ H s) : ∀ b ∈ frs X.stack, b ∈ X.env.locals :: X.fs := fun b hb => by
  rcases I.ok.stk with e | ⟨e, hf⟩
  · rw [e] at hb; exact List.mem_cons_of_mem _ hb
  · rw [e] at hb
    unfold frs at hb
    rw [List.filterMap_cons, hf] at hb
    exact hb
theorem Inv.stkFree (I : Inv X pins σ H s) : ∀ b ∈ frs X.stack, H b = none := fun b hb => by
  rcases List.mem_cons.mp (I.stkSub b hb) with e | hb
  · rw [e]; exact I.free
  · obtain ⟨_, o, ho, _⟩ := I.ok.funs.mem hb
    exact I.base.free b o ho (I.ok.frf b hb) fun z => I.ok.exfs b z hb
theorem Inv.step {g' : Array GenState} {t' : Nat} {d' : Drawn} {ch : List Addr} (I : Inv X pins σ H s)
    (hch : ∀ b ∈ ch, (b ∈ X.ex ∨ X.s₀.heap.objs.size ≤ b) ∧ b ≠ X.env.locals ∧ (∀ x c, X.env.cells.lookup x = some c → c ≠ b) ∧ ∀ p ∈ X.pn ++ pins, p.1 ≠ b)
    (keep : ∀ b o, b ≠ X.env.locals → b ∉ X.fs → b ∉ ch → s.heap.get? b = some o → H b = none → h'.get? b = some o)
    (slot : ∀ b o, b ≠ X.env.locals → b ∈ X.fs → b ∉ ch → s.heap.get? b = some o → H b = none → ∃ sl, h'.get? b = some { o with slots := sl }) (free : ∀ b o, b ∉ ch → s.heap.get? b = some o → H b = none → H' b = none)
    (there : ∀ b o, b ∉ ch → s.heap.get? b = some o → ∃ o', h'.get? b = some o')
    (tups : ∀ b xs, H b = some (.tup xs) → H' b = some (.tup xs)) (frzs : ∀ b o u, H b = some (.frz o u) → H' b = some (.frz o u)) (tbls : ∀ b ps, H b = some (.tbl ps) → ∃ more, H' b = some (.tbl (ps ++ more)))
    (ns : ∀ m, s.heap.Ns X.env.locals m → h'.Ns X.env.locals m) (hok : HOk X.prog X.w H' h') (hg : AllBare g') :
    Inv X pins σ H' { s with heap := h', gens := g', drawn := d', toks := t' } := by
  have neL : ∀ b o, X.s₀.heap.get? b = some o → b ≠ X.env.locals := fun b o e => Nat.ne_of_lt (Nat.lt_of_lt_of_le (Heap.lt_size e) I.ok.above)
  have neC : ∀ b o, X.s₀.heap.get? b = some o → b ∉ X.ex → b ∉ ch := fun b o e hx hb => by
    rcases (hch b hb).1 with z | z
    · exact hx z
    · exact absurd (Nat.lt_of_lt_of_le (Heap.lt_size e) z) (Nat.lt_irrefl _)
  have cellK : ∀ x c, X.env.cells.lookup x = some c → ∀ v, s.heap.IsCell c v → h'.IsCell c v := fun x c e v ⟨o, ho, hd⟩ => by
    have nch : c ∉ ch := fun z => (hch c z).2.2.1 x c e rfl
    by_cases hc : c ∈ X.fs
    · obtain ⟨sl, q⟩ := slot c o (I.cne x c e) hc nch ho (I.freeC x c e)
      exact ⟨_, q, hd⟩
    · exact ⟨o, keep c o (I.cne x c e) hc nch ho (I.freeC x c e), hd⟩
  refine ⟨I.ok, I.os, hg, ⟨fun b o e n hb hx => ?_, fun b o e n hb hx => ?_, fun b o e n hx => ?_, fun b o e hx => ?_, fun b xs e => tups b xs (I.base.tups b xs e), fun b o xs e => frzs b o xs (I.base.frzs b o xs e), fun b ps e => ?_⟩, ?_, fun x c e => ?_, ?_, fun x c e => ?_, fun p hp => ?_, hok, I.len⟩
  · exact keep b o (neL b o e) hb (neC b o e hx) (I.base.keep b o e n hb hx) (I.base.free b o e n hx)
  · obtain ⟨sl, e1⟩ := I.base.slot b o e n hb hx
    obtain ⟨sl', e2⟩ := slot b _ (neL b o e) hb (neC b o e hx) e1 (I.base.free b o e n hx)
    exact ⟨sl', e2⟩
  · obtain ⟨o', e1⟩ := I.base.there b o e hx
    exact free b o' (neC b o e hx) e1 (I.base.free b o e n hx)
  · obtain ⟨o', e1⟩ := I.base.there b o e hx
    exact there b o' (neC b o e hx) e1
  · obtain ⟨m1, e1⟩ := I.base.tbls b ps e
    obtain ⟨m2, e2⟩ := tbls b _ e1
    exact ⟨m1 ++ m2, by rw [e2, Array.append_assoc]⟩
  · obtain ⟨m, hn, hl⟩ := I.loc
    refine ⟨m, ns m hn, fun i x v e1 e2 e3 => ?_⟩
    obtain ⟨u, r, l⟩ := hl i x v e1 e2 e3
    refine ⟨u, r, ?_⟩
    rcases l with l | ⟨k, c, e, z⟩
    · exact .inl l
    · exact .inr ⟨k, c, e, cellK x c e _ z⟩
  · obtain ⟨v, z⟩ := I.cell x c e
    exact ⟨v, cellK x c e v z⟩
  · obtain ⟨m, ⟨o, _, _, ho, _⟩, _⟩ := I.loc
    exact free _ o (fun z => (hch _ z).2.1 rfl) ho I.free
  · obtain ⟨v, o, ho, hd⟩ := I.cell x c e
    exact free c o (fun z => (hch c z).2.2.1 x c e rfl) ho (I.freeC x c e)
  · obtain ⟨e, n, ne, nf, d⟩ := I.pin p hp
    have nch : p.1 ∉ ch := fun z => (hch p.1 z).2.2.2 p hp rfl
    exact ⟨keep p.1 p.2 ne nf nch e n, free p.1 p.2 nch e n, ne, nf, d⟩
theorem Inv.un {t' : Nat} (I : Inv X pins σ H s) (u : Un X.fs [] H H' s.heap h') (hok : HOk X.prog X.w H' h') : Inv X pins σ H' { s with heap := h', toks := t' } := by
  obtain ⟨m, ⟨o, es, ep, ho, r⟩, _⟩ := id I.loc
  obtain ⟨sl, hL⟩ := u.any ho I.free (by simp)
  exact I.step (g' := s.gens) (d' := s.drawn) (ch := []) (fun _ z => nomatch z) (fun b o _ hb _ e n => u.keep b o e n hb (by simp)) (fun b o _ hb _ e n => u.slot b o e n hb (by simp)) (fun b o _ e n => u.free b o e n (by simp)) (fun b o _ e => u.there b o e (by simp)) u.tups u.frzs u.tbls (fun m' hm => by
    obtain ⟨o', es', ep', ho', r'⟩ := hm
    rw [ho] at ho'; cases ho'
    exact ⟨_, es', ep', hL, r'⟩) hok I.bare
theorem Inv.call {g' : Array GenState} {t' : Nat} {d' : Drawn} {ch : List Addr} (I : Inv X pins σ H s) (u : Un (frs X.stack) ch H H' s.heap h') (hok : HOk X.prog X.w H' h') (hg : AllBare g')
    (hch : ∀ b ∈ ch, (b ∈ X.ex ∨ X.s₀.heap.objs.size ≤ b) ∧ b ≠ X.env.locals ∧ (∀ x c, X.env.cells.lookup x = some c → c ≠ b) ∧ ∀ p ∈ X.pn ++ pins, p.1 ≠ b) :
    Inv X pins σ H' { s with heap := h', gens := g', drawn := d', toks := t' } := by
  obtain ⟨m, ⟨o, es, ep, ho, r⟩, _⟩ := id I.loc
  obtain ⟨sl, hL⟩ := u.any ho I.free fun z => (hch _ z).2.1 rfl
  exact I.step (ch := ch) hch (fun b o hL hb hc e n => u.keep b o e n (fun z => (List.mem_cons.mp (I.stkSub b z)).elim hL hb) hc) (fun b o _ _ hc e n => u.any e n hc) (fun b o hc e n => u.free b o e n hc) (fun b o hc e => u.there b o e hc) u.tups u.frzs u.tbls (fun m' hm => by
    obtain ⟨o', es', ep', ho', r'⟩ := hm
    rw [ho] at ho'; cases ho'
    exact ⟨_, es', ep', hL, r'⟩) hok hg
theorem Inv.turned {t' : Nat} {it : Addr} (I : Inv X pins σ H s) (k : ∀ b o, b ≠ it → s.heap.get? b = some o → h'.get? b = some o) (hn : H it = none) (hL : it ≠ X.env.locals)
    (h1 : it ∈ X.ex ∨ X.s₀.heap.objs.size ≤ it) (h2 : ∀ x c, X.env.cells.lookup x = some c → c ≠ it) (h3 : ∀ p ∈ X.pn ++ pins, p.1 ≠ it) : Inv X pins σ H { s with heap := h', toks := t' } := by
  have nit : ∀ b u, H b = some u → b ≠ it := fun b u e z => by rw [z, hn] at e; cases e
  refine I.step (g' := s.gens) (d' := s.drawn) (ch := [it]) (fun b hb => ?_) (fun b o _ _ hc e _ => k b o (fun z => hc (by simp [z])) e) (fun b o _ _ hc e _ => ⟨o.slots, k b o (fun z => hc (by simp [z])) e⟩) (fun _ _ _ _ n => n)
    (fun b o hc e => ⟨o, k b o (fun z => hc (by simp [z])) e⟩) (fun _ _ e => e) (fun _ _ _ e => e) (fun b ps e => ⟨#[], by rw [e]; simp⟩) (fun m hm => ?_) (fun b u e => ?_) I.bare
  · have e : b = it := by simpa using hb
    subst e
    exact ⟨h1, hL, h2, h3⟩
  · obtain ⟨o, es, ep, ho, r⟩ := hm
    exact ⟨o, es, ep, k _ o (Ne.symm hL) ho, r⟩
  · refine (I.hok b u e).stay (fun c v hc q => k c v ?_ q) (fun _ q => q) fun _ _ q => q
    rcases hc with z | z
    · rw [z]; exact nit b u e
    · exact nit c _ z
theorem Inv.tok (I : Inv X pins σ H s) (t : Nat) : Inv X pins σ H { s with toks := t } := I.un (h' := s.heap) (t' := t) Un.refl I.hok
theorem Inv.kept {t' : Nat} (I : Inv X pins σ H s) (k : ∀ b u, s.heap.get? b = some u → h'.get? b = some u) : Inv X pins σ H { s with heap := h', toks := t' } := I.un (Un.kept k) (I.hok.kept k)
theorem Inv.laid {a : Addr} {o : HO} {t' : Nat} (I : Inv X pins σ H s) (k : ∀ b u, s.heap.get? b = some u → h'.get? b = some u) (hp : s.heap.objs.size ≤ a) (new : ObjOk X.prog X.w (upd H a o) h' a o) :
    Inv X pins σ (upd H a o) { s with heap := h', toks := t' } := I.un (Un.laid k hp (I.hok.fresh hp)) (I.hok.laid k hp new)
theorem Inv.write {x e : Addr} {o : HO} {t' : Nat} (I : Inv X pins σ H s) (mu : Mut (H x)) (he : e = x ∨ H e = some (.own x)) (k : ∀ b u, b ≠ e → s.heap.get? b = some u → h'.get? b = some u) (heo : ∃ u, h'.get? e = some u)
    (new : ObjOk X.prog X.w (upd H x o) h' x o) : Inv X pins σ (upd H x o) { s with heap := h', toks := t' } := I.un (Un.write mu he k heo) (I.hok.write mu he k heo new)
theorem Inv.pins_of {pins' : List (Addr × Obj)} (I : Inv X pins σ H s) (h : ∀ p ∈ pins', s.heap.get? p.1 = some p.2 ∧ H p.1 = none ∧ p.1 ≠ X.env.locals ∧ p.1 ∉ X.fs ∧ ∀ v, p.2.data ≠ .cell v) : Inv X pins' σ H s :=
  ⟨I.ok, I.os, I.bare, I.base, I.loc, I.cell, I.free, I.freeC, fun p hp => (List.mem_append.mp hp).elim (fun z => I.pin p (List.mem_append_left _ z)) (h p), I.hok, I.len⟩
theorem qi1 {N : List Str} (hN : N.Nodup) {i j : Nat} {x : Str} (a : N[i]? = some x) (b : N[j]? = some x) : i = j := by
  obtain ⟨h1, e1⟩ := List.getElem?_eq_some_iff.mp a
  obtain ⟨h2, e2⟩ := List.getElem?_eq_some_iff.mp b
  exact (List.getElem_inj hN).mp (e1.trans e2.symm)
theorem qhN {M : Model} {A : Around} {E : Value → Shared → Prop} {i : Nat} {x : Str} {v : V} {u : Value} {Q : Unit → Shared → Prop} (I : Inv X pins σ H s) (hN : X.N.Nodup) (hi : X.N[i]? = some x) (hx : Loc X.env.scope x) (r : RelV v u)
    (h : ∀ s', Inv X pins (σ.set i (some v)) H s' → (∃ a, Heap.SameBut a s.heap s'.heap ∧ (a = X.env.locals ∨ X.env.cells.lookup x = some a)) → Q () s') (hf : X.fn x = true ∨ X.env.scope.names.lookup x = some .local := by first | exact .inl rfl | exact .inr rfl | assumption) : wpAny M A (storeName X.env x u) Q E s := by
  obtain ⟨m, hn, hl⟩ := id I.loc
  have hcls : (X.env.scope.kind == .class || (X.env.scope.kind == .module && X.env.locals != X.env.globals)) = false := by rw [I.ok.kind]; rfl
  have hiσ : i < σ.length := by rw [I.len]; exact (List.getElem?_eq_some_iff.mp hi).1
  have cne := I.cne
  have tracked : ∀ {a : Addr} {h' : Heap}, (∃ o, s.heap.get? a = some o ∧ H a = none) → Heap.SameBut a s.heap h' → HOk X.prog X.w H h' := fun {a h'} ha hs b ob e => by
    obtain ⟨_, _, hfree⟩ := ha
    refine (I.hok b ob e).stay (fun c w' hc q => (hs.2 c ?_).trans q) (fun _ q => q) fun _ _ q => q
    rintro rfl
    rcases hc with rfl | hc
    · rw [hfree] at e; cases e
    · rw [hfree] at hc; cases hc
  rcases hx with hk | hk
  · refine wpAny_storeName_local hk hn (fun h' hn' hs => ?_) hcls
    obtain ⟨oL, _, _, hoL, _⟩ := id hn
    refine h _ ⟨I.ok, I.os, I.bare, ⟨fun b o e n hb hx => ?_, fun b o e n hb hx => ?_, I.base.free, fun b o e hx => ?_, I.base.tups, I.base.frzs, I.base.tbls⟩, ⟨_, hn', fun j y v' e1 e2 e3 => ?_⟩, fun y c e => ?_, I.free, I.freeC, fun p hp => ?_, tracked ⟨oL, hoL, I.free⟩ hs, by simpa using I.len⟩ ⟨_, hs, .inl rfl⟩
    · exact (hs.2 b (Nat.ne_of_lt (Nat.lt_of_lt_of_le (Heap.lt_size e) I.ok.above))).trans (I.base.keep b o e n hb hx)
    · obtain ⟨sl, e1⟩ := I.base.slot b o e n hb hx
      exact ⟨sl, (hs.2 b (Nat.ne_of_lt (Nat.lt_of_lt_of_le (Heap.lt_size e) I.ok.above))).trans e1⟩
    · obtain ⟨o', e1⟩ := I.base.there b o e hx
      exact ⟨o', (hs.2 b (Nat.ne_of_lt (Nat.lt_of_lt_of_le (Heap.lt_size e) I.ok.above))).trans e1⟩
    · by_cases hj : j = i
      · subst hj
        rw [hi] at e1; cases e1
        rw [List.getElem?_set_self hiσ] at e2
        cases e2
        exact ⟨u, r, .inl ⟨hk, by simp⟩⟩
      · rw [List.getElem?_set_ne (Ne.symm hj)] at e2
        obtain ⟨u', r', q⟩ := hl j y v' e1 e2 e3
        refine ⟨u', r', ?_⟩
        rcases q with ⟨k, e⟩ | ⟨k, c, e, z⟩
        · refine .inl ⟨k, ?_⟩
          have : y ≠ x := fun e => hj (qi1 hN e1 (e ▸ hi))
          simp [this, e]
        · exact .inr ⟨k, c, e, z.sameBut hs (cne y c e)⟩
    · obtain ⟨w', z⟩ := I.cell y c e
      exact ⟨w', z.sameBut hs (cne y c e)⟩
    · obtain ⟨e, n, ne, nf, d⟩ := I.pin p hp
      exact ⟨(hs.2 p.1 ne).trans e, n, ne, nf, d⟩
  · have hfn : X.fn x = true := by
      rcases hf with z | z
      · exact z
      · rw [z] at hk; cases hk
    obtain ⟨c, hc⟩ := I.ok.has x (.inl hk)
    obtain ⟨w', z⟩ := I.cell x c hc
    refine wpAny_storeName_cell I.ok.kind hk hc z (fun h' hc' hs => ?_)
    obtain ⟨oc, hoc, hocd⟩ := id z
    refine h { s with heap := h' } ⟨I.ok, I.os, I.bare, ⟨fun b o e n hb hx => ?_, fun b o e n hb hx => ?_, I.base.free, fun b o e hx => ?_, I.base.tups, I.base.frzs, I.base.tbls⟩, ⟨m, hn.sameBut hs (Ne.symm (cne x c hc)), fun j y v' e1 e2 e3 => ?_⟩, fun y c' e => ?_, I.free, I.freeC, fun p hp => ?_, tracked ⟨oc, hoc, I.freeC x c hc⟩ hs, by simpa using I.len⟩ ⟨c, hs, .inr hc⟩
    · exact (hs.2 b (Nat.ne_of_lt (Nat.lt_of_lt_of_le (Heap.lt_size e) (I.ok.cab x c hfn hc)))).trans (I.base.keep b o e n hb hx)
    · obtain ⟨sl, e1⟩ := I.base.slot b o e n hb hx
      exact ⟨sl, (hs.2 b (Nat.ne_of_lt (Nat.lt_of_lt_of_le (Heap.lt_size e) (I.ok.cab x c hfn hc)))).trans e1⟩
    · obtain ⟨o', e1⟩ := I.base.there b o e hx
      exact ⟨o', (hs.2 b (Nat.ne_of_lt (Nat.lt_of_lt_of_le (Heap.lt_size e) (I.ok.cab x c hfn hc)))).trans e1⟩
    · by_cases hj : j = i
      · subst hj
        rw [hi] at e1; cases e1
        rw [List.getElem?_set_self hiσ] at e2
        cases e2
        exact ⟨u, r, .inr ⟨.inl hk, c, hc, hc'⟩⟩
      · rw [List.getElem?_set_ne (Ne.symm hj)] at e2
        obtain ⟨u', r', q⟩ := hl j y v' e1 e2 e3
        refine ⟨u', r', ?_⟩
        rcases q with q | ⟨k, c', e, z'⟩
        · exact .inl q
        · refine .inr ⟨k, c', e, z'.sameBut hs ?_⟩
          rintro rfl
          exact hj (qi1 hN e1 (I.ok.inj _ _ _ e hc ▸ hi))
    · by_cases hcc : c' = c
      · subst hcc; exact ⟨_, hc'⟩
      · obtain ⟨w2, z2⟩ := I.cell y c' e
        exact ⟨w2, z2.sameBut hs hcc⟩
    · obtain ⟨e, n, ne, nf, d⟩ := I.pin p hp
      refine ⟨(hs.2 p.1 ?_).trans e, n, ne, nf, d⟩
      intro q
      rw [q, hoc] at e
      have q' : oc = p.2 := Option.some.inj e
      exact d w' (by rw [← q']; exact hocd)
theorem qeb {M : Model} {A : Around} {E : Value → Shared → Prop} {i : Nat} {x : Str} {v : V} {u : Value} {Q : Unit → Shared → Prop} (I : Inv X pins σ H s) (hN : X.N.Nodup) (hi : X.N[i]? = some x) (hx : Loc X.env.scope x) (r : RelV v u)
    (h : ∀ s', Inv X pins (σ.set i (some v)) H s' → Q () s') (hf : X.fn x = true ∨ X.env.scope.names.lookup x = some .local := by first | exact .inl rfl | exact .inr rfl | assumption) : wpAny M A (storeName X.env x u) Q E s :=
  qhN I hN hi hx r (fun s' I' _ => h s' I') hf
theorem Inv.call' {s' : Shared} {ch : List Addr} (I : Inv X pins σ H s) (ho : s'.os = s.os) (u : Un (frs X.stack) ch H H' s.heap s'.heap) (hok : HOk X.prog X.w H' s'.heap) (hg : AllBare s'.gens)
    (hch : ∀ b ∈ ch, (b ∈ X.ex ∨ X.s₀.heap.objs.size ≤ b) ∧ b ≠ X.env.locals ∧ (∀ x c, X.env.cells.lookup x = some c → c ≠ b) ∧ ∀ p ∈ X.pn ++ pins, p.1 ≠ b) : Inv X pins σ H' s' := by
  obtain ⟨h', g', d', t', o'⟩ := s'
  have e : o' = s.os := ho
  subst e
  exact I.call (g' := g') (t' := t') (d' := d') u hok hg hch
end
noncomputable abbrev XK := Value → Option Addr → Hp → Prop
noncomputable abbrev St := List (Option V)
noncomputable abbrev VK := V → Hp → Prop
noncomputable abbrev TE := St → Hp → VK → Prop
noncomputable abbrev TT := St → Hp → (Bool → Hp → Prop) → Prop
noncomputable abbrev TA := St → Hp → (List V → Hp → Prop) → Prop
structure Ends where
  nx : St → Hp → Prop
  rt : VK
  bk : St → Hp → Prop := fun _ _ => False
  ct : St → Hp → Prop := fun _ _ => False
noncomputable abbrev TS := Ends → St → Hp → Prop
noncomputable def EP (X : Cx) (pins : List (Addr × Obj)) (σ : St) (Q : VK) (u : Value) (s' : Shared) : Prop := ∃ v H', Inv X pins σ H' s' ∧ RelV v u ∧ Q v H'
noncomputable def TP (X : Cx) (pins : List (Addr × Obj)) (σ : St) (Q : Bool → Hp → Prop) (b : Bool) (s' : Shared) : Prop := ∃ H', Inv X pins σ H' s' ∧ Q b H'
noncomputable def AP (X : Cx) (pins : List (Addr × Obj)) (σ : St) (Q : List V → Hp → Prop) (us : List Value) (s' : Shared) : Prop := ∃ vs H', Inv X pins σ H' s' ∧ Vals vs us ∧ Q vs H'
noncomputable def SP (X : Cx) (pins : List (Addr × Obj)) (D : Ends) (f : Flow) (s' : Shared) : Prop :=
  match f with
  | .next => ∃ σ' H', Inv X pins σ' H' s' ∧ D.nx σ' H'
  | .brk => ∃ σ' H', Inv X pins σ' H' s' ∧ D.bk σ' H'
  | .cont => ∃ σ' H', Inv X pins σ' H' s' ∧ D.ct σ' H'
  | .ret u => ∃ v σ' H', Inv X pins σ' H' s' ∧ RelV v u ∧ D.rt v H'
noncomputable def PE (X : Cx) (e : Expr) (t : TE) : Prop :=
  ∀ (pins : List (Addr × Obj)) (s : Shared) (σ : St) (H : Hp) (Q : VK), Inv X pins σ H s → t σ H Q → wpAny (model X.prog X.w) X.A (eval e X.env) (EP X pins σ Q) X.xe s
noncomputable def PT (X : Cx) (e : Expr) (t : TT) : Prop :=
  ∀ (pins : List (Addr × Obj)) (s : Shared) (σ : St) (H : Hp) (Q : Bool → Hp → Prop), Inv X pins σ H s → t σ H Q → wpAny (model X.prog X.w) X.A (isTrue e X.env (eval e X.env)) (TP X pins σ Q) X.xe s
noncomputable def PW (X : Cx) (e : Expr) (t : TT) : Prop :=
  ∀ (whole : Sem Value) (pins : List (Addr × Obj)) (s : Shared) (σ : St) (H : Hp) (Q : Bool → Hp → Prop), Inv X pins σ H s → t σ H Q → wpAny (model X.prog X.w) X.A (isTrue e X.env whole) (TP X pins σ Q) X.xe s
theorem PW.pt {X : Cx} {e : Expr} {t : TT} (h : PW X e t) : PT X e t := h _
noncomputable def PA (X : Cx) (es : List Expr) (t : TA) : Prop :=
  ∀ (pos : Pos) (pins : List (Addr × Obj)) (s : Shared) (σ : St) (H : Hp) (Q : List V → Hp → Prop), Inv X pins σ H s → t σ H Q → wpAny (model X.prog X.w) X.A (spliced (backTo pos (starEach es X.env))) (AP X pins σ Q) X.xe s
noncomputable def PS (X : Cx) (st : Stmt) (t : TS) : Prop :=
  ∀ (pins : List (Addr × Obj)) (s : Shared) (σ : St) (H : Hp) (D : Ends), Inv X pins σ H s → t D σ H → wpAny (model X.prog X.w) X.A (exec st X.env) (SP X pins D) X.xe s
noncomputable def PSs (X : Cx) (st : List Stmt) (t : TS) : Prop :=
  ∀ (pins : List (Addr × Obj)) (s : Shared) (σ : St) (H : Hp) (D : Ends), Inv X pins σ H s → t D σ H → wpAny (model X.prog X.w) X.A (execs st X.env) (SP X pins D) X.xe s
theorem thn {α : Type} {t : Sem α} {Q Q' : α → Shared → Prop} {M : Model} {A : Around} {E : Value → Shared → Prop} {s : Shared} (h : wpAny M A t Q E s) (hQ : ∀ a s, Q a s → Q' a s) : wpAny M A t Q' E s := wpAny_mono h hQ fun _ _ x => x
end L2
namespace L2
open PySem PySem.Spec PyProof.Rows
section
variable {X : Cx}
noncomputable def qah (i : Nat) : TE := fun σ H Q => ∃ v, σ[i]? = some (some v) ∧ Q v H
noncomputable def tC (v : V) : TE := fun _ H Q => Q v H
theorem qoy {i : Nat} {x : Str} {pos : Pos} (hN : X.N[i]? = some x) (hv : Vis X.env.scope x) (hd : (x == ("__debug__" : Str)) = false := by decide) (hcd : (x == ("__classdict__" : Str)) = false := by decide) : PE X (.Name x pos) (qah i) := by
  intro pins s σ H Q I h
  obtain ⟨v, e, h⟩ := h
  obtain ⟨m, hn, hl⟩ := I.loc
  obtain ⟨u, r, l⟩ := hl i x v hN e hv
  have fin : EP X pins σ Q u s := ⟨v, H, I, r, h⟩
  rcases l with ⟨hk, hm⟩ | ⟨hk, c, hc, hcell⟩
  · exact wpAny_Name (wpAny_loadName_local I.ok.kind hk hn hm fin) hd
  · rcases hk with hk | hk
    · exact wpAny_Name (wpAny_loadName_cell I.ok.kind hk hc hcell fin) hd
    · exact wpAny_Name (wpAny_loadName_free I.ok.kind hk hc hcell fin hcd) hd
theorem qal {i j pos} : PE X (.Constant (.int i) j pos) (tC (.int i)) := fun _ _ _ H _ I h => wpAny_Constant_int ⟨.int i, H, I.tok _, ⟨_, rfl⟩, h⟩
theorem qjM {b j pos} : PE X (.Constant (.bool b) j pos) (tC (.bl b)) := fun _ _ _ H _ I h => Constant_bool ⟨.bl b, H, I, rfl, h⟩
theorem qi2 {j pos} : PE X (.Constant .none j pos) (tC .non) := fun _ _ _ H _ I h => Constant_none ⟨.non, H, I, rfl, h⟩
theorem qi3 {x j pos} : PE X (.Constant (.str x) j pos) (tC (.str x)) := fun _ _ _ H _ I h => Calls.Constant_str ⟨.str x, H, I.tok _, ⟨_, rfl⟩, h⟩
noncomputable def Gl (X : Cx) (x : Str) : Prop := X.env.kindOf x = some .globalImplicit
theorem qiw {E : Value → Shared → Prop} {pins : List (Addr × Obj)} {s : Shared} {σ : St} {H : Hp} {x : Str} {u : Value} {pos : Pos} {Q : Value → Shared → Prop} (I : Inv X pins σ H s) (hg : Gl X x) (hm : X.mg x = some u) (h : Q u s)
    (hd : (x == ("__debug__" : Str)) = false := by decide) : wpAny (model X.prog X.w) X.A (eval (.Name x pos) X.env) Q E s :=
  Calls.Name_function_global I.ok.kind hg (Calls.loadGlobal_global (by rw [I.ok.glob]; exact I.mod.glob.keeps I.bk) hm h) hd
theorem qec {E : Value → Shared → Prop} {pins : List (Addr × Obj)} {s : Shared} {σ : St} {H : Hp} {x : Str} {u : Value} {pos : Pos} {Q : Value → Shared → Prop} (I : Inv X pins σ H s) (hg : Gl X x) (hm : X.mg x = none) (hv : bootBuiltins x = some u) (h : Q u s)
    (hn : x ≠ "__name__" := by decide) (hd : (x == ("__debug__" : Str)) = false := by decide) : wpAny (model X.prog X.w) X.A (eval (.Name x pos) X.env) Q E s := by
  obtain ⟨mb, h1, h2⟩ := I.mod.blt
  exact Calls.Name_function_global I.ok.kind hg (Calls.loadGlobal_builtin (by rw [I.ok.glob]; exact I.mod.glob.keeps I.bk) hm (by rw [I.ok.blt]; exact h1.keeps I.bk) ((h2 x hn).trans hv) h) hd
theorem qix {x : Str} {v : V} {u : Value} {pos : Pos} (hg : Gl X x) (hm : X.mg x = some u) (r : RelV v u) (hd : (x == ("__debug__" : Str)) = false := by decide) : PE X (.Name x pos) (tC v) :=
  fun _ _ _ H _ I h => qiw I hg hm ⟨v, H, I, r, h⟩ hd
variable {a b : Expr} {ta tb : TE} {pos : Pos}
noncomputable def tB (t : TE) : TT := fun σ H Q => t σ H fun x H1 => ∃ c, x = .bl c ∧ Q c H1
theorem qgz {e : Expr} {t : TE} (h : PE X e t) (he : ∀ whole, isTrue e X.env whole = (do let v ← whole; standAt e.pos; holding [v] (truthy v)) := by intro _; rfl) : PT X e (tB t) := by
  intro pins s σ H Q I hw
  refine isTrue_plain (thn (h pins s σ H _ I hw) fun v s1 ⟨x, H1, I1, r1, q1⟩ => ?_) (he _)
  obtain ⟨d, rfl, q⟩ := q1
  cases r1
  exact wpAny_truthy_bool ⟨H1, I1, q⟩
variable {tA tB' : TT} {rest : List Expr}
noncomputable def qiy (t u : TT) : TT := fun σ H Q => t σ H fun c H1 => if c = true then u σ H1 Q else Q false H1
noncomputable def tOr (t u : TT) : TT := fun σ H Q => t σ H fun c H1 => if c = true then Q true H1 else u σ H1 Q
noncomputable def qoz (t : TT) : TT := fun σ H Q => t σ H fun c H1 => Q (!c) H1
theorem qeQ (ha : PT X a tA) : PW X (.BoolOp .And [a] pos) tA := by
  intro wh pins s σ H Q I h
  refine isTrue_and (thn (ha pins s σ H Q I h) fun c s1 e => ?_)
  cases c with
  | true => exact isTrue_and_nil e
  | false => exact e
theorem qoA (ha : PT X a tA) : PW X (.BoolOp .Or [a] pos) tA := by
  intro wh pins s σ H Q I h
  refine isTrue_or (thn (ha pins s σ H Q I h) fun c s1 e => ?_)
  cases c with
  | false => exact isTrue_or_nil e
  | true => exact e
theorem qgA (ha : PT X a tA) (hb : PW X (.BoolOp .And (b :: rest) pos) tB') : PW X (.BoolOp .And (a :: b :: rest) pos) (qiy tA tB') := by
  intro wh pins s σ H Q I h
  refine isTrue_and (thn (ha pins s σ H _ I h) fun c s1 ⟨H1, I1, q1⟩ => ?_)
  cases c with
  | true => exact hb wh pins s1 σ H1 Q I1 q1
  | false => exact ⟨H1, I1, q1⟩
theorem qpz (ha : PT X a tA) (hb : PW X (.BoolOp .Or (b :: rest) pos) tB') : PW X (.BoolOp .Or (a :: b :: rest) pos) (tOr tA tB') := by
  intro wh pins s σ H Q I h
  refine isTrue_or (thn (ha pins s σ H _ I h) fun c s1 ⟨H1, I1, q1⟩ => ?_)
  cases c with
  | true => exact ⟨H1, I1, q1⟩
  | false => exact hb wh pins s1 σ H1 Q I1 q1
theorem qm0 (ha : PT X a tA) : PT X (.UnaryOp .Not a pos) (qoz tA) := by
  intro pins s σ H Q I h
  exact isTrue_not (ha pins s σ H (fun c H1 => Q (!c) H1) I h)
noncomputable def qme (ta tb : TE) : TE := fun σ H Q => ta σ H fun x H1 => ∃ c, x = .bl c ∧ if c = true then tb σ H1 Q else Q (.bl false) H1
theorem qoB {op} {t : TE} (h : PE X a t) : PE X (.BoolOp op [a] pos) t := fun pins s σ H Q I hw => BoolOp_one (h pins s σ H Q I hw)
theorem qoC (ha : PE X a ta) (hb : PE X (.BoolOp .And (b :: rest) pos) tb) : PE X (.BoolOp .And (a :: b :: rest) pos) (qme ta tb) := by
  intro pins s σ H Q I h
  refine BoolOp_and (thn (ha pins s σ H _ I h) fun v s1 ⟨x, H1, I1, r1, q1⟩ => ?_)
  obtain ⟨c, rfl, q1⟩ := q1
  cases r1
  refine wpAny_truthy_bool ?_
  cases c with
  | true => exact hb pins s1 σ H1 Q I1 q1
  | false => exact ⟨.bl false, H1, I1, rfl, q1⟩
noncomputable def tIf (t : TT) (ta tb : TE) : TE := fun σ H Q => t σ H fun c H1 => if c = true then ta σ H1 Q else tb σ H1 Q
theorem qfw {c : Expr} (hc : PT X c tA) (ha : PE X a ta) (hb : PE X b tb) : PE X (.IfExp c a b pos) (tIf tA ta tb) := by
  intro pins s σ H Q I h
  refine wpAny_IfExp (thn (hc pins s σ H _ I h) fun d s1 ⟨H1, I1, q1⟩ => ?_)
  cases d with
  | true => exact ha pins s1 σ H1 Q I1 q1
  | false => exact hb pins s1 σ H1 Q I1 q1
end
end L2
namespace L2
open PySem PySem.Spec PyProof.Rows
noncomputable def SqL (K : PySem.W.Frag) (H : Hp) (a : Addr) (xs : List V) : Prop :=
  Rd H a (.lst xs) ∨
    ∃ (o : Obj) (its : Array Value) (n : Nat), K.lookup a = some o ∧ o.cls = .type "list" ∧ o.dict = none ∧ o.data = .seq its n ∧ its.size ≤ sizeLine ∧ Vals xs its.toList
noncomputable def SqT (K : PySem.W.Frag) (H : Hp) (a : Addr) (xs : List V) : Prop :=
  Rd H a (.tup xs) ∨
    ∃ (o : Obj) (its : Array Value) (n : Nat), K.lookup a = some o ∧ o.cls = .type "tuple" ∧ o.data = .seq its n ∧ its.size ≤ sizeLine ∧ Vals xs its.toList
noncomputable def qqe : Value → Option V
  | .none => some .non
  | .bool b => some (.bl b)
  | .int i _ => some (.int i)
  | .str x _ => some (.str x)
  | .bytes b _ => some (.byt b)
  | .float b _ => some (.flt b)
  | .ref a => some (.ref a)
  | .type n => some (.ty n)
  | _ => none
theorem RelV.abs {x : V} {u : Value} (r : RelV x u) : qqe u = some x := by
  cases x with
  | non => cases r; rfl
  | bl _ => cases r; rfl
  | int _ => obtain ⟨t, rfl⟩ := r; rfl
  | str _ => obtain ⟨t, rfl⟩ := r; rfl
  | byt _ => obtain ⟨t, rfl⟩ := r; rfl
  | flt _ => obtain ⟨t, rfl⟩ := r; rfl
  | ref _ => cases r; rfl
  | ty _ => cases r; rfl
theorem RelV.inj {x y : V} {u : Value} (r : RelV x u) (q : RelV y u) : x = y := Option.some.inj (r.abs.symm.trans q.abs)
theorem Vals.inj : ∀ {xs ys : List V} {us : List Value}, Vals xs us → Vals ys us → xs = ys
  | _, _, _, .nil, .nil => rfl
  | _, _, _, .cons r t, .cons r' t' => by rw [r.inj r', Vals.inj t t']
section
variable {X : Cx} {pins : List (Addr × Obj)} {σ : St} {H : Hp} {s : Shared} {a : Addr} {xs ys : List V}
theorem SqL.of {K : PySem.W.Frag} (h : H a = some (.lst xs)) : SqL K H a xs := .inl (.inl h)
theorem SqT.of {K : PySem.W.Frag} (h : H a = some (.tup xs)) : SqT K H a xs := .inl (.inl h)
theorem Inv.list (I : Inv X pins σ H s) (h : SqL X.K H a xs) : ∃ its : List Value, Vals xs its ∧ PlainL s.heap a its.toArray ∧ xs.length ≤ sizeLine := by
  rcases h with h | ⟨o, its, n, hk, hc, hd, hs, hz, r⟩
  · obtain ⟨z, its, n, r, e⟩ := h.ok I.hok
    exact ⟨its, r, ⟨_, n, e, rfl, rfl, rfl⟩, z⟩
  · refine ⟨its.toList, r, ⟨o, n, I.kIn a o hk, hc, hd, by simpa using hs⟩, ?_⟩
    have e := r.length
    simp only [Array.length_toList] at e
    omega
theorem Inv.tuple (I : Inv X pins σ H s) (h : SqT X.K H a xs) : ∃ its : List Value, Vals xs its ∧ IsTup s.heap a its.toArray ∧ xs.length ≤ sizeLine := by
  rcases h with h | ⟨o, its, n, hk, hc, hs, hz, r⟩
  · obtain ⟨z, its, r, p⟩ := h.ok I.hok
    exact ⟨its, r, p, z⟩
  · refine ⟨its.toList, r, ⟨o, I.kIn a o hk, hc, n, by simpa using hs⟩, ?_⟩
    have e := r.length
    simp only [Array.length_toList] at e
    omega
theorem Inv.list_inj (I : Inv X pins σ H s) (h : SqL X.K H a xs) (h' : SqL X.K H a ys) : xs = ys := by
  obtain ⟨its, r, ⟨o, n, e, _, _, d⟩, _⟩ := I.list h
  obtain ⟨its', r', ⟨o', n', e', _, _, d'⟩, _⟩ := I.list h'
  rw [e] at e'; cases e'
  rw [d] at d'
  injection d' with d1 _
  have : its = its' := by simpa using congrArg Array.toList d1
  subst this
  exact r.inj r'
theorem Inv.tuple_inj (I : Inv X pins σ H s) (h : SqT X.K H a xs) (h' : SqT X.K H a ys) : xs = ys := by
  obtain ⟨its, r, ⟨o, e, _, n, d⟩, _⟩ := I.tuple h
  obtain ⟨its', r', ⟨o', e', _, n', d'⟩, _⟩ := I.tuple h'
  rw [e] at e'; cases e'
  rw [d] at d'
  injection d' with d1 _
  have : its = its' := by simpa using congrArg Array.toList d1
  subst this
  exact r.inj r'
end
noncomputable abbrev Cx.wish (X : Cx) (E : Value → Shared → Prop) : Cx := { X with xe := E }
noncomputable abbrev Cx.nox (X : Cx) : Cx := X.wish fun _ _ => False
theorem Cx.Ok.wish {X : Cx} (ok : X.Ok) (E : Value → Shared → Prop) : (X.wish E).Ok :=
  ⟨ok.mod, ok.kind, ok.glob, ok.blt, ok.above, ok.inj, ok.has, ok.cab, ok.hd, ok.frames, ok.stk, ok.exf, ok.bs, ok.bsz, ok.noex, ok.exfs, ok.funs, ok.frf, ok.seer, ok.tree, ok.plr⟩
theorem Cx.Ok.unwish {X : Cx} {E : Value → Shared → Prop} (ok : (X.wish E).Ok) : X.Ok :=
  ⟨ok.mod, ok.kind, ok.glob, ok.blt, ok.above, ok.inj, ok.has, ok.cab, ok.hd, ok.frames, ok.stk, ok.exf, ok.bs, ok.bsz, ok.noex, ok.exfs, ok.funs, ok.frf, ok.seer, ok.tree, ok.plr⟩
section
variable {X : Cx} {pins : List (Addr × Obj)} {σ : St} {H : Hp} {s : Shared} {E : Value → Shared → Prop}
theorem Inv.wish (I : Inv X pins σ H s) (E : Value → Shared → Prop) : Inv (X.wish E) pins σ H s := ⟨I.ok.wish E, I.os, I.bare, I.base, I.loc, I.cell, I.free, I.freeC, I.pin, I.hok, I.len⟩
theorem Inv.unwish (I : Inv (X.wish E) pins σ H s) : Inv X pins σ H s := ⟨I.ok.unwish, I.os, I.bare, I.base, I.loc, I.cell, I.free, I.freeC, I.pin, I.hok, I.len⟩
theorem SP.unwish {D : Ends} {f : Flow} {s' : Shared} (h : SP (X.wish E) pins D f s') : SP X pins D f s' := by
  cases f with
  | next => obtain ⟨σ', H', I, q⟩ := h; exact ⟨σ', H', I.unwish, q⟩
  | brk => obtain ⟨σ', H', I, q⟩ := h; exact ⟨σ', H', I.unwish, q⟩
  | cont => obtain ⟨σ', H', I, q⟩ := h; exact ⟨σ', H', I.unwish, q⟩
  | ret u => obtain ⟨v, σ', H', I, r, q⟩ := h; exact ⟨v, σ', H', I.unwish, r, q⟩
theorem PSs.nox {st : List Stmt} {t : TS} (h : PSs X.nox st t) : PSs X st t := fun pins s σ H D I hw =>
  wpAny_mono (h pins s σ H D (I.wish _) hw) (fun _ _ q => q.unwish) fun _ _ z => False.elim z
end
section
variable {X : Cx} {st : Stmt} {rest : List Stmt} {t u : TS} {e : Expr} {te : TE} {pos : Pos}
noncomputable def qbt : TS := fun D σ H => D.nx σ H
noncomputable def qat (t u : TS) : TS := fun D σ H => t { D with nx := u D } σ H
theorem qaL : PSs X [] qbt := fun _ _ σ H _ I h => wpAny_execs_nil ⟨σ, H, I, h⟩
theorem qaa (h1 : PS X st t) (h2 : PSs X rest u) : PSs X (st :: rest) (qat t u) := by
  intro pins s σ H D I h
  refine wpAny_execs_cons (thn (h1 pins s σ H { D with nx := u D } I h) fun f s1 q => ?_)
  cases f with
  | next =>
    obtain ⟨σ', H', I', q⟩ := q
    exact h2 pins s1 σ' H' D I' q
  | ret v => exact q
  | brk => exact q
  | cont => exact q
theorem qak (h1 : PS X st t) : PSs X [st] t := by
  intro pins s σ H D I h
  refine wpAny_execs_cons (thn (h1 pins s σ H D I h) fun f s1 q => ?_)
  cases f with
  | next => exact wpAny_execs_nil q
  | ret v => exact q
  | brk => exact q
  | cont => exact q
theorem Inv.quiet {pins : List (Addr × Obj)} {σ : St} {H : Hp} {s : Shared} (I : Inv X pins σ H s) : interactive X.env = false := by simp [interactive, I.ok.kind]
noncomputable def qjN (te : TE) : TS := fun D σ H => te σ H fun _ H1 => D.nx σ H1
theorem qhb (he : PE X e te) (hs : swapsWith e none pos.line X.env = pure false := by rfl) : PS X (.Expr e pos) (qjN te) := by
  intro pins s σ H D I h
  exact wpAny_Expr_any (thn (he pins s σ H _ I h) fun v s1 ⟨x, H1, I1, r1, q1⟩ => ⟨σ, H1, I1, q1⟩) I.quiet hs
noncomputable def qbm (te : TE) : TS := fun D σ H => te σ H D.rt
theorem qaw (he : PE X e te) : PS X (.Return (some e) pos) (qbm te) := by
  intro pins s σ H D I h
  exact wpAny_Return_some (thn (he pins s σ H _ I h) fun v s1 ⟨x, H1, I1, r1, q1⟩ => ⟨x, σ, H1, I1, r1, q1⟩)
noncomputable def qeR (c : TT) (t u : TS) : TS := fun D σ H => c σ H fun b H1 => if b = true then t D σ H1 else u D σ H1
theorem qb3 {c : Expr} {a b : List Stmt} {tc : TT} (hc : PT X c tc) (ha : PSs X a t) (hb : PSs X b u) : PS X (.If c a b pos) (qeR tc t u) := by
  intro pins s σ H D I h
  refine wpAny_If (thn (hc pins s σ H _ I h) fun d s1 ⟨H1, I1, q1⟩ => ?_)
  cases d with
  | true => exact ha pins s1 σ H1 D I1 q1
  | false => exact hb pins s1 σ H1 D I1 q1
end
noncomputable abbrev TG := V → St → Hp → (St → Hp → Prop) → Prop
noncomputable abbrev TGs := List V → St → Hp → (St → Hp → Prop) → Prop
noncomputable def PG (X : Cx) (target : Expr) (t : TG) : Prop :=
  ∀ (pins : List (Addr × Obj)) (s : Shared) (σ : St) (H : Hp) (v : V) (u : Value) (Q : St → Hp → Prop), Inv X pins σ H s → RelV v u → t v σ H Q →
    wpAny (model X.prog X.w) X.A (assign target X.env u) (fun _ s' => ∃ σ' H', Inv X pins σ' H' s' ∧ Q σ' H') X.xe s
noncomputable def PGs (X : Cx) (ts : List Expr) (t : TGs) : Prop :=
  ∀ (pins : List (Addr × Obj)) (s : Shared) (σ : St) (H : Hp) (vs : List V) (us : List Value) (Q : St → Hp → Prop), Inv X pins σ H s → Vals vs us → t vs σ H Q →
    wpAny (model X.prog X.w) X.A (assignInOrder ((assignEach ts X.env).map (·.2)) us) (fun _ s' => ∃ σ' H', Inv X pins σ' H' s' ∧ Q σ' H') X.xe s
noncomputable abbrev TSet := V → V → V → Hp → (Hp → Prop) → Prop
noncomputable def PSet (X : Cx) (t : TSet) : Prop :=
  ∀ (pins : List (Addr × Obj)) (s : Shared) (σ : St) (H : Hp) (o i v : V) (ov iv u : Value) (Q : Hp → Prop), Inv X pins σ H s → RelV o ov → RelV i iv → RelV v u → t o i v H Q →
    wpAny (model X.prog X.w) X.A (setItem ov iv u) (fun _ s' => ∃ H', Inv X pins σ H' s' ∧ Q H') X.xe s
noncomputable abbrev TIp := V → V → Hp → VK → Prop
noncomputable def PIp (X : Cx) (op : Operator) (t : TIp) : Prop :=
  ∀ (pins : List (Addr × Obj)) (s : Shared) (σ : St) (H : Hp) (x y : V) (v u : Value) (Q : VK), Inv X pins σ H s → RelV x v → RelV y u → t x y H Q →
    wpAny (model X.prog X.w) X.A (inplaceOp op v u) (EP X pins σ Q) X.xe s
section
variable {X : Cx} {pos : Pos}
noncomputable def qai (i : Nat) : TG := fun v σ H Q => Q (σ.set i (some v)) H
theorem qan {i : Nat} {x : Str} (hN : X.N.Nodup) (hi : X.N[i]? = some x) (hx : Loc X.env.scope x) (hf : X.fn x = true ∨ X.env.scope.names.lookup x = some .local := by first | exact .inl rfl | exact .inr rfl | assumption) : PG X (.Name x pos) (qai i) := by
  intro pins s σ H v u Q I r h
  exact wpAny_assign_Name (qeb I hN hi hx r (fun s' I' => ⟨_, H, I', h⟩) hf)
noncomputable def qhO : TGs := fun vs σ H Q => vs = [] ∧ Q σ H
noncomputable def qba (t : TG) (u : TGs) : TGs := fun vs σ H Q => ∃ v r, vs = v :: r ∧ t v σ H fun σ' H' => u r σ' H' Q
theorem qbg : PGs X [] qhO := by
  intro pins s σ H vs us Q I r h
  obtain ⟨e, h⟩ := h
  subst e
  cases r
  exact assignInOrder_nil ⟨σ, H, I, h⟩
theorem qax {e : Expr} {es : List Expr} {t : TG} {u : TGs} (h1 : PG X e t) (h2 : PGs X es u)
    (hs : (assignEach (e :: es) X.env).map (·.2) = assign e X.env :: (assignEach es X.env).map (·.2) := by rfl) : PGs X (e :: es) (qba t u) := by
  intro pins s σ H vs us Q I r h
  obtain ⟨v, vr, e1, h⟩ := h
  subst e1
  cases r with
  | cons r rr =>
    rw [hs]
    refine assignInOrder_cons (thn (h1 pins s σ H _ _ _ I r h) fun _ s1 ⟨σ1, H1, I1, q1⟩ => ?_)
    exact h2 pins s1 σ1 H1 _ _ Q I1 rr q1
noncomputable def qqf (K : PySem.W.Frag) (n : Nat) (t : TGs) : TG := fun v σ H Q => ∃ a xs, v = .ref a ∧ SqT K H a xs ∧ xs.length = n ∧ t xs σ H Q
theorem qoD {es : List Expr} {k : Nat} {t : TGs} {n : Nat} (hc : X.calm = true) (h : PGs X es t)
    (hn : (assignEach es X.env).length = n := by rfl) (hst : (assignEach es X.env).findIdx? (·.1) = none := by rfl) : PG X (.Tuple es k pos) (qqf X.K n t) := by
  intro pins s σ H v u Q I r hw
  obtain ⟨a, xs, e1, hq, hl, hw⟩ := hw
  subst e1
  cases r
  obtain ⟨its, rv, ht, hz⟩ := I.tuple hq
  refine assign_Tuple_tuple (I.ok.hd hc) ht (by simp [hn, ← hl, rv.length]) hst fun h' hx => ?_
  have I1 : Inv X pins σ H { s with heap := h' } := I.kept (t' := s.toks) fun b o e => hx b o (Nat.ne_of_lt (Heap.lt_size e)) e
  exact h pins _ σ H xs _ Q I1 (by simpa using rv) hw
noncomputable def qmb (to ti : TE) (t : TSet) : TG := fun v σ H Q => to σ H fun o H1 => ti σ H1 fun i H2 => t o i v H2 fun H3 => Q σ H3
theorem qfb {o i : Expr} {to ti : TE} {t : TSet} (ho : PE X o to) (hi : PE X i ti) (hs : PSet X t)
    (ha : ∀ v, assign (.Subscript o i pos) X.env v = (do
      let ov ← holding [v] (eval o X.env)
      let iv ← holding [v, ov] (eval i X.env)
      standAt pos
      holding [v, ov, iv] (setItem ov iv v)
      release [v, ov, iv] []) := by intro _; rfl) : PG X (.Subscript o i pos) (qmb to ti t) := by
  intro pins s σ H v u Q I r h
  rw [ha]
  refine wpAny_bind (wpAny_holding (thn (ho pins s σ H _ I h) fun ov s1 ⟨x, H1, I1, r1, q1⟩ => ?_))
  refine wpAny_bind (wpAny_holding (thn (hi pins s1 σ H1 _ I1 q1) fun iv s2 ⟨y, H2, I2, r2, q2⟩ => ?_))
  refine wpAny_bind (wpAny_standAt (wpAny_bind (wpAny_holding (thn (hs pins s2 σ H2 x y v ov iv u _ I2 r1 r2 r q2) fun _ s3 ⟨H3, I3, q3⟩ => ?_))))
  exact wpAny_release ⟨σ, H3, I3, q3⟩
noncomputable def qaA (te : TE) (g : TG) : TS := fun D σ H => te σ H fun x H1 => g x σ H1 D.nx
theorem qed {tg e : Expr} {te : TE} {g : TG} (he : PE X e te) (hg : PG X tg g) (hs : swapsWithSole [tg] e pos.line X.env = pure false := by rfl) (hw : swappedStores [tg] e X.env = pure none := by rfl)
    (h1 : (assignEach [tg] X.env).map (·.2) = [assign tg X.env] := by rfl) : PS X (.Assign [tg] e pos) (qaA te g) := by
  intro pins s σ H D I h
  refine wpAny_Assign_stores (thn (he pins s σ H _ I h) fun v s1 ⟨x, H1, I1, r1, q1⟩ => ?_) hs hw
  rw [h1]
  exact thn (hg pins s1 σ H1 x v _ I1 r1 q1) fun _ s2 q => q
theorem qbu {i : Nat} {x : Str} {e : Expr} {te : TE} {pos' : Pos} (hN : X.N.Nodup) (hi : X.N[i]? = some x) (hx : Loc X.env.scope x) (he : PE X e te) (hs : swapsWith e (some (.Name x pos')) pos.line X.env = pure false := by rfl) (hf : X.fn x = true ∨ X.env.scope.names.lookup x = some .local := by first | exact .inl rfl | exact .inr rfl | assumption) :
    PS X (.Assign [.Name x pos'] e pos) (qaA te (qai i)) := by
  intro pins s σ H D I h
  refine wpAny_Assign_Name (thn (he pins s σ H _ I h) fun v s1 ⟨y, H1, I1, r1, q1⟩ => ?_) hs
  exact qeb I1 hN hi hx r1 (fun s2 I2 => ⟨_, H1, I2, q1⟩) hf
noncomputable def qor (i j : Nat) (ta : TA) : TS := fun D σ H => ta σ H fun vs H1 => ∃ v w, vs = [v, w] ∧ D.nx ((σ.set i (some v)).set j (some w)) H1
theorem qm1 {i j : Nat} {x y : Str} {a b : Expr} {ta : TA} {px py pt : Pos} {kt k2 pt2} (hc : X.calm = true) (hN : X.N.Nodup) (hi : X.N[i]? = some x) (hj : X.N[j]? = some y) (hij : i ≠ j)
    (hx : X.env.scope.names.lookup x = some .local) (hy : X.env.scope.names.lookup y = some .local) (ha : PA X [a, b] ta)
    (hw : swappedStores [.Tuple [.Name x px, .Name y py] kt pt] (.Tuple [a, b] k2 pt2) X.env = pure (some [x, y]))
    (hs : swapsWithSole [.Tuple [.Name x px, .Name y py] kt pt] (.Tuple [a, b] k2 pt2) pos.line X.env = pure false := by rfl) :
    PS X (.Assign [.Tuple [.Name x px, .Name y py] kt pt] (.Tuple [a, b] k2 pt2) pos) (qor i j ta) := by
  intro pins s σ H D I h
  rw [exec_Assign_arm]
  refine wpAny_bind (wpAny_standAt ?_)
  rw [hs]
  refine wpAny_bind (wpAny_pure ?_)
  rw [if_neg (by decide)]
  refine wpAny_bind (Tuple_ (thn (ha _ pins s σ H _ I h) fun us s1 ⟨vs, H1, I1, r1, q1⟩ => ?_))
  obtain ⟨v, w, e1, q1⟩ := q1
  subst e1
  obtain ⟨u1, u2, rfl, rv, rw'⟩ : ∃ u1 u2, us = [u1, u2] ∧ RelV v u1 ∧ RelV w u2 := by
    cases r1 with
    | cons p q =>
      cases q with
      | cons p' q' =>
        cases q'
        exact ⟨_, _, rfl, p, p'⟩
  refine wpAny_newObj_type ?_ (by show 2 ≤ sizeLine; decide)
  have I2 : Inv X pins σ H1 { s1 with heap := s1.heap.push { cls := .type "tuple", data := .seq [u1, u2].toArray } } := I1.kept (t' := s1.toks) fun b o e => Heap.get?_push_of_some _ e
  rw [hw]
  refine wpAny_bind (wpAny_pure ?_)
  show wpAny (model X.prog X.w) X.A (do rule "assign.swapped-stores"; let items ← unpackItems (.ref s1.heap.objs.size) 2 none; assignInOrder [fun v => bindName X.env y v, fun v => bindName X.env x v] items.reverse; pure Flow.next) _ _ _
  refine wpAny_bind (wpAny_rule (wpAny_bind (unpackItems_tuple (items := #[u1, u2]) (I.ok.hd hc) (IsTup.new s1.heap _) fun h' hx' => ?_)))
  have I3 := I2.kept (h' := h') (t' := s1.toks) fun b o e => hx' b o (Nat.ne_of_lt (Heap.lt_size e)) e
  show wpAny _ _ (assignInOrder [fun v => bindName X.env y v, fun v => bindName X.env x v] [u2, u1] >>= fun _ => pure Flow.next) _ _ _
  refine wpAny_bind (assignInOrder_cons (wpAny_bindName (qeb I3 hN hj (.inl hy) rw' (fun s2 I4 => ?_) (.inr hy))))
  refine assignInOrder_cons (wpAny_bindName (qeb I4 hN hi (.inl hx) rv (fun s3 I5 => assignInOrder_nil (wpAny_pure ?_)) (.inr hx)))
  rw [List.set_comm _ _ (Ne.symm hij)] at I5
  exact ⟨_, H1, I5, q1⟩
noncomputable def qmf (i : Nat) (te : TE) (ti : TIp) : TS := fun D σ H => ∃ x, σ[i]? = some (some x) ∧ te σ H fun y H1 => ti x y H1 fun z H2 => D.nx (σ.set i (some z)) H2
theorem qgB {i : Nat} {x : Str} {e : Expr} {te : TE} {op : Operator} {ti : TIp} {pos' : Pos} (hN : X.N.Nodup) (hi : X.N[i]? = some x) (hx : Loc X.env.scope x) (he : PE X e te) (ho : PIp X op ti) (hf : X.fn x = true ∨ X.env.scope.names.lookup x = some .local := by first | exact .inl rfl | exact .inr rfl | assumption) :
    PS X (.AugAssign (.Name x pos') op e pos) (qmf i te ti) := by
  intro pins s σ H D I h
  obtain ⟨v, e1, h⟩ := h
  obtain ⟨m, hn, hl⟩ := I.loc
  have vis : Vis X.env.scope x := by rcases hx with k | k; exact .inl k; exact .inr (.inl k)
  obtain ⟨u, r, l⟩ := hl i x v hi e1 vis
  refine wpAny_AugAssign_Name ?_
  have go : wpAny (model X.prog X.w) X.A (eval e X.env) (fun w s₂ => wpAny (model X.prog X.w) X.A (inplaceOp op u w) (fun r s₃ => wpAny (model X.prog X.w) X.A (storeName X.env x r) (fun _ => SP X pins D .next) X.xe s₃) X.xe s₂) X.xe s := by
    refine thn (he pins s σ H _ I h) fun w s1 ⟨y, H1, I1, r1, q1⟩ => ?_
    refine thn (ho pins s1 σ H1 v y u w _ I1 r r1 q1) fun z s2 ⟨zv, H2, I2, r2, q2⟩ => ?_
    exact qeb I2 hN hi hx r2 (fun s3 I3 => ⟨_, H2, I3, q2⟩) hf
  rcases l with ⟨hk, hm⟩ | ⟨hk, c, hc, hcell⟩
  · exact wpAny_loadName_local I.ok.kind hk hn hm go
  · rcases hk with hk | hk
    · exact wpAny_loadName_cell I.ok.kind hk hc hcell go
    · rcases hx with k | k
      · have : X.env.scope.names.lookup x = some .free := hk
        rw [k] at this; cases this
      · have : X.env.scope.names.lookup x = some .free := hk
        rw [k] at this; cases this
end
section
variable {X : Cx} {pos : Pos}
noncomputable def qde (c : TT) (tb : TS) : TS := fun D σ H => ∃ W : Nat → St → Hp → Prop, (∃ m, W m σ H) ∧ ∀ m σ H, W m σ H →
  c σ H fun b H1 => if b = true then ∃ N : St → Hp → Prop, (∀ σ' H', N σ' H' → ∃ m', m' < m ∧ W m' σ' H') ∧ tb { D with nx := N, ct := N, bk := D.nx } σ H1 else D.nx σ H1
theorem qbY {c : Expr} {body : List Stmt} {tc : TT} {tb : TS} (hp : PassesOwn (model X.prog X.w) X.A X.env X.xe) (hc : PT X c tc) (hb : PSs X body tb) : PS X (.While c body [] pos) (qde tc tb) := by
  intro pins s σ H D I h
  obtain ⟨W, ⟨m0, w0⟩, turn⟩ := h
  refine wpAny_While (codeAny_whileLoop (fun n s' => ∃ σ' H', Inv X pins σ' H' s' ∧ W n σ' H') ?_ m0 ⟨σ, H, I, w0⟩)
  rintro n s1 ⟨σ1, H1, I1, w1⟩
  refine wpAny_passesOwn hp (thn (hc pins s1 σ1 H1 _ I1 (turn n σ1 H1 w1)) fun b s2 ⟨H2, I2, q2⟩ => ?_)
  cases b with
  | true =>
    obtain ⟨N, hN, q2⟩ := q2
    rw [if_pos rfl]
    refine wpAny_passesOwn hp (thn (hb pins s2 σ1 H2 _ I2 q2) fun f s3 q3 => ?_)
    cases f with
    | next =>
      obtain ⟨σ3, H3, I3, n3⟩ := q3
      obtain ⟨m', hm, w3⟩ := hN σ3 H3 n3
      exact ⟨m', hm, σ3, H3, I3, w3⟩
    | cont =>
      obtain ⟨σ3, H3, I3, n3⟩ := q3
      obtain ⟨m', hm, w3⟩ := hN σ3 H3 n3
      exact ⟨m', hm, σ3, H3, I3, w3⟩
    | brk => exact q3
    | ret v => exact q3
  | false =>
    rw [if_neg Bool.false_ne_true]
    exact wpAny_execs_nil ⟨σ1, H2, I2, q2⟩
end
structure It where
  go : Nat → Hp → Prop
  yld : Nat → Hp → V → Hp → Prop
  stop : Nat → Hp → Prop
noncomputable def qis (X : Cx) (pins : List (Addr × Obj)) (H : Hp) (b : Addr) : Prop :=
  H b = none ∧ b ≠ X.env.locals ∧ b ∉ X.fs ∧ (b ∈ X.ex ∨ X.s₀.heap.objs.size ≤ b) ∧ (∀ x c, X.env.cells.lookup x = some c → c ≠ b) ∧ ∀ p ∈ X.pn ++ pins, p.1 ≠ b
theorem Inv.fpOk {X : Cx} {pins : List (Addr × Obj)} {σ : St} {H H' : Hp} {s : Shared} {b : Addr} (I : Inv X pins σ H s) (hb : s.heap.objs.size ≤ b) (hn : H' b = none) : qis X pins H' b := by
  refine ⟨hn, Nat.ne_of_gt (Nat.lt_of_lt_of_le I.lt hb), I.nofs hb, .inr (Nat.le_trans I.sz hb), fun x c e z => ?_, fun p hp z => ?_⟩
  · obtain ⟨v, q⟩ := I.cell x c e
    exact absurd (Nat.lt_of_lt_of_le q.lt (by rw [z]; exact hb)) (Nat.lt_irrefl _)
  · exact absurd (Nat.lt_of_lt_of_le (Heap.lt_size (I.pin p hp).1) (by rw [z]; exact hb)) (Nat.lt_irrefl _)
structure Turn (P : Program) (w : World) (K : PySem.W.Frag) (tg : Expr) (J : It) (fp : List Addr) (it : Addr) (tn : Nat → Heap → Prop) : Prop where
  mem : it ∈ fp
  obj : ∀ i h, tn i h → ∀ b ∈ fp, ∃ o, h.get? b = some o ∧ ∀ v, o.data ≠ .cell v
  keep : ∀ i h h', tn i h → (∀ b ∈ fp, ∀ o, h.get? b = some o → h'.get? b = some o) → tn i h'
  item : ∀ (X : Cx), X.prog = P → X.w = w → X.K = K → X.calm = true → ∀ (i : Nat) (pins : List (Addr × Obj)) (s : Shared) (σ : St) (H : Hp) (E : Value → Shared → Prop), Inv X pins σ H s → (∀ b ∈ fp, qis X pins H b) → tn i s.heap → J.go i H →
    wpAny (model P w) X.A (pyNext (.ref it)) (fun r s1 => ∃ u, r = some u ∧
      wpAny (model P w) X.A (letOwnedTupleGo tg (.ref it) u) (fun _ s2 => ∃ x H', Inv X pins σ H' s2 ∧ RelV x u ∧ J.yld i H x H' ∧ tn (i + 1) s2.heap ∧ ∀ b ∈ fp, H' b = none) E s1) E s
  done : ∀ (X : Cx), X.prog = P → X.w = w → X.K = K → X.calm = true → ∀ (i : Nat) (pins : List (Addr × Obj)) (s : Shared) (σ : St) (H : Hp) (E : Value → Shared → Prop), Inv X pins σ H s → (∀ b ∈ fp, qis X pins H b) → tn i s.heap → J.stop i H →
    wpAny (model P w) X.A (pyNext (.ref it)) (fun r s1 => r = none ∧ Inv X pins σ H s1) E s
  self : ∀ (A : Around) (i : Nat) (s : Shared) (Q : Value → Shared → Prop) (E : Value → Shared → Prop), tn i s.heap → Q (.ref it) s → wpAny (model P w) A (pyIter (.ref it)) Q E s
noncomputable abbrev TI := St → Hp → (It → Hp → Prop) → Prop
noncomputable def PIE (X : Cx) (pins : List (Addr × Obj)) (σ : St) (tg : Expr) (R : It → Hp → Prop) (itv : Value) (s2 : Shared) : Prop :=
  ∃ (it : Addr) (fp : List Addr) (tn : Nat → Heap → Prop) (J : It) (H' : Hp), itv = .ref it ∧ Inv X pins σ H' s2 ∧ Turn X.prog X.w X.K tg J fp it tn ∧ tn 0 s2.heap ∧ (∀ b ∈ fp, qis X pins H' b) ∧ R J H'
noncomputable def PI (X : Cx) (tg iter : Expr) (wi : TI) : Prop :=
  ∀ (pins : List (Addr × Obj)) (s : Shared) (σ : St) (H : Hp) (R : It → Hp → Prop), Inv X pins σ H s → wi σ H R →
    wpAny (model X.prog X.w) X.A (eval iter X.env) (fun v s1 => wpAny (model X.prog X.w) X.A (pyIter v) (PIE X pins σ tg R) X.xe s1) X.xe s
theorem qnw {M : Model} {A : Around} {E : Value → Shared → Prop} {s : Shared} {tg : Expr} {it : Addr} {u : Value} {o : Obj} {n : String} {vs : Array Value} {Q : Unit → Shared → Prop} (ho : s.heap.get? it = some o) (hc : o.cls = .type n) (hd : o.data = .fields vs)
    (hn : ["enumerate", "zip", "dict_itemiterator", "dict_reverseitemiterator", "odict_iterator", "itertools.zip_longest", "itertools.pairwise"].contains n = false) (hQ : Q () s) : wpAny M A (letOwnedTupleGo tg (.ref it) u) Q E s := by
  unfold letOwnedTupleGo
  cases tg <;> first
    | exact wpAny_pure hQ
    | (cases u <;> first
        | exact wpAny_pure hQ
        | (refine wpAny_bind (wpAny_load ho ?_)
           rw [hc, hd]
           show wpAny M A (if (["enumerate", "zip", "dict_itemiterator", "dict_reverseitemiterator", "odict_iterator", "itertools.zip_longest", "itertools.pairwise"].contains n && vs[0]? == some (rawInt _)) = true then _ else _) Q E s
           rw [if_neg (by intro h; rw [hn, Bool.false_and] at h; cases h)]
           exact wpAny_pure hQ))
noncomputable def Itl (K : PySem.W.Frag) (a : Addr) : It :=
  ⟨fun i H => ∃ xs x, SqL K H a xs ∧ xs[i]? = some x, fun i H x H' => H' = H ∧ ∀ xs, SqL K H a xs → xs[i]? = some x, fun i H => ∃ xs, SqL K H a xs ∧ xs.length ≤ i⟩
noncomputable def Itt (K : PySem.W.Frag) (a : Addr) : It :=
  ⟨fun i H => ∃ xs x, SqT K H a xs ∧ xs[i]? = some x, fun i H x H' => H' = H ∧ ∀ xs, SqT K H a xs → xs[i]? = some x, fun i H => ∃ xs, SqT K H a xs ∧ xs.length ≤ i⟩
noncomputable def Itr (lo : Int) (n : Nat) : It := ⟨fun i _ => i < n, fun i H x H' => H' = H ∧ x = .int (lo + i), fun i _ => n ≤ i⟩
theorem qhP {P : Program} {w : World} {K : PySem.W.Frag} {tg : Expr} (a it : Addr) : Turn P w K tg (Itl K a) [it] it (fun i h => h.IsListIter it a i) where
  mem := by simp
  obj := fun i h st b hb => by
    have e : b = it := by simpa using hb
    subst e
    obtain ⟨o, e, c, d⟩ := st
    exact ⟨o, e, fun v z => by rw [d] at z; cases z⟩
  keep := fun i h h' st k => st.at fun o e => k it (by simp) o e
  item := by
    intro X hP hw hK hc i pins s σ H E I hf st hg
    subst hP hw hK
    obtain ⟨xs, x, hq, hx⟩ := hg
    obtain ⟨its, rv, p, hz⟩ := I.list hq
    obtain ⟨u, hu, ru⟩ := rv.get hx
    obtain ⟨f0, f1, f2, f3, f4, f5⟩ := hf it (by simp)
    refine wpAny_pyNext_list_item st p.isList (x := u) (by simpa using hu) fun h' st' sb => ?_
    have I1 : Inv X pins σ H { s with heap := h' } := I.turned (t' := s.toks) (fun b o hb e => (sb.2 b hb).trans e) f0 f1 f3 f4 f5
    obtain ⟨o, e, c, d⟩ := id st'
    exact ⟨u, rfl, qnw (s := { s with heap := h' }) e c d (by decide) ⟨x, H, I1, ru, ⟨rfl, fun ys hy => by rw [I.list_inj hy hq]; exact hx⟩, st', fun b hb => (hf b hb).1⟩⟩
  done := by
    intro X hP hw hK hc i pins s σ H E I hf st hg
    subst hP hw hK
    obtain ⟨xs, hq, hx⟩ := hg
    obtain ⟨its, rv, p, hz⟩ := I.list hq
    obtain ⟨f0, f1, f2, f3, f4, f5⟩ := hf it (by simp)
    have hl := rv.length
    exact wpAny_pyNext_list_end (I.ok.hd hc) st p.isList (by simp; omega) fun h' eb => ⟨rfl, I.turned (t' := s.toks) (fun b o hb e => eb b o hb e) f0 f1 f3 f4 f5⟩
  self := fun _ _ _ _ _ st h => wpAny_pyIter_listiter st h
theorem qjO {P : Program} {w : World} {K : PySem.W.Frag} {tg : Expr} (a it : Addr) : Turn P w K tg (Itt K a) [it] it (fun i h => h.IsTupleIter it a i) where
  mem := by simp
  obj := fun i h st b hb => by
    have e : b = it := by simpa using hb
    subst e
    obtain ⟨o, e, c, d⟩ := st
    exact ⟨o, e, fun v z => by rw [d] at z; cases z⟩
  keep := fun i h h' st k => st.at fun o e => k it (by simp) o e
  item := by
    intro X hP hw hK hc i pins s σ H E I hf st hg
    subst hP hw hK
    obtain ⟨xs, x, hq, hx⟩ := hg
    obtain ⟨its, rv, p, hz⟩ := I.tuple hq
    obtain ⟨u, hu, ru⟩ := rv.get hx
    obtain ⟨f0, f1, f2, f3, f4, f5⟩ := hf it (by simp)
    refine wpAny_pyNext_tuple_item st (show s.heap.IsTuple a its.toArray from p) (x := u) (by simpa using hu) fun h' st' sb => ?_
    have I1 : Inv X pins σ H { s with heap := h' } := I.turned (t' := s.toks) (fun b o hb e => (sb.2 b hb).trans e) f0 f1 f3 f4 f5
    obtain ⟨o, e, c, d⟩ := id st'
    exact ⟨u, rfl, qnw (s := { s with heap := h' }) e c d (by decide) ⟨x, H, I1, ru, ⟨rfl, fun ys hy => by rw [I.tuple_inj hy hq]; exact hx⟩, st', fun b hb => (hf b hb).1⟩⟩
  done := by
    intro X hP hw hK hc i pins s σ H E I hf st hg
    subst hP hw hK
    obtain ⟨xs, hq, hx⟩ := hg
    obtain ⟨its, rv, p, hz⟩ := I.tuple hq
    obtain ⟨f0, f1, f2, f3, f4, f5⟩ := hf it (by simp)
    have hl := rv.length
    exact wpAny_pyNext_tuple_end (I.ok.hd hc) st (show s.heap.IsTuple a its.toArray from p) (by simp; omega) fun h' eb => ⟨rfl, I.turned (t' := s.toks) (fun b o hb e => eb b o hb e) f0 f1 f3 f4 f5⟩
  self := fun _ _ _ _ _ st h => wpAny_pyIter_tupleiter st h
theorem qjP {P : Program} {w : World} {K : PySem.W.Frag} {tg : Expr} (it : Addr) (lo : Int) (n : Nat) : Turn P w K tg (Itr lo n) [it] it (fun i h => IsRangeIter h it (lo + (i : Nat) * 1) ((n : Int) - (i : Nat)) 1) where
  mem := by simp
  obj := fun i h st b hb => by
    have e : b = it := by simpa using hb
    subst e
    exact ⟨_, st, fun v z => by
      have z' : Data.fields _ = Data.cell v := z
      cases z'⟩
  keep := fun i h h' st k => k it (by simp) _ st
  item := by
    intro X hP hw hK hc i pins s σ H E I hf st hg
    subst hP hw hK
    obtain ⟨f0, f1, f2, f3, f4, f5⟩ := hf it (by simp)
    have W := Walks.range (prog := X.prog) (w := X.w) (I.ok.hd hc) it lo 1 n
    refine W.item i s _ _ hg st fun v h' tk hv st' kk => ?_
    obtain ⟨t, rfl⟩ := hv
    have I1 : Inv X pins σ H { s with heap := h', toks := tk } := I.turned (fun b o hb e => kk b o (by simpa using hb) e) f0 f1 f3 f4 f5
    refine ⟨_, rfl, qnw (s := { s with heap := h', toks := tk }) (n := "range_iterator") st' rfl rfl (by decide) ⟨.int (lo + i), H, I1, ⟨t, ?_⟩, ⟨rfl, rfl⟩, st', fun b hb => (hf b hb).1⟩⟩
    rw [Int.mul_one]
  done := by
    intro X hP hw hK hc i pins s σ H E I hf st hg
    subst hP hw hK
    obtain ⟨f0, f1, f2, f3, f4, f5⟩ := hf it (by simp)
    exact wpAny_pyNext_range_end (I.ok.hd hc) st (by have : n ≤ i := hg; omega) fun h' eb => ⟨rfl, I.turned (t' := s.toks) (fun b o hb e => eb b o hb e) f0 f1 f3 f4 f5⟩
  self := fun _ _ _ _ _ st h => wpAny_pyIter_rangeiter st h
end L2
namespace L2
open PySem PySem.Spec PyProof.Rows
section
variable {X : Cx} {tg : Expr}
noncomputable def qbb (K : PySem.W.Frag) (tl : TE) : TI := fun σ H R => tl σ H fun x H1 => ∃ a, x = .ref a ∧ (∃ xs, SqL K H1 a xs) ∧ R (Itl K a) H1
theorem qaM {l : Expr} {tl : TE} (hl : PE X l tl) : PI X tg l (qbb X.K tl) := by
  intro pins s σ H R I h
  refine thn (hl pins s σ H _ I h) fun v s1 ⟨x, H1, I1, r1, q1⟩ => ?_
  obtain ⟨a, e, ⟨xs, hq⟩, q⟩ := q1
  subst e
  cases r1
  obtain ⟨its, rv, p, hz⟩ := I1.list hq
  refine wpAny_pyIter_list p.isList ?_
  refine ⟨s1.heap.objs.size, [s1.heap.objs.size], _, _, H1, rfl, I1.kept (t' := s1.toks) fun b o e => Heap.get?_push_of_some _ e, qhP a _, ⟨_, Heap.get?_push_size _ rfl, rfl, rfl⟩, fun b hb => ?_, q⟩
  have e : b = s1.heap.objs.size := by simpa using hb
  subst e
  exact I1.fpOk (Nat.le_refl _) (I1.hok.fresh (Nat.le_refl _))
theorem qi4 {pins : List (Addr × Obj)} {σ : St} {H : Hp} {s : Shared} {R : It → Hp → Prop} {E : Value → Shared → Prop} {lo hi : Int} {t u v : Tok} {tk : Nat} (I : Inv X pins σ H s) (h1 : -(2 ^ 62) ≤ lo) (h2 : lo < 2 ^ 62) (h3 : -(2 ^ 62) ≤ hi) (h4 : hi < 2 ^ 62)
    (q : R (Itr lo (hi - lo).toNat) H) : wpAny (model X.prog X.w) X.A (pyIter (.ref s.heap.objs.size)) (PIE X pins σ tg R) E { s with heap := s.heap.push { cls := .type "range", data := .fields #[.int lo t, .int hi u, .int 1 v] }, toks := tk } := by
  refine wpAny_pyIter_range (IsRange.new ..) (small_one h1 h2 h3 h4) ?_
  have I1 : Inv X pins σ H { s with heap := s.heap.push { cls := .type "range", data := .fields #[.int lo t, .int hi u, .int 1 v] }, toks := tk } := I.kept fun b o e => Heap.get?_push_of_some _ e
  refine ⟨(s.heap.push { cls := .type "range", data := .fields #[.int lo t, .int hi u, .int 1 v] }).objs.size, [(s.heap.push { cls := .type "range", data := .fields #[.int lo t, .int hi u, .int 1 v] }).objs.size], _, _, H, rfl,
    I1.kept (t' := tk) fun b o e => Heap.get?_push_of_some _ e, qjP _ lo (hi - lo).toNat, ?_, fun b hb => ?_, q⟩
  · have e1 : lo + ((0 : Nat) : Int) * 1 = lo := by simp
    have e2 : (((hi - lo).toNat : Nat) : Int) - ((0 : Nat) : Int) = Builtin.Range.rangeSize lo hi 1 := by rw [rangeSize_one]; split <;> omega
    show IsRangeIter _ _ (lo + ((0 : Nat) : Int) * 1) ((((hi - lo).toNat : Nat) : Int) - ((0 : Nat) : Int)) 1
    rw [e1, e2]
    exact Heap.get?_push_size _ rfl
  · have e : b = (s.heap.push { cls := .type "range", data := .fields #[.int lo t, .int hi u, .int 1 v] }).objs.size := by simpa using hb
    subst e
    exact I1.fpOk (Nat.le_refl _) (I1.hok.fresh (Nat.le_refl _))
noncomputable def qee (ta : TA) : TI := fun σ H R => ta σ H fun vs H1 => ∃ j : Int, vs = [.int j] ∧ -(2 ^ 62) ≤ j ∧ j < 2 ^ 62 ∧ R (Itr 0 j.toNat) H1
noncomputable def qkz (ta : TA) : TI := fun σ H R => ta σ H fun vs H1 => ∃ i j : Int, vs = [.int i, .int j] ∧ (-(2 ^ 62) ≤ i ∧ i < 2 ^ 62 ∧ -(2 ^ 62) ≤ j ∧ j < 2 ^ 62) ∧ R (Itr i (j - i).toNat) H1
theorem qbh {a : Expr} {ta : TA} {p pos : Pos} (hg : Gl X "range") (hm : X.mg "range" = none) (ha : PA X [a] ta) (hs : starEach [a] X.env = [(false, eval a X.env)] := by rfl) : PI X tg (.Call (.Name "range" p) [a] [] pos) (qee ta) := by
  intro pins s σ H R I h
  refine Call_ (qec I hg hm boot_range (PyProof.Rows.callWith_type1 (thn (ha pos pins s σ H _ I h) fun us s1 ⟨vs, H1, I1, r1, q1⟩ => ?_) hs rfl))
  obtain ⟨j, e, q1, q2, q⟩ := q1
  subst e
  cases r1 with
  | cons r rr =>
    cases rr
    obtain ⟨t, rfl⟩ := r
    exact call_range_1 (qi4 I1 (by omega) (by omega) q1 q2 (by simpa using q))
theorem qkA {a b : Expr} {ta : TA} {p pos : Pos} (hg : Gl X "range") (hm : X.mg "range" = none) (ha : PA X [a, b] ta) (hs : starEach [a, b] X.env = [(false, eval a X.env), (false, eval b X.env)] := by rfl) (hs2 : starEach [b] X.env = [(false, eval b X.env)] := by rfl) :
    PI X tg (.Call (.Name "range" p) [a, b] [] pos) (qkz ta) := by
  intro pins s σ H R I h
  refine Call_ (qec I hg hm boot_range (PyProof.Rows.callWith_type1 (thn (ha pos pins s σ H _ I h) fun us s1 ⟨vs, H1, I1, r1, q1⟩ => ?_) (by rw [hs, hs2]) (by rw [hs2]; rfl)))
  obtain ⟨i, j, e, ⟨q1, q2, q3, q4⟩, q⟩ := q1
  subst e
  cases r1 with
  | cons r rr =>
    cases rr with
    | cons r' rr =>
      cases rr
      obtain ⟨t, rfl⟩ := r
      obtain ⟨t', rfl⟩ := r'
      exact call_range_2 (qi4 I1 q1 q2 q3 q4 q)
noncomputable def qef (wi : TI) (g : TG) (tb : TS) : TS := fun D σ H => wi σ H fun J H1 => ∃ W : Nat → Nat → St → Hp → Prop, (∃ m, W 0 m σ H1) ∧ ∀ i m σ H, W i m σ H →
  (J.stop i H ∧ D.nx σ H) ∨ (J.go i H ∧ ∃ N : St → Hp → Prop, (∀ σ' H', N σ' H' → ∃ m', m' < m ∧ W (i + 1) m' σ' H') ∧ ∀ x H', J.yld i H x H' → g x σ H' fun σ2 H2 => tb { D with nx := N, ct := N, bk := D.nx } σ2 H2)
noncomputable def qi5 (fp : List Addr) (h : Heap) : List (Addr × Obj) := fp.filterMap fun b => (h.get? b).map fun o => (b, o)
theorem qdG {fp : List Addr} {h : Heap} {b : Addr} {o : Obj} (hb : b ∈ fp) (e : h.get? b = some o) : (b, o) ∈ qi5 fp h := List.mem_filterMap.mpr ⟨b, hb, by rw [e]; rfl⟩
theorem qkB {fp : List Addr} {h : Heap} {p : Addr × Obj} (hp : p ∈ qi5 fp h) : p.1 ∈ fp ∧ h.get? p.1 = some p.2 := by
  obtain ⟨b, hb, e⟩ := List.mem_filterMap.mp hp
  cases q : h.get? b with
  | none => rw [q] at e; cases e
  | some o =>
    rw [q] at e
    have e' : (b, o) = p := Option.some.inj e
    subst e'
    exact ⟨hb, q⟩
theorem Inv.pinned {pins : List (Addr × Obj)} {σ : St} {H : Hp} {s : Shared} {fp : List Addr} (I : Inv X pins σ H s) (hf : ∀ b ∈ fp, qis X pins H b) (ho : ∀ b ∈ fp, ∃ o, s.heap.get? b = some o ∧ ∀ v, o.data ≠ .cell v) : Inv X (pins ++ qi5 fp s.heap) σ H s :=
  I.pins_of fun p hp => (List.mem_append.mp hp).elim (fun z => I.pin p (List.mem_append_right _ z)) fun z => by
    obtain ⟨hb, e⟩ := qkB z
    obtain ⟨f0, f1, f2, _⟩ := hf p.1 hb
    obtain ⟨o, e', d⟩ := ho p.1 hb
    rw [e] at e'; cases e'
    exact ⟨e, f0, f1, f2, d⟩
theorem Inv.unpinned {pins pl : List (Addr × Obj)} {σ : St} {H : Hp} {s : Shared} (I : Inv X (pins ++ pl) σ H s) : Inv X pins σ H s := I.pins_of fun p hp => I.pin p (List.mem_append_right _ (List.mem_append_left _ hp))
theorem qc5 {iter : Expr} {body : List Stmt} {wi : TI} {g : TG} {tb : TS} {pos : Pos} (hp : PassesOwn (model X.prog X.w) X.A X.env X.xe) (hc : X.calm = true) (hi : PI X tg iter wi) (hg : PG X tg g) (hb : PSs X body tb)
    (hs : ∀ x, foldedSetIterable iter X.env x = pure x := by intro _; rfl) : PS X (.For tg iter body [] pos) (qef wi g tb) := by
  intro pins s σ H D I h
  refine wpAny_For (thn (hi pins s σ H _ I h) fun v s1 h1 => thn h1 fun itv s2 h2 => ?_) hs
  obtain ⟨it, fp, tn, J, H2, e, I2, T, st2, f2, W, ⟨m0, w0⟩, turn⟩ := h2
  subst e
  have stat : ∀ {H' : Hp}, (∀ b ∈ fp, H' b = none) → ∀ b ∈ fp, qis X pins H' b := fun hn b hb => ⟨hn b hb, (f2 b hb).2⟩
  refine codeAny_forLoop_any (fun n s' => ∃ i σ' H', Inv X pins σ' H' s' ∧ tn i s'.heap ∧ (∀ b ∈ fp, H' b = none) ∧ W i n σ' H') ?_ m0 ⟨0, σ, H2, I2, st2, fun b hb => (f2 b hb).1, w0⟩
  rintro n s3 ⟨i, σ3, H3, I3, st3, fr3, w3⟩
  rcases turn i n σ3 H3 w3 with ⟨stop, qn⟩ | ⟨go, N, hN, step⟩
  · refine wpAny_passesOwn hp (thn (T.done X rfl rfl rfl hc i pins s3 σ3 H3 X.xe I3 (stat fr3) st3 stop) fun r s4 ⟨hr, I4⟩ => ?_)
    subst hr
    exact wpAny_execs_nil ⟨σ3, H3, I4, qn⟩
  · refine wpAny_passesOwn hp (thn (T.item X rfl rfl rfl hc i pins s3 σ3 H3 X.xe I3 (stat fr3) st3 go) fun r s4 ⟨u, hr, h4⟩ => ?_)
    subst hr
    refine wpAny_passesOwn hp (thn h4 fun _ s5 ⟨x, H5, I5, r5, y5, st5, fr5⟩ => ?_)
    have I5' := I5.pinned (stat fr5) (T.obj _ _ st5)
    refine wpAny_passesOwn hp (thn (hg _ s5 σ3 H5 x u _ I5' r5 (step x H5 y5)) fun _ s6 ⟨σ6, H6, I6, q6⟩ => ?_)
    refine wpAny_passesOwn hp (thn (hb _ s6 σ6 H6 _ I6 q6) fun f s7 q7 => ?_)
    have again : ∀ {σ7 : St} {H7 : Hp}, Inv X (pins ++ qi5 fp s5.heap) σ7 H7 s7 → N σ7 H7 → ∃ m, m < n ∧ ∃ i σ' H', Inv X pins σ' H' s7 ∧ tn i s7.heap ∧ (∀ b ∈ fp, H' b = none) ∧ W i m σ' H' := fun {σ7 H7} I7 n7 => by
      obtain ⟨m', hm, w7⟩ := hN σ7 H7 n7
      refine ⟨m', hm, i + 1, σ7, H7, I7.unpinned, T.keep _ _ _ st5 fun b hb o e => (I7.pin (b, o) (List.mem_append_right _ (List.mem_append_right _ (qdG hb e)))).1, fun b hb => ?_, w7⟩
      obtain ⟨o, e, d⟩ := T.obj _ _ st5 b hb
      exact (I7.pin (b, o) (List.mem_append_right _ (List.mem_append_right _ (qdG hb e)))).2.1
    cases f with
    | next => obtain ⟨σ7, H7, I7, n7⟩ := q7; exact again I7 n7
    | cont => obtain ⟨σ7, H7, I7, n7⟩ := q7; exact again I7 n7
    | brk => obtain ⟨σ7, H7, I7, q7⟩ := q7; exact ⟨σ7, H7, I7.unpinned, q7⟩
    | ret v => obtain ⟨x7, σ7, H7, I7, r7, q7⟩ := q7; exact ⟨x7, σ7, H7, I7.unpinned, r7, q7⟩
end
theorem qmg {K : PySem.W.Frag} {a : Addr} {xs : List V} {g : TG} {tb : TS} {D : Ends} {σ : St} {H : Hp} (Pv : Nat → St → Hp → Prop) (h0 : Pv 0 σ H) (hl : ∀ i σ H, i ≤ xs.length → Pv i σ H → SqL K H a xs)
    (hs : ∀ i x σ H, xs[i]? = some x → Pv i σ H → g x σ H fun σ2 H2 => tb { D with nx := Pv (i + 1), ct := Pv (i + 1), bk := D.nx } σ2 H2) (hd : ∀ σ H, Pv xs.length σ H → D.nx σ H) :
    ∃ W : Nat → Nat → St → Hp → Prop, (∃ m, W 0 m σ H) ∧ ∀ i m σ H, W i m σ H →
      ((Itl K a).stop i H ∧ D.nx σ H) ∨ ((Itl K a).go i H ∧ ∃ N : St → Hp → Prop, (∀ σ' H', N σ' H' → ∃ m', m' < m ∧ W (i + 1) m' σ' H') ∧ ∀ x H', (Itl K a).yld i H x H' → g x σ H' fun σ2 H2 => tb { D with nx := N, ct := N, bk := D.nx } σ2 H2) := by
  refine ⟨fun i m σ H => m = xs.length - i ∧ i ≤ xs.length ∧ Pv i σ H, ⟨xs.length, by simp, Nat.zero_le _, h0⟩, ?_⟩
  rintro i m σ H ⟨rfl, hi, p⟩
  have q := hl i σ H hi p
  by_cases hlt : i < xs.length
  · refine .inr ⟨⟨xs, xs[i], q, by simp [hlt]⟩, Pv (i + 1), fun σ' H' p' => ⟨xs.length - (i + 1), by omega, rfl, hlt, p'⟩, fun x H' y => ?_⟩
    obtain ⟨e, y⟩ := y
    subst e
    exact hs i x σ _ (y xs q) p
  · have e : i = xs.length := by omega
    subst e
    exact .inl ⟨⟨xs, q, Nat.le_refl _⟩, hd σ H p⟩
theorem qnx {K : PySem.W.Frag} {a : Addr} {xs : List V} {g : TG} {tb : TS} {D : Ends} {σ : St} {H : Hp} (Pv : Nat → St → Hp → Prop) (h0 : Pv 0 σ H) (hl : ∀ i σ H, i ≤ xs.length → Pv i σ H → SqT K H a xs)
    (hs : ∀ i x σ H, xs[i]? = some x → Pv i σ H → g x σ H fun σ2 H2 => tb { D with nx := Pv (i + 1), ct := Pv (i + 1), bk := D.nx } σ2 H2) (hd : ∀ σ H, Pv xs.length σ H → D.nx σ H) :
    ∃ W : Nat → Nat → St → Hp → Prop, (∃ m, W 0 m σ H) ∧ ∀ i m σ H, W i m σ H →
      ((Itt K a).stop i H ∧ D.nx σ H) ∨ ((Itt K a).go i H ∧ ∃ N : St → Hp → Prop, (∀ σ' H', N σ' H' → ∃ m', m' < m ∧ W (i + 1) m' σ' H') ∧ ∀ x H', (Itt K a).yld i H x H' → g x σ H' fun σ2 H2 => tb { D with nx := N, ct := N, bk := D.nx } σ2 H2) := by
  refine ⟨fun i m σ H => m = xs.length - i ∧ i ≤ xs.length ∧ Pv i σ H, ⟨xs.length, by simp, Nat.zero_le _, h0⟩, ?_⟩
  rintro i m σ H ⟨rfl, hi, p⟩
  have q := hl i σ H hi p
  by_cases hlt : i < xs.length
  · refine .inr ⟨⟨xs, xs[i], q, by simp [hlt]⟩, Pv (i + 1), fun σ' H' p' => ⟨xs.length - (i + 1), by omega, rfl, hlt, p'⟩, fun x H' y => ?_⟩
    obtain ⟨e, y⟩ := y
    subst e
    exact hs i x σ _ (y xs q) p
  · have e : i = xs.length := by omega
    subst e
    exact .inl ⟨⟨xs, q, Nat.le_refl _⟩, hd σ H p⟩
theorem qkC {lo : Int} {n : Nat} {g : TG} {tb : TS} {D : Ends} {σ : St} {H : Hp} (Pv : Nat → St → Hp → Prop) (h0 : Pv 0 σ H)
    (hs : ∀ i σ H, i < n → Pv i σ H → g (.int (lo + i)) σ H fun σ2 H2 => tb { D with nx := Pv (i + 1), ct := Pv (i + 1), bk := D.nx } σ2 H2) (hd : ∀ σ H, Pv n σ H → D.nx σ H) :
    ∃ W : Nat → Nat → St → Hp → Prop, (∃ m, W 0 m σ H) ∧ ∀ i m σ H, W i m σ H →
      ((Itr lo n).stop i H ∧ D.nx σ H) ∨ ((Itr lo n).go i H ∧ ∃ N : St → Hp → Prop, (∀ σ' H', N σ' H' → ∃ m', m' < m ∧ W (i + 1) m' σ' H') ∧ ∀ x H', (Itr lo n).yld i H x H' → g x σ H' fun σ2 H2 => tb { D with nx := N, ct := N, bk := D.nx } σ2 H2) := by
  refine ⟨fun i m σ H => m = n - i ∧ i ≤ n ∧ Pv i σ H, ⟨n, by simp, Nat.zero_le _, h0⟩, ?_⟩
  rintro i m σ H ⟨rfl, hi, p⟩
  by_cases hlt : i < n
  · refine .inr ⟨hlt, Pv (i + 1), fun σ' H' p' => ⟨n - (i + 1), by omega, rfl, hlt, p'⟩, fun x H' y => ?_⟩
    obtain ⟨e, y⟩ := y
    subst e y
    exact hs i σ _ hlt p
  · have e : i = n := by omega
    subst e
    exact .inl ⟨Nat.le_refl _, hd σ H p⟩
end L2
namespace L2
open PySem PySem.Spec PyProof.Rows
noncomputable abbrev R2 := V → V → Hp → VK → Prop
noncomputable def OpR (X : Cx) (f : Value → Value → Sem Value) (r : R2) : Prop :=
  ∀ (pins : List (Addr × Obj)) (s : Shared) (σ : St) (H : Hp) (x y : V) (v u : Value) (Q : VK), Inv X pins σ H s → RelV x v → RelV y u → r x y H Q →
    wpAny (model X.prog X.w) X.A (f v u) (EP X pins σ Q) X.xe s
noncomputable def UnR (X : Cx) (f : Value → Sem Value) (r : V → Hp → VK → Prop) : Prop :=
  ∀ (pins : List (Addr × Obj)) (s : Shared) (σ : St) (H : Hp) (x : V) (v : Value) (Q : VK), Inv X pins σ H s → RelV x v → r x H Q →
    wpAny (model X.prog X.w) X.A (f v) (EP X pins σ Q) X.xe s
noncomputable def qcC (X : Cx) (f : Value) (r : List V → Hp → VK → Prop) : Prop :=
  ∀ (pins : List (Addr × Obj)) (s : Shared) (σ : St) (H : Hp) (xs : List V) (us : List Value) (Q : VK), Inv X pins σ H s → Vals xs us → r xs H Q →
    wpAny (model X.prog X.w) X.A (call f us) (EP X pins σ Q) X.xe s
noncomputable def qqg (X : Cx) (r : V → Hp → (Bool → Hp → Prop) → Prop) : Prop :=
  ∀ (pins : List (Addr × Obj)) (s : Shared) (σ : St) (H : Hp) (x : V) (v : Value) (Q : Bool → Hp → Prop), Inv X pins σ H s → RelV x v → r x H Q →
    wpAny (model X.prog X.w) X.A (truthy v) (TP X pins σ Q) X.xe s
noncomputable def tOp (r : R2) (ta tb : TE) : TE := fun σ H Q => ta σ H fun x H1 => tb σ H1 fun y H2 => r x y H2 Q
noncomputable def tUn (r : V → Hp → VK → Prop) (ta : TE) : TE := fun σ H Q => ta σ H fun x H1 => r x H1 Q
noncomputable def rI (C : Int → Int → Prop) (g : Int → Int → V) : R2 := fun x y H Q => ∃ i j, x = .int i ∧ y = .int j ∧ C i j ∧ Q (g i j) H
noncomputable def rI0 (g : Int → Int → V) : R2 := fun x y H Q => ∃ i j, x = .int i ∧ y = .int j ∧ Q (g i j) H
noncomputable def rU (g : Int → V) : V → Hp → VK → Prop := fun x H Q => ∃ i, x = .int i ∧ Q (g i) H
section
variable {X : Cx} {a b c : Expr} {ta tb tc : TE} {pos : Pos}
theorem qpA (ha : PE X a ta) (hb : PE X b tb) {pins : List (Addr × Obj)} {s : Shared} {σ : St} {H : Hp} {R : V → V → Hp → Prop} (I : Inv X pins σ H s)
    (h : ta σ H fun x H1 => tb σ H1 fun y H2 => R x y H2) {Q : Value → Shared → Prop} {f : Value → Value → Sem Value}
    (hf : ∀ v u s2 x y H2, Inv X pins σ H2 s2 → RelV x v → RelV y u → R x y H2 → wpAny (model X.prog X.w) X.A (f v u) Q X.xe s2) :
    wpAny (model X.prog X.w) X.A (eval a X.env) (fun v s₁ => wpAny (model X.prog X.w) X.A (eval b X.env) (fun u s₂ => wpAny (model X.prog X.w) X.A (f v u) Q X.xe s₂) X.xe s₁) X.xe s := by
  refine thn (ha pins s σ H _ I h) fun v s1 ⟨x, H1, I1, r1, q1⟩ => ?_
  refine thn (hb pins s1 σ H1 _ I1 q1) fun u s2 ⟨y, H2, I2, r2, q2⟩ => ?_
  exact hf v u s2 x y H2 I2 r1 r2 q2
theorem qaq {op : Operator} {r : R2} (ho : OpR X (binaryOp op) r) (ha : PE X a ta) (hb : PE X b tb) : PE X (.BinOp a op b pos) (tOp r ta tb) := by
  intro pins s σ H Q I h
  exact wpAny_BinOp (qpA ha hb I h fun v u s2 x y H2 I2 rx ry q => ho pins s2 σ H2 x y v u Q I2 rx ry q)
theorem qjQ {op : UnaryOp} {r : V → Hp → VK → Prop} (ho : UnR X (unaryOp op) r) (ha : PE X a ta) : PE X (.UnaryOp op a pos) (tUn r ta) := by
  intro pins s σ H Q I h
  exact UnaryOp_ (thn (ha pins s σ H _ I h) fun v s1 ⟨x, H1, I1, r1, q1⟩ => ho pins s1 σ H1 x v Q I1 r1 q1)
theorem opI {f : Value → Value → Sem Value} {C : Int → Int → Prop} {g : Int → Int → Int}
    (rule : ∀ (i j : Int) (t u : Tok) (s : Shared) (Q : Value → Shared → Prop) (E : Value → Shared → Prop), C i j → Q (.int (g i j) s.toks) { s with toks := s.toks + 1 } → wpAny (model X.prog X.w) X.A (f (.int i t) (.int j u)) Q E s) :
    OpR X f (rI C fun i j => .int (g i j)) := by
  intro pins s σ H x y v u Q I rx ry h
  obtain ⟨i, j, rfl, rfl, hc, q⟩ := h
  obtain ⟨t, rfl⟩ := rx
  obtain ⟨t', rfl⟩ := ry
  exact rule i j t t' s _ _ hc ⟨.int (g i j), H, I.tok _, ⟨_, rfl⟩, q⟩
theorem qpB {f : Value → Value → Sem Value} {g : Int → Int → Int}
    (rule : ∀ (i j : Int) (t u : Tok) (s : Shared) (Q : Value → Shared → Prop) (E : Value → Shared → Prop), Q (.int (g i j) s.toks) { s with toks := s.toks + 1 } → wpAny (model X.prog X.w) X.A (f (.int i t) (.int j u)) Q E s) :
    OpR X f (rI0 fun i j => .int (g i j)) := by
  intro pins s σ H x y v u Q I rx ry h
  obtain ⟨i, j, rfl, rfl, q⟩ := h
  obtain ⟨t, rfl⟩ := rx
  obtain ⟨t', rfl⟩ := ry
  exact rule i j t t' s _ _ ⟨.int (g i j), H, I.tok _, ⟨_, rfl⟩, q⟩
theorem qpC {f : Value → Value → Sem Value} {g : Int → Int → Bool}
    (rule : ∀ (i j : Int) (t u : Tok) (s : Shared) (Q : Value → Shared → Prop) (E : Value → Shared → Prop), Q (.bool (g i j)) s → wpAny (model X.prog X.w) X.A (f (.int i t) (.int j u)) Q E s) :
    OpR X f (rI0 fun i j => .bl (g i j)) := by
  intro pins s σ H x y v u Q I rx ry h
  obtain ⟨i, j, rfl, rfl, q⟩ := h
  obtain ⟨t, rfl⟩ := rx
  obtain ⟨t', rfl⟩ := ry
  exact rule i j t t' s _ _ ⟨.bl (g i j), H, I, rfl, q⟩
theorem qci : OpR X (binaryOp .Add) (rI0 fun i j => .int (i + j)) := qpB fun _ _ _ _ _ _ _ q => add_int q
theorem qb4 : OpR X (binaryOp .Sub) (rI0 fun i j => .int (i - j)) := qpB fun _ _ _ _ _ _ _ q => sub_int q
theorem qbl : OpR X (binaryOp .Mod) (rI (fun _ j => 0 < j) fun i j => .int (i % j)) := opI fun i j _ _ _ _ _ hc q => by
  have h1 : (0 : Int) < j := hc
  exact mod_int' (by omega) (by rw [Int.fmod_eq_emod_of_nonneg i (by omega)]; exact q)
theorem qny : OpR X (binaryOp .Mod) (rI (fun _ j => j ≠ 0) fun i j => .int (i.fmod j)) := opI fun _ _ _ _ _ _ _ hc q => mod_int' hc q
theorem qkD : OpR X (inplaceOp .Add) (rI0 fun i j => .int (i + j)) := qpB fun _ _ _ _ _ _ _ q => iadd_int q
theorem unI {f : Value → Sem Value} {g : Int → Int}
    (rule : ∀ (i : Int) (t : Tok) (s : Shared) (Q : Value → Shared → Prop) (E : Value → Shared → Prop), Q (.int (g i) s.toks) { s with toks := s.toks + 1 } → wpAny (model X.prog X.w) X.A (f (.int i t)) Q E s) :
    UnR X f (rU fun i => .int (g i)) := by
  intro pins s σ H x v Q I rx h
  obtain ⟨i, rfl, q⟩ := h
  obtain ⟨t, rfl⟩ := rx
  exact rule i t s _ _ ⟨.int (g i), H, I.tok _, ⟨_, rfl⟩, q⟩
theorem qgC : UnR X (unaryOp .USub) (rU fun i => .int (-i)) := unI fun _ _ _ _ _ q => neg_int q
end
noncomputable def scal : V → V → Bool
  | .non, .non => true | .non, .int _ => true | .int _, .non => true | .non, .bl _ => true | .bl _, .non => true | .non, .str _ => true | .str _, .non => true
  | .int _, .int _ => true | .bl _, .bl _ => true | .str _, .str _ => true | .byt _, .byt _ => true
  | .int _, .str _ => true | .str _, .int _ => true | .bl _, .str _ => true | .str _, .bl _ => true
  | _, _ => false
noncomputable def rEq : R2 := fun x y H Q => scal x y = true ∧ Q (.bl (decide (x = y))) H
noncomputable def rNe : R2 := fun x y H Q => scal x y = true ∧ Q (.bl (!decide (x = y))) H
theorem qkE {i j : Int} : decide (V.int i = V.int j) = (i == j) := by
  rw [Bool.eq_iff_iff]
  simp
theorem qm2 {i j : Bool} : decide (V.bl i = V.bl j) = (i == j) := by
  rw [Bool.eq_iff_iff]
  simp
theorem qkF {i j : Str} : decide (V.str i = V.str j) = (i == j) := by
  rw [Bool.eq_iff_iff]
  simp
theorem qkG {i j : Array UInt8} : decide (V.byt i = V.byt j) = (i.toList == j.toList) := by
  rw [Bool.eq_iff_iff]
  cases i
  cases j
  simp
section
variable {X : Cx} {a b c : Expr} {ta tb tc : TE} {pos : Pos}
theorem qaJ {pins : List (Addr × Obj)} {σ : St} {H : Hp} {s : Shared} {Q : VK} {k k' : Bool} (I : Inv X pins σ H s) (q : Q (.bl k) H) (e : k = k') : EP X pins σ Q (.bool k') s := by
  subst e
  exact ⟨.bl k, H, I, rfl, q⟩
theorem qeS : OpR X (compareOp .Eq) rEq := by
  intro pins s σ H x y v u Q I rx ry h
  obtain ⟨hs, q⟩ := h
  cases x with
  | non =>
    cases rx
    cases y with
    | non => cases ry; exact PySem.EqNone.eq_none_none (qaJ I q (by simp))
    | bl j => cases ry; exact PySem.EqNone.eq_none_bool (qaJ I q (by simp))
    | int j => obtain ⟨t', rfl⟩ := ry; exact PySem.EqNone.eq_none_int (qaJ I q (by simp))
    | str j => obtain ⟨t', rfl⟩ := ry; exact PySem.EqNone.eq_none_str (qaJ I q (by simp))
    | _ => exact absurd (show false = true from hs) Bool.false_ne_true
  | bl i =>
    cases rx
    cases y with
    | non => cases ry; exact PySem.EqNone.eq_bool_none (qaJ I q (by simp))
    | bl j => cases ry; exact eq_bool (qaJ I q qm2)
    | str j => obtain ⟨t', rfl⟩ := ry; exact PySem.EqMixed.eq_bool_str (qaJ I q (by simp))
    | _ => exact absurd (show false = true from hs) Bool.false_ne_true
  | int i =>
    obtain ⟨t, rfl⟩ := rx
    cases y with
    | non => cases ry; exact PySem.EqNone.eq_int_none (qaJ I q (by simp))
    | int j => obtain ⟨t', rfl⟩ := ry; exact eq_int (qaJ I q qkE)
    | str j => obtain ⟨t', rfl⟩ := ry; exact PySem.EqMixed.eq_int_str (qaJ I q (by simp))
    | _ => exact absurd (show false = true from hs) Bool.false_ne_true
  | str i =>
    obtain ⟨t, rfl⟩ := rx
    cases y with
    | non => cases ry; exact PySem.EqNone.eq_str_none (qaJ I q (by simp))
    | bl j => cases ry; exact PySem.EqMixed.eq_str_bool (qaJ I q (by simp))
    | int j => obtain ⟨t', rfl⟩ := ry; exact PySem.EqMixed.eq_str_int (qaJ I q (by simp))
    | str j => obtain ⟨t', rfl⟩ := ry; exact eq_str (qaJ I q qkF)
    | _ => exact absurd (show false = true from hs) Bool.false_ne_true
  | byt i =>
    obtain ⟨t, rfl⟩ := rx
    cases y with
    | byt j => obtain ⟨t', rfl⟩ := ry; exact PySem.W.eq_bytes (qaJ I q qkG)
    | _ => exact absurd (show false = true from hs) Bool.false_ne_true
  | _ => cases y <;> exact absurd (show false = true from hs) Bool.false_ne_true
theorem qhc : OpR X (compareOp .NotEq) rNe := by
  intro pins s σ H x y v u Q I rx ry h
  obtain ⟨hs, q⟩ := h
  cases x with
  | non =>
    cases rx
    cases y with
    | non => cases ry; exact PySem.EqNone.ne_none_none (qaJ I q (by simp))
    | bl j => cases ry; exact PySem.EqNone.ne_none_bool (qaJ I q (by simp))
    | int j => obtain ⟨t', rfl⟩ := ry; exact PySem.EqNone.ne_none_int (qaJ I q (by simp))
    | str j => obtain ⟨t', rfl⟩ := ry; exact PySem.EqNone.ne_none_str (qaJ I q (by simp))
    | _ => exact absurd (show false = true from hs) Bool.false_ne_true
  | bl i =>
    cases rx
    cases y with
    | non => cases ry; exact PySem.EqNone.ne_bool_none (qaJ I q (by simp))
    | bl j => cases ry; exact ne_bool (qaJ I q (congrArg not qm2))
    | str j => obtain ⟨t', rfl⟩ := ry; exact PySem.EqMixed.ne_bool_str (qaJ I q (by simp))
    | _ => exact absurd (show false = true from hs) Bool.false_ne_true
  | int i =>
    obtain ⟨t, rfl⟩ := rx
    cases y with
    | non => cases ry; exact PySem.EqNone.ne_int_none (qaJ I q (by simp))
    | int j => obtain ⟨t', rfl⟩ := ry; exact ne_int (qaJ I q (congrArg not qkE))
    | str j => obtain ⟨t', rfl⟩ := ry; exact PySem.EqMixed.ne_int_str (qaJ I q (by simp))
    | _ => exact absurd (show false = true from hs) Bool.false_ne_true
  | str i =>
    obtain ⟨t, rfl⟩ := rx
    cases y with
    | non => cases ry; exact PySem.EqNone.ne_str_none (qaJ I q (by simp))
    | bl j => cases ry; exact PySem.EqMixed.ne_str_bool (qaJ I q (by simp))
    | int j => obtain ⟨t', rfl⟩ := ry; exact PySem.EqMixed.ne_str_int (qaJ I q (by simp))
    | str j => obtain ⟨t', rfl⟩ := ry; exact ne_str (qaJ I q (congrArg not qkF))
    | _ => exact absurd (show false = true from hs) Bool.false_ne_true
  | byt i =>
    obtain ⟨t, rfl⟩ := rx
    cases y with
    | byt j => obtain ⟨t', rfl⟩ := ry; exact PySem.W.ne_bytes (qaJ I q (congrArg not qkG))
    | _ => exact absurd (show false = true from hs) Bool.false_ne_true
  | _ => cases y <;> exact absurd (show false = true from hs) Bool.false_ne_true
theorem qnz : OpR X (compareOp .Lt) (rI0 fun i j => .bl (decide (i < j))) := qpC fun _ _ _ _ _ _ _ q => lt_int q
theorem qpD : OpR X (compareOp .LtE) (rI0 fun i j => .bl (decide (i ≤ j))) := qpC fun _ _ _ _ _ _ _ q => le_int q
theorem qeg : OpR X (compareOp .Gt) (rI0 fun i j => .bl (decide (j < i))) := qpC fun _ _ _ _ _ _ _ q => gt_int q
theorem qoE : OpR X (compareOp .Is) (fun x y H Q => y = .non ∧ Q (.bl (decide (x = .non))) H) := by
  intro pins s σ H x y v u Q I rx ry h
  obtain ⟨rfl, q⟩ := h
  cases ry
  refine is_none_gen (qaJ I q ?_)
  cases x <;> first
    | (cases rx; rfl)
    | (obtain ⟨t, rfl⟩ := rx; rfl)
theorem qnA : OpR X (compareOp .IsNot) (fun x y H Q => y = .non ∧ Q (.bl (!decide (x = .non))) H) := by
  intro pins s σ H x y v u Q I rx ry h
  obtain ⟨rfl, q⟩ := h
  cases ry
  refine isnot_none_gen (qaJ I q ?_)
  cases x <;> first
    | (cases rx; rfl)
    | (obtain ⟨t, rfl⟩ := rx; rfl)
theorem nomark (b : Expr) {op : CmpOp} (h : op ≠ .In := by decide) (h2 : op ≠ .NotIn := by decide) : behindInMarks op b = false := by
  have e1 : (op == CmpOp.In) = false := by cases op <;> first | rfl | exact absurd rfl h
  have e2 : (op == CmpOp.NotIn) = false := by cases op <;> first | rfl | exact absurd rfl h2
  cases b <;> simp [behindInMarks, e1, e2]
theorem qd1 {op : CmpOp} {r : R2} (ho : OpR X (compareOp op) r) (ha : PE X a ta) (hb : PE X b tb) (hm : behindInMarks op b = false) : PE X (.Compare a [op] [b] pos) (tOp r ta tb) := by
  intro pins s σ H Q I h
  exact wpAny_Compare1 (qpA ha hb I h fun v u s2 x y H2 I2 rx ry q => ho pins s2 σ H2 x y v u Q I2 rx ry q) hm
noncomputable def qaT (t : TE) : TT := fun σ H Q => t σ H fun x H' => ∃ k, x = .bl k ∧ Q k H'
theorem qkH {op : CmpOp} {r : R2} (ho : OpR X (compareOp op) r) (ha : PE X a ta) (hb : PE X b tb) (hm : behindInMarks op b = false) : PT X (.Compare a [op] [b] pos) (qaT (tOp r ta tb)) := by
  intro pins s σ H Q I h
  refine wpAny_isTrue_Compare1 (thn (ha pins s σ H _ I h) fun v s1 ⟨x, H1, I1, r1, q1⟩ => thn (hb pins s1 σ H1 _ I1 q1) fun u s2 ⟨y, H2, I2, r2, q2⟩ =>
    thn (ho pins s2 σ H2 x y v u _ I2 r1 r2 q2) fun c s3 ⟨z, H3, I3, r3, k, e, q3⟩ => ?_) hm
  subst e
  cases r3
  exact wpAny_truthy_bool ⟨H3, I3, q3⟩
noncomputable def qqh (K : PySem.W.Frag) (x : V) (H : Hp) (k : Bool) : Prop :=
  match x with
  | .non => k = false
  | .bl b => k = b
  | .int i => k = (i != 0)
  | .str y => y.length ≤ sizeLine ∧ k = ((y.length : Int) != 0)
  | .byt y => y.size ≤ sizeLine ∧ k = ((y.size : Int) != 0)
  | .ref p => (∃ xs, SqL K H p xs ∧ k = !xs.isEmpty) ∨ (∃ xs, SqT K H p xs ∧ k = !xs.isEmpty) ∨ ∃ kvs, H p = some (.dK kvs) ∧ k = !kvs.isEmpty
  | _ => False
theorem qjR {κ : Type} {kvs : List (κ × V)} {vs : List (κ × Value)} (r : KV kvs vs) : (!vs.isEmpty) = !kvs.isEmpty := by
  cases r <;> rfl
theorem qgD {xs : List V} {its : List Value} (r : Vals xs its) : (!its.toArray.isEmpty) = !xs.isEmpty := by
  cases r <;> simp
theorem qhQ : (sizeLine : Nat) < 2 ^ 63 := by rw [sizeLine_eq]; decide
theorem qoF : qqg X (fun x H Q => ∃ k, qqh X.K x H k ∧ Q k H) := by
  intro pins s σ H x v Q I rx h
  obtain ⟨k, e, q⟩ := h
  have hl := qhQ
  have hs : sizeLine = 16777216 := sizeLine_eq
  cases x with
  | non =>
    cases rx
    have e' : k = false := e
    subst e'
    exact truthy_none ⟨H, I, q⟩
  | bl b =>
    cases rx
    have e' : k = b := e
    subst e'
    exact wpAny_truthy_bool ⟨H, I, q⟩
  | int i =>
    obtain ⟨t, rfl⟩ := rx
    have e' : k = (i != 0) := e
    subst e'
    exact PySem.P.truthy_int ⟨H, I, q⟩
  | str y =>
    obtain ⟨t, rfl⟩ := rx
    obtain ⟨hy, e'⟩ : y.length ≤ sizeLine ∧ k = ((y.length : Int) != 0) := e
    subst e'
    exact PySem.P.truthy_str (by omega) ⟨H, I.tok _, q⟩
  | byt y =>
    obtain ⟨t, rfl⟩ := rx
    obtain ⟨hy, e'⟩ : y.size ≤ sizeLine ∧ k = ((y.size : Int) != 0) := e
    subst e'
    exact PySem.W.truthy_bytes (by omega) ⟨H, I.tok _, q⟩
  | ref p =>
    cases rx
    have e' : (∃ xs, SqL X.K H p xs ∧ k = !xs.isEmpty) ∨ (∃ xs, SqT X.K H p xs ∧ k = !xs.isEmpty) ∨ ∃ kvs, H p = some (.dK kvs) ∧ k = !kvs.isEmpty := e
    rcases e' with ⟨xs, hx, e'⟩ | ⟨xs, hx, e'⟩ | ⟨kvs, hx, e'⟩
    · subst e'
      obtain ⟨its, r, pl, hz⟩ := I.list hx
      have hlen := r.length
      exact wpAny_truthy_list pl.isList (by simp only [List.size_toArray]; omega) ⟨H, I.tok _, by rw [qgD r]; exact q⟩
    · subst e'
      obtain ⟨its, r, pl, hz⟩ := I.tuple hx
      have hlen := r.length
      exact truthy_tuple pl (by simp only [List.size_toArray]; omega) ⟨H, I.tok _, by rw [qgD r]; exact q⟩
    · subst e'
      obtain ⟨hz, hS, vs, r, m⟩ : kvs.length ≤ sizeLine ∧ (p == sysModules) = false ∧ ∃ vs, KV kvs vs ∧ s.heap.DictOf (qiu X.prog X.w) p vs := I.hok p _ hx
      have hlen : kvs.length = vs.length := Paired.length r
      exact wpAny_truthy_dict hS m (by omega) ⟨H, I.tok _, by rw [qjR r]; exact q⟩
  | _ => exact (show False from e).elim
theorem qgk {x : V} {us : List Value} (r : Vals [x] us) : ∃ u, us = [u] ∧ RelV x u := by
  cases r with
  | cons r1 r2 => cases r2; exact ⟨_, rfl, r1⟩
theorem vals2 {x y : V} {us : List Value} (r : Vals [x, y] us) : ∃ u w', us = [u, w'] ∧ RelV x u ∧ RelV y w' := by
  cases r with
  | cons r1 r2 =>
    cases r2 with
    | cons r3 r4 => cases r4; exact ⟨_, _, rfl, r1, r3⟩
theorem qmh : qcC X (.builtin "abs") (fun xs H Q => ∃ i, xs = [.int i] ∧ Q (.int (if i < 0 then -i else i)) H) := by
  intro pins s σ H xs us Q I r h
  obtain ⟨i, rfl, q⟩ := h
  obtain ⟨u, rfl, t, rfl⟩ := qgk r
  exact call_abs_int fun u tk => ⟨.int (if i < 0 then -i else i), H, I.tok _, ⟨_, rfl⟩, q⟩
theorem qkI (hc : X.calm = true) : qcC X (.builtin "max") (fun xs H Q => ∃ i j, xs = [.int i, .int j] ∧ Q (.int (if j > i then j else i)) H) := by
  intro pins s σ H xs us Q I r h
  obtain ⟨i, j, rfl, q⟩ := h
  obtain ⟨u, w', rfl, ⟨t, rfl⟩, ⟨t', rfl⟩⟩ := vals2 r
  refine max_two_ints (I.ok.hd hc) fun h' tk k => ⟨_, H, I.kept k, ?_, q⟩
  by_cases hj : j > i
  · rw [if_pos hj, if_pos hj]; exact ⟨_, rfl⟩
  · rw [if_neg hj, if_neg hj]; exact ⟨_, rfl⟩
theorem qkJ (hc : X.calm = true) : qcC X (.builtin "min") (fun xs H Q => ∃ i j, xs = [.int i, .int j] ∧ Q (.int (if j < i then j else i)) H) := by
  intro pins s σ H xs us Q I r h
  obtain ⟨i, j, rfl, q⟩ := h
  obtain ⟨u, w', rfl, ⟨t, rfl⟩, ⟨t', rfl⟩⟩ := vals2 r
  refine min_two_ints (I.ok.hd hc) fun h' tk k => ⟨_, H, I.kept k, ?_, q⟩
  by_cases hj : j < i
  · rw [if_pos hj, if_pos hj]; exact ⟨_, rfl⟩
  · rw [if_neg hj, if_neg hj]; exact ⟨_, rfl⟩
theorem qkK : qcC X (.type "int") (fun xs H Q => (∃ i, xs = [.int i] ∧ Q (.int i) H) ∨ ∃ k, xs = [.bl k] ∧ Q (.int (if k then 1 else 0)) H) := by
  intro pins s σ H xs us Q I r h
  rcases h with ⟨i, rfl, q⟩ | ⟨k, rfl, q⟩
  · obtain ⟨u, rfl, t, rfl⟩ := qgk r
    exact call_int_int ⟨.int i, H, I, ⟨_, rfl⟩, q⟩
  · obtain ⟨u, rfl, r1⟩ := qgk r
    cases r1
    exact call_int_bool ⟨.int (if k then 1 else 0), H, I.tok _, ⟨_, rfl⟩, q⟩
end
end L2
namespace L2
open PySem PySem.Spec PyProof.Rows
structure ObjM (h : Heap) (x dx C : Addr) (mA : Str → Option Value) : Prop where
  obj : h.get? x = some (PySem.W.instObj C dx)
  ns : h.Ns1 dx mA
  ne : dx ≠ x
theorem qkL {h : Heap} {dx : Addr} {mA : Str → Option Value} (n : h.Ns1 dx mA) : ∃ od, h.get? dx = some od ∧ ∀ name, PySem.W.lookIn name od = some (mA name) := by
  obtain ⟨o, es, ep, ho, hd, hk, _, hm⟩ := n
  refine ⟨o, ho, fun name => ?_⟩
  have e := hm name
  unfold nsFind findBy at e
  rw [← Array.find?_toList] at e
  unfold PySem.W.lookIn
  rw [hd]
  dsimp only
  split
  · rename_i y q
    rw [q] at e
    exact congrArg some e
  · rename_i q
    rw [q] at e
    have a : es.toList.any (·.refKey) = false := by
      rw [List.any_eq_false]
      intro y hy
      obtain ⟨z, t, hkey⟩ := hk y (Array.mem_toList_iff.mp hy)
      simp [DictEntry.refKey, hkey]
    have a' : ¬ es.toList.any (·.refKey) = true := by rw [a]; exact Bool.false_ne_true
    rw [if_neg a']
    exact congrArg some e
theorem ObjM.look {h : Heap} {x dx C : Addr} {mA : Str → Option Value} (I : ObjM h x dx C mA) : ∃ od, PySem.W.InstAt h x (PySem.W.instObj C dx) C (some od) ∧ ∀ name, PySem.W.lookIn name od = some (mA name) :=
  let ⟨od, ho, hl⟩ := qkL I.ns
  ⟨od, ⟨I.obj, rfl, rfl, ho⟩, hl⟩
section
variable {prog : Program} {w : World} {A : Around} {E : Value → Shared → Prop} {s : Shared} {K : PySem.W.Frag} {x dx C f : Addr} {mA : Str → Option Value} {name : Str} {v : Value}
theorem qnB {expr : Bool} {Q : Value → Shared → Prop} (X : K.In s.heap) (I : ObjM s.heap x dx C mA) (hg : PySem.W.plainGet K C name = true) (hh : PySem.W.hasDictIn K C = true)
    (ha : PySem.W.findIn K (.ref C) name = some none) (hv : mA name = some v) (hv' : PySem.W.handedIn v = true) (h : Q v { s with toks := s.toks + 1 }) :
    wpAny (model prog w) A (getAttr (.ref x) name expr) Q E s := by
  obtain ⟨od, J, hl⟩ := I.look
  exact PySem.W.get_value X J (PySem.W.plainGet_of hg).1 (PySem.W.findObj_own hh ha rfl (by rw [hl, hv])) hv' h
theorem qnC {ns : List Str} {Q : Unit → Shared → Prop} (X : K.In s.heap) (I : ObjM s.heap x dx C mA)
    (hs : PySem.W.findIn K (.ref C) "__setattr__" = some (some (.builtin "object.__setattr__"))) (hp : PySem.W.plainOver K C = true) (ht : PySem.W.takerIn K C name = some none) (hh : PySem.W.hasDictIn K C = true)
    (hw : PySem.Within mA ns) (hsz : ns.length ≤ sizeLine)
    (h : ∀ h', ObjM h' x dx C (fun y => if y = name then some v else mA y) → Heap.SameBut dx s.heap h' → Q () { s with heap := h', toks := s.toks + 2 }) :
    wpAny (model prog w) A (setAttr (.ref x) name v) Q E s := by
  obtain ⟨od, J, hl⟩ := I.look
  refine PySem.W.set_plain X J hs (PySem.W.osa_open (s := { s with toks := s.toks + 1 }) (r := none) X J hp ht fun b => ?_)
  obtain ⟨cd, hc, hd'⟩ := PySem.W.any_some hh
  have hx : s.heap.get? x = some ⟨.ref C, some dx, .plain, #[]⟩ := I.obj
  refine wpAny_bind (wpAny_pure (wpAny_bind (wpAny_bind (wpAny_loadPart hx (wpAny_bind (PySem.W.Looks.here (s := { s with toks := s.toks + 1 }) (PySem.W.looks_clsIn X hc) ?_))))))
  rw [hd']
  refine wpAny_pure (a := some dx) (wpAny_bind (wpAny_pure (wpAny_bind ?_)))
  refine wpAny_nsSet1 (s := { s with toks := s.toks + 1 }) I.ns fun h' hn2 hs2 => ?_
  obtain ⟨oD, esD, epD, hoD, hdD, hcD⟩ := hn2.count (PySem.Within.cons name v hw)
  refine wpAny_bind (wpAny_lookBehind hoD (by rw [hdD]; exact pastItsLine_dict (Nat.le_trans hcD (by rw [List.length_cons]; omega))) ?_)
  exact wpAny_pure (h _ ⟨(hs2.2 _ (Ne.symm I.ne)).trans I.obj, hn2, I.ne⟩ hs2)
theorem qmi {R : Result → Shared → Prop} {vs : List Value} {kw : List (Str × Value)} (X : K.In s.heap) (hm : PySem.W.makesIn K C = true)
    (hi : PySem.W.findIn K (.ref C) "__init__" = some (some (.ref f))) (hf : PySem.W.typeIn K (.ref f) = some (.type "function"))
    (h : codeAny (model prog w) (A.under (.builtin "type.__call__" ⟨.ref C :: vs, kw⟩)) (.call (.ref f) ⟨.ref (s.heap.objs.size + 1) :: vs, kw⟩) (PySem.W.InitBack (s.heap.objs.size + 1) R)
      { s with heap := (s.heap.push PySem.W.emptyDict).push (PySem.W.instObj C s.heap.objs.size) }) :
    codeAny (model prog w) A (.call (.ref C) ⟨vs, kw⟩) R s := by
  obtain ⟨hh, g, d, t, os⟩ := s
  exact PySem.W.make_core (PySem.W.makes_of X hm) (PySem.W.looks_findIn X hi) (fun self => PySem.W.bind_fn X self hf) (.inl rfl) h
end
noncomputable def qfx (f : Str) (v : V) : List (Str × V) → List (Str × V)
  | [] => [(f, v)]
  | (g, x) :: r => if g = f then (g, v) :: r else (g, x) :: qfx f v r
theorem qay (f g : Str) (v : V) : ∀ fs : List (Str × V), (qfx f v fs).lookup g = if g = f then some v else fs.lookup g
  | [] => by
    show List.lookup g [(f, v)] = _
    by_cases h : g = f
    · have hb : (g == f) = true := beq_iff_eq.mpr h
      simp only [List.lookup, hb, if_pos h]
    · have hb : (g == f) = false := beq_eq_false_iff_ne.mpr h
      simp only [List.lookup, hb, if_neg h]
  | (k, x) :: r => by
    have ih := qay f g v r
    rw [show qfx f v ((k, x) :: r) = (if k = f then (k, v) :: r else (k, x) :: qfx f v r) from rfl]
    by_cases hk : k = f
    · rw [if_pos hk]
      by_cases h : g = k
      · have hb : (g == k) = true := beq_iff_eq.mpr h
        simp only [List.lookup, hb, if_pos (h.trans hk)]
      · have hb : (g == k) = false := beq_eq_false_iff_ne.mpr h
        simp only [List.lookup, hb, if_neg (fun e : g = f => h (e.trans hk.symm))]
    · rw [if_neg hk]
      by_cases h : g = k
      · have hb : (g == k) = true := beq_iff_eq.mpr h
        simp only [List.lookup, hb, if_neg (fun e : g = f => hk (h.symm.trans e))]
      · have hb : (g == k) = false := beq_eq_false_iff_ne.mpr h
        simp only [List.lookup, hb]
        exact ih
theorem qfI (f : Str) (v : V) : ∀ fs : List (Str × V), f ∈ (qfx f v fs).map (·.1) ∧ ∀ g, g ∈ fs.map (·.1) → g ∈ (qfx f v fs).map (·.1)
  | [] => ⟨by simp [qfx], fun g h => by simp at h⟩
  | (k, x) :: r => by
    obtain ⟨i1, i2⟩ := qfI f v r
    rw [show qfx f v ((k, x) :: r) = (if k = f then (k, v) :: r else (k, x) :: qfx f v r) from rfl]
    by_cases hk : k = f
    · rw [if_pos hk]
      subst hk
      exact ⟨by simp, fun g h => by simpa using h⟩
    · rw [if_neg hk]
      refine ⟨?_, fun g h => ?_⟩
      · rw [List.map_cons]
        exact List.mem_cons_of_mem _ i1
      · rw [List.map_cons] at h ⊢
        rcases List.mem_cons.mp h with e | e
        · exact List.mem_cons.mpr (.inl e)
        · exact List.mem_cons_of_mem _ (i2 g e)
theorem qfJ (f : Str) (v : V) : ∀ fs : List (Str × V), (qfx f v fs).length ≤ fs.length + 1
  | [] => by simp [qfx]
  | (k, x) :: r => by
    have ih := qfJ f v r
    rw [show qfx f v ((k, x) :: r) = (if k = f then (k, v) :: r else (k, x) :: qfx f v r) from rfl]
    by_cases hk : k = f
    · rw [if_pos hk, List.length_cons, List.length_cons]; omega
    · rw [if_neg hk, List.length_cons, List.length_cons]; omega
theorem RelO.some_of {v : V} {o : Option Value} (r : RelO (some v) o) : ∃ u, o = some u ∧ RelV v u := by
  cases o with
  | none => exact (show False from r).elim
  | some u => exact ⟨u, rfl, r⟩
theorem qkM {v : V} {u : Value} (r : RelV v u) : PySem.W.handedIn u = true := by
  cases v with
  | non => cases (show u = Value.none from r); rfl
  | bl b => cases (show u = Value.bool b from r); rfl
  | int i => obtain ⟨t, e⟩ := (show ∃ t, u = Value.int i t from r); cases e; rfl
  | str x => obtain ⟨t, e⟩ := (show ∃ t, u = Value.str x t from r); cases e; rfl
  | byt b => obtain ⟨t, e⟩ := (show ∃ t, u = Value.bytes b t from r); cases e; rfl
  | flt b => obtain ⟨t, e⟩ := (show ∃ t, u = Value.float b t from r); cases e; rfl
  | ref a => cases (show u = Value.ref a from r); rfl
  | ty n => cases (show u = Value.type n from r); rfl
section
variable {P : Program} {w : World} {H H' : Hp} {h h' : Heap} {a C dx : Addr} {fs fs' : List (Str × V)}
theorem qkN (hok : HOk P w H h) (e : H a = some (.ins C dx fs)) : ∃ mA, ObjM h a dx C mA ∧ (∀ f, RelO (fs.lookup f) (mA f)) ∧ PySem.Within mA (fs.map (·.1)) ∧ fs.length ≤ 1000 ∧ H dx = some (.own a) := by
  obtain ⟨d, z, ne, ob, mA, n, r, q⟩ := (show ObjOk P w H h a (.ins C dx fs) from hok a _ e)
  exact ⟨mA, ⟨ob, n, ne⟩, r, q, z, d⟩
end
structure Cls (K : PySem.W.Frag) (C : Addr) : Prop where
  pg : PySem.W.plainGet K C Str.empty = true
  hd : PySem.W.hasDictIn K C = true
  po : PySem.W.plainOver K C = true
  sa : PySem.W.findIn K (.ref C) "__setattr__" = some (some (.builtin "object.__setattr__"))
theorem Cls.get {K : PySem.W.Frag} {C : Addr} (c : Cls K C) (f : Str) : PySem.W.plainGet K C f = true := c.pg
noncomputable def NoAttr (K : PySem.W.Frag) (C : Addr) (f : Str) : Prop := PySem.W.findIn K (.ref C) f = some none
theorem NoAttr.taker {K : PySem.W.Frag} {C : Addr} {f : Str} (n : NoAttr K C f) : PySem.W.takerIn K C f = some none := by
  unfold PySem.W.takerIn
  rw [show PySem.W.findIn K (.ref C) f = some none from n]
  rfl
structure Con (K : PySem.W.Frag) (C : Addr) (f : Str) (v : V) (u : Value) : Prop where
  at_ : PySem.W.findIn K (.ref C) f = some (some u)
  rel : RelV v u
  get : PySem.W.specialIn K u "__get__" = some none
  cp : PySem.W.copiedNames.contains f = false
structure Meth (K : PySem.W.Frag) (C : Addr) (m : Str) (f : Addr) : Prop where
  at_ : PySem.W.findIn K (.ref C) m = some (some (.ref f))
  fn : PySem.W.isFn K (.ref f) = true
  kp : PySem.W.keepIn K (.ref f) = true
section
variable {X : Cx} {pins : List (Addr × Obj)} {σ : St} {H : Hp} {s : Shared} {a C dx : Addr} {fs : List (Str × V)} {f : Str} {v : V} {A : Around} {E : Value → Shared → Prop}
theorem qjS {b : Bool} {Q : Value → Shared → Prop} (I : Inv X pins σ H s) (e : H a = some (.ins C dx fs)) (c : Cls X.K C) (n : NoAttr X.K C f) (l : fs.lookup f = some v)
    (h : ∀ u s', Inv X pins σ H s' → RelV v u → Q u s') : wpAny (model X.prog X.w) A (getAttr (.ref a) f b) Q E s := by
  obtain ⟨mA, O, r, _, _, _⟩ := qkN I.hok e
  obtain ⟨u, hu, ru⟩ := RelO.some_of (v := v) (o := mA f) (by rw [← l]; exact r f)
  exact qnB I.kIn O (c.get f) c.hd n hu (qkM ru) (h u _ (I.tok _) ru)
theorem qjT {y : V} {u : Value} {Q : Unit → Shared → Prop} (I : Inv X pins σ H s) (e : H a = some (.ins C dx fs)) (c : Cls X.K C) (n : NoAttr X.K C f) (hl : fs.length < 1000) (ry : RelV y u)
    (h : ∀ s', Inv X pins σ (upd H a (.ins C dx (qfx f y fs))) s' → Q () s') : wpAny (model X.prog X.w) A (setAttr (.ref a) f u) Q E s := by
  obtain ⟨mA, O, r, wi, _, ho⟩ := qkN I.hok e
  have hz : (fs.map (·.1)).length ≤ sizeLine := by rw [List.length_map, sizeLine_eq]; omega
  refine qnC I.kIn O c.sa c.po n.taker c.hd wi hz fun h' O' sb => h _ ?_
  have hd : ∃ o, h'.get? dx = some o := let ⟨o, _, _, e', _⟩ := O'.ns; ⟨o, e'⟩
  refine I.write (x := a) (e := dx) (by rw [e]; exact True.intro) (.inr ho) (fun b q hb z => (sb.2 b hb).trans z) hd ?_
  refine ⟨by rw [qav O.ne]; exact ho, ?_, O.ne, O'.obj, _, O'.ns, fun g => ?_, fun g hg => ?_⟩
  · have := qfJ f y fs; omega
  · show RelO ((qfx f y fs).lookup g) (if g = f then some u else mA g)
    rw [qay]
    by_cases q : g = f
    · rw [if_pos q, if_pos q]; exact ry
    · rw [if_neg q, if_neg q]; exact r g
  · by_cases q : g = f
    · rw [q]; exact (qfI f y fs).1
    · refine (qfI f y fs).2 g (wi g fun z => hg ?_)
      show (if g = f then some u else mA g) = none
      rw [if_neg q]; exact z
theorem Inv.made (I : Inv X pins σ H s) : Inv X pins σ (upd (upd H s.heap.objs.size (.own (s.heap.objs.size + 1))) (s.heap.objs.size + 1) (.ins C s.heap.objs.size []))
    { s with heap := (s.heap.push PySem.W.emptyDict).push (PySem.W.instObj C s.heap.objs.size) } := by
  have e1 : (s.heap.push PySem.W.emptyDict).get? s.heap.objs.size = some PySem.W.emptyDict := Heap.get?_push_size s.heap rfl
  have e2 : ((s.heap.push PySem.W.emptyDict).push (PySem.W.instObj C s.heap.objs.size)).get? (s.heap.objs.size + 1) = some (PySem.W.instObj C s.heap.objs.size) := by
    have := Heap.get?_push_size (s.heap.push PySem.W.emptyDict) (o := PySem.W.instObj C s.heap.objs.size) rfl
    rwa [Heap.size_push] at this
  have e3 : (s.heap.push PySem.W.emptyDict).Ns s.heap.objs.size (fun _ => none) := ⟨PySem.W.emptyDict, #[], _, e1, rfl, (fun e he => absurd he (by simp)), fun _ => rfl⟩
  have I1 := I.laid (a := s.heap.objs.size) (o := .own (s.heap.objs.size + 1)) (h' := s.heap.push PySem.W.emptyDict) (t' := s.toks) (fun b u q => Heap.get?_push_of_some _ q) (Nat.le_refl _) ⟨_, e1⟩
  refine I1.laid (a := s.heap.objs.size + 1) (o := .ins C s.heap.objs.size []) (t' := s.toks) (fun b u q => Heap.get?_push_of_some _ q) (Nat.le_of_eq (Heap.size_push _ _)) ?_
  have ne : s.heap.objs.size ≠ s.heap.objs.size + 1 := Nat.ne_of_lt (Nat.lt_succ_self _)
  refine ⟨by rw [qav ne, qac], Nat.zero_le _, ne, e2, fun _ => none, (Heap.Ns1.of_empty e3).at fun o q => Heap.get?_push_of_some _ q, fun _ => True.intro, fun y hy => absurd rfl hy⟩
theorem qnD {prog : Program} {w : World} {env : Env} {e : Expr} {f : Str} {pos : Pos} {s : Shared} {Q : Value → Shared → Prop} (hb : attributeBase e f env (eval e env) = eval e env)
    (h : wpAny (model prog w) A (eval e env) (fun o s₁ => wpAny (model prog w) A (getAttr o f true) Q E s₁) E s) : wpAny (model prog w) A (eval (.Attribute e f pos) env) Q E s :=
  Attribute_any_ h (by rw [arm_eval_Attribute, hb])
end
noncomputable def qgi (K : PySem.W.Frag) (ta : TE) (f : Str) : TE := fun σ H Q => ta σ H fun x H1 => ∃ a C dx fs v, x = .ref a ∧ H1 a = some (.ins C dx fs) ∧ Cls K C ∧ NoAttr K C f ∧ fs.lookup f = some v ∧ Q v H1
noncomputable def qnE (K : PySem.W.Frag) (ta tv : TE) (f : Str) : TS := fun D σ H => tv σ H fun y H1 => ta σ H1 fun x H2 => ∃ a C dx fs, x = .ref a ∧ H2 a = some (.ins C dx fs) ∧ Cls K C ∧ NoAttr K C f ∧ fs.length < 1000 ∧
  D.nx σ (upd H2 a (.ins C dx (qfx f y fs)))
section
variable {X : Cx} {o e value : Expr} {f : Str} {pos pos' tpos : Pos} {ta tv : TE}
theorem qbe (he : PE X e ta) (hb : attributeBase e f X.env (eval e X.env) = eval e X.env) : PE X (.Attribute e f pos) (qgi X.K ta f) := by
  intro pins s σ H Q I h
  refine qnD hb (thn (he pins s σ H _ I h) fun u s1 ⟨x, H1, I1, rx, a, C, dx, fs, v, ex, ea, c, n, l, q⟩ => ?_)
  subst ex
  obtain rfl : u = Value.ref a := rx
  exact qjS I1 ea c n l fun u' s2 I2 ru => ⟨v, H1, I2, ru, q⟩
theorem qhR (ha : PE X o ta) (hv : PE X value tv) (hs : swapsWith value (some (.Attribute o f pos')) pos.line X.env = pure false) : PS X (.Assign [.Attribute o f pos'] value pos) (qnE X.K ta tv f) := by
  intro pins s σ H D I h
  refine plainObj_wpAny_Assign_Attribute (thn (hv pins s σ H _ I h) fun u s1 ⟨y, H1, I1, ry, q⟩ => thn (ha pins s1 σ H1 _ I1 q) fun ov s2 ⟨x, H2, I2, rx, a, C, dx, fs, ex, ea, c, n, l, q2⟩ => ?_) hs
  subst ex
  obtain rfl : ov = Value.ref a := rx
  exact qjT I2 ea c n l ry fun s3 I3 => ⟨σ, _, I3, q2⟩
end
section
variable {X : Cx} {pins : List (Addr × Obj)} {σ : St} {H : Hp} {s : Shared} {A : Around} {E : Value → Shared → Prop} {Q : Value → Shared → Prop} {c : Value} {b : Bool}
inductive TyOf (K : PySem.W.Frag) (H : Hp) : V → Value → Prop where
  | non : TyOf K H .non (.type "NoneType")
  | bl (x : Bool) : TyOf K H (.bl x) (.type "bool")
  | int (i : Int) : TyOf K H (.int i) (.type "int")
  | str (x : Str) : TyOf K H (.str x) (.type "str")
  | flt (x : UInt64) : TyOf K H (.flt x) (.type "float")
  | lst {a : Addr} {xs : List V} (e : H a = some (.lst xs)) : TyOf K H (.ref a) (.type "list")
  | frz {a : Addr} {o : Obj} {xs : List V} (e : H a = some (.frz o (.lst xs))) : TyOf K H (.ref a) (.type "list")
  | tup {a : Addr} {xs : List V} (e : H a = some (.tup xs)) : TyOf K H (.ref a) (.type "tuple")
  | dK {a : Addr} {kvs : List (Key × V)} (e : H a = some (.dK kvs)) : TyOf K H (.ref a) (.type "dict")
  | dT {a : Addr} {kvs : List (List Key × V)} (e : H a = some (.dT kvs)) : TyOf K H (.ref a) (.type "dict")
  | ins {a C dx : Addr} {fs : List (Str × V)} (e : H a = some (.ins C dx fs)) (cl : Cls K C) (ha : PySem.W.findIn K (.ref C) "__class__" = some (some (.builtin "object.__class__")))
      (hn : PySem.W.specialIn K (.builtin "object.__class__") "__get__" = some (some (.builtin "getset_descriptor.__get__"))) (htk : PySem.W.takesIn K (.builtin "object.__class__") = some true)
      (hm : PySem.W.mroIn K C (.type "object") = some true) : TyOf K H (.ref a) (.ref C)
end
end L2
namespace L2
open PySem PySem.Spec PyProof.Rows
structure Room (k : Nat) (A : Around) : Prop where
  hd : A.handled = none
  dp : A.depth + 3 * k + 105 < recursionLimit
  un : A.units + 16 * k + 200 < cLine
theorem Room.mono {j k : Nat} {A : Around} (r : Room k A) (h : j ≤ k) : Room j A := ⟨r.hd, by have := r.dp; omega, by have := r.un; omega⟩
theorem Room.deeper {k : Nat} {A : Around} (r : Room (k + 1) A) (env : Env) : Room k (A.deeper env) :=
  ⟨r.hd, by have := r.dp; show A.depth + 1 + 3 * k + 105 < _; omega, by have := r.un; show A.units + 3 + 16 * k + 200 < _; omega⟩
theorem qjU {A : Around} {C : Addr} {us : List Value} {kw : List (Str × Value)} : (A.under (.builtin "type.__call__" ⟨.ref C :: us, kw⟩)).depth = A.depth + 1 := by
  first | rfl | simp [Around.under, Code.weight, Code.isCreation, Code.isGuard, Code.isCaller, Code.frames, Code.isFrame, guardIds]
theorem qjV {A : Around} {C : Addr} {us : List Value} {kw : List (Str × Value)} : (A.under (.builtin "type.__call__" ⟨.ref C :: us, kw⟩)).units = A.units + 1 := by
  first | rfl | simp [Around.under, Code.cUnits, Code.frames, Code.isFrame]
theorem Room.make {k : Nat} {A : Around} (r : Room (k + 1) A) (C : Addr) (us : List Value) (kw : List (Str × Value)) : Room k (A.under (.builtin "type.__call__" ⟨.ref C :: us, kw⟩)) :=
  ⟨r.hd, by have := r.dp; rw [qjU]; omega, by have := r.un; rw [qjV]; omega⟩
theorem Room.depth {k : Nat} {A : Around} (r : Room k A) : A.depth < recursionLimit := by have := r.dp; omega
theorem Room.units {k : Nat} {A : Around} (r : Room k A) : A.units + 64 < cLine := by have := r.un; omega
theorem Room.units0 {k : Nat} {A : Around} (r : Room k A) : A.units < cLine := by have := r.un; omega
noncomputable def qao : TA := fun _ H Q => Q [] H
noncomputable def qab (ta : TE) (tr : TA) : TA := fun σ H Q => ta σ H fun x H1 => tr σ H1 fun xs H2 => Q (x :: xs) H2
section
variable {X : Cx} {e : Expr} {es : List Expr} {te : TE} {t : TA} {pos : Pos}
theorem qam : PA X [] qao := fun _ _ _ _ H Q I h => Calls.spliced_nil ⟨[], H, I, .nil, h⟩
theorem qad (ha : PE X e te) (hr : PA X es t) (hs : starEach (e :: es) X.env = (false, eval e X.env) :: starEach es X.env := by rfl) : PA X (e :: es) (qab te t) := by
  intro pos pins s σ H Q I h
  rw [hs]
  show wpAny _ _ (spliced ((false, eval e X.env) :: backTo pos (starEach es X.env))) _ _ s
  refine Calls.spliced_cons (thn (ha pins s σ H _ I h) fun u s1 ⟨x, H1, I1, r1, q1⟩ => ?_)
  exact thn (hr pos pins s1 σ H1 _ I1 q1) fun us s2 ⟨xs, H2, I2, r2, q2⟩ => ⟨x :: xs, H2, I2, .cons r1 r2, q2⟩
noncomputable def qgj (t : TA) : TE := fun σ H Q => t σ H fun xs H1 => xs.length ≤ sizeLine ∧ ∀ p, H1 p = none → Q (.ref p) (upd H1 p (.tup xs))
noncomputable def qfy (t : TA) : TE := fun σ H Q => t σ H fun xs H1 => xs.length ≤ sizeLine ∧ ∀ p, H1 p = none → Q (.ref p) (upd H1 p (.lst xs))
theorem qbP {x1} (h : PA X es t) : PE X (.Tuple es x1 pos) (qgj t) := by
  intro pins s σ H Q I hq
  refine wpAny_Tuple_spliced (thn (h pos pins s σ H _ I hq) fun us s1 ⟨xs, H1, I1, r, z, q⟩ => ⟨by rw [← r.length]; exact z, ?_⟩)
  have hf : H1 s1.heap.objs.size = none := I1.hok.fresh (Nat.le_refl _)
  refine ⟨.ref s1.heap.objs.size, upd H1 s1.heap.objs.size (.tup xs), I1.laid (t' := s1.toks) (fun b u e => Heap.get?_push_of_some _ e) (Nat.le_refl _) ?_, rfl, q _ hf⟩
  exact ⟨z, us, r, ⟨_, Heap.get?_push_size _ rfl, rfl, _, rfl⟩⟩
theorem qcL (h : PA X es t) : PE X (.List es pos) (qfy t) := by
  intro pins s σ H Q I hq
  refine wpAny_List_spliced (thn (h pos pins s σ H _ I hq) fun us s1 ⟨xs, H1, I1, r, z, q⟩ => ⟨by rw [← r.length]; exact z, ?_⟩)
  have hf : H1 s1.heap.objs.size = none := I1.hok.fresh (Nat.le_refl _)
  refine ⟨.ref s1.heap.objs.size, upd H1 s1.heap.objs.size (.lst xs), I1.laid (t' := s1.toks) (fun b u e => Heap.get?_push_of_some _ e) (Nat.le_refl _) ?_, rfl, q _ hf⟩
  exact ⟨z, us, 0, r, Heap.get?_push_size _ rfl⟩
end
noncomputable abbrev Sp := List V → Hp → VK → XK → Prop
noncomputable abbrev CXT := List Env → Hp → Shared → XK → Value → Shared → Prop
structure Env0 (P : Program) (w : World) (K : PySem.W.Frag) (mg : Str → Option Value) (base : Heap) (A : Around) (outer : List Env) (s : Shared) (H : Hp) : Prop where
  frames : A.frames = some outer
  mod : Mod K mg base
  bs : ∀ b o, base.get? b = some o → s.heap.get? b = some o ∧ H b = none
  bsz : base.objs.size ≤ s.heap.objs.size
  funs : s.heap.FunFrames base outer
  frf : ∀ b ∈ frs outer, H b = none
  hok : HOk P w H s.heap
  bare : AllBare s.gens
  seer : base.NoSeer
  tree : (model P w).prog.given.tree = none
noncomputable def CE (outer : List Env) (P : Program) (w : World) (H : Hp) (s : Shared) (Q : VK) (u : Value) (s' : Shared) : Prop :=
  ∃ v H', s'.os = s.os ∧ AllBare s'.gens ∧ Un (frs outer) [] H H' s.heap s'.heap ∧ HOk P w H' s'.heap ∧ RelV v u ∧ Q v H'
noncomputable def CR (CX : CXT) (outer : List Env) (P : Program) (w : World) (H : Hp) (s : Shared) (Q : VK) (E : XK) (r : Result) (s' : Shared) : Prop :=
  match r with
  | .ok (.ret u) => CE outer P w H s Q u s'
  | .ok _ => False
  | .error e => CX outer H s E e s'
structure FnOk (P : Program) (w : World) (K : PySem.W.Frag) (mg : Str → Option Value) (base : Heap) (CX : CXT) (k : Nat) (f : Addr) (fd : FuncData) (ps : List Str) (sp : Sp) : Prop where
  len : ∀ vs H Q E, sp vs H Q E → vs.length = ps.length
  run : ∀ (A : Around) (outer : List Env) (s : Shared) (H : Hp) (args : Args) (us : List Value) (vs : List V) (Q : VK) (E : XK), Room k A → Env0 P w K mg base A outer s H → BindsTo s fd args (ps.zip us) → Vals vs us → sp vs H Q E →
    codeAny (model P w) A (.call (.ref f) args) (CR CX outer P w H s Q E) s
theorem Env0.make {P : Program} {w : World} {K : PySem.W.Frag} {mg : Str → Option Value} {base : Heap} {A : Around} {outer : List Env} {s : Shared} {H : Hp} (e : Env0 P w K mg base A outer s H) (C : Addr) (us : List Value) (kw : List (Str × Value)) :
    Env0 P w K mg base (A.under (.builtin "type.__call__" ⟨.ref C :: us, kw⟩)) outer s H := ⟨by first | exact e.frames | (simpa [Around.under, Code.envs, Code.isFrame, pushEnvs] using e.frames), e.mod, e.bs, e.bsz, e.funs, e.frf, e.hok, e.bare, e.seer, e.tree⟩
section
variable {X : Cx} {pins : List (Addr × Obj)} {σ : St} {H : Hp} {s s' : Shared}
theorem Inv.env0 (I : Inv X pins σ H s) : Env0 X.prog X.w X.K X.mg X.base X.A X.stack s H :=
  ⟨I.ok.frames, I.ok.mod, I.bs, Nat.le_trans I.ok.bsz I.sz, I.stack, I.stkFree, I.hok, I.bare, I.ok.seer, I.ok.tree⟩
theorem Inv.after {Q : VK} {u : Value} (I : Inv X pins σ H s) (h : CE X.stack X.prog X.w H s Q u s') : EP X pins σ Q u s' := by
  obtain ⟨v, H', os, bare, un, hok, r, q⟩ := h
  obtain ⟨hh, g, d, t, os'⟩ := s'
  obtain rfl : os' = s.os := os
  exact ⟨v, H', I.call (h' := hh) (g' := g) (d' := d) (t' := t) (ch := []) un hok bare (fun b z => absurd z (by simp)), r, q⟩
end
noncomputable def qap (sp : Sp) (dvs : List V) (E : XK) (t : TA) : TE := fun σ H Q => t σ H fun vs H1 => sp (vs ++ dvs) H1 Q E
noncomputable def qjW (C : Addr) (sp : Sp) (dvs : List V) (E : XK) (t : TA) : TE := fun σ H Q => t σ H fun vs H1 => ∀ x dx, H1 x = none → H1 dx = none → dx ≠ x →
  sp (.ref x :: (vs ++ dvs)) (upd (upd H1 dx (.own x)) x (.ins C dx [])) (fun v H2 => v = .non ∧ Q (.ref x) H2) E
noncomputable def Binds (K : PySem.W.Frag) (fd : FuncData) (ps : List Str) (ds : List Value) : Prop :=
  ∀ (s : Shared) (us : List Value), K.In s.heap → (us ++ ds).length = ps.length → BindsTo s fd ⟨us, []⟩ (ps.zip (us ++ ds))
theorem Binds.all {K : PySem.W.Frag} {fd : FuncData} {ps : List Str} (h : ∀ us : List Value, us.length = ps.length → bindArgs fd ⟨us, []⟩ = pure (ps.zip us)) : Binds K fd ps [] := fun s us _ hl => by
  rw [List.append_nil] at hl ⊢
  exact .of_eq (h us hl)
noncomputable def Passes (CX : CXT) (X : Cx) (E : XK) : Prop := ∀ (pins : List (Addr × Obj)) (σ : St) (H : Hp) (s : Shared) (e : Value) (s' : Shared), Inv X pins σ H s → CX X.stack H s E e s' → X.xe e s'
section
variable {X : Cx} {CX : CXT} {k : Nat} {f C : Addr} {fd : FuncData} {ps : List Str} {sp : Sp} {dvs : List V} {ds : List Value} {E : XK} {x m : Str} {p pos apos : Pos} {e o : Expr} {es : List Expr} {ta : TE} {t : TA}
theorem qoG {pins : List (Addr × Obj)} {σ : St} {H : Hp} {s : Shared} {Q : VK} {us : List Value} {vs : List V} (F : FnOk X.prog X.w X.K X.mg X.base CX k f fd ps sp) (hr : Room k X.A) (hb : Binds X.K fd ps ds) (hd : Vals dvs ds) (hx : Passes CX X E)
    (I : Inv X pins σ H s) (r : Vals vs us) (h : sp (vs ++ dvs) H Q E) : wpAny (model X.prog X.w) X.A (call (.ref f) us) (EP X pins σ Q) X.xe s := by
  have r2 : Vals (vs ++ dvs) (us ++ ds) := r.append hd
  have hl : (us ++ ds).length = ps.length := by rw [← r2.length]; exact F.len _ _ _ _ h
  refine wpAny_call (codeAny_mono (F.run X.A X.stack s H ⟨us, []⟩ (us ++ ds) (vs ++ dvs) Q E hr I.env0 (hb s us I.kIn hl) r2 h) fun r s' hq => ?_)
  cases r with
  | error e => exact hx pins σ H s e s' I hq
  | ok fl =>
    cases fl with
    | ret u => exact I.after hq
    | next => exact False.elim hq
    | brk => exact False.elim hq
    | cont => exact False.elim hq
theorem qnF (F : FnOk X.prog X.w X.K X.mg X.base CX k f fd ps sp) (hr : Room k X.A) (hg : Gl X x) (hm : X.mg x = some (.ref f)) (hk : PySem.W.keepIn X.K (.ref f) = true) (hb : Binds X.K fd ps ds) (hd : Vals dvs ds) (hx : Passes CX X E)
    (ha : PA X (e :: es) t) (hdb : (x == ("__debug__" : Str)) = false := by decide) (he : starEach (e :: es) X.env = (false, eval e X.env) :: starEach es X.env := by rfl) (hpl : (backTo pos (starEach es X.env)).any (·.1) = false := by rfl) :
    PE X (.Call (.Name x p) (e :: es) [] pos) (qap sp dvs E t) := by
  intro pins s σ H Q I h
  refine wpAny_Call_Name_kw (qiw I hg hm ?_ hdb)
  refine PySem.W.callWith_K (h₀ := X.base) I.ok.mod.kin hk (thn (ha pos pins s σ H _ I h) fun us s1 ⟨vs, H1, I1, r, q⟩ => ⟨I1.kIn, ?_⟩) he hpl
  exact qoG F hr hb hd hx I1 r q
structure Mk (K : PySem.W.Frag) (C f : Addr) : Prop where
  makes : PySem.W.makesIn K C = true
  init : PySem.W.findIn K (.ref C) "__init__" = some (some (.ref f))
  fn : PySem.W.isFn K (.ref f) = true
  kp : PySem.W.keepIn K (.ref C) = true
theorem qmj {pins : List (Addr × Obj)} {σ : St} {H : Hp} {s : Shared} {Q : VK} {us : List Value} {vs : List V} (M : Mk X.K C f) (F : FnOk X.prog X.w X.K X.mg X.base CX k f fd ps sp) (hr : Room (k + 1) X.A) (hb : Binds X.K fd ps ds) (hd : Vals dvs ds)
    (hx : Passes CX X E) (I : Inv X pins σ H s) (r : Vals vs us)
    (h : ∀ x dx, H x = none → H dx = none → dx ≠ x → sp (.ref x :: (vs ++ dvs)) (upd (upd H dx (.own x)) x (.ins C dx [])) (fun v H2 => v = .non ∧ Q (.ref x) H2) E) :
    wpAny (model X.prog X.w) X.A (call (.ref C) us) (EP X pins σ Q) X.xe s := by
  have hq := h (s.heap.objs.size + 1) s.heap.objs.size (I.hok.fresh (Nat.le_succ _)) (I.hok.fresh (Nat.le_refl _)) (Nat.ne_of_lt (Nat.lt_succ_self _))
  have I2 := Inv.made (C := C) I
  have r2 : Vals (V.ref (s.heap.objs.size + 1) :: (vs ++ dvs)) (Value.ref (s.heap.objs.size + 1) :: (us ++ ds)) := .cons rfl (r.append hd)
  have hl : (Value.ref (s.heap.objs.size + 1) :: us ++ ds).length = ps.length := by
    have e := r2.length
    rw [F.len _ _ _ _ hq] at e
    exact e.symm
  refine wpAny_call (qmi (f := f) I.kIn M.makes M.init (beq_iff_eq.mp M.fn) (codeAny_mono (F.run _ X.stack _ _ ⟨Value.ref (s.heap.objs.size + 1) :: us, []⟩ (Value.ref (s.heap.objs.size + 1) :: (us ++ ds)) _ _ E (hr.make C us [])
    (I2.env0.make C us []) (hb _ (Value.ref (s.heap.objs.size + 1) :: us) I2.kIn hl) r2 hq) fun r s' hq' => ?_))
  cases r with
  | error e => exact hx pins σ _ _ e s' I2 hq'
  | ok fl =>
    cases fl with
    | ret u =>
      obtain ⟨v, H', I3, rv, ev, q3⟩ := I2.after hq'
      subst ev
      exact ⟨rv, ⟨V.ref (s.heap.objs.size + 1), H', I3, rfl, q3⟩⟩
    | next => exact False.elim hq'
    | brk => exact False.elim hq'
    | cont => exact False.elim hq'
theorem qnG (M : Mk X.K C f) (F : FnOk X.prog X.w X.K X.mg X.base CX k f fd ps sp) (hr : Room (k + 1) X.A) (hg : Gl X x) (hm : X.mg x = some (.ref C)) (hb : Binds X.K fd ps ds) (hd : Vals dvs ds) (hx : Passes CX X E)
    (ha : PA X (e :: es) t) (hdb : (x == ("__debug__" : Str)) = false := by decide) (he : starEach (e :: es) X.env = (false, eval e X.env) :: starEach es X.env := by rfl) (hpl : (backTo pos (starEach es X.env)).any (·.1) = false := by rfl) :
    PE X (.Call (.Name x p) (e :: es) [] pos) (qjW C sp dvs E t) := by
  intro pins s σ H Q I h
  refine wpAny_Call_Name_kw (qiw I hg hm ?_ hdb)
  refine PySem.W.callWith_K (h₀ := X.base) I.ok.mod.kin M.kp (thn (ha pos pins s σ H _ I h) fun us s1 ⟨vs, H1, I1, r, q⟩ => ⟨I1.kIn, ?_⟩) he hpl
  exact qmj M F hr hb hd hx I1 r q
end
section
variable {X : Cx} {CX : CXT} {k : Nat} {f C : Addr} {fd : FuncData} {ps ks : List Str} {sp : Sp} {E : XK} {x m : Str} {p pos apos kpos : Pos} {e o : Expr} {es : List Expr} {kws : List Keyword} {te ta : TE} {t tk : TA} {nm : Option Str}
structure KBinds (K : PySem.W.Frag) (fd : FuncData) (ps ks : List Str) (g : List Value → List Value → List Value) (gV : List V → List V → List V) : Prop where
  to : ∀ (s : Shared) (us ws : List Value), K.In s.heap → (g us ws).length = ps.length → BindsTo s fd ⟨us, ks.zip ws⟩ (ps.zip (g us ws))
  rel : ∀ {vs : List V} {us : List Value} {zs : List V} {ws : List Value}, Vals vs us → Vals zs ws → Vals (gV vs zs) (g us ws)
variable {g : List Value → List Value → List Value} {gV : List V → List V → List V}
end
structure FnScope (N P : List Str) (sc : Scope) : Prop where
  kind : sc.kind = .function
  co : sc.isCoroutine = false
  gen : sc.isGenerator = false
  nd : N.Nodup
  pre : N.take P.length = P
  par : ∀ x ∈ P, sc.names.lookup x = some .local ∨ sc.names.lookup x = some .cell
  nofree : ∀ y ∈ sc.names, y.2 ≠ .free
theorem qhS {kindOf : Str → Option NameKind} {x : Str} : ∀ {binds : List (Str × Value)} {m : Str → Option Value}, (∀ v, (x, v) ∉ binds) → bindL kindOf binds m x = m x
  | [], _, _ => rfl
  | (n, v) :: r, m, h => by
    unfold bindL
    rw [qhS fun w hw => h w (List.mem_cons_of_mem _ hw)]
    split
    · have : x ≠ n := by rintro rfl; exact h v List.mem_cons_self
      simp [this]
    · rfl
theorem qhT {kindOf : Str → Option NameKind} {x : Str} : ∀ {binds : List (Str × Value)} {m : Str → Option Value}, (∀ v, (x, v) ∉ binds) → bindC kindOf binds m x = m x
  | [], _, _ => rfl
  | (n, v) :: r, m, h => by
    unfold bindC
    rw [qhT fun w hw => h w (List.mem_cons_of_mem _ hw)]
    split
    · rfl
    · have : x ≠ n := by rintro rfl; exact h v List.mem_cons_self
      simp [this]
theorem qhU {kindOf : Str → Option NameKind} {x : Str} {v : Value} : ∀ {P : List Str} {vs : List Value} {i : Nat} {m : Str → Option Value}, P.Nodup → P[i]? = some x → vs[i]? = some v → kindOf x = some .local →
    bindL kindOf (P.zip vs) m x = some v
  | [], _, _, _, _, h, _, _ => by simp at h
  | _ :: _, [], _, _, _, _, h, _ => by simp at h
  | p :: P, w :: vs, 0, m, nd, h1, h2, hk => by
    simp at h1 h2; subst h1; subst h2
    show bindL kindOf ((p, w) :: P.zip vs) m p = _
    unfold bindL
    rw [qhS fun v hv => (List.nodup_cons.mp nd).1 (List.of_mem_zip hv).1, if_pos hk]
    simp
  | p :: P, w :: vs, i + 1, m, nd, h1, h2, hk => by
    show bindL kindOf ((p, w) :: P.zip vs) m x = _
    unfold bindL
    exact qhU (i := i) (List.nodup_cons.mp nd).2 (by simpa using h1) (by simpa using h2) hk
theorem qhV {kindOf : Str → Option NameKind} {x : Str} {v : Value} : ∀ {P : List Str} {vs : List Value} {i : Nat} {m : Str → Option Value}, P.Nodup → P[i]? = some x → vs[i]? = some v → kindOf x ≠ some .local →
    bindC kindOf (P.zip vs) m x = some v
  | [], _, _, _, _, h, _, _ => by simp at h
  | _ :: _, [], _, _, _, _, h, _ => by simp at h
  | p :: P, w :: vs, 0, m, nd, h1, h2, hk => by
    simp at h1 h2; subst h1; subst h2
    show bindC kindOf ((p, w) :: P.zip vs) m p = _
    unfold bindC
    rw [qhT fun v hv => (List.nodup_cons.mp nd).1 (List.of_mem_zip hv).1, if_neg hk]
    simp
  | p :: P, w :: vs, i + 1, m, nd, h1, h2, hk => by
    show bindC kindOf ((p, w) :: P.zip vs) m x = _
    unfold bindC
    exact qhV (i := i) (List.nodup_cons.mp nd).2 (by simpa using h1) (by simpa using h2) hk
noncomputable def start (N : List Str) (vs : List V) : St := vs.map some ++ List.replicate (N.length - vs.length) none
noncomputable def qnH (CX : CXT) (P : Program) (w : World) (K : PySem.W.Frag) (mg : Str → Option Value) (base : Heap) (N : List Str) (qual : Str) (scope : Scope) (f : Addr) (cd : Value) (A : Around) (outer : List Env) (s : Shared) (H : Hp) (E : XK) : Cx where
  prog := P
  w := w
  K := K
  mg := mg
  base := base
  A := A.deeper (envOfC qual scope s.heap.objs.size f cd)
  N := N
  s₀ := s
  H₀ := H
  env := envOfC qual scope s.heap.objs.size f cd
  outer := outer
  stack := envOfC qual scope s.heap.objs.size f cd :: outer
  ex := []
  calm := true
  fn := fun _ => true
  pn := []
  xe := fun e s' => wpAny (model P w) (A.deeper (envOfC qual scope s.heap.objs.size f cd)) (leaving (envOfC qual scope s.heap.objs.size f cd) e) (fun _ s'' => CX outer H s E e s'') (fun e' s'' => CX outer H s E e' s'') s'
theorem qi6 {sc : Scope} {n : Nat} {x : Str} (h : sc.names.lookup x = some .cell) : ∃ c, (cellsFrom n sc.names []).lookup x = some c := by
  have q := PySem.W.cellsFrom_some sc.names n [] (.inl h)
  exact Option.isSome_iff_exists.mp q
theorem qkO {CX : CXT} {P : Program} {w : World} {K : PySem.W.Frag} {mg : Str → Option Value} {base : Heap} {N ps : List Str} {qual : Str} {scope : Scope} {f : Addr} {cd : Value} {A : Around} {outer : List Env} {s s1 : Shared} {H : Hp} {E : XK} {us : List Value} {vs : List V}
    (S : FnScope N ps scope) (hd : A.handled = none) (hdp : (A.deeper (envOfC qual scope s.heap.objs.size f cd)).depth + Builtin.pylongFrames < recursionLimit) (e0 : Env0 P w K mg base A outer s H) (hl : vs.length = ps.length) (r : Vals vs us)
    (x : InCallC s s.heap.objs.size (bindL (envOfC qual scope s.heap.objs.size f cd).kindOf (ps.zip us) fun _ => none) (cellsFrom (s.heap.objs.size + 1) scope.names []) (bindC (envOfC qual scope s.heap.objs.size f cd).kindOf (ps.zip us) fun _ => none) s1) :
    Inv (qnH CX P w K mg base N qual scope f cd A outer s H E) [] (start N vs) H s1 := by
  have hpl : ps.length ≤ N.length := by have := congrArg List.length S.pre; rw [List.length_take] at this; omega
  obtain ⟨h1, tk, rfl, hk⟩ := x.done
  have noA : ∀ b : Addr, b ∉ (qnH CX P w K mg base N qual scope f cd A outer s H E).ex := fun b z => absurd (show b ∈ ([] : List Addr) from z) (by simp)
  refine ⟨⟨e0.mod, S.kind, rfl, rfl, Nat.le_refl _, fun y z c h1 h2 => ?_, fun y hy => ?_, fun y c _ h => ?_, fun _ => hd, Around.frames_deeper e0.frames, .inr ⟨rfl, rfl⟩, fun b z => absurd z (noA b), e0.bs, e0.bsz, fun b _ _ => noA b, fun b z => absurd z (noA b), e0.funs, e0.frf, e0.seer, e0.tree, fun s' hk' => PySem.PylongRoom.of (e0.mod.nolimit.keeps hk') hdp (PySem.SeerAt.of (e0.seer.keeps hk') e0.tree (Around.frames_deeper e0.frames) S.gen S.co rfl rfl)⟩,
    rfl, e0.bare, Un.kept hk, ⟨_, x.toInCall.ns, fun i y v h1 h2 h3 => ?_⟩, fun y c h => ⟨_, x.cell y c h⟩, e0.hok.fresh (Nat.le_refl _), fun y c h => ?_, fun p hp => absurd (show p ∈ ([] : List (Addr × Obj)) from hp) (by simp), e0.hok.kept hk, ?_⟩
  · exact name_of_addr x.apart (PySem.mem_of_lookup h1) (PySem.mem_of_lookup h2)
  · have hy : scope.names.lookup y = some .cell ∨ scope.names.lookup y = some .free := hy
    rcases hy with hy | hy
    · exact qi6 hy
    · exact absurd rfl (S.nofree _ (PySem.mem_of_lookup hy))
  · exact Nat.le_of_lt (x.above y c (PySem.mem_of_lookup h))
  · have hi : i < vs.length := by
      unfold start at h2
      by_cases hi : i < vs.length
      · exact hi
      · rw [List.getElem?_append_right (by simpa using hi)] at h2
        rw [List.getElem?_replicate] at h2
        split at h2 <;> cases h2
    have ha : vs[i]? = some v := by
      unfold start at h2
      rw [List.getElem?_append_left (by simpa using hi), List.getElem?_map] at h2
      cases e : vs[i]? with
      | none => rw [e] at h2; cases h2
      | some a => rw [e] at h2; cases h2; rfl
    obtain ⟨u, hu, rv⟩ := r.get ha
    have hp : ps[i]? = some y := by
      rw [← S.pre, List.getElem?_take_of_lt (by omega)]; exact h1
    have ndP : ps.Nodup := by rw [← S.pre]; exact S.nd.sublist (List.take_sublist _ _)
    refine ⟨u, rv, ?_⟩
    rcases S.par y (List.mem_of_getElem? hp) with k | k
    · exact .inl ⟨k, qhU ndP hp hu k⟩
    · obtain ⟨c, e⟩ := qi6 (n := s.heap.objs.size + 1) k
      refine .inr ⟨.inl k, c, e, ?_⟩
      have q := x.cell y c e
      rw [qhV ndP hp hu (by show scope.names.lookup y ≠ _; rw [k]; decide)] at q
      exact q
  · exact e0.hok.fresh (Nat.le_of_lt (x.above y c (PySem.mem_of_lookup h)))
  · unfold start
    show _ = N.length
    rw [List.length_append, List.length_map, List.length_replicate]
    omega
theorem qpE {CX : CXT} {P : Program} {w : World} {K : PySem.W.Frag} {mg : Str → Option Value} {base : Heap} {k : Nat} {f : Addr} {name qual : Str} {params : Arguments} {body : List Stmt} {scope : Scope} {dV kV doc pm cdv ct oc : Value} {an od : Option Addr}
    {osl : Array (Option Value)} {N ps : List Str} {sp : Sp} (lk : K.lookup f = some ⟨oc, od, .func (PySem.W.fnOf name qual params body scope dV kV doc pm an cdv ct), osl⟩) (hcd : PySem.W.codeIn K cdv qual = true) (S : FnScope N ps scope)
    (len : ∀ vs H Q E, sp vs H Q E → vs.length = ps.length)
    (hbody : ∀ (A : Around) (outer : List Env) (s : Shared) (H : Hp) (vs : List V) (Q : VK) (E : XK), Room k (A.deeper (envOfC qual scope s.heap.objs.size f cdv)) → sp vs H Q E →
      ∃ t, PSs (qnH CX P w K mg base N qual scope f cdv A outer s H E) body t ∧ t { nx := fun _ H' => Q .non H', rt := Q } (start N vs) H) :
    FnOk P w K mg base CX (k + 1) f (PySem.W.fnOf name qual params body scope dV kV doc pm an cdv ct) ps sp := by
  refine ⟨len, fun A outer s H args us vs Q E hr e0 hb r hsp => ?_⟩
  have hl := len _ _ _ _ hsp
  have KX : K.In s.heap := e0.mod.kin.keeps fun b o e => (e0.bs b o e).1
  have lim : s.heap.NoLimit := e0.mod.nolimit.keeps fun b o e => (e0.bs b o e).1
  have hkind : ∀ y ∈ ps.zip us, scope.names.lookup y.1 = some .local ∨ (scope.names.lookup y.1 = some .cell ∧ ((cellsFrom (s.heap.objs.size + 1) scope.names []).lookup y.1).isSome = true) := fun ⟨n, v⟩ hy => by
    rcases S.par n (List.of_mem_zip hy).1 with q | q
    · exact .inl q
    · exact .inr ⟨q, PySem.W.cellsFrom_some _ _ _ (.inl q)⟩
  refine codeAny_call_function hr.depth (KX _ _ lk) rfl S.co S.gen rfl (PySem.W.codeRec_of KX hcd) (hb _ _ _ _ ?_)
  refine wpAny_newFunctionEnv_cells S.kind hkind fun env he s1 x => ?_
  subst he
  refine ⟨lim.keeps x.toInCall.keep, codeAny_func ?_⟩
  obtain ⟨t, ht, hq⟩ := hbody A outer s H vs Q E (hr.deeper _) hsp
  have I : Inv (qnH CX P w K mg base N qual scope f cdv A outer s H E) [] (start N vs) H s1 := qkO S hr.hd (by have := (hr.deeper (envOfC qual scope s.heap.objs.size f cdv)).dp; show _ + 100 < _; omega) e0 hl r x
  refine wpAny_mono (ht [] s1 (start N vs) H _ I hq) (fun fl s' hs => ?_) fun e s' hs => hs
  have fin : ∀ {σ' : St} {H' : Hp} {v : V} {u : Value}, Inv (qnH CX P w K mg base N qual scope f cdv A outer s H E) [] σ' H' s' → RelV v u → Q v H' → CE outer P w H s Q u s' :=
    fun {σ' H' v u} J rv q => ⟨v, H', J.os, J.bare, J.base, J.hok, rv, q⟩
  cases fl with
  | ret u =>
    obtain ⟨v, σ', H', J, rv, q⟩ := hs
    exact fin J rv q
  | next =>
    obtain ⟨σ', H', J, q⟩ := hs
    exact fin (v := V.non) (u := Value.none) J rfl q
  | brk =>
    obtain ⟨_, _, _, q⟩ := hs
    exact False.elim q
  | cont =>
    obtain ⟨_, _, _, q⟩ := hs
    exact False.elim q
end L2
namespace L2
open PySem PySem.Spec PyProof.Rows
section
variable {X : Cx} {x : Str} {p pos : Pos} {e : Expr} {es : List Expr} {t : TA} {id T : String} {r : List V → Hp → VK → Prop}
noncomputable def tCB (r : List V → Hp → VK → Prop) (t : TA) : TE := fun σ H Q => t σ H fun vs H1 => r vs H1 Q
theorem qau (hc : qcC X (.builtin id) r) (hg : Gl X x) (hm : X.mg x = none) (hv : bootBuiltins x = some (.builtin id)) (ha : PA X (e :: es) t) (hn : x ≠ "__name__" := by decide) (hdb : (x == ("__debug__" : Str)) = false := by decide)
    (he : starEach (e :: es) X.env = (false, eval e X.env) :: starEach es X.env := by rfl) (hpl : (backTo pos (starEach es X.env)).any (·.1) = false := by rfl) : PE X (.Call (.Name x p) (e :: es) [] pos) (tCB r t) := by
  intro pins s σ H Q I h
  refine wpAny_Call_Name_kw (qec I hg hm hv ?_ hn hdb)
  exact PyProof.Rows.callWith_builtin1 (thn (ha pos pins s σ H _ I h) fun us s1 ⟨vs, H1, I1, r1, q1⟩ => hc pins s1 σ H1 vs us Q I1 r1 q1) he hpl
theorem qbv (hc : qcC X (.type T) r) (hg : Gl X x) (hm : X.mg x = none) (hv : bootBuiltins x = some (.type T)) (ha : PA X (e :: es) t) (hn : x ≠ "__name__" := by decide) (hdb : (x == ("__debug__" : Str)) = false := by decide)
    (he : starEach (e :: es) X.env = (false, eval e X.env) :: starEach es X.env := by rfl) (hpl : (backTo pos (starEach es X.env)).any (·.1) = false := by rfl) : PE X (.Call (.Name x p) (e :: es) [] pos) (tCB r t) := by
  intro pins s σ H Q I h
  refine wpAny_Call_Name_kw (qec I hg hm hv ?_ hn hdb)
  exact PyProof.Rows.callWith_type1 (thn (ha pos pins s σ H _ I h) fun us s1 ⟨vs, H1, I1, r1, q1⟩ => hc pins s1 σ H1 vs us Q I1 r1 q1) he hpl
end
end L2
namespace HT
open PySem PyProof.Rows
section
open PySem.SeqAt
open PySem.AutoSeq1 (wpAny_loadPart')
open PySem.MeetsSeq PySem.MeetsSeq2 PySem.MeetsSeq3
end
section
variable {prog : Program} {w : World} {A : Around} {E : Value → Shared → Prop} {s : Shared}
noncomputable def sIx (n d : Nat) : Option Int → Nat
  | none => d
  | some v => if v < 0 then (v + (n : Int)).toNat else min v.toNat n
end
end HT
namespace L2
open PySem PySem.Spec PyProof.Rows
noncomputable abbrev TO := St → Hp → (Option Int → Hp → Prop) → Prop
noncomputable def PO (X : Cx) (e : Option Expr) (t : TO) : Prop :=
  ∀ (pins : List (Addr × Obj)) (s : Shared) (σ : St) (H : Hp) (Q : Option Int → Hp → Prop), Inv X pins σ H s → t σ H Q →
    wpAny (model X.prog X.w) X.A (evalPart e X.env) (fun u s' => ∃ o H', Inv X pins σ H' s' ∧ IsPart u o ∧ Q o H') X.xe s
noncomputable def qcD : TO := fun _ H Q => Q none H
noncomputable def qgl (t : TE) : TO := fun σ H Q => t σ H fun x H1 => ∃ i, x = .int i ∧ Q (some i) H1
section
variable {X : Cx} {e : Expr} {te : TE} {lo hi : Option Expr} {tl th : TO} {pos p2 : Pos}
theorem qdf : PO X none qcD := by
  intro pins s σ H Q I h
  rw [evalPart_none]
  exact wpAny_pure ⟨none, H, I, .none, h⟩
theorem qdg (h : PE X e te) : PO X (some e) (qgl te) := by
  intro pins s σ H Q I hw
  rw [evalPart_some]
  refine thn (h pins s σ H _ I hw) fun u s1 ⟨x, H1, I1, r1, q1⟩ => ?_
  obtain ⟨i, rfl, q⟩ := q1
  obtain ⟨t, rfl⟩ := r1
  exact ⟨some i, H1, I1, .int i t, q⟩
noncomputable def SlR (X : Cx) (r : V → Option Int → Option Int → Hp → VK → Prop) : Prop :=
  ∀ (pins : List (Addr × Obj)) (s : Shared) (σ : St) (H : Hp) (x : V) (v vl vu : Value) (lo hi : Option Int) (sl : Addr) (Q : VK), Inv X pins σ H s → RelV x v → s.heap.IsSliceOf sl vl vu .none → IsPart vl lo → IsPart vu hi → r x lo hi H Q →
    ∃ T id, typeLookup (.type T) "__getitem__" = pure (some (.builtin id)) ∧ s.TypeIs v T ∧ wpAny (model X.prog X.w) X.A (getItem v (.ref sl)) (EP X pins σ Q) X.xe s
noncomputable def tSl (r : V → Option Int → Option Int → Hp → VK → Prop) (te : TE) (tl th : TO) : TE := fun σ H Q => te σ H fun x H1 => tl σ H1 fun l H2 => th σ H2 fun u H3 => r x l u H3 Q
theorem qcj {r : V → Option Int → Option Int → Hp → VK → Prop} (hr : SlR X r) (he : PE X e te) (hl : PO X lo tl) (hu : PO X hi th) : PE X (.Subscript e (.Slice lo hi none p2) pos) (tSl r te tl th) := by
  intro pins s σ H Q I h
  refine Subscript_ (thn (he pins s σ H _ I h) fun v s1 ⟨x, H1, I1, r1, q1⟩ => ?_)
  refine wpAny_Slice (thn (hl pins s1 σ H1 _ I1 q1) fun vl s2 ⟨l, H2, I2, pl, q2⟩ => thn (hu pins s2 σ H2 _ I2 q2) fun vu s3 ⟨u, H3, I3, pu, q3⟩ => ?_)
  rw [evalPart_none]
  refine wpAny_pure ?_
  have I4 : Inv X pins σ H3 { s3 with heap := s3.heap.push { cls := .type "slice", data := .fields #[vl, vu, .none] } } := I3.kept (t' := s3.toks) fun b ob q => Heap.get?_push_of_some _ q
  obtain ⟨T, id, hT, ht, hg⟩ := hr pins { s3 with heap := s3.heap.push { cls := .type "slice", data := .fields #[vl, vu, .none] } } σ H3 x v vl vu l u s3.heap.objs.size Q I4 r1 (Heap.IsSliceOf.new ..) pl pu q3
  show wpAny (model X.prog X.w) X.A (subscriptTail e (.Slice lo hi none p2) v (.ref s3.heap.objs.size)) (EP X pins σ Q) X.xe { s3 with heap := s3.heap.push { cls := .type "slice", data := .fields #[vl, vu, .none] } }
  exact tail_any (ops := [.ref s3.heap.objs.size, v]) ht hT hg (by with_unfolding_all rfl)
noncomputable def qkv (xs : List V) (lo hi : Option Int) : List V := (xs.drop (HT.sIx xs.length 0 lo)).take (HT.sIx xs.length xs.length hi - HT.sIx xs.length 0 lo)
theorem qiz (xs : List V) (lo hi : Option Int) : (qkv xs lo hi).length ≤ xs.length := by
  unfold qkv
  rw [List.length_take, List.length_drop]
  omega
end
end L2
namespace L2
open PySem PySem.Spec PyProof.Rows
noncomputable def ixN (n : Nat) (i : Int) : Option Nat := if 0 ≤ i then (if i < n then some i.toNat else none) else if -(n : Int) ≤ i then some (i + n).toNat else none
noncomputable def atI {α : Type} (xs : List α) (i : Int) : Option α := (ixN xs.length i).bind fun j => xs[j]?
theorem qkP {n : Nat} {i : Int} {j : Nat} (h : ixN n i = some j) : seqIndex? i n = some j ∧ j < n ∧ -(n : Int) ≤ i ∧ i < n := by
  unfold ixN at h
  by_cases h0 : 0 ≤ i
  · rw [if_pos h0] at h
    by_cases h1 : i < n
    · rw [if_pos h1] at h
      have e : i.toNat = j := Option.some.inj h
      exact ⟨by rw [seqIndex_of h0 h1, e], by omega, by omega, h1⟩
    · rw [if_neg h1] at h; cases h
  · rw [if_neg h0] at h
    by_cases h1 : -(n : Int) ≤ i
    · rw [if_pos h1] at h
      have e : (i + n).toNat = j := Option.some.inj h
      exact ⟨by rw [seqIndex_neg (by omega) h1, e], by omega, h1, by omega⟩
    · rw [if_neg h1] at h; cases h
theorem qkQ {α : Type} {xs : List α} {i : Int} {v : α} (h : atI xs i = some v) : ∃ j, seqIndex? i xs.length = some j ∧ xs[j]? = some v ∧ j < xs.length ∧ -(xs.length : Int) ≤ i ∧ i < xs.length := by
  unfold atI at h
  cases e : ixN xs.length i with
  | none => rw [e] at h; cases h
  | some j =>
    rw [e] at h
    obtain ⟨h1, h2, h3, h4⟩ := qkP e
    exact ⟨j, h1, h, h2, h3, h4⟩
theorem qbc {α : Type} {xs : List α} {j : Nat} {v : α} (h : xs[j]? = some v) : atI xs (j : Int) = some v := by
  have hj : j < xs.length := (List.getElem?_eq_some_iff.mp h).1
  have e : ixN xs.length (j : Int) = some j := by
    unfold ixN
    rw [if_pos (by omega), if_pos (by omega)]; simp
  unfold atI; rw [e]; exact h
noncomputable def qnI (b : Expr) : Prop := ∀ o i, subscripted b false o i = operate [o, i] (getItem o i)
noncomputable def IxR (X : Cx) (r : R2) : Prop :=
  ∀ (value slice : Expr) (pins : List (Addr × Obj)) (s : Shared) (σ : St) (H : Hp) (x y : V) (v u : Value) (Q : VK), Inv X pins σ H s → RelV x v → RelV y u → r x y H Q →
    subscripted slice false v u = operate [v, u] (getItem v u) → wpAny (model X.prog X.w) X.A (subscriptTail value slice v u) (EP X pins σ Q) X.xe s
noncomputable def MtR (X : Cx) (id : String) (r : V → List V → Hp → VK → Prop) : Prop :=
  ∀ (pins : List (Addr × Obj)) (s : Shared) (σ : St) (H : Hp) (x : V) (xs : List V) (v : Value) (us : List Value) (Q : VK), Inv X pins σ H s → RelV x v → Vals xs us → r x xs H Q →
    wpAny (model X.prog X.w) X.A (call (.builtin id) (v :: us)) (EP X pins σ Q) X.xe s
section
variable {X : Cx} {a b : Expr} {ta tb : TE} {pos : Pos}
theorem qch {r : R2} (hr : IxR X r) (ha : PE X a ta) (hb : PE X b tb) (hs : qnI b) : PE X (.Subscript a b pos) (tOp r ta tb) := by
  intro pins s σ H Q I h
  exact Subscript_ (qpA ha hb I h fun v u s2 x y H2 I2 rx ry q => hr a b pins s2 σ H2 x y v u Q I2 rx ry q (hs _ _))
noncomputable def qqi (K : PySem.W.Frag) : R2 := fun x y H Q => ∃ p xs i v, x = .ref p ∧ y = .int i ∧ SqL K H p xs ∧ atI xs i = some v ∧ Q v H
noncomputable def qqj (K : PySem.W.Frag) : R2 := fun x y H Q => ∃ p xs i v, x = .ref p ∧ y = .int i ∧ SqT K H p xs ∧ atI xs i = some v ∧ Q v H
theorem qkR : IxR X (qqi X.K) := by
  intro value slice pins s σ H x y v u Q I rx ry h hs
  obtain ⟨p, xs, i, z, rfl, rfl, hq, he, q⟩ := h
  cases rx
  obtain ⟨t, rfl⟩ := ry
  obtain ⟨its, r, pl, hz⟩ := I.list hq
  obtain ⟨j, h1, h2, h3, h4, h5⟩ := qkQ he
  obtain ⟨w, ew, rw'⟩ := r.get h2
  have hl := r.length
  have hn := qhQ
  have fin : EP X pins σ Q w s := ⟨z, H, I, rw', q⟩
  by_cases h0 : 0 ≤ i
  · have hj : i.toNat = j := by
      rw [seqIndex_of h0 h5] at h1
      exact Option.some.inj h1
    exact item_listR pl.isList h0 (by omega) (by rw [hj]; simpa using ew) fin hs
  · have hj : (i + (its.toArray.size : Int)).toNat = j := by
      rw [seqIndex_neg (by omega) h4] at h1
      rw [List.size_toArray, ← hl]
      exact Option.some.inj h1
    exact subscriptTail_builtinR (x := w) pl.isList.typeIs slot_list_getitem.lookup
      (wpAny_getItem_list_neg (Q := fun r s' => r = w ∧ EP X pins σ Q r s') pl.isList (by omega) (by rw [List.size_toArray] <;> omega) (by omega) (by rw [hj]; simpa using ew) ⟨rfl, fin⟩) hs
theorem qoH : IxR X (qqj X.K) := by
  intro value slice pins s σ H x y v u Q I rx ry h hs
  obtain ⟨p, xs, i, z, rfl, rfl, hq, he, q⟩ := h
  cases rx
  obtain ⟨t, rfl⟩ := ry
  obtain ⟨its, r, pl, hz⟩ := I.tuple hq
  obtain ⟨j, h1, h2, h3, h4, h5⟩ := qkQ he
  obtain ⟨w, ew, rw'⟩ := r.get h2
  have hl := r.length
  have hn := qhQ
  have fin : EP X pins σ Q w s := ⟨z, H, I, rw', q⟩
  exact subscriptTail_builtinR (x := w) pl.typeIs slot_tuple_getitem.lookup
    (getItem_tuple (j := j) (Q := fun r s' => r = w ∧ EP X pins σ Q r s') pl (by omega) (by omega) (by rw [List.size_toArray, ← hl]; exact h1) (by simpa using ew) ⟨rfl, fin⟩) hs
theorem qjX (its : List Value) (n j : Nat) (u : Value) : Obj.mapSeq (·.setIfInBounds j u) { cls := .type "list", data := .seq its.toArray n } = { cls := .type "list", data := .seq (its.set j u).toArray n } := by
  simp [Obj.mapSeq]
theorem Inv.lst {pins : List (Addr × Obj)} {σ : St} {H : Hp} {s : Shared} {p : Addr} {xs : List V} (I : Inv X pins σ H s) (h : H p = some (.lst xs)) :
    ∃ (its : List Value) (n : Nat), Vals xs its ∧ s.heap.get? p = some { cls := .type "list", data := .seq its.toArray n } ∧ xs.length ≤ sizeLine := by
  obtain ⟨z, its, n, r, e⟩ := I.hok p _ h
  exact ⟨its, n, r, e, z⟩
theorem Inv.lstUpd {pins : List (Addr × Obj)} {σ : St} {H : Hp} {s : Shared} {p : Addr} {xs ys : List V} {its its' : List Value} {n n' : Nat} {f : Obj → Obj} (I : Inv X pins σ H s) (h : H p = some (.lst xs))
    (ho : s.heap.get? p = some { cls := .type "list", data := .seq its.toArray n }) (hf : f { cls := .type "list", data := .seq its.toArray n } = { cls := .type "list", data := .seq its'.toArray n' }) (r : Vals ys its') (hz : ys.length ≤ sizeLine) (t : Nat) :
    Inv X pins σ (upd H p (.lst ys)) { s with heap := s.heap.update p f, toks := t } := by
  have e : (s.heap.update p f).get? p = some { cls := .type "list", data := .seq its'.toArray n' } := by
    rw [Heap.get?_update_self f ho (by rw [hf] <;> rfl), hf]
  refine I.write (x := p) (e := p) (by rw [h]; trivial) (.inl rfl) (fun b u hb q => (Heap.get?_update_other _ _ (Ne.symm hb)).trans q) ⟨_, e⟩ ?_
  exact ⟨hz, its', n', r, e⟩
noncomputable def qgm : V → V → V → Hp → (Hp → Prop) → Prop := fun o i v H Q => ∃ p xs k j, o = .ref p ∧ i = .int k ∧ H p = some (.lst xs) ∧ ixN xs.length k = some j ∧ Q (upd H p (.lst (xs.set j v)))
theorem qck : PSet X qgm := by
  intro pins s σ H o i v ov iv u Q I ro ri rv h
  obtain ⟨p, xs, k, j, rfl, rfl, hp, hj, q⟩ := h
  cases ro
  obtain ⟨t, rfl⟩ := ri
  obtain ⟨its, n, r, ho, hz⟩ := I.lst hp
  obtain ⟨h1, h2, h3, h4⟩ := qkP hj
  have hl := r.length
  have hn := qhQ
  have I' : Inv X pins σ (upd H p (.lst (xs.set j v))) { s with heap := s.heap.update p (Obj.mapSeq (·.setIfInBounds j u)) } :=
    I.lstUpd hp ho (qjX its n j u) (r.set rv j) (by rw [List.length_set]; exact hz) s.toks
  by_cases h0 : 0 ≤ k
  · have hk : k.toNat = j := by
      rw [seqIndex_of h0 h4] at h1
      exact Option.some.inj h1
    exact PySem.W.ki_setAt ho h0 (by omega) (by rw [List.size_toArray, ← hl]; exact h4) (by rw [hk]; exact ⟨_, I', q⟩)
  · have hk : (k + (its.toArray.size : Int)).toNat = j := by
      rw [seqIndex_neg (by omega) h3] at h1
      rw [List.size_toArray, ← hl]
      exact Option.some.inj h1
    exact PySem.W.ki_setBack ho (by omega) (by rw [List.size_toArray, ← hl]; exact h3) (by omega) (by rw [hk]; exact ⟨_, I', q⟩)
theorem qhW (lo hi : Option Int) (n : Nat) : (sliceBounds lo hi none n).1 = ((HT.sIx n 0 lo : Nat) : Int) ∧ (sliceBounds lo hi none n).2.1 = ((HT.sIx n n hi : Nat) : Int) ∧ (sliceBounds lo hi none n).2.2 = 1 := by
  refine ⟨?_, ?_, rfl⟩
  · cases lo with
    | none => simp [sliceBounds, HT.sIx]
    | some i =>
      simp only [sliceBounds, HT.sIx, Option.getD_none, show (1 : Int) > 0 by decide, if_true]
      by_cases h : i < 0
      · simp only [h, if_true] <;> omega
      · simp only [h, if_false] <;> omega
  · cases hi with
    | none => simp [sliceBounds, HT.sIx]
    | some i =>
      simp only [sliceBounds, HT.sIx, Option.getD_none, show (1 : Int) > 0 by decide, if_true]
      by_cases h : i < 0
      · simp only [h, if_true] <;> omega
      · simp only [h, if_false] <;> omega
theorem qhd (its : List Value) (lo hi : Option Int) : slicePick its.toArray lo hi none = ((its.drop (HT.sIx its.length 0 lo)).take (HT.sIx its.length its.length hi - HT.sIx its.length 0 lo)).toArray := by
  obtain ⟨h1, h2, h3⟩ := qhW lo hi its.toArray.size
  unfold slicePick
  rw [h1, h2, h3]
  simp only [sliceRange_one, pick_run, List.size_toArray] <;> rfl
noncomputable def qqk (K : PySem.W.Frag) : V → Option Int → Option Int → Hp → VK → Prop := fun x lo hi H Q => ∃ a xs, x = .ref a ∧ SqL K H a xs ∧ ∀ p, H p = none → Q (.ref p) (upd H p (.lst (qkv xs lo hi)))
theorem qnJ : SlR X (qqk X.K) := by
  intro pins s σ H x v vl vu lo hi sl Q I rx hs pl pu h
  obtain ⟨a, xs, rfl, hx, q⟩ := h
  cases rx
  obtain ⟨its, r, ht, hz⟩ := I.list hx
  have hlen := r.length
  refine ⟨"list", _, slot_list_getitem.lookup, ht.isList.typeIs, ?_⟩
  refine wpAny_getItem_list_slice ht.isList hs pl pu .none (by simp) ?_ (by rw [List.size_toArray] <;> omega)
  rw [qhd, ← hlen]
  refine ⟨.ref s.heap.objs.size, _, I.laid (t' := s.toks) (o := .lst (qkv xs lo hi)) (fun b ob q => Heap.get?_push_of_some _ q) (Nat.le_refl _) ?_, rfl, q _ (I.hok.fresh (Nat.le_refl _))⟩
  exact ⟨Nat.le_trans (qiz xs lo hi) hz, _, 0, (r.drop (HT.sIx xs.length 0 lo)).take (HT.sIx xs.length xs.length hi - HT.sIx xs.length 0 lo), Heap.get?_push_size _ rfl⟩
theorem qdh : qcC X (.builtin "len") (fun xs H Q => ∃ p ys, xs = [.ref p] ∧ (SqL X.K H p ys ∨ SqT X.K H p ys) ∧ Q (.int ys.length) H) := by
  intro pins s σ H xs us Q I r h
  obtain ⟨p, ys, rfl, hq, q⟩ := h
  obtain ⟨u, rfl, rx⟩ := qgk r
  cases rx
  have hn := qhQ
  rcases hq with hq | hq
  · obtain ⟨its, r', pl, hz⟩ := I.list hq
    have hlen := r'.length
    exact Calls.call_len_list pl.isList (by simp only [List.size_toArray] <;> omega) ⟨.int ys.length, H, I.tok _, ⟨s.toks + 1, by rw [List.size_toArray, hlen]⟩, q⟩
  · obtain ⟨its, r', pl, hz⟩ := I.tuple hq
    have hlen := r'.length
    exact len_tuple pl (by simp only [List.size_toArray] <;> omega) ⟨.int ys.length, H, I.tok _, ⟨s.toks + 1, by rw [List.size_toArray, hlen]⟩, q⟩
theorem qfc : qcC X (.type "list") (fun xs H Q => ∃ p ys, xs = [.ref p] ∧ (SqL X.K H p ys ∨ SqT X.K H p ys) ∧ ∀ l, H l = none → Q (.ref l) (upd H l (.lst ys))) := by
  intro pins s σ H xs us Q I r h
  obtain ⟨p, ys, rfl, hq, q⟩ := h
  obtain ⟨u, rfl, rx⟩ := qgk r
  cases rx
  have fin : ∀ (its : List Value), Vals ys its → ys.length ≤ sizeLine → ∀ (h' : Heap) (c' : Nat), (∀ b o', s.heap.get? b = some o' → h'.get? b = some o') →
      h'.get? s.heap.objs.size = some { cls := .type "list", dict := none, data := .seq its.toArray c', slots := #[] } → EP X pins σ Q (.ref s.heap.objs.size) { s with heap := h' } := fun its r' hz h' c' kp e =>
    ⟨.ref s.heap.objs.size, _, I.laid (t' := s.toks) kp (Nat.le_refl _) (show ObjOk X.prog X.w _ h' _ (.lst ys) from ⟨hz, its, c', r', e⟩), rfl, q _ (I.hok.fresh (Nat.le_refl _))⟩
  rcases hq with hq | hq
  · obtain ⟨its, r', pl, hz⟩ := I.list hq
    have hlen := r'.length
    obtain ⟨o, ho, hc, n, hd⟩ := pl.isList
    exact call_list_seq p (.inl rfl) ho hc hd (fun h' c' kp e => fin its r' hz h' c' kp e) (by simp only [List.size_toArray] <;> omega)
  · obtain ⟨its, r', pl, hz⟩ := I.tuple hq
    have hlen := r'.length
    obtain ⟨o, ho, hc, n, hd⟩ := pl
    exact call_list_seq p (.inr rfl) ho hc hd (fun h' c' kp e => fin its r' hz h' c' kp e) (by simp only [List.size_toArray] <;> omega)
theorem qhe : qcC X (.type "tuple") (fun xs H Q => ∃ p ys, xs = [.ref p] ∧ ((SqL X.K H p ys ∧ ∀ l, H l = none → Q (.ref l) (upd H l (.tup ys))) ∨ (SqT X.K H p ys ∧ Q (.ref p) H))) := by
  intro pins s σ H xs us Q I r h
  obtain ⟨p, ys, rfl, h⟩ := h
  obtain ⟨u, rfl, rx⟩ := qgk r
  cases rx
  rcases h with ⟨hq, q⟩ | ⟨hq, q⟩
  · obtain ⟨its, r', pl, hz⟩ := I.list hq
    have hlen := r'.length
    refine call_tuple_list pl.isList (fun h' kp => ?_) (by simp only [List.size_toArray] <;> omega)
    have I1 : Inv X pins σ H { s with heap := h' } := I.kept (t' := s.toks) kp
    have I2 : Inv X pins σ (upd H h'.objs.size (.tup ys)) { s with heap := h'.push { cls := .type "tuple", data := .seq its.toArray } } :=
      I1.laid (t' := s.toks) (fun b o e => Heap.get?_push_of_some _ e) (Nat.le_refl _) (show ObjOk X.prog X.w _ _ _ (.tup ys) from ⟨hz, its, r', IsTup.new _ _⟩)
    exact ⟨.ref h'.objs.size, _, I2, rfl, q _ (I1.hok.fresh (Nat.le_refl _))⟩
  · obtain ⟨its, r', pl, hz⟩ := I.tuple hq
    exact call_tuple_same pl ⟨.ref p, H, I, rfl, q⟩
noncomputable def tyV (K : PySem.W.Frag) (T : String) (x : V) (H : Hp) : Prop := match x with
  | .str _ => T = "str"
  | .int _ => T = "int"
  | .ref p => (T = "list" ∧ ∃ xs, SqL K H p xs) ∨ (T = "tuple" ∧ ∃ o, K.lookup p = some o ∧ o.cls = .type "tuple" ∧ o.dict = none) ∨
      (T = "dict" ∧ ((∃ kvs, H p = some (.dK kvs)) ∨ ∃ kvs, H p = some (.dT kvs))) ∨ (T = "set" ∧ ∃ S n, H p = some (.set S n))
  | _ => False
theorem qm3 {pins : List (Addr × Obj)} {σ : St} {H : Hp} {s : Shared} {T : String} {x : V} {v : Value} (I : Inv X pins σ H s) (r : RelV x v) (ty : tyV X.K T x H) :
    s.TypeIs v T ∧ ∀ a, v = .ref a → ∃ ob, s.heap.get? a = some ob ∧ ob.dict = none := by
  cases x with
  | str z =>
    obtain ⟨t, rfl⟩ := r
    cases (show T = "str" from ty)
    exact ⟨typeIs_str s z t, fun _ e => nomatch e⟩
  | int i =>
    obtain ⟨t, rfl⟩ := r
    cases (show T = "int" from ty)
    exact ⟨typeIs_int s i t, fun _ e => nomatch e⟩
  | ref p =>
    cases r
    rcases ty with ⟨rfl, xs, hq⟩ | ⟨rfl, o, hk, hc, hd⟩ | ⟨rfl, hk⟩ | ⟨rfl, S, n, hk⟩
    · obtain ⟨its, _, pl, _⟩ := I.list hq
      refine ⟨pl.isList.typeIs, fun a e => ?_⟩
      cases e
      obtain ⟨o, n, e, c, hd, _⟩ := pl
      exact ⟨o, e, hd⟩
    · refine ⟨⟨o, I.kIn p o hk, hc⟩, fun a e => ?_⟩
      cases e
      exact ⟨o, I.kIn _ o hk, hd⟩
    · have z : ∃ o, s.heap.get? p = some o ∧ o.ExactDict := by
        rcases hk with ⟨kvs, hk⟩ | ⟨kvs, hk⟩
        · obtain ⟨_, _, _, _, o, _, _, e, ex, _⟩ := I.hok p _ hk
          exact ⟨o, e, ex⟩
        · obtain ⟨_, _, _, _, o, _, _, e, ex, _⟩ := I.hok p _ hk
          exact ⟨o, e, ex⟩
      obtain ⟨o, e, ex⟩ := z
      refine ⟨⟨o, e, ex.1⟩, fun a e2 => ?_⟩
      cases e2
      exact ⟨o, e, ex.2.1⟩
    · obtain ⟨o, _, _, _, e, ex, _⟩ := I.hok p _ hk
      refine ⟨⟨o, e, ex.1⟩, fun a e2 => ?_⟩
      cases e2
      exact ⟨o, e, ex.2.1⟩
  | _ => exact False.elim ty
noncomputable def qpF (K : PySem.W.Frag) (T : String) (r : V → List V → Hp → VK → Prop) (to : TE) : TE := fun σ H Q => to σ H fun x H1 => tyV K T x H1 ∧ r x [] H1 Q
noncomputable def tBM (K : PySem.W.Frag) (T : String) (r : V → List V → Hp → VK → Prop) (to : TE) (t : TA) : TE := fun σ H Q => to σ H fun x H1 => tyV K T x H1 ∧ t σ H1 fun xs H2 => r x xs H2 Q
variable {o e : Expr} {es : List Expr} {to : TE} {t : TA} {name : Str} {apos cpos : Pos} {T id : String} {r : V → List V → Hp → VK → Prop}
theorem qoI (pa : PlainAttrs T) (slot : Slot T name id) (hty : typeOf (.builtin id) = pure (.type "method_descriptor")) (hm : MtR X id r) (ho : PE X o to)
    (hbase : attributeBase o name X.env (eval o X.env) = eval o X.env := by rfl) (hline : (apos.endLine == cpos.line) = true := by rfl) : PE X (.Call (.Attribute o name apos) [] [] cpos) (qpF X.K T r to) := by
  intro pins s σ H Q I h
  refine wpAny_Call_method0_late hbase hline (thn (ho pins s σ H _ I h) fun v s1 ⟨x, H1, I1, r1, ty, q1⟩ => ?_)
  obtain ⟨h1, h2⟩ := qm3 I1 r1 ty
  exact ⟨T, id, pa, slot, hty, h1, h2, Calls.callWith_builtin rfl (PySem.evalArgs_none (hm pins s1 σ H1 x [] v [] Q I1 r1 .nil q1))⟩
theorem qmk (pa : PlainAttrs T) (slot : Slot T name id) (hty : typeOf (.builtin id) = pure (.type "method_descriptor")) (hm : MtR X id r) (ho : PE X o to) (ha : PA X (e :: es) t)
    (hbase : attributeBase o name X.env (eval o X.env) = eval o X.env := by rfl)
    (hfew : ((backTo cpos (starEach (e :: es) X.env)).all (fun x => !x.1) && (backToKw cpos (keywordEach [] X.env)).all (fun x => x.1.isSome)
      && decide ((e :: es).length + ([] : List Keyword).length + (if ([] : List Keyword).isEmpty then 0 else 1) < 30)) = true := by rfl)
    (hline : (apos.endLine == cpos.line) = true := by rfl) (hs : starEach (e :: es) X.env = (false, eval e X.env) :: starEach es X.env := by rfl) (hplain : (backTo cpos (starEach es X.env)).any (·.1) = false := by rfl) :
    PE X (.Call (.Attribute o name apos) (e :: es) [] cpos) (tBM X.K T r to t) := by
  intro pins s σ H Q I h
  refine wpAny_Call_method_late hbase hfew hline rfl (thn (ho pins s σ H _ I h) fun v s1 ⟨x, H1, I1, r1, ty, q1⟩ => ?_)
  obtain ⟨h1, h2⟩ := qm3 I1 r1 ty
  refine ⟨T, id, pa, slot, hty, h1, h2, ?_⟩
  have hA := ha cpos pins s1 σ H1 _ I1 q1
  rw [hs] at hA ⊢
  refine Calls.callWith_builtin (by show (false || (backTo cpos (starEach es X.env)).any (·.1)) = false; rw [hplain] <;> rfl) (Calls.evalArgs_plain ?_)
  exact thn hA fun us s2 ⟨vs, H2, I2, r2, q2⟩ => hm pins s2 σ H2 x vs v us Q I2 r1 r2 q2
end
end L2
namespace L2
open PySem PySem.Spec PyProof.Rows
noncomputable def MtM (X : Cx) (id : String) (r : V → List V → Hp → VK → Prop) : Prop :=
  ∀ (pins : List (Addr × Obj)) (s : Shared) (σ : St) (H : Hp) (x : V) (xs : List V) (v : Value) (us : List Value) (Q : VK), Inv X pins σ H s → RelV x v → Vals xs us → r x xs H Q →
    wpAny (model X.prog X.w) X.A (call (.builtin id) (v :: us)) (EP X pins σ Q) X.xe s
theorem Vals.zero {us : List Value} (h : Vals [] us) : us = [] := by cases h; rfl
theorem Vals.inv {x : V} {xs : List V} {us : List Value} (h : Vals (x :: xs) us) : ∃ u t, us = u :: t ∧ RelV x u ∧ Vals xs t := by cases h with | cons r t => exact ⟨_, _, rfl, r, t⟩
theorem Vals.one {x : V} {us : List Value} (h : Vals [x] us) : ∃ u, us = [u] ∧ RelV x u := by obtain ⟨u, t, rfl, r, h⟩ := h.inv; exact ⟨u, by rw [h.zero], r⟩
theorem Vals.two {x y : V} {us : List Value} (h : Vals [x, y] us) : ∃ u v, us = [u, v] ∧ RelV x u ∧ RelV y v := by obtain ⟨u, t, rfl, r, h⟩ := h.inv; obtain ⟨v, rfl, q⟩ := h.one; exact ⟨u, v, rfl, r, q⟩
theorem Vals.rep {xs : List V} {us : List Value} (h : Vals xs us) : ∀ k : Nat, Vals (List.replicate k xs).flatten (List.replicate k us).flatten
  | 0 => .nil
  | k + 1 => by
    rw [List.replicate_succ, List.replicate_succ, List.flatten_cons, List.flatten_cons]
    exact Vals.append h (Vals.rep h k)
theorem qhX (its : List Value) : ∀ (k : Nat) (acc : List Value),
    List.foldl (fun x1 x2 => x1 ++ x2) acc.toArray (List.replicate k its.toArray) = (acc ++ (List.replicate k its).flatten).toArray
  | 0, acc => by simp
  | k + 1, acc => by
    have e : acc.toArray ++ its.toArray = (acc ++ its).toArray := by simp
    have e2 : (acc ++ its) ++ (List.replicate k its).flatten = acc ++ (List.replicate (k + 1) its).flatten := by
      rw [List.replicate_succ, List.flatten_cons, List.append_assoc]
    rw [← e2, ← qhX its k (acc ++ its), ← e, List.replicate_succ, List.foldl_cons]
section
variable {X : Cx} {pins : List (Addr × Obj)} {σ : St} {H : Hp} {s : Shared} {l b : Addr} {xs ys zs : List V}
theorem Inv.lset {its its' : List Value} {n : Nat} {f : Array Value → Array Value} {t' : Nat} (I : Inv X pins σ H s) (hH : H l = some (.lst xs))
    (e : s.heap.get? l = some { cls := .type "list", data := .seq its.toArray n }) (hf : f its.toArray = its'.toArray) (hv : Vals ys its') (hz : ys.length ≤ sizeLine) :
    Inv X pins σ (upd H l (.lst ys)) { s with heap := s.heap.update l (Obj.mapSeq f), toks := t' } := by
  have q := PySem.IsL.update e f
  rw [hf] at q
  refine I.write (x := l) (e := l) (by rw [hH]; exact trivial) (.inl rfl) (fun b' u hb hu => (Heap.get?_update_other s.heap (Obj.mapSeq f) (Ne.symm hb)).trans hu) ⟨_, q⟩ ?_
  exact ⟨hz, its', _, hv, q⟩
theorem Inv.lnew {its : List Value} {t' : Nat} (I : Inv X pins σ H s) (hv : Vals ys its) (hz : ys.length ≤ sizeLine) :
    Inv X pins σ (upd H s.heap.objs.size (.lst ys)) { s with heap := s.heap.push { cls := .type "list", data := .seq its.toArray }, toks := t' } :=
  I.laid (fun _ _ q => Heap.get?_push_of_some _ q) (Nat.le_refl _) ⟨hz, its, 0, hv, Heap.get?_push_size _ rfl⟩
theorem Inv.fresh (I : Inv X pins σ H s) : H s.heap.objs.size = none := I.hok.fresh (Nat.le_refl _)
theorem Inv.lstM (I : Inv X pins σ H s) (hH : H l = some (.lst xs)) : xs.length ≤ sizeLine ∧ ∃ (its : List Value) (n : Nat), Vals xs its ∧ xs.length = its.length ∧ s.heap.get? l = some { cls := .type "list", data := .seq its.toArray n } := by
  obtain ⟨z, its, n, r, e⟩ := I.hok l _ hH
  exact ⟨z, its, n, r, r.length, e⟩
theorem qml {n : Nat} (h : n ≤ sizeLine) : Builtin.List.listTooLong n = false := by
  unfold Builtin.List.listTooLong
  exact decide_eq_false (by omega)
end
section
variable {X : Cx}
noncomputable def qeT : V → List V → Hp → VK → Prop := fun x vs H Q => ∃ l xs y, x = .ref l ∧ vs = [y] ∧ H l = some (.lst xs) ∧ xs.length < sizeLine ∧ Q .non (upd H l (.lst (xs ++ [y])))
theorem qeh : MtM X "list.append" qeT := by
  intro pins s σ H x vs v us Q I rx rv h
  obtain ⟨l, xs, y, rfl, rfl, hH, hz, q⟩ := h
  cases rx
  obtain ⟨u, rfl, ru⟩ := rv.one
  obtain ⟨z, its, n, r, hl, e⟩ := I.lstM hH
  refine call_meets F.slot_list_append ⟨_, e, rfl⟩ F.entry_list_append (F.args_list_append_2 _ _) (PySem.list_append l its.toArray n u (by rw [List.size_toArray]; omega)) ⟨e, ?_⟩
  refine ⟨.non, _, I.lset (its' := its ++ [u]) hH e (by simp) (r.append (.cons ru .nil)) ?_, rfl, q⟩
  rw [List.length_append, List.length_singleton]
  omega
noncomputable def qps : R2 := fun x y H Q => ∃ l b xs zs, x = .ref l ∧ y = .ref b ∧ H l = some (.lst xs) ∧ H b = some (.lst zs) ∧ xs.length + zs.length ≤ sizeLine ∧ ∀ p, H p = none → Q (.ref p) (upd H p (.lst (xs ++ zs)))
theorem qm4 : OpR X (binaryOp .Add) qps := by
  intro pins s σ H x y v u Q I rx ry h
  obtain ⟨l, b, xs, zs, rfl, rfl, hH, hB, hz, q⟩ := h
  cases rx
  cases ry
  obtain ⟨z, its, n, r, hl, e⟩ := I.lstM hH
  obtain ⟨z2, its2, n2, r2, hl2, e2⟩ := I.lstM hB
  refine PySem.P.add_list e e2 ?_ (by rw [List.size_toArray, List.size_toArray]; omega)
  have ea : its.toArray ++ its2.toArray = (its ++ its2).toArray := by simp
  rw [ea]
  exact ⟨.ref _, _, I.lnew (t' := s.toks) (r.append r2) (by rw [List.length_append]; omega), rfl, q _ I.fresh⟩
noncomputable def qpt : R2 := fun x y H Q => ∃ l k xs, x = .ref l ∧ y = .int k ∧ H l = some (.lst xs) ∧ -(2 ^ 63) ≤ k ∧ k < 2 ^ 63 ∧ xs.length * k.toNat ≤ sizeLine ∧
  ∀ p, H p = none → Q (.ref p) (upd H p (.lst (List.replicate k.toNat xs).flatten))
theorem qnK {α : Type} (xs : List α) (k : Nat) : (List.replicate k xs).flatten.length = k * xs.length := by
  induction k with
  | zero => simp
  | succ k ih => rw [List.replicate_succ, List.flatten_cons, List.length_append, ih, Nat.succ_mul, Nat.add_comm]
theorem qm5 : OpR X (binaryOp .Mult) qpt := by
  intro pins s σ H x y v u Q I rx ry h
  obtain ⟨l, k, xs, rfl, rfl, hH, h1, h2, hz, q⟩ := h
  cases rx
  obtain ⟨t, rfl⟩ := ry
  obtain ⟨z, its, n, r, hl, e⟩ := I.lstM hH
  have hlen : its.toArray.size * k.toNat ≤ sizeLine := by rw [List.size_toArray, ← hl]; exact hz
  have hcap : ¬ its.toArray.size * k.toNat > (2 ^ 63 - 1) / 8 := by
    have : (sizeLine : Nat) ≤ (2 ^ 63 - 1) / 8 := by decide
    omega
  have hfit : ¬ (!Builtin.List.listFitsIndex k) = true := by
    rw [fitsIndex_both h1 h2]
    exact Bool.false_ne_true
  have hlong : ¬ Builtin.List.listTooLong (its.toArray.size * k.toNat) = true := by
    rw [qml hlen]
    exact Bool.false_ne_true
  have hnew : List.foldl (fun x1 x2 => x1 ++ x2) #[] (List.replicate (if its.toArray.isEmpty = true then 0 else k.toNat) its.toArray) = (List.replicate k.toNat its).flatten.toArray := by
    have f0 : ∀ m : Nat, List.foldl (fun x1 x2 => x1 ++ x2) #[] (List.replicate m its.toArray) = (List.replicate m its).flatten.toArray := fun m => by
      have := qhX its m []
      rw [List.nil_append] at this
      exact this
    rw [f0]
    cases its with
    | nil => simp
    | cons a r' => rw [if_neg (by simp)]
  refine wpAny_binaryOp_repeat_ref (T := "list") (U := "int") (by decide) ⟨_, e, rfl⟩ (fun s' => typeIs_int s' k t) noFill_list_mul F.fills_int_mul F.slot_int_rmul repeat_list F.slot_int_index.lookup
    (call_meets F.slot_int_rmul (typeIs_int s k t) F.entry_int_rmul (F.args_int_rmul_2 _ _) (int___rmul___int_list k t l its.toArray n)
      ⟨e, rfl, ⟨_, e, rfl⟩, call_meets F.slot_list_mul ⟨_, e, rfl⟩ F.entry_list_mul (F.args_list_mul_2 _ _) (AutoListH.list___mul___list_int_3 l its.toArray n k t hfit hcap hlong) ⟨e, ?_⟩⟩)
  rw [hnew]
  exact ⟨.ref _, _, I.lnew (t' := s.toks) (r.rep k.toNat) (by rw [qnK, Nat.mul_comm]; exact hz), rfl, q _ I.fresh⟩
end
section
variable {prog : Program} {w : World} {A : Around} {E : Value → Shared → Prop} {s : Shared}
end
section
variable {X : Cx}
end
end L2
namespace Att
open PySem PySem.W PySem.Calls PyProof.Rows
theorem qfK {P : Params} {h : Heap} : ∀ (ns : List Int) (vs : List Value), WellAll P h vs (ns.map WData.int) → IntsAre vs ns := by
  intro ns
  induction ns with
  | nil =>
    intro vs w
    rw [List.map_nil] at w
    cases w
    exact .nil
  | cons n ns ih =>
    intro vs w
    rw [List.map_cons] at w
    cases w with
    | cons a b =>
      cases a
      exact .cons _ _ (ih _ b)
theorem qkS {l : OpenLaw} {n : Nat} (hn : l.most = some n) {P : Params} {h : Heap} {args : List WData} {vals : List Value}
    (hpre : l.row.toRowW.claim.pre args = true) (hwl : WellAll P h vals args) :
    ∃ a vs ns, vals = [Value.ref a] ∧ args = [WData.list (ns.map WData.int)] ∧ h.get? a = some { cls := .type "list", data := .seq vs.toArray } ∧ IntsAre vs ns ∧ ns.length ≤ n := by
  have hsh : WShape.hasAll [] args [.list .int] = true := (pre_splitW hpre).1
  have hc : l.pre.holds [] { args := args } = true := (pre_splitW hpre).2
  obtain ⟨d, r, rfl, h1, h2⟩ := hasAllW_cons hsh
  obtain rfl := hasAllW_nil h2
  obtain ⟨xs, rfl, h3⟩ := hasW_list h1
  obtain ⟨ns, rfl⟩ := items_int h3
  have hlen : ns.length ≤ n := by
    unfold OpenLaw.pre at hc
    have h4 : (WTm.not (.lt (.lit (.int (n : Int))) (.len (.arg 0)))).holds [] { args := [.list (ns.map .int)] } = true := by
      have h4 := (holds_andW hc).1
      rw [hn] at h4
      exact h4
    have h5 := condW_of h4 (w_not (w_lt w_lit (w_len_list (w_arg rfl))))
    rw [List.length_map] at h5
    refine Nat.le_of_not_lt fun q => ?_
    have q' : (n : Int) < ((ns.length : Nat) : Int) := by omega
    first
      | (rw [decide_eq_true q'] at h5; exact absurd h5 (by decide))
      | (simp at h5; omega)
  cases hwl with
  | cons w1 w2 =>
    cases w2
    cases w1 with
    | list ho hall => exact ⟨_, _, ns, rfl, rfl, ho, qfK ns _ hall, hlen⟩
theorem qkT (l : OpenLaw) (args : List WData) : l.row.toRowW.claim.post args (.bool true) args = true :=
  postW_of (r := l.row.toRowW) (X := (true == true))
    (show WShape.has [] (.bool true) .bool = true by first | rfl | decide | simp [WShape.has, WShape.arms, WShape.armsAll])
    (show (WTm.eq .res (.lit (.bool true))).value [] { args := args, res := some (.bool true), after := args } = some (.bool (true == true)) from w_eq_bool (w_res rfl) w_lit) rfl
theorem attach_call {l : OpenLaw} {n : Nat} {q : Program} {loose : List Str} {XP : (Str → Option Value) → Heap → Prop} {YP : World → Heap → Prop} {d : DefRec}
    (hn : l.most = some n) (hdf : d.params.defaults = [])
    (call : ∀ (w : World) (s₀ s₁ : Shared) (mg mb : Str → Option Value) (fa : Addr) (o : Obj) (pm cd doc : Value) (a : Addr) (vs : List Value) (ns : List Int),
      Ground q loose [] XP w s₀ mg mb s₁.heap → YP w s₁.heap →
      s₁.heap.get? fa = some o → o.data = .func (docDef d.name d.params d.body d.scope pm cd doc) → s₁.heap.CodeRec cd d.name → mg d.name = some (.ref fa) →
      s₁.heap.get? a = some { cls := .type "list", data := .seq vs.toArray } → IntsAre vs ns → ns.length ≤ n → s₁.gens = #[] →
      codeAny (model l.prog w) callerA (.call (.ref fa) ⟨[.ref a], []⟩) (fun r s' => r = .ok (.ret (.bool true)) ∧ OldK s₁.heap s'.heap ∧ s'.os = s₁.os ∧ AllBare s'.gens) s₁) :
    WalkO q loose XP YP l.row.toRowW d [] (fun f vs => PySem.call f vs) := by
  intro w s₀ s₁ mg mb G Y fa o pm cd doc dV kV ho hd hcd hD hmg hg args vals as hpre hlay hrd hwl hlo
  obtain rfl : dV = .none := Dflts.none hD hdf
  obtain rfl : kV = .none := Dflts.noKw hD
  obtain ⟨a, vs, ns, rfl, rfl, hobj, hints, hlen⟩ := qkS hn hpre hwl
  refine enter_call (codeAny_mono (call w s₀ s₁ mg mb fa o pm cd doc a vs ns G Y ho (fd_plain hd) hcd hmg hobj hints hlen hg) fun r s' hq => ?_)
  obtain ⟨rfl, h2, h3, h4⟩ := hq
  exact ⟨.inl ⟨.bool true, .bool true, [], rfl, fun _ => rfl, .bool true, qkT l _, fun _ => ⟨List.Pairwise.nil, fun _ hm => (nomatch hm)⟩⟩, h2, h3, h4⟩
section
variable {prog : Program} {w : World} {A : Around} {E : Value → Shared → Prop} {s : Shared} {K : Frag}
end
end Att
namespace L2
open PySem PySem.Spec PyProof.Rows
theorem qhY : ∀ {vs : List Value} {ns : List Int}, IntsAre vs ns → Vals (ns.map V.int) vs
  | _, _, .nil => .nil
  | _, _, .cons n t h => .cons ⟨t, rfl⟩ (qhY h)
noncomputable def Only (H : Hp) : Prop := ∀ b, H b = none ∨ ∃ o xs, H b = some (.frz o (.lst xs))
theorem qmm {P : Program} {w : World} {K : PySem.W.Frag} {mg mb : Str → Option Value} {CX : CXT} {k : Nat} {fa a : Addr} {fd : FuncData} {x : Str} {sp : Sp} {s₁ : Shared} {vs : List Value} {ns : List Int}
    (KX : K.In s₁.heap) (hns : s₁.heap.Ns mainGlobals mg) (hb : s₁.heap.Ns builtinsNs mb) (hbb : ∀ x : Str, x ≠ "__name__" → mb x = bootBuiltins x) (hlim : s₁.heap.NoLimit) (hseer : s₁.heap.NoSeer) (htree : (model P w).prog.given.tree = none) (hg : s₁.gens = #[])
    (ha : s₁.heap.get? a = some { cls := .type "list", data := .seq vs.toArray }) (hi : IntsAre vs ns) (hl : ns.length ≤ sizeLine) (hr : Room k callerA)
    (F : ∀ base : Heap, K.In base → base.Ns mainGlobals mg → FnOk P w K mg base CX k fa fd [x] sp) (hbind : ∀ (s : Shared) (u : Value), BindsTo s fd ⟨[u], []⟩ [(x, u)])
    (hsp : ∀ H : Hp, Only H → SqL K H a (ns.map V.int) → sp [.ref a] H (fun v _ => v = .bl true) fun _ _ _ => False)
    (hCX : ∀ H e s', CX [] H s₁ (fun _ _ _ => False) e s' → False) :
    codeAny (model P w) callerA (.call (.ref fa) ⟨[.ref a], []⟩) (fun r s' => r = .ok (.ret (.bool true)) ∧ OldK s₁.heap s'.heap ∧ s'.os = s₁.os ∧ AllBare s'.gens) s₁ := by
  have rv := qhY hi
  have lenV := hi.length
  have core : ∀ H : Hp, Only H → SqL K H a (ns.map V.int) → HOk P w H s₁.heap → (∀ b, H b ≠ none → b = a) → (H a ≠ none → K.lookup a = none) →
      codeAny (model P w) callerA (.call (.ref fa) ⟨[.ref a], []⟩) (fun r s' => r = .ok (.ret (.bool true)) ∧ OldK s₁.heap s'.heap ∧ s'.os = s₁.os ∧ AllBare s'.gens) s₁ := by
    intro H hO hS hok hA hK
    have base_of : ∀ {b : Addr} {o : Obj}, s₁.heap.get? b = some o → H b = none → (qma s₁.heap H).get? b = some o := fun e n => qmd e n
    have noA : ∀ {b : Addr} {o : Obj} {es : Array DictEntry} {ep : Nat}, s₁.heap.get? b = some o → o.data = .dict es ep → H b = none := fun {b o es ep} e d => by
      cases q : H b with
      | none => rfl
      | some u =>
        have e' : b = a := hA b (by rw [q]; simp)
        subst e'
        rw [ha] at e; cases e
        have d' : Data.seq vs.toArray _ = Data.dict es ep := d
        cases d'
    have nsK : ∀ {b : Addr} {m : Str → Option Value}, s₁.heap.Ns b m → (qma s₁.heap H).Ns b m := fun {b m} ⟨o, es, ep, e, d, r⟩ => ⟨o, es, ep, base_of e (noA e d), d, r⟩
    have hKb : K.In (qma s₁.heap H) := fun b o e => base_of (KX b o e) (by
      cases q : H b with
      | none => rfl
      | some u =>
        have e' : b = a := hA b (by rw [q]; simp)
        subst e'
        rw [hK (by rw [q]; simp)] at e; cases e)
    have hM : Mod K mg (qma s₁.heap H) := ⟨hKb, nsK hns, ⟨mb, nsK hb, hbb⟩, let ⟨mc, h1, h2⟩ := hlim; ⟨mc, nsK h1, h2⟩⟩
    have hSe : (qma s₁.heap H).NoSeer := ⟨let ⟨mc, a, b⟩ := hseer.statics; ⟨mc, nsK a, b⟩, let ⟨mc, a, b⟩ := hseer.mods; ⟨mc, nsK a, b⟩, let ⟨mc, a, b⟩ := hseer.imp; ⟨mc, nsK a, b⟩,
      let ⟨mg', bm, ob, a', b', c', d', e'⟩ := hseer.main; ⟨mg', bm, ob, nsK a', b', base_of c' (by
        cases q : H bm with
        | none => rfl
        | some u =>
          have z : bm = a := hA bm (by rw [q]; simp)
          subst z
          rw [ha] at c'; cases c'
          simp at d'), d', e'⟩⟩
    have e0 : Env0 P w K mg (qma s₁.heap H) callerA [] s₁ H := ⟨rfl, hM, fun b o e => qnu e, Nat.le_of_eq (qky _ _), trivial, fun b hb => absurd (show b ∈ ([] : List Addr) from hb) (by simp), hok, .of_eq hg, hSe, htree⟩
    refine codeAny_mono ((F _ hKb (nsK hns)).run callerA [] s₁ H ⟨[.ref a], []⟩ [.ref a] [.ref a] _ _ hr e0 (hbind s₁ (.ref a)) (.cons rfl .nil) (hsp H hO hS)) fun r s' h => ?_
    cases r with
    | error e => exact (hCX H e s' h).elim
    | ok fl =>
      cases fl with
      | next => exact False.elim h
      | brk => exact False.elim h
      | cont => exact False.elim h
      | ret u =>
        obtain ⟨v, H', os, bare, un, hok', r', q⟩ := h
        have q' : v = .bl true := q
        subst q'
        obtain rfl : u = Value.bool true := r'
        refine ⟨rfl, OldK.of_keep fun b o e => ?_, os, bare⟩
        cases q : H b with
        | none => exact un.keep b o e q (by intro z; exact absurd (show b ∈ ([] : List Addr) from z) (by simp)) (by simp)
        | some u =>
          rcases hO b with z | ⟨ob, xs, z⟩
          · rw [q] at z; cases z
          · have z2 := un.frzs b ob _ z
            obtain ⟨e1, _⟩ := hok b _ z
            obtain ⟨e2, _⟩ := hok' b _ z2
            rw [e] at e1; cases e1
            exact e2
  cases hk : K.lookup a with
  | some o =>
    have e := KX a o hk
    rw [ha] at e
    cases e
    refine core (fun _ => none) (fun _ => .inl rfl) (.inr ⟨_, vs.toArray, _, hk, rfl, rfl, rfl, by rw [List.size_toArray, lenV]; exact hl, by simpa using rv⟩) (fun b u z => by have z' : (none : Option HO) = some u := z; cases z') (fun b z => absurd rfl z) fun z => absurd rfl z
  | none =>
    refine core (fun b => if b = a then some (.frz { cls := .type "list", data := .seq vs.toArray } (.lst (ns.map V.int))) else none) (fun b => ?_) (.inl (.inr ⟨{ cls := .type "list", data := .seq vs.toArray }, if_pos rfl⟩)) (fun b u z => ?_) (fun b z => ?_) fun _ => hk
    · by_cases hb : b = a
      · exact .inr ⟨_, _, if_pos hb⟩
      · exact .inl (if_neg hb)
    · by_cases hb : b = a
      · have z' := (if_pos hb).symm.trans z
        cases z'
        subst hb
        exact ⟨ha, by rw [List.length_map]; exact hl, vs, _, rv, ha⟩
      · have z' := (if_neg hb).symm.trans z
        cases z'
    · by_cases hb : b = a
      · exact hb
      · exact absurd (if_neg hb) z
end L2
namespace L2
open PySem PySem.Spec PyProof.Rows
theorem walk_of {l : PySem.W.OpenLaw} {n k : Nat} {q : Program} {loose : List Str} {XP : (Str → Option Value) → Heap → Prop} {YP : World → Heap → Prop} {d : DefRec} {K : Params → PySem.W.Frag} {CX : World → CXT} {sp : World → Sp} {x : Str}
    (hn : l.most = some n) (hn2 : n ≤ sizeLine) (hdf : d.params.defaults = []) (hq : importsNone q = true) (htree : ∀ w, (model l.prog w).prog.given.tree = none) (hr : Room k callerA)
    (hY : ∀ (w : World) (h : Heap), YP w h → (K w.params).In h)
    (F : ∀ (w : World) (mg : Str → Option Value) (fa : Addr) (h : Heap), (K w.params).In h → h.Ns mainGlobals mg → mg d.name = some (.ref fa) →
      ∃ fd : FuncData, (∀ (s : Shared) (u : Value), BindsTo s fd ⟨[u], []⟩ [(x, u)]) ∧
        ∀ base : Heap, (K w.params).In base → base.Ns mainGlobals mg → FnOk l.prog w (K w.params) mg base (CX w) k fa fd [x] (sp w))
    (hsp : ∀ (w : World) (H : Hp) (a : Addr) (ns : List Int), ns.length ≤ n → Only H → SqL (K w.params) H a (ns.map V.int) → sp w [.ref a] H (fun v _ => v = .bl true) fun _ _ _ => False)
    (hCX : ∀ (w : World) (H : Hp) (s : Shared) (e : Value) (s' : Shared), CX w [] H s (fun _ _ _ => False) e s' → False) :
    PySem.W.WalkO q loose XP YP l.row.toRowW d [] (fun f vs => PySem.call f vs) := by
  refine Att.attach_call hn hdf fun w s₀ s₁ mg mb fa o pm cd doc a vs ns G Y ho hd hcd hmg hobj hints hlen hg => ?_
  have KX := hY w _ Y
  obtain ⟨fd, hb, hF⟩ := F w mg fa _ KX G.T.g hmg
  exact qmm KX G.T.g G.T.b G.T.builtins G.T.nolimit (G.T.seer hq) (htree w) hg hobj hints (Nat.le_trans hlen hn2) hr hF hb (fun H hO hS => hsp w H a ns hlen hO hS) fun H e s' => hCX w H s₁ e s'
end L2
namespace L2
open PySem PySem.Spec PyProof.Rows
noncomputable def inClass (s : Stmt) (j : Nat) : Stmt := match s with
  | .ClassDef _ _ _ body _ _ _ _ _ _ _ => body.getD j (.Pass ⟨0, 0, 0, 0⟩)
  | _ => .Pass ⟨0, 0, 0, 0⟩
noncomputable def qb5 (s : Stmt) : Arguments := match s with
  | .FunctionDef _ a _ _ _ _ _ _ _ _ => a
  | _ => { posonlyargs := [], args := [], vararg := none, kwonlyargs := [], kw_defaults := [], kwarg := none, defaults := [] }
noncomputable def qbn (s : Stmt) : List Stmt := match s with
  | .FunctionDef _ _ b _ _ _ _ _ _ _ => b
  | _ => []
noncomputable def qaH (s : Stmt) : Scope := match s with
  | .FunctionDef _ _ _ _ _ _ sc _ _ _ => sc
  | _ => { kind := .function, names := [], isGenerator := false, isCoroutine := false }
noncomputable abbrev CX0 : CXT := fun _ _ _ _ _ _ => False
noncomputable abbrev E0 : XK := fun _ _ _ => False
theorem qoJ {X : Cx} : Passes CX0 X E0 := fun _ _ _ _ _ _ _ h => h.elim
structure Fun (K : PySem.W.Frag) (x qual : Str) (st : Stmt) (f : Addr) (fd : FuncData) : Prop where
  ex : ∃ (oc : Value) (od : Option Addr) (kV doc pm : Value) (an : Option Addr) (cdv ct : Value) (osl : Array (Option Value)),
    fd = PySem.W.fnOf x qual (qb5 st) (qbn st) (qaH st) .none kV doc pm an cdv ct ∧ K.lookup f = some ⟨oc, od, .func fd, osl⟩ ∧ PySem.W.codeIn K cdv qual = true
  kp : PySem.W.keepIn K (.ref f) = true
section
variable {P : Program} {w : World} {K : PySem.W.Frag} {mg : Str → Option Value} {base : Heap}
theorem Fun.ok {x qual : Str} {st : Stmt} {f : Addr} {fd : FuncData} {N ps : List Str} {k : Nat} {sp : Sp} (F : Fun K x qual st f fd) (S : FnScope N ps (qaH st)) (len : ∀ vs H Q E, sp vs H Q E → vs.length = ps.length)
    (hbody : ∀ (cdv : Value) (A : Around) (outer : List Env) (s : Shared) (H : Hp) (vs : List V) (Q : VK) (E : XK), Room k (A.deeper (envOfC qual (qaH st) s.heap.objs.size f cdv)) → sp vs H Q E →
      ∃ t, PSs (qnH CX0 P w K mg base N qual (qaH st) f cdv A outer s H E).nox (qbn st) t ∧ t { nx := fun _ H' => Q .non H', rt := Q } (start N vs) H) : FnOk P w K mg base CX0 (k + 1) f fd ps sp := by
  obtain ⟨oc, od, kV, doc, pm, an, cdv, ct, osl, rfl, lk, hcd⟩ := F.ex
  refine qpE lk hcd S len fun A outer s H vs Q E hr hsp => ?_
  obtain ⟨t, h, q⟩ := hbody cdv A outer s H vs Q E hr hsp
  exact ⟨t, h.nox, q⟩
theorem Fun.binds {x qual : Str} {st : Stmt} {f : Addr} {fd : FuncData} {ps : List Str} (F : Fun K x qual st f fd)
    (h : ∀ (kV doc pm : Value) (an : Option Addr) (cdv ct : Value) (us : List Value), us.length = ps.length → bindArgs (PySem.W.fnOf x qual (qb5 st) (qbn st) (qaH st) .none kV doc pm an cdv ct) ⟨us, []⟩ = pure (ps.zip us)) : Binds K fd ps [] := by
  obtain ⟨oc, od, kV, doc, pm, an, cdv, ct, osl, rfl, lk, hcd⟩ := F.ex
  exact .all (h kV doc pm an cdv ct)
theorem qm6 {x qual : Str} {st : Stmt} {f : Addr} {oc : Value} {od an : Option Addr} {osl : Array (Option Value)} {kV doc pm cdv ct : Value} (l : K.lookup f = some ⟨oc, od, .func (PySem.W.fnOf x qual (qb5 st) (qbn st) (qaH st) .none kV doc pm an cdv ct), osl⟩)
    (c : PySem.W.codeIn K cdv qual = true) (k : PySem.W.keepIn K (.ref f) = true) : Fun K x qual st f (PySem.W.fnOf x qual (qb5 st) (qbn st) (qaH st) .none kV doc pm an cdv ct) := ⟨⟨oc, od, kV, doc, pm, an, cdv, ct, osl, rfl, l, c⟩, k⟩
end
section
variable {X : Cx}
theorem pv (i : Nat) {x : Str} {pos : Pos} (hN : X.N[i]? = some x := by rfl) (hv : Vis X.env.scope x := by first | exact Or.inl rfl | exact Or.inr (Or.inl rfl) | exact Or.inr (Or.inr rfl)) (hd : (x == ("__debug__" : Str)) = false := by decide)
    (hcd : (x == ("__classdict__" : Str)) = false := by decide) : PE X (.Name x pos) (qah i) := qoy hN hv hd hcd
end
theorem qbr {c A B : Prop} [Decidable c] (h1 : c → A) (h2 : ¬ c → B) : if c then A else B := by
  by_cases h : c
  · rw [if_pos h]
    exact h1 h
  · rw [if_neg h]
    exact h2 h
noncomputable def Same (H H' : Hp) : Prop := ∀ b o, H b = some o → H' b = some o
theorem Same.refl (H : Hp) : Same H H := fun _ _ h => h
theorem Same.trans {H H1 H2 : Hp} (a : Same H H1) (b : Same H1 H2) : Same H H2 := fun c o h => b c o (a c o h)
theorem Same.free {H H' : Hp} (e : Same H H') {l : Addr} (h : H' l = Option.none) : H l = Option.none := by
  cases q : H l with
  | none => rfl
  | some o =>
    rw [e l o q] at h
    cases h
theorem Same.seq {K : PySem.W.Frag} {H H' : Hp} {a : Addr} {xs : List V} (e : Same H H') (h : SqL K H a xs) : SqL K H' a xs := by
  rcases h with (h | ⟨o, h⟩) | h
  · exact .inl (.inl (e _ _ h))
  · exact .inl (.inr ⟨o, e _ _ h⟩)
  · exact .inr h
end L2
local macro_rules | `(tactic| omega) => `(tactic| lia)
namespace Bs.Hd
open PySem PySem.Spec PyProof.Rows L2
set_option maxRecDepth 100000
set_option maxHeartbeats 4000000
noncomputable def top (i:Nat):Stmt:=PySem.Challenge.pw_backslope_k08_all_solutions.main.body.getD i (.Pass ⟨0,0,0,0⟩)
noncomputable abbrev qfo:Stmt:=top 3
noncomputable abbrev qjY:Stmt:=top 4
noncomputable abbrev qhf:Stmt:=top 5
noncomputable abbrev qhg:Stmt:=top 6
noncomputable abbrev qpG:Stmt:=top 7
noncomputable abbrev qfp:Stmt:=top 8
noncomputable abbrev qgn:Stmt:=top 9
noncomputable abbrev qfq:Stmt:=top 10
noncomputable abbrev qkU:Stmt:=top 11
noncomputable abbrev qhh:Stmt:=top 12
noncomputable abbrev qkV:Stmt:=top 13
noncomputable abbrev qnL:Stmt:=top 15
noncomputable abbrev qkW:Stmt:=top 17
noncomputable abbrev qmn:Stmt:=top 19
noncomputable abbrev qfL:Stmt:=L2.inClass (top 20) 0
noncomputable abbrev qjZ:Stmt:=top 21
noncomputable abbrev qmo:Stmt:=top 22
noncomputable abbrev qmp:Stmt:=top 23
noncomputable abbrev qgo:Stmt:=top 24
noncomputable abbrev qkX:Stmt:=top 25
noncomputable abbrev qfM:Stmt:=top 26
noncomputable abbrev qgp:Stmt:=top 27
noncomputable abbrev qj0:Stmt:=top 28
noncomputable abbrev qeU:Stmt:=top 29
noncomputable abbrev qkY:Stmt:=top 30
noncomputable abbrev qmq:Stmt:=top 31
noncomputable abbrev qkZ:Stmt:=top 32
noncomputable abbrev qfN:Stmt:=top 33
noncomputable abbrev qnM:Stmt:=top 35
noncomputable abbrev qmr:Stmt:=top 36
noncomputable abbrev qj1:Stmt:=top 37
noncomputable abbrev qj2:Stmt:=top 38
noncomputable abbrev qnN:Stmt:=top 39
noncomputable abbrev qiA:Stmt:=top 40
noncomputable abbrev qiB:Stmt:=top 42
noncomputable abbrev qk0:Stmt:=top 43
noncomputable abbrev qhi:Stmt:=top 44
noncomputable abbrev qms:Stmt:=top 45
noncomputable abbrev qmt:Stmt:=top 46
noncomputable abbrev N:Value:=.none
noncomputable abbrev S (x:Str) (t:Tok):Value:=.str x t
noncomputable abbrev I (i:Int):Value:=.int i 0
noncomputable abbrev R (a:Addr):Value:=.ref a
noncomputable def enD (P:Params) (k:Str) (t:Tok) (v:Value):DictEntry:=⟨PyData.keyHash P k,.str k t,v⟩
noncomputable def cdO (n:Str) (t:Tok) (l c u:Int) (a:Addr) (b g d e f:Value) (x:Int) (y:Tok):Obj:=⟨.type "code", none,.fields #[S n t,S n (t+1),S "/claim/cut.py" (t+2),I l,I c,I 0,I 0,I u,R a,.bool true,I 181,b,g,d,e,f,I x,I l,S "/claim/cut.py" y],#[]⟩
noncomputable def fnO (n:Str) (s:Stmt) (pm:Value) (c:Addr):Obj:=⟨.type "function", none,.func (PySem.W.fnOf n n (qb5 s) (qbn s) (qaH s) .none .none .none pm none (.ref c) .none),#[]⟩
noncomputable def fnQ (n q:Str) (s:Stmt) (pm:Value) (c:Addr):Obj:=⟨.type "function", none,.func (PySem.W.fnOf n q (qb5 s) (qbn s) (qaH s) .none .none .none pm none (.ref c) .none),#[]⟩
noncomputable abbrev mo0:Value:=S "backslope.wholes" 187
noncomputable abbrev mo1:Value:=S "backslope.numbers" 282
noncomputable abbrev mo2:Value:=S "backslope.polys" 293
noncomputable abbrev mo3:Value:=S "backslope.linear" 301
noncomputable abbrev mo4:Value:=S "law_backslope_k08_all_solutions" 440
noncomputable def hp (P:Params):W.Frag:=[
  (3,⟨.type "dict", none,.dict #[enD P "__name__" 165 (S "law_backslope_k08_all_solutions" 440),enD P "__doc__" 166 N,enD P "__package__" 167 N,enD P "__loader__" 168 (.builtin "__main__.__loader__#opaque"),enD P "__spec__" 169 N,enD P "__annotations__" 170 (R 6),enD P "__builtins__" 171 (R 4),enD P "__file__" 173 (S "/claim/cut.py" 172),enD P "__cached__" 174 N,enD P "FIRST_PRIME" 190 (.int 170141183460469231731687303715884105727 189),enD P "SECOND_PRIME" 192 (.int 2147483647 191),enD P "common_divisor" 201 (R 21),enD P "is_prime" 209 (R 28),enD P "prime_after" 217 (R 35),enD P "other_prime" 224 (R 42),enD P "dot" 230 (R 47),enD P "inverse_modulo" 244 (R 54),enD P "rests_modulo" 250 (R 59),enD P "reduced_modulo" 256 (R 64),enD P "swapped" 266 (R 71),enD P "row_cleared" 272 (R 76),enD P "nearest" 281 (R 83),enD P "ratio" 292 (R 90),enD P "cleared" 300 (R 95),enD P "solved" 308 (R 100),enD P "Core" 339 (R 115),enD P "width_of" 346 (R 126),enD P "picked" 352 (R 131),enD P "spread" 364 (R 138),enD P "numbers_over" 370 (R 143),enD P "crossed" 376 (R 148),enD P "picked_column" 382 (R 153),enD P "inverse_rows" 388 (R 158),enD P "frees_of" 394 (R 163),enD P "weights_against" 400 (R 168),enD P "settled" 406 (R 173),enD P "solves" 417 (R 180),enD P "guessed" 423 (R 185),enD P "bottom_modulo" 439 (R 192),enD P "_law_box" 451 (R 199),enD P "_law_take" 461 (R 206),enD P "_law_lowest" 471 (R 213),enD P "_law_number" 479 (R 220),enD P "_law_sum" 487 (R 227),enD P "_law_product" 495 (R 234),enD P "_law_is_number" 503 (R 241),enD P "_law_weighed" 514 (R 248),enD P "_law_small" 521 (R 255),enD P "_law_equations" 527 (R 260),enD P "_law_rank" 533 (R 265),enD P "law" 546 (R 272)] 51,#[]⟩),
  (20,cdO "common_divisor" 193 4 2 3 15 (R 16) N (R 17) (R 18) (R 19) 199 200),
  (21,fnO "common_divisor" (top 3) mo0 20),
  (27,cdO "is_prime" 202 10 1 3 22 (R 23) N (R 24) (R 25) (R 26) 207 208),
  (28,fnO "is_prime" (top 4) mo0 27),
  (34,cdO "prime_after" 210 17 1 3 29 (R 30) N (R 31) (R 32) (R 33) 215 216),
  (35,fnO "prime_after" (top 5) mo0 34),
  (41,cdO "other_prime" 218 22 1 3 36 (R 37) N (R 38) (R 39) (R 40) 222 223),
  (42,fnO "other_prime" (top 6) mo0 41),
  (46,cdO "dot" 225 24 2 3 43 (R 44) N N N (R 45) 228 229),
  (47,fnO "dot" (top 7) mo0 46),
  (53,cdO "inverse_modulo" 231 26 2 3 48 (R 49) N (R 50) (R 51) (R 52) 242 243),
  (54,fnO "inverse_modulo" (top 8) mo0 53),
  (58,cdO "rests_modulo" 245 40 2 3 55 (R 56) N N N (R 57) 248 249),
  (59,fnO "rests_modulo" (top 9) mo0 58),
  (63,cdO "reduced_modulo" 251 42 2 3 60 (R 61) N N N (R 62) 254 255),
  (64,fnO "reduced_modulo" (top 10) mo0 63),
  (70,cdO "swapped" 257 58 3 3 65 (R 66) N (R 67) (R 68) (R 69) 264 265),
  (71,fnO "swapped" (top 11) mo0 70),
  (75,cdO "row_cleared" 267 63 4 3 72 (R 73) N N N (R 74) 270 271),
  (76,fnO "row_cleared" (top 12) mo0 75),
  (82,cdO "nearest" 273 68 2 3 77 (R 78) N (R 79) (R 80) (R 81) 279 280),
  (83,fnO "nearest" (top 13) mo0 82),
  (89,cdO "ratio" 284 72 2 3 84 (R 85) N (R 86) (R 87) (R 88) 290 291),
  (90,fnO "ratio" (top 15) mo1 89),
  (94,cdO "cleared" 295 78 1 3 91 (R 92) N N N (R 93) 298 299),
  (95,fnO "cleared" (top 17) mo2 94),
  (99,cdO "solved" 303 84 2 3 96 (R 97) N N N (R 98) 306 307),
  (100,fnO "solved" (top 19) mo3 99),
  (125,cdO "width_of" 340 110 1 3 120 (R 121) N (R 122) (R 123) (R 124) 344 345),
  (126,fnO "width_of" (top 21) mo3 125),
  (130,cdO "picked" 347 112 2 3 127 (R 128) N N N (R 129) 350 351),
  (131,fnO "picked" (top 22) mo3 130),
  (137,cdO "spread" 353 114 3 3 132 (R 133) N (R 134) (R 135) (R 136) 362 363),
  (138,fnO "spread" (top 23) mo3 137),
  (142,cdO "numbers_over" 365 119 2 3 139 (R 140) N N N (R 141) 368 369),
  (143,fnO "numbers_over" (top 24) mo3 142),
  (147,cdO "crossed" 371 121 1 3 144 (R 145) N N N (R 146) 374 375),
  (148,fnO "crossed" (top 25) mo3 147),
  (152,cdO "picked_column" 377 123 2 3 149 (R 150) N N N (R 151) 380 381),
  (153,fnO "picked_column" (top 26) mo3 152),
  (157,cdO "inverse_rows" 383 125 2 3 154 (R 155) N N N (R 156) 386 387),
  (158,fnO "inverse_rows" (top 27) mo3 157),
  (162,cdO "frees_of" 389 129 2 3 159 (R 160) N N N (R 161) 392 393),
  (163,fnO "frees_of" (top 28) mo3 162),
  (167,cdO "weights_against" 395 142 3 3 164 (R 165) N N N (R 166) 398 399),
  (168,fnO "weights_against" (top 29) mo3 167),
  (172,cdO "settled" 401 148 4 3 169 (R 170) N N N (R 171) 404 405),
  (173,fnO "settled" (top 30) mo3 172),
  (179,cdO "solves" 407 164 3 3 174 (R 175) N (R 176) (R 177) (R 178) 415 416),
  (180,fnO "solves" (top 31) mo3 179),
  (184,cdO "guessed" 418 169 2 3 181 (R 182) N N N (R 183) 421 422),
  (185,fnO "guessed" (top 32) mo3 184),
  (191,cdO "bottom_modulo" 424 178 3 3 186 (R 187) N (R 188) (R 189) (R 190) 437 438),
  (192,fnO "bottom_modulo" (top 33) mo3 191),
  (198,cdO "_law_box" 442 193 2 3 193 (R 194) N (R 195) (R 196) (R 197) 449 450),
  (199,fnO "_law_box" (top 35) mo4 198),
  (205,cdO "_law_take" 452 199 2 3 200 (R 201) N (R 202) (R 203) (R 204) 459 460),
  (206,fnO "_law_take" (top 36) mo4 205),
  (212,cdO "_law_lowest" 462 209 2 3 207 (R 208) N (R 209) (R 210) (R 211) 469 470),
  (213,fnO "_law_lowest" (top 37) mo4 212),
  (219,cdO "_law_number" 472 214 1 3 214 (R 215) N (R 216) (R 217) (R 218) 477 478),
  (220,fnO "_law_number" (top 38) mo4 219),
  (226,cdO "_law_sum" 480 223 2 3 221 (R 222) N (R 223) (R 224) (R 225) 485 486),
  (227,fnO "_law_sum" (top 39) mo4 226),
  (233,cdO "_law_product" 488 225 2 3 228 (R 229) N (R 230) (R 231) (R 232) 493 494),
  (234,fnO "_law_product" (top 40) mo4 233),
  (247,cdO "_law_weighed" 504 234 2 3 242 (R 243) N (R 244) (R 245) (R 246) 512 513),
  (248,fnO "_law_weighed" (top 42) mo4 247),
  (254,cdO "_law_small" 515 239 1 3 249 (R 250) N (R 251) (R 252) (R 253) 519 520),
  (255,fnO "_law_small" (top 43) mo4 254),
  (259,cdO "_law_equations" 522 241 2 3 256 (R 257) N N N (R 258) 525 526),
  (260,fnO "_law_equations" (top 44) mo4 259),
  (264,cdO "_law_rank" 528 260 1 3 261 (R 262) N N N (R 263) 531 532),
  (265,fnO "_law_rank" (top 45) mo4 264),
  (271,cdO "law" 534 275 1 3 266 (R 267) N (R 268) (R 269) (R 270) 544 545),
  (272,fnO "law" (top 46) mo4 271),
  (115,⟨.type "type", none,.cls { name := "Core", bases:=[(.type "object")],mro:=[(R 115),(.type "object")],ns:=114,qualname := "Core", hasDict:=true,slotNames:=[],subclasses:=[],abstract:=false,collection:=none,hasDel:=false },#[none,none,(some (S "Core" 309)),(some (S "Core" 317)),(some (.builtin "object.__new__")),(some (.bool true))]⟩),
  (114,⟨.type "dict", none,.dict #[enD P "__module__" 316 (S "backslope.linear" 301),enD P "__firstlineno__" 320 (.int 101 319),enD P "__init__" 326 (R 112),enD P "__static_attributes__" 332 (R 113),enD P "__dict__" 334 (R 116),enD P "__weakref__" 336 (R 117),enD P "__doc__" 337 N] 4,#[]⟩),
  (111,⟨.type "code", none,.fields #[(S "__init__" 321),(S "Core.__init__" 322),(S "/claim/cut.py" 323),(I 103),(I 3),(I 0),(I 0),(I 3),(R 108),(.bool true),(I 181),(R 109),N,N,N,(R 110),(I 324),(I 103),(S "/claim/cut.py" 325)],#[]⟩),
  (112,fnQ "__init__" "Core.__init__" (L2.inClass (top 20) 0) mo3 111)]
noncomputable def as:List Addr:=[3,20,21,27,28,34,35,41,42,46,47,53,54,58,59,63,64,70,71,75,76,82,83,89,90,94,95,99,100,125,126,130,131,137,138,142,143,147,148,152,153,157,158,162,163,167,168,172,173,179,180,184,185,191,192,198,199,205,206,212,213,219,220,226,227,233,234,247,248,254,255,259,260,264,265,271,272,115,114,111,112]
noncomputable def vw:Program:=PySem.W.view PySem.Challenge.pw_backslope_k08_all_solutions [1,2,3,4,5,6,7,8,9,10,11,12,13,15,17,19,20,21,22,23,24,25,26,27,28,29,30,31,32,33,35,36,37,38,39,40,41,42,43,44,45,46]
noncomputable def hk:PySem.W.Hook:=PySem.W.kHook hp as (fun _=>by kernel_rfl)
theorem left:PySem.W.LeftO PySem.Challenge.pw_backslope_k08_all_solutions vw [] (fun s=>PySem.W.xlAt vw [] s && PySem.W.recOk (PySem.W.RowW.records (PySem.W.OpenRow.toRowW (PySem.W.OpenLaw.row PySem.Challenge.rw_backslope_k08_all_solutions))) s) hk.obs hk.val 2974:=fun w=>by kernel_rfl
end Bs.Hd
namespace Bs
noncomputable def Bd (n:Nat) (x:Int):Prop:=x.natAbs<2 ^ n
theorem Bd.mono {m n:Nat} {x:Int} (h:Bd m x) (hn:m≤n):Bd n x:=Nat.lt_of_lt_of_le h (Nat.pow_le_pow_right (by decide) hn)
theorem Bd.le {n:Nat} {x y:Int} (h:Bd n x) (hy:y.natAbs≤x.natAbs):Bd n y:=Nat.lt_of_le_of_lt hy h
theorem Bd.neg {n:Nat} {x:Int} (h:Bd n x):Bd n (-x):=by unfold Bd at *;rw [Int.natAbs_neg];exact h
theorem Bd.add {n:Nat} {x y:Int} (h:Bd n x) (h':Bd n y):Bd (n+1) (x+y):=by
  unfold Bd at *
  have:=Int.natAbs_add_le x y
  rw [Nat.pow_succ]
  omega
theorem Bd.mul {m n:Nat} {x y:Int} (h:Bd m x) (h':Bd n y):Bd (m+n) (x*y):=by
  unfold Bd at *
  rw [Int.natAbs_mul,Nat.pow_add]
  exact Nat.mul_lt_mul'' h h'
theorem Bd.log2 {n:Nat} {x:Int} (h:Bd n x) (hn:0<n):x.natAbs.log2<n:=by
  unfold Bd at h
  rcases Nat.eq_zero_or_pos x.natAbs with h0 | hp
  · rw [h0];simpa using hn
  · exact (Nat.log2_lt (Nat.ne_of_gt hp)).mpr h
structure Low (t d:Int):Prop where
  pos:0<d
  one:Int.gcd t d=1
theorem qi7 (a b:Int):Int.gcd b (a.fmod b)=Int.gcd a b:=by
  have e:a.fmod b=a - b*a.fdiv b:=Int.fmod_def a b
  rw [e]
  apply Nat.dvd_antisymm
  · apply Int.dvd_gcd
    · have h1:=Int.gcd_dvd_left b (a - b*a.fdiv b)
      have h2:=Int.gcd_dvd_right b (a - b*a.fdiv b)
      have h3:=Int.dvd_add h2 (Int.dvd_mul_of_dvd_left (c:=a.fdiv b) h1)
      rw [Int.sub_add_cancel] at h3
      exact h3
    · exact Int.gcd_dvd_left b _
  · apply Int.dvd_gcd
    · exact Int.gcd_dvd_right a b
    · exact Int.dvd_sub (Int.gcd_dvd_left a b) (Int.dvd_mul_of_dvd_left (Int.gcd_dvd_right a b))
theorem qhj (a:Int) {b:Int} (h:0≤b):Int.gcd b (a % b)=Int.gcd a b:=by
  rw [← Int.fmod_eq_emod_of_nonneg a h,qi7]
theorem qk1 (a:Int) {b:Int} (h:b≠0):(a.fmod b).natAbs<b.natAbs:=by
  rcases Int.lt_or_gt_of_ne h with hb | hb
  · rw [Int.fmod_eq_emod]
    have h1:=Int.emod_nonneg a h
    have h2:=Int.emod_lt a h
    split
    · rename_i h'
      rcases h' with h' | h'
      · omega
      · have:a % b=0:=Int.emod_eq_zero_of_dvd h'
        omega
    · rename_i h'
      have:a % b≠0:=fun z=>h' (.inr (Int.dvd_of_emod_eq_zero z))
      omega
  · rw [Int.fmod_eq_emod_of_nonneg a (Int.le_of_lt hb)]
    have h1:=Int.emod_nonneg a h
    have h2:=Int.emod_lt_of_pos a hb
    omega
theorem qeV {a b s:Int} (hb:b≠0) (hs:s=if b<0 then -((Int.gcd a b:Nat):Int) else ((Int.gcd a b:Nat):Int)) :
    s≠0∧s.natAbs≤b.natAbs∧Low (a.fdiv s) (b.fdiv s)∧a.fdiv s*b=a*b.fdiv s∧(a.fdiv s).natAbs≤a.natAbs∧(b.fdiv s).natAbs≤b.natAbs:=by
  have g0:0<Int.gcd a b:=Int.gcd_pos_of_ne_zero_right a hb
  have sn:s.natAbs=Int.gcd a b:=by rw [hs];split <;> simp
  have s0:s≠0:=by intro z;rw [z] at sn;simp at sn;omega
  have da:s∣a:=by
    rw [← Int.natAbs_dvd,sn];exact Int.gcd_dvd_left a b
  have db:s∣b:=by
    rw [← Int.natAbs_dvd,sn];exact Int.gcd_dvd_right a b
  obtain ⟨t,rfl⟩:=da
  obtain ⟨d,rfl⟩:=db
  rw [Int.mul_fdiv_cancel_left _ s0,Int.mul_fdiv_cancel_left _ s0]
  have d0:d≠0:=by rintro rfl;simp at hb
  have sp:1≤s.natAbs:=by omega
  have gd:Int.gcd t d=1:=by
    rw [Int.gcd_mul_left] at sn
    have h2:s.natAbs*Int.gcd t d=s.natAbs*1:=by omega
    exact Nat.eq_of_mul_eq_mul_left sp h2
  have dp:0<d:=by
    by_cases h:s*d<0
    · rw [if_pos h] at hs
      have sneg:s<0:=by omega
      rcases Int.lt_or_gt_of_ne d0 with h' | h'
      · have:=Int.mul_pos_of_neg_of_neg sneg h';omega
      · exact h'
    · rw [if_neg h] at hs
      have spos:0<s:=by omega
      rcases Int.lt_or_gt_of_ne d0 with h' | h'
      · have:=Int.mul_neg_of_pos_of_neg spos h';omega
      · exact h'
  have le1:∀ y:Int,y.natAbs≤(s*y).natAbs:=fun y=>by
    rw [Int.natAbs_mul];exact Nat.le_mul_of_pos_left _ sp
  refine ⟨s0,?_,⟨dp,gd⟩,?_,le1 t,le1 d⟩
  · rw [Int.natAbs_mul];exact Nat.le_mul_of_pos_right _ (by omega)
  · grind
theorem qd2 {a b:Int} (hb:0<b):Low (a / ((Int.gcd a b:Nat):Int)) (b / ((Int.gcd a b:Nat):Int))∧(a / ((Int.gcd a b:Nat):Int)).natAbs≤a.natAbs∧(b / ((Int.gcd a b:Nat):Int)).natAbs≤b.natAbs∧0<((Int.gcd a b:Nat):Int)∧((Int.gcd a b:Nat):Int)≤b:=by
  have g0:0<Int.gcd a b:=Int.gcd_pos_of_ne_zero_right a (by omega)
  obtain ⟨_,h1,h2,h3,h4,h5⟩:=qeV (a:=a) (b:=b) (s:=((Int.gcd a b:Nat):Int)) (by omega) (by rw [if_neg (by omega)])
  rw [Int.fdiv_eq_ediv_of_nonneg _ (by omega),Int.fdiv_eq_ediv_of_nonneg _ (by omega)] at h2
  rw [Int.fdiv_eq_ediv_of_nonneg _ (by omega)] at h4 h5
  exact ⟨h2,h4,h5,by omega,by omega⟩
end Bs
namespace Bs
open PySem L2
noncomputable def qp2 (_ j:Int):Prop:=0<j∧Bd 9000 j
noncomputable abbrev qhZ:R2:=rI0 fun i j=>.int (i+j)
noncomputable abbrev qit:R2:=rI0 fun i j=>.int (i - j)
noncomputable abbrev qcM:R2:=rI IntMulOk fun i j=>.int (i*j)
noncomputable abbrev qk2:R2:=rI qp2 fun i j=>.int (i / j)
noncomputable abbrev qgE:R2:=rI (fun _ j=>0<j) fun i j=>.int (i % j)
noncomputable abbrev qoK:R2:=rI (fun _ j=>j≠0) fun i j=>.int (i.fmod j)
noncomputable abbrev iLt:R2:=rI0 fun i j=>.bl (decide (i<j))
noncomputable abbrev iLe:R2:=rI0 fun i j=>.bl (decide (i≤j))
noncomputable abbrev iGt:R2:=rI0 fun i j=>.bl (decide (j<i))
noncomputable abbrev qm7:V→Hp→VK→Prop:=rU fun i=>.int (-i)
noncomputable def gT:R2:=fun x y H Q=>∃ p i xs v,x=.ref p∧y=.int i∧H p=some (.tup xs)∧atI xs i=some v∧Q v H
noncomputable def gL:R2:=fun x y H Q=>∃ p i xs v,x=.ref p∧y=.int i∧H p=some (.lst xs)∧atI xs i=some v∧Q v H
noncomputable def gS (K:W.Frag):R2:=fun x y H Q=>∃ p i xs v,x=.ref p∧y=.int i∧SqL K H p xs∧atI xs i=some v∧Q v H
noncomputable def qkw:List V→Hp→VK→Prop:=fun xs H Q=>∃ i,xs=[.int i]∧Q (.int (if i<0 then -i else i)) H
noncomputable def qpH:List V→Hp→VK→Prop:=fun xs H Q=>∃ i j,xs=[.int i,.int j]∧Q (.int (if j > i then j else i)) H
noncomputable def qpI:List V→Hp→VK→Prop:=fun xs H Q=>∃ i j,xs=[.int i,.int j]∧Q (.int (if j<i then j else i)) H
noncomputable def qiC:List V→Hp→VK→Prop:=fun xs H Q=>∃ k,xs=[.bl k]∧Q (.int (if k=true then 1 else 0)) H
noncomputable def qk3:List V→Hp→VK→Prop:=fun xs H Q=>∃ p ys,xs=[.ref p]∧H p=some (.tup ys)∧Q (.int ys.length) H
noncomputable def qcE:List V→Hp→VK→Prop:=fun xs H Q=>∃ p ys,xs=[.ref p]∧H p=some (.lst ys)∧Q (.int ys.length) H
noncomputable def qj3 (K:W.Frag):List V→Hp→VK→Prop:=fun xs H Q=>∃ p ys,xs=[.ref p]∧SqL K H p ys∧Q (.int ys.length) H
noncomputable def ForR (lo:Int) (n:Nat) (g:TG) (tb:TS) (D:Ends) (σ:St) (H:Hp):Prop:=∃ W:Nat→Nat→St→Hp→Prop,(∃ m,W 0 m σ H)∧∀ i m σ H,W i m σ H→
  ((Itr lo n).stop i H∧D.nx σ H)∨((Itr lo n).go i H∧∃ N:St→Hp→Prop,(∀ σ' H',N σ' H'→∃ m',m'<m∧W (i+1) m' σ' H')∧∀ x H',(Itr lo n).yld i H x H'→g x σ H' fun σ2 H2=>tb { D with nx:=N,ct:=N,bk:=D.nx } σ2 H2)
theorem qnO {ta:TA} {g:TG} {tb:TS} {D:Ends} {σ:St} {H:Hp}:qef (qee ta) g tb D σ H=ta σ H (fun vs H1=>∃ j:Int,vs=[.int j]∧-(2 ^ 62)≤j∧j<2 ^ 62∧ForR 0 j.toNat g tb D σ H1):=rfl
theorem qnP {ta:TA} {g:TG} {tb:TS} {D:Ends} {σ:St} {H:Hp}:qef (qkz ta) g tb D σ H=ta σ H (fun vs H1=>∃ i j:Int,vs=[.int i,.int j]∧(-(2 ^ 62)≤i∧i<2 ^ 62∧-(2 ^ 62)≤j∧j<2 ^ 62)∧ForR i (j - i).toNat g tb D σ H1):=rfl
theorem ForR.by {lo:Int} {n:Nat} {g:TG} {tb:TS} {D:Ends} {σ:St} {H:Hp} (Pv:Nat→St→Hp→Prop) (h0:Pv 0 σ H)
    (hs:∀ i σ H,i<n→Pv i σ H→g (.int (lo+i)) σ H fun σ2 H2=>tb { D with nx:=Pv (i+1),ct:=Pv (i+1),bk:=D.nx } σ2 H2) (hd:∀ σ H,Pv n σ H→D.nx σ H):ForR lo n g tb D σ H:=qkC Pv h0 hs hd
noncomputable def ForT (K:W.Frag) (a:Addr) (g:TG) (tb:TS) (D:Ends) (σ:St) (H:Hp):Prop:=∃ W:Nat→Nat→St→Hp→Prop,(∃ m,W 0 m σ H)∧∀ i m σ H,W i m σ H→
  ((Itt K a).stop i H∧D.nx σ H)∨((Itt K a).go i H∧∃ N:St→Hp→Prop,(∀ σ' H',N σ' H'→∃ m',m'<m∧W (i+1) m' σ' H')∧∀ x H',(Itt K a).yld i H x H'→g x σ H' fun σ2 H2=>tb { D with nx:=N,ct:=N,bk:=D.nx } σ2 H2)
noncomputable def ForL (K:W.Frag) (a:Addr) (g:TG) (tb:TS) (D:Ends) (σ:St) (H:Hp):Prop:=∃ W:Nat→Nat→St→Hp→Prop,(∃ m,W 0 m σ H)∧∀ i m σ H,W i m σ H→
  ((Itl K a).stop i H∧D.nx σ H)∨((Itl K a).go i H∧∃ N:St→Hp→Prop,(∀ σ' H',N σ' H'→∃ m',m'<m∧W (i+1) m' σ' H')∧∀ x H',(Itl K a).yld i H x H'→g x σ H' fun σ2 H2=>tb { D with nx:=N,ct:=N,bk:=D.nx } σ2 H2)
theorem qoL {K:W.Frag} {tl:TE} {g:TG} {tb:TS} {D:Ends} {σ:St} {H:Hp}:qef (qbb K tl) g tb D σ H=tl σ H (fun x H1=>∃ a,x=.ref a∧(∃ xs,SqL K H1 a xs)∧ForL K a g tb D σ H1):=rfl
theorem ForT.by {K:W.Frag} {a:Addr} {xs:List V} {g:TG} {tb:TS} {D:Ends} {σ:St} {H:Hp} (Pv:Nat→St→Hp→Prop) (h0:Pv 0 σ H) (hl:∀ i σ H,i≤xs.length→Pv i σ H→H a=some (.tup xs))
    (hs:∀ i x σ H,xs[i]?=some x→Pv i σ H→g x σ H fun σ2 H2=>tb { D with nx:=Pv (i+1),ct:=Pv (i+1),bk:=D.nx } σ2 H2) (hd:∀ σ H,Pv xs.length σ H→D.nx σ H):ForT K a g tb D σ H:=
  qnx Pv h0 (fun i σ H h p=>SqT.of (hl i σ H h p)) hs hd
theorem ForL.by {K:W.Frag} {a:Addr} {xs:List V} {g:TG} {tb:TS} {D:Ends} {σ:St} {H:Hp} (Pv:Nat→St→Hp→Prop) (h0:Pv 0 σ H) (hl:∀ i σ H,i≤xs.length→Pv i σ H→SqL K H a xs)
    (hs:∀ i x σ H,xs[i]?=some x→Pv i σ H→g x σ H fun σ2 H2=>tb { D with nx:=Pv (i+1),ct:=Pv (i+1),bk:=D.nx } σ2 H2) (hd:∀ σ H,Pv xs.length σ H→D.nx σ H):ForL K a g tb D σ H:=
  qmg Pv h0 hl hs hd
theorem qbZ {c:TT} {tb:TS} {D:Ends} {σ:St} {H:Hp} (W:Nat→St→Hp→Prop) (m:Nat) (h0:W m σ H)
    (hs:∀ m σ H,W m σ H→c σ H fun b H1=>if b=true then ∃ N:St→Hp→Prop,(∀ σ' H',N σ' H'→∃ m',m'<m∧W m' σ' H')∧tb { D with nx:=N,ct:=N,bk:=D.nx } σ H1 else D.nx σ H1):qde c tb D σ H:=⟨W,⟨m,h0⟩,hs⟩
theorem qfz {t u:TS} {D:Ends} {σ:St} {H:Hp} (h:t { D with nx:=u D } σ H):qat t u D σ H:=h
noncomputable def Kp (p:Addr) (H H':Hp):Prop:=∀ b o,b≠p→H b=some o→H' b=some o
theorem Kp.trans {p:Addr} {H H1 H2:Hp} (a:Kp p H H1) (b:Kp p H1 H2):Kp p H H2:=fun c o n h=>b c o n (a c o n h)
theorem Kp.same {p:Addr} {H H1 H2:Hp} (a:Kp p H H1) (b:Same H1 H2):Kp p H H2:=fun c o n h=>b c o (a c o n h)
theorem Kp.of_same {p:Addr} {H H1:Hp} (b:Same H H1):Kp p H H1:=fun c o _ h=>b c o h
theorem Kp.upd {p:Addr} {H:Hp} {o:HO}:Kp p H (upd H p o):=fun b u n h=>by rw [qav n];exact h
theorem qae {H:Hp} {p:Addr} (h:H p=none) (o:HO):Same H (upd H p o):=fun b u q=>by rw [qav (qaj q h)];exact q
theorem sz {n:Nat} (h:n≤1000000):n≤sizeLine:=by rw [sizeLine_eq];omega
end Bs
namespace Bs
open PySem L2
theorem qaR {α:Type} (a b:α):atI [a,b] 0=some a:=rfl
theorem qaQ {α:Type} (a b:α):atI [a,b] 1=some b:=rfl
theorem qb1 {α:Type} (a b c:α):atI [a,b,c] 0=some a:=rfl
theorem qeW {α:Type} (a b c:α):atI [a,b,c] 1=some b:=rfl
theorem qaZ {α:Type} (a b c:α):atI [a,b,c] 2=some c:=rfl
theorem qnQ (a b:Int):scal (.int a) (.int b)=true:=rfl
theorem qnR (a b:Bool):scal (.bl a) (.bl b)=true:=rfl
theorem qj4:ixN 3 0=some 0:=rfl
theorem qj5:ixN 3 2=some 2:=rfl
end Bs
namespace Bs
open PySem PySem.Spec PyProof.Rows L2
theorem qgF:bootBuiltins "abs" = some (.builtin "abs"):=by decide +kernel
theorem qbd:bootBuiltins "len" = some (.builtin "len"):=by decide +kernel
theorem qoM:bootBuiltins "max" = some (.builtin "max"):=by decide +kernel
theorem qoN:bootBuiltins "min" = some (.builtin "min"):=by decide +kernel
theorem qoO:bootBuiltins "sum" = some (.builtin "sum"):=by decide +kernel
theorem qk4:bootBuiltins "int" = some (.type "int"):=by decide +kernel
theorem qi8:bootBuiltins "tuple" = some (.type "tuple"):=by decide +kernel
theorem qhk:bootBuiltins "list" = some (.type "list"):=by decide +kernel
theorem qh0:bootBuiltins "enumerate" = some (.type "enumerate"):=by decide +kernel
theorem qm8:bootBuiltins "zip" = some (.type "zip"):=by decide +kernel
section
variable {X:Cx}
theorem qk5 {n:Nat} {x:Int} (h:Bd n x):Builtin.Int.intBits x≤n:=by
  unfold Builtin.Int.intBits
  split
  · exact Nat.zero_le _
  · rename_i h0
    have hn:x.natAbs≠0:=fun z=>h0 (by have e:x=0:=by omega
                                      subst e;rfl)
    have:=(Nat.log2_lt hn).mpr h
    omega
theorem qaB:OpR X (binaryOp .Mult) qcM:=opI fun _ _ _ _ _ _ _ hc q=>mul_int q hc
theorem qfA:OpR X (inplaceOp .Mult) qcM:=opI fun _ _ _ _ _ _ _ hc q=>imul_int q hc
theorem qhl:OpR X (binaryOp .FloorDiv) qk2:=opI fun i j _ _ _ _ _ hc q=>by
  refine floordiv_int (Int.ne_of_gt hc.1) ?_ (.inl (PyProof.noPylong_of_log2 (hc.2.log2 (by decide))))
  rw [Int.fdiv_eq_ediv_of_nonneg i (Int.le_of_lt hc.1)]
  exact q
theorem qar:IxR X gT:=by
  intro value slice pins s σ H x y v u Q I rx ry h hs
  obtain ⟨p,i,xs,w,e1,e2,hp,ha,q⟩:=h
  exact qoH value slice pins s σ H x y v u Q I rx ry ⟨p,xs,i,w,e1,e2,SqT.of hp,ha,q⟩ hs
theorem qas:IxR X gL:=by
  intro value slice pins s σ H x y v u Q I rx ry h hs
  obtain ⟨p,i,xs,w,e1,e2,hp,ha,q⟩:=h
  exact qkR value slice pins s σ H x y v u Q I rx ry ⟨p,xs,i,w,e1,e2,SqL.of hp,ha,q⟩ hs
theorem qh1:IxR X (gS X.K):=by
  intro value slice pins s σ H x y v u Q I rx ry h hs
  obtain ⟨p,i,xs,w,e1,e2,hp,ha,q⟩:=h
  exact qkR value slice pins s σ H x y v u Q I rx ry ⟨p,xs,i,w,e1,e2,hp,ha,q⟩ hs
theorem qcN:qcC X (.builtin "abs") qkw:=qmh
theorem qk6 (hc:X.calm=true):qcC X (.builtin "max") qpH:=qkI hc
theorem qk7 (hc:X.calm=true):qcC X (.builtin "min") qpI:=qkJ hc
theorem qfO:qcC X (.type "int") qiC:=fun pins s σ H xs us Q I r h=>qkK pins s σ H xs us Q I r (.inr h)
theorem qfP:qcC X (.builtin "len") qk3:=fun pins s σ H xs us Q I r h=>by
  obtain ⟨p,ys,e,hp,q⟩:=h
  exact qdh pins s σ H xs us Q I r ⟨p,ys,e,.inr (SqT.of hp),q⟩
theorem qaN:qcC X (.builtin "len") qcE:=fun pins s σ H xs us Q I r h=>by
  obtain ⟨p,ys,e,hp,q⟩:=h
  exact qdh pins s σ H xs us Q I r ⟨p,ys,e,.inl (SqL.of hp),q⟩
theorem qfQ:qcC X (.builtin "len") (qj3 X.K):=fun pins s σ H xs us Q I r h=>by
  obtain ⟨p,ys,e,hp,q⟩:=h
  exact qdh pins s σ H xs us Q I r ⟨p,ys,e,.inl hp,q⟩
end
structure Cal (P:Program) (w:World) (K:W.Frag) (mg:Str→Option Value) (base:Heap) (n:Nat) (x:Str) (ps:List Str) (sp:Sp):Prop where
  ex:∃ (f:Addr) (fd:FuncData),FnOk P w K mg base CX0 n f fd ps sp∧Binds K fd ps []∧PySem.W.keepIn K (.ref f)=true∧mg x=some (.ref f)
theorem Cal.pe {X:Cx} {n m:Nat} {x:Str} {ps:List Str} {sp:Sp} {e:Expr} {es:List Expr} {t:TA} {p pos:Pos} (C:Cal X.prog X.w X.K X.mg X.base n x ps sp) (hr:Room m X.A) (hn:n≤m) (hg:Gl X x) (ha:PA X (e::es) t)
    (hdb:(x == ("__debug__" : Str))=false:=by decide) (he:starEach (e::es) X.env=(false,eval e X.env)::starEach es X.env:=by rfl) (hpl:(backTo pos (starEach es X.env)).any (·.1)=false:=by rfl) :
    PE X (.Call (.Name x p) (e::es) [] pos) (qap sp [] E0 t):=by
  obtain ⟨f,fd,F,b,k,m⟩:=C.ex
  exact qnF F (hr.mono hn) hg m k b .nil qoJ ha hdb he hpl
end Bs
namespace Bs
open PySem L2
noncomputable def qb0 (capt:List (Option Nat)) (σ:L2.St):L2.St:=capt.map fun o=>o.bind fun j=>(σ[j]?).join
noncomputable def qaG (wi:TI) (capt:List (Option Nat)) (g:TG) (te:TE):TE:=fun σ H Q=>wi σ H fun J H1=>∃ (n:Nat) (W:Nat→List V→Hp→Prop),W 0 [] H1∧∀ i ys H,W i ys H→i≤n∧ys.length≤sizeLine∧
  ((J.stop i H∧∀ p,H p=none→Q (.ref p) (upd H p (.lst ys)))∨(i<n∧J.go i H∧∀ x H',J.yld i H x H'→g x (qb0 capt σ) H' fun σ2 H2=>te σ2 H2 fun y H3=>W (i+1) (ys++[y]) H3))
noncomputable def CompJ (J:It) (capt:List (Option Nat)) (g:TG) (te:TE) (σ:L2.St) (Q:VK) (H1:Hp):Prop:=∃ (n:Nat) (W:Nat→List V→Hp→Prop),W 0 [] H1∧∀ i ys H,W i ys H→i≤n∧ys.length≤sizeLine∧
  ((J.stop i H∧∀ p,H p=none→Q (.ref p) (upd H p (.lst ys)))∨(i<n∧J.go i H∧∀ x H',J.yld i H x H'→g x (qb0 capt σ) H' fun σ2 H2=>te σ2 H2 fun y H3=>W (i+1) (ys++[y]) H3))
section
variable {K:W.Frag} {ta:TA} {tl:TE} {capt:List (Option Nat)} {g:TG} {te:TE} {σ:L2.St} {H:Hp} {Q:VK}
theorem qmu:qaG (qee ta) capt g te σ H Q=ta σ H (fun vs H1=>∃ j:Int,vs=[.int j]∧-(2 ^ 62)≤j∧j<2 ^ 62∧CompJ (Itr 0 j.toNat) capt g te σ Q H1):=rfl
theorem qmv:qaG (qkz ta) capt g te σ H Q=ta σ H (fun vs H1=>∃ i j:Int,vs=[.int i,.int j]∧(-(2 ^ 62)≤i∧i<2 ^ 62∧-(2 ^ 62)≤j∧j<2 ^ 62)∧CompJ (Itr i (j - i).toNat) capt g te σ Q H1):=rfl
theorem qnS:qaG (qbb K tl) capt g te σ H Q=tl σ H (fun x H1=>∃ a,x=.ref a∧(∃ xs,SqL K H1 a xs)∧CompJ (Itl K a) capt g te σ Q H1):=rfl
theorem CompJ.range {lo:Int} {n:Nat} (W:Nat→List V→Hp→Prop) (h0:W 0 [] H) (hb:∀ i ys H,W i ys H→i≤n∧ys.length≤sizeLine)
    (hs:∀ i ys H,i<n→W i ys H→g (.int (lo+i)) (qb0 capt σ) H fun σ2 H2=>te σ2 H2 fun y H3=>W (i+1) (ys++[y]) H3) (hd:∀ ys H,W n ys H→∀ p,H p=none→Q (.ref p) (upd H p (.lst ys))):CompJ (Itr lo n) capt g te σ Q H:=by
  refine ⟨n,W,h0,fun i ys H w=>⟨(hb i ys H w).1,(hb i ys H w).2,?_⟩⟩
  by_cases h:i<n
  · refine .inr ⟨h,h,fun x H' y=>?_⟩
    obtain ⟨e,y⟩:=y
    subst e y
    exact hs i ys _ h w
  · have e:i=n:=Nat.le_antisymm (hb i ys H w).1 (Nat.not_lt.mp h)
    subst e
    exact .inl ⟨Nat.le_refl _,hd ys H w⟩
theorem CompJ.tup {a:Addr} {xs:List V} (W:Nat→List V→Hp→Prop) (h0:W 0 [] H) (hb:∀ i ys H,W i ys H→i≤xs.length∧ys.length≤sizeLine∧H a=some (.tup xs))
    (hs:∀ i x ys H,xs[i]?=some x→W i ys H→g x (qb0 capt σ) H fun σ2 H2=>te σ2 H2 fun y H3=>W (i+1) (ys++[y]) H3) (hd:∀ ys H,W xs.length ys H→∀ p,H p=none→Q (.ref p) (upd H p (.lst ys))):CompJ (Itt K a) capt g te σ Q H:=by
  refine ⟨xs.length,W,h0,fun i ys H w=>⟨(hb i ys H w).1,(hb i ys H w).2.1,?_⟩⟩
  have q:SqT K H a xs:=SqT.of (hb i ys H w).2.2
  by_cases h:i<xs.length
  · refine .inr ⟨h,⟨xs,xs[i],q,by simp [h]⟩,fun x H' y=>?_⟩
    obtain ⟨e,y⟩:=y
    subst e
    exact hs i x ys _ (y xs q) w
  · have e:i=xs.length:=Nat.le_antisymm (hb i ys H w).1 (Nat.not_lt.mp h)
    subst e
    exact .inl ⟨⟨xs,q,Nat.le_refl _⟩,hd ys H w⟩
theorem CompJ.lst {a:Addr} {xs:List V} (W:Nat→List V→Hp→Prop) (h0:W 0 [] H) (hb:∀ i ys H,W i ys H→i≤xs.length∧ys.length≤sizeLine∧SqL K H a xs)
    (hs:∀ i x ys H,xs[i]?=some x→W i ys H→g x (qb0 capt σ) H fun σ2 H2=>te σ2 H2 fun y H3=>W (i+1) (ys++[y]) H3) (hd:∀ ys H,W xs.length ys H→∀ p,H p=none→Q (.ref p) (upd H p (.lst ys))):CompJ (Itl K a) capt g te σ Q H:=by
  refine ⟨xs.length,W,h0,fun i ys H w=>⟨(hb i ys H w).1,(hb i ys H w).2.1,?_⟩⟩
  have q:SqL K H a xs:=(hb i ys H w).2.2
  by_cases h:i<xs.length
  · refine .inr ⟨h,⟨xs,xs[i],q,by simp [h]⟩,fun x H' y=>?_⟩
    obtain ⟨e,y⟩:=y
    subst e
    exact hs i x ys _ (y xs q) w
  · have e:i=xs.length:=Nat.le_antisymm (hb i ys H w).1 (Nat.not_lt.mp h)
    subst e
    exact .inl ⟨⟨xs,q,Nat.le_refl _⟩,hd ys H w⟩
end
noncomputable def qnT (K:W.Frag) (a:Addr):It:=
  ⟨fun i H=>∃ xs x,SqL K H a xs∧xs[i]?=some x,fun i H v H'=>∃ p x,H p=none∧v=.ref p∧H'=upd H p (.tup [.int i,x])∧∀ xs,SqL K H a xs→xs[i]?=some x,fun i H=>∃ xs,SqL K H a xs∧xs.length≤i⟩
noncomputable def qfR (K:W.Frag) (ta:TA):TI:=fun σ H R=>ta σ H fun vs H1=>∃ a,vs=[.ref a]∧(∃ xs,SqL K H1 a xs)∧R (qnT K a) H1
noncomputable def ForJ (J:It) (g:TG) (tb:TS) (D:Ends) (σ:L2.St) (H:Hp):Prop:=∃ W:Nat→Nat→L2.St→Hp→Prop,(∃ m,W 0 m σ H)∧∀ i m σ H,W i m σ H→
  (J.stop i H∧D.nx σ H)∨(J.go i H∧∃ N:L2.St→Hp→Prop,(∀ σ' H',N σ' H'→∃ m',m'<m∧W (i+1) m' σ' H')∧∀ x H',J.yld i H x H'→g x σ H' fun σ2 H2=>tb { D with nx:=N,ct:=N,bk:=D.nx } σ2 H2)
section
variable {K:W.Frag} {ta:TA} {g:TG} {tb:TS} {D:Ends} {σ:L2.St} {H:Hp} {a:Addr} {xs:List V}
theorem qnU:qef (qfR K ta) g tb D σ H=ta σ H (fun vs H1=>∃ a,vs=[.ref a]∧(∃ xs,SqL K H1 a xs)∧ForJ (qnT K a) g tb D σ H1):=rfl
theorem qmw {capt:List (Option Nat)} {te:TE} {Q:VK}:qaG (qfR K ta) capt g te σ H Q=ta σ H (fun vs H1=>∃ a,vs=[.ref a]∧(∃ xs,SqL K H1 a xs)∧CompJ (qnT K a) capt g te σ Q H1):=rfl
theorem ForJ.enumL (Pv:Nat→L2.St→Hp→Prop) (h0:Pv 0 σ H) (hl:∀ i σ H,i≤xs.length→Pv i σ H→SqL K H a xs)
    (hs:∀ i x p σ H,xs[i]?=some x→Pv i σ H→H p=none→g (.ref p) σ (upd H p (.tup [.int i,x])) fun σ2 H2=>tb { D with nx:=Pv (i+1),ct:=Pv (i+1),bk:=D.nx } σ2 H2) (hd:∀ σ H,Pv xs.length σ H→D.nx σ H):ForJ (qnT K a) g tb D σ H:=by
  refine ⟨fun i m σ H=>m=xs.length - i∧i≤xs.length∧Pv i σ H,⟨xs.length,by simp,Nat.zero_le _,h0⟩,?_⟩
  rintro i m σ H ⟨rfl,hi,pv⟩
  have q:=hl i σ H hi pv
  by_cases lt:i<xs.length
  · refine .inr ⟨⟨xs,xs[i],q,by simp [lt]⟩,Pv (i+1),fun σ' H' p'=>⟨xs.length - (i+1),by omega,rfl,lt,p'⟩,fun x H' y=>?_⟩
    obtain ⟨p,x',hp,rfl,rfl,y⟩:=y
    exact hs i x' p σ _ (y xs q) pv hp
  · have e:i=xs.length:=by omega
    subst e
    exact .inl ⟨⟨xs,q,Nat.le_refl _⟩,hd σ H pv⟩
end
end Bs
namespace Bs
open PySem PySem.Spec PyProof.Rows L2
noncomputable def blk (X:Cx) (N:List Str) (scope:Scope) (cl:List (Str×Addr)) (C:Addr) (s:Shared) (H:Hp) (fp:List Addr):Cx:=
  { X with N:=N,s₀:=s,H₀:=H,env:=compEnvC scope cl C X.env,outer:=X.stack,stack:=X.stack,ex:=fp,fn:=fun _=>false,pn:=[],xe:=fun _ _=>False }
structure BlkOk (X:Cx) (N:List Str) (capt:List (Option Nat)) (scope:Scope) (cl:List (Str×Addr)):Prop where
  kind:scope.kind=.function
  clos:closureFor scope X.env=pure cl
  nocell:∀ y∈scope.names,y.2≠.cell
  names:∀ y∈scope.names,y.2=.local→scope.names.lookup y.1=some .local
  cells:∀ y c,cl.lookup y=some c→X.env.cells.lookup y=some c
  has:∀ y,((relabel scope X.env).names.lookup y=some .cell∨(relabel scope X.env).names.lookup y=some .free)→∃ c,cl.lookup y=some c
  cap:∀ (i:Nat) (x:Str) (j:Nat),N[i]?=some x→capt[i]?=some (some j)→X.N[j]?=some x∧Vis X.env.scope x∧X.env.kindOf x≠some .local∧((relabel scope X.env).names.lookup x=some .cell∨(relabel scope X.env).names.lookup x=some .free)
  len:capt.length=N.length
section
variable {X:Cx} {pins:List (Addr×Obj)} {σ:L2.St} {H:Hp} {s:Shared} {N:List Str} {capt:List (Option Nat)} {scope:Scope} {cl:List (Str×Addr)} {C:Addr} {fp:List Addr}
theorem qm9 (B:BlkOk X N capt scope cl) (I:Inv X pins σ H s) (fo:∀ b∈fp,qis X pins H b) (fl:∀ b∈fp,b<s.heap.objs.size) (hC:s.heap.objs.size≤C):(blk X N scope cl C s H fp).Ok where
  mod:=I.ok.mod
  kind:=B.kind
  glob:=I.ok.glob
  blt:=I.ok.blt
  above:=hC
  inj:=fun x y c h1 h2=>I.ok.inj x y c (B.cells x c h1) (B.cells y c h2)
  has:=fun x h=>B.has x h
  cab:=fun _ _ h=>nomatch h
  hd:=I.ok.hd
  frames:=I.ok.frames
  stk:=.inl rfl
  exf:=fun b hb=>⟨fun e=>absurd (Nat.lt_of_lt_of_le (fl b hb) hC) (by rw [show b=C from e];exact Nat.lt_irrefl _),fun x c e=>(fo b hb).2.2.2.2.1 x c (B.cells x c e)⟩
  bs:=I.bs
  bsz:=Nat.le_trans I.ok.bsz I.sz
  noex:=fun b o e hb=>by
    rcases (fo b hb).2.2.2.1 with z | z
    · exact I.ok.noex b o e z
    · exact absurd (Nat.lt_of_lt_of_le (Heap.lt_size e) (Nat.le_trans I.ok.bsz z)) (Nat.lt_irrefl _)
  exfs:=fun b hb hf=>by
    rcases List.mem_cons.mp (I.stkSub b hf) with z | z
    · exact (fo b hb).2.1 z
    · exact (fo b hb).2.2.1 z
  funs:=I.stack
  frf:=I.stkFree
  seer:=I.ok.seer
  tree:=I.ok.tree
  plr:=I.ok.plr
theorem qnV (B:BlkOk X N capt scope cl) (I:Inv X pins σ H s) (fo:∀ b∈fp,qis X pins H b) (fl:∀ b∈fp,b<s.heap.objs.size) (hC:s.heap.objs.size≤C) {h1:Heap} {m:Str→Option Value} {tk:Nat}
    (hn:h1.Ns C m) (hk:∀ b o,s.heap.get? b=some o→h1.get? b=some o):Inv (blk X N scope cl C s H fp) [] (qb0 capt σ) H { s with heap:=h1,toks:=tk } where
  ok:=qm9 B I fo fl hC
  os:=rfl
  bare:=I.bare
  base:=Un.kept hk
  loc:=by
    refine ⟨m,hn,fun i x v e1 e2 e3=>?_⟩
    have e2':(capt.map fun o=>o.bind fun j=>(σ[j]?).join)[i]?=some (some v):=e2
    rw [List.getElem?_map] at e2'
    cases ec:capt[i]? with
    | none=>rw [ec] at e2';cases e2'
    | some o=>
      rw [ec] at e2'
      cases o with
      | none=>cases e2'
      | some j=>
        have e4:(σ[j]?).join=some v:=Option.some.inj e2'
        obtain ⟨c1,c2,c3,c4⟩:=B.cap i x j e1 ec
        have e5:σ[j]?=some (some v):=by
          cases q:σ[j]? with
          | none=>rw [q] at e4;cases e4
          | some w=>rw [q] at e4;exact congrArg some e4
        obtain ⟨m',_,hl⟩:=I.loc
        obtain ⟨u,r,l⟩:=hl j x v c1 e5 c2
        refine ⟨u,r,.inr ⟨c4,?_⟩⟩
        rcases l with ⟨l,_⟩ | ⟨_,c,lc,ic⟩
        · exact absurd l c3
        · obtain ⟨c',hc'⟩:=B.has x c4
          have:=B.cells x c' hc'
          rw [lc] at this
          cases this
          obtain ⟨o,ho,hd⟩:=ic
          exact ⟨c,hc',o,hk c o ho,hd⟩
  cell:=fun x c e=>by
    obtain ⟨v,o,ho,hd⟩:=I.cell x c (B.cells x c e)
    exact ⟨v,o,hk c o ho,hd⟩
  free:=I.hok.fresh hC
  freeC:=fun x c e=>I.freeC x c (B.cells x c e)
  pin:=fun p hp=>nomatch hp
  hok:=I.hok.kept hk
  len:=by show (capt.map _).length=N.length;rw [List.length_map];exact B.len
theorem qh2 {σ6:L2.St} {H7:Hp} {s7:Shared} {pins':List (Addr×Obj)} (B:BlkOk X N capt scope cl) (I:Inv X pins σ H s) (fo:∀ b∈fp,qis X pins H b) (I7:Inv (blk X N scope cl C s H fp) pins' σ6 H7 s7):Inv (blk X N scope cl C s H fp) pins' (qb0 capt σ) H7 s7:=
  ⟨I7.ok,I7.os,I7.bare,I7.base,by
    obtain ⟨m,hn,_⟩:=I7.loc
    refine ⟨m,hn,fun i x v e1 e2 e3=>?_⟩
    have e2':(capt.map fun o=>o.bind fun j=>(σ[j]?).join)[i]?=some (some v):=e2
    rw [List.getElem?_map] at e2'
    cases ec:capt[i]? with
    | none=>rw [ec] at e2';cases e2'
    | some o=>
      rw [ec] at e2'
      cases o with
      | none=>cases e2'
      | some j=>
        have e4:(σ[j]?).join=some v:=Option.some.inj e2'
        obtain ⟨c1,c2,c3,c4⟩:=B.cap i x j e1 ec
        have e5:σ[j]?=some (some v):=by
          cases q:σ[j]? with
          | none=>rw [q] at e4;cases e4
          | some w=>rw [q] at e4;exact congrArg some e4
        obtain ⟨m',_,hl⟩:=I.loc
        obtain ⟨u,r,l⟩:=hl j x v c1 e5 c2
        refine ⟨u,r,.inr ⟨c4,?_⟩⟩
        rcases l with ⟨l,_⟩ | ⟨_,c,lc,ic⟩
        · exact absurd l c3
        · obtain ⟨c',hc'⟩:=B.has x c4
          have:=B.cells x c' hc'
          rw [lc] at this
          cases this
          obtain ⟨o,ho,hd⟩:=ic
          obtain ⟨sl,hk⟩:=I7.base.any ho (I.freeC x c lc) fun hb=>(fo c hb).2.2.2.2.1 x c lc rfl
          exact ⟨c,hc',_,hk,hd⟩,I7.cell,I7.free,I7.freeC,I7.pin,I7.hok,by show (capt.map _).length=N.length;rw [List.length_map];exact B.len⟩
theorem qdH {κ β:Type} [BEq κ] [LawfulBEq κ]:∀ {l:List (κ×β)} {y:κ} {c:β},l.lookup y=some c→(y,c)∈l
  | (k,v)::l,y,c,h=>by
    rw [List.lookup_cons] at h
    cases e:y == k with
    | true=>
      rw [e] at h
      cases h
      rw [eq_of_beq e]
      exact List.mem_cons_self ..
    | false=>
      rw [e] at h
      exact List.mem_cons_of_mem _ (qdH h)
theorem BlkOk.of (k:scope.kind=.function) (c:closureFor scope X.env=pure cl) (n1:(scope.names.all fun y=>y.2 != .cell)=true) (n2:(scope.names.all fun y=>y.2 != .local || scope.names.lookup y.1 == some .local)=true)
    (cs:∀ pr∈cl,X.env.cells.lookup pr.1=some pr.2) (hs:((relabel scope X.env).names.all fun pr=>(pr.2 != .cell && pr.2 != .free) || (cl.lookup pr.1).isSome)=true)
    (cp:((List.range N.length).all fun i=>match N[i]?,capt[i]? with
      | some x,some (some j)=>X.N[j]? == some x && (X.env.scope.names.lookup x == some .cell || X.env.scope.names.lookup x == some .free) && ((relabel scope X.env).names.lookup x == some .cell || (relabel scope X.env).names.lookup x == some .free)
      | _,_=>true)=true) (ln:capt.length=N.length):BlkOk X N capt scope cl where
  kind:=k
  clos:=c
  nocell:=fun y hy e=>by
    have z:=List.all_eq_true.mp n1 y hy
    rw [e] at z
    exact absurd z (by decide)
  names:=fun y hy e=>by
    have z:=List.all_eq_true.mp n2 y hy
    rw [e] at z
    simpa using z
  cells:=fun y c h=>cs (y,c) (qdH h)
  has:=fun y h=>by
    have m:∃ kd,(y,kd)∈(relabel scope X.env).names∧(kd=.cell∨kd=.free):=by
      rcases h with h | h
      · exact ⟨_,qdH h,.inl rfl⟩
      · exact ⟨_,qdH h,.inr rfl⟩
    obtain ⟨kd,m,e⟩:=m
    have z:=List.all_eq_true.mp hs _ m
    have z2:(cl.lookup y).isSome=true:=by
      rcases e with rfl | rfl
      · simpa using z
      · simpa using z
    exact Option.isSome_iff_exists.mp z2
  cap:=fun i x j e1 e2=>by
    have li:i<N.length:=(List.getElem?_eq_some_iff.mp e1).1
    have z:=List.all_eq_true.mp cp i (List.mem_range.mpr li)
    rw [e1,e2] at z
    simp only [Bool.and_eq_true,Bool.or_eq_true,beq_iff_eq] at z
    obtain ⟨⟨z1,z2⟩,z3⟩:=z
    refine ⟨z1,.inr z2,fun q=>?_,z3⟩
    have q':X.env.scope.names.lookup x=some .local:=q
    rcases z2 with z2 | z2 <;> (rw [z2] at q';cases q')
  len:=ln
end
end Bs
namespace Bs
open PySem PySem.Spec PyProof.Rows L2
open PySem.AutoSeq1 (wpAny_loadPart')
section
variable {prog:Program} {w:World} {A:Around} {E:Value→Shared→Prop} {s:Shared} {e it t:Addr} {i:Nat} {zs:Array Value}
theorem qj6 {x:Value} {Q:Value→Shared→Prop} (si:s.heap.IsTupleIter it t i) (st:s.heap.IsTuple t zs) (hx:zs[i]?=some x)
    (hQ:∀ g,g.IsTupleIter it t (i+1)→Heap.SameBut it s.heap g→Q x { s with heap:=g }):wpAny (model prog w) A (Builtin.SmallTypes.nextOf (.ref it)) Q E s:=by
  obtain ⟨oi,gi,ci,di⟩:=id si
  obtain ⟨ot,gt,_,kt,dt⟩:=st
  unfold Builtin.SmallTypes.nextOf
  refine wpAny_bind (wpAny_callSpecial?_slot (name:=Str.ofString "__next__") si.typeIs F.slot_tuple_iterator_next (wpAny_call_entry F.slot_tuple_iterator_next si.typeIs F.entry_tuple_iterator_next ?_ (F.args_tuple_iterator_next_1 _)))
  show wpAny _ _ (field (.ref it) 0 >>= _) _ _ s
  refine wpAny_bind (wpAny_field gi di (x:=.ref t) rfl ?_)
  show wpAny _ _ (if (Value.ref t == Value.none)=true then _ else _) _ _ s
  rw [if_neg (fun q:(Value.ref t == Value.none)=true=>Bool.false_ne_true q)]
  show wpAny _ _ (field (.ref it) 1 >>= _) _ _ s
  refine wpAny_bind (wpAny_field gi di (x:=.int i 0) rfl ?_)
  show wpAny _ _ (seqItems? (.ref t) >>= _) _ _ s
  refine wpAny_bind (wpAny_seqItems gt dt ?_)
  simp only [Int.toNat_natCast,hx]
  refine wpAny_bind (wpAny_setField gi di (by simp) (wpAny_pure ⟨x,rfl,wpAny_pure (hQ _ ⟨_,Heap.get?_update_self _ gi (Obj.isFreed_of_fields (Obj.data_mapFields di _)),(Obj.cls_mapFields ..).trans ci,?_⟩ (Heap.SameBut.update ..))⟩))
  rw [Obj.data_mapFields di]
  simp [rawInt]
theorem qk8 {Q:Value→Shared→Prop} (hh:A.handled=none) (si:s.heap.IsTupleIter it t i) (st:s.heap.IsTuple t zs) (hx:zs[i]?=none)
    (hE:∀ g x,Heap.ExtBut it s.heap g→(∃ o,g.get? x=some o∧o.cls=.type "StopIteration")→E (.ref x) { s with heap:=g }):wpAny (model prog w) A (Builtin.SmallTypes.nextOf (.ref it)) Q E s:=by
  obtain ⟨oi,gi,ci,di⟩:=id si
  obtain ⟨ot,gt,_,kt,dt⟩:=st
  unfold Builtin.SmallTypes.nextOf
  refine wpAny_bind (wpAny_callSpecial?_slot (name:=Str.ofString "__next__") si.typeIs F.slot_tuple_iterator_next (wpAny_call_entry F.slot_tuple_iterator_next si.typeIs F.entry_tuple_iterator_next ?_ (F.args_tuple_iterator_next_1 _)))
  show wpAny _ _ (field (.ref it) 0 >>= _) _ _ s
  refine wpAny_bind (wpAny_field gi di (x:=.ref t) rfl ?_)
  show wpAny _ _ (if (Value.ref t == Value.none)=true then _ else _) _ _ s
  rw [if_neg (fun q:(Value.ref t == Value.none)=true=>Bool.false_ne_true q)]
  show wpAny _ _ (field (.ref it) 1 >>= _) _ _ s
  refine wpAny_bind (wpAny_field gi di (x:=.int i 0) rfl ?_)
  show wpAny _ _ (seqItems? (.ref t) >>= _) _ _ s
  refine wpAny_bind (wpAny_seqItems gt dt ?_)
  simp only [Int.toNat_natCast,hx]
  refine wpAny_bind (wpAny_rule (wpAny_bind (wpAny_setField gi di (by simp) (wpAny_bind ?_))))
  simp only [newExc,newTuple]
  refine wpAny_bind (wpAny_newObj_type (wpAny_bind (m:=firstArgMember _ _) (wpAny_of_eq (a:=Value.none) (by first | rfl | (simp only [firstArgMember];rfl)) (wpAny_newObj_type ?_ (by size_fits)))) (by size_fits))
  simp only [raiseNew]
  refine wpAny_bind (wpAny_handled ?_)
  first
    | rw [show A.in1.handled=none from hh]
    | rw [hh]
  exact wpAny_bind (wpAny_pure (wpAny_throw (hE _ _ (((Heap.SameBut.update ..).extBut.push _).push _) ⟨_,Heap.get?_push_size _ rfl,rfl⟩)))
end
section
variable {X:Cx} {pins:List (Addr×Obj)} {σ:L2.St} {H:Hp} {s:Shared}
theorem qmx {e it:Addr} {g:Heap} {tk:Nat} {xs:List V} {its:List Value} (I:Inv X pins σ H s) (fe:qis X pins H e) (fi:qis X pins H it) (k:∀ b o,b≠e→b≠it→s.heap.get? b=some o→g.get? b=some o)
    (hz:xs.length≤sizeLine) (rv:Vals xs its) (ht:g.get? s.heap.objs.size=some { cls:=.type "tuple", data:=.seq its.toArray }):Inv X pins σ (upd H s.heap.objs.size (.tup xs)) { s with heap:=g,toks:=tk }:=by
  have nT:H s.heap.objs.size=none:=I.hok.fresh (Nat.le_refl _)
  have old:∀ b o,s.heap.get? b=some o→b≠s.heap.objs.size:=fun b o q=>Nat.ne_of_lt (Heap.lt_size q)
  have tr:∀ b u,H b=some u→b≠s.heap.objs.size∧b≠e∧b≠it:=fun b u q=>⟨qaj q nT,qaj q fe.1,qaj q fi.1⟩
  have off:∀ b,b∉[e,it]→b≠e∧b≠it:=fun b hb=>⟨fun z=>hb (by simp [z]),fun z=>hb (by simp [z])⟩
  refine I.step (g':=s.gens) (d':=s.drawn) (ch:=[e,it]) (fun b hb=>?_) (fun b o _ _ hc q _=>k b o (off b hc).1 (off b hc).2 q) (fun b o _ _ hc q _=>⟨o.slots,k b o (off b hc).1 (off b hc).2 q⟩) (fun b o _ q n=>?_) (fun b o hc q=>⟨o,k b o (off b hc).1 (off b hc).2 q⟩)
    (fun b ys q=>?_) (fun b o u q=>?_) (fun b ps q=>⟨#[],?_⟩) (fun m hm=>?_) (fun b u q=>?_) I.bare
  · have z:b=e∨b=it:=by simpa using hb
    rcases z with rfl | rfl
    · exact ⟨fe.2.2.2.1,fe.2.1,fe.2.2.2.2.1,fe.2.2.2.2.2⟩
    · exact ⟨fi.2.2.2.1,fi.2.1,fi.2.2.2.2.1,fi.2.2.2.2.2⟩
  · rw [qav (old b o q)];exact n
  · rw [qav (tr b _ q).1];exact q
  · rw [qav (tr b _ q).1];exact q
  · rw [qav (tr b _ q).1,q];simp
  · obtain ⟨o,es,ep,ho,hr⟩:=hm
    exact ⟨o,es,ep,k _ o fe.2.1.symm fi.2.1.symm ho,hr⟩
  · by_cases hb:b=s.heap.objs.size
    · subst hb
      rw [qac] at q
      cases q
      exact ⟨hz,its,rv,⟨_,ht,rfl,_,rfl⟩⟩
    · rw [qav hb] at q
      refine (I.hok b u q).stay (fun c v hc z=>?_) (fun c z=>by rw [qav (tr c _ z).1];exact z) fun c ys z=>by rw [qav (tr c _ z).1];exact z
      rcases hc with y | y
      · subst y;exact k _ v (tr _ u q).2.1 (tr _ u q).2.2 z
      · exact k c v (tr c _ y).2.1 (tr c _ y).2.2 z
end
theorem qj7 {P:Program} {w:World} {K:W.Frag} {elts:List Expr} {k:Nat} {pos:Pos} (a e it:Addr) (ne:e≠it):Turn P w K (.Tuple elts k pos) (qnT K a) [e,it] e (fun i h=>(∃ old,IsEnum h e it i old)∧h.IsListIter it a i) where
  mem:=by simp
  obj:=fun i h st b hb=>by
    obtain ⟨⟨old,se⟩,o,ho,c,d⟩:=st
    have z:b=e∨b=it:=by simpa using hb
    rcases z with rfl | rfl
    · exact ⟨_,se,fun v z=>nomatch z⟩
    · exact ⟨o,ho,fun v z=>by rw [d] at z;cases z⟩
  keep:=fun i h h' st kk=>⟨let ⟨old,se⟩:=st.1;⟨old,kk e (by simp) _ se⟩,st.2.at fun o q=>kk it (by simp) o q⟩
  item:=by
    intro X hP hw hK hc i pins s σ H E I hf st hg
    subst hP hw hK
    obtain ⟨xs,x,hq,hx⟩:=hg
    obtain ⟨⟨old,se⟩,si⟩:=st
    obtain ⟨its,rv,p,hz⟩:=I.list hq
    obtain ⟨u,hu,ru⟩:=rv.get hx
    refine wpAny_pyNext_enum_item se si p.isList (x:=u) (by simpa using hu) ne fun g eo gi gt _ gk=>?_
    refine ⟨_,rfl,wpAny_letOwnedTupleGo_enum eo fun g' se' sb=>?_⟩
    have I1:=qmx (g:=g') (tk:=s.toks+1) (xs:=[.int i,x]) (its:=[.int i s.toks,u]) I (hf e (by simp)) (hf it (by simp)) (fun b o h1 h2 q=>sb.extBut b o h1 (gk b o h1 h2 q)) (sz (by simp)) (.cons ⟨_,rfl⟩ (.cons ru .nil)) (sb.extBut _ _ (Nat.ne_of_gt (Heap.lt_size se)) gt)
    refine ⟨.ref s.heap.objs.size,_,I1,rfl,⟨_,x,I.hok.fresh (Nat.le_refl _),rfl,rfl,fun ys hy=>by rw [I.list_inj hy hq];exact hx⟩,⟨⟨_,by simpa using se'⟩,gi.at fun o q=>sb.extBut it o ne.symm q⟩,fun b hb=>?_⟩
    rw [qav]
    · exact (hf b hb).1
    · have z:b=e∨b=it:=by simpa using hb
      rcases z with rfl | rfl
      · exact Nat.ne_of_lt (Heap.lt_size se)
      · obtain ⟨o,ho,_⟩:=si;exact Nat.ne_of_lt (Heap.lt_size ho)
  done:=by
    intro X hP hw hK hc i pins s σ H E I hf st hg
    subst hP hw hK
    obtain ⟨xs,hq,hx⟩:=hg
    obtain ⟨⟨old,se⟩,si⟩:=st
    obtain ⟨its,rv,p,hz⟩:=I.list hq
    obtain ⟨f0,f1,f2,f3,f4,f5⟩:=hf it (by simp)
    have hl:=rv.length
    exact wpAny_pyNext_enum_end (I.ok.hd hc) se si p.isList (by simp;omega) fun g eb=>⟨rfl,I.turned (t':=s.toks) (fun b o hb q=>eb b o hb q) f0 f1 f3 f4 f5⟩
  self:=fun _ _ _ _ _ st h=>let ⟨_,se⟩:=st.1;wpAny_pyIter_enum se h
section
variable {X:Cx} {elts:List Expr} {k:Nat} {tpos:Pos} {a:Expr} {ta:TA} {p pos:Pos}
theorem qi9 (hg:Gl X "enumerate") (hm:X.mg "enumerate" = none) (ha:PA X [a] ta) (hs:starEach [a] X.env=[(false,eval a X.env)]:=by rfl):PI X (.Tuple elts k tpos) (.Call (.Name "enumerate" p) [a] [] pos) (qfR X.K ta):=by
  intro pins s σ H R I h
  refine Call_ (qec I hg hm qh0 (PyProof.Rows.callWith_type1 (thn (ha pos pins s σ H _ I h) fun us s1 ⟨vs,H1,I1,r1,q1⟩=>?_) hs rfl))
  obtain ⟨b,rfl,⟨xs,hq⟩,q⟩:=q1
  obtain ⟨u,rfl,ru⟩:=qgk r1
  cases ru
  obtain ⟨its,rv,pl,hz⟩:=I1.list hq
  refine call_enumerate_list pl.isList fun g se si _ gk=>?_
  have I2:Inv X pins σ H1 { s1 with heap:=g }:=I1.kept (t':=s1.toks) gk
  refine wpAny_pyIter_enum se ⟨_,[s1.heap.objs.size+1,s1.heap.objs.size],_,_,H1,rfl,I2,qj7 b _ _ (Nat.succ_ne_self _),⟨⟨_,se⟩,si⟩,fun c hc=>?_,q⟩
  have z:c=s1.heap.objs.size+1∨c=s1.heap.objs.size:=by simpa using hc
  rcases z with rfl | rfl
  · exact I1.fpOk (Nat.le_succ _) (I1.hok.fresh (Nat.le_succ _))
  · exact I1.fpOk (Nat.le_refl _) (I1.hok.fresh (Nat.le_refl _))
end
end Bs
namespace Bs
open PySem L2
mutual
inductive RepD (H:Hp):V→PySem.W.Dat→Prop
  | non:RepD H .non .none
  | int (i:Int):RepD H (.int i) (.int i)
  | tup {p:Addr} {xs:List V} {ds:List PySem.W.Dat} (h:H p=some (.tup xs)) (r:RepA H xs ds):RepD H (.ref p) (.tuple ds)
  | lst {p:Addr} {xs:List V} {ds:List PySem.W.Dat} (h:H p=some (.lst xs)) (r:RepA H xs ds):RepD H (.ref p) (.list ds)
inductive RepA (H:Hp):List V→List PySem.W.Dat→Prop
  | nil:RepA H [] []
  | cons {x:V} {xs:List V} {d:PySem.W.Dat} {ds:List PySem.W.Dat} (h:RepD H x d) (r:RepA H xs ds):RepA H (x::xs) (d::ds)
end
noncomputable def qiD (te:TE):TT:=fun σ H Q=>te σ H fun x H'=>∃ p xs,x=.ref p∧H' p=some (.lst xs)∧Q (!xs.isEmpty) H'
noncomputable def sL:V→Option Int→Option Int→Hp→VK→Prop:=fun x lo hi H Q=>∃ a xs,x=.ref a∧H a=some (.lst xs)∧∀ p,H p=none→Q (.ref p) (upd H p (.lst (qkv xs lo hi)))
noncomputable def qmy:List V→Hp→VK→Prop:=fun xs H Q=>∃ p ys,xs=[.ref p]∧H p=some (.lst ys)∧∀ l,H l=none→Q (.ref l) (upd H l (.tup ys))
noncomputable def qja:List V→Hp→VK→Prop:=fun xs H Q=>∃ p ys,xs=[.ref p]∧H p=some (.lst ys)∧∀ l,H l=none→Q (.ref l) (upd H l (.lst ys))
end Bs
namespace Bs
open PySem PySem.Spec PyProof.Rows L2
section
variable {X:Cx} {pins:List (Addr×Obj)} {σ:L2.St} {H:Hp} {s:Shared}
mutual
theorem qfS (I:Inv X pins σ H s):∀ {x:V} {d:PySem.W.Dat} {u:Value},RepD H x d→RelV x u→∃ as,Reads s.heap u (PySem.W.kqdP d) as
  | _,_,_,.non,e=>by cases e;rw [PySem.W.kqdP];exact ⟨_,Reads.none⟩
  | _,_,_,.int i,⟨t,e⟩=>by subst e;rw [PySem.W.kqdP];exact ⟨_,Reads.int i t⟩
  | _,_,_,.tup h r,e=>by
    cases e
    obtain ⟨its,rv,p,_⟩:=I.tuple (SqT.of h)
    obtain ⟨as,q⟩:=qhm I r rv
    obtain ⟨o,ho,hc,n,hd⟩:=p
    rw [PySem.W.kqdP]
    exact ⟨as,reads_tuple_at ho hc hd (by simpa using q)⟩
  | _,_,_,.lst h r,e=>by
    cases e
    obtain ⟨its,rv,p,_⟩:=I.list (SqL.of h)
    obtain ⟨as,q⟩:=qhm I r rv
    obtain ⟨o,n,ho,hc,_,hd⟩:=p
    rw [PySem.W.kqdP]
    exact ⟨_,reads_list_at ho hc hd (by simpa using q)⟩
theorem qhm (I:Inv X pins σ H s):∀ {xs:List V} {ds:List PySem.W.Dat} {us:List Value},RepA H xs ds→Vals xs us→∃ as,ReadsAll s.heap us (PySem.W.kqdPs ds) as
  | _,_,_,.nil,.nil=>by rw [PySem.W.kqdPs];exact ⟨_,ReadsAll.nil⟩
  | _,_,_,.cons h r,.cons e es=>by
    obtain ⟨as,q⟩:=qfS I h e
    obtain ⟨bs,q2⟩:=qhm I r es
    rw [PySem.W.kqdPs]
    exact ⟨_,ReadsAll.cons q q2⟩
end
theorem qh3 {d:PySem.W.Dat} (h:PySem.W.kqdOk 8 d=true):SeqAt.shaped (PySem.W.kqdP d)=true:=by
  have z:=PySem.W.kqd_lay 8 d h
  unfold SeqAt.shaped
  rw [z.1,Bool.true_and]
  exact decide_eq_true (Nat.le_trans z.2 (by decide))
theorem qoP {d e:PySem.W.Dat} {b:Bool} (h1:PySem.W.kqdOk 8 d=true) (h2:PySem.W.kqdOk 8 e=true) (hb:b=true↔d=e):PyData.eqv (PySem.W.kqdP d) (PySem.W.kqdP e)=b:=by
  rw [Bool.eq_iff_iff,hb]
  exact PySem.W.kqd_eqv 8 d e 8 h1 h2
theorem qiE {a:Expr} {ta:TE} (ha:PE X a ta) (he:∀ whole,isTrue a X.env whole=(do let v ← whole;standAt a.pos;holding [v] (truthy v))):PT X a (qiD ta):=fun pins s σ H Q I h=>
  isTrue_plain (thn (ha pins s σ H _ I h) fun v s1 ⟨x,H1,I1,r1,q1⟩=>by
    obtain ⟨p,xs,e,hp,q⟩:=q1
    subst e
    exact qoF pins s1 σ H1 _ v Q I1 r1 ⟨_,.inl ⟨xs,SqL.of hp,rfl⟩,q⟩) (he _)
theorem qdi:SlR X sL:=by
  intro pins s σ H x v vl vu lo hi sl Q I rx hs pl pu h
  obtain ⟨a,xs,e,ha,q⟩:=h
  exact qnJ pins s σ H x v vl vu lo hi sl Q I rx hs pl pu ⟨a,xs,e,SqL.of ha,q⟩
theorem qh4:qcC X (.type "tuple") qmy:=fun pins s σ H xs us Q I r h=>by
  obtain ⟨p,ys,e,hp,q⟩:=h
  exact qhe pins s σ H xs us Q I r ⟨p,ys,e,.inl ⟨SqL.of hp,q⟩⟩
theorem qgG:qcC X (.type "list") qja:=fun pins s σ H xs us Q I r h=>by
  obtain ⟨p,ys,e,hp,q⟩:=h
  exact qfc pins s σ H xs us Q I r ⟨p,ys,e,.inl (SqL.of hp),q⟩
end
end Bs
namespace Bs
open PySem L2
noncomputable def qdj (n:Nat) (t:TGs):TG:=fun v σ H Q=>∃ a xs,v=.ref a∧H a=some (.tup xs)∧xs.length=n∧t xs σ H Q
end Bs
namespace Bs
open PySem PySem.Spec PyProof.Rows L2
theorem qbi {X:Cx} {es:List Expr} {k:Nat} {pos:Pos} {t:TGs} {n:Nat} (hc:X.calm=true) (h:PGs X es t)
    (hn:(assignEach es X.env).length=n:=by rfl) (hst:(assignEach es X.env).findIdx? (·.1)=none:=by rfl):PG X (.Tuple es k pos) (qdj n t):=fun pins s σ H v u Q I r q=>by
  obtain ⟨a,xs,e,ha,hl,q⟩:=q
  exact qoD hc h hn hst pins s σ H v u Q I r ⟨a,xs,e,SqT.of ha,hl,q⟩
end Bs
namespace Bs
open PySem L2
end Bs
namespace HT
open PySem PySem.Spec PyProof.Rows
end HT
namespace Bs
open PySem PySem.Spec PyProof.Rows L2
end Bs
namespace Bs
open PySem L2
section
variable {K:W.Frag} {ta:TA} {g:TG} {tb:TS} {D:Ends} {σ:L2.St} {H:Hp} {a:Addr} {xs:List V}
end
end Bs
namespace Bs
open PySem PySem.Spec PyProof.Rows L2
end Bs
namespace Bs
open PySem L2
noncomputable def qp3:R2:=fun x y H Q=>y=.non∧Q (.bl (decide (x=.non))) H
noncomputable def qoQ:R2:=fun x y H Q=>y=.non∧Q (.bl (!decide (x=.non))) H
noncomputable def qp4 (_ j:Int):Prop:=0<j
noncomputable def qpu (_ j:Int):Prop:=j≠0
noncomputable abbrev qhn:R2:=rI qp4 fun i j=>.int (i / j)
noncomputable abbrev qj8:R2:=rI qpu fun i j=>.int (i.fdiv j)
noncomputable def Itz (K:W.Frag) (a b:Addr):It:=
  ⟨fun i H=>∃ xs ys x y,SqL K H a xs∧SqL K H b ys∧xs[i]?=some x∧ys[i]?=some y,fun i H v H'=>∃ p x y,H p=none∧v=.ref p∧H'=upd H p (.tup [x,y])∧(∀ xs,SqL K H a xs→xs[i]?=some x)∧∀ ys,SqL K H b ys→ys[i]?=some y,fun i H=>∃ xs ys,SqL K H a xs∧SqL K H b ys∧xs.length≤i⟩
noncomputable def qiF (K:W.Frag) (ta:TA):TI:=fun σ H R=>ta σ H fun vs H1=>∃ a b,vs=[.ref a,.ref b]∧(∃ xs,SqL K H1 a xs)∧(∃ ys,SqL K H1 b ys)∧R (Itz K a b) H1
noncomputable def qdN (wi:TI) (capt:List (Option Nat)) (g:TG) (tc:TT) (te:TE):TE:=fun σ H Q=>wi σ H fun J H1=>∃ (n:Nat) (W:Nat→List V→Hp→Prop),W 0 [] H1∧∀ i ys H,W i ys H→i≤n∧ys.length≤sizeLine∧
  ((J.stop i H∧∀ p,H p=none→Q (.ref p) (upd H p (.lst ys)))∨(i<n∧J.go i H∧∀ x H',J.yld i H x H'→g x (qb0 capt σ) H' fun σ2 H2=>tc σ2 H2 fun b H3=>if b=true then te σ2 H3 fun y H4=>W (i+1) (ys++[y]) H4 else W (i+1) ys H3))
noncomputable def CompF (J:It) (capt:List (Option Nat)) (g:TG) (tc:TT) (te:TE) (σ:L2.St) (Q:VK) (H1:Hp):Prop:=∃ (n:Nat) (W:Nat→List V→Hp→Prop),W 0 [] H1∧∀ i ys H,W i ys H→i≤n∧ys.length≤sizeLine∧
  ((J.stop i H∧∀ p,H p=none→Q (.ref p) (upd H p (.lst ys)))∨(i<n∧J.go i H∧∀ x H',J.yld i H x H'→g x (qb0 capt σ) H' fun σ2 H2=>tc σ2 H2 fun b H3=>if b=true then te σ2 H3 fun y H4=>W (i+1) (ys++[y]) H4 else W (i+1) ys H3))
section
variable {K:W.Frag} {ta:TA} {tl:TE} {capt:List (Option Nat)} {g:TG} {tc:TT} {te:TE} {tb:TS} {D:Ends} {σ:L2.St} {H:Hp} {Q:VK} {a b:Addr} {xs ys:List V}
theorem qmz:qdN (qbb K tl) capt g tc te σ H Q=tl σ H (fun x H1=>∃ a,x=.ref a∧(∃ xs,SqL K H1 a xs)∧CompF (Itl K a) capt g tc te σ Q H1):=rfl
theorem qnW:qaG (qiF K ta) capt g te σ H Q=ta σ H (fun vs H1=>∃ a b,vs=[.ref a,.ref b]∧(∃ xs,SqL K H1 a xs)∧(∃ ys,SqL K H1 b ys)∧CompJ (Itz K a b) capt g te σ Q H1):=rfl
theorem CompF.lst (W:Nat→List V→Hp→Prop) (h0:W 0 [] H) (hb:∀ i ys H,W i ys H→i≤xs.length∧ys.length≤sizeLine∧SqL K H a xs)
    (hs:∀ i x ys H,xs[i]?=some x→W i ys H→g x (qb0 capt σ) H fun σ2 H2=>tc σ2 H2 fun b H3=>if b=true then te σ2 H3 fun y H4=>W (i+1) (ys++[y]) H4 else W (i+1) ys H3) (hd:∀ ys H,W xs.length ys H→∀ p,H p=none→Q (.ref p) (upd H p (.lst ys))):CompF (Itl K a) capt g tc te σ Q H:=by
  refine ⟨xs.length,W,h0,fun i ys H w=>⟨(hb i ys H w).1,(hb i ys H w).2.1,?_⟩⟩
  have q:SqL K H a xs:=(hb i ys H w).2.2
  by_cases h:i<xs.length
  · refine .inr ⟨h,⟨xs,xs[i],q,by simp [h]⟩,fun x H' y=>?_⟩
    obtain ⟨e,y⟩:=y
    subst e
    exact hs i x ys _ (y xs q) w
  · have e:i=xs.length:=Nat.le_antisymm (hb i ys H w).1 (Nat.not_lt.mp h)
    subst e
    exact .inl ⟨⟨xs,q,Nat.le_refl _⟩,hd ys H w⟩
theorem CompJ.zip (hl:xs.length=ys.length) (W:Nat→List V→Hp→Prop) (h0:W 0 [] H) (hb:∀ i zs H,W i zs H→i≤xs.length∧zs.length≤sizeLine∧SqL K H a xs∧SqL K H b ys)
    (hs:∀ i x y zs H p,xs[i]?=some x→ys[i]?=some y→W i zs H→H p=none→g (.ref p) (qb0 capt σ) (upd H p (.tup [x,y])) fun σ2 H2=>te σ2 H2 fun z H3=>W (i+1) (zs++[z]) H3) (hd:∀ zs H,W xs.length zs H→∀ p,H p=none→Q (.ref p) (upd H p (.lst zs))):CompJ (Itz K a b) capt g te σ Q H:=by
  refine ⟨xs.length,W,h0,fun i zs H w=>⟨(hb i zs H w).1,(hb i zs H w).2.1,?_⟩⟩
  obtain ⟨_,_,q,q2⟩:=hb i zs H w
  by_cases h:i<xs.length
  · refine .inr ⟨h,⟨xs,ys,xs[i],ys[i],q,q2,by simp [h],by simp [hl ▸ h]⟩,fun v H' y=>?_⟩
    obtain ⟨p,x,y,hp,e1,e2,h1,h2⟩:=y
    subst e1 e2
    exact hs i x y zs _ p (h1 xs q) (h2 ys q2) w hp
  · have e:i=xs.length:=Nat.le_antisymm (hb i zs H w).1 (Nat.not_lt.mp h)
    subst e
    exact .inl ⟨⟨xs,ys,q,q2,Nat.le_refl _⟩,hd zs H w⟩
end
noncomputable def qnX:List V→Hp→VK→Prop:=fun xs H Q=>∃ (p:Addr) (ns:List Int),xs=[.ref p]∧H p=some (.lst (ns.map V.int))∧Q (.bl (ns.any fun z=>!decide (z=0))) H
end Bs
namespace Bs
open PySem PySem.Spec PyProof.Rows L2
section
variable {X:Cx} {pins:List (Addr×Obj)} {σ:L2.St} {H:Hp} {s:Shared}
theorem qei:OpR X (binaryOp .FloorDiv) qj8:=by
  intro pins s σ H x y v u Q I rx ry ⟨i,j,ex,ey,hc,q⟩
  subst ex ey
  obtain ⟨t,rfl⟩:=rx
  obtain ⟨t2,rfl⟩:=ry
  exact floordiv_int hc ⟨.int (i.fdiv j),H,I.tok _,⟨_,rfl⟩,q⟩ (Or.inr (I.ok.plr s I.bk))
theorem qc0:OpR X (binaryOp .FloorDiv) qhn:=by
  intro pins s σ H x y v u Q I rx ry ⟨i,j,ex,ey,hc,q⟩
  have hc':0<j:=hc
  replace q:Q (.int (i / j)) H:=q
  rw [← Int.fdiv_eq_ediv_of_nonneg i (Int.le_of_lt hc')] at q
  exact qei pins s σ H x y v u Q I rx ry ⟨i,j,ex,ey,Int.ne_of_gt hc',q⟩
theorem qh5 {fp:List Addr} {g:Heap} {tk:Nat} (I:Inv X pins σ H s) (ff:∀ b∈fp,qis X pins H b) (k:∀ b o,b∉fp→s.heap.get? b=some o→g.get? b=some o):Inv X pins σ H { s with heap:=g,toks:=tk }:=by
  have tr:∀ b u,H b=some u→b∉fp:=fun b u q hb=>by rw [(ff b hb).1] at q;cases q
  refine I.step (g':=s.gens) (d':=s.drawn) (ch:=fp) (fun b hb=>⟨(ff b hb).2.2.2.1,(ff b hb).2.1,(ff b hb).2.2.2.2.1,(ff b hb).2.2.2.2.2⟩) (fun b o _ _ hc q _=>k b o hc q) (fun b o _ _ hc q _=>⟨o.slots,k b o hc q⟩) (fun _ _ _ _ n=>n)
    (fun b o hc q=>⟨o,k b o hc q⟩) (fun _ _ q=>q) (fun _ _ _ q=>q) (fun b ps q=>⟨#[],by rw [q];simp⟩) (fun m hm=>?_) (fun b u q=>?_) I.bare
  · obtain ⟨o,es,ep,ho,hr⟩:=hm
    exact ⟨o,es,ep,k _ o (fun hb=>(ff _ hb).2.1 rfl) ho,hr⟩
  · refine (I.hok b u q).stay (fun c v hc z=>?_) (fun _ z=>z) fun _ _ z=>z
    rcases hc with y | y
    · subst y;exact k _ v (tr _ u q) z
    · exact k c v (tr c _ y) z
theorem qh6 {fp:List Addr} {g:Heap} {tk:Nat} {xs:List V} {its:List Value} (I:Inv X pins σ H s) (ff:∀ b∈fp,qis X pins H b) (k:∀ b o,b∉fp→s.heap.get? b=some o→g.get? b=some o)
    (hz:xs.length≤sizeLine) (rv:Vals xs its) (ht:g.get? s.heap.objs.size=some { cls:=.type "tuple", data:=.seq its.toArray }):Inv X pins σ (upd H s.heap.objs.size (.tup xs)) { s with heap:=g,toks:=tk }:=by
  have nT:H s.heap.objs.size=none:=I.hok.fresh (Nat.le_refl _)
  have tn:∀ b u,H b=some u→b≠s.heap.objs.size:=fun b u q=>qaj q nT
  have tr:∀ b u,H b=some u→b∉fp:=fun b u q hb=>by rw [(ff b hb).1] at q;cases q
  refine I.step (g':=s.gens) (d':=s.drawn) (ch:=fp) (fun b hb=>⟨(ff b hb).2.2.2.1,(ff b hb).2.1,(ff b hb).2.2.2.2.1,(ff b hb).2.2.2.2.2⟩) (fun b o _ _ hc q _=>k b o hc q) (fun b o _ _ hc q _=>⟨o.slots,k b o hc q⟩) (fun b o _ q n=>?_)
    (fun b o hc q=>⟨o,k b o hc q⟩) (fun b ys q=>?_) (fun b o u q=>?_) (fun b ps q=>⟨#[],?_⟩) (fun m hm=>?_) (fun b u q=>?_) I.bare
  · rw [qav (Nat.ne_of_lt (Heap.lt_size q))];exact n
  · rw [qav (tn b _ q)];exact q
  · rw [qav (tn b _ q)];exact q
  · rw [qav (tn b _ q),q];simp
  · obtain ⟨o,es,ep,ho,hr⟩:=hm
    exact ⟨o,es,ep,k _ o (fun hb=>(ff _ hb).2.1 rfl) ho,hr⟩
  · by_cases hb:b=s.heap.objs.size
    · subst hb
      rw [qac] at q
      cases q
      exact ⟨hz,its,rv,⟨_,ht,rfl,_,rfl⟩⟩
    · rw [qav hb] at q
      refine (I.hok b u q).stay (fun c v hc z=>?_) (fun c z=>by rw [qav (tn c _ z)];exact z) fun c ys z=>by rw [qav (tn c _ z)];exact z
      rcases hc with y | y
      · subst y;exact k _ v (tr _ u q) z
      · exact k c v (tr c _ y) z
end
noncomputable def qpJ (a b z ti to i1 i2:Addr) (i:Nat) (h:Heap):Prop:=IsZip h z ti to .none∧IsPair h ti (.ref i1) (.ref i2)∧(∃ u v,IsPair h to u v)∧h.IsListIter i1 a i∧h.IsListIter i2 b i
theorem qjb {P:Program} {w:World} {K:W.Frag} {elts:List Expr} {k:Nat} {pos:Pos} {a b z ti to i1 i2:Addr} (D:ZipApart z ti to i1 i2 a b):Turn P w K (.Tuple elts k pos) (Itz K a b) [z,ti,to,i1,i2] z (qpJ a b z ti to i1 i2) where
  mem:=by simp
  obj:=fun i h st c hc=>by
    obtain ⟨s1,s2,⟨u,v,s3⟩,⟨o4,s4,_,d4⟩,⟨o5,s5,_,d5⟩⟩:=st
    have hc':c=z∨c=ti∨c=to∨c=i1∨c=i2:=by simpa using hc
    rcases hc' with rfl | rfl | rfl | rfl | rfl
    · exact ⟨_,s1,fun v q=>nomatch q⟩
    · exact ⟨_,s2,fun v q=>nomatch q⟩
    · exact ⟨_,s3,fun v q=>nomatch q⟩
    · exact ⟨_,s4,fun v q=>by rw [d4] at q;cases q⟩
    · exact ⟨_,s5,fun v q=>by rw [d5] at q;cases q⟩
  keep:=fun i h h' st kk=>⟨kk z (by simp) _ st.1,kk ti (by simp) _ st.2.1,let ⟨u,v,q⟩:=st.2.2.1;⟨u,v,kk to (by simp) _ q⟩,st.2.2.2.1.at fun o q=>kk i1 (by simp) o q,st.2.2.2.2.at fun o q=>kk i2 (by simp) o q⟩
  item:=by
    intro X hP hw hK hc i pins s σ H E I hf st hg
    subst hP hw hK
    obtain ⟨xs,ys,x,y,hq,hq2,hx,hy⟩:=hg
    obtain ⟨s1,s2,⟨u0,v0,s3⟩,s4,s5⟩:=st
    obtain ⟨its,rv,p1,_⟩:=I.list hq
    obtain ⟨jts,rw',p2,_⟩:=I.list hq2
    obtain ⟨u,hu,ru⟩:=rv.get hx
    obtain ⟨v,hv,rw2⟩:=rw'.get hy
    refine wpAny_pyNext_zip_item D s1 s2 s3 s4 s5 p1.isList p2.isList (x:=u) (y:=v) (by simpa using hu) (by simpa using hv) fun g g1 g2 g3 g4 g5 _ gk=>?_
    refine ⟨_,rfl,wpAny_letOwnedTupleGo_zip g1 fun g' z1 sb=>?_⟩
    have lz:z<s.heap.objs.size:=Heap.lt_size s1
    have kept:∀ c o,c∉[z,ti,to,i1,i2]→s.heap.get? c=some o→g'.get? c=some o:=fun c o hc q=>by
      have hc':¬ (c=z∨c=ti∨c=to∨c=i1∨c=i2):=by simpa using hc
      exact sb.extBut c o (fun e=>hc' (.inl e)) (gk c o (fun e=>hc' (.inl e)) (fun e=>hc' (.inr (.inr (.inl e)))) (fun e=>hc' (.inr (.inr (.inr (.inl e))))) (fun e=>hc' (.inr (.inr (.inr (.inr e))))) q)
    have I1:=qh6 (g:=g') (tk:=s.toks) (xs:=[x,y]) (its:=[u,v]) I hf kept (sz (by simp)) (.cons ru (.cons rw2 .nil)) (sb.extBut _ _ (Nat.ne_of_gt lz) g5)
    refine ⟨.ref s.heap.objs.size,_,I1,rfl,⟨_,x,y,I.hok.fresh (Nat.le_refl _),rfl,rfl,fun zs hz=>by rw [I.list_inj hz hq];exact hx,fun zs hz=>by rw [I.list_inj hz hq2];exact hy⟩,⟨z1,?_,⟨u,v,sb.extBut _ _ D.TOz g2⟩,g3.at fun o q=>sb.extBut i1 o D.i1z q,g4.at fun o q=>sb.extBut i2 o D.i2z q⟩,fun c hc=>?_⟩
    · exact sb.extBut _ _ D.TIz (gk _ _ D.TIz D.TITO D.TIi1 D.TIi2 s2)
    · rw [qav]
      · exact (hf c hc).1
      · have hc':c=z∨c=ti∨c=to∨c=i1∨c=i2:=by simpa using hc
        obtain ⟨o4,s4,_⟩:=s4
        obtain ⟨o5,s5,_⟩:=s5
        rcases hc' with rfl | rfl | rfl | rfl | rfl
        · exact Nat.ne_of_lt lz
        · exact Nat.ne_of_lt (Heap.lt_size s2)
        · exact Nat.ne_of_lt (Heap.lt_size s3)
        · exact Nat.ne_of_lt (Heap.lt_size s4)
        · exact Nat.ne_of_lt (Heap.lt_size s5)
  done:=by
    intro X hP hw hK hc i pins s σ H E I hf st hg
    subst hP hw hK
    obtain ⟨xs,ys,hq,hq2,hx⟩:=hg
    obtain ⟨s1,s2,⟨u0,v0,s3⟩,s4,s5⟩:=st
    obtain ⟨its,rv,p1,_⟩:=I.list hq
    obtain ⟨jts,_,p2,_⟩:=I.list hq2
    have hl:=rv.length
    refine wpAny_pyNext_zip_end (I.ok.hd hc) D s1 s2 s3 s4 s5 p1.isList p2.isList (.inl (by simp;omega)) fun g gk=>⟨rfl,qh5 (tk:=s.toks) I hf fun c o hc q=>?_⟩
    have hc':¬ (c=z∨c=ti∨c=to∨c=i1∨c=i2):=by simpa using hc
    exact gk c o (fun e=>hc' (.inl e)) (fun e=>hc' (.inr (.inr (.inl e)))) (fun e=>hc' (.inr (.inr (.inr (.inl e))))) (fun e=>hc' (.inr (.inr (.inr (.inr e))))) q
  self:=fun _ _ _ _ _ st h=>wpAny_pyIter_zip st.1 h
section
variable {X:Cx} {elts:List Expr} {k:Nat} {tpos:Pos} {a b:Expr} {ta:TA} {p pos:Pos}
theorem vals2 {x y:V} {us:List Value} (r:Vals [x,y] us):∃ u v,us=[u,v]∧RelV x u∧RelV y v:=r.two
theorem qdO (hg:Gl X "zip") (hm:X.mg "zip" = none) (ha:PA X [a,b] ta) (hs:starEach [a,b] X.env=(false,eval a X.env)::starEach [b] X.env:=by rfl) (hpl:(backTo pos (starEach [b] X.env)).any (·.1)=false:=by rfl):PI X (.Tuple elts k tpos) (.Call (.Name "zip" p) [a,b] [] pos) (qiF X.K ta):=by
  intro pins s σ H R I h
  refine Call_ (qec I hg hm qm8 (PyProof.Rows.callWith_type1 (thn (ha pos pins s σ H _ I h) fun us s1 ⟨vs,H1,I1,r1,q1⟩=>?_) hs hpl))
  obtain ⟨l1,l2,rfl,⟨xs,hq⟩,⟨ys,hq2⟩,q⟩:=q1
  obtain ⟨u,v,rfl,ru,rv⟩:=vals2 r1
  cases ru
  cases rv
  obtain ⟨its,_,p1,_⟩:=I1.list hq
  obtain ⟨jts,_,p2,_⟩:=I1.list hq2
  refine call_zip_2 p1.isList p2.isList fun g z1 z2 z3 z4 z5 _ gk=>?_
  have I2:Inv X pins σ H1 { s1 with heap:=g }:=I1.kept (t':=s1.toks) gk
  have n1:@LT.lt Nat _ l1 s1.heap.objs.size:=p1.lt
  have n2:@LT.lt Nat _ l2 s1.heap.objs.size:=p2.lt
  have D:ZipApart (s1.heap.objs.size+4) (s1.heap.objs.size+2) (s1.heap.objs.size+3) s1.heap.objs.size (s1.heap.objs.size+1) l1 l2:=by
    constructor <;> (show (_:Nat)≠_;omega)
  refine wpAny_pyIter_zip z1 ⟨_,[s1.heap.objs.size+4,s1.heap.objs.size+2,s1.heap.objs.size+3,s1.heap.objs.size,s1.heap.objs.size+1],_,_,H1,rfl,I2,qjb D,⟨z1,z2,⟨_,_,z3⟩,z4,z5⟩,fun c hc=>?_,q⟩
  have hc':s1.heap.objs.size≤c:=by
    have z:c=s1.heap.objs.size+4∨c=s1.heap.objs.size+2∨c=s1.heap.objs.size+3∨c=s1.heap.objs.size∨c=s1.heap.objs.size+1:=by simpa using hc
    rcases z with z | z | z | z | z <;> rw [z] <;> first | exact Nat.le_add_right _ _ | exact Nat.le_refl _
  exact I1.fpOk hc' (I1.hok.fresh hc')
end
theorem qoR:bootBuiltins "any" = some (.builtin "any"):=by decide +kernel
theorem qho:∀ {ns:List Int} {us:List Value} {i:Nat} {u:Value},Vals (ns.map V.int) us→us[i]?=some u→∃ n t,ns[i]?=some n∧u=Value.int n t
  | [],_,_,_,.nil,e=>by simp at e
  | n::ns,_,0,_,.cons r _,e=>by
    simp at e;subst e
    obtain ⟨t,rfl⟩:=r
    exact ⟨n,t,rfl,rfl⟩
  | _::ns,_,i+1,u,.cons _ r,e=>by
    obtain ⟨n,t,h1,h2⟩:=qho (i:=i) (u:=u) r (by simpa using e)
    exact ⟨n,t,by simpa using h1,h2⟩
section
variable {X:Cx}
theorem qk9 (hc:X.calm=true):qcC X (.builtin "any") qnX:=fun pins s σ H xs us Q I r ⟨p,ns,e,hp,q⟩=>by
  subst e
  obtain ⟨u,rfl,ru⟩:=qgk r
  cases ru
  obtain ⟨its,rv,pl,hz⟩:=I.list (SqL.of hp)
  have hl:ns.length=its.length:=by have:=rv.length;simpa using this
  refine call_any_walk (wpAny_pyIter_list pl.isList ⟨s.heap.objs.size,[s.heap.objs.size,p],[s.heap.objs.size],its.toArray.size,_,_,fun i=>!decide (ns.getD i 0=0),rfl,Walks.list (A:=X.A.in1) (show X.A.in1.handled=none from I.ok.hd hc) s.heap.objs.size p (Nat.ne_of_lt pl.lt) _,⟨⟨_,Heap.get?_push_size _ rfl,rfl,rfl⟩,pl.isList.push _⟩,?_,fun g tk gk=>?_⟩)
  · intro i v s' Q' E' hP hQ
    obtain ⟨n,t,h1,rfl⟩:=qho rv (show its[i]?=some v by simpa using hP)
    have e:ns.getD i 0=n:=by rw [List.getD_eq_getElem?_getD,h1];rfl
    replace hQ:Q' (!decide (ns.getD i 0=0)) s':=hQ
    rw [e] at hQ
    refine PySem.P.truthy_int ?_
    have e2:(n != 0)=!decide (n=0):=by rw [Bool.eq_iff_iff];simp
    rw [e2]
    exact hQ
  · have kk:∀ b o,s.heap.get? b=some o→g.get? b=some o:=fun b o e=>gk b o (fun z=>absurd (Heap.lt_size e) (by rw [List.mem_singleton.mp z];exact Nat.lt_irrefl _)) (Heap.get?_push_of_some _ e)
    refine ⟨_,H,I.kept kk,?_,q⟩
    show Value.bool _=Value.bool _
    congr 1
    rw [Bool.eq_iff_iff]
    simp only [List.any_eq_true,List.mem_range,List.size_toArray]
    constructor
    · rintro ⟨i,hi,h⟩
      have hi2:i<ns.length:=by omega
      rw [List.getD_eq_getElem?_getD,List.getElem?_eq_getElem hi2] at h
      exact ⟨ns[i],List.getElem_mem hi2,h⟩
    · rintro ⟨x,hx,h⟩
      obtain ⟨i,hi,rfl⟩:=List.getElem_of_mem hx
      refine ⟨i,by omega,?_⟩
      rw [List.getD_eq_getElem?_getD,List.getElem?_eq_getElem hi]
      exact h
end
section
variable {prog:Program} {w:World} {A:Around} {R:Result→Shared→Prop} {I:Addr} {fp wr:List Addr} {n:Nat} {P:Nat→Value→Prop} {St:Nat→Heap→Prop} {d:Value}
end
section
variable {X:Cx} {e:Expr} {te:TE} {p pos kp1 kp2:Pos} {kk:Nat}
end
end Bs
namespace Bs
open PySem PySem.Spec PyProof.Rows L2
section
variable {X:Cx} {pins:List (Addr×Obj)} {σ:L2.St} {H:Hp} {s:Shared} {N:List Str} {capt:List (Option Nat)} {scope:Scope} {cl:List (Str×Addr)} {C:Addr} {fp:List Addr}
end
end Bs
namespace Bs
open PySem L2
noncomputable def qoS:List V→Hp→VK→Prop:=fun xs H Q=>∃ (p:Addr) (ns:List Int),xs=[.ref p]∧H p=some (.lst (ns.map V.int))∧Q (.int ns.sum) H
end Bs
namespace Bs
open PySem PySem.Spec PyProof.Rows L2
section
variable {X:Cx}
theorem qfT (ns:List Int):∀ k,k≤ns.length→preSum (fun i=>ns.getD i 0) k=(ns.take k).sum
  | 0,_=>rfl
  | k+1,h=>by
    have e:ns.take (k+1)=ns.take k++[ns.getD k 0]:=by
      rw [List.take_add_one,List.getD_eq_getElem?_getD,List.getElem?_eq_getElem (by omega)];rfl
    show preSum _ k+_=_
    rw [e,qfT ns k (by omega),List.sum_append]
    simp
theorem qla (hc:X.calm=true):qcC X (.builtin "sum") qoS:=fun pins s σ H xs us Q I r ⟨p,ns,e,hp,q⟩=>by
  subst e
  obtain ⟨u,rfl,ru⟩:=qgk r
  cases ru
  obtain ⟨its,rv,pl,hz⟩:=I.list (SqL.of hp)
  have hl:ns.length=its.length:=by have:=rv.length;simpa using this
  refine call_sum_walkG (wpAny_pyIter_list pl.isList ⟨s.heap.objs.size,[s.heap.objs.size,p],[s.heap.objs.size],its.toArray.size,_,_,fun i=>ns.getD i 0,rfl,Walks.list (A:=X.A.in1) (show X.A.in1.handled=none from I.ok.hd hc) s.heap.objs.size p (Nat.ne_of_lt pl.lt) _,⟨⟨_,Heap.get?_push_size _ rfl,rfl,rfl⟩,pl.isList.push _⟩,?_,?_,fun g tk t gk=>?_⟩)
  · intro b hb
    have z:b=s.heap.objs.size∨b=p:=by simpa using hb
    rcases z with z | z
    · rw [z];exact Heap.lt_size (Heap.get?_push_size _ rfl)
    · obtain ⟨o,_,ho,_⟩:=pl
      rw [z];exact Heap.lt_size (Heap.get?_push_of_some _ ho)
  · intro i v hP
    obtain ⟨n,t,h1,rfl⟩:=qho rv (show its[i]?=some v by simpa using hP)
    have e:ns.getD i 0=n:=by rw [List.getD_eq_getElem?_getD,h1];rfl
    exact ⟨t,by show Value.int n t=Value.int (ns.getD i 0) t;rw [e]⟩
  · have kk:∀ b o,s.heap.get? b=some o→g.get? b=some o:=fun b o e=>gk b o (fun z=>absurd (Heap.lt_size e) (by rw [List.mem_singleton.mp z];exact Nat.lt_irrefl _)) (Heap.get?_push_of_some _ e)
    refine ⟨.int ns.sum,H,I.kept kk,⟨t,?_⟩,q⟩
    have e:=qfT ns ns.length (Nat.le_refl _)
    rw [List.take_length] at e
    rw [List.size_toArray,← hl,e]
end
end Bs
namespace Bs
open PySem L2
end Bs
namespace Bs
open PySem PySem.Spec PyProof.Rows L2
theorem qoT {m n:Nat} {a b:Int} (ha:Bd m a) (hb:Bd n b) (h:m+n≤134217728):IntMulOk a b:=IntMulOk.of_le (qk5 ha) (qk5 hb) h
end Bs
namespace Bs
open PySem L2
end Bs
namespace Bs
open PySem PySem.Spec PyProof.Rows L2
end Bs
namespace Bs
open PySem L2
noncomputable def inD (neg:Bool):R2:=fun x y H Q=>∃ (p:Addr) (ys:List V) (d:PySem.W.Dat) (ds:List PySem.W.Dat) (b:Bool),y=.ref p∧H p=some (.lst ys)∧RepD H x d∧RepA H ys ds∧PySem.W.kqdOk 8 d=true∧(∀ e∈ds,PySem.W.kqdOk 8 e=true)∧(b=true↔d∈ds)∧Q (.bl (if neg=true then !b else b)) H
end Bs
namespace Bs
open PySem PySem.Spec PyProof.Rows L2
theorem qoU {d:PySem.W.Dat} {ds:List PySem.W.Dat} {b:Bool} (h1:PySem.W.kqdOk 8 d=true) (h2:∀ e∈ds,PySem.W.kqdOk 8 e=true) (hb:b=true↔d∈ds):((PySem.W.kqdPs ds).any fun y=>PyData.eqv y (PySem.W.kqdP d))=b:=by
  rw [Bool.eq_iff_iff,hb]
  exact PySem.W.kqd_any ds d h2 h1
theorem qlb {X:Cx} (hu:X.A.units+64<cLine):OpR X (compareOp .NotIn) (inD true):=by
  intro pins s σ H x y v u Q I rx ry h
  obtain ⟨p,ys,d,ds,b,e,hp,r1,r2,k1,k2,hb,q⟩:=h
  subst e
  obtain ⟨as,q1⟩:=qfS I r1 rx
  cases ry
  obtain ⟨its,rv,pl,_⟩:=I.list (SqL.of hp)
  obtain ⟨bs,q2⟩:=qhm I r2 rv
  obtain ⟨o,n,ho,hc,_,hd⟩:=pl
  have l:=PySem.W.kqd_layL k2
  have ld:=PySem.W.kqd_lay 8 d k1
  have l2:=ld.2
  refine SeqAt.notIn_list_reads (reads_list_at ho hc hd (by simpa using q2)) q1 l.1 ld.1 ?_ (by rw [qoU k1 k2 hb];exact ⟨.bl (!b),H,I,rfl,q⟩)
  have:=Nat.min_le_right (PyData.depthAll (PySem.W.kqdPs ds)) (PySem.W.kqdP d).depth
  omega
end Bs
namespace Bs
open PySem L2
noncomputable def qpK (kvs:List (Key×V)) (k:Key):Option V:=(kvs.find? fun kv=>kv.1=k).map (·.2)
noncomputable def gD:R2:=fun x y H Q=>∃ p k kvs v,x=.ref p∧y=.str k∧H p=some (.dK kvs)∧qpK kvs (.inr k)=some v∧Q v H
end Bs
namespace Bs
open PySem PySem.Spec PySem.Calls PyProof.Rows L2
section
variable {X:Cx}
end
end Bs
namespace Bs
open PySem PySem.Spec PySem.Calls PyProof.Rows L2
section
variable {X:Cx} {pos:Pos}
end
end Bs
namespace Bs
open PySem L2
end Bs
namespace Bs
open PySem PySem.Spec PySem.Calls PyProof.Rows L2
section
variable {X:Cx}
end
end Bs
namespace Bs
open PySem PySem.Spec PyProof.Rows L2
end Bs
namespace Bs
open PySem PySem.Spec PyProof.Rows L2
end Bs
namespace Bs
open PySem L2
noncomputable def blN (i:Int):Nat:=if i=0 then 0 else i.natAbs.log2+1
noncomputable def qp5:R2:=rI (fun i j=>0≤j∧(blN i:Int)+j≤134217728) fun i j=>.int (i*2 ^ j.toNat)
noncomputable def qoV:V→List V→Hp→VK→Prop:=fun x xs H Q=>∃ i:Int,x=.int i∧xs=[]∧Q (.int (blN i)) H
end Bs
namespace Bs
open PySem PySem.Spec PyProof.Rows L2
section
variable {X:Cx}
theorem qjc (i:Int):Builtin.Int.intBits i=blN i:=by unfold Builtin.Int.intBits blN;by_cases h:i=0 <;> simp [h]
theorem qoW:OpR X (binaryOp .LShift) qp5:=opI fun _ _ _ _ _ _ _ hc q=>lshift_int hc.1 (by rw [qjc];exact hc.2) q
theorem qnY:MtR X "int.bit_length" qoV:=by
  intro pins s σ H x xs v us Q I rx rv h
  obtain ⟨i,rfl,rfl,q⟩:=h
  obtain ⟨t,rfl⟩:=rx
  cases rv
  exact call_int_bit_length ⟨.int (blN i),H,I.tok _,⟨_,by rw [qjc]⟩,q⟩
end
section
variable {prog:Program} {w:World} {A:Around} {R:Result→Shared→Prop} {I:Addr} {fp wr:List Addr} {n:Nat} {P:Nat→Value→Prop} {St:Nat→Heap→Prop} {d:Value}
end
section
variable {X:Cx} {e:Expr} {te:TE} {p pos kp1 kp2:Pos} {kk:Nat}
end
end Bs
namespace Bs
open PySem L2
end Bs
namespace Bs
open PySem PySem.Spec PyProof.Rows L2
section
variable {X:Cx} {c P:Addr} {lp:Pos} {params:Arguments} {body:Expr} {scope:Scope}
end
section
variable {prog:Program} {w:World} {A:Around} {E:Value→Shared→Prop} {s:Shared}
end
section
variable {X:Cx} {c P:Addr} {e:Expr} {te:TE} {p pos kp lp px pk ps:Pos} {params:Arguments} {scope:Scope} {x:Str} {kk:Nat}
end
end Bs
namespace Bs
open PySem L2
end Bs
namespace Bs
open PySem PySem.Spec PySem.Calls PySem.SeqAt PyProof.Rows L2
open AutoSeq1 (wpAny_loadPart')
end Bs
namespace Bs
open PySem PySem.Spec PyProof.Rows L2
end Bs
namespace L2
open PySem PySem.Spec PyProof.Rows
end L2
namespace Bs
open PySem L2
end Bs
namespace Bs
open PySem PySem.Spec PyProof.Rows L2
section
variable {X:Cx} {c P:Addr} {lp:Pos} {params:Arguments} {body:Expr} {scope:Scope}
end
section
variable {X:Cx} {c P:Addr} {e:Expr} {te:TE} {p pos kp lp px pk ps:Pos} {params:Arguments} {scope:Scope} {x:Str} {kk:Nat}
end
end Bs
namespace Bs
open PySem L2
end Bs
namespace Bs
open PySem PySem.Spec PyProof.Rows L2
open PySem.AutoSeq1 (wpAny_loadPart')
section
variable {prog:Program} {w:World} {A:Around} {E:Value→Shared→Prop} {s:Shared}
end
section
variable {prog:Program} {w:World} {A:Around} {E:Value→Shared→Prop} {s:Shared}
end
end Bs
namespace Bs
open PySem PySem.Spec PyProof.Rows L2
section
variable {X:Cx} {elts:List Expr} {k:Nat} {tpos:Pos} {a b:Expr} {ta:TA} {p pos:Pos}
end
end Bs
namespace Bs
open PySem L2
end Bs
namespace Bs
open PySem PySem.Spec PyProof.Rows L2
end Bs
namespace Bs
open PySem L2
end Bs
namespace Bs
open PySem PySem.Spec PyProof.Rows L2
end Bs
namespace Bs
open PySem L2
end Bs
namespace Bs
open PySem PySem.Spec PySem.Calls PyProof.Rows L2
section
variable {X:Cx}
section
variable {prog:Program} {w:World} {A:Around} {E:Value→Shared→Prop} {s:Shared} {d it:Addr} {es:Array DictEntry} {ep i:Nat}
end
end
end Bs
namespace Bs
open PySem L2
end Bs
namespace Bs
open PySem PySem.Spec PyProof.Rows L2
end Bs
namespace Bs
open PySem L2
end Bs
namespace Bs
open PySem PySem.Spec PyProof.Rows L2
section
variable {prog:Program} {w:World} {A:Around} {R:Result→Shared→Prop} {I:Addr} {fp wr:List Addr} {n:Nat} {P:Nat→Value→Prop} {St:Nat→Heap→Prop} {d:Value} {m:Bool}
end
section
variable {X:Cx} {e:Expr} {te:TE} {p pos kp1 kp2:Pos} {kk:Nat}
end
end Bs
namespace Bs
open PySem PySem.Spec PyProof.Rows L2
section
variable {X:Cx} {pins:List (Addr×Obj)} {σ:L2.St} {H:Hp} {s:Shared} {N:List Str} {capt:List (Option Nat)} {scope:Scope} {cl:List (Str×Addr)} {C:Addr} {fp:List Addr}
noncomputable def qpL:TT:=fun _ H Q=>Q true H
noncomputable def PTs (X:Cx) (cs:List Expr) (tc:TT):Prop:=∀ (pins:List (Addr×Obj)) (s:Shared) (σ:L2.St) (H:Hp) (Q:Bool→Hp→Prop),Inv X pins σ H s→tc σ H Q→
  wpAny (model X.prog X.w) X.A (forIn cs true fun c r=>if r=true then do let ok ← isTrue c X.env (eval c X.env);pure (ForInStep.yield ok) else pure (ForInStep.yield r)) (fun b s'=>∃ H',Inv X pins σ H' s'∧Q b H') X.xe s
theorem qlc {X:Cx}:PTs X [] qpL:=fun _ s _ H _ I h=>wpAny_tests_nil ⟨H,I,h⟩
theorem qnZ {X:Cx} {c:Expr} {tc:TT} (h:L2.PT X c tc):PTs X [c] tc:=fun pins s σ H Q I q=>wpAny_tests_one (h pins s σ H Q I q)
theorem qh7 {prog:Program} {w:World} {A:Around} {R:Result→Shared→Prop} {s:Shared} {elt target iter:Expr} {cs:List Expr} {scope:Scope} {pos:Pos} {it acc:Value} {env:Env} (I:Nat→Shared→Prop)
    (turn:∀ n s,I n s→wpAny (model prog w) A (pyNext it) (fun r s₁=>match r with
      | none=>R (.ok .next) s₁
      | some v=>wpAny (model prog w) A (letOwnedTupleGo target it v) (fun _ s₂=>wpAny (model prog w) A (assign target env v) (fun _ s₃=>wpAny (model prog w) A (forIn cs true fun c r=>if r=true then do let ok ← isTrue c env (eval c env);pure (ForInStep.yield ok) else pure (ForInStep.yield r)) (fun okb s₆=>if okb=true then wpAny (model prog w) A (eval elt env) (fun x s₄=>
          wpAny (model prog w) A (call (.builtin "list.append") [acc,x]) (fun _ s₅=>∃ m,m<n∧I m s₅) (fun _ _=>False) s₄) (fun _ _=>False) s₆ else ∃ m,m<n∧I m s₆) (fun _ _=>False) s₃) (fun _ _=>False) s₂) (fun _ _=>False) s₁) (fun _ _=>False) s)
    (n:Nat) (h:I n s):codeAny (model prog w) A (.compLoop (.ListComp elt [⟨target,iter,cs,0⟩] scope pos) 0 it acc env) R s:=by
  refine codeAny_loop rfl I (fun n s hI=>?_) n h
  show wpAny _ A ((compTurn (.ListComp elt [⟨target,iter,cs,0⟩] scope pos) 0 it acc env).onRaise (fun x=>do noteFrame x env;theTreesLotGoes x)) _ _ s
  refine wpAny_noted ?_
  rw [compTurn_list]
  have no:∀ {E':Value→Shared→Prop} (e:Value) (s':Shared),(fun (_:Value) (_:Shared)=>False) e s'→E' e s':=fun _ _ f=>f.elim
  refine wpAny_bind (wpAny_standAt (wpAny_bind (wpAny_mono (turn n s hI) (fun r s₁ h₁=>?_) no)))
  cases r with
  | none=>exact wpAny_pure h₁
  | some v=>
    refine wpAny_bind (wpAny_mono h₁ (fun _ s₂ h₂=>?_) no)
    refine wpAny_bind (wpAny_mono h₂ (fun _ s₆ h₆=>wpAny_bind (wpAny_mono h₆ (fun okb s₃ h₃=>?_) no)) no)
    cases okb with
    | false=>exact wpAny_pure ⟨rfl,h₃⟩
    | true=>exact wpAny_bind (wpAny_bind (wpAny_mono h₃ (fun x s₄ h₄=>wpAny_bind (wpAny_mono h₄ (fun _ s₅ h₅=>wpAny_pure (wpAny_pure ⟨rfl,h₅⟩)) no)) no))
theorem qgH {elt iter tg:Expr} {cs:List Expr} {tc:TT} {pos:Pos} {wi:TI} {g:TG} {te:TE} {pins:List (Addr×Obj)} {s:Shared} {σ:L2.St} {H:Hp} {Q:VK} (RR:Value→Addr→Result→Shared→Prop) (hc:X.calm=true) (B:BlkOk X N capt scope cl) (hi:PI X tg iter wi)
    (hg:∀ C s H fp,PG (blk X N scope cl C s H fp) tg g) (ht:∀ C s H fp,PTs (blk X N scope cl C s H fp) cs tc) (he:∀ C s H fp,PE (blk X N scope cl C s H fp) elt te) (I:Inv X pins σ H s) (h:qdN wi capt g tc te σ H Q)
    (fin:∀ (D C:Addr) (s4:Shared) (Hq:Hp) (m:Str→Option Value),Inv X pins σ Hq s4→Q (.ref D) Hq→s4.heap.Ns C m→Hq C=none→C≠X.env.locals→X.s₀.heap.objs.size≤C→(∀ x c,X.env.cells.lookup x=some c→c≠C)→(∀ p∈X.pn++pins,p.1≠C)→RR (.ref D) C (.ok .next) s4) :
    wpAny (model X.prog X.w) X.A (eval iter X.env) (fun x s₁=>wpAny (model X.prog X.w) X.A (pyIter x) (fun it s₂=>wpAny (model X.prog X.w) X.A (newList []) (fun acc s₃=>
      wpAny (model X.prog X.w) X.A (newFunctionEnv scope X.env.globals cl [] X.env.qual none .none (some X.env)) (fun cenv s₄=>
        codeAny (model X.prog X.w) X.A (.compStart (.ListComp elt [⟨tg,iter,cs,0⟩] scope pos) 0 it acc { cenv with scope:=relabel scope X.env }) (RR acc cenv.locals) s₄) X.xe s₃) X.xe s₂) X.xe s₁) X.xe s:=by
  refine thn (hi pins s σ H _ I h) fun v s1 h1=>thn h1 fun itv s2 h2=>?_
  obtain ⟨it,fp,tn,J,H2,e,I2,T,st2,f2,n0,W,w0,turn⟩:=h2
  subst e
  have fl:∀ b∈fp,b<s2.heap.objs.size:=fun b hb=>by obtain ⟨o,e,_⟩:=T.obj _ _ st2 b hb;exact Heap.lt_size e
  refine wpAny_newObj_type (wpAny_newFunctionEnv B.nocell (by intro y hy;simp at hy) (fun h₁ hns₁ hsb₁=>?_) B.kind)
  dsimp only at hns₁ hsb₁ ⊢
  generalize hG:s2.heap.push { cls:=.type "list", dict:=none,data:=.seq ([]:List Value).toArray }=G at hns₁ hsb₁ ⊢
  have hC:G.objs.size=s2.heap.objs.size+1:=by rw [← hG,Heap.size_push]
  have hCle:s2.heap.objs.size≤G.objs.size:=by rw [hC];exact Nat.le_succ _
  have hDC:s2.heap.objs.size≠G.objs.size:=by rw [hC];exact Nat.ne_of_lt (Nat.lt_succ_self _)
  have old:∀ b o,s2.heap.get? b=some o→h₁.get? b=some o:=fun b o e=>hsb₁.extBut b o (by rw [hC];exact Nat.ne_of_lt (Nat.lt_succ_of_lt (Heap.lt_size e))) (Heap.get?_push_of_some _ (hG ▸ Heap.get?_push_of_some _ e))
  have hacc:h₁.get? s2.heap.objs.size=some { cls:=.type "list", data:=.seq ([]:List Value).toArray }:=hsb₁.extBut _ _ hDC (Heap.get?_push_of_some _ (hG ▸ Heap.get?_push_size _ rfl))
  have ok':=qm9 B I2 f2 fl hCle
  have nsD:s2.heap.objs.size∉frs X.stack:=fun hb=>by
    rcases List.mem_cons.mp (I2.stkSub _ hb) with z | z
    · exact absurd I2.lt (by rw [← z];exact Nat.lt_irrefl _)
    · exact I2.nofs (Nat.le_refl _) z
  have ncD:∀ x c,cl.lookup x=some c→c≠s2.heap.objs.size:=fun x c e z=>by
    obtain ⟨v,q⟩:=I2.cell x c (B.cells x c e)
    exact absurd q.lt (by rw [z];exact Nat.lt_irrefl _)
  have nfD:∀ b∈fp,s2.heap.objs.size≠b:=fun b hb z=>absurd (fl b hb) (by rw [← z];exact Nat.lt_irrefl _)
  have I₁:Inv (blk X N scope cl G.objs.size s2 H2 fp) [] (qb0 capt σ) H2 { s2 with heap:=h₁,toks:=s2.toks+([]:List (Str×Value)).length }:=qnV B I2 f2 fl hCle hns₁ old
  have loop:codeAny (model X.prog X.w) X.A (.compLoop (.ListComp elt [⟨tg,iter,cs,0⟩] scope pos) 0 (.ref it) (.ref s2.heap.objs.size) (compEnvC scope cl G.objs.size X.env))
      (RR (.ref s2.heap.objs.size) G.objs.size) { s2 with heap:=h₁,toks:=s2.toks+([]:List (Str×Value)).length }:=by
    refine qh7 (fun n s'=>∃ (i:Nat) (ys:List V) (its:List Value) (k:Nat) (Hc:Hp),Inv (blk X N scope cl G.objs.size s2 H2 fp) [] (qb0 capt σ) Hc s'∧s'.heap.get? s2.heap.objs.size=some { cls:=.type "list", data:=.seq its.toArray k }∧Vals ys its∧
      Hc s2.heap.objs.size=none∧tn i s'.heap∧(∀ b∈fp,Hc b=none)∧W i ys Hc∧n=n0 - i) ?_ n0 ⟨0,[],[],0,H2,I₁,hacc,.nil,I2.hok.fresh (Nat.le_refl _),T.keep _ _ _ st2 (fun b _ o e=>old b o e),fun b hb=>(f2 b hb).1,w0,rfl⟩
    rintro n s3 ⟨i,ys,its,k,Hc,I3,hD,hv,nD,st3,fr3,w3,en⟩
    obtain ⟨_,hl,step⟩:=turn i ys Hc w3
    have hz:its.toArray.size≤sizeLine:=by rw [List.size_toArray,← hv.length];exact hl
    have I3p:Inv (blk X N scope cl G.objs.size s2 H2 fp) [(s2.heap.objs.size,{ cls:=.type "list", data:=.seq its.toArray k })] (qb0 capt σ) Hc s3:=I3.pins_of fun p hp=>by
      rw [List.mem_singleton] at hp
      subst hp
      exact ⟨hD,nD,hDC,nsD,fun v z=>nomatch z⟩
    have fo3:∀ {Hx:Hp} (_:∀ b∈fp,Hx b=none),∀ b∈fp,qis (blk X N scope cl G.objs.size s2 H2 fp) [(s2.heap.objs.size,{ cls:=.type "list", data:=.seq its.toArray k })] Hx b:=fun hx b hb=>
      ⟨hx b hb,(ok'.exf b hb).1,ok'.exfs b hb,.inl hb,(ok'.exf b hb).2,fun p hp=>by
        have hp':p∈[((s2.heap.objs.size,{ cls:=.type "list", data:=.seq its.toArray k }):Addr×Obj)]:=hp
        rw [List.mem_singleton] at hp'
        subst hp'
        exact nfD b hb⟩
    rcases step with ⟨stop,q⟩ | ⟨ltn,go,nxt⟩
    · refine thn (T.done (blk X N scope cl G.objs.size s2 H2 fp) rfl rfl rfl hc i _ s3 _ Hc _ I3p (fo3 fr3) st3 stop) fun r s4 ⟨hr,I4⟩=>?_
      subst hr
      have hD4:=(I4.pin (s2.heap.objs.size,{ cls:=.type "list", data:=.seq its.toArray k }) (List.mem_append_right _ (List.mem_singleton.mpr rfl))).1
      obtain ⟨m,hn,_⟩:=I4.loc
      have nDt:∀ b u,Hc b=some u→b≠s2.heap.objs.size:=fun b u e z=>by rw [z,nD] at e;cases e
      have oldC:∀ b o,s2.heap.get? b=some o→b≠s2.heap.objs.size:=fun b o e=>Nat.ne_of_lt (Heap.lt_size e)
      have ub:Un (frs X.stack) fp H2 Hc s2.heap s4.heap:=I4.base
      have cC:∀ b,b<s2.heap.objs.size→b≠G.objs.size:=fun b hb z=>absurd (Nat.lt_of_lt_of_le hb hCle) (by rw [z];exact Nat.lt_irrefl _)
      refine fin _ G.objs.size s4 (upd Hc s2.heap.objs.size (.lst ys)) m ?_ (q _ nD) hn (by rw [qav (fun z=>hDC z.symm)];exact I4.free) (fun z=>cC _ I2.lt z.symm) (Nat.le_trans I2.sz hCle)
        (fun x c e=>by obtain ⟨v,q⟩:=I2.cell x c e;exact cC _ q.lt) fun p hp=>cC _ (Heap.lt_size (I2.pin p hp).1)
      refine I2.call' (ch:=fp) (s':=s4) I4.os ?_ ?_ I4.bare fun b hb=>⟨(f2 b hb).2.2.2.1,(f2 b hb).2.1,(f2 b hb).2.2.2.2.1,(f2 b hb).2.2.2.2.2⟩
      · refine ⟨ub.keep,ub.slot,fun b o e n hx=>?_,ub.there,fun b xs e=>?_,fun b o u e=>?_,fun b ps e=>?_⟩
        · rw [qav (oldC b o e)];exact ub.free b o e n hx
        · have z:=ub.tups b xs e
          rw [qav (nDt b _ z)];exact z
        · have z:=ub.frzs b o u e
          rw [qav (nDt b _ z)];exact z
        · obtain ⟨more,z⟩:=ub.tbls b ps e
          exact ⟨more,by rw [qav (nDt b _ z)];exact z⟩
      · intro b u e
        by_cases hb:b=s2.heap.objs.size
        · subst hb
          rw [qac] at e
          cases e
          exact ⟨hl,its,k,hv,hD4⟩
        · rw [qav hb] at e
          exact (I4.hok b u e).stay (fun c v _ q=>q) (fun c q=>by rw [qav (nDt c _ q)];exact q) fun c xs q=>by rw [qav (nDt c _ q)];exact q
    · refine thn (T.item (blk X N scope cl G.objs.size s2 H2 fp) rfl rfl rfl hc i _ s3 _ Hc _ I3p (fo3 fr3) st3 go) fun r s4 ⟨u,hr,h4⟩=>?_
      subst hr
      refine thn h4 fun _ s5 ⟨x,H5,I5,r5,y5,st5,fr5⟩=>?_
      have I5':=I5.pinned (fo3 fr5) (T.obj _ _ st5)
      refine thn (hg _ _ _ _ _ s5 _ H5 x u _ I5' r5 (nxt x H5 y5)) fun _ s6 ⟨σ6,H6,I6,q6⟩=>?_
      refine thn (ht _ _ _ _ _ s6 σ6 H6 _ I6 q6) fun okb s9 ⟨H9,I9,q9⟩=>?_
      have pF9:∀ b∈fp,∀ o,s5.heap.get? b=some o→s9.heap.get? b=some o∧H9 b=none:=fun b hb o e=>by
        have z:=I9.pin (b,o) (List.mem_append_right _ (List.mem_append_right _ (qdG hb e)))
        exact ⟨z.1,z.2.1⟩
      cases okb with
      | false=>
        have w9:W (i+1) ys H9:=q9
        have pD9:=I9.pin (s2.heap.objs.size,{ cls:=.type "list", data:=.seq its.toArray k }) (List.mem_append_right _ (List.mem_append_left _ (List.mem_singleton.mpr rfl)))
        have I9n:Inv (blk X N scope cl G.objs.size s2 H2 fp) [] σ6 H9 s9:=I9.pins_of fun p hp=>nomatch hp
        exact ⟨n0 - (i+1),by omega,i+1,ys,its,k,H9,qh2 B I2 f2 I9n,pD9.1,hv,pD9.2.1,T.keep _ _ _ st5 (fun b hb o e=>(pF9 b hb o e).1),(fun b hb=>by
          obtain ⟨o,e,_⟩:=T.obj _ _ st5 b hb
          exact (pF9 b hb o e).2),w9,rfl⟩
      | true=>
      replace q9:te σ6 H9 fun y H4=>W (i+1) (ys++[y]) H4:=q9
      refine thn (he _ _ _ _ _ s9 σ6 H9 _ I9 q9) fun uy s7 ⟨y,H7,I7,r7,w7⟩=>?_
      have pD:=I7.pin (s2.heap.objs.size,{ cls:=.type "list", data:=.seq its.toArray k }) (List.mem_append_right _ (List.mem_append_left _ (List.mem_singleton.mpr rfl)))
      have pF:∀ b∈fp,∀ o,s5.heap.get? b=some o→s7.heap.get? b=some o∧H7 b=none:=fun b hb o e=>by
        have z:=I7.pin (b,o) (List.mem_append_right _ (List.mem_append_right _ (qdG hb e)))
        exact ⟨z.1,z.2.1⟩
      refine append_at (hsz:=hz) pD.1 fun h8 sb8 hD8=>?_
      have I7n:Inv (blk X N scope cl G.objs.size s2 H2 fp) [] σ6 H7 s7:=I7.pins_of fun p hp=>nomatch hp
      have I8:Inv (blk X N scope cl G.objs.size s2 H2 fp) [] σ6 H7 { s7 with heap:=h8,toks:=s7.toks }:=I7n.turned (fun b o hb e=>sb8.extBut b o hb e) pD.2.1 hDC (.inr (Nat.le_refl _)) ncD (fun p hp=>nomatch hp)
      refine ⟨n0 - (i+1),by omega,i+1,ys++[y],its++[uy],k+1,H7,qh2 B I2 f2 I8,?_,Paired.snoc hv r7,pD.2.1,T.keep _ _ _ st5 (fun b hb o e=>sb8.extBut b o (nfD b hb).symm (pF b hb o e).1),fun b hb=>?_,w7,rfl⟩
      · show h8.get? _=_
        rw [hD8,List.push_toArray]
      · obtain ⟨o,e,_⟩:=T.obj _ _ st5 b hb
        exact (pF b hb o e).2
  exact codeAny_compStart_list loop (T.self X.A 0 _ _ _ (T.keep _ _ _ st2 (fun b _ o e=>old b o e)) loop)
theorem qaF {elt iter tg:Expr} {pos:Pos} {wi:TI} {g:TG} {te:TE} (hc:X.calm=true) (B:BlkOk X N capt scope cl) (hi:PI X tg iter wi)
    (hg:∀ C s H fp,PG (blk X N scope cl C s H fp) tg g) (he:∀ C s H fp,PE (blk X N scope cl C s H fp) elt te)
    (hs:∀ x,foldedSetIterable iter X.env x=pure x:=by intro _;rfl):PE X (.ListComp elt [⟨tg,iter,[],0⟩] scope pos) (qaG wi capt g te):=by
  intro pins s σ H Q I h
  rw [eval_ListComp]
  refine wpAny_comprehension_free (use:=none) rfl hs B.clos B.kind B.names (qgH (cs:=[]) (tc:=qpL) (fun acc C=>compPost (model X.prog X.w) X.A X.xe none (EP X pins σ Q) acc C) hc B hi hg (fun _ _ _ _=>qlc) he I (show qdN wi capt g qpL te σ H _ from h) fun D C s4 Hq m I4 q hn hf h1 h2 h3 h4=>?_)
  exact ⟨m,hn,fun h' sb=>⟨.ref D,Hq,I4.turned (fun b o hb e=>sb.extBut b o hb e) hf h1 (.inr h2) h3 h4,rfl,q⟩⟩
theorem qjd {i:Nat} {x:Str} {pos' spos:Pos} {elt iter tg:Expr} {cs:List Expr} {tc:TT} {pos:Pos} {wi:TI} {g:TG} {te:TE} (hN:X.N.Nodup) (hi':X.N[i]?=some x) (hx:Loc X.env.scope x) (hc:X.calm=true) (B:BlkOk X N capt scope cl) (hi:PI X tg iter wi)
    (hg:∀ C s H fp,PG (blk X N scope cl C s H fp) tg g) (ht:∀ C s H fp,PTs (blk X N scope cl C s H fp) cs tc) (he:∀ C s H fp,PE (blk X N scope cl C s H fp) elt te)
    (hsw:swapsWith (.ListComp elt [⟨tg,iter,cs,0⟩] scope pos) (some (.Name x pos')) spos.line X.env=pure true)
    (hs:∀ x,foldedSetIterable iter X.env x=pure x) (hf:X.fn x=true∨X.env.scope.names.lookup x=some .local) :
    PS X (.Assign [.Name x pos'] (.ListComp elt [⟨tg,iter,cs,0⟩] scope pos) spos) (qaA (qdN wi capt g tc te) (qai i)):=by
  intro pins s σ H D I h
  rw [exec_Assign_Name_used _ _ _ _ hsw]
  refine wpAny_bind (wpAny_standAt (wpAny_bind ?_))
  show wpAny _ X.A (do let _ ← comprehension (.ListComp elt [⟨tg,iter,cs,0⟩] scope pos) scope X.env _ (newList []) false (eval iter X.env) (some (assign (.Name x pos') X.env))) _ _ s
  refine wpAny_bind (wpAny_mono (wpAny_comprehension_free (use:=some (assign (.Name x pos') X.env)) (Q:=fun _ s'=>SP X pins D .next s') rfl hs B.clos B.kind B.names
    (qgH (fun acc C=>compPost (model X.prog X.w) X.A X.xe (some (assign (.Name x pos') X.env)) (fun _ s'=>SP X pins D .next s') acc C) hc B hi hg ht he I h fun Da C s4 Hq m I4 q hn hfr h1 h2 h3 h4=>?_)) (fun _ s' hq=>wpAny_pure (wpAny_pure hq)) fun _ _ e=>e)
  show wpAny _ X.A (assign (.Name x pos') X.env (.ref Da)) _ _ _
  refine wpAny_assign_Name (qhN I4 hN hi' hx (v:=.ref Da) rfl (fun s5 I5 ⟨a,sb5,ha⟩=>⟨m,hn.sameBut sb5 ?_,fun h' sb=>⟨_,_,I5.turned (fun b o hb e=>sb.extBut b o hb e) hfr h1 (.inr h2) h3 h4,q⟩⟩) hf)
  rcases ha with z | z
  · rw [z];exact h1
  · exact fun e=>h3 x a z e.symm
theorem qa2 {i:Nat} {x:Str} {pos' spos:Pos} {elt iter tg:Expr} {pos:Pos} {wi:TI} {g:TG} {te:TE} (hN:X.N.Nodup) (hi':X.N[i]?=some x) (hx:Loc X.env.scope x) (hc:X.calm=true) (B:BlkOk X N capt scope cl) (hi:PI X tg iter wi)
    (hg:∀ C s H fp,PG (blk X N scope cl C s H fp) tg g) (he:∀ C s H fp,PE (blk X N scope cl C s H fp) elt te)
    (hsw:swapsWith (.ListComp elt [⟨tg,iter,[],0⟩] scope pos) (some (.Name x pos')) spos.line X.env=pure true:=by rfl)
    (hs:∀ x,foldedSetIterable iter X.env x=pure x:=by intro _;rfl) (hf:X.fn x=true∨X.env.scope.names.lookup x=some .local:=by first | exact .inl rfl | exact .inr rfl | assumption) :
    PS X (.Assign [.Name x pos'] (.ListComp elt [⟨tg,iter,[],0⟩] scope pos) spos) (qaA (qaG wi capt g te) (qai i)):=
  qjd hN hi' hx hc B hi hg (fun C s H fp=>qlc) he hsw hs hf
theorem qhp {i:Nat} {x:Str} {pos' spos:Pos} {elt iter tg c:Expr} {tc:TT} {pos:Pos} {wi:TI} {g:TG} {te:TE} (hN:X.N.Nodup) (hi':X.N[i]?=some x) (hx:Loc X.env.scope x) (hc:X.calm=true) (B:BlkOk X N capt scope cl) (hi:PI X tg iter wi)
    (hg:∀ C s H fp,PG (blk X N scope cl C s H fp) tg g) (ht:∀ C s H fp,L2.PT (blk X N scope cl C s H fp) c tc) (he:∀ C s H fp,PE (blk X N scope cl C s H fp) elt te)
    (hsw:swapsWith (.ListComp elt [⟨tg,iter,[c],0⟩] scope pos) (some (.Name x pos')) spos.line X.env=pure true:=by rfl)
    (hs:∀ x,foldedSetIterable iter X.env x=pure x:=by intro _;rfl) (hf:X.fn x=true∨X.env.scope.names.lookup x=some .local:=by first | exact .inl rfl | exact .inr rfl | assumption) :
    PS X (.Assign [.Name x pos'] (.ListComp elt [⟨tg,iter,[c],0⟩] scope pos) spos) (qaA (qdN wi capt g tc te) (qai i)):=
  qjd hN hi' hx hc B hi hg (fun C s H fp=>qnZ (ht C s H fp)) he hsw hs hf
end
end Bs
namespace Bs
open PySem PySem.Spec PyProof.Rows L2
section
variable {X:Cx}
theorem xI {r:R2} {a:Expr} {ta:TE} {n:Int} {j} {q pos:Pos} (hr:IxR X r) (ha:PE X a ta):PE X (.Subscript a (.Constant (.int n) j q) pos) (tOp r ta (tC (.int n))):=qch hr ha qal (fun _ _=>rfl)
theorem asS {i:Nat} {x:Str} {e:Expr} {te:TE} {pos' pos:Pos} (hN:X.N.Nodup) (he:PE X e te) (hi:X.N[i]?=some x:=by rfl) (hx:Loc X.env.scope x:=by exact .inl rfl) (hs:swapsWith e (some (.Name x pos')) pos.line X.env=pure false:=by rfl) (hf:X.fn x=true∨X.env.scope.names.lookup x=some .local:=by first | exact .inl rfl | exact .inr rfl):PS X (.Assign [.Name x pos'] e pos) (qaA te (qai i)):=qbu hN hi hx he hs hf
theorem cR {op:CmpOp} {r:R2} {a b:Expr} {ta tb:TE} {pos:Pos} (ho:OpR X (compareOp op) r) (ha:PE X a ta) (hb:PE X b tb) (hm:behindInMarks op b=false:=by exact nomark _):L2.PT X (.Compare a [op] [b] pos) (qaT (tOp r ta tb)):=qkH ho ha hb hm
variable {n m:Nat} {x:Str} {ps:List Str} {sp:Sp} {a b c:Expr} {ta tb tc:TE} {p pos:Pos} (C:Cal X.prog X.w X.K X.mg X.base n x ps sp) (hr:Room m X.A)
include C hr
theorem Cal.q1 (ha:PE X a ta) (hn:n≤m:=by decide) (hg:Gl X x:=by rfl) (hd:(x == ("__debug__" : Str))=false:=by decide) (he:starEach [a] X.env=(false,eval a X.env)::starEach [] X.env:=by rfl):PE X (.Call (.Name x p) [a] [] pos) (qap sp [] E0 (qab ta qao)):=C.pe hr hn hg (qad ha qam he) hd he rfl
theorem Cal.q2 (ha:PE X a ta) (hb:PE X b tb) (hn:n≤m:=by decide) (hg:Gl X x:=by rfl) (hd:(x == ("__debug__" : Str))=false:=by decide) (he:starEach [a,b] X.env=(false,eval a X.env)::starEach [b] X.env:=by rfl) (h2:starEach [b] X.env=(false,eval b X.env)::starEach [] X.env:=by rfl) (hp:(backTo pos (starEach [b] X.env)).any (·.1)=false:=by rfl):PE X (.Call (.Name x p) [a,b] [] pos) (qap sp [] E0 (qab ta (qab tb qao))):=C.pe hr hn hg (qad ha (qad hb qam h2) he) hd he hp
theorem Cal.q3 (ha:PE X a ta) (hb:PE X b tb) (hc:PE X c tc) (hn:n≤m:=by decide) (hg:Gl X x:=by rfl) (hd:(x == ("__debug__" : Str))=false:=by decide) (he:starEach [a,b,c] X.env=(false,eval a X.env)::starEach [b,c] X.env:=by rfl) (h2:starEach [b,c] X.env=(false,eval b X.env)::starEach [c] X.env:=by rfl) (h3:starEach [c] X.env=(false,eval c X.env)::starEach [] X.env:=by rfl) (hp:(backTo pos (starEach [b,c] X.env)).any (·.1)=false:=by rfl):PE X (.Call (.Name x p) [a,b,c] [] pos) (qap sp [] E0 (qab ta (qab tb (qab tc qao)))):=C.pe hr hn hg (qad ha (qad hb (qad hc qam h3) h2) he) hd he hp
end
end Bs
namespace Bs
open PySem L2
end Bs
namespace Bs
open PySem PySem.Spec PySem.Calls PyProof.Rows L2
section
variable {X:Cx}
end
end Bs
namespace Bs
open PySem PySem.W PyProof.Rows
section
variable {k:Nat→Int} {N:Nat} {p:Array Nat}
noncomputable def kc (k:Nat→Int) (i j:Nat):Bool:=decide (k i<k j)
noncomputable def kp (k:Nat→Int) (p:Array Nat) (i:Nat):Int:=k (p.getD i 0)
end
end Bs
namespace Bs
open PySem PySem.Spec PySem.Calls PyProof.Rows L2
section
variable {prog:Program} {w:World} {A:Around} {E:Value→Shared→Prop} {s:Shared}
end
end Bs
namespace Bs
open PySem PySem.Spec PySem.Calls PyProof.Rows L2
structure ZFp (z TI TO i1 i2 l1 l2 N0:Addr):Prop where
  D:ZipApart z TI TO i1 i2 l1 l2
  zN:z<N0
  oN:TO<N0
  aN:i1<N0
  bN:i2<N0
section
variable {prog:Program} {w:World} {A:Around} {E:Value→Shared→Prop} {s:Shared} {z TI TO i1 i2 l1 l2 N0:Addr} {xs ys:Array Value} {i:Nat}
end
end Bs
namespace Bs
open PySem PySem.Spec PySem.Calls PyProof.Rows L2
section
variable {prog:Program} {w:World} {A:Around} {E:Value→Shared→Prop} {s:Shared} {z TI TO i1 i2 l1 l2:Addr} {xs ys:Array Value}
end
end Bs
namespace Bs
open PySem PySem.Spec PySem.Calls PySem.W PyProof.Rows L2
section
variable {prog:Program} {w:World} {A:Around} {E:Value→Shared→Prop} {s:Shared}
end
end Bs
namespace Bs
open PySem PySem.Spec PySem.Calls PySem.W PyProof.Rows L2
section
variable {prog:Program} {w:World} {A:Around} {E:Value→Shared→Prop} {s:Shared}
end
end Bs
namespace Bs
open PySem L2
end Bs
namespace Bs
open PySem PySem.Spec PySem.Calls PySem.W PyProof.Rows L2
open Classical in
noncomputable def zF (as:List Addr) (ns:List Int) (ys:List V) (D:Addr) (out:List V):Hp:=fun a=>if a=D then some (.lst out) else if h:∃ j:Nat,as[j]?=some a then some (.tup [.int (ns.getD h.choose 0),ys.getD h.choose .non]) else none
section
variable {as:List Addr} {ns:List Int} {ys out:List V} {D b:Addr}
end
section
variable {X:Cx} {a b:Expr} {ta:TA} {p p' pos pos':Pos}
end
end Bs
namespace Bs
open PySem L2
end Bs
namespace Bs
open PySem PySem.Spec PyProof.Rows L2
structure Z3A (z TI TO i1 i2 i3:Addr):Prop where
  nd:[z,TI,TO,i1,i2,i3].Nodup
section
variable {prog:Program} {w:World} {A:Around} {E:Value→Shared→Prop} {s:Shared}
end
end Bs
namespace Bs
open PySem PySem.Spec PyProof.Rows L2
section
variable {prog:Program} {w:World} {A:Around} {E:Value→Shared→Prop} {s:Shared}
end
end Bs
namespace Bs
open PySem L2
noncomputable def qos (K:W.Frag) (tl:TE):TI:=fun σ H R=>tl σ H fun x H1=>∃ a,x=.ref a∧((∃ xs,SqL K H1 a xs)∧R (Itl K a) H1∨(∃ xs,SqT K H1 a xs)∧R (Itt K a) H1)
theorem qql {K:W.Frag} {a:Addr} {i:Nat} {xs:List V} {g:TG} {tb rest:TS} {D:Ends} {σ:L2.St} {H:Hp} (ha:H a=some (.tup xs)∨H a=some (.lst xs)) (hv:σ[i]?=some (some (.ref a))) (Pv:Nat→L2.St→Hp→Prop) (h0:Pv 0 σ H) (hl:∀ i σ H',Pv i σ H'→H' a=H a)
    (hs:∀ i x σ H,xs[i]?=some x→Pv i σ H→g x σ H fun σ2 H2=>tb { D with nx:=Pv (i+1),ct:=Pv (i+1),bk:=rest D } σ2 H2) (hd:∀ σ H,Pv xs.length σ H→rest D σ H):qat (qef (qos K (qah i)) g tb) rest D σ H:=by
  refine ⟨_,hv,a,rfl,?_⟩
  rcases ha with ha | ha
  · exact .inr ⟨⟨_,SqT.of ha⟩,ForT.by (D:={ D with nx:=rest D }) Pv h0 (fun i σ H' _ p=>(hl i σ H' p).trans ha) hs hd⟩
  · exact .inl ⟨⟨_,SqL.of ha⟩,ForL.by (D:={ D with nx:=rest D }) Pv h0 (fun i σ H' _ p=>SqL.of ((hl i σ H' p).trans ha)) hs hd⟩
theorem qoX {K:W.Frag} {a:Addr} {i:Nat} {xs:List V} {capt:List (Option Nat)} {g:TG} {te:TE} {σ:L2.St} {H:Hp} {Q:VK} (ha:H a=some (.tup xs)∨H a=some (.lst xs)) (hv:σ[i]?=some (some (.ref a))) (W:Nat→List V→Hp→Prop) (h0:W 0 [] H) (hb:∀ i ys H',W i ys H'→i≤xs.length∧ys.length≤sizeLine∧H' a=H a)
    (hs:∀ i x ys H,xs[i]?=some x→W i ys H→g x (qb0 capt σ) H fun σ2 H2=>te σ2 H2 fun y H3=>W (i+1) (ys++[y]) H3) (hd:∀ ys H,W xs.length ys H→∀ p,H p=none→Q (.ref p) (upd H p (.lst ys))):qaG (qos K (qah i)) capt g te σ H Q:=by
  refine ⟨_,hv,a,rfl,?_⟩
  rcases ha with ha | ha
  · exact .inr ⟨⟨_,SqT.of ha⟩,CompJ.tup W h0 (fun i ys H' p=>⟨(hb i ys H' p).1,(hb i ys H' p).2.1,(hb i ys H' p).2.2.trans ha⟩) hs hd⟩
  · exact .inl ⟨⟨_,SqL.of ha⟩,CompJ.lst W h0 (fun i ys H' p=>⟨(hb i ys H' p).1,(hb i ys H' p).2.1,SqL.of ((hb i ys H' p).2.2.trans ha)⟩) hs hd⟩
end Bs
namespace Bs
open PySem PySem.Spec PyProof.Rows L2
theorem qld {X:Cx} {tg:Expr} {l:Expr} {tl:TE} (hl:PE X l tl):PI X tg l (qos X.K tl):=by
  intro pins s σ H R I h
  refine thn (hl pins s σ H _ I h) fun v s1 ⟨x,H1,I1,r1,q1⟩=>?_
  obtain ⟨a,e,q1⟩:=q1
  subst e
  cases r1
  have fo:∀ b,b∈[s1.heap.objs.size]→qis X pins H1 b:=fun b hb=>by
    rw [List.mem_singleton.mp hb]
    exact I1.fpOk (Nat.le_refl _) (I1.hok.fresh (Nat.le_refl _))
  rcases q1 with ⟨⟨xs,hq⟩,q⟩ | ⟨⟨xs,hq⟩,q⟩
  · obtain ⟨its,rv,p,hz⟩:=I1.list hq
    refine wpAny_pyIter_list p.isList ?_
    exact ⟨s1.heap.objs.size,[s1.heap.objs.size],_,_,H1,rfl,I1.kept (t':=s1.toks) fun b o e=>Heap.get?_push_of_some _ e,qhP a _,⟨_,Heap.get?_push_size _ rfl,rfl,rfl⟩,fo,q⟩
  · obtain ⟨its,rv,p,hz⟩:=I1.tuple hq
    refine wpAny_pyIter_tuple (show s1.heap.IsTuple a its.toArray from p) ?_
    exact ⟨s1.heap.objs.size,[s1.heap.objs.size],_,_,H1,rfl,I1.kept (t':=s1.toks) fun b o e=>Heap.get?_push_of_some _ e,qjO a _,⟨_,Heap.get?_push_size _ rfl,rfl,rfl⟩,fo,q⟩
end Bs
namespace Bs
open PySem L2
noncomputable def qle (ta:TA):TE:=fun σ H Q=>ta σ H fun vs H1=>∃ n:Nat,vs=[.int (n:Int)]∧n≤1000∧∀ p,H1 p=none→Q (.ref p) (upd H1 p (.lst ((List.range n).map fun i:Nat=>V.int (i:Int))))
noncomputable def Itzu (K:W.Frag) (a b:Addr):It:=
  ⟨fun i H=>∃ xs ys x y,SqL K H a xs∧SqT K H b ys∧xs[i]?=some x∧ys[i]?=some y,fun i H v H'=>∃ p x y,H p=none∧v=.ref p∧H'=upd H p (.tup [x,y])∧(∀ xs,SqL K H a xs→xs[i]?=some x)∧∀ ys,SqT K H b ys→ys[i]?=some y,fun i H=>∃ xs ys,SqL K H a xs∧SqT K H b ys∧xs.length≤i⟩
noncomputable def qn0 (K:W.Frag) (ta:TA):TI:=fun σ H R=>ta σ H fun vs H1=>∃ a b,vs=[.ref a,.ref b]∧(∃ xs,SqL K H1 a xs)∧((∃ ys,SqL K H1 b ys)∧R (Itz K a b) H1∨(∃ ys,SqT K H1 b ys)∧R (Itzu K a b) H1)
theorem ForJ.zip {K:W.Frag} {g:TG} {tb:TS} {D:Ends} {σ:L2.St} {H:Hp} {a b:Addr} {xs ys:List V} (hl:xs.length=ys.length) (Pv:Nat→L2.St→Hp→Prop) (h0:Pv 0 σ H) (hq:∀ i σ H,i≤xs.length→Pv i σ H→H a=some (.lst xs)∧H b=some (.lst ys))
    (hs:∀ i x y p σ H,xs[i]?=some x→ys[i]?=some y→Pv i σ H→H p=none→g (.ref p) σ (upd H p (.tup [x,y])) fun σ2 H2=>tb { D with nx:=Pv (i+1),ct:=Pv (i+1),bk:=D.nx } σ2 H2) (hd:∀ σ H,Pv xs.length σ H→D.nx σ H):ForJ (Itz K a b) g tb D σ H:=by
  refine ⟨fun i m σ H=>m=xs.length - i∧i≤xs.length∧Pv i σ H,⟨xs.length,by simp,Nat.zero_le _,h0⟩,?_⟩
  rintro i m σ H ⟨rfl,hi,pv⟩
  obtain ⟨q1,q2⟩:=hq i σ H hi pv
  have q:SqL K H a xs:=SqL.of q1
  have q2:SqL K H b ys:=SqL.of q2
  by_cases lt:i<xs.length
  · refine .inr ⟨⟨xs,ys,xs[i],ys[i],q,q2,by simp [lt],by simp [hl ▸ lt]⟩,Pv (i+1),fun σ' H' p'=>⟨xs.length - (i+1),by omega,rfl,lt,p'⟩,fun x H' y=>?_⟩
    obtain ⟨p,x',y',hp,rfl,rfl,h1,h2⟩:=y
    exact hs i x' y' p σ _ (h1 xs q) (h2 ys q2) pv hp
  · have e:i=xs.length:=by omega
    subst e
    exact .inl ⟨⟨xs,ys,q,q2,Nat.le_refl _⟩,hd σ H pv⟩
theorem ForJ.zipU {K:W.Frag} {g:TG} {tb:TS} {D:Ends} {σ:L2.St} {H:Hp} {a b:Addr} {xs ys:List V} (hl:xs.length=ys.length) (Pv:Nat→L2.St→Hp→Prop) (h0:Pv 0 σ H) (hq:∀ i σ H,i≤xs.length→Pv i σ H→H a=some (.lst xs)∧H b=some (.tup ys))
    (hs:∀ i x y p σ H,xs[i]?=some x→ys[i]?=some y→Pv i σ H→H p=none→g (.ref p) σ (upd H p (.tup [x,y])) fun σ2 H2=>tb { D with nx:=Pv (i+1),ct:=Pv (i+1),bk:=D.nx } σ2 H2) (hd:∀ σ H,Pv xs.length σ H→D.nx σ H):ForJ (Itzu K a b) g tb D σ H:=by
  refine ⟨fun i m σ H=>m=xs.length - i∧i≤xs.length∧Pv i σ H,⟨xs.length,by simp,Nat.zero_le _,h0⟩,?_⟩
  rintro i m σ H ⟨rfl,hi,pv⟩
  obtain ⟨q1,q2⟩:=hq i σ H hi pv
  have q:SqL K H a xs:=SqL.of q1
  have q2:SqT K H b ys:=SqT.of q2
  by_cases lt:i<xs.length
  · refine .inr ⟨⟨xs,ys,xs[i],ys[i],q,q2,by simp [lt],by simp [hl ▸ lt]⟩,Pv (i+1),fun σ' H' p'=>⟨xs.length - (i+1),by omega,rfl,lt,p'⟩,fun x H' y=>?_⟩
    obtain ⟨p,x',y',hp,rfl,rfl,h1,h2⟩:=y
    exact hs i x' y' p σ _ (h1 xs q) (h2 ys q2) pv hp
  · have e:i=xs.length:=by omega
    subst e
    exact .inl ⟨⟨xs,ys,q,q2,Nat.le_refl _⟩,hd σ H pv⟩
theorem qqm {K:W.Frag} {g:TG} {tb rest:TS} {D:Ends} {σ:L2.St} {H:Hp} {a b:Addr} {i j:Nat} {xs ys:List V} (va:σ[i]?=some (some (.ref a))) (vb:σ[j]?=some (some (.ref b))) (ha:H a=some (.lst xs)) (hb:H b=some (.tup ys)∨H b=some (.lst ys)) (hl:xs.length=ys.length) (Pv:Nat→L2.St→Hp→Prop) (h0:Pv 0 σ H) (hq:∀ i σ H',Pv i σ H'→H' a=H a∧H' b=H b)
    (hs:∀ i x y p σ H,xs[i]?=some x→ys[i]?=some y→Pv i σ H→H p=none→g (.ref p) σ (upd H p (.tup [x,y])) fun σ2 H2=>tb { D with nx:=Pv (i+1),ct:=Pv (i+1),bk:=rest D } σ2 H2) (hd:∀ σ H,Pv xs.length σ H→rest D σ H):qat (qef (qn0 K (qab (qah i) (qab (qah j) qao))) g tb) rest D σ H:=by
  refine ⟨_,va,_,vb,a,b,rfl,⟨_,SqL.of ha⟩,?_⟩
  rcases hb with hb | hb
  · exact .inr ⟨⟨_,SqT.of hb⟩,ForJ.zipU (D:={ D with nx:=rest D }) hl Pv h0 (fun i σ H' _ p=>⟨(hq i σ H' p).1.trans ha,(hq i σ H' p).2.trans hb⟩) hs hd⟩
  · exact .inl ⟨⟨_,SqL.of hb⟩,ForJ.zip (D:={ D with nx:=rest D }) hl Pv h0 (fun i σ H' _ p=>⟨(hq i σ H' p).1.trans ha,(hq i σ H' p).2.trans hb⟩) hs hd⟩
end Bs
namespace Bs
open PySem PySem.Spec PyProof.Rows L2
open PySem.AutoSeq1 (wpAny_loadPart')
section
variable {prog:Program} {w:World} {A:Around} {E:Value→Shared→Prop} {s:Shared}
theorem qgq {z TI TO i1 i2 l1 l2:Addr} {k1 k2:Nat} {xs ys:Array Value} {x y a b:Value} {Q:Value→Shared→Prop} (D:ZipApart z TI TO i1 i2 l1 l2)
    (hz:IsZip s.heap z TI TO .none) (hTI:IsPair s.heap TI (.ref i1) (.ref i2)) (hTO:IsPair s.heap TO a b)
    (h1:s.heap.IsListIter i1 l1 k1) (h2:s.heap.IsTupleIter i2 l2 k2) (hl1:s.heap.IsList l1 xs) (hl2:s.heap.IsTuple l2 ys) (hx:xs[k1]?=some x) (hy:ys[k2]?=some y)
    (hQ:∀ h',IsZip h' z TI TO (rawInt s.heap.objs.size)→IsPair h' TO x y→h'.IsListIter i1 l1 (k1+1)→h'.IsTupleIter i2 l2 (k2+1)→IsPair h' s.heap.objs.size x y→h'.objs.size=s.heap.objs.size+1→
      (∀ c o,c≠z→c≠TO→c≠i1→c≠i2→s.heap.get? c=some o→h'.get? c=some o)→Q (.ref s.heap.objs.size) { s with heap:=h' }) :
    wpAny (model prog w) A (Builtin.«zip.__next__» ⟨[.ref z],[]⟩) (fun fin s'=>∃ v,fin=.done (.ret v)∧Q v s') E s:=by
  show wpAny _ _ (field (.ref z) 2 >>= _) _ _ _
  refine wpAny_bind (wpAny_field hz rfl (x:=.bool false) rfl ?_)
  show wpAny _ _ (field (.ref z) 3 >>= _) _ _ _
  refine wpAny_bind (wpAny_field hz rfl (x:=.ref TI) rfl ?_)
  refine wpAny_bind (wpAny_seqItems hTI rfl ?_)
  show wpAny _ _ (Builtin.SmallTypes.ownedTupleIsFree (.ref z) >>= _) _ _ _
  refine wpAny_bind ?_
  unfold Builtin.SmallTypes.ownedTupleIsFree
  refine wpAny_bind (wpAny_field hz rfl (x:=.none) rfl (wpAny_pure ?_))
  simp only [if_true]
  refine wpAny_bind (wpAny_rule ?_)
  refine wpAny_bind (wpAny_field hz rfl (x:=.ref TO) rfl ?_)
  refine wpAny_bind (wpAny_setField_rec hz (by simp) fun h₁ hz₁ hs₁=>?_)
  replace hz₁:IsZip h₁ z TI TO .ellipsis:=hz₁
  refine wpAny_bind ?_
  simp only [List.zipIdx_cons,List.zipIdx_nil,List.forIn_cons,List.forIn_nil]
  refine wpAny_bind (wpAny_bind (wpAny_onRaise ?_))
  show wpAny _ _ (Builtin.SmallTypes.nextOf (.ref i1) >>= _) _ _ _
  refine wpAny_bind (wpAny_nextOf_list_item (h1.extBut hs₁.extBut D.i1z) (hl1.extBut hs₁.extBut D.l1z) hx fun h₂ h1₂ hs₂=>wpAny_pure ?_)
  have hTO₂:IsPair h₂ TO a b:=hs₂.extBut _ _ D.TOi1 (hs₁.extBut _ _ D.TOz hTO)
  refine wpAny_bind (wpAny_seqItems hTO₂ rfl ?_)
  refine wpAny_bind (wpAny_updateSeq_pair hTO₂ fun h₃ hTO₃ hs₃=>?_)
  replace hTO₃:IsPair h₃ TO x b:=hTO₃
  refine wpAny_bind (wpAny_letGo (wpAny_pure ?_))
  refine wpAny_bind (wpAny_bind (wpAny_onRaise ?_))
  show wpAny _ _ (Builtin.SmallTypes.nextOf (.ref i2) >>= _) _ _ _
  refine wpAny_bind (qj6 (((h2.extBut hs₁.extBut D.i2z).extBut hs₂.extBut D.i12.symm).extBut hs₃.extBut D.TOi2.symm)
    (((hl2.extBut hs₁.extBut D.l2z).extBut hs₂.extBut D.l2i1).extBut hs₃.extBut D.l2TO) hy fun h₄ h2₄ hs₄=>wpAny_pure ?_)
  have hTO₄:IsPair h₄ TO x b:=hs₄.extBut _ _ D.TOi2 hTO₃
  refine wpAny_bind (wpAny_seqItems hTO₄ rfl ?_)
  refine wpAny_bind (wpAny_updateSeq_pair hTO₄ fun h₅ hTO₅ hs₅=>?_)
  replace hTO₅:IsPair h₅ TO x y:=hTO₅
  refine wpAny_bind (wpAny_letGo (wpAny_pure (wpAny_pure ?_)))
  refine wpAny_bind (wpAny_seqItems hTO₅ rfl ?_)
  refine wpAny_bind (wpAny_newTuple ?_)
  have hsz:h₅.objs.size=s.heap.objs.size:=by rw [hs₅.1,hs₄.1,hs₃.1,hs₂.1,hs₁.1]
  have hz₅:IsZip h₅ z TI TO .ellipsis:=hs₅.extBut _ _ D.TOz.symm (hs₄.extBut _ _ D.i2z.symm (hs₃.extBut _ _ D.TOz.symm (hs₂.extBut _ _ D.i1z.symm hz₁)))
  have hk₅:∀ c o,c≠z→c≠TO→c≠i1→c≠i2→s.heap.get? c=some o→h₅.get? c=some o:=fun c o c1 c2 c3 c4 e=>
    hs₅.extBut _ _ c2 (hs₄.extBut _ _ c4 (hs₃.extBut _ _ c2 (hs₂.extBut _ _ c3 (hs₁.extBut _ _ c1 e))))
  have h1₅:h₅.IsListIter i1 l1 (k1+1):=((h1₂.extBut hs₃.extBut D.TOi1.symm).extBut hs₄.extBut D.i12).extBut hs₅.extBut D.TOi1.symm
  have h2₅:h₅.IsTupleIter i2 l2 (k2+1):=h2₄.extBut hs₅.extBut D.TOi2.symm
  have hzlt:z<h₅.objs.size:=Heap.lt_size hz₅
  have hTOlt:TO<h₅.objs.size:=Heap.lt_size hTO₅
  have hi1lt:i1<h₅.objs.size:=by obtain ⟨_,e,_⟩:=h1₅;exact Heap.lt_size e
  have hi2lt:i2<h₅.objs.size:=by obtain ⟨_,e,_⟩:=h2₅;exact Heap.lt_size e
  show wpAny _ _ (Builtin.SmallTypes.ownedTupleHandOut (.ref z) (.ref h₅.objs.size) >>= _) _ _ _
  refine wpAny_bind ?_
  unfold Builtin.SmallTypes.ownedTupleHandOut
  have hz₆:IsZip (h₅.push { cls:=.type "tuple", data:=.seq #[x,y] }) z TI TO .ellipsis:=Heap.get?_push_of_some _ hz₅
  refine wpAny_bind (wpAny_setField_rec hz₆ (by simp) fun h₇ hz₇ hs₇=>?_)
  replace hz₇:IsZip h₇ z TI TO (rawInt h₅.objs.size):=hz₇
  refine wpAny_setField_rec hz₇ (by simp) fun h₈ hz₈ hs₈=>?_
  replace hz₈:IsZip h₈ z TI TO (rawInt h₅.objs.size):=hz₈
  have up:∀ c o,c≠z→h₅.get? c=some o→h₈.get? c=some o:=fun c o c1 e=>hs₈.extBut _ _ c1 (hs₇.extBut _ _ c1 (Heap.get?_push_of_some _ e))
  have hT₈:IsPair h₈ h₅.objs.size x y:=hs₈.extBut _ _ (Nat.ne_of_gt hzlt) (hs₇.extBut _ _ (Nat.ne_of_gt hzlt) (Heap.get?_push_size _ rfl))
  have hz8:h₈.objs.size=h₅.objs.size+1:=by rw [hs₈.1,hs₇.1,Heap.size_push]
  rw [hsz] at hz₈ hT₈ hz8
  refine wpAny_pure ⟨_,rfl,?_⟩
  show Q (.ref h₅.objs.size) _
  rw [hsz]
  exact hQ h₈ hz₈ (up _ _ D.TOz hTO₅) (h1₅.at fun o e=>up _ o D.i1z e) (h2₅.at fun o e=>up _ o D.i2z e) hT₈ hz8 fun c o c1 c2 c3 c4 e=>up c o c1 (hk₅ c o c1 c2 c3 c4 e)
theorem qhq {z TI TO i1 i2 l1 l2:Addr} {k1 k2:Nat} {xs ys:Array Value} {a b:Value} {Q:Fin→Shared→Prop} (hh:A.handled=none) (D:ZipApart z TI TO i1 i2 l1 l2)
    (hz:IsZip s.heap z TI TO .none) (hTI:IsPair s.heap TI (.ref i1) (.ref i2)) (hTO:IsPair s.heap TO a b)
    (h1:s.heap.IsListIter i1 l1 k1) (h2:s.heap.IsTupleIter i2 l2 k2) (hl1:s.heap.IsList l1 xs) (hl2:s.heap.IsTuple l2 ys) (hend:xs[k1]?=none∨ys[k2]?=none)
    (hE:∀ h' e,(∀ c o,c≠z→c≠TO→c≠i1→c≠i2→s.heap.get? c=some o→h'.get? c=some o)→(∃ o,h'.get? e=some o∧o.cls=.type "StopIteration")→E (.ref e) { s with heap:=h' }) :
    wpAny (model prog w) A (Builtin.«zip.__next__» ⟨[.ref z],[]⟩) Q E s:=by
  show wpAny _ _ (field (.ref z) 2 >>= _) _ _ _
  refine wpAny_bind (wpAny_field hz rfl (x:=.bool false) rfl ?_)
  show wpAny _ _ (field (.ref z) 3 >>= _) _ _ _
  refine wpAny_bind (wpAny_field hz rfl (x:=.ref TI) rfl ?_)
  refine wpAny_bind (wpAny_seqItems hTI rfl ?_)
  show wpAny _ _ (Builtin.SmallTypes.ownedTupleIsFree (.ref z) >>= _) _ _ _
  refine wpAny_bind ?_
  unfold Builtin.SmallTypes.ownedTupleIsFree
  refine wpAny_bind (wpAny_field hz rfl (x:=.none) rfl (wpAny_pure ?_))
  simp only [if_true]
  refine wpAny_bind (wpAny_rule ?_)
  refine wpAny_bind (wpAny_field hz rfl (x:=.ref TO) rfl ?_)
  refine wpAny_bind (wpAny_setField_rec hz (by simp) fun h₁ hz₁ hs₁=>?_)
  replace hz₁:IsZip h₁ z TI TO .ellipsis:=hz₁
  refine wpAny_bind ?_
  simp only [List.zipIdx_cons,List.zipIdx_nil,List.forIn_cons,List.forIn_nil]
  refine wpAny_bind (wpAny_bind (wpAny_onRaise ?_))
  show wpAny _ _ (Builtin.SmallTypes.nextOf (.ref i1) >>= _) _ _ _
  cases hx:xs[k1]? with
  | none=>
    refine wpAny_bind (wpAny_nextOf_list_end hh (h1.extBut hs₁.extBut D.i1z) (hl1.extBut hs₁.extBut D.l1z) hx fun h₂ e hs₂ he=>?_)
    obtain ⟨oe,hoe,hce⟩:=he
    have hz₂:IsZip h₂ z TI TO .ellipsis:=hs₂ _ _ D.i1z.symm hz₁
    have hez:e≠z:=fun x=>by subst x;rw [hz₂] at hoe;cases hoe;simp at hce
    refine wpAny_setField_rec hz₂ (by simp) fun h₃ _ hs₃=>hE h₃ e (fun c o c1 _ c3 _ x=>hs₃.extBut _ _ c1 (hs₂ _ _ c3 (hs₁.extBut _ _ c1 x))) ⟨oe,hs₃.extBut _ _ hez hoe,hce⟩
  | some x=>
    have hy:ys[k2]?=none:=by rcases hend with h | h;rw [hx] at h;cases h;exact h
    refine wpAny_bind (wpAny_nextOf_list_item (h1.extBut hs₁.extBut D.i1z) (hl1.extBut hs₁.extBut D.l1z) hx fun h₂ h1₂ hs₂=>wpAny_pure ?_)
    have hTO₂:IsPair h₂ TO a b:=hs₂.extBut _ _ D.TOi1 (hs₁.extBut _ _ D.TOz hTO)
    refine wpAny_bind (wpAny_seqItems hTO₂ rfl ?_)
    refine wpAny_bind (wpAny_updateSeq_pair hTO₂ fun h₃ hTO₃ hs₃=>?_)
    refine wpAny_bind (wpAny_letGo (wpAny_pure ?_))
    refine wpAny_bind (wpAny_bind (wpAny_onRaise ?_))
    show wpAny _ _ (Builtin.SmallTypes.nextOf (.ref i2) >>= _) _ _ _
    refine wpAny_bind (qk8 hh (((h2.extBut hs₁.extBut D.i2z).extBut hs₂.extBut D.i12.symm).extBut hs₃.extBut D.TOi2.symm)
      (((hl2.extBut hs₁.extBut D.l2z).extBut hs₂.extBut D.l2i1).extBut hs₃.extBut D.l2TO) hy fun h₄ e hs₄ he=>?_)
    obtain ⟨oe,hoe,hce⟩:=he
    have hz₄:IsZip h₄ z TI TO .ellipsis:=hs₄ _ _ D.i2z.symm (hs₃.extBut _ _ D.TOz.symm (hs₂.extBut _ _ D.i1z.symm hz₁))
    have hez:e≠z:=fun x=>by subst x;rw [hz₄] at hoe;cases hoe;simp at hce
    refine wpAny_setField_rec hz₄ (by simp) fun h₅ _ hs₅=>hE h₅ e (fun c o c1 c2 c3 c4 x=>hs₅.extBut _ _ c1 (hs₄ _ _ c4 (hs₃.extBut _ _ c2 (hs₂.extBut _ _ c3 (hs₁.extBut _ _ c1 x))))) ⟨oe,hs₅.extBut _ _ hez hoe,hce⟩
theorem qiG {z TI TO i1 i2 l1 l2:Addr} {k1 k2:Nat} {xs ys:Array Value} {x y a b:Value} {Q:Option Value→Shared→Prop} (D:ZipApart z TI TO i1 i2 l1 l2)
    (hz:IsZip s.heap z TI TO .none) (hTI:IsPair s.heap TI (.ref i1) (.ref i2)) (hTO:IsPair s.heap TO a b)
    (h1:s.heap.IsListIter i1 l1 k1) (h2:s.heap.IsTupleIter i2 l2 k2) (hl1:s.heap.IsList l1 xs) (hl2:s.heap.IsTuple l2 ys) (hx:xs[k1]?=some x) (hy:ys[k2]?=some y)
    (hQ:∀ h',IsZip h' z TI TO (rawInt s.heap.objs.size)→IsPair h' TO x y→h'.IsListIter i1 l1 (k1+1)→h'.IsTupleIter i2 l2 (k2+1)→IsPair h' s.heap.objs.size x y→h'.objs.size=s.heap.objs.size+1→
      (∀ c o,c≠z→c≠TO→c≠i1→c≠i2→s.heap.get? c=some o→h'.get? c=some o)→Q (some (.ref s.heap.objs.size)) { s with heap:=h' }) :
    wpAny (model prog w) A (pyNext (.ref z)) Q E s:=by
  have hT:s.TypeIs (.ref z) "zip" := ⟨_,hz,rfl⟩
  unfold pyNext
  exact wpAny_bind (wpAny_attempt (wpAny_callSpecial?_slot (name:=Str.ofString "__next__") hT F.slot_zip_next
    (wpAny_call_entry F.slot_zip_next hT F.entry_zip_next
      (qgq D hz hTI hTO h1 h2 hl1 hl2 hx hy fun h' a1 a2 a3 a4 a5 a6 a7=>wpAny_pure (hQ h' a1 a2 a3 a4 a5 a6 a7)) (F.args_zip_next_1 _))))
theorem qj9 {z TI TO i1 i2 l1 l2:Addr} {k1 k2:Nat} {xs ys:Array Value} {a b:Value} {Q:Option Value→Shared→Prop} (hh:A.handled=none) (D:ZipApart z TI TO i1 i2 l1 l2)
    (hz:IsZip s.heap z TI TO .none) (hTI:IsPair s.heap TI (.ref i1) (.ref i2)) (hTO:IsPair s.heap TO a b)
    (h1:s.heap.IsListIter i1 l1 k1) (h2:s.heap.IsTupleIter i2 l2 k2) (hl1:s.heap.IsList l1 xs) (hl2:s.heap.IsTuple l2 ys) (hend:xs[k1]?=none∨ys[k2]?=none)
    (hQ:∀ h',(∀ c o,c≠z→c≠TO→c≠i1→c≠i2→s.heap.get? c=some o→h'.get? c=some o)→Q none { s with heap:=h' }):wpAny (model prog w) A (pyNext (.ref z)) Q E s:=by
  have hT:s.TypeIs (.ref z) "zip" := ⟨_,hz,rfl⟩
  unfold pyNext
  refine wpAny_bind (wpAny_attempt (wpAny_callSpecial?_slot (name:=Str.ofString "__next__") hT F.slot_zip_next
    (wpAny_call_entry F.slot_zip_next hT F.entry_zip_next (qhq hh D hz hTI hTO h1 h2 hl1 hl2 hend fun h' e hk he=>?_) (F.args_zip_next_1 _))))
  obtain ⟨o,ho,hc⟩:=he
  refine wpAny_bind (wpAny_isInstance (T := "StopIteration") (b:=true) ⟨o,ho,hc⟩ isSubtype_stop ?_)
  exact wpAny_pure (hQ _ hk)
end
noncomputable abbrev qje (h:Heap) (l1:Addr):Heap:=h.push { cls:=.type "list_iterator", data:=.fields #[.ref l1,.int 0 0] }
noncomputable abbrev qjf (h:Heap) (l1 l2:Addr):Heap:=(qje h l1).push { cls:=.type "tuple_iterator", data:=.fields #[.ref l2,.int 0 0] }
noncomputable abbrev qjg (h:Heap) (l1 l2:Addr):Heap:=(qjf h l1 l2).push { cls:=.type "tuple", data:=.seq #[.ref h.objs.size,.ref (qje h l1).objs.size] }
noncomputable abbrev qjh (h:Heap) (l1 l2:Addr):Heap:=(qjg h l1 l2).push { cls:=.type "tuple", data:=.seq #[.none,.none] }
noncomputable abbrev qfU (h:Heap) (l1 l2:Addr):Heap:=(qjh h l1 l2).push { cls:=.type "zip", data:=.fields #[.none,.bool false,.bool false,.ref (qjf h l1 l2).objs.size,.ref (qjg h l1 l2).objs.size] }
theorem qka (l1 l2:Addr) (xs ys:Array Value) :
    Meets (Builtin.«zip.__new__» ⟨[.type "zip", .ref l1,.ref l2],[]⟩) (fun _ R s=>s.heap.IsList l1 xs∧s.heap.IsTuple l2 ys∧
      R (.ok (.ret (.ref (qjh s.heap l1 l2).objs.size))) { s with heap:=qfU s.heap l1 l2 }):=
  .of_wp fun prog w A R s h=>by
    obtain ⟨hp,g,d,tk,os⟩:=s;obtain ⟨hl1,hl2,h⟩:=h
    have hsub:=sub_zip
    have hL1:Heap.IsList (Shared.heap ⟨hp,g,d,tk,os⟩) l1 xs:=hl1
    have hL2:Heap.IsTuple (Shared.heap ⟨hp.push { cls:=.type "list_iterator", data:=.fields #[.ref l1,.int 0 0] },g,d,tk,os⟩) l2 ys:=Heap.IsTuple.push hl2 _
    wp_walk using wpAny_pyIter_list hL1,wpAny_pyIter_tuple hL2
    exact ⟨_,rfl,h⟩
section
variable {prog:Program} {w:World} {A:Around} {E:Value→Shared→Prop} {s:Shared}
theorem qlf {l1 l2:Addr} {xs ys:Array Value} {Q:Value→Shared→Prop} (hl1:s.heap.IsList l1 xs) (hl2:s.heap.IsTuple l2 ys)
    (h:∀ h',IsZip h' (s.heap.objs.size+4) (s.heap.objs.size+2) (s.heap.objs.size+3) .none→IsPair h' (s.heap.objs.size+2) (.ref s.heap.objs.size) (.ref (s.heap.objs.size+1))→
      IsPair h' (s.heap.objs.size+3) .none .none→h'.IsListIter s.heap.objs.size l1 0→h'.IsTupleIter (s.heap.objs.size+1) l2 0→h'.objs.size=s.heap.objs.size+5→
      (∀ c o,s.heap.get? c=some o→h'.get? c=some o)→Q (.ref (s.heap.objs.size+4)) { s with heap:=h' }) :
    wpAny (model prog w) A (call (.type "zip") [.ref l1,.ref l2]) Q E s:=by
  refine callType_new F.called_zip (by decide) (F.typeCall_zip_2 _ _) (F.newCall_zip_2 _ _) (fun obj=>F.args_object_init_3 obj _ _) F.entry_zip_new
    (qka l1 l2 xs ys) ⟨hl1,hl2,?_⟩
  have z1:(qje s.heap l1).objs.size=s.heap.objs.size+1:=Heap.size_push ..
  have z2:(qjf s.heap l1 l2).objs.size=s.heap.objs.size+2:=by rw [Heap.size_push,z1]
  have z3:(qjg s.heap l1 l2).objs.size=s.heap.objs.size+3:=by rw [Heap.size_push,z2]
  have z4:(qjh s.heap l1 l2).objs.size=s.heap.objs.size+4:=by rw [Heap.size_push,z3]
  have z5:(qfU s.heap l1 l2).objs.size=s.heap.objs.size+5:=by rw [Heap.size_push,z4]
  have g5:(qfU s.heap l1 l2).get? (qjh s.heap l1 l2).objs.size=some _:=Heap.get?_push_size _ rfl
  have g4:(qfU s.heap l1 l2).get? (qjg s.heap l1 l2).objs.size=some _:=Heap.get?_push_of_some _ (Heap.get?_push_size _ rfl)
  have g3:(qfU s.heap l1 l2).get? (qjf s.heap l1 l2).objs.size=some _:=Heap.get?_push_of_some _ (Heap.get?_push_of_some _ (Heap.get?_push_size _ rfl))
  have g2:(qfU s.heap l1 l2).get? (qje s.heap l1).objs.size=some _:=Heap.get?_push_of_some _ (Heap.get?_push_of_some _ (Heap.get?_push_of_some _ (Heap.get?_push_size _ rfl)))
  have g1:(qfU s.heap l1 l2).get? s.heap.objs.size=some _:=Heap.get?_push_of_some _ (Heap.get?_push_of_some _ (Heap.get?_push_of_some _ (Heap.get?_push_of_some _ (Heap.get?_push_size _ rfl))))
  show _∧_
  rw [z2,z3,z4] at g5
  rw [z1,z2] at g3
  rw [z3] at g4
  rw [z1] at g2
  rw [z4]
  exact ⟨⟨_,g5,rfl⟩,h _ g5 g3 g4 ⟨_,g1,rfl,rfl⟩ ⟨_,g2,rfl,rfl⟩ z5 fun c o x=>
    Heap.get?_push_of_some _ (Heap.get?_push_of_some _ (Heap.get?_push_of_some _ (Heap.get?_push_of_some _ (Heap.get?_push_of_some _ x))))⟩
end
end Bs
namespace Bs
open PySem PySem.Spec PyProof.Rows L2
noncomputable def qoY (a b z ti to i1 i2:Addr) (i:Nat) (h:Heap):Prop:=IsZip h z ti to .none∧IsPair h ti (.ref i1) (.ref i2)∧(∃ u v,IsPair h to u v)∧h.IsListIter i1 a i∧h.IsTupleIter i2 b i
theorem qlg {P:Program} {w:World} {K:W.Frag} {elts:List Expr} {k:Nat} {pos:Pos} {a b z ti to i1 i2:Addr} (D:ZipApart z ti to i1 i2 a b):Turn P w K (.Tuple elts k pos) (Itzu K a b) [z,ti,to,i1,i2] z (qoY a b z ti to i1 i2) where
  mem:=by simp
  obj:=fun i h st c hc=>by
    obtain ⟨s1,s2,⟨u,v,s3⟩,⟨o4,s4,_,d4⟩,⟨o5,s5,_,d5⟩⟩:=st
    have hc':c=z∨c=ti∨c=to∨c=i1∨c=i2:=by simpa using hc
    rcases hc' with rfl | rfl | rfl | rfl | rfl
    · exact ⟨_,s1,fun v q=>nomatch q⟩
    · exact ⟨_,s2,fun v q=>nomatch q⟩
    · exact ⟨_,s3,fun v q=>nomatch q⟩
    · exact ⟨_,s4,fun v q=>by rw [d4] at q;cases q⟩
    · exact ⟨_,s5,fun v q=>by rw [d5] at q;cases q⟩
  keep:=fun i h h' st kk=>⟨kk z (by simp) _ st.1,kk ti (by simp) _ st.2.1,let ⟨u,v,q⟩:=st.2.2.1;⟨u,v,kk to (by simp) _ q⟩,st.2.2.2.1.at fun o q=>kk i1 (by simp) o q,st.2.2.2.2.at fun o q=>kk i2 (by simp) o q⟩
  item:=by
    intro X hP hw hK hc i pins s σ H E I hf st hg
    subst hP hw hK
    obtain ⟨xs,ys,x,y,hq,hq2,hx,hy⟩:=hg
    obtain ⟨s1,s2,⟨u0,v0,s3⟩,s4,s5⟩:=st
    obtain ⟨its,rv,p1,_⟩:=I.list hq
    obtain ⟨jts,rw',p2,_⟩:=I.tuple hq2
    obtain ⟨u,hu,ru⟩:=rv.get hx
    obtain ⟨v,hv,rw2⟩:=rw'.get hy
    refine qiG D s1 s2 s3 s4 s5 p1.isList p2 (x:=u) (y:=v) (by simpa using hu) (by simpa using hv) fun g g1 g2 g3 g4 g5 _ gk=>?_
    refine ⟨_,rfl,wpAny_letOwnedTupleGo_zip g1 fun g' z1 sb=>?_⟩
    have lz:z<s.heap.objs.size:=Heap.lt_size s1
    have kept:∀ c o,c∉[z,ti,to,i1,i2]→s.heap.get? c=some o→g'.get? c=some o:=fun c o hc q=>by
      have hc':¬ (c=z∨c=ti∨c=to∨c=i1∨c=i2):=by simpa using hc
      exact sb.extBut c o (fun e=>hc' (.inl e)) (gk c o (fun e=>hc' (.inl e)) (fun e=>hc' (.inr (.inr (.inl e)))) (fun e=>hc' (.inr (.inr (.inr (.inl e))))) (fun e=>hc' (.inr (.inr (.inr (.inr e))))) q)
    have I1:=qh6 (g:=g') (tk:=s.toks) (xs:=[x,y]) (its:=[u,v]) I hf kept (sz (by simp)) (.cons ru (.cons rw2 .nil)) (sb.extBut _ _ (Nat.ne_of_gt lz) g5)
    refine ⟨.ref s.heap.objs.size,_,I1,rfl,⟨_,x,y,I.hok.fresh (Nat.le_refl _),rfl,rfl,fun zs hz=>by rw [I.list_inj hz hq];exact hx,fun zs hz=>by rw [I.tuple_inj hz hq2];exact hy⟩,⟨z1,?_,⟨u,v,sb.extBut _ _ D.TOz g2⟩,g3.at fun o q=>sb.extBut i1 o D.i1z q,g4.at fun o q=>sb.extBut i2 o D.i2z q⟩,fun c hc=>?_⟩
    · exact sb.extBut _ _ D.TIz (gk _ _ D.TIz D.TITO D.TIi1 D.TIi2 s2)
    · rw [qav]
      · exact (hf c hc).1
      · have hc':c=z∨c=ti∨c=to∨c=i1∨c=i2:=by simpa using hc
        obtain ⟨o4,s4,_⟩:=s4
        obtain ⟨o5,s5,_⟩:=s5
        rcases hc' with rfl | rfl | rfl | rfl | rfl
        · exact Nat.ne_of_lt lz
        · exact Nat.ne_of_lt (Heap.lt_size s2)
        · exact Nat.ne_of_lt (Heap.lt_size s3)
        · exact Nat.ne_of_lt (Heap.lt_size s4)
        · exact Nat.ne_of_lt (Heap.lt_size s5)
  done:=by
    intro X hP hw hK hc i pins s σ H E I hf st hg
    subst hP hw hK
    obtain ⟨xs,ys,hq,hq2,hx⟩:=hg
    obtain ⟨s1,s2,⟨u0,v0,s3⟩,s4,s5⟩:=st
    obtain ⟨its,rv,p1,_⟩:=I.list hq
    obtain ⟨jts,_,p2,_⟩:=I.tuple hq2
    have hl:=rv.length
    refine qj9 (I.ok.hd hc) D s1 s2 s3 s4 s5 p1.isList p2 (.inl (by simp;omega)) fun g gk=>⟨rfl,qh5 (tk:=s.toks) I hf fun c o hc q=>?_⟩
    have hc':¬ (c=z∨c=ti∨c=to∨c=i1∨c=i2):=by simpa using hc
    exact gk c o (fun e=>hc' (.inl e)) (fun e=>hc' (.inr (.inr (.inl e)))) (fun e=>hc' (.inr (.inr (.inr (.inl e))))) (fun e=>hc' (.inr (.inr (.inr (.inr e))))) q
  self:=fun _ _ _ _ _ st h=>wpAny_pyIter_zip st.1 h
section
variable {X:Cx} {elts:List Expr} {k:Nat} {tpos:Pos} {a b:Expr} {ta:TA} {p pos:Pos}
theorem qn1 (hg:Gl X "zip") (hm:X.mg "zip" = none) (ha:PA X [a,b] ta) (hs:starEach [a,b] X.env=(false,eval a X.env)::starEach [b] X.env:=by rfl) (hpl:(backTo pos (starEach [b] X.env)).any (·.1)=false:=by rfl):PI X (.Tuple elts k tpos) (.Call (.Name "zip" p) [a,b] [] pos) (qn0 X.K ta):=by
  intro pins s σ H R I h
  refine Call_ (qec I hg hm qm8 (PyProof.Rows.callWith_type1 (thn (ha pos pins s σ H _ I h) fun us s1 ⟨vs,H1,I1,r1,q1⟩=>?_) hs hpl))
  obtain ⟨l1,l2,rfl,⟨xs,hq⟩,q1⟩:=q1
  obtain ⟨u,v,rfl,ru,rv⟩:=vals2 r1
  cases ru
  cases rv
  obtain ⟨its,_,p1,_⟩:=I1.list hq
  have n1:@LT.lt Nat _ l1 s1.heap.objs.size:=p1.lt
  have fo:∀ c,c∈[s1.heap.objs.size+4,s1.heap.objs.size+2,s1.heap.objs.size+3,s1.heap.objs.size,s1.heap.objs.size+1]→qis X pins H1 c:=fun c hc=>by
    have hc':s1.heap.objs.size≤c:=by
      have z:c=s1.heap.objs.size+4∨c=s1.heap.objs.size+2∨c=s1.heap.objs.size+3∨c=s1.heap.objs.size∨c=s1.heap.objs.size+1:=by simpa using hc
      rcases z with z | z | z | z | z <;> rw [z] <;> first | exact Nat.le_add_right _ _ | exact Nat.le_refl _
    exact I1.fpOk hc' (I1.hok.fresh hc')
  have DD:@LT.lt Nat _ l2 s1.heap.objs.size→ZipApart (s1.heap.objs.size+4) (s1.heap.objs.size+2) (s1.heap.objs.size+3) s1.heap.objs.size (s1.heap.objs.size+1) l1 l2:=fun n2=>by
    constructor <;> (show (_:Nat)≠_;omega)
  rcases q1 with ⟨⟨ys,hq2⟩,q⟩ | ⟨⟨ys,hq2⟩,q⟩
  · obtain ⟨jts,_,p2,_⟩:=I1.list hq2
    refine call_zip_2 p1.isList p2.isList fun g z1 z2 z3 z4 z5 _ gk=>?_
    exact wpAny_pyIter_zip z1 ⟨_,[s1.heap.objs.size+4,s1.heap.objs.size+2,s1.heap.objs.size+3,s1.heap.objs.size,s1.heap.objs.size+1],_,_,H1,rfl,I1.kept (t':=s1.toks) gk,qjb (DD p2.lt),⟨z1,z2,⟨_,_,z3⟩,z4,z5⟩,fo,q⟩
  · obtain ⟨jts,_,p2,_⟩:=I1.tuple hq2
    refine qlf p1.isList p2 fun g z1 z2 z3 z4 z5 _ gk=>?_
    exact wpAny_pyIter_zip z1 ⟨_,[s1.heap.objs.size+4,s1.heap.objs.size+2,s1.heap.objs.size+3,s1.heap.objs.size,s1.heap.objs.size+1],_,_,H1,rfl,I1.kept (t':=s1.toks) gk,qlg (DD p2.lt),⟨z1,z2,⟨_,_,z3⟩,z4,z5⟩,fo,q⟩
theorem qlh:∀ (n:Nat) (us:List Value),us.length=n→(∀ (i:Nat) v,us[i]?=some v→∃ t,v=.int (i:Int) t)→Vals ((List.range n).map fun i:Nat=>V.int (i:Int)) us:=fun n us hl h=>by
  induction n generalizing us with
  | zero=>cases List.length_eq_zero_iff.mp hl;exact .nil
  | succ n ih=>
    have e:us=us.take n++[us[n]]:=by rw [List.take_append_getElem];exact (List.take_of_length_le (by omega)).symm
    rw [e,List.range_succ,List.map_append]
    refine Vals.append (ih _ (by rw [List.length_take];omega) fun i v hv=>h i v ?_) (.cons (h n _ (List.getElem?_eq_getElem (by omega))) .nil)
    have:i<(us.take n).length:=Classical.byContradiction fun z=>by rw [List.getElem?_eq_none (by omega)] at hv;cases hv
    rw [List.length_take] at this
    rw [List.getElem?_take,if_pos (by omega)] at hv
    exact hv
theorem qmA {a:Expr} {p' pos':Pos} (hg:Gl X "list") (hm:X.mg "list" = none) (hg':Gl X "range") (hm':X.mg "range" = none) (hc:X.calm=true) (ha:PA X [a] ta) (hs:starEach [a] X.env=[(false,eval a X.env)]:=by rfl)
    (hs2:starEach [.Call (.Name "range" p') [a] [] pos'] X.env=[(false,eval (.Call (.Name "range" p') [a] [] pos') X.env)]:=by rfl):PE X (.Call (.Name "list" p) [.Call (.Name "range" p') [a] [] pos'] [] pos) (qle ta):=by
  intro pins s σ H Q I h
  refine wpAny_Call_Name_kw (qec I hg hm qhk ?_ (by decide) (by decide))
  refine PyProof.Rows.callWith_type1 (rest:=[]) ?_ hs2 rfl
  rw [hs2]
  refine Calls.spliced_cons (Call_ (qec I hg' hm' boot_range (PyProof.Rows.callWith_type1 (thn (ha pos' pins s σ H _ I h) fun us s1 ⟨vs,H1,I1,r1,q1⟩=>?_) hs rfl)))
  obtain ⟨n,rfl,n1,q⟩:=q1
  obtain ⟨u,rfl,ru⟩:=qgk r1
  obtain ⟨t,rfl⟩:=ru
  refine call_range_1 (Calls.spliced_nil ?_)
  have I2:Inv X pins σ H1 { s1 with heap:=s1.heap.push { cls:=.type "range", data:=.fields #[.int 0 s1.toks,.int (n:Int) t,.int 1 (s1.toks+1)] },toks:=s1.toks+1+1 }:=I1.kept fun b o e=>Heap.get?_push_of_some _ e
  have n0:(n:Int)<2 ^ 62:=by have:(n:Int)≤1000:=by omega
                             omega
  refine call_list_range (n:=n) (I.ok.hd hc) (IsRange.new ..) (small_one (by omega) (by omega) (by omega) n0) (by rw [rangeSize_one];split <;> omega) (by omega) fun h' tk acc c hk hD hI=>?_
  refine ⟨.ref _,_,I2.laid (o:=.lst ((List.range n).map fun i:Nat=>V.int (i:Int))) (t':=tk) hk (Nat.le_refl _) ⟨?_,acc.toList,c,qlh n acc.toList (by rw [Array.length_toList];exact hI.1) fun i v hv=>?_,?_⟩,rfl,q _ (I2.hok.fresh (Nat.le_refl _))⟩
  · rw [List.length_map,List.length_range];exact sz (by omega)
  · rw [Array.getElem?_toList] at hv
    obtain ⟨t,e⟩:=hI.2 i v hv
    exact ⟨t,by rw [e];congr 1;omega⟩
  · rw [Array.toArray_toList];exact hD
end
end Bs
namespace Bs
open PySem PySem.Spec PyProof.Rows L2
structure Mak (P:Program) (w:World) (K:W.Frag) (mg:Str→Option Value) (base:Heap) (n:Nat) (x:Str) (C:Addr) (ps:List Str) (sp:Sp):Prop where
  ex:∃ (f:Addr) (fd:FuncData),Mk K C f∧FnOk P w K mg base CX0 n f fd ps sp∧Binds K fd ps []∧mg x=some (.ref C)
theorem Mak.pe {X:Cx} {n m:Nat} {x:Str} {C:Addr} {ps:List Str} {sp:Sp} {e:Expr} {es:List Expr} {t:TA} {p pos:Pos} (M:Mak X.prog X.w X.K X.mg X.base n x C ps sp) (hr:Room m X.A) (hn:n+1≤m) (hg:Gl X x) (ha:PA X (e::es) t)
    (hdb:(x == ("__debug__" : Str))=false:=by decide) (he:starEach (e::es) X.env=(false,eval e X.env)::starEach es X.env:=by rfl) (hpl:(backTo pos (starEach es X.env)).any (·.1)=false:=by rfl) :
    PE X (.Call (.Name x p) (e::es) [] pos) (qjW C sp [] E0 t):=by
  obtain ⟨f,fd,k,F,b,m⟩:=M.ex
  exact qnG k F (hr.mono hn) hg m b .nil qoJ ha hdb he hpl
end Bs
namespace Bs
open PySem L2
noncomputable def qna:List V→Hp→VK→Prop:=fun xs H Q=>∃ p ys,xs=[.ref p]∧(H p=some (.lst ys)∨H p=some (.tup ys))∧∀ l,H l=none→Q (.ref l) (upd H l (.lst ys))
noncomputable def qpM (H:Hp):List V→List PySem.W.Dat→Prop
  | [],[]=>True
  | x::xs,d::ds=>(RepD H x d∨∃ s,x=.str s∧d=.str s)∧qpM H xs ds
  | _,_=>False
noncomputable def qpN (H:Hp) (x:V) (d:PySem.W.Dat):Prop:=∃ (a:Addr) (xs:List V) (ds:List PySem.W.Dat),x=.ref a∧H a=some (.tup xs)∧d=.tuple ds∧qpM H xs ds
noncomputable def qp6:R2:=fun x y H Q=>∃ (d e:PySem.W.Dat) (b:Bool),qpN H x d∧qpN H y e∧PySem.W.kqdOk 8 d=true∧PySem.W.kqdOk 8 e=true∧(b=true↔d=e)∧Q (.bl b) H
end Bs
namespace Bs
open PySem PySem.Spec PyProof.Rows L2
section
variable {X:Cx} {pins:List (Addr×Obj)} {σ:L2.St} {H:Hp} {s:Shared}
theorem qkb:qcC X (.type "list") qna:=fun pins s σ H xs us Q I r h=>by
  obtain ⟨p,ys,e,hp,q⟩:=h
  exact qfc pins s σ H xs us Q I r ⟨p,ys,e,hp.imp SqL.of SqT.of,q⟩
theorem qli (I:Inv X pins σ H s):∀ {xs:List V} {ds:List PySem.W.Dat} {us:List Value},qpM H xs ds→Vals xs us→∃ as,ReadsAll s.heap us (PySem.W.kqdPs ds) as
  | [],[],_,_,.nil=>by rw [PySem.W.kqdPs];exact ⟨_,ReadsAll.nil⟩
  | x::_,d::_,_,h,.cons e es=>by
    obtain ⟨as,q⟩:∃ as,Reads s.heap _ (PySem.W.kqdP d) as:=by
      rcases h.1 with z | ⟨x,rfl,rfl⟩
      · exact qfS I z e
      · obtain ⟨t,rfl⟩:=e
        rw [PySem.W.kqdP]
        exact ⟨_,Reads.str x t⟩
    obtain ⟨bs,q2⟩:=qli I h.2 es
    rw [PySem.W.kqdPs]
    exact ⟨_,ReadsAll.cons q q2⟩
theorem qlj (I:Inv X pins σ H s) {x:V} {d:PySem.W.Dat} {u:Value} (h:qpN H x d) (e:RelV x u):∃ as,Reads s.heap u (PySem.W.kqdP d) as:=by
  obtain ⟨a,xs,ds,rfl,ha,rfl,h⟩:=h
  cases e
  obtain ⟨its,rv,p,_⟩:=I.tuple (SqT.of ha)
  obtain ⟨as,q⟩:=qli I h rv
  obtain ⟨o,ho,hc,n,hd⟩:=p
  rw [PySem.W.kqdP]
  exact ⟨as,reads_tuple_at ho hc hd (by simpa using q)⟩
theorem qn2 (hu:X.A.units+64<cLine):OpR X (compareOp .Eq) qp6:=by
  intro pins s σ H x y v u Q I rx ry h
  obtain ⟨d,e,b,r1,r2,k1,k2,hb,q⟩:=h
  obtain ⟨as,q1⟩:=qlj I r1 rx
  obtain ⟨bs,q2⟩:=qlj I r2 ry
  exact eq_dataH q1 q2 (qh3 k1) (qh3 k2) hu (by rw [qoP k1 k2 hb];exact ⟨.bl b,H,I,rfl,q⟩)
end
end Bs
namespace Bs
theorem Bd.one:Bd 1 1:=by unfold Bd;decide
end Bs
namespace Bs
noncomputable abbrev Nu:=Int×Int
noncomputable def red (n m:Int):Nu:=(n / ((Int.gcd n m:Nat):Int),m / ((Int.gcd n m:Nat):Int))
noncomputable def nadd (q r:Nu):Nu:=red (q.1*r.2+r.1*q.2) (q.2*r.2)
noncomputable def nmul (q r:Nu):Nu:=red (q.1*r.1) (q.2*r.2)
noncomputable def Wo (q:Nu) (n m:Int):Prop:=q.1*m=n*q.2
theorem qeX {n m:Int} (hm:0<m):Low (red n m).1 (red n m).2:=(qd2 (a:=n) hm).1
theorem qlk {n m:Int} (hm:0<m):Wo (red n m) n m:=by
  have h:=(qeV (a:=n) (b:=m) (s:=((Int.gcd n m:Nat):Int)) (by omega) (by rw [if_neg (by omega)])).2.2.2.1
  rw [Int.fdiv_eq_ediv_of_nonneg _ (by omega),Int.fdiv_eq_ediv_of_nonneg _ (by omega)] at h
  exact h
theorem qgI {a b d:Int} (h:Low a b) (hd:b∣a*d):b∣d:=by
  have c:Nat.Coprime b.natAbs a.natAbs:=by
    have:Nat.Coprime a.natAbs b.natAbs:=h.one
    exact this.symm
  have z:=Int.natAbs_dvd_natAbs.mpr hd
  rw [Int.natAbs_mul] at z
  exact Int.natAbs_dvd_natAbs.mp (c.dvd_of_dvd_mul_left z)
theorem qgJ {a b c d:Int} (h1:Low a b) (h2:Low c d) (h:a*d=c*b):a=c∧b=d:=by
  have d1:b∣d:=qgI h1 ⟨c,by rw [h,Int.mul_comm]⟩
  have d2:d∣b:=qgI h2 ⟨a,by rw [← h,Int.mul_comm]⟩
  have e:b=d:=Int.dvd_antisymm (Int.le_of_lt h1.pos) (Int.le_of_lt h2.pos) d1 d2
  subst e
  exact ⟨Int.eq_of_mul_eq_mul_right (Int.ne_of_gt h1.pos) h,rfl⟩
theorem qll {q r:Nu} {n m:Int} (h1:Low q.1 q.2) (h2:Low r.1 r.2) (hm:m≠0) (w1:Wo q n m) (w2:Wo r n m):q=r:=by
  unfold Wo at w1 w2
  have e:q.1*r.2=r.1*q.2:=by
    have z:m*(q.1*r.2)=m*(r.1*q.2):=by grind
    exact Int.eq_of_mul_eq_mul_left hm z
  obtain ⟨a,b⟩:=qgJ h1 h2 e
  exact Prod.ext a b
theorem qpO {q:Nu} {n m:Int} (h1:Low q.1 q.2) (hm:0<m) (w:Wo q n m):q.1.natAbs≤n.natAbs∧q.2.natAbs≤m.natAbs:=by
  have e:q=red n m:=qll h1 (qeX hm) (Int.ne_of_gt hm) w (qlk hm)
  subst e
  exact ⟨(qd2 (a:=n) hm).2.1,(qd2 (a:=n) hm).2.2.1⟩
noncomputable def qgK (l:List Nu):Prop:=∀ q∈l,Low q.1 q.2
noncomputable def qpP (n:Nat) (l:List Nu):Prop:=∀ q∈l,Bd n q.1∧Bd n q.2
end Bs
namespace Bs
noncomputable def qea (l:List Nu):Int:=l.foldl (fun B q=>B*(q.2 / ((Int.gcd B q.2:Nat):Int))) 1
noncomputable def qdP (l:List Nu):List Int:=l.map fun q=>q.1*(qea l / q.2)
theorem qhr {B d:Int} (hB:0<B) (hd:0<d):0<B*(d / ((Int.gcd B d:Nat):Int))∧B∣B*(d / ((Int.gcd B d:Nat):Int))∧d∣B*(d / ((Int.gcd B d:Nat):Int))∧(d / ((Int.gcd B d:Nat):Int)).natAbs≤d.natAbs∧0<((Int.gcd B d:Nat):Int)∧((Int.gcd B d:Nat):Int)≤d:=by
  have g0:0<Int.gcd B d:=Int.gcd_pos_of_ne_zero_right B (by omega)
  obtain ⟨k,hk⟩:((Int.gcd B d:Nat):Int)∣d:=Int.gcd_dvd_right B d
  obtain ⟨m,hm⟩:((Int.gcd B d:Nat):Int)∣B:=Int.gcd_dvd_left B d
  have gp:(0:Int)<((Int.gcd B d:Nat):Int):=by omega
  have e:d / ((Int.gcd B d:Nat):Int)=k:=by
    have z:d / ((Int.gcd B d:Nat):Int)=(((Int.gcd B d:Nat):Int)*k) / ((Int.gcd B d:Nat):Int):=by rw [← hk]
    rw [z,Int.mul_ediv_cancel_left _ (Int.ne_of_gt gp)]
  have kp:0<k:=by
    rcases Int.lt_or_le 0 k with h | h
    · exact h
    · exfalso
      have:=Int.mul_nonneg (Int.le_of_lt gp) (show 0≤-k by omega)
      rw [Int.mul_neg] at this
      omega
  have le:((Int.gcd B d:Nat):Int)≤d:=Int.le_of_dvd hd (Int.gcd_dvd_right B d)
  refine ⟨by rw [e];exact Int.mul_pos hB kp,Int.dvd_mul_right ..,?_,?_,gp,le⟩
  · rw [e]
    refine ⟨m,?_⟩
    have z:d*m=((Int.gcd B d:Nat):Int)*k*m:=by rw [← hk]
    have z2:B*k=((Int.gcd B d:Nat):Int)*m*k:=by rw [← hm]
    rw [z,z2];grind
  · rw [e]
    have z:d.natAbs=(Int.gcd B d)*k.natAbs:=by
      have:d.natAbs=(((Int.gcd B d:Nat):Int)*k).natAbs:=by rw [← hk]
      rw [this,Int.natAbs_mul];simp
    rw [z]
    exact Nat.le_mul_of_pos_left _ g0
theorem qh8 {b:Nat}:∀ (l:List Nu) (B:Int) (c:Nat),(∀ q∈l,0<q.2∧Bd b q.2)→0<B→Bd c B→
    0<l.foldl (fun B q=>B*(q.2 / ((Int.gcd B q.2:Nat):Int))) B∧B∣l.foldl (fun B q=>B*(q.2 / ((Int.gcd B q.2:Nat):Int))) B∧(∀ q∈l,q.2∣l.foldl (fun B q=>B*(q.2 / ((Int.gcd B q.2:Nat):Int))) B)∧Bd (c+b*l.length) (l.foldl (fun B q=>B*(q.2 / ((Int.gcd B q.2:Nat):Int))) B)
  | [],B,c,_,hB,bB=>⟨hB,Int.dvd_refl B,(fun _ h=>nomatch h),by simpa using bB⟩
  | q::l,B,c,h,hB,bB=>by
    obtain ⟨q0,qb⟩:=h q (List.mem_cons_self ..)
    obtain ⟨s1,s2,s3,s4,_,_⟩:=qhr hB q0
    obtain ⟨r1,r2,r3,r4⟩:=qh8 l (B*(q.2 / ((Int.gcd B q.2:Nat):Int))) (c+b) (fun r hr=>h r (List.mem_cons_of_mem _ hr)) s1 (bB.mul (qb.le s4))
    rw [List.foldl_cons]
    refine ⟨r1,Int.dvd_trans s2 r2,fun r hr=>?_,r4.mono (by rw [List.length_cons,Nat.mul_add,Nat.mul_one];omega)⟩
    rcases List.mem_cons.mp hr with rfl | hr
    · exact Int.dvd_trans s3 r2
    · exact r3 r hr
theorem qn3 {b:Nat} {l:List Nu} (h1:qgK l) (h2:qpP b l):0<qea l∧(∀ q∈l,q.2∣qea l)∧Bd (1+b*l.length) (qea l):=by
  obtain ⟨r1,_,r3,r4⟩:=qh8 (b:=b) l 1 1 (fun q hq=>⟨(h1 q hq).pos,(h2 q hq).2⟩) (by decide) Bd.one
  exact ⟨r1,r3,r4⟩
theorem qcF {B d:Int} (hB:0<B) (hd:0<d):(B / d).natAbs≤B.natAbs:=by
  have h1:0≤B / d:=Int.ediv_nonneg (Int.le_of_lt hB) (Int.le_of_lt hd)
  have h2:B / d≤B:=Int.ediv_le_self d (Int.le_of_lt hB)
  omega
noncomputable def ps (ns ms:List Int):Nat→Nat→Int
  | 0,_=>0
  | i+1,k=>ps ns ms i k+(if i≤k∧k - i<ms.length then ns.getD i 0*ms.getD (k - i) 0 else 0)
theorem qfV (c:Nat):Bd c 0:=Nat.pow_pos (by decide)
end Bs
namespace Bs
noncomputable def val (q:Nu):Rat:=(q.1:Rat) / (q.2:Rat)
theorem qaY {z:Int} (h:z≠0):(z:Rat)≠0:=by exact_mod_cast h
theorem qh9 {q:Nu} {n m:Int} (hq:q.2≠0) (hm:m≠0) (w:Wo q n m):val q=(n:Rat) / (m:Rat):=by
  have h1:=qaY hq
  have h2:=qaY hm
  have w':(q.1:Rat)*m=n*q.2:=by unfold Wo at w;exact_mod_cast w
  unfold val
  grind
theorem qlm {q r:Nu} (h1:Low q.1 q.2) (h2:Low r.1 r.2) (h:val q=val r):q=r:=by
  have a:=qaY (Int.ne_of_gt h1.pos)
  have b:=qaY (Int.ne_of_gt h2.pos)
  unfold val at h
  have z:(q.1:Rat)*r.2=r.1*q.2:=by grind
  have z':q.1*r.2=r.1*q.2:=by exact_mod_cast z
  obtain ⟨x,y⟩:=qgJ h1 h2 z'
  exact Prod.ext x y
theorem qhs {n m:Int} (hm:0<m):val (red n m)=(n:Rat) / (m:Rat):=qh9 (Int.ne_of_gt (qeX hm).pos) (Int.ne_of_gt hm) (qlk hm)
theorem qji {q r:Nu} (h1:0<q.2) (h2:0<r.2):val (nadd q r)=val q+val r:=by
  unfold nadd
  rw [qhs (Int.mul_pos h1 h2)]
  have a:=qaY (Int.ne_of_gt h1)
  have b:=qaY (Int.ne_of_gt h2)
  unfold val
  push_cast
  grind
theorem qht {q r:Nu} (h1:0<q.2) (h2:0<r.2):val (nmul q r)=val q*val r:=by
  unfold nmul
  rw [qhs (Int.mul_pos h1 h2)]
  have a:=qaY (Int.ne_of_gt h1)
  have b:=qaY (Int.ne_of_gt h2)
  unfold val
  push_cast
  grind
noncomputable def qbQ (n m:Int):Nu:=if m<0 then red (-n) (-m) else red n m
theorem qej {n m:Int} (hm:m≠0):Low (qbQ n m).1 (qbQ n m).2:=by
  unfold qbQ
  split
  · exact qeX (by omega)
  · exact qeX (by omega)
theorem qfB {n m:Int} (hm:m≠0):val (qbQ n m)=(n:Rat) / (m:Rat):=by
  unfold qbQ
  split
  · rw [qhs (by omega)]
    have:=qaY hm
    push_cast
    grind
  · exact qhs (by omega)
theorem qiH {c d:Nat} {n m:Int} (hm:m≠0) (h1:Bd c n) (h2:Bd d m):Bd c (qbQ n m).1∧Bd d (qbQ n m).2:=by
  have aux:∀ {n m:Int},0<m→Bd c n→Bd d m→Bd c (red n m).1∧Bd d (red n m).2:=fun {n m} h0 h1 h2=>by
    have w:=qpO (qeX h0) h0 (qlk (n:=n) h0)
    exact ⟨h1.le w.1,h2.le w.2⟩
  unfold qbQ
  split
  · exact aux (by omega) h1.neg h2.neg
  · exact aux (by omega) h1 h2
noncomputable def Ov (l:List Nu) (M:Int):Prop:=0<M∧∀ q∈l,q.2∣M
theorem lcm_dvd {B d M:Int} (hB:0<B) (hd:0<d) (h1:B∣M) (h2:d∣M):B*(d / ((Int.gcd B d:Nat):Int))∣M:=by
  have z:((Nat.lcm B.natAbs d.natAbs:Nat):Int)∣M:=Int.natAbs_dvd_natAbs.mp (by rw [Int.natAbs_natCast];exact Nat.lcm_dvd (Int.natAbs_dvd_natAbs.mpr h1) (Int.natAbs_dvd_natAbs.mpr h2))
  have e:((Nat.lcm B.natAbs d.natAbs:Nat):Int)=B*(d / ((Int.gcd B d:Nat):Int)):=by
    unfold Nat.lcm
    rw [Nat.mul_div_assoc _ (Nat.gcd_dvd_right _ _)]
    push_cast
    rw [show ((B.natAbs:Nat):Int)=B by omega,show ((d.natAbs:Nat):Int)=d by omega]
    rfl
  rw [← e]
  exact z
theorem qhu {M:Int}:∀ (l:List Nu) (B:Int),(∀ q∈l,0<q.2∧q.2∣M)→0<B→B∣M→0<l.foldl (fun B q=>B*(q.2 / ((Int.gcd B q.2:Nat):Int))) B∧l.foldl (fun B q=>B*(q.2 / ((Int.gcd B q.2:Nat):Int))) B∣M
  | [],B,_,hB,h=>⟨hB,h⟩
  | q::l,B,hq,hB,h=>by
    obtain ⟨q0,qd⟩:=hq q (List.mem_cons_self ..)
    obtain ⟨s1,_⟩:=qhr hB q0
    exact qhu l _ (fun r hr=>hq r (List.mem_cons_of_mem _ hr)) s1 (lcm_dvd hB q0 h qd)
theorem qjj {n:Nat} {a b:Int} (hb:b≠0) (h:a∣b) (bd:Bd n b):Bd n a:=bd.le (Nat.le_of_dvd (by omega) (Int.natAbs_dvd_natAbs.mpr h))
theorem qfW {l:List Nu} (hl:qgK l):Ov l (qea l):=by
  obtain ⟨a,b,_⟩:=qn3 (b:=(l.foldl (fun n q=>n+q.1.natAbs+q.2.natAbs) 1)) hl (fun q hq=>by
    have big:∀ (l:List Nu) (n:Nat),n≤l.foldl (fun n q=>n+q.1.natAbs+q.2.natAbs) n∧∀ q∈l,q.1.natAbs+q.2.natAbs≤l.foldl (fun n q=>n+q.1.natAbs+q.2.natAbs) n:=by
      intro l
      induction l with
      | nil=>intro n;exact ⟨Nat.le_refl _,fun _ h=>nomatch h⟩
      | cons r l ih=>
        intro n
        obtain ⟨i1,i2⟩:=ih (n+r.1.natAbs+r.2.natAbs)
        rw [List.foldl_cons]
        refine ⟨by omega,fun q hq=>?_⟩
        rcases List.mem_cons.mp hq with rfl | hq
        · omega
        · exact i2 q hq
    have z:=(big l 1).2 q hq
    exact ⟨Nat.lt_of_le_of_lt (by omega) (Nat.lt_two_pow_self),Nat.lt_of_le_of_lt (by omega) (Nat.lt_two_pow_self)⟩)
  exact ⟨a,b⟩
theorem qjk {l:List Nu} {M:Int} (hl:qgK l) (h:Ov l M):qea l∣M:=(qhu l 1 (fun q hq=>⟨(hl q hq).pos,h.2 q hq⟩) (by decide) (Int.one_dvd M)).2
end Bs
namespace Bs
section
variable {α:Type} [Lean.Grind.CommRing α]
noncomputable def cvL:List α→(Nat→α)→Nat→α
  | [],_,_=>0
  | x::a,b,k=>x*b k+(match k with | 0=>0 | k+1=>cvL a b k)
end
end Bs
namespace Bs
theorem qiI {n k:Nat}:k∣2 ^ n↔∃ a,a≤n∧k=2 ^ a:=by
  constructor
  · induction n generalizing k with
    | zero=>intro h;exact ⟨0,Nat.le_refl 0,by simpa using h⟩
    | succ n ih=>
      intro h
      by_cases h2:2∣k
      · obtain ⟨j,rfl⟩:=h2
        rw [Nat.pow_succ,Nat.mul_comm (2 ^ n) 2] at h
        obtain ⟨a,ha,e⟩:=ih (Nat.dvd_of_mul_dvd_mul_left (by decide) h)
        exact ⟨a+1,by omega,by rw [e,Nat.pow_succ,Nat.mul_comm]⟩
      · have c:Nat.Coprime k 2:=by
          have:Nat.gcd k 2∣2:=Nat.gcd_dvd_right k 2
          have h3:=Nat.le_of_dvd (by decide) this
          have h4:Nat.gcd k 2≠2:=fun z=>h2 (by rw [← z];exact Nat.gcd_dvd_left k 2)
          have h5:Nat.gcd k 2≠0:=fun z=>by have:=Nat.eq_zero_of_gcd_eq_zero_right z;omega
          show Nat.gcd k 2=1
          omega
        rw [Nat.pow_succ] at h
        obtain ⟨a,ha,e⟩:=ih (c.dvd_of_dvd_mul_right h)
        exact ⟨a,by omega,e⟩
  · rintro ⟨a,ha,rfl⟩
    exact Nat.pow_dvd_pow 2 ha
structure Pr (p:Nat):Prop where
  two:2≤p
  div:∀ d,d∣p→d=1∨d=p
theorem Pr.cop {p:Nat} (h:Pr p) {a:Nat} (ha:¬ p∣a):Nat.gcd a p=1:=by
  rcases h.div _ (Nat.gcd_dvd_right a p) with e | e
  · exact e
  · exact absurd (e ▸ Nat.gcd_dvd_left a p) ha
theorem Pr.mul {p:Nat} (h:Pr p) {a b:Nat} (hd:p∣a*b):p∣a∨p∣b:=by
  by_cases ha:p∣a
  · exact .inl ha
  · refine .inr (Nat.Coprime.dvd_of_dvd_mul_left (k:=p) (m:=a) ?_ hd)
    have:=h.cop ha
    rw [Nat.gcd_comm] at this
    exact this
theorem Pr.mulI {p:Nat} (h:Pr p) {a b:Int} (hd:(p:Int)∣a*b):(p:Int)∣a∨(p:Int)∣b:=by
  have z:=Int.natAbs_dvd_natAbs.mpr hd
  rw [Int.natAbs_mul,Int.natAbs_natCast] at z
  rcases h.mul z with e | e
  · exact .inl (Int.natAbs_dvd_natAbs.mp (by rw [Int.natAbs_natCast];exact e))
  · exact .inr (Int.natAbs_dvd_natAbs.mp (by rw [Int.natAbs_natCast];exact e))
theorem qln {m:Nat} (hm:2≤m):∃ q,Pr q∧q∣m∧(q=m∨q*q≤m):=by
  have key:∀ n d,2≤d→(∀ e,2≤e→e<d→¬ e∣m)→m=d+n→∃ q,2≤q∧q∣m∧∀ e,2≤e→e<q→¬ e∣m:=by
    intro n
    induction n with
    | zero=>intro d hd h e;exact ⟨d,hd,by rw [e];exact Nat.dvd_refl _,h⟩
    | succ n ih=>
      intro d hd h e
      by_cases hdm:d∣m
      · exact ⟨d,hd,hdm,h⟩
      · refine ih (d+1) (by omega) (fun x hx hx2=>?_) (by omega)
        by_cases hxd:x=d
        · rw [hxd];exact hdm
        · exact h x hx (by omega)
  obtain ⟨q,q2,qm,ql⟩:=key (m - 2) 2 (Nat.le_refl 2) (fun e h1 h2=>absurd h2 (by omega)) (by omega)
  refine ⟨q,⟨q2,fun d hd=>?_⟩,qm,?_⟩
  · by_cases h2:2≤d
    · right
      rcases Nat.lt_or_ge d q with h | h
      · exact absurd (Nat.dvd_trans hd qm) (ql d h2 h)
      · exact Nat.le_antisymm (Nat.le_of_dvd (by omega) hd) h
    · left
      have:d≠0:=fun z=>by rw [z] at hd;have:=Nat.eq_zero_of_zero_dvd hd;omega
      omega
  · obtain ⟨k,hk⟩:=qm
    by_cases k1:k≤1
    · left
      have:k=1:=by
        rcases Nat.eq_zero_or_pos k with z | z
        · rw [z] at hk;omega
        · omega
      rw [hk,this,Nat.mul_one]
    · right
      rcases Nat.lt_or_ge k q with h | h
      · exact absurd ⟨q,by rw [hk,Nat.mul_comm]⟩ (ql k (by omega) h)
      · rw [hk];exact Nat.mul_le_mul_left q h
theorem pigeon:∀ (n m:Nat) (f:Nat→Nat),(∀ i,i<m→f i<n)→(∀ i j,i<m→j<m→f i=f j→i=j)→m≤n
  | 0,m,f,h,_=>by
    rcases Nat.eq_zero_or_pos m with z | z
    · omega
    · exact absurd (h 0 z) (by omega)
  | n+1,0,_,_,_=>by omega
  | n+1,m+1,f,h,inj=>by
    have:=pigeon n m (fun i=>if f i=n then f m else f i) (fun i hi=>by
      show (if f i=n then f m else f i)<n
      by_cases e:f i=n
      · rw [if_pos e]
        have h1:=h m (Nat.lt_succ_self m)
        have:f m≠n:=fun z=>absurd (inj i m (by omega) (by omega) (by rw [e,z])) (by omega)
        omega
      · rw [if_neg e]
        have h1:=h i (by omega)
        omega) (fun i j hi hj e=>by
      have e:(if f i=n then f m else f i)=(if f j=n then f m else f j):=e
      by_cases ei:f i=n
      · rw [if_pos ei] at e
        by_cases ej:f j=n
        · exact inj i j (by omega) (by omega) (by rw [ei,ej])
        · rw [if_neg ej] at e
          exact absurd (inj m j (by omega) (by omega) e) (by omega)
      · rw [if_neg ei] at e
        by_cases ej:f j=n
        · rw [if_pos ej] at e
          exact absurd (inj i m (by omega) (by omega) e) (by omega)
        · rw [if_neg ej] at e
          exact inj i j (by omega) (by omega) e)
    omega
noncomputable abbrev Rt:=Int×Int
noncomputable def rmul (q:Int) (x y:Rt):Rt:=((x.1*y.1+3*(x.2*y.2)) % q,(x.1*y.2+x.2*y.1) % q)
noncomputable def rpow (q:Int):Nat→Rt
  | 0=>(1 % q,0 % q)
  | n+1=>rmul q (2,1) (rpow q n)
theorem qbf {q a b c:Int} (h:a - b=q*c):a % q=b % q:=by
  have:a=b+q*c:=by omega
  rw [this,Int.add_mul_emod_self_left]
theorem em {a q:Int}:∃ c,a % q=a - q*c:=⟨a / q,by have:=Int.emod_add_mul_ediv a q;omega⟩
theorem qb2 (q:Int) (x y z:Rt):rmul q (rmul q x y) z=rmul q x (rmul q y z):=by
  obtain ⟨a,b⟩:=x
  obtain ⟨c,d⟩:=y
  obtain ⟨e,f⟩:=z
  obtain ⟨c1,h1⟩:=em (a:=a*c+3*(b*d)) (q:=q)
  obtain ⟨c2,h2⟩:=em (a:=a*d+b*c) (q:=q)
  obtain ⟨c3,h3⟩:=em (a:=c*e+3*(d*f)) (q:=q)
  obtain ⟨c4,h4⟩:=em (a:=c*f+d*e) (q:=q)
  refine Prod.ext ?_ ?_
  · show ((a*c+3*(b*d)) % q*e+3*((a*d+b*c) % q*f)) % q=(a*((c*e+3*(d*f)) % q)+3*(b*((c*f+d*e) % q))) % q
    rw [h1,h2,h3,h4]
    exact qbf (c:=a*c3+3*b*c4 - c1*e - 3*c2*f) (by grind)
  · show ((a*c+3*(b*d)) % q*f+((a*d+b*c) % q*e)) % q=(a*((c*f+d*e) % q)+(b*((c*e+3*(d*f)) % q))) % q
    rw [h1,h2,h3,h4]
    exact qbf (c:=a*c4+b*c3 - c1*f - c2*e) (by grind)
theorem qlo (q:Int) (x y:Rt):rmul q x y=rmul q y x:=by
  refine Prod.ext ?_ ?_
  · show (x.1*y.1+3*(x.2*y.2)) % q=(y.1*x.1+3*(y.2*x.2)) % q
    congr 1;grind
  · show (x.1*y.2+x.2*y.1) % q=(y.1*x.2+y.2*x.1) % q
    congr 1;grind
noncomputable def rn (q:Int) (x:Rt):Prop:=x.1 % q=x.1∧x.2 % q=x.2
theorem qn4 (q:Int) (x y:Rt):rn q (rmul q x y):=⟨Int.emod_emod ..,Int.emod_emod ..⟩
theorem qd3 (q:Int):∀ n,rn q (rpow q n)
  | 0=>⟨Int.emod_emod ..,Int.emod_emod ..⟩
  | _+1=>qn4 q _ _
theorem rone (q:Int) {x:Rt} (h:rn q x):rmul q (rpow q 0) x=x:=by
  obtain ⟨c1,h1⟩:=em (a:=1) (q:=q)
  obtain ⟨c2,h2⟩:=em (a:=0) (q:=q)
  refine Prod.ext ?_ ?_
  · show (1 % q*x.1+3*(0 % q*x.2)) % q=x.1
    rw [h1,h2,← h.1]
    rw [qbf (b:=x.1 % q) (c:=- c1*(x.1 % q) - 3*c2*x.2) (by grind),Int.emod_emod]
  · show (1 % q*x.2+0 % q*x.1) % q=x.2
    rw [h1,h2,← h.2]
    rw [qbf (b:=x.2 % q) (c:=- c1*(x.2 % q) - c2*x.1) (by grind),Int.emod_emod]
theorem qc1 (q:Int):∀ m n,rpow q (m+n)=rmul q (rpow q m) (rpow q n)
  | 0,n=>by rw [Nat.zero_add,rone q (qd3 q n)]
  | m+1,n=>by
    rw [Nat.succ_add]
    show rmul q (2,1) (rpow q (m+n))=rmul q (rmul q (2,1) (rpow q m)) (rpow q n)
    rw [qc1 q m n,qb2]
noncomputable def rinv (q:Int):Nat→Rt
  | 0=>(1 % q,0 % q)
  | n+1=>rmul q (2,-1) (rinv q n)
theorem r21 (q:Int):rmul q (2,-1) (2,1)=rpow q 0:=by
  refine Prod.ext ?_ ?_
  · show (2*2+3*(-1*1)) % q=1 % q;rfl
  · show (2*1 + -1*2) % q=0 % q;rfl
theorem qjl (q:Int):∀ n,rmul q (rinv q n) (rpow q n)=rpow q 0
  | 0=>rone q (qd3 q 0)
  | n+1=>by
    show rmul q (rmul q (2,-1) (rinv q n)) (rmul q (2,1) (rpow q n))=_
    rw [qb2,← qb2 q (rinv q n),qlo q (rinv q n) (2,1),qb2 q (2,1),qjl q n,← qb2,r21,rone q (qd3 q 0)]
theorem qhv (q:Int) {m:Nat} (h:rpow q m=rpow q 0):∀ k,rpow q (m*k)=rpow q 0
  | 0=>rfl
  | k+1=>by rw [Nat.mul_succ,qc1,qhv q h k,h,rone q (qd3 q 0)]
theorem rord (q:Int) {n:Nat} (h1:rpow q (2 ^ (n+1))=rpow q 0) (h2:rpow q (2 ^ n)≠rpow q 0):∀ d,0<d→d<2 ^ (n+1)→rpow q d≠rpow q 0:=by
  intro d
  induction d using Nat.strongRecOn with
  | _ d ih=>
  intro d0 hd e
  have hr:=Nat.mod_lt (2 ^ (n+1)) d0
  have er:rpow q (2 ^ (n+1) % d)=rpow q 0:=by
    have e1:=Nat.div_add_mod (2 ^ (n+1)) d
    rw [← e1,qc1,qhv q e,rone q (qd3 q _)] at h1
    exact h1
  rcases Nat.eq_zero_or_pos (2 ^ (n+1) % d) with z | z
  · obtain ⟨k,hk⟩:=Nat.dvd_of_mod_eq_zero z
    obtain ⟨a,ha,hka⟩:=(qiI (n:=n+1) (k:=d)).mp ⟨k,hk⟩
    have hlt:a≤n:=by
      rcases Nat.lt_or_ge n a with h | h
      · exfalso
        have:a=n+1:=by omega
        rw [this] at hka
        omega
      · exact h
    apply h2
    have e2:2 ^ n=d*2 ^ (n - a):=by rw [hka,← Nat.pow_add];congr 1;omega
    rw [e2]
    exact qhv q e _
  · exact ih _ hr z (by omega) er
theorem rnorm (q:Int):∀ n,∃ c,(rpow q n).1*(rpow q n).1 - 3*((rpow q n).2*(rpow q n).2) - 1=q*c
  | 0=>by
    obtain ⟨c1,h1⟩:=em (a:=1) (q:=q)
    obtain ⟨c2,h2⟩:=em (a:=0) (q:=q)
    refine ⟨-2*c1+q*c1*c1 - 3*q*c2*c2,?_⟩
    show (1 % q)*(1 % q) - 3*((0 % q)*(0 % q)) - 1=_
    rw [h1,h2];grind
  | n+1=>by
    obtain ⟨c,hc⟩:=rnorm q n
    obtain ⟨c1,h1⟩:=em (a:=2*(rpow q n).1+3*(1*(rpow q n).2)) (q:=q)
    obtain ⟨c2,h2⟩:=em (a:=2*(rpow q n).2+1*(rpow q n).1) (q:=q)
    have e1:(rpow q (n+1)).1=2*(rpow q n).1+3*(1*(rpow q n).2) - q*c1:=h1
    have e2:(rpow q (n+1)).2=2*(rpow q n).2+1*(rpow q n).1 - q*c2:=h2
    rw [e1,e2]
    generalize (rpow q n).1=a at *
    generalize (rpow q n).2=b at *
    exact ⟨c - 2*c1*(2*a+3*b)+q*c1*c1+6*c2*(2*b+a) - 3*q*c2*c2,by grind⟩
theorem qn5 (q:Int) (n:Nat):∃ c,2*(rpow q (n+n)).1=(2*(rpow q n).1)*(2*(rpow q n).1) - 2+q*c:=by
  obtain ⟨c,hc⟩:=rnorm q n
  rw [qc1]
  obtain ⟨c1,h1⟩:=em (a:=(rpow q n).1*(rpow q n).1+3*((rpow q n).2*(rpow q n).2)) (q:=q)
  refine ⟨-2*c1 - 2*c,?_⟩
  show 2*(((rpow q n).1*(rpow q n).1+3*((rpow q n).2*(rpow q n).2)) % q)=_
  rw [h1];grind
noncomputable def ll (M:Nat):Nat→Nat→Nat
  | 0,s=>s
  | k+1,s=>ll M k ((s*s+(M - 2)) % M)
theorem qlp {q:Int} {M:Nat} (hM:2≤M) (hq:q∣(M:Int)):∀ (k t s:Nat),q∣2*(rpow q (2 ^ t)).1 - (s:Int)→q∣2*(rpow q (2 ^ (t+k))).1 - (ll M k s:Int)
  | 0,t,s,h=>h
  | k+1,t,s,h=>by
    have:=qlp hM hq k (t+1) ((s*s+(M - 2)) % M) (by
      obtain ⟨c,hc⟩:=qn5 q (2 ^ t)
      obtain ⟨d,hd⟩:=h
      obtain ⟨m,hm⟩:=hq
      have e:(2:Nat) ^ (t+1)=2 ^ t+2 ^ t:=by rw [Nat.pow_succ];omega
      rw [e,hc]
      have z:(((s*s+(M - 2)) % M:Nat):Int)=(s:Int)*s+(M - 2) - M*(((s*s+(M - 2)) / M:Nat):Int):=by
        have:=Nat.mod_add_div (s*s+(M - 2)) M
        have z2:(((s*s+(M - 2)) % M:Nat):Int)+(M:Int)*(((s*s+(M - 2)) / M:Nat):Int)=(s:Int)*s+(M - 2):=by
          have:=congrArg (fun x:Nat=>(x:Int)) this
          simp only [Int.natCast_add,Int.natCast_mul] at this
          rw [this,Int.natCast_sub hM]
          rfl
        omega
      rw [z]
      generalize (((s*s+(M - 2)) / M:Nat):Int)=w
      generalize (rpow q (2 ^ t)).1=a at hd
      have hd':2*a=s+q*d:=by omega
      rw [hd',hm]
      exact ⟨2*s*d+q*d*d+c - m+m*w,by grind⟩)
    rw [show t+(k+1)=t+1+k by omega]
    exact this
theorem qmB {n:Nat} (h:ll (2 ^ (n+2) - 1) n 4 % (2 ^ (n+2) - 1)=0):Pr (2 ^ (n+2) - 1):=by
  have big:4≤2 ^ (n+2):=by rw [Nat.pow_add];have:=Nat.one_le_two_pow (n:=n);omega
  generalize hM:2 ^ (n+2) - 1=M at h ⊢
  obtain ⟨q,pq,qM,hq⟩:=qln (m:=M) (by omega)
  rcases hq with e | hq
  · rw [← e];exact pq
  exfalso
  have qI:(q:Int)∣(M:Int):=Int.natCast_dvd_natCast.mpr qM
  have q2:=pq.two
  have odd:q≠2:=fun z=>by
    rw [z] at qM
    have:2 ^ (n+2)=2*2 ^ (n+1):=by rw [Nat.pow_succ 2 (n+1)];omega
    omega
  have s0:(q:Int)∣2*(rpow q (2 ^ (0+n))).1 - (ll M n 4:Int):=qlp (by omega) qI n 0 4 (by
    show (q:Int)∣2*(rmul q (2,1) (rpow q 0)).1 - 4
    obtain ⟨c1,h1⟩:=em (a:=1) (q:=(q:Int))
    obtain ⟨c2,h2⟩:=em (a:=0) (q:=(q:Int))
    show (q:Int)∣2*((2*(1 % (q:Int))+3*(1*(0 % (q:Int)))) % (q:Int)) - 4
    obtain ⟨c3,h3⟩:=em (a:=2*(1 % (q:Int))+3*(1*(0 % (q:Int)))) (q:=(q:Int))
    rw [h3,h1,h2]
    exact ⟨-4*c1 - 6*c2 - 2*c3,by grind⟩)
  have s1:(q:Int)∣(ll M n 4:Int):=Int.natCast_dvd_natCast.mpr (Nat.dvd_trans qM (Nat.dvd_of_mod_eq_zero h))
  have s2:(q:Int)∣2*(rpow q (2 ^ n)).1:=by
    have:=Int.dvd_add s0 s1
    rw [Nat.zero_add] at this
    rw [Int.sub_add_cancel] at this
    exact this
  have s3:(q:Int)∣(rpow q (2 ^ n)).1:=by
    rcases pq.mulI s2 with z | z
    · exfalso
      have z2:=Int.natCast_dvd_natCast.mp (show (q:Int)∣((2:Nat):Int) from z)
      have:=Nat.le_of_dvd (by decide) z2
      omega
    · exact z
  have qne:(q:Int)≠0:=by omega
  have m1:rpow q (2 ^ (n+1))=((-1) % (q:Int),0 % (q:Int)):=by
    have e:(2:Nat) ^ (n+1)=2 ^ n+2 ^ n:=by rw [Nat.pow_succ];omega
    rw [e,qc1]
    obtain ⟨c,hc⟩:=rnorm q (2 ^ n)
    obtain ⟨d,hd⟩:=s3
    refine Prod.ext ?_ ?_
    · show ((rpow q (2 ^ n)).1*(rpow q (2 ^ n)).1+3*((rpow q (2 ^ n)).2*(rpow q (2 ^ n)).2)) % (q:Int)=(-1) % (q:Int)
      refine qbf (c:=2*q*d*d - c) ?_
      generalize (rpow q (2 ^ n)).2=b at *
      rw [hd] at hc ⊢
      grind
    · show ((rpow q (2 ^ n)).1*(rpow q (2 ^ n)).2+(rpow q (2 ^ n)).2*(rpow q (2 ^ n)).1) % (q:Int)=0 % (q:Int)
      refine qbf (c:=2*d*(rpow q (2 ^ n)).2) ?_
      rw [hd];grind
  have h2:rpow q (2 ^ (n+1))≠rpow q 0:=fun z=>by
    rw [m1] at z
    have z1:(-1) % (q:Int)=1 % (q:Int):=congrArg Prod.fst z
    have z2:(q:Int)∣-1 - 1:=Int.dvd_of_emod_eq_zero ((Int.emod_eq_emod_iff_emod_sub_eq_zero).mp z1)
    have z3:=Int.natAbs_dvd_natAbs.mpr z2
    have:=Nat.le_of_dvd (by decide) z3
    rw [Int.natAbs_natCast] at this
    have:(-1 - 1:Int).natAbs=2:=by decide
    omega
  have h1:rpow q (2 ^ (n+1+1))=rpow q 0:=by
    have e:(2:Nat) ^ (n+1+1)=2 ^ (n+1)+2 ^ (n+1):=by rw [Nat.pow_succ 2 (n+1)];omega
    rw [e,qc1,m1]
    obtain ⟨c1,e1⟩:=em (a:=-1) (q:=(q:Int))
    obtain ⟨c2,e2⟩:=em (a:=0) (q:=(q:Int))
    refine Prod.ext ?_ ?_
    · show ((-1) % (q:Int)*((-1) % (q:Int))+3*(0 % (q:Int)*(0 % (q:Int)))) % (q:Int)=1 % (q:Int)
      refine qbf (c:=2*c1+q*c1*c1+3*q*c2*c2) ?_
      rw [e1,e2];grind
    · show ((-1) % (q:Int)*(0 % (q:Int))+0 % (q:Int)*((-1) % (q:Int))) % (q:Int)=0 % (q:Int)
      refine qbf (c:=2*c2+2*q*c1*c2) ?_
      rw [e1,e2];grind
  have ord:=rord (q:Int) h1 h2
  have ne:∀ i d,0<d→i+d<2 ^ (n+2)→rpow q i≠rpow q (i+d):=fun i d d0 hd z=>by
    have e:rpow q d=rpow q 0:=by
      have a:=qjl (q:Int) i
      have b:rmul q (rinv q i) (rpow q (i+d))=rpow q d:=by
        rw [qc1,← qb2,a,rone _ (qd3 _ _)]
      rw [← b,← z,a]
    exact ord d d0 (by have:(2:Nat) ^ (n+1+1)=2 ^ (n+2):=rfl;omega) e
  have lt:∀ i,0≤(rpow q i).1∧(rpow q i).1<q∧0≤(rpow q i).2∧(rpow q i).2<q:=fun i=>by
    obtain ⟨a,b⟩:=qd3 (q:Int) i
    have p0:(0:Int)<q:=by omega
    have u1:=Int.emod_nonneg (rpow q i).1 qne
    have u2:=Int.emod_lt_of_pos (rpow q i).1 p0
    have u3:=Int.emod_nonneg (rpow q i).2 qne
    have u4:=Int.emod_lt_of_pos (rpow q i).2 p0
    rw [a] at u1 u2
    rw [b] at u3 u4
    exact ⟨u1,u2,u3,u4⟩
  have pg:=pigeon (q*q) (2 ^ (n+2)) (fun i=>(rpow q i).1.toNat*q+(rpow q i).2.toNat) (fun i _=>by
    obtain ⟨a,b,c,d⟩:=lt i
    have a':(rpow q i).1.toNat+1≤q:=by omega
    have d':(rpow q i).2.toNat<q:=by omega
    have:=Nat.mul_le_mul_right q a'
    rw [Nat.add_mul,Nat.one_mul] at this
    show (rpow q i).1.toNat*q+(rpow q i).2.toNat<q*q
    omega) (fun i j hi hj e=>by
    have e:(rpow q i).1.toNat*q+(rpow q i).2.toNat=(rpow q j).1.toNat*q+(rpow q j).2.toNat:=e
    obtain ⟨a,b,c,d⟩:=lt i
    obtain ⟨a',b',c',d'⟩:=lt j
    have m1:=congrArg (· % q) e
    have m2:=congrArg (· / q) e
    simp only [Nat.mul_comm _ q,Nat.mul_add_mod,Nat.mul_add_div (show 0<q by omega)] at m1 m2
    rw [Nat.mod_eq_of_lt (by omega),Nat.mod_eq_of_lt (by omega)] at m1
    rw [Nat.div_eq_of_lt (by omega),Nat.div_eq_of_lt (by omega)] at m2
    have ee:rpow q i=rpow q j:=Prod.ext (by omega) (by omega)
    rcases Nat.lt_trichotomy i j with h | h | h
    · exact absurd ee (by have:=ne i (j - i) (by omega) (by omega);rw [show i+(j - i)=j by omega] at this;exact this)
    · exact h
    · exact absurd ee.symm (by have:=ne j (i - j) (by omega) (by omega);rw [show j+(i - j)=i by omega] at this;exact this))
  omega
end Bs
namespace Bs
noncomputable def llk (M k s:Nat):Nat:=Nat.rec (motive:=fun _=>Nat→Nat) (fun s=>s) (fun _ ih s=>ih ((s*s+(M - 2)) % M)) k s
noncomputable def llf (x:Nat) (f:Nat→Nat):Nat:=Nat.rec (motive:=fun _=>Nat) (f 0) (fun n _=>f (n+1)) x
noncomputable def llo (M k j s:Nat):Nat:=Nat.rec (motive:=fun _=>Nat→Nat) (fun s=>s) (fun _ ih s=>llf (llk M k s) ih) j s
theorem qlq (M:Nat):∀ k s,llk M k s=ll M k s
  | 0,_=>rfl
  | k+1,s=>qlq M k _
theorem qnb (x:Nat) (f:Nat→Nat):llf x f=f x:=by cases x <;> rfl
theorem qlr (M:Nat):∀ a b s,ll M (a+b) s=ll M b (ll M a s)
  | 0,b,s=>by rw [Nat.zero_add];rfl
  | a+1,b,s=>by rw [Nat.succ_add];exact qlr M a b _
theorem qnc (M k:Nat):∀ j s,llo M k j s=ll M (k*j) s
  | 0,_=>rfl
  | j+1,s=>by
    show llf (llk M k s) (llo M k j)=_
    rw [qnb,qlq,qnc M k j,← qlr]
    congr 1
    rw [Nat.mul_succ,Nat.add_comm]
noncomputable def mers (e:Nat):Nat:=2 ^ e - 1
theorem qjm {n r k j:Nat} (e:n=k*j+r) (h:Nat.beq (llf (llo (mers (n+2)) k j 4) (fun s=>llk (mers (n+2)) r s % mers (n+2))) 0=true):Pr (mers (n+2)):=by
  refine qmB ?_
  replace h:=Nat.eq_of_beq_eq_true h
  rw [qnb,qnc,qlq,← qlr,← e] at h
  exact h
theorem qpQ:Pr (mers 127):=qjm (n:=125) (r:=5) (k:=20) (j:=6) rfl (by decide +kernel)
end Bs
namespace Bs
noncomputable def co (ns:List Int) (k:Nat):Int:=ns.getD k 0
section
variable {α:Type} [Lean.Grind.CommRing α]
end
noncomputable def Lz (g:List Int):Prop:=0<g.length∧co g (g.length - 1)≠0
noncomputable def QI (r o f:Nat→Int):Prop:=∃ d:Int,d≠0∧∃ U V:List Int,∀ k,d*f k=cvL U r k+cvL V o k
noncomputable def MQ (g f:Nat→Int):Prop:=∃ c:Int,c≠0∧∃ A:List Int,∀ k,c*f k=cvL A g k
end Bs
namespace Bs
structure Gen (r o:Nat→Int) (g:List Int):Prop where
  lz:Lz g
  qi:QI r o (co g)
  len:∀ h,Lz h→QI r o (co h)→g.length≤h.length
  last:∀ h,Lz h→QI r o (co h)→h.length=g.length→(co g (g.length - 1)).natAbs≤(co h (h.length - 1)).natAbs
structure RC (r o:Nat→Int) (g:List Int):Prop where
  lz:Lz g
  left:MQ (co g) r
  right:MQ (co g) o
  qi:QI r o (co g)
end Bs
namespace Bs
end Bs
namespace Bs
open PySem L2
noncomputable def isN (H:Hp) (v:V) (q:Nu):Prop:=∃ p,v=.ref p∧H p=some (.tup [.int q.1,.int q.2])
noncomputable def Nums (H:Hp):List V→List Nu→Prop
  | [],[]=>True
  | x::xs,q::l=>isN H x q∧Nums H xs l
  | _,_=>False
noncomputable def Tp (H H':Hp):Prop:=∀ b xs,H b=some (.tup xs)→H' b=some (.tup xs)
theorem tpS {H H':Hp} (s:Same H H'):Tp H H':=fun b xs h=>s b _ h
theorem Kp.tp {p:Addr} {H H':Hp} {xs:List V} (k:Kp p H H') (h:H p=some (.lst xs)):Tp H H':=fun b ys q=>k b _ (qiv q h (by intro z;cases z)) q
theorem Tp.updL {p:Addr} {H:Hp} {xs ys:List V} (h:H p=some (.lst xs)):Tp H (upd H p (.lst ys)):=Kp.tp Kp.upd h
theorem isN.tp {H H':Hp} {v:V} {q:Nu} (h:isN H v q) (t:Tp H H'):isN H' v q:=let ⟨p,e,z⟩:=h;⟨p,e,t _ _ z⟩
theorem Nums.tp {H H':Hp} (t:Tp H H'):∀ {xs:List V} {l:List Nu},Nums H xs l→Nums H' xs l
  | [],[],_=>trivial
  | _::_,_::_,h=>⟨h.1.tp t,Nums.tp t h.2⟩
  | [],_::_,h=>h.elim
  | _::_,[],h=>h.elim
theorem Nums.length {H:Hp}:∀ {xs:List V} {l:List Nu},Nums H xs l→xs.length=l.length
  | [],[],_=>rfl
  | _::_,_::_,h=>congrArg (·+1) (Nums.length h.2)
  | [],_::_,h=>h.elim
  | _::_,[],h=>h.elim
theorem Nums.get {H:Hp}:∀ {xs:List V} {l:List Nu} {i:Nat} {v:V},Nums H xs l→xs[i]?=some v→∃ q,l[i]?=some q∧isN H v q
  | [],[],_,_,_,e=>by simp at e
  | _::_,q::_,0,_,h,e=>by simp at e;subst e;exact ⟨q,rfl,h.1⟩
  | _::_,_::_,i+1,_,h,e=>by
    obtain ⟨q,h1,h2⟩:=Nums.get (i:=i) h.2 (by simpa using e)
    exact ⟨q,by simpa using h1,h2⟩
  | [],_::_,_,_,h,_=>h.elim
  | _::_,[],_,_,h,_=>h.elim
theorem Nums.at {H:Hp} {xs:List V} {l:List Nu} {i:Nat} (h:Nums H xs l) (hi:i<l.length) (d:Nu):∃ v,xs[i]?=some v∧isN H v (l.getD i d):=by
  have hx:i<xs.length:=by rw [h.length];exact hi
  obtain ⟨q,h1,h2⟩:=h.get (List.getElem?_eq_getElem hx)
  refine ⟨_,List.getElem?_eq_getElem hx,?_⟩
  rw [List.getD_eq_getElem?_getD,h1]
  exact h2
theorem Nums.append {H:Hp}:∀ {xs ys:List V} {l m:List Nu},Nums H xs l→Nums H ys m→Nums H (xs++ys) (l++m)
  | [],_,[],_,_,h=>h
  | _::_,_,_::_,_,h,h2=>⟨h.1,Nums.append h.2 h2⟩
  | [],_,_::_,_,h,_=>h.elim
  | _::_,_,[],_,h,_=>h.elim
theorem Nums.one {H:Hp} {v:V} {q:Nu} (h:isN H v q):Nums H [v] [q]:=⟨h,trivial⟩
theorem qhw {α:Type} (v:α):∀ n:Nat,(List.replicate n [v]).flatten=List.replicate n v
  | 0=>rfl
  | n+1=>by rw [List.replicate_succ,List.flatten_cons,qhw v n];rfl
theorem qb6 {α:Type} {xs:List α} {i:Int} {j:Nat} {v:α} (e:i=(j:Int)) (h:xs[j]?=some v):atI xs i=some v:=by subst e;exact qbc h
theorem qn6 {H:Hp} {p:Addr} {q:Nu}:isN (upd H p (.tup [.int q.1,.int q.2])) (.ref p) q:=⟨p,rfl,qac⟩
theorem qia {xs:List V} {m:Nat} (h:m≤xs.length):qkv xs none (some (m:Int))=xs.take m:=by
  unfold qkv HT.sIx
  simp only [List.drop_zero,Nat.sub_zero,Int.toNat_natCast]
  rw [if_neg (by omega),Nat.min_eq_left h]
end Bs
namespace Bs
open PySem L2
section
variable {σ:L2.St} {H:Hp} {Q:VK} {D:Ends} {rest:TS} {sp:Sp} {E:XK}
theorem qaf {i:Nat} {v:V} (h1:σ[i]?=some (some v)) (h:Q v H):qah i σ H Q:=⟨v,h1,h⟩
theorem qd4 {i:Nat} {k:Int} {a:Addr} {xs:List V} {v:V} (h1:σ[i]?=some (some (.ref a))) (h2:H a=some (.tup xs)) (h3:atI xs k=some v) (h:Q v H):tOp gT (qah i) (tC (.int k)) σ H Q:=⟨_,h1,a,k,xs,v,rfl,rfl,h2,h3,h⟩
theorem qnd {i:Nat} {k:Int} {a:Addr} {xs:List V} {v:V} (h1:σ[i]?=some (some (.ref a))) (h2:H a=some (.lst xs)) (h3:atI xs k=some v) (h:Q v H):tOp gL (qah i) (tC (.int k)) σ H Q:=⟨_,h1,a,k,xs,v,rfl,rfl,h2,h3,h⟩
theorem qn7 {ta:TE} {k:Nat} (h:ta σ H fun x H1=>sp [x] H1 (fun v H'=>rest D (σ.set k (some v)) H') E):qat (qaA (qap sp [] E (qab ta qao)) (qai k)) rest D σ H:=h
theorem qdk {ta tb:TE} {k:Nat} (h:ta σ H fun x H1=>tb σ H1 fun y H2=>sp [x,y] H2 (fun v H'=>rest D (σ.set k (some v)) H') E):qat (qaA (qap sp [] E (qab ta (qab tb qao))) (qai k)) rest D σ H:=h
theorem qiJ {ta tb tc:TE} {k:Nat} (h:ta σ H fun x H1=>tb σ H1 fun y H2=>tc σ H2 fun z H3=>sp [x,y,z] H3 (fun v H'=>rest D (σ.set k (some v)) H') E):qat (qaA (qap sp [] E (qab ta (qab tb (qab tc qao)))) (qai k)) rest D σ H:=h
theorem qfr {ta:TE} (h:ta σ H fun x H1=>sp [x] H1 Q E):qap sp [] E (qab ta qao) σ H Q:=h
theorem qaO {ta tb:TE} (h:ta σ H fun x H1=>tb σ H1 fun y H2=>sp [x,y] H2 Q E):qap sp [] E (qab ta (qab tb qao)) σ H Q:=h
theorem qkc {ta tb tc:TE} (h:ta σ H fun x H1=>tb σ H1 fun y H2=>tc σ H2 fun z H3=>sp [x,y,z] H3 Q E):qap sp [] E (qab ta (qab tb (qab tc qao))) σ H Q:=h
theorem qaz {te:TE} {k:Nat} (h:te σ H fun x H1=>rest D (σ.set k (some x)) H1):qat (qaA te (qai k)) rest D σ H:=h
theorem qa3 {te:TE} (h:te σ H D.rt):qbm te D σ H:=h
theorem qek {ta tb:TE} (h:ta σ H fun x H1=>tb σ H1 fun y H2=>[x,y].length≤sizeLine∧∀ p,H2 p=none→Q (.ref p) (upd H2 p (.tup [x,y]))):qgj (qab ta (qab tb qao)) σ H Q:=h
theorem qjn {ta tb tc:TE} (h:ta σ H fun x H1=>tb σ H1 fun y H2=>tc σ H2 fun z H3=>[x,y,z].length≤sizeLine∧∀ p,H3 p=none→Q (.ref p) (upd H3 p (.tup [x,y,z]))):qgj (qab ta (qab tb (qab tc qao))) σ H Q:=h
theorem qib {ta:TE} (h:ta σ H fun x H1=>[x].length≤sizeLine∧∀ p,H1 p=none→Q (.ref p) (upd H1 p (.lst [x]))):qfy (qab ta qao) σ H Q:=h
theorem qnf {ta tb:TE} (h:ta σ H fun x H1=>tb σ H1 fun y H2=>[x,y].length≤sizeLine∧∀ p,H2 p=none→Q (.ref p) (upd H2 p (.lst [x,y]))):qfy (qab ta (qab tb qao)) σ H Q:=h
theorem r_c {v:V} (h:Q v H):tC v σ H Q:=h
theorem qaD {r:R2} {ta tb:TE} (h:ta σ H fun x H1=>tb σ H1 fun y H2=>r x y H2 Q):tOp r ta tb σ H Q:=h
theorem qng {k:Int} {a:Addr} {xs:List V} {v:V} (h2:H a=some (.tup xs)) (h3:atI xs k=some v) (h:Q v H):gT (.ref a) (.int k) H Q:=⟨a,k,xs,v,rfl,rfl,h2,h3,h⟩
theorem qdM {k:Int} {a:Addr} {xs:List V} {v:V} (h2:H a=some (.lst xs)) (h3:atI xs k=some v) (h:Q v H):gL (.ref a) (.int k) H Q:=⟨a,k,xs,v,rfl,rfl,h2,h3,h⟩
theorem qcO {ta:TE} (h:ta σ H fun x H1=>qcE [x] H1 Q):tCB qcE (qab ta qao) σ H Q:=h
theorem qcP {a:Addr} {xs:List V} (h1:H a=some (.lst xs)) (h:Q (.int xs.length) H):qcE [.ref a] H Q:=⟨a,xs,rfl,h1,h⟩
theorem qd5 {b:List V→Hp→VK→Prop} {ta:TE} (h:ta σ H fun x H1=>b [x] H1 Q):tCB b (qab ta qao) σ H Q:=h
theorem qfd {te:TE} {g:TG} (h:te σ H fun x H1=>g x σ H1 (rest D)):qat (qaA te g) rest D σ H:=h
theorem qmC {ta tb tc td:TE} (h:ta σ H fun x H1=>tb σ H1 fun y H2=>tc σ H2 fun z H3=>td σ H3 fun a H4=>sp [x,y,z,a] H4 Q E):qap sp [] E (qab ta (qab tb (qab tc (qab td qao)))) σ H Q:=h
theorem qoZ {b:List V→Hp→VK→Prop} {ta tb:TE} (h:ta σ H fun x H1=>tb σ H1 fun y H2=>b [x,y] H2 Q):tCB b (qab ta (qab tb qao)) σ H Q:=h
theorem qd6 {i:Nat} {v:V} {σ:L2.St} {H:Hp} {Q:L2.St→Hp→Prop} (h:Q (σ.set i (some v)) H):qai i v σ H Q:=h
theorem qa0 {K:W.Frag} {tl:TE} {capt:List (Option Nat)} {g:TG} {te:TE} {σ:L2.St} {H:Hp} {Q:VK} (h:tl σ H (fun x H1=>∃ a,x=.ref a∧(∃ xs,SqL K H1 a xs)∧CompJ (Itl K a) capt g te σ Q H1)):qaG (qbb K tl) capt g te σ H Q:=h
theorem qfe {te:TE} {k:Nat} {D:Ends} {σ:L2.St} {H:Hp} (h:te σ H fun x H1=>D.nx (σ.set k (some x)) H1):qaA te (qai k) D σ H:=h
theorem qjo {c:TT} {t u:TS} (h:c σ H fun b H1=>if b=true then t { D with nx:=rest D } σ H1 else u { D with nx:=rest D } σ H1):qat (qeR c t u) rest D σ H:=h
theorem qaV {te:TE} {Q:Bool→Hp→Prop} (h:te σ H fun x H'=>∃ k,x=.bl k∧Q k H'):qaT te σ H Q:=h
theorem qo0 {x:V}:[x].length≤sizeLine:=by show 1≤_;exact sz (by decide)
theorem qmc {x y:V}:[x,y].length≤sizeLine:=by show 2≤_;exact sz (by decide)
theorem qo1 {x y z:V}:[x,y,z].length≤sizeLine:=by show 3≤_;exact sz (by decide)
end
end Bs
set_option maxHeartbeats 4000000
namespace Bs
theorem php:∀ (m n:Nat) (f:Nat→Nat),(∀ i,i<n→f i<m)→m<n→∃ i j,i<j∧j<n∧f i=f j
  | 0,n,f,h,hn=>absurd (h 0 hn) (Nat.not_lt_zero _)
  | m+1,n,f,h,hn=>by
    obtain ⟨n,rfl⟩:∃ k,n=k+1:=⟨n - 1,by omega⟩
    by_cases c:∃ i,i<n∧f i=f n
    · obtain ⟨i,hi,e⟩:=c
      exact ⟨i,n,hi,by omega,e⟩
    · have c:∀ i,i<n→f i≠f n:=fun i hi e=>c ⟨i,hi,e⟩
      have hv:=h n (by omega)
      obtain ⟨i,j,hij,hj,e⟩:=php m n (fun i=>if f n<f i then f i - 1 else f i) (fun i hi=>by
        have h1:=h i (by omega)
        have h2:=c i hi
        show (if f n<f i then f i - 1 else f i)<m
        split <;> omega) (by omega)
      refine ⟨i,j,hij,by omega,?_⟩
      have c1:=c i (by omega)
      have c2:=c j hj
      have e:(if f n<f i then f i - 1 else f i)=(if f n<f j then f j - 1 else f j):=e
      split at e <;> split at e <;> omega
noncomputable def enc (M:Nat):Nat→(Nat→Nat)→Nat
  | 0,_=>0
  | N+1,e=>e 0+M*enc M N (fun k=>e (k+1))
theorem qnh {M:Nat}:∀ (N:Nat) (e:Nat→Nat),(∀ k,k<N→e k<M)→enc M N e<M ^ N
  | 0,_,_=>Nat.one_pos
  | N+1,e,h=>by
    have h1:=qnh N (fun k=>e (k+1)) (fun k hk=>h (k+1) (by omega))
    have h0:=h 0 (by omega)
    show e 0+M*enc M N (fun k=>e (k+1))<M ^ (N+1)
    have h2:M*(enc M N (fun k=>e (k+1))+1)≤M*M ^ N:=Nat.mul_le_mul_left M h1
    rw [Nat.pow_succ,Nat.mul_comm (M ^ N)]
    rw [Nat.mul_add,Nat.mul_one] at h2
    omega
theorem qmD {M a b x y:Nat} (ha:a<M) (hb:b<M) (h:a+M*x=b+M*y):a=b∧x=y:=by
  have h1:(a+M*x) % M=a:=by rw [Nat.add_mul_mod_self_left,Nat.mod_eq_of_lt ha]
  have h2:(b+M*y) % M=b:=by rw [Nat.add_mul_mod_self_left,Nat.mod_eq_of_lt hb]
  have e:a=b:=by rw [← h1,h,h2]
  subst e
  exact ⟨rfl,Nat.eq_of_mul_eq_mul_left (by omega) (Nat.add_left_cancel h)⟩
theorem qls {M:Nat}:∀ (N:Nat) (e e':Nat→Nat),(∀ k,k<N→e k<M)→(∀ k,k<N→e' k<M)→enc M N e=enc M N e'→∀ k,k<N→e k=e' k
  | 0,_,_,_,_,_,k,hk=>absurd hk (Nat.not_lt_zero _)
  | N+1,e,e',h,h',q,k,hk=>by
    obtain ⟨q1,q2⟩:=qmD (h 0 (by omega)) (h' 0 (by omega)) q
    cases k with
    | zero=>exact q1
    | succ k=>exact qls N _ _ (fun k hk=>h (k+1) (by omega)) (fun k hk=>h' (k+1) (by omega)) q2 k (by omega)
noncomputable def digs (p:Nat):Nat→Nat→List Int
  | 0,_=>[]
  | N+1,t=>((t % p:Nat):Int)::digs p N (t / p)
theorem qfC (p:Nat):∀ (N t:Nat),(digs p N t).length=N
  | 0,_=>rfl
  | N+1,t=>by show (digs p N (t / p)).length+1=N+1;rw [qfC p N]
theorem qlt {p:Nat} (p0:0<p):∀ (N t:Nat),∀ z∈digs p N t,0≤z∧z<(p:Int)
  | 0,_,z,h=>by cases h
  | N+1,t,z,h=>by
    rcases List.mem_cons.mp h with rfl | h
    · have:=Nat.mod_lt t p0;omega
    · exact qlt p0 N _ z h
theorem qjp {p:Nat} (p0:0<p):∀ (N t s:Nat),t<p ^ N→s<p ^ N→digs p N t=digs p N s→t=s
  | 0,t,s,h1,h2,_=>by rw [Nat.pow_zero] at h1 h2;omega
  | N+1,t,s,h1,h2,h=>by
    injection h with a b
    rw [Nat.pow_succ,Nat.mul_comm] at h1 h2
    have:=qjp p0 N (t / p) (s / p) (Nat.div_lt_of_lt_mul h1) (Nat.div_lt_of_lt_mul h2) b
    have e1:=Nat.div_add_mod t p
    have e2:=Nat.div_add_mod s p
    have a:t % p=s % p:=by exact_mod_cast a
    rw [← e1,← e2,this,a]
end Bs
namespace Bs
section
variable {R:Type} [Lean.Grind.CommRing R]
noncomputable def su:Nat→(Nat→R)→R
  | 0,_=>0
  | n+1,f=>su n f+f n
theorem qag {f g:Nat→R}:∀ n,(∀ i,i<n→f i=g i)→su n f=su n g
  | 0,_=>rfl
  | n+1,h=>by
    show su n f+f n=su n g+g n
    rw [qag n fun i hi=>h i (by omega),h n (by omega)]
theorem qaP:∀ {n:Nat} {f:Nat→R},(∀ i,i<n→f i=0)→su n f=0
  | 0,_,_=>rfl
  | n+1,f,h=>by
    show su n f+f n=0
    rw [qaP fun i hi=>h i (by omega),h n (by omega)]
    grind
theorem qel (f g:Nat→R):∀ n,su n (fun i=>f i+g i)=su n f+su n g
  | 0=>by show (0:R)=0+0;grind
  | n+1=>by
    show su n _+(f n+g n)=su n f+f n+(su n g+g n)
    rw [qel f g n];grind
theorem qaK (c:R) (f:Nat→R):∀ n,su n (fun i=>c*f i)=c*su n f
  | 0=>by show (0:R)=c*0;grind
  | n+1=>by
    show su n _+c*f n=c*(su n f+f n)
    rw [qaK c f n];grind
theorem qem (f g:Nat→R) (n:Nat):su n (fun i=>f i - g i)=su n f - su n g:=by
  have h:=qel (fun i=>f i - g i) g n
  rw [qag (f:=fun i=>f i - g i+g i) (g:=f) n fun i _=>by grind] at h
  grind
theorem qaI (c:R) (f:Nat→R) (n:Nat):su n (fun i=>f i*c)=su n f*c:=by
  rw [qag (g:=fun i=>c*f i) n fun i _=>by grind,qaK];grind
theorem qbj (f:Nat→Nat→R) (m:Nat):∀ n,su n (fun i=>su m (f i))=su m fun j=>su n fun i=>f i j
  | 0=>(qaP fun _ _=>rfl).symm
  | n+1=>by
    show su n (fun i=>su m (f i))+su m (f n)=su m fun j=>su n (fun i=>f i j)+f n j
    rw [qel,qbj f m n]
noncomputable def dl (i j:Nat):R:=if i=j then 1 else 0
theorem qfX (f:Nat→R) (k:Nat):∀ n,su n (fun i=>f i*dl i k)=if k<n then f k else 0
  | 0=>rfl
  | n+1=>by
    show su n _+f n*dl n k=_
    rw [qfX f k n]
    unfold dl
    by_cases h:n=k
    · rw [if_pos h,if_neg (by omega),if_pos (by omega),h];grind
    · rw [if_neg h]
      by_cases q:k<n
      · rw [if_pos q,if_pos (by omega)];grind
      · rw [if_neg q,if_neg (by omega)];grind
theorem su_dl' (f:Nat→R) {k n:Nat} (h:k<n):su n (fun i=>dl i k*f i)=f k:=by
  rw [qag (g:=fun i=>f i*dl i k) n fun i _=>by grind,qfX,if_pos h]
theorem qiK (i j:Nat):(dl i j:R)=dl j i:=by
  unfold dl
  by_cases q:i=j
  · rw [if_pos q,if_pos q.symm]
  · rw [if_neg q,if_neg (fun z=>q z.symm)]
theorem qff (f:Nat→R) {k n:Nat} (h:k<n):su n (fun i=>dl k i*f i)=f k:=by
  rw [qag (g:=fun i=>dl i k*f i) n fun i _=>by rw [qiK],su_dl' f h]
theorem swp {k l M:Nat} (h:k<M):(if (if k=l then M else k)=M then l else (if k=l then M else k))=k:=by
  by_cases q:k=l
  · rw [if_pos q,if_pos rfl,q]
  · rw [if_neg q,if_neg (by omega)]
theorem qo2 (f:Nat→R) {l m:Nat} (h:l≤m):su (m+1) f=su m (fun i=>f (if i=l then m else i))+f l:=by
  have e:su m (fun i=>f (if i=l then m else i))=su m f+(if l<m then f m - f l else 0):=by
    rw [qag (g:=fun i=>f i+(fun _=>f m - f l) i*dl i l) m fun i _=>by
      unfold dl
      by_cases q:i=l
      · rw [if_pos q,if_pos q,q];grind
      · rw [if_neg q,if_neg q];grind,qel,qfX]
  rw [e]
  show su m f+f m=_
  by_cases q:l<m
  · rw [if_pos q];grind
  · rw [if_neg q,show l=m by omega];grind
structure Dom (R:Type) [Lean.Grind.CommRing R]:Prop where
  one:(1:R)≠0
  mul:∀ {a b:R},a*b=0→a=0∨b=0
theorem dep (D:Dom R):∀ (n m:Nat) (a:Nat→Nat→R),n<m→∃ c:Nat→R,(∃ i,i<m∧c i≠0)∧∀ j,j<n→su m (fun i=>c i*a i j)=0
  | 0,m,a,h=>⟨fun _=>1,⟨0,h,D.one⟩,fun j hj=>absurd hj (Nat.not_lt_zero j)⟩
  | n+1,m,a,h=>by
    by_cases z:∀ i,i<m→a i n=0
    · obtain ⟨c,hc,e⟩:=dep D n m a (by omega)
      refine ⟨c,hc,fun j hj=>?_⟩
      by_cases q:j=n
      · rw [q];exact qaP fun i hi=>by rw [z i hi];grind
      · exact e j (by omega)
    · obtain ⟨l,hl,gl⟩:∃ l,l<m∧a l n≠0:=Classical.byContradiction fun x=>z fun i hi=>Classical.byContradiction fun y=>x ⟨i,hi,y⟩
      obtain ⟨M,rfl⟩:∃ M,m=M+1:=⟨m - 1,by omega⟩
      obtain ⟨c,⟨k,hk,ck⟩,e⟩:=dep D n M (fun i j=>a l n*a (if i=l then M else i) j - a (if i=l then M else i) n*a l j) (by omega)
      obtain ⟨C,c1,c2⟩:∃ C:Nat→R,(∀ k,k<M→C (if k=l then M else k)=a l n*c k)∧C l = - su M (fun k=>c k*a (if k=l then M else k) n):=
        ⟨fun i=>if i=l then - su M (fun k=>c k*a (if k=l then M else k) n) else a l n*c (if i=M then l else i),fun k hk=>by
          have e:=swp (l:=l) hk
          show (if (if k=l then M else k)=l then _ else a l n*c (if (if k=l then M else k)=M then l else (if k=l then M else k)))=_
          rw [if_neg (by split <;> omega),e],by show (if l=l then _ else _)=_;rw [if_pos rfl]⟩
      refine ⟨C,⟨if k=l then M else k,by split <;> omega,?_⟩,fun j hj=>?_⟩
      · rw [c1 k hk]
        exact fun y=>(D.mul y).elim gl ck
      · rw [qo2 _ (by omega:l≤M),c2]
        rw [qag (g:=fun i=>a l n*(c i*a (if i=l then M else i) j)) M fun i hi=>by
          rw [c1 i hi];grind,qaK]
        have e2:su M (fun i=>c i*(a l n*a (if i=l then M else i) j - a (if i=l then M else i) n*a l j))=a l n*su M (fun i=>c i*a (if i=l then M else i) j) - su M (fun k=>c k*a (if k=l then M else k) n)*a l j:=by
          rw [← qaK,← qaI,← qem]
          exact qag M fun i _=>by grind
        by_cases q:j=n
        · rw [q];grind
        · have:=e j (by omega);grind
theorem ker (D:Dom R) {k:Nat} {W M:Nat→Nat→R} (h:∀ i,i<k→∀ j,j<k→su k (fun t=>W i t*M t j)=dl i j) {v:Nat→R} (hv:∀ j,j<k→su k (fun t=>v t*M t j)=0):∀ t,t<k→v t=0:=by
  obtain ⟨c,⟨l,hl,cl⟩,e⟩:=dep D k (k+1) (fun i t=>if i=k then v t else W i t) (by omega)
  have cj:∀ j,j<k→c j=0:=fun j hj=>by
    have s1:su k (fun t=>su (k+1) (fun i=>c i*(if i=k then v t else W i t))*M t j)=0:=qaP fun t ht=>by rw [e t ht];grind
    rw [qag (g:=fun t=>su (k+1) (fun i=>c i*((if i=k then v t else W i t)*M t j))) k fun t _=>by rw [← qaI];exact qag _ fun i _=>by grind,qbj] at s1
    rw [qag (g:=fun i=>c i*su k (fun t=>(if i=k then v t else W i t)*M t j)) (k+1) fun i _=>by rw [qaK]] at s1
    have s2:su k (fun i=>c i*su k (fun t=>(if i=k then v t else W i t)*M t j))=c j:=by
      rw [qag (g:=fun i=>c i*dl i j) k fun i hi=>by
        rw [qag (g:=fun t=>W i t*M t j) k fun t _=>by rw [if_neg (by omega)],h i hi j hj],qfX,if_pos hj]
    have s3:su k (fun t=>(if k=k then v t else W k t)*M t j)=0:=by
      rw [qag (g:=fun t=>v t*M t j) k fun t _=>by rw [if_pos rfl],hv j hj]
    have s1:su k (fun i=>c i*su k (fun t=>(if i=k then v t else W i t)*M t j))+c k*su k (fun t=>(if k=k then v t else W k t)*M t j)=0:=s1
    rw [s2,s3] at s1
    grind
  have lk:l=k:=Classical.byContradiction fun z=>cl (cj l (by omega))
  intro t ht
  have:=e t ht
  have s4:su k (fun i=>c i*(if i=k then v t else W i t))=0:=qaP fun i hi=>by rw [cj i hi];grind
  have this:su k (fun i=>c i*(if i=k then v t else W i t))+c k*(if k=k then v t else W k t)=0:=this
  rw [s4,if_pos rfl] at this
  exact (D.mul (show c k*v t=0 by grind)).elim (fun z=>absurd z (lk ▸ cl)) id
theorem qp7 (D:Dom R) {k:Nat} {W M:Nat→Nat→R} (h:∀ i,i<k→∀ j,j<k→su k (fun t=>W i t*M t j)=dl i j):∀ i,i<k→∀ j,j<k→su k (fun t=>M i t*W t j)=dl i j:=fun i hi j hj=>by
  have:=ker D h (v:=fun j=>su k (fun t=>M i t*W t j) - dl i j) (fun s hs=>by
    have e1:∀ j,(su k (fun t=>M i t*W t j) - dl i j)*M j s=su k (fun t=>M i t*(W t j*M j s)) - dl i j*M j s:=fun j=>by
      have:su k (fun t=>M i t*(W t j*M j s))=su k (fun t=>M i t*W t j)*M j s:=by
        rw [← qaI];exact qag k fun x _=>by grind
      clear h;grind
    rw [qag k fun j _=>e1 j,qem,qbj,qff _ hi]
    rw [qag (g:=fun t=>M i t*dl t s) k fun t ht=>by rw [qaK,h t ht s hs],qfX,if_pos hs]
    grind) j hj
  grind
end
end Bs
namespace Bs
noncomputable def zmS (q:Int):Setoid Int:=⟨fun a b=>q∣a - b,fun a=>⟨0,by omega⟩,fun {a b} h=>by obtain ⟨c,h⟩:=h;exact ⟨-c,by rw [Int.mul_neg,← h];omega⟩,fun {a b c} h g=>by obtain ⟨x,h⟩:=h;obtain ⟨y,g⟩:=g;exact ⟨x+y,by rw [Int.mul_add,← h,← g];omega⟩⟩
noncomputable def Zm (q:Int):Type:=Quotient (zmS q)
namespace Zm
variable {q:Int}
noncomputable def of (q a:Int):Zm q:=Quotient.mk (zmS q) a
theorem of_eq {a b:Int}:of q a=of q b↔q∣a - b:=⟨fun h=>Quotient.exact (s:=zmS q) h,fun h=>Quotient.sound (s:=zmS q) h⟩
theorem sur (x:Zm q):∃ a,of q a=x:=Quotient.exists_rep (s:=zmS q) x
noncomputable def add (x y:Zm q):Zm q:=Quotient.lift₂ (s₁:=zmS q) (s₂:=zmS q) (fun a b=>of q (a+b)) (fun a b c d h g=>of_eq.mpr (by obtain ⟨x,h⟩:=h;obtain ⟨y,g⟩:=g;exact ⟨x+y,by rw [Int.mul_add,← h,← g];omega⟩)) x y
theorem mulc {a b c d:Int} (h:q∣a - c) (g:q∣b - d):q∣a*b - c*d:=by
  obtain ⟨x,h⟩:=h;obtain ⟨y,g⟩:=g
  refine ⟨x*b+c*y,?_⟩
  have e1:a=q*x+c:=by omega
  have e2:b=q*y+d:=by omega
  grind
noncomputable def mul (x y:Zm q):Zm q:=Quotient.lift₂ (s₁:=zmS q) (s₂:=zmS q) (fun a b=>of q (a*b)) (fun a b c d h g=>of_eq.mpr (mulc h g)) x y
noncomputable def npow (x:Zm q):Nat→Zm q
  | 0=>of q 1
  | n+1=>mul (npow x n) x
noncomputable instance:Add (Zm q):=⟨add⟩
noncomputable instance:Mul (Zm q):=⟨mul⟩
noncomputable instance:Neg (Zm q):=⟨fun x=>mul (of q (-1)) x⟩
noncomputable instance:Sub (Zm q):=⟨fun x y=>add x (mul (of q (-1)) y)⟩
noncomputable instance:NatCast (Zm q):=⟨fun n=>of q n⟩
noncomputable instance:IntCast (Zm q):=⟨fun n=>of q n⟩
noncomputable instance (n:Nat):OfNat (Zm q) n:=⟨of q n⟩
noncomputable instance:Pow (Zm q) Nat:=⟨npow⟩
noncomputable instance:SMul Nat (Zm q):=⟨fun n f=>mul (of q n) f⟩
noncomputable instance:SMul Int (Zm q):=⟨fun n f=>mul (of q n) f⟩
theorem qo3 (a b:Int):of q (a+b)=of q a+of q b:=rfl
theorem of_mul (a b:Int):of q (a*b)=of q a*of q b:=rfl
theorem a1 (x y:Zm q):add x y=add y x:=by
  obtain ⟨a,rfl⟩:=sur x;obtain ⟨b,rfl⟩:=sur y
  exact congrArg (of q) (Int.add_comm a b)
theorem a2 (x y z:Zm q):add (add x y) z=add x (add y z):=by
  obtain ⟨a,rfl⟩:=sur x;obtain ⟨b,rfl⟩:=sur y;obtain ⟨c,rfl⟩:=sur z
  exact congrArg (of q) (Int.add_assoc a b c)
theorem m1 (x y:Zm q):mul x y=mul y x:=by
  obtain ⟨a,rfl⟩:=sur x;obtain ⟨b,rfl⟩:=sur y
  exact congrArg (of q) (Int.mul_comm a b)
theorem m2 (x y z:Zm q):mul (mul x y) z=mul x (mul y z):=by
  obtain ⟨a,rfl⟩:=sur x;obtain ⟨b,rfl⟩:=sur y;obtain ⟨c,rfl⟩:=sur z
  exact congrArg (of q) (Int.mul_assoc a b c)
theorem m3 (x y z:Zm q):mul x (add y z)=add (mul x y) (mul x z):=by
  obtain ⟨a,rfl⟩:=sur x;obtain ⟨b,rfl⟩:=sur y;obtain ⟨c,rfl⟩:=sur z
  exact congrArg (of q) (Int.mul_add a b c)
theorem m4 (x:Zm q):mul (of q 1) x=x:=by
  obtain ⟨a,rfl⟩:=sur x
  exact congrArg (of q) (Int.one_mul a)
theorem m5 (x:Zm q):mul (of q 0) x=of q 0:=by
  obtain ⟨a,rfl⟩:=sur x
  exact congrArg (of q) (Int.zero_mul a)
noncomputable instance:Lean.Grind.CommRing (Zm q) where
  add_zero x:=by
    obtain ⟨a,rfl⟩:=sur x
    exact congrArg (of q) (Int.add_zero a)
  add_comm:=a1
  add_assoc:=a2
  mul_assoc:=m2
  mul_comm:=m1
  mul_one x:=(m1 _ _).trans (m4 x)
  one_mul:=m4
  left_distrib:=m3
  right_distrib x y z:=by show mul (add x y) z=add (mul x z) (mul y z);rw [m1,m3,m1 z x,m1 z y]
  zero_mul:=m5
  mul_zero x:=(m1 _ _).trans (m5 x)
  pow_zero _:=rfl
  pow_succ _ _:=rfl
  ofNat_succ n:=congrArg (of q) (by show ((n+1:Nat):Int)=(n:Int)+1;omega)
  neg_add_cancel x:=by
    obtain ⟨a,rfl⟩:=sur x
    exact congrArg (of q) (show -1*a+a=((0:Nat):Int) by omega)
  sub_eq_add_neg _ _:=rfl
  neg_zsmul n x:=by
    obtain ⟨a,rfl⟩:=sur x
    exact congrArg (of q) (show -n*a = -1*(n*a) by rw [Int.neg_mul,Int.neg_mul,Int.one_mul])
  zsmul_natCast_eq_nsmul _ _:=rfl
  intCast_neg n:=congrArg (of q) (show -n = -1*n by omega)
theorem of_sub (a b:Int):of q (a - b)=of q a - of q b:=congrArg (of q) (show a - b=a + -1*b by omega)
theorem of_zero {a:Int}:of q a=0↔q∣a:=by
  have h:of q a=of q 0↔q∣a - 0:=of_eq
  rw [Int.sub_zero] at h
  exact h
theorem of_mod (a:Int):of q (a % q)=of q a:=of_eq.mpr ⟨-(a / q),by have:=Int.emod_def a q;rw [Int.mul_neg,this];omega⟩
theorem of_su (f:Nat→Int):∀ n,of q (su n f)=su n fun i=>of q (f i)
  | 0=>rfl
  | n+1=>by
    show of q (su n f+f n)=su n (fun i=>of q (f i))+of q (f n)
    rw [qo3,of_su f n]
theorem dom {p:Nat} (h1:p≠1) (h:∀ a b:Int,(p:Int)∣a*b→(p:Int)∣a∨(p:Int)∣b):Dom (Zm (p:Int)):=⟨fun z=>h1 (by
    have:=of_zero.mp (show of (p:Int) 1=0 from z)
    have:=Int.natCast_dvd_natCast.mp (show (p:Int)∣((1:Nat):Int) from this)
    exact Nat.dvd_one.mp this),fun {a b} e=>by
  obtain ⟨x,rfl⟩:=sur a;obtain ⟨y,rfl⟩:=sur b
  rw [← of_mul,of_zero] at e
  exact (h x y e).imp of_zero.mpr of_zero.mpr⟩
end Zm
theorem qqn:Dom Int:=⟨by decide,fun {_ _} e=>Int.mul_eq_zero.mp e⟩
end Bs
namespace Bs
section
variable {R:Type} [Lean.Grind.CommRing R]
structure RE (n w:Nat) (a:Nat→Nat→R) (col d:Nat) (o c:Nat→Nat) (u l:Nat→Nat→R):Prop where
  dn:d≤n
  on:∀ i,i<n→o i<n
  inj:∀ i j,i<n→j<n→o i=o j→i=j
  cl:∀ s,s<d→c s<col
  cr:∀ s t,s<t→t<d→c s<c t
  row:∀ i,i<d→∀ j,j<w→l i j=su d fun t=>u i t*a (o t) j
  row2:∀ i,d≤i→i<n→∀ j,j<w→l i j=a (o i) j+su d fun t=>u i t*a (o t) j
  piv:∀ s,s<d→∀ i,i<n→l i (c s)=dl i s
  zer:∀ i,d≤i→i<n→∀ j,j<col→l i j=0
  ech:∀ i,i<d→∀ j,j<c i→l i j=0
theorem RE.start (n w:Nat) (a:Nat→Nat→R) (c:Nat→Nat) (u:Nat→Nat→R):RE n w a 0 0 (fun i=>i) c u a:=
  ⟨Nat.zero_le _,fun _ h=>h,fun _ _ _ _ h=>h,fun s h=>absurd h (Nat.not_lt_zero s),fun s t _ h=>absurd h (Nat.not_lt_zero t),fun i h=>absurd h (Nat.not_lt_zero i),fun i _ _ j _=>by show a i j=a i j+0;grind,fun s h=>absurd h (Nat.not_lt_zero s),fun _ _ _ j h=>absurd h (Nat.not_lt_zero j),fun i h=>absurd h (Nat.not_lt_zero i)⟩
variable {n w col d:Nat} {a u l:Nat→Nat→R} {o c:Nat→Nat}
theorem RE.skip (I:RE n w a col d o c u l) (h:∀ i,d≤i→i<n→l i col=0):RE n w a (col+1) d o c u l:=
  ⟨I.dn,I.on,I.inj,fun s hs=>Nat.lt_succ_of_lt (I.cl s hs),I.cr,I.row,I.row2,I.piv,fun i di hi j hj=>by
    rcases Nat.lt_succ_iff_lt_or_eq.mp hj with q | q
    · exact I.zer i di hi j q
    · rw [q];exact h i di hi,I.ech⟩
noncomputable def tw (x y i:Nat):Nat:=if i=x then y else if i=y then x else i
theorem qpR (x y:Nat):tw x y x=y:=by unfold tw;rw [if_pos rfl]
theorem qlu {x y i n:Nat} (hx:x<n) (hy:y<n) (hi:i<n):tw x y i<n:=by unfold tw;split;exact hy;split;exact hx;exact hi
theorem qpS {x y i:Nat} (h:i<x) (h2:i<y):tw x y i=i:=by unfold tw;rw [if_neg (by omega),if_neg (by omega)]
theorem qo4 {x y i j:Nat} (h:tw x y i=tw x y j):i=j:=by unfold tw at h;split at h <;> split at h <;> (try split at h) <;> (try split at h) <;> omega
theorem qn8 {x y i:Nat} (h:x<i) (h2:x≤y):x≤tw x y i∧tw x y i≠y:=by unfold tw;rw [if_neg (by omega)];split <;> omega
theorem qni (f b:Nat→R) (z:R) (d:Nat):su (d+1) (fun t=>(if t=d then z else f t)*b t)=su d (fun t=>f t*b t)+z*b d:=by
  show su d (fun t=>(if t=d then z else f t)*b t)+(if d=d then z else f d)*b d=_
  rw [if_pos rfl,qag (f:=fun t=>(if t=d then z else f t)*b t) d fun t ht=>by rw [if_neg (by omega)]]
theorem RE.step (I:RE n w a col d o c u l) {k:Nat} {y:R} {o' c':Nat→Nat} {l':Nat→Nat→R} (cw:col<w) (dk:d≤k) (kn:k<n) (hy:l k col*y=1)
    (ho:∀ i,i<n→o' i=o (tw d k i)) (hc:∀ s,s<d→c' s=c s) (hc2:c' d=col) (hd:∀ j,j<w→l' d j=l k j*y)
    (hl:∀ i,i<n→i≠d→∀ j,j<w→l' i j=l (tw d k i) j - l (tw d k i) col*(l k j*y)):∃ u',RE n w a (col+1) (d+1) o' c' u' l':=by
  have dn:d<n:=by omega
  have tn:∀ i,i<n→tw d k i<n:=fun i hi=>qlu dn kn hi
  have t0:∀ i,i<d→tw d k i=i:=fun i hi=>qpS hi (by omega)
  have od:∀ t,t<d→o' t=o t:=fun t ht=>by rw [ho t (by omega),t0 t ht]
  have odd:o' d=o k:=by rw [ho d dn,qpR]
  have kc:∀ s,s<d→l k (c s)=0:=fun s hs=>by rw [I.piv s hs k kn];unfold dl;rw [if_neg (by omega)]
  have cc:∀ s,s<d→c s<col:=I.cl
  have lead:∀ j,j<w→l k j*y=su (d+1) fun t=>(if t=d then y else y*u k t)*a (o' t) j:=fun j hj=>by
    rw [qni,odd,I.row2 k dk kn j hj,qag (f:=fun t=>y*u k t*a (o' t) j) (g:=fun t=>y*(u k t*a (o t) j)) d fun t ht=>by rw [od t ht,Lean.Grind.Semiring.mul_assoc],qaK,Lean.Grind.Semiring.right_distrib,Lean.Grind.CommSemiring.mul_comm y,Lean.Grind.CommSemiring.mul_comm y,Lean.Grind.Semiring.add_comm]
  have rw0:∀ f:Nat→R,∀ j,su d (fun t=>f t*a (o t) j)=su (d+1) (fun t=>(if t=d then 0 else f t)*a (o' t) j):=fun f j=>by
    rw [qni,qag (f:=fun t=>f t*a (o' t) j) d fun t ht=>by rw [od t ht],Lean.Grind.Semiring.zero_mul,Lean.Grind.Semiring.add_zero]
  refine ⟨fun i t=>if i=d then (if t=d then y else y*u k t) else (if t=d then 0 else u (tw d k i) t) - l (tw d k i) col*(if t=d then y else y*u k t),dn,fun i hi=>?_,fun i j hi hj e=>?_,fun s hs=>?_,fun s t st ht=>?_,fun i hi j hj=>?_,fun i di hi j hj=>?_,fun s hs i hi=>?_,fun i di hi j hj=>?_,fun i hi j hj=>?_⟩
  · rw [ho i hi];exact I.on _ (tn i hi)
  · rw [ho i hi,ho j hj] at e
    exact qo4 (I.inj _ _ (tn i hi) (tn j hj) e)
  · by_cases q:s=d
    · rw [q,hc2];omega
    · rw [hc s (by omega)];have:=cc s (by omega);omega
  · rw [hc s (by omega)]
    by_cases q:t=d
    · rw [q,hc2];exact cc s (by omega)
    · rw [hc t (by omega)];exact I.cr s t st (by omega)
  · by_cases q:i=d
    · rw [q,hd j hj,lead j hj]
      exact qag _ fun t _=>by rw [if_pos rfl]
    · have id:i<d:=by omega
      rw [hl i (by omega) q j hj,t0 i id,lead j hj,I.row i id j hj,← qaK]
      rw [rw0 (u i),← qem]
      exact qag _ fun t _=>by rw [if_neg q];grind
  · have q:i≠d:=by omega
    obtain ⟨g1,g2⟩:=qn8 (y:=k) (show d<i by omega) dk
    rw [hl i hi q j hj,lead j hj,I.row2 _ g1 (tn i hi) j hj,ho i hi,← qaK]
    rw [rw0 (u (tw d k i))]
    have e2:su (d+1) (fun t=>(if i=d then (if t=d then y else y*u k t) else (if t=d then 0 else u (tw d k i) t) - l (tw d k i) col*(if t=d then y else y*u k t))*a (o' t) j)=su (d+1) (fun t=>(if t=d then 0 else u (tw d k i) t)*a (o' t) j) - su (d+1) (fun t=>l (tw d k i) col*((if t=d then y else y*u k t)*a (o' t) j)):=by
      rw [← qem]
      exact qag _ fun t _=>by rw [if_neg q];grind
    rw [e2]
    grind
  · by_cases q:s=d
    · rw [q,hc2]
      by_cases p:i=d
      · rw [p,hd _ cw,hy];unfold dl;rw [if_pos rfl]
      · rw [hl i hi p col cw,hy];unfold dl;rw [if_neg p];grind
    · have sd:s<d:=by omega
      have sw:c s<w:=by have:=cc s sd;omega
      rw [hc s sd]
      by_cases p:i=d
      · rw [p,hd _ sw,kc s sd];unfold dl;rw [if_neg (by omega)];grind
      · rw [hl i hi p (c s) sw,kc s sd,I.piv s sd _ (tn i hi)]
        by_cases r:i<d
        · rw [t0 i r];grind
        · obtain ⟨g1,g2⟩:=qn8 (y:=k) (show d<i by omega) dk
          unfold dl
          rw [if_neg (by omega),if_neg (by omega)];grind
  · have q:i≠d:=by omega
    obtain ⟨g1,g2⟩:=qn8 (y:=k) (show d<i by omega) dk
    rw [hl i hi q j (by omega)]
    rcases Nat.lt_succ_iff_lt_or_eq.mp hj with z | z
    · rw [I.zer _ g1 (tn i hi) j z,I.zer k dk kn j z];grind
    · rw [z,hy];grind
  · by_cases q:i=d
    · rw [q,hc2] at hj
      rw [q,hd j (by omega),I.zer k dk kn j hj];grind
    · have id:i<d:=by omega
      rw [hc i id] at hj
      have:=cc i id
      rw [hl i (by omega) q j (by omega),t0 i id,I.ech i id j hj,I.zer k dk kn j (by omega)];grind
theorem RE.minor (I:RE n w a col d o c u l) (cw:col≤w):∀ i,i<d→∀ s,s<d→su d (fun t=>u i t*a (o t) (c s))=dl i s:=fun i hi s hs=>by
  rw [← I.row i hi (c s) (by have:=I.cl s hs;omega)]
  exact I.piv s hs i (by have:=I.dn;omega)
end
end Bs
namespace Bs
section
variable {R:Type} [Lean.Grind.CommRing R]
variable {n w col d:Nat} {a u l:Nat→Nat→R} {o c:Nat→Nat}
theorem qfD (h:∀ t,t<d→o t<n) (v:Nat→R) (b:Nat→R):su n (fun r=>su d (fun t=>v t*dl (o t) r)*b r)=su d fun t=>v t*b (o t):=by
  rw [qag (g:=fun r=>su d fun t=>v t*(dl (o t) r*b r)) n fun r _=>by rw [← qaI];exact qag d fun t _=>by rw [Lean.Grind.Semiring.mul_assoc],qbj]
  exact qag d fun t ht=>by rw [qaK,qff b (h t ht)]
theorem RE.inverse {k:Nat} {M W:Nat→Nat→R} (D:Dom R) (hW:∀ i,i<k→∀ j,j<k→su k (fun t=>W i t*M t j)=dl i j) (h1:∀ r,r<k→∀ j,j<k→a r j=M r j) (h2:∀ r,r<k→∀ j,j<k→a r (k+j)=dl r j)
    (I:RE k (k+k) a (k+k) d o c u l):d=k∧∀ i,i<k→∀ j,j<k→su k (fun t=>l i (k+t)*M t j)=dl i j:=by
  have dk:d=k:=by
    have:=I.dn
    refine Nat.le_antisymm this (Nat.le_of_not_lt fun q=>?_)
    have od:=I.on d q
    have e:=I.row2 d (Nat.le_refl _) q (k+o d) (by omega)
    rw [I.zer d (Nat.le_refl _) q _ (by omega),h2 _ od _ od,qaP fun t ht=>by
      rw [h2 _ (I.on t (by omega)) _ od]
      unfold dl
      rw [if_neg fun z=>by have:=I.inj t d (by omega) q z;omega,Lean.Grind.Semiring.mul_zero]] at e
    unfold dl at e
    rw [if_pos rfl,Lean.Grind.Semiring.add_zero] at e
    exact D.one e.symm
  subst dk
  have U:∀ i,i<d→∀ j,j<d+d→l i j=su d fun r=>su d (fun t=>u i t*dl (o t) r)*a r j:=fun i hi j hj=>by
    rw [qfD (fun t ht=>I.on t ht),I.row i hi j hj]
  have half:∀ i,i<d→∀ j,j<d→l i (d+j)=su d (fun t=>u i t*dl (o t) j):=fun i hi j hj=>by
    rw [U i hi (d+j) (by omega),qag (g:=fun r=>su d (fun t=>u i t*dl (o t) r)*dl r j) d fun r hr=>by rw [h2 r hr j hj],qfX (fun r=>su d (fun t=>u i t*dl (o t) r)),if_pos hj]
  have one:∀ i,i<d→∀ j,j<d→l i j=su d fun r=>l i (d+r)*M r j:=fun i hi j hj=>by
    rw [U i hi j (by omega)]
    exact qag d fun r hr=>by rw [h1 r hr j hj,half i hi r hr]
  have cs:∀ s,s<d→c s<d:=by
    by_cases z:d=0
    · intro s hs;omega
    have last:c (d - 1)<d:=Nat.lt_of_not_le fun q=>by
      have zr:=ker D hW (v:=fun r=>l (d - 1) (d+r)) fun j hj=>by
        rw [← one (d - 1) (by omega) j hj]
        exact I.ech (d - 1) (by omega) j (by omega)
      have e:=I.piv (d - 1) (by omega) (d - 1) (by omega)
      have cl:=I.cl (d - 1) (by omega)
      have e0:=zr (c (d - 1) - d) (by omega)
      simp only [show d+(c (d - 1) - d)=c (d - 1) by omega] at e0
      rw [e0] at e
      unfold dl at e
      rw [if_pos rfl] at e
      exact D.one e.symm
    intro s hs
    by_cases q:s=d - 1
    · rw [q];exact last
    · have:=I.cr s (d - 1) (by omega) (by omega);omega
  have up:∀ m s,s+m<d→c s+m≤c (s+m):=fun m=>by
    induction m with
    | zero=>intro s _;exact Nat.le_refl _
    | succ m ih=>
      intro s hs
      have h1:=ih s (by omega)
      have h2:=I.cr (s+m) (s+(m+1)) (by omega) hs
      omega
  have ge:∀ s,s<d→s≤c s:=fun s hs=>by have:=up s 0 (by omega);rw [Nat.zero_add] at this;omega
  have ce:∀ s,s<d→c s=s:=fun s hs=>by
    have h1:=up (d - 1 - s) s (by omega)
    have h2:=cs (d - 1) (by omega)
    rw [show s+(d - 1 - s)=d - 1 by omega] at h1
    have:=ge s hs
    omega
  refine ⟨rfl,fun i hi j hj=>?_⟩
  rw [← one i hi j hj]
  have:=I.piv j hj i hi
  rw [ce j hj] at this
  exact this
end
theorem onto {n:Nat} {o:Nat→Nat} (on:∀ i,i<n→o i<n) (inj:∀ i j,i<n→j<n→o i=o j→i=j) {r:Nat} (hr:r<n):∃ i,i<n∧o i=r:=by
  obtain ⟨i,j,ij,jn,e⟩:=php n (n+1) (fun i=>if i=n then r else o i) (fun i hi=>by
    show (if i=n then r else o i)<n
    by_cases q:i=n
    · rw [if_pos q];exact hr
    · rw [if_neg q];exact on i (by omega)) (by omega)
  have e:(if i=n then r else o i)=(if j=n then r else o j):=e
  rw [if_neg (by omega)] at e
  by_cases q:j=n
  · rw [if_pos q] at e;exact ⟨i,by omega,e⟩
  · rw [if_neg q] at e
    have:=inj i j (by omega) (by omega) e
    omega
section
variable {R:Type} [Lean.Grind.CommRing R]
variable {n w d:Nat} {a u l:Nat→Nat→R} {o c:Nat→Nat}
theorem RE.span (I:RE n w a w d o c u l) {r:Nat} (hr:r<n):∃ z:Nat→R,∀ j,j<w→a r j=su d fun t=>z t*a (o t) j:=by
  obtain ⟨i,hi,rfl⟩:=onto I.on I.inj hr
  by_cases q:i<d
  · exact ⟨fun t=>dl i t,fun j _=>(qff (fun t=>a (o t) j) q).symm⟩
  · refine ⟨fun t=>- u i t,fun j hj=>?_⟩
    have e:=I.row2 i (by omega) hi j hj
    rw [I.zer i (by omega) hi j hj] at e
    rw [qag (g:=fun t=>(-1)*(u i t*a (o t) j)) d fun t _=>by grind,qaK]
    grind
theorem RE.all (n w:Nat) (a:Nat→Nat→R) (inv:∀ x:R,x≠0→∃ y,x*y=1):∀ col,col≤w→∃ (d:Nat) (o c:Nat→Nat) (u l:Nat→Nat→R),RE n w a col d o c u l
  | 0,_=>⟨0,_,fun _=>0,fun _ _=>0,a,RE.start n w a _ _⟩
  | col+1,h=>by
    obtain ⟨d,o,c,u,l,I⟩:=RE.all n w a inv col (by omega)
    by_cases q:∀ i,d≤i→i<n→l i col=0
    · exact ⟨d,o,c,u,l,I.skip q⟩
    · obtain ⟨k,dk,kn,e⟩:∃ k,d≤k∧k<n∧l k col≠0:=Classical.byContradiction fun x=>q fun i di hi=>Classical.byContradiction fun y=>x ⟨i,di,hi,y⟩
      obtain ⟨y,hy⟩:=inv _ e
      obtain ⟨u',I'⟩:=I.step (k:=k) (y:=y) (o':=fun i=>o (tw d k i)) (c':=fun s=>if s=d then col else c s) (l':=fun i j=>if i=d then l k j*y else l (tw d k i) j - l (tw d k i) col*(l k j*y)) (by omega) dk kn hy (fun _ _=>rfl)
        (fun s hs=>by show (if s=d then _ else _)=_;rw [if_neg (by omega)]) (by show (if d=d then _ else _)=_;rw [if_pos rfl]) (fun j _=>by show (if d=d then _ else _)=_;rw [if_pos rfl]) (fun i _ hi j _=>by show (if i=d then _ else _)=_;rw [if_neg hi])
      exact ⟨_,_,_,u',_,I'⟩
end
end Bs
namespace Bs
theorem qlv {A B:Nat} {f g:Nat→Int}:∀ n,(∀ i,i<n→(f i).natAbs≤A)→(∀ i,i<n→(g i).natAbs≤B)→(su n fun i=>f i*g i).natAbs≤n*(A*B)
  | 0,_,_=>by show (0:Int).natAbs≤_;omega
  | n+1,hf,hg=>by
    show (su n (fun i=>f i*g i)+f n*g n).natAbs≤_
    have h1:=qlv n (fun i hi=>hf i (by omega)) (fun i hi=>hg i (by omega))
    have h2:(f n*g n).natAbs≤A*B:=by rw [Int.natAbs_mul];exact Nat.mul_le_mul (hf n (by omega)) (hg n (by omega))
    have h3:=Int.natAbs_add_le (su n fun i=>f i*g i) (f n*g n)
    rw [Nat.add_mul,Nat.one_mul]
    omega
theorem qlw {k A X:Nat} {M:Nat→Nat→Int} (hA:∀ i,i<k→∀ j,j<k+1→(M i j).natAbs≤A) (A1:1≤A) (hX:X=(2*((k+1)*A)) ^ k) :
    ∃ x:Nat→Int,(∃ j,j<k+1∧x j≠0)∧(∀ j,(x j).natAbs≤X)∧∀ i,i<k→su (k+1) (fun j=>M i j*x j)=0:=by
  obtain ⟨E,hE⟩:∃ E,E=(k+1)*A:=⟨_,rfl⟩
  rw [← hE] at hX
  have E1:1≤E:=by rw [hE];exact Nat.mul_pos (by omega) A1
  obtain ⟨y,hy⟩:∃ y:Nat→Nat→Int,∀ t j,y t j=(digs (X+1) (k+1) t).getD j 0:=⟨_,fun _ _=>rfl⟩
  have yb:∀ t j,0≤y t j∧y t j≤(X:Int):=fun t j=>by
    rw [hy]
    rcases Nat.lt_or_ge j (digs (X+1) (k+1) t).length with q | q
    · rw [List.getD_eq_getElem?_getD,List.getElem?_eq_getElem q]
      have:=qlt (Nat.succ_pos X) (k+1) t _ (List.getElem_mem q)
      show 0≤(digs (X+1) (k+1) t)[j]∧(digs (X+1) (k+1) t)[j]≤(X:Int)
      omega
    · rw [List.getD_eq_getElem?_getD,List.getElem?_eq_none q]
      show (0:Int)≤0∧(0:Int)≤X
      omega
  obtain ⟨f,hf⟩:∃ f:Nat→Nat→Int,∀ t i,f t i=su (k+1) fun j=>M i j*y t j:=⟨_,fun _ _=>rfl⟩
  have fb:∀ t i,i<k→(f t i).natAbs≤E*X:=fun t i hi=>by
    rw [hf,hE,Nat.mul_assoc]
    exact qlv (k+1) (fun j hj=>hA i hi j hj) (fun j _=>by have:=yb t j;omega)
  obtain ⟨e,he⟩:∃ e:Nat→Nat→Nat,∀ t i,e t i=(f t i+((E*X:Nat):Int)).toNat:=⟨_,fun _ _=>rfl⟩
  have el:∀ t i,i<k→e t i<2*(E*X)+1:=fun t i hi=>by have:=fb t i hi;rw [he];omega
  have room:(2*(E*X)+1) ^ k<(X+1) ^ (k+1):=by
    have h1:(2*(E*X)+1) ^ k≤(2*E*(X+1)) ^ k:=Nat.pow_le_pow_left (by rw [Nat.mul_add,Nat.mul_assoc];omega) k
    rw [Nat.mul_pow,← hX] at h1
    rw [Nat.pow_succ,Nat.mul_comm ((X+1) ^ k)]
    exact Nat.lt_of_le_of_lt h1 (Nat.mul_lt_mul_of_pos_right (Nat.lt_succ_self X) (Nat.pow_pos (Nat.succ_pos X)))
  obtain ⟨s,t,st,ht,q⟩:=php _ _ (fun t=>enc (2*(E*X)+1) k (e t)) (fun i _=>qnh k (e i) fun j hj=>el i j hj) room
  have qk:=qls k _ _ (fun j hj=>el s j hj) (fun j hj=>el t j hj) q
  refine ⟨fun j=>y t j - y s j,?_,fun j=>by have:=yb t j;have:=yb s j;show (y t j - y s j).natAbs≤X;omega,fun i hi=>?_⟩
  · refine Classical.byContradiction fun z=>?_
    have z:∀ j,j<k+1→y t j=y s j:=fun j hj=>Classical.byContradiction fun w=>z ⟨j,hj,by show y t j - y s j≠0;omega⟩
    have:t=s:=qjp (p:=X+1) (Nat.succ_pos X) (k+1) t s ht (by omega) (List.ext_getElem (by rw [qfC,qfC]) fun j h1 h2=>by
      have:=z j (by rw [qfC] at h1;exact h1)
      rw [hy,hy,List.getD_eq_getElem?_getD,List.getElem?_eq_getElem h1,List.getD_eq_getElem?_getD,List.getElem?_eq_getElem h2] at this
      exact this)
    omega
  · have h1:=qk i hi
    have h2:=fb t i hi
    have h3:=fb s i hi
    have h4:f t i=f s i:=by rw [he,he] at h1;omega
    rw [hf,hf] at h4
    rw [qag (g:=fun j=>M i j*y t j - M i j*y s j) (k+1) fun j _=>Int.mul_sub _ _ _,qem,h4]
    omega
end Bs
namespace Bs
structure Inv2 (p:Int) (k:Nat) (M T:Nat→Nat→Int):Prop where
  mt:∀ i,i<k→∀ j,j<k→p∣su k (fun t=>M i t*T t j) - dl i j
  tm:∀ i,i<k→∀ j,j<k→p∣su k (fun t=>T i t*M t j) - dl i j
theorem qlx {p:Int} {f:Nat→Int}:∀ n,(∀ i,i<n→p∣f i)→p∣su n f
  | 0,_=>⟨0,by show (0:Int)=p*0;omega⟩
  | n+1,h=>Int.dvd_add (qlx n fun i hi=>h i (by omega)) (h n (by omega))
theorem qkd {p:Int} {f g:Nat→Int} (n:Nat) (h:∀ i,i<n→p∣f i - g i):p∣su n f - su n g:=by
  rw [← qem];exact qlx n h
theorem Inv2.flip {p:Int} {k:Nat} {M T:Nat→Nat→Int} (I:Inv2 p k M T):Inv2 p k (fun i j=>M j i) (fun i j=>T j i):=
  ⟨fun i hi j hj=>by rw [qag (g:=fun t=>T j t*M t i) k fun t _=>Int.mul_comm _ _,qiK];exact I.tm j hj i hi,fun i hi j hj=>by rw [qag (g:=fun t=>M j t*T t i) k fun t _=>Int.mul_comm _ _,qiK];exact I.mt j hj i hi⟩
theorem Inv2.zero {p:Int} {k:Nat} {M T:Nat→Nat→Int} (I:Inv2 p k M T):∀ (e:Nat) {x:Nat→Int},(∀ i,i<k→p ^ e∣su k fun j=>M i j*x j)→∀ j,j<k→p ^ e∣x j
  | 0,_,_=>fun j _=>by rw [Int.pow_zero];exact Int.one_dvd _
  | e+1,x,h=>fun j hj=>by
    have ih:=Inv2.zero I e (x:=x) fun i hi=>Int.dvd_trans ⟨p,Int.pow_succ p e⟩ (h i hi)
    have h1:p ^ (e+1)∣su k fun i=>T j i*su k fun t=>M i t*x t:=qlx k fun i hi=>Int.dvd_trans (h i hi) (Int.dvd_mul_left _ _)
    rw [qag (g:=fun i=>su k fun t=>T j i*(M i t*x t)) k fun i _=>by rw [qaK],qbj,qag (g:=fun t=>(su k fun i=>T j i*M i t)*x t) k fun t _=>by rw [← qaI];exact qag k fun i _=>by rw [Int.mul_assoc]] at h1
    have h2:p ^ (e+1)∣su k (fun t=>(su k fun i=>T j i*M i t)*x t) - su k (fun t=>dl j t*x t):=qkd k fun t ht=>by
      rw [← Int.sub_mul,Int.pow_succ,Int.mul_comm]
      obtain ⟨y,hy⟩:=I.tm j hj t ht
      obtain ⟨z,hz⟩:=ih t ht
      exact ⟨y*z,by rw [hy,hz];grind⟩
    rw [qff x hj] at h2
    obtain ⟨y,hy⟩:=h1
    obtain ⟨z,hz⟩:=h2
    exact ⟨y - z,by rw [Int.mul_sub];omega⟩
theorem Inv2.null {p k:Nat} {M T:Nat→Nat→Int} (p2:2≤p) (I:Inv2 (p:Int) k M T) {x:Nat→Int} (h:∀ i,i<k→(su k fun j=>M i j*x j)=0):∀ j,j<k→x j=0:=fun j hj=>by
  have d:=I.zero (x j).natAbs (x:=x) (fun i hi=>by rw [h i hi];exact Int.dvd_zero _) j hj
  have d2:p ^ (x j).natAbs∣(x j).natAbs:=by
    have:=Int.natAbs_dvd_natAbs.mpr d
    rwa [Int.natAbs_pow,Int.natAbs_natCast] at this
  have lt:(x j).natAbs<p ^ (x j).natAbs:=Nat.lt_pow_self (by omega)
  have:=Nat.eq_zero_of_dvd_of_lt d2 lt
  omega
theorem Inv2.small {p k A X:Nat} {M T:Nat→Nat→Int} {b:Nat→Int} (p2:2≤p) (I:Inv2 (p:Int) k M T) (hA:∀ i,i<k→∀ j,j<k→(M i j).natAbs≤A) (hb:∀ i,i<k→(b i).natAbs≤A) (A1:1≤A) (hX:X=(2*((k+1)*A)) ^ k) :
    ∃ (x:Nat→Int) (D:Int),0<D∧D≤X∧(∀ j,(x j).natAbs≤X)∧∀ i,i<k→su k (fun j=>M i j*x j)=b i*D:=by
  obtain ⟨x,⟨j,hj,xj⟩,xb,xs⟩:=qlw (k:=k) (A:=A) (M:=fun i j=>if j=k then - b i else M i j) (fun i hi j hj=>by
    show (if j=k then - b i else M i j).natAbs≤A
    by_cases q:j=k
    · rw [if_pos q];have:=hb i hi;omega
    · rw [if_neg q];exact hA i hi j (by omega)) A1 hX
  have e:∀ i,i<k→su k (fun j=>M i j*x j)=b i*x k:=fun i hi=>by
    have h:su k (fun j=>(if j=k then - b i else M i j)*x j)+(if k=k then - b i else M i k)*x k=0:=xs i hi
    rw [if_pos rfl,qag (g:=fun j=>M i j*x j) k fun j hj=>by rw [if_neg (by omega)],Int.neg_mul] at h
    omega
  have D0:x k≠0:=fun z=>xj (by
    by_cases q:j=k
    · rw [q];exact z
    · exact I.null p2 (x:=x) (fun i hi=>by rw [e i hi,z,Int.mul_zero]) j (by omega))
  have xk:=xb k
  rcases Int.lt_or_gt_of_ne D0 with q | q
  · exact ⟨fun j=>- x j,- x k,by omega,by omega,fun j=>by have:=xb j;show (- x j).natAbs≤X;omega,fun i hi=>by
      rw [qag (g:=fun j=>(-1)*(M i j*x j)) k fun j _=>by rw [Int.mul_neg,Int.neg_mul,Int.one_mul],qaK,e i hi,Int.mul_neg];omega⟩
  · exact ⟨x,x k,q,by omega,xb,e⟩
end Bs
namespace Bs
structure Eu (m w one oth s t:Int):Prop where
  s0:0≤s
  t1:1≤t
  o0:0≤oth
  lt:oth<one
  det:one*t+oth*s=m
  sg:(m∣oth - t*w∧m∣one+s*w)∨(m∣oth+t*w∧m∣one - s*w)
theorem Eu.start {m w:Int} (w0:0≤w) (wm:w<m):Eu m w m w 0 1:=
  ⟨by omega,by omega,w0,wm,by omega,.inl ⟨⟨0,by omega⟩,⟨1,by omega⟩⟩⟩
theorem Eu.next {m w one oth s t:Int} (E:Eu m w one oth s t) (h:0<oth):Eu m w oth (one - one / oth*oth) t (s+one / oth*t):=by
  have r:one - one / oth*oth=one % oth:=by rw [Int.emod_def,Int.mul_comm]
  have q1:0≤one / oth:=Int.ediv_nonneg (by have:=E.lt;omega) E.o0
  have q2:0≤one / oth*t:=Int.mul_nonneg q1 (by have:=E.t1;omega)
  have q3:1≤one / oth:=(Int.le_ediv_iff_mul_le h).mpr (by have:=E.lt;omega)
  have q4:1*t≤one / oth*t:=Int.mul_le_mul_of_nonneg_right q3 (by have:=E.t1;omega)
  generalize one / oth=q at *
  refine ⟨by have:=E.t1;omega,by have:=E.t1;have:=E.s0;omega,by rw [r];exact Int.emod_nonneg _ (by omega),by rw [r];exact Int.emod_lt_of_pos _ h,?_,?_⟩
  · have:=E.det;grind
  · rcases E.sg with ⟨⟨x,hx⟩,⟨y,hy⟩⟩ | ⟨⟨x,hx⟩,⟨y,hy⟩⟩
    · exact .inr ⟨⟨y - q*x,by grind⟩,⟨x,by grind⟩⟩
    · exact .inl ⟨⟨y - q*x,by grind⟩,⟨x,by grind⟩⟩
theorem qnj {m w one oth s t u v:Int} (det:one*t+oth*s=m) (t1:1≤t) (o0:0≤oth) (m0:0<m) (v0:0<v) (h1:m∣oth - t*w) (h2:m∣one+s*w) (h3:m∣v*w - u) (sz:(u.natAbs:Int)*t+oth*v<m):∃ c,0<c∧v=t*c∧u=oth*c:=by
  have ov:0≤oth*v:=Int.mul_nonneg o0 (by omega)
  have z:u*t - oth*v=0:=by
    have d:m∣u*t - oth*v:=by
      obtain ⟨x,hx⟩:=h1;obtain ⟨y,hy⟩:=h3
      exact ⟨- (x*v) - y*t,by grind⟩
    have ab:(u*t - oth*v).natAbs<m.natAbs:=by
      have a1:(u*t).natAbs=u.natAbs*t.natAbs:=Int.natAbs_mul u t
      have a2:((u.natAbs*t.natAbs:Nat):Int)=(u.natAbs:Int)*t:=by push_cast;rw [show ((t.natAbs:Nat):Int)=t by omega]
      generalize u.natAbs*t.natAbs=n at *
      omega
    exact Int.eq_zero_of_dvd_of_natAbs_lt_natAbs d ab
  obtain ⟨c,hc⟩:m∣one*v+s*u:=by
    obtain ⟨x,hx⟩:=h2;obtain ⟨y,hy⟩:=h3
    exact ⟨x*v - y*s,by grind⟩
  have e1:m*v=m*(t*c):=by grind
  have e2:m*u=m*(oth*c):=by grind
  have e1:=Int.eq_of_mul_eq_mul_left (by omega) e1
  have e2:=Int.eq_of_mul_eq_mul_left (by omega) e2
  refine ⟨c,Int.pos_of_mul_pos_right (a:=t) (by omega) (by omega),e1,e2⟩
theorem Eu.pair {m w one oth s t u v:Int} (E:Eu m w one oth s t) (m0:0<m) (h:m∣v*w - u) (v0:0<v) (sz:(u.natAbs:Int)*t+oth*v<m):∃ c y:Int,0<c∧v=t*c∧y*c=u∧m∣y - t*w:=by
  rcases E.sg with ⟨h1,h2⟩ | ⟨h1,h2⟩
  · obtain ⟨c,c0,e1,e2⟩:=qnj E.det E.t1 E.o0 m0 v0 h1 h2 h sz
    exact ⟨c,oth,c0,e1,e2.symm,h1⟩
  · obtain ⟨c,c0,e1,e2⟩:=qnj (w:=-w) (u:=-u) E.det E.t1 E.o0 m0 v0 (by rw [Int.mul_neg,Int.sub_neg];exact h1) (by rw [Int.mul_neg];exact h2) (by obtain ⟨x,hx⟩:=h;exact ⟨-x,by grind⟩) (by rw [Int.natAbs_neg];exact sz)
    exact ⟨c,- oth,c0,e1,by grind,by obtain ⟨x,hx⟩:=h1;exact ⟨-x,by grind⟩⟩
theorem Eu.fits {m w one oth s t u v lim X:Int} (E:Eu m w one oth s t) (ol:oth≤lim) (lo:lim<one) (l2:lim*lim≤m) (x4:4*X≤lim) (uX:(u.natAbs:Int)≤X) (vX:v≤X) (v0:0<v):(u.natAbs:Int)*t+oth*v<m:=by
  have t1:=E.t1
  have o0:=E.o0
  have h1:(u.natAbs:Int)*t≤X*t:=Int.mul_le_mul_of_nonneg_right uX (by omega)
  have h2:oth*v≤lim*X:=Int.le_trans (Int.mul_le_mul_of_nonneg_right ol (by omega)) (Int.mul_le_mul_of_nonneg_left vX (by omega))
  have h3:4*X*t≤lim*t:=Int.mul_le_mul_of_nonneg_right x4 (by omega)
  have h4:lim*t≤one*t:=Int.mul_le_mul_of_nonneg_right (by omega) (by omega)
  have h5:lim*(4*X)≤lim*lim:=Int.mul_le_mul_of_nonneg_left x4 (by omega)
  have h6:0≤oth*s:=Int.mul_nonneg o0 E.s0
  have h7:=E.det
  have e1:4*X*t=4*(X*t):=Int.mul_assoc _ _ _
  have e2:lim*(4*X)=4*(lim*X):=by rw [← Int.mul_assoc,Int.mul_comm lim 4,Int.mul_assoc]
  have:0<lim*X:=Int.mul_pos (by omega) (by omega)
  omega
end Bs
namespace Bs
theorem domQ:Dom Rat:=⟨by decide,fun {a b} e=>by
  by_cases h:a=0
  · exact .inl h
  · refine .inr ?_
    have:a⁻¹*(a*b)=0:=by rw [e];grind
    rw [← Rat.mul_assoc,Rat.inv_mul_cancel a h] at this
    grind⟩
theorem qqo (x:Rat) (h:x≠0):∃ y,x*y=1:=⟨x⁻¹,Rat.mul_inv_cancel x h⟩
theorem qdl (f:Nat→Int):∀ n,((su n f:Int):Rat)=su n fun i=>(f i:Rat)
  | 0=>rfl
  | n+1=>by
    show ((su n f+f n:Int):Rat)=su n (fun i=>(f i:Rat))+(f n:Rat)
    rw [Rat.intCast_add,qdl f n]
theorem qc2 {a b:Int} (h:(a:Rat)=(b:Rat)):a=b:=Rat.intCast_inj.mp h
theorem qly (v:Nat→Rat):∀ n,∃ (D:Int) (V:Nat→Int),D≠0∧∀ i,i<n→(V i:Rat)=(D:Rat)*v i
  | 0=>⟨1,fun _=>0,by decide,fun i h=>absurd h (Nat.not_lt_zero i)⟩
  | n+1=>by
    obtain ⟨D,V,d0,h⟩:=qly v n
    have q0:((v n).den:Int)≠0:=by have:=(v n).den_nz;omega
    have e:(v n)*((v n).den:Rat)=((v n).num:Rat):=by
      have h1:((v n).num:Rat) / (((v n).den:Int):Rat)=v n:=(Rat.divInt_eq_div (v n).num ((v n).den:Int)).symm.trans (Rat.num_divInt_den (v n))
      have h2:(((v n).den:Int):Rat)=((v n).den:Rat):=rfl
      have h3:(((v n).den:Int):Rat)≠0:=fun z=>q0 (qc2 z)
      rw [h2] at h1 h3
      have:=Rat.div_mul_cancel (a:=((v n).num:Rat)) h3
      rw [h1] at this
      exact this
    refine ⟨D*((v n).den:Int),fun i=>if i=n then D*(v n).num else V i*((v n).den:Int),Int.mul_ne_zero d0 q0,fun i hi=>?_⟩
    have ec:(((v n).den:Int):Rat)=((v n).den:Rat):=Rat.intCast_natCast _
    by_cases q:i=n
    · show ((if i=n then D*(v n).num else _:Int):Rat)=_
      rw [if_pos q,q,Rat.intCast_mul,Rat.intCast_mul,ec]
      grind
    · show ((if i=n then _ else V i*((v n).den:Int):Int):Rat)=_
      rw [if_neg q,Rat.intCast_mul,Rat.intCast_mul,h i (by omega),ec]
      grind
theorem RE.dw {R:Type} [Lean.Grind.CommRing R] {n w d:Nat} {a u l:Nat→Nat→R} {o c:Nat→Nat} (I:RE n w a w d o c u l):d≤w:=by
  have up:∀ m,m<d→m≤c m:=fun m=>by
    induction m with
    | zero=>intro _;omega
    | succ m ih=>
      intro h
      have h1:=ih (by omega)
      have h2:=I.cr m (m+1) (by omega) h
      omega
  by_cases z:d=0
  · omega
  · have h1:=up (d - 1) (by omega)
    have h2:=I.cl (d - 1) (by omega)
    omega
theorem qiL {n w A:Nat} {b:Nat→Nat→Int} (hA:∀ r,r<n→∀ j,j<w→(b r j).natAbs≤A) (A1:1≤A) :
    ∃ (d:Nat) (o c:Nat→Nat) (D:Nat→Int),d≤w∧(∀ t,t<d→o t<n)∧(∀ s,s<d→c s<w)∧(∀ s,s<d→D s≠0∧(D s).natAbs≤(2*((d+1)*A)) ^ d)∧(∀ s,s<d→∃ x:Nat→Int,∀ s',s'<d→su d (fun t=>x t*b (o t) (c s'))=D s*dl s s')∧
      ∀ i,i<n→∃ z:Nat→Rat,∀ j,j<w→(b i j:Rat)=su d (fun t=>z t*(b (o t) j:Rat)):=by
  obtain ⟨d,o,c,u,l,I⟩:=RE.all n w (fun r j=>(b r j:Rat)) qqo w (Nat.le_refl _)
  have dn:=I.dn
  have U:=I.minor (Nat.le_refl _)
  have U2:=qp7 domQ (W:=u) (M:=fun t s=>(b (o t) (c s):Rat)) U
  have cw:∀ s,s<d→c s<w:=fun s hs=>I.cl s hs
  have small:∀ s,s<d→∃ (D:Int) (x:Nat→Int),(D≠0∧D.natAbs≤(2*((d+1)*A)) ^ d)∧∀ s',s'<d→su d (fun t=>x t*b (o t) (c s'))=D*dl s s':=fun s hs=>by
    obtain ⟨x,⟨j,hj,xj⟩,xb,xs⟩:=qlw (k:=d) (A:=A) (M:=fun s' t=>if t=d then - dl s s' else b (o t) (c s')) (fun s' hs' t ht=>by
      show (if t=d then - dl s s' else b (o t) (c s')).natAbs≤A
      by_cases q:t=d
      · rw [if_pos q];unfold dl;split <;> (show Int.natAbs _≤A) <;> simp <;> omega
      · rw [if_neg q];exact hA _ (I.on t (by omega)) _ (cw s' hs')) A1 rfl
    have e:∀ s',s'<d→su d (fun t=>x t*b (o t) (c s'))=x d*dl s s':=fun s' hs'=>by
      have h:su d (fun t=>(if t=d then - dl s s' else b (o t) (c s'))*x t)+(if d=d then - dl s s' else b (o d) (c s'))*x d=0:=xs s' hs'
      rw [if_pos rfl,qag (g:=fun t=>x t*b (o t) (c s')) d fun t ht=>by rw [if_neg (by omega),Int.mul_comm]] at h
      grind
    have D0:x d≠0:=fun z=>xj (by
      by_cases q:j=d
      · rw [q];exact z
      · have hjd:j<d:=by omega
        refine qc2 ?_
        have h0:∀ s',s'<d→su d (fun t=>(x t:Rat)*(b (o t) (c s'):Rat))=0:=fun s' hs'=>by
          have:=e s' hs'
          rw [z,Int.zero_mul] at this
          have:=congrArg (fun y:Int=>(y:Rat)) this
          simp only [qdl] at this
          rw [qag (g:=fun t=>(x t:Rat)*(b (o t) (c s'):Rat)) d fun t _=>Rat.intCast_mul _ _] at this
          exact this
        have h1:su d (fun s'=>su d (fun t=>(x t:Rat)*(b (o t) (c s'):Rat))*u s' j)=0:=qaP fun s' hs'=>by rw [h0 s' hs',Rat.zero_mul]
        rw [qag (g:=fun s'=>su d fun t=>(x t:Rat)*((b (o t) (c s'):Rat)*u s' j)) d fun s' _=>by rw [← qaI];exact qag d fun t _=>by rw [Rat.mul_assoc],qbj,qag (g:=fun t=>(x t:Rat)*dl t j) d fun t ht=>by rw [qaK,U2 t ht j hjd],qfX,if_pos hjd] at h1
        exact h1)
    exact ⟨x d,x,⟨D0,xb d⟩,e⟩
  obtain ⟨D,hD⟩:∃ D:Nat→Int,∀ s (h:s<d),D s=Classical.choose (small s h):=⟨fun s=>if h:s<d then Classical.choose (small s h) else 1,fun s h=>dif_pos h⟩
  refine ⟨d,o,c,D,I.dw,fun t ht=>I.on t (by omega),cw,fun s hs=>?_,fun s hs=>?_,fun i hi=>I.span hi⟩
  · rw [hD s hs]
    exact (Classical.choose_spec (Classical.choose_spec (small s hs))).1
  · rw [hD s hs]
    exact ⟨_,(Classical.choose_spec (Classical.choose_spec (small s hs))).2⟩
noncomputable def pd:Nat→(Nat→Int)→Int
  | 0,_=>1
  | n+1,f=>pd n f*f n
theorem qo5 {f:Nat→Int}:∀ n,(∀ s,s<n→f s≠0)→pd n f≠0
  | 0,_=>Int.one_ne_zero
  | n+1,h=>Int.mul_ne_zero (qo5 n fun s hs=>h s (by omega)) (h n (by omega))
theorem qlz {f:Nat→Int}:∀ {n s:Nat},s<n→f s∣pd n f
  | n+1,s,h=>by
    by_cases q:s=n
    · rw [q];exact ⟨pd n f,Int.mul_comm _ _⟩
    · exact Int.dvd_trans (qlz (n:=n) (by omega)) ⟨f n,rfl⟩
theorem qn9 {f:Nat→Int} {X:Nat}:∀ n,(∀ s,s<n→(f s).natAbs≤X)→(pd n f).natAbs≤X ^ n
  | 0,_=>Nat.le_refl _
  | n+1,h=>by
    show (pd n f*f n).natAbs≤_
    rw [Int.natAbs_mul,Nat.pow_succ]
    exact Nat.mul_le_mul (qn9 n fun s hs=>h s (by omega)) (h n (by omega))
end Bs
namespace Bs
noncomputable def bn:Nat→Nat→Nat
  | _,0=>1
  | 0,_+1=>0
  | n+1,k+1=>bn n k+bn n (k+1)
theorem qpv (n:Nat):bn n 0=1:=by cases n <;> rfl
theorem qo6:∀ n k:Nat,(k+1)*bn (n+1) (k+1)=(n+1)*bn n k
  | 0,0=>rfl
  | 0,k+1=>by show (k+2)*(0+0)=1*0;omega
  | n+1,k=>by
    show (k+1)*(bn (n+1) k+bn (n+1) (k+1))=_
    cases k with
    | zero=>
      have h:=qo6 n 0
      rw [qpv] at h ⊢
      omega
    | succ k=>
      have h1:=qo6 n k
      have h2:=qo6 n (k+1)
      have h3:bn (n+1) (k+1)=bn n k+bn n (k+1):=rfl
      generalize bn (n+1) (k+1+1)=x at *
      generalize bn (n+1) (k+1)=y at *
      generalize bn n k=a at *
      generalize bn n (k+1)=b at *
      grind
theorem harm {M N:Nat} (h:∀ m,0<m→m≤N→m∣M):∀ k n:Nat,k≤n→n+1≤N→∃ t:Int,t*(((n:Int)+1)*(bn n k:Int))=(M:Int)
  | 0,n,_,hn=>by
    obtain ⟨t,ht⟩:=h (n+1) (by omega) hn
    refine ⟨(t:Int),?_⟩
    rw [qpv,ht]
    push_cast
    grind
  | k+1,0,hk,_=>absurd hk (by omega)
  | k+1,n+1,hk,hn=>by
    obtain ⟨t1,h1⟩:=harm h k n (by omega) (by omega)
    obtain ⟨t2,h2⟩:=harm h k (n+1) (by omega) hn
    refine ⟨t1 - t2,?_⟩
    have i1:((k:Int)+1)*(bn (n+1) (k+1):Int)=((n:Int)+1)*(bn n k:Int):=by exact_mod_cast qo6 n k
    have i2:((n:Int)+1 - k)*(bn (n+1) k:Int)=((n:Int)+1)*(bn n k:Int):=by
      cases k with
      | zero=>rw [qpv,qpv];push_cast;omega
      | succ j=>
        have e1:((j:Int)+1)*(bn (n+1) (j+1):Int)=((n:Int)+1)*(bn n j:Int):=by exact_mod_cast qo6 n j
        have e2:(bn (n+1) (j+1):Int)=(bn n j:Int)+(bn n (j+1):Int):=by
          have:bn (n+1) (j+1)=bn n j+bn n (j+1):=rfl
          omega
        push_cast
        grind
    push_cast at h2 ⊢
    have k0:((k:Int)+1)≠0:=by omega
    refine Int.eq_of_mul_eq_mul_left k0 ?_
    generalize (bn (n+1) (k+1):Int)=b at *
    generalize (bn n k:Int)=a at *
    generalize (bn (n+1) k:Int)=c at *
    grind
theorem qnk:∀ n:Nat,2 ^ n≤bn (2*n) n
  | 0=>Nat.le_refl _
  | n+1=>by
    have ih:=qnk n
    have e:2*(n+1)=2*n+1+1:=by omega
    rw [e,Nat.pow_succ]
    have h1:bn (2*n+1+1) (n+1)=bn (2*n+1) n+bn (2*n+1) (n+1):=rfl
    have h2:bn (2*n+1) (n+1)=bn (2*n) n+bn (2*n) (n+1):=rfl
    have h3:bn (2*n) n≤bn (2*n+1) n:=by
      cases n with
      | zero=>exact Nat.le_refl _
      | succ m=>
        show _≤bn (2*(m+1)) m+bn (2*(m+1)) (m+1)
        omega
    omega
theorem qo7 {M n:Nat} (M0:0<M) (h:∀ m,0<m→m≤2*n+1→m∣M):2 ^ n≤M:=by
  obtain ⟨t,ht⟩:=harm h n (2*n) (by omega) (by omega)
  have b:=qnk n
  have b0:0<2 ^ n:=Nat.pow_pos (by decide)
  have d:(bn (2*n) n:Int)∣(M:Int):=⟨t*(((2*n:Nat):Int)+1),by rw [← ht];grind⟩
  have:=Nat.le_of_dvd M0 (Int.natCast_dvd_natCast.mp d)
  omega
theorem qlA:∀ m:Nat,2≤m→∃ q,Pr q∧q∣m:=by
  intro m
  induction m using Nat.strongRecOn with
  | _ m ih=>
    intro h
    by_cases p:Pr m
    · exact ⟨m,p,Nat.dvd_refl m⟩
    · obtain ⟨d,dm,d1,d2⟩:∃ d,d∣m∧d≠1∧d≠m:=Classical.byContradiction fun z=>p ⟨h,fun d hd=>Classical.byContradiction fun y=>z ⟨d,hd,fun e=>y (.inl e),fun e=>y (.inr e)⟩⟩
      have:=Nat.le_of_dvd (by omega) dm
      have d0:d≠0:=fun z=>by rw [z] at dm;have:=Nat.eq_zero_of_zero_dvd dm;omega
      obtain ⟨q,hq,hd⟩:=ih d (by omega) (by omega)
      exact ⟨q,hq,Nat.dvd_trans hd dm⟩
noncomputable def fct:Nat→Nat
  | 0=>1
  | n+1=>(n+1)*fct n
theorem qlB:∀ n,0<fct n
  | 0=>Nat.one_pos
  | n+1=>Nat.mul_pos (Nat.succ_pos n) (qlB n)
theorem qlC:∀ {n m:Nat},0<m→m≤n→m∣fct n
  | 0,_,h,h2=>absurd h (by omega)
  | n+1,m,h,h2=>by
    by_cases q:m=n+1
    · rw [q];exact ⟨fct n,rfl⟩
    · exact Nat.dvd_trans (qlC h (by omega)) ⟨n+1,Nat.mul_comm _ _⟩
theorem qnl {b:Nat}:∀ {n:Nat},n≤2 ^ b→fct n≤2 ^ (b*n)
  | 0,_=>Nat.one_le_two_pow
  | n+1,h=>by
    show (n+1)*fct n≤_
    rw [Nat.mul_succ,Nat.pow_add,Nat.mul_comm (n+1)]
    exact Nat.mul_le_mul (qnl (by omega)) h
theorem smooth {F:Nat} (h:∀ q,Pr q→q<2 ^ 61→q∣F):∀ e m:Nat,0<m→m<2 ^ e→m<2 ^ 61→m∣F ^ e
  | 0,m,h0,h1,_=>by
    have:m<1:=h1
    omega
  | e+1,m,h0,h1,h2=>by
    by_cases q:m=1
    · rw [q];exact Nat.one_dvd _
    · obtain ⟨q,pq,c,hc⟩:=qlA m (by omega)
      have q2:=pq.two
      have c0:c≠0:=fun z=>by rw [z] at hc;omega
      have le:2*c≤q*c:=Nat.mul_le_mul_right c q2
      have le2:q*1≤q*c:=Nat.mul_le_mul_left q (by omega)
      rw [Nat.pow_succ] at h1
      have ih:=smooth h e c (by omega) (by omega) (by omega)
      rw [hc,Nat.mul_comm,Nat.pow_succ]
      exact Nat.mul_dvd_mul ih (h q pq (by omega))
theorem qic {D:Nat} (d0:0<D) (hD:D≤2 ^ 1000000):∃ q,Pr q∧2 ^ 31<q∧q<2 ^ 61∧¬ q∣D:=by
  refine Classical.byContradiction fun no=>?_
  have all:∀ q,Pr q→q<2 ^ 61→q∣fct (2 ^ 31)*D:=fun q pq lt=>by
    rcases Nat.lt_or_ge (2 ^ 31) q with c | c
    · exact Nat.dvd_trans (Classical.byContradiction fun z=>no ⟨q,pq,c,lt,z⟩) ⟨fct (2 ^ 31),Nat.mul_comm _ _⟩
    · exact Nat.dvd_trans (qlC (by have:=pq.two;omega) c) ⟨D,rfl⟩
  obtain ⟨N,hN⟩:∃ N:Nat,N=576460752303423488:=⟨_,rfl⟩
  obtain ⟨E,hE⟩:∃ E:Nat,E=66571993088:=⟨_,rfl⟩
  have f1:fct (2 ^ 31)≤2 ^ E:=by
    have:=qnl (b:=31) (n:=2 ^ 31) (Nat.le_refl _)
    rw [show 31*2 ^ 31=E by rw [hE]] at this
    exact this
  have le:fct (2 ^ 31)*D≤2 ^ (E+1000000):=by
    rw [Nat.pow_add]
    exact Nat.mul_le_mul f1 hD
  have pos:0<fct (2 ^ 31)*D:=Nat.mul_pos (qlB _) d0
  generalize fct (2 ^ 31)*D=F at *
  have h1:=qo7 (M:=F ^ 61) (n:=N) (Nat.pow_pos pos) fun m m0 ml=>smooth all 61 m m0 (by omega) (by omega)
  have h2:F ^ 61≤(2 ^ (E+1000000)) ^ 61:=Nat.pow_le_pow_left le 61
  rw [← Nat.pow_mul] at h2
  have:=(Nat.pow_le_pow_iff_right (a:=2) (by decide)).mp (Nat.le_trans h1 h2)
  omega
end Bs
namespace Bs
inductive Sn (w:Nat) (P:(Nat→Rat)→Prop):(Nat→Rat)→Prop
  | zer {v:Nat→Rat} (h:∀ j,j<w→v j=0):Sn w P v
  | add {u v x:Nat→Rat} (c:Rat) (hu:P u) (hv:Sn w P v) (h:∀ j,j<w→x j=c*u j+v j):Sn w P x
theorem Sn.lin {w:Nat} {P:(Nat→Rat)→Prop} {u v:Nat→Rat} (hu:Sn w P u) (hv:Sn w P v):∀ {c:Rat} {x:Nat→Rat},(∀ j,j<w→x j=c*u j+v j)→Sn w P x:=by
  induction hu with
  | zer h=>intro c x e;induction hv generalizing x with
    | zer h'=>exact .zer fun j hj=>by rw [e j hj,h j hj,h' j hj];grind
    | add d hp hv' he ih=>exact .add d hp hv' fun j hj=>by rw [e j hj,h j hj,he j hj];grind
  | @add p q y d hp hq he ih=>intro c x e;exact .add (c*d) hp (ih (c:=c) (x:=fun j=>c*q j+v j) fun j _=>rfl) fun j hj=>by rw [e j hj,he j hj];grind
theorem Sn.of {w:Nat} {P:(Nat→Rat)→Prop} {u x:Nat→Rat} (c:Rat) (hu:P u) (h:∀ j,j<w→x j=c*u j):Sn w P x:=.add c hu (.zer (v:=fun _=>0) fun _ _=>rfl) fun j hj=>by rw [h j hj];grind
theorem Sn.ext {w:Nat} {P:(Nat→Rat)→Prop} {u x:Nat→Rat} (hu:Sn w P u) (h:∀ j,j<w→x j=u j):Sn w P x:=hu.lin (.zer (v:=fun _=>0) fun _ _=>rfl) (c:=1) fun j hj=>by rw [h j hj];grind
noncomputable def Inde (w r:Nat) (b:Nat→Nat→Rat):Prop:=∀ c:Nat→Rat,(∀ j,j<w→su r (fun t=>c t*b t j)=0)→∀ t,t<r→c t=0
structure Rk (w:Nat) (P:(Nat→Rat)→Prop) (r:Nat):Prop where
  ex:∃ b:Nat→Nat→Rat,Inde w r b∧(∀ t,t<r→Sn w P (b t))∧∀ u,P u→∃ z:Nat→Rat,∀ j,j<w→u j=su r fun t=>z t*b t j
theorem qpT {w r:Nat} {P:(Nat→Rat)→Prop} {b:Nat→Nat→Rat} (h:∀ u,P u→∃ z:Nat→Rat,∀ j,j<w→u j=su r fun t=>z t*b t j) {v:Nat→Rat} (hv:Sn w P v):∃ z:Nat→Rat,∀ j,j<w→v j=su r fun t=>z t*b t j:=by
  induction hv with
  | zer e=>exact ⟨fun _=>0,fun j hj=>by rw [e j hj,qaP fun t _=>by grind]⟩
  | add c hp _ he ih=>
    obtain ⟨y,hy⟩:=h _ hp
    obtain ⟨z,hz⟩:=ih
    refine ⟨fun t=>c*y t+z t,fun j hj=>?_⟩
    rw [he j hj,hy j hj,hz j hj,← qaK,← qel]
    exact qag r fun t _=>by grind
theorem Rk.le {w r s:Nat} {P:(Nat→Rat)→Prop} (h:Rk w P r) (k:Rk w P s):r≤s:=by
  obtain ⟨b,ind,inn,_⟩:=h.ex
  obtain ⟨b',_,_,spn⟩:=k.ex
  refine Classical.byContradiction fun lt=>?_
  have co:∀ t,∃ z:Nat→Rat,t<r→∀ j,j<w→b t j=su s fun u=>z u*b' u j:=fun t=>by
    by_cases ht:t<r
    · obtain ⟨z,hz⟩:=qpT spn (inn t ht);exact ⟨z,fun _=>hz⟩
    · exact ⟨fun _=>0,fun h=>absurd h ht⟩
  obtain ⟨Z,hZ⟩:∃ Z:Nat→Nat→Rat,∀ t,t<r→∀ j,j<w→b t j=su s fun u=>Z t u*b' u j:=⟨fun t=>Classical.choose (co t),fun t=>Classical.choose_spec (co t)⟩
  obtain ⟨c,⟨i,hi,ci⟩,e⟩:=dep domQ s r Z (by omega)
  refine ci (ind c (fun j hj=>?_) i hi)
  rw [qag (g:=fun t=>su s fun u=>c t*Z t u*b' u j) r fun t ht=>by rw [hZ t ht j hj,← qaK];exact qag s fun u _=>by grind,qbj]
  exact qaP fun u hu=>by rw [qaI,e u hu];grind
theorem Rk.uniq {w r s:Nat} {P:(Nat→Rat)→Prop} (h:Rk w P r) (k:Rk w P s):r=s:=Nat.le_antisymm (h.le k) (k.le h)
theorem Rk.nil {w:Nat} {P:(Nat→Rat)→Prop} (h:w=0∨∀ u,¬ P u):Rk w P 0:=⟨fun _ _=>0,fun _ _ t h=>absurd h (Nat.not_lt_zero t),fun t h=>absurd h (Nat.not_lt_zero t),fun u hu=>⟨fun _=>0,fun j hj=>by
  rcases h with z | z
  · omega
  · exact absurd hu (z u)⟩⟩
noncomputable def shf (v:Nat→Rat):Nat→Rat:=fun j=>if j=0 then 0 else v (j - 1)
theorem qiM (v:Nat→Rat) (j:Nat):shf v (j+1)=v j:=by unfold shf;rw [if_neg (Nat.succ_ne_zero j)];rfl
theorem qjq {r:Nat} {c:Nat→Rat} {b:Nat→Nat→Rat} {j:Nat}:su r (fun t=>c t*shf (b t) (j+1))=su r fun t=>c t*b t j:=qag r fun t _=>by rw [qiM]
theorem Sn.shf {w:Nat} {P P':(Nat→Rat)→Prop} (h:∀ u,P' u→Sn (w+1) P (shf u)) {v:Nat→Rat} (hv:Sn w P' v):Sn (w+1) P (Bs.shf v):=by
  induction hv with
  | zer e=>
    refine .zer fun j hj=>?_
    cases j with
    | zero=>rfl
    | succ j=>rw [qiM];exact e j (by omega)
  | add c hp _ he ih=>
    refine (h _ hp).lin ih (c:=c) fun j hj=>?_
    cases j with
    | zero=>show (0:Rat)=c*0+0;grind
    | succ j=>rw [qiM,qiM,qiM];exact he j (by omega)
theorem Rk.skip {w r:Nat} {P P':(Nat→Rat)→Prop} (h0:∀ u,P u→u 0=0∧∃ v,P' v∧∀ j,j<w→u (j+1)=v j) (h1:∀ v,P' v→∃ u,P u∧∀ j,j<w→u (j+1)=v j) (k:Rk w P' r):Rk (w+1) P r:=by
  obtain ⟨b,ind,inn,spn⟩:=k.ex
  refine ⟨fun t=>shf (b t),fun c e=>ind c fun j hj=>?_,fun t ht=>Sn.shf (fun v hv=>?_) (inn t ht),fun u hu=>?_⟩
  · have:=e (j+1) (by omega)
    rwa [qjq] at this
  · obtain ⟨u,hu,e⟩:=h1 v hv
    refine .of 1 hu fun j hj=>?_
    cases j with
    | zero=>show (0:Rat)=1*u 0;rw [(h0 u hu).1];grind
    | succ j=>rw [qiM,e j (by omega)];grind
  · obtain ⟨u0,v,hv,e⟩:=h0 u hu
    obtain ⟨z,hz⟩:=spn v hv
    refine ⟨z,fun j hj=>?_⟩
    cases j with
    | zero=>rw [u0,qaP fun t _=>by show z t*0=0;grind]
    | succ j=>rw [qjq,e j (by omega),hz j (by omega)]
theorem Rk.lead {w r:Nat} {P P':(Nat→Rat)→Prop} {l:Nat→Rat} (hl:P l) (l0:l 0≠0) (h0:∀ u,P u→(∀ j,j<w+1→u j=l j)∨∃ v,P' v∧∀ j,j<w→v j=u (j+1) - u 0 / l 0*l (j+1)) (h1:∀ v,P' v→∃ u,P u∧∀ j,j<w→v j=u (j+1) - u 0 / l 0*l (j+1)) (k:Rk w P' r):Rk (w+1) P (r+1):=by
  obtain ⟨b,ind,inn,spn⟩:=k.ex
  have e:∀ (c:Nat→Rat) (j:Nat),su (r+1) (fun t=>c t*(if t=r then l j else shf (b t) j))=su r (fun t=>c t*shf (b t) j)+c r*l j:=fun c j=>by
    show su r _+c r*(if r=r then l j else _)=_
    rw [if_pos rfl,qag (g:=fun t=>c t*shf (b t) j) r fun t ht=>by rw [if_neg (by omega)]]
  have z0:∀ c:Nat→Rat,su r (fun t=>c t*shf (b t) 0)=0:=fun c=>qaP fun t _=>by show c t*0=0;grind
  refine ⟨fun t j=>if t=r then l j else shf (b t) j,fun c h=>?_,fun t ht=>?_,fun u hu=>?_⟩
  · have cr:c r=0:=by
      have:=h 0 (by omega)
      rw [e,z0] at this
      have:c r*l 0=0:=by grind
      exact (domQ.mul this).resolve_right l0
    have:=ind c fun j hj=>by
      have:=h (j+1) (by omega)
      rw [e,qjq,cr] at this
      grind
    intro t ht
    by_cases q:t=r
    · rw [q];exact cr
    · exact this t (by omega)
  · by_cases q:t=r
    · exact .of 1 hl fun j _=>by show (if t=r then l j else _)=_;rw [if_pos q];grind
    · refine Sn.ext (u:=shf (b t)) (Sn.shf (fun v hv=>?_) (inn t (by omega))) fun j _=>by show (if t=r then l j else _)=_;rw [if_neg q]
      obtain ⟨u,hu,e⟩:=h1 v hv
      refine .add 1 hu (Sn.of (- (u 0 / l 0)) hl (x:=fun j=>- (u 0 / l 0)*l j) fun _ _=>rfl) fun j hj=>?_
      cases j with
      | zero=>show (0:Rat)=1*u 0 + - (u 0 / l 0)*l 0;grind
      | succ j=>rw [qiM,e j (by omega)];grind
  · rcases h0 u hu with q | ⟨v,hv,ev⟩
    · refine ⟨fun t=>if t=r then 1 else 0,fun j hj=>?_⟩
      rw [e,q j hj,if_pos rfl,qaP fun t ht=>by rw [if_neg (by omega)];grind];grind
    · obtain ⟨z,hz⟩:=spn v hv
      refine ⟨fun t=>if t=r then u 0 / l 0 else z t,fun j hj=>?_⟩
      rw [e,if_pos rfl,qag (g:=fun t=>z t*shf (b t) j) r fun t ht=>by rw [if_neg (by omega)]]
      cases j with
      | zero=>rw [z0];grind
      | succ j=>rw [qjq,← hz j (by omega),ev j (by omega)];grind
end Bs
namespace Bs
open PySem L2
noncomputable def qbo (K:W.Frag):Addr:=match PySem.W.nsIn K PySem.mainGlobals "Core" with | some (some (.ref a))=>a | _=>0
end Bs
namespace Bs
open PySem L2
noncomputable def qaU (_:W.Frag):Sp:=fun vs H Q _=>∃ a b:Int,vs=[.int a,.int b]∧Q (.int ((Int.gcd a b:Nat):Int)) H
noncomputable def qjr (K:W.Frag):Sp:=fun vs H Q _=>∃ (a:Addr) (ns:List Int),vs=[.ref a]∧SqL K H a (ns.map V.int)∧ns.length≤63∧∀ H',Q (.bl true) H'
noncomputable def qfE (_:W.Frag):Sp:=fun vs H Q _=>∃ a b:Int,vs=[.int a,.int b]∧b≠0∧∀ (p:Addr),H p=none→Q (.ref p) (upd H p (.tup [.int (qbQ a b).1,.int (qbQ a b).2]))
noncomputable def qeY (_:W.Frag):Sp:=fun vs H Q _=>∃ (p:Addr) (xs:List V) (l:List Nu) (M:Int),vs=[.ref p]∧(H p=some (.tup xs)∨H p=some (.lst xs))∧Nums H xs l∧qgK l∧Ov l M∧Bd 400000 M∧(∀ q∈l,Bd 60000000 q.1)∧l.length≤1000∧
  ∀ (r a:Addr) (H':Hp),Same H H'→H' r=some (.tup [.ref a,.int (qea l)])→H' a=some (.lst ((qdP l).map V.int))→Q (.ref r) H'
noncomputable def qbp (_:W.Frag):Sp:=fun vs H Q _=>∃ a p:Int,vs=[.int a,.int p]∧2≤p∧Bd 45000 p∧∀ r:Int,0≤r→r<p→(Int.gcd a p=1→p∣r*a - 1)→Q (.int r) H
noncomputable def qb7 (_:W.Frag):Sp:=fun vs H Q _=>∃ (p:Addr) (ns:List Int) (m:Int),vs=[.ref p,.int m]∧H p=some (.lst (ns.map V.int))∧0<m∧ns.length≤1000∧∀ r,H r=none→Q (.ref r) (upd H r (.lst ((ns.map (· % m)).map V.int)))
noncomputable def qdI (_:W.Frag):Sp:=fun vs H Q _=>∃ w p:Int,vs=[.int w,.int p]∧0<p∧∀ r:Int,p∣r - w→2*r.natAbs≤p.natAbs→Q (.int r) H
noncomputable def SDs (H:Hp):List V→List (List Int)→Prop
  | [],[]=>True
  | x::xs,r::rs=>(∃ p,x=.ref p∧H p=some (.lst (r.map V.int)))∧SDs H xs rs
  | _,_=>False
noncomputable def SD (H:Hp) (p:Addr) (rs:List (List Int)):Prop:=∃ xs,H p=some (.lst xs)∧SDs H xs rs
end Bs
namespace Bs
open PySem L2
noncomputable def en (L:List (List Int)) (i j:Nat):Int:=co (L.getD i []) j
noncomputable def Rect (L:List (List Int)) (n w:Nat):Prop:=L.length=n∧∀ r∈L,r.length=w
noncomputable def iN (os:List Nat):List V:=os.map fun i:Nat=>V.int (i:Int)
noncomputable def nth (os:List Nat) (i:Nat):Nat:=os.getD i 0
noncomputable def InP (p:Int) (L:List (List Int)):Prop:=∀ r∈L,∀ z∈r,0≤z∧z<p
noncomputable def BdL (b:Nat) (L:List (List Int)):Prop:=∀ r∈L,∀ z∈r,Bd b z
noncomputable def qfY (_:W.Frag):Sp:=fun vs H Q _=>∃ (a b:Addr) (ns ms:List Int) (n:Nat),vs=[.ref a,.ref b]∧H a=some (.lst (ns.map V.int))∧H b=some (.lst (ms.map V.int))∧ns.length=n∧ms.length=n∧n≤1000∧(∀ z∈ns,Bd 1000000 z)∧(∀ z∈ms,Bd 1000000 z)∧∀ H',Same H H'→Q (.int (su n fun i=>co ns i*co ms i)) H'
noncomputable def qd7 (_:W.Frag):Sp:=fun vs H Q _=>∃ n:Nat,vs=[.int (n:Int)]∧n<2 ^ 45000∧∀ b:Bool,(b=true↔Pr n)→Q (.bl b) H
noncomputable def qcG (_:W.Frag):Sp:=fun vs H Q _=>∃ n g:Nat,vs=[.int (n:Int)]∧Pr g∧n<g∧g<2 ^ 45000∧∀ p:Nat,Pr p→n<p→p≤g→Q (.int (p:Int)) H
noncomputable def qlD:Nat:=2 ^ 127 - 1
noncomputable def p31:Nat:=2 ^ 31 - 1
noncomputable def qcH (_:W.Frag):Sp:=fun vs H Q _=>∃ n g:Nat,vs=[.int (n:Int)]∧Pr g∧(n=qlD∨n<g)∧g<2 ^ 45000∧p31≤g∧∀ p:Nat,Pr p→(n=qlD∧p=p31∨n≠qlD∧n<p)→p≤g→Q (.int (p:Int)) H
noncomputable def qdJ (_:W.Frag):Sp:=fun vs H Q _=>∃ (a:Addr) (xs:List V) (i j:Nat),vs=[.ref a,.int (i:Int),.int (j:Int)]∧H a=some (.lst xs)∧i<xs.length∧j<xs.length∧xs.length≤1000∧∀ (r:Addr) (ys:List V),H r=none→ys.length=xs.length→(∀ k,k<xs.length→ys[k]?=xs[tw i j k]?)→Q (.ref r) (upd H r (.lst ys))
noncomputable def qbs (_:W.Frag):Sp:=fun vs H Q _=>∃ (a b:Addr) (ns ms:List Int) (n c:Nat) (p:Int),vs=[.ref a,.ref b,.int (c:Int),.int p]∧H a=some (.lst (ns.map V.int))∧H b=some (.lst (ms.map V.int))∧ns.length=n∧ms.length=n∧n≤1000∧c<n∧0<p∧Bd 45000 p∧(∀ z∈ns,0≤z∧z<p)∧(∀ z∈ms,0≤z∧z<p)∧
  ∀ (r:Addr) (rs:List Int) (H':Hp),Same H H'→(r=a∨H r=none)→H' r=some (.lst (rs.map V.int))→rs.length=n→(∀ z∈rs,0≤z∧z<p)→(∀ j,j<n→Zm.of p (co rs j)=Zm.of p (co ns j) - Zm.of p (co ns c)*Zm.of p (co ms j))→Q (.ref r) H'
structure Rdc (p:Int) (L:List (List Int)) (n w:Nat) (LL:List (List Int)) (os cs:List Nat):Prop where
  rc:Rect LL os.length w
  lc:cs.length=os.length
  ip:InP p LL
  ri:∃ (o c:Nat→Nat) (u l:Nat→Nat→Zm p),RE n w (fun i j=>Zm.of p (en L i j)) w os.length o c u l∧(∀ i,i<os.length→nth os i=o i)∧(∀ i,i<os.length→nth cs i=c i)∧∀ i,i<os.length→∀ j,j<w→l i j=Zm.of p (en LL i j)
noncomputable def qa9 (_:W.Frag):Sp:=fun vs H Q _=>∃ (a:Addr) (L:List (List Int)) (n w p:Nat),vs=[.ref a,.int (p:Int)]∧SD H a L∧Rect L n w∧n≤100∧w≤100∧Pr p∧Bd 45000 (p:Int)∧
  ∀ (r x y z:Addr) (LL:List (List Int)) (os cs:List Nat) (H':Hp),Same H H'→H' r=some (.tup [.ref x,.ref y,.ref z])→SD H' x LL→H' y=some (.lst (iN os))→H' z=some (.lst (iN cs))→Rdc (p:Int) L n w LL os cs→Q (.ref r) H'
noncomputable def qb8 (_:W.Frag):Sp:=fun vs H Q _=>∃ (a:Addr) (L:List (List Int)) (n w:Nat),vs=[.ref a]∧SD H a L∧Rect L n w∧(n=0→w=0)∧Q (.int (w:Int)) H
noncomputable def qdm (_:W.Frag):Sp:=fun vs H Q _=>∃ (a b:Addr) (ns:List Int) (ps:List Nat),vs=[.ref a,.ref b]∧H a=some (.lst (ns.map V.int))∧H b=some (.lst (iN ps))∧(∀ i∈ps,i<ns.length)∧ps.length≤1000∧∀ r,H r=none→Q (.ref r) (upd H r (.lst ((ps.map (co ns)).map V.int)))
noncomputable def qcQ (_:W.Frag):Sp:=fun vs H Q _=>∃ (a b:Addr) (ps:List Nat) (zs:List Int) (w:Nat),vs=[.ref a,.ref b,.int (w:Int)]∧H a=some (.lst (iN ps))∧H b=some (.lst (zs.map V.int))∧ps.length=zs.length∧(∀ i∈ps,i<w)∧ps.Nodup∧w≤1000∧
  ∀ (r:Addr) (rs:List Int) (H':Hp),Same H H'→H r=none→H' r=some (.lst (rs.map V.int))→rs.length=w→(∀ i,i<ps.length→co rs (nth ps i)=co zs i)→(∀ j,(∀ i,i<ps.length→nth ps i≠j)→co rs j=0)→Q (.ref r) H'
noncomputable def qa4 (_:W.Frag):Sp:=fun vs H Q _=>∃ (a:Addr) (zs:List Int) (b:Int),vs=[.ref a,.int b]∧H a=some (.lst (zs.map V.int))∧zs.length≤1000∧b≠0∧∀ (r:Addr) (xs:List V) (H':Hp),Same H H'→H' r=some (.tup xs)→Nums H' xs (zs.map fun z=>qbQ z b)→Q (.ref r) H'
noncomputable def qbN (_:W.Frag):Sp:=fun vs H Q _=>∃ (a:Addr) (L:List (List Int)) (n w j:Nat),vs=[.ref a,.int (j:Int)]∧SD H a L∧Rect L n w∧n≤1000∧j<w∧∀ r,H r=none→Q (.ref r) (upd H r (.lst ((L.map fun l=>co l j).map V.int)))
noncomputable def qdK (_:W.Frag):Sp:=fun vs H Q _=>∃ (a:Addr) (L:List (List Int)) (n w:Nat),vs=[.ref a]∧SD H a L∧Rect L n w∧(n=0→w=0)∧n≤1000∧w≤1000∧∀ (r:Addr) (LL:List (List Int)) (H':Hp),Same H H'→SD H' r LL→Rect LL w n→(∀ i,i<n→∀ j,j<w→en LL j i=en L i j)→(∀ P:Int→Prop,(∀ l∈L,∀ z∈l,P z)→∀ l∈LL,∀ z∈l,P z)→Q (.ref r) H'
noncomputable def qb9 (_:W.Frag):Sp:=fun vs H Q _=>∃ (a:Addr) (M:List (List Int)) (k p:Nat) (W:Nat→Nat→Zm (p:Int)),vs=[.ref a,.int (p:Int)]∧SD H a M∧Rect M k k∧k≤50∧Pr p∧Bd 45000 (p:Int)∧(∀ i,i<k→∀ j,j<k→su k (fun t=>W i t*Zm.of (p:Int) (en M t j))=dl i j)∧
  ∀ (r:Addr) (T:List (List Int)) (H':Hp),Same H H'→SD H' r T→Rect T k k→InP (p:Int) T→Inv2 (p:Int) k (en M) (en T)→Q (.ref r) H'
structure CorM (L:List (List Int)) (n w p:Nat) (os cs:List Nat) (M T:List (List Int)):Prop where
  lc:cs.length=os.length
  rM:Rect M os.length os.length
  rT:Rect T os.length os.length
  iT:InP (p:Int) T
  inv:Inv2 (p:Int) os.length (en M) (en T)
  ol:∀ i∈os,i<n
  ou:os.Nodup
  cl:∀ j∈cs,j<w
  cu:cs.Pairwise (·<·)
  eM:∀ i,i<os.length→∀ s,s<os.length→en M i s=en L (nth os i) (nth cs s)
  span:∀ r,r<n→∃ z:Nat→Int,∀ j,j<w→(p:Int)∣en L r j - su os.length fun t=>z t*en L (nth os t) j
structure FsOk (fs:List (Str×V)) (p:Nat) (y z m t:Addr):Prop where
  f1:fs.lookup ("prime" : Str)=some (.int (p:Int))
  f2:fs.lookup ("lines" : Str)=some (.ref y)
  f3:fs.lookup ("columns" : Str)=some (.ref z)
  f4:fs.lookup ("minor" : Str)=some (.ref m)
  f5:fs.lookup ("turned" : Str)=some (.ref t)
structure Cor (C:Addr) (H:Hp) (x:Addr) (L:List (List Int)) (n w p:Nat) (os cs:List Nat) (M T:List (List Int)) (y z m t:Addr):Prop where
  at':∃ dx fs,H x=some (.ins C dx fs)∧FsOk fs p y z m t
  hy:H y=some (.lst (iN os))
  hz:H z=some (.lst (iN cs))
  hm:SD H m M
  ht:SD H t T
  c:CorM L n w p os cs M T
structure ClsOk (K:W.Frag) (C:Addr):Prop where
  cl:Cls K C
  a1:NoAttr K C "prime"
  a2:NoAttr K C "lines"
  a3:NoAttr K C "columns"
  a4:NoAttr K C "minor"
  a5:NoAttr K C "turned"
noncomputable def qa5 (K:W.Frag):Sp:=fun vs H Q _=>∃ (x a:Addr) (dx:Addr) (L:List (List Int)) (n w p:Nat),vs=[.ref x,.ref a,.int (p:Int)]∧H x=some (.ins (qbo K) dx [])∧SD H a L∧Rect L n w∧n≤50∧w≤50∧Pr p∧Bd 45000 (p:Int)∧
  ∀ (os cs:List Nat) (M T:List (List Int)) (y z m t:Addr) (H':Hp),Kp x H H'→Cor (qbo K) H' x L n w p os cs M T y z m t→Q .non H'
noncomputable def qbO (_:W.Frag):Sp:=fun vs H Q _=>∃ w m lim:Int,vs=[.int w,.int m,.int lim]∧0≤w∧w<m∧0≤lim∧lim<m∧Bd 500000 m∧∀ one oth s t:Int,Eu m w one oth s t→oth≤lim→lim<one→Q (.int t) H
structure Fits (m X:Int) (ps:List Int) (x:Nat→Int) (D:Int):Prop where
  d0:0<D
  dX:D≤X
  xX:∀ j,((x j).natAbs:Int)≤X
  dv:∀ j,j<ps.length→m∣D*co ps j - x j
  m0:256*X*X<m
noncomputable def qeZ (_:W.Frag):Sp:=fun vs H Q _=>∃ (a:Addr) (ps:List Int) (m:Int),vs=[.ref a,.int m]∧H a=some (.lst (ps.map V.int))∧ps.length≤1000∧(∀ z∈ps,Bd 500000 z)∧2≤m∧Bd 250000 m∧(∀ H',Same H H'→(∀ X x D,¬ Fits m X ps x D)→Q .non H')∧
  ∀ (r b:Addr) (ys:List Int) (B:Int) (H':Hp),Same H H'→H' r=some (.tup [.ref b,.int B])→H' b=some (.lst (ys.map V.int))→ys.length=ps.length→0<B→B≤m→(∀ z∈ys,z.natAbs≤m.natAbs)→(∀ X x D,Fits m X ps x D→∀ j,j<ps.length→co ys j*D=x j*B)→Q (.ref r) H'
noncomputable def qfZ (_:W.Frag):Sp:=fun vs H Q _=>∃ (m g y b:Addr) (M:List (List Int)) (ys bs:List Int) (B:Int) (k:Nat),vs=[.ref m,.ref g,.ref b]∧SD H m M∧Rect M k k∧H g=some (.tup [.ref y,.int B])∧H y=some (.lst (ys.map V.int))∧H b=some (.lst (bs.map V.int))∧ys.length=k∧bs.length=k∧k≤50∧BdL 1000000 M∧(∀ z∈ys,Bd 1000000 z)∧(∀ z∈bs,Bd 1000000 z)∧Bd 1000000 B∧
  ∀ (H':Hp) (c:Bool),Same H H'→(c=true↔∀ i,i<k→su k (fun j=>en M i j*co ys j)=co bs i*B)→Q (.bl c) H'
noncomputable def qcR (_:W.Frag):Sp:=fun vs H Q _=>∃ (m t b:Addr) (M T:List (List Int)) (bs:List Int) (k p:Nat),vs=[.ref m,.ref t,.ref b,.int (p:Int)]∧SD H m M∧SD H t T∧H b=some (.lst (bs.map V.int))∧Rect M k k∧Rect T k k∧bs.length=k∧k≤10∧2≤p∧Bd 44500 (p:Int)∧InP (p:Int) T∧Inv2 (p:Int) k (en M) (en T)∧BdL 4000 M∧(∀ z∈bs,Bd 4000 z)∧
  ∀ (r y:Addr) (ys:List Int) (B:Int) (H':Hp),Same H H'→H' r=some (.tup [.ref y,.int B])→H' y=some (.lst (ys.map V.int))→ys.length=k→0<B→Bd 250000 B→(∀ z∈ys,Bd 250000 z)→(∀ i,i<k→su k (fun j=>en M i j*co ys j)=co bs i*B)→Q (.ref r) H'
end Bs
namespace Bs
open PySem L2
structure Fre (L:List (List Int)) (n w:Nat) (cs:List Nat) (q:Nat) (f:List Int) (D:Int):Prop where
  lf:f.length=w
  d0:0<D
  bD:Bd 250000 D
  bf:∀ z∈f,Bd 250000 z
  sol:∀ i,i<n→su w (fun j=>en L i j*co f j)=0
  qw:q<w
  qc:q∉cs
  one:co f q=D
  zer:∀ j,j<w→j∉cs→j≠q→co f j=0
noncomputable def FRs (H:Hp) (L:List (List Int)) (n w:Nat) (cs:List Nat):List V→List (Nat×List Int×Int)→Prop
  | [],[]=>True
  | x::xs,q::l=>(∃ u zs,x=.ref u∧H u=some (.tup zs)∧Nums H zs (q.2.1.map fun z=>qbQ z q.2.2)∧Fre L n w cs q.1 q.2.1 q.2.2)∧FRs H L n w cs xs l
  | _,_=>False
noncomputable def frC (w:Nat) (cs:List Nat):List Nat:=(List.range w).filter fun j=>decide (j∉cs)
noncomputable def qjs (L:List (List Int)) (n w:Nat) (os:List Nat):Prop:=∃ (i:Nat) (f:Nat→Int),i<n∧(∀ t,t<os.length→su w (fun j=>en L (nth os t) j*f j)=0)∧su w (fun j=>en L i j*f j)≠0
noncomputable def qca (K:W.Frag):Sp:=fun vs H Q _=>∃ (a x y z m t:Addr) (L M T:List (List Int)) (n w p:Nat) (os cs:List Nat),vs=[.ref a,.ref x]∧SD H a L∧Rect L n w∧(n=0→w=0)∧n≤20∧w≤10∧BdL 4000 L∧2≤p∧Bd 44500 (p:Int)∧Cor (qbo K) H x L n w p os cs M T y z m t∧
  (∀ H',Same H H'→qjs L n w os→Q .non H')∧
  ∀ (r:Addr) (xs:List V) (F:List (Nat×List Int×Int)) (H':Hp),Same H H'→H' r=some (.lst xs)→FRs H' L n w cs xs F→F.map (fun q=>q.1)=frC w cs→Q (.ref r) H'
noncomputable def qbk (K:W.Frag):Sp:=fun vs H Q _=>∃ (a x y z m t:Addr) (L M T:List (List Int)) (n w p:Nat) (os cs:List Nat) (i:Nat),vs=[.ref a,.ref x,.int (i:Int)]∧SD H a L∧Rect L n w∧n≤20∧w≤10∧BdL 4000 L∧2≤p∧Bd 44500 (p:Int)∧Cor (qbo K) H x L n w p os cs M T y z m t∧i<n∧i∉os∧
  ∀ (r u:Addr) (W:List Int) (B:Int) (H':Hp),Same H H'→H' r=some (.tup [.ref u,.int B])→H' u=some (.lst (W.map V.int))→W.length=n→0<B→Bd 250000 B→(∀ z∈W,Bd 250000 z)→co W i=B→(∀ j,j<n→j∉os→j≠i→co W j=0)→(∀ s,s<os.length→su n (fun j=>co W j*en L j (nth cs s))=0)→Q (.ref r) H'
noncomputable def NRs (H:Hp):List V→List (List Nu)→Prop
  | [],[]=>True
  | x::xs,l::ls=>(∃ a zs,x=.ref a∧H a=some (.lst zs)∧Nums H zs l)∧NRs H xs ls
  | _,_=>False
noncomputable def vl (l:List Nu) (j:Nat):Rat:=val (l.getD j (0,1))
noncomputable def vr (A:List (List Nu)) (i j:Nat):Rat:=vl (A.getD i []) j
noncomputable def NuOk (b:Nat) (l:List Nu):Prop:=qgK l∧∀ q∈l,Bd b q.1∧Bd b q.2
noncomputable def TFs (H:Hp) (w:Nat) (A:List (List Nu)):List V→List (List Nu)→Prop
  | [],[]=>True
  | x::xs,l::ls=>(∃ u zs,x=.ref u∧H u=some (.tup zs)∧Nums H zs l∧l.length=w∧NuOk 250000 l∧∀ i,i<A.length→su w (fun j=>vr A i j*vl l j)=0)∧TFs H w A xs ls
  | _,_=>False
noncomputable def PL (A:List (List Nu)):(Nat→Rat)→Prop:=fun u=>∃ l∈A,u=vl l
structure Wh (A:List (List Nu)) (w:Nat) (F:List (List Nu)):Prop where
  ex:∃ r,r+F.length=w∧Rk w (PL A) r∧Rk w (PL F) F.length∧∀ l∈F,NuOk (r*1715+1) l
noncomputable def qdn (_:W.Frag):Sp:=fun vs H Q _=>∃ (a b:Addr) (xs ys:List V) (A:List (List Nu)) (B:List Nu) (n w:Nat),vs=[.ref a,.ref b]∧H a=some (.lst xs)∧H b=some (.lst ys)∧NRs H xs A∧Nums H ys B∧A.length=n∧B.length=n∧(∀ l∈A,l.length=w)∧(n=0→w=0)∧n≤20∧w≤10∧(∀ i,i<n→NuOk 2000 (A.getD i []++[B.getD i (0,1)])∧∃ m,Ov (A.getD i []++[B.getD i (0,1)]) m∧Bd 1900 m)∧(∀ i,i<n→NuOk 204 (A.getD i [])∧∃ m,Ov (A.getD i []++[B.getD i (0,1)]) m∧Bd 1500 m)∧
  (∀ (r x f:Addr) (zs gs:List V) (X:List Nu) (F:List (List Nu)) (H':Hp),Same H H'→H' r=some (.tup [.str "told", .ref x,.ref f])→H' x=some (.tup zs)→Nums H' zs X→X.length=w→NuOk 250000 X→(∀ i,i<n→su w (fun j=>vr A i j*vl X j)=vl B i)→H' f=some (.tup gs)→TFs H' w A gs F→Wh A w F→Q (.ref r) H')∧
  ∀ (r x:Addr) (zs:List V) (W:List Nu) (H':Hp),0<n→Same H H'→H' r=some (.tup [.str "none", .ref x])→H' x=some (.tup zs)→Nums H' zs W→W.length=n→NuOk 260000 W→(∀ j,j<w→su n (fun i=>vr A i j*vl W i)=0)→su n (fun i=>vl B i*vl W i)≠0→Q (.ref r) H'
noncomputable def Box (H:Hp) (p:Addr) (n:Int):Prop:=∃ a b c:Int,H p=some (.lst [.int a,.int b,.int c])∧0≤a∧0≤b∧0≤c∧c≤n
noncomputable def qhx (K:W.Frag):Sp:=fun vs H Q _=>∃ (s:Addr) (ns:List Int) (k:Int),vs=[.ref s,.int k]∧SqL K H s (ns.map V.int)∧0≤k∧k≤1000∧∀ (p:Addr) (H':Hp),H p=none→Same H H'→Box H' p 7000→Q (.ref p) H'
noncomputable def qaE (_:W.Frag):Sp:=fun vs H Q _=>∃ (p:Addr) (m n:Int),vs=[.ref p,.int m]∧Box H p n∧n≤1000000∧0<m∧m<4611686018427387904∧∀ (d:Int) (H':Hp),0≤d→d<m→Box H' p (n+1)→Kp p H H'→Q (.int d) H'
noncomputable def qa6 (_:W.Frag):Sp:=fun vs H Q _=>∃ a b:Int,vs=[.int a,.int b]∧0<b∧∀ p,H p=none→Q (.ref p) (upd H p (.tup [.int (red a b).1,.int (red a b).2]))
noncomputable def Nb (b:Nat) (q:Nu):Prop:=Low q.1 q.2∧Bd b q.1∧Bd b q.2
noncomputable def qcb (_:W.Frag):Sp:=fun vs H Q _=>∃ (p:Addr) (n:Int),vs=[.ref p]∧Box H p n∧n≤900000∧∀ (r:Addr) (q:Nu) (H':Hp),isN H' (.ref r) q→Nb 40 q→Box H' p (n+3)→Kp p H H'→Q (.ref r) H'
noncomputable def qcS (_:W.Frag):Sp:=fun vs H Q _=>∃ (p:Addr) (n:Int),vs=[.ref p]∧Box H p n∧n≤900000∧∀ (r:Addr) (q:Nu) (H':Hp),isN H' (.ref r) q→Nb 2 q→Box H' p (n+3)→Kp p H H'→Q (.ref r) H'
noncomputable def qjt (f:Nu→Nu→Nu) (_:W.Frag):Sp:=fun vs H Q _=>∃ (x y:Addr) (q r:Nu),vs=[.ref x,.ref y]∧isN H (.ref x) q∧isN H (.ref y) r∧Nb 50000000 q∧Nb 50000000 r∧∀ p,H p=none→Q (.ref p) (upd H p (.tup [.int (f q r).1,.int (f q r).2]))
noncomputable abbrev qen:=qjt nadd
noncomputable abbrev qcl:=qjt nmul
noncomputable def pbt (k:Nat) (l m:List Nu):Int:=pd k fun j=>(l.getD j (0,1)).2*(m.getD j (0,1)).2
noncomputable def qcn (_:W.Frag):Sp:=fun vs H Q _=>∃ (a b:Addr) (xs ys:List V) (l m:List Nu) (k bl bm:Nat),vs=[.ref a,.ref b]∧H a=some (.lst xs)∧(H b=some (.tup ys)∨H b=some (.lst ys))∧Nums H xs l∧Nums H ys m∧l.length=k∧m.length=k∧NuOk bl l∧NuOk bm m∧bl+bm≤1000000∧k≤20∧
  ∀ (r:Addr) (q:Nu) (H':Hp),Same H H'→isN H' (.ref r) q→Nb ((bl+bm+1)*k+1) q→val q=su k (fun j=>vl l j*vl m j)→q.2∣pbt k l m→Q (.ref r) H'
structure EqOk (A:List (List Nu)) (B:List Nu) (n w:Nat):Prop where
  lA:A.length=n
  lB:B.length=n
  rA:∀ l∈A,l.length=w
  nw:n=0→w=0
  n1:n≤13
  w1:w≤10
  ok:∀ i,i<n→NuOk 1500 (A.getD i []++[B.getD i (0,1)])∧∃ m,Ov (A.getD i []++[B.getD i (0,1)]) m∧Bd 1500 m
noncomputable def qo8 (A:List (List Nu)) (B:List Nu) (n w:Nat):Prop:=∃ X:Nat→Rat,∀ i,i<n→su w (fun j=>vr A i j*X j)=vl B i
noncomputable def qpU (H:Hp) (Q:VK):Prop:=∀ (r a b:Addr) (fits:Bool) (xs ys:List V) (A:List (List Nu)) (B:List Nu) (n w:Nat) (H':Hp),H' r=some (.tup [.ref a,.ref b,.bl fits])→H' a=some (.lst xs)→H' b=some (.lst ys)→NRs H' xs A→Nums H' ys B→EqOk A B n w→n≤12→(∃ R,(∀ l∈A,NuOk R l)∧(n≤5∧w≤5∧R=204∨n≤8∧w≤8∧R=62))→(fits=true→qo8 A B n w)→Same H H'→Q (.ref r) H'
noncomputable def qcI (K:W.Frag):Sp:=fun vs H Q _=>∃ (s:Addr) (ns:List Int) (k:Int),vs=[.ref s,.int k]∧SqL K H s (ns.map V.int)∧0≤k∧k≤1000∧qpU H Q
end Bs
namespace Bs
open PySem L2
noncomputable def SRs (H:Hp):List V→List (List Nu)→Prop
  | [],[]=>True
  | x::xs,l::ls=>(∃ a zs,x=.ref a∧(H a=some (.lst zs)∨H a=some (.tup zs))∧Nums H zs l)∧SRs H xs ls
  | _,_=>False
noncomputable def qeo (_:W.Frag):Sp:=fun vs H Q _=>∃ (a:Addr) (xs:List V) (A:List (List Nu)) (w b:Nat),vs=[.ref a]∧(H a=some (.tup xs)∨H a=some (.lst xs))∧SRs H xs A∧(∀ l∈A,l.length=w∧NuOk b l)∧A.length≤20∧w≤20∧(b+1)*4 ^ A.length≤30000000∧
  ∀ (r:Nat) (H':Hp),Same H H'→Rk w (PL A) r→Q (.int (r:Int)) H'
end Bs
namespace Bs
open PySem L2
section
variable (K:W.Frag)
set_option linter.unusedVariables false
noncomputable def qc6 (_:W.Frag):TS:=
  (qat (qde (qaT (tOp rNe (qah 1) (tC (.int 0)))) (qat (qaA (tOp qoK (qah 0) (qah 1)) (qai 2))
    (qat (qaA (qah 1) (qai 0))
    (qaA (qah 2) (qai 1)))))
    (qbm (tCB qkw (qab (qah 0) qao))))
noncomputable def qke (_:W.Frag):TS:=
  (qat (qaA (tC (.int 2)) (qai 1))
    (qat (qde (qaT (tOp iLe (tOp qcM (qah 1) (qah 1)) (qah 0))) (qat (qeR (qaT (tOp rEq (tOp qgE (qah 0) (qah 1)) (tC (.int 0)))) (qbm (tC (.bl false))) qbt)
    (qmf 1 (tC (.int 1)) qhZ)))
    (qbm (tOp iGt (qah 0) (tC (.int 1))))))
noncomputable def qhy:TS:=
  (qat (qaA (tOp qhZ (qah 0) (tC (.int 1))) (qai 1))
    (qat (qde (qoz (tB (qap (qd7 K) [] E0 (qab (qah 1) qao)))) (qmf 1 (tC (.int 1)) qhZ))
    (qbm (qah 1))))
noncomputable def qhz:TS:=
  (qbm (tIf (qaT (tOp rEq (qah 0) (tC (.int 170141183460469231731687303715884105727)))) (tC (.int 2147483647)) (qap (qcG K) [] E0 (qab (qah 0) qao))))
noncomputable def qpV:TS:=
  (qbm (tCB qoS (qab (qaG (qiF K (qab (qah 0) (qab (qah 1) qao))) [none,none] (qdj 2 (qba (qai 0) (qba (qai 1) qhO))) (tOp qcM (qah 0) (qah 1))) qao)))
noncomputable def qbw (_:W.Frag):TS:=
  (qaA (qah 7) (qai 5))
noncomputable def qbx:TS:=
  (qat (qaA (qah 5) (qai 4))
    (qbw K))
noncomputable def qby:TS:=
  (qat (qaA (tOp qit (qah 4) (tOp qcM (qah 6) (qah 5))) (qai 7))
    (qbx K))
noncomputable def qbz:TS:=
  (qat (qaA (qah 7) (qai 3))
    (qby K))
noncomputable def qbA:TS:=
  (qat (qaA (qah 3) (qai 2))
    (qbz K))
noncomputable def qbB:TS:=
  (qat (qaA (tOp qit (qah 2) (tOp qcM (qah 6) (qah 3))) (qai 7))
    (qbA K))
noncomputable def qbC:TS:=
  (qat (qaA (tOp qhn (qah 2) (qah 3)) (qai 6))
    (qbB K))
noncomputable def qco (_:W.Frag):TS:=
  (qbm (tOp qgE (qah 4) (qah 1)))
noncomputable def qcp:TS:=
  (qat (qde (qaT (tOp rNe (qah 3) (tC (.int 0)))) (qbC K))
    (qco K))
noncomputable def qcq:TS:=
  (qat (qaA (tC (.int 1)) (qai 5))
    (qcp K))
noncomputable def qcr:TS:=
  (qat (qaA (tC (.int 0)) (qai 4))
    (qcq K))
noncomputable def qcs:TS:=
  (qat (qaA (tOp qgE (qah 0) (qah 1)) (qai 3))
    (qcr K))
noncomputable def qc7:TS:=
  (qat (qaA (qah 1) (qai 2))
    (qcs K))
noncomputable def qdQ:TS:=
  (qbm (qaG (qbb K (qah 0)) [none,some 1] (qai 0) (tOp qgE (qah 0) (qah 1))))
noncomputable def qbD:TS:=
  (qjN (tBM K "list" qeT (qah 4) (qab (qah 5) qao)))
noncomputable def qbE:TS:=
  (qat (qaA (qah 9) (qmb (qah 2) (qah 6) qgm))
    (qbD K))
noncomputable def qbF:TS:=
  (qat (qaA (qaG (qbb K (qah 2)) [none,some 9,some 5,some 1] (qai 0) (qap (qbs K) [] E0 (qab (qah 0) (qab (qah 1) (qab (qah 2) (qab (qah 3) qao)))))) (qai 2))
    (qbE K))
noncomputable def qbG:TS:=
  (qat (qaA (qaG (qbb K (tOp gL (qah 2) (qah 6))) [none,some 1,some 8] (qai 0) (tOp qgE (tOp qcM (qah 0) (qah 2)) (qah 1))) (qai 9))
    (qbF K))
noncomputable def qbH:TS:=
  (qat (qaA (qap (qbp K) [] E0 (qab (tOp gL (tOp gL (qah 2) (qah 6)) (qah 5)) (qab (qah 1) qao))) (qai 8))
    (qbG K))
noncomputable def qbI:TS:=
  (qat (qaA (qap (qdJ K) [] E0 (qab (qah 3) (qab (qah 6) (qab (tOp gL (qah 7) (tC (.int 0))) qao)))) (qai 3))
    (qbH K))
noncomputable def qdo:TS:=
  (qat (qaA (qap (qdJ K) [] E0 (qab (qah 2) (qab (qah 6) (qab (tOp gL (qah 7) (tC (.int 0))) qao)))) (qai 2))
    (qbI K))
noncomputable def qbJ:TS:=
  (qeR (qiD (qah 7)) (qdo K) qbt)
noncomputable def qbK:TS:=
  (qat (qaA (qdN (qkz (qab (qah 6) (qab (tCB qcE (qab (qah 2) qao)) qao))) [none,some 5,some 2] (qai 0) (qaT (tOp rNe (tOp gL (tOp gL (qah 2) (qah 0)) (qah 1)) (tC (.int 0)))) (qah 0)) (qai 7))
    (qbJ K))
noncomputable def qbL:TS:=
  (qat (qaA (tCB qcE (qab (qah 4) qao)) (qai 6))
    (qbK K))
noncomputable def qct (_:W.Frag):TS:=
  (qbm (qgj (qab (tSl sL (qah 2) qcD (qgl (tCB qcE (qab (qah 4) qao)))) (qab (tSl sL (qah 3) qcD (qgl (tCB qcE (qab (qah 4) qao)))) (qab (qah 4) qao)))))
noncomputable def qcu:TS:=
  (qat (qef (qee (qab (tIf (qiD (qah 0)) (tCB qcE (qab (tOp gL (qah 0) (tC (.int 0))) qao)) (tC (.int 0))) qao)) (qai 5) (qbL K))
    (qct K))
noncomputable def qcv:TS:=
  (qat (qaA (qfy qao) (qai 4))
    (qcu K))
noncomputable def qcw:TS:=
  (qat (qaA (qle (qab (tCB qcE (qab (qah 0) qao)) qao)) (qai 3))
    (qcv K))
noncomputable def qfs:TS:=
  (qat (qaA (qaG (qbb K (qah 0)) [none,some 1] (qai 0) (qap (qb7 K) [] E0 (qab (qah 0) (qab (qah 1) qao)))) (qai 2))
    (qcw K))
noncomputable def qlE (_:W.Frag):TS:=
  (qat (qaA (tCB qja (qab (qah 0) qao)) (qai 3))
    (qat (qaA (tOp gL (qah 0) (qah 2)) (qmb (qah 3) (qah 1) qgm))
    (qat (qaA (tOp gL (qah 0) (qah 1)) (qmb (qah 3) (qah 2) qgm))
    (qbm (qah 3)))))
noncomputable def qhA:TS:=
  (qat (qaA (tOp gL (qah 0) (qah 2)) (qai 4))
    (qat (qeR (qaT (tOp rEq (qah 4) (tC (.int 0)))) (qbm (qah 0)) qbt)
    (qbm (qaG (qiF K (qab (qah 0) (qab (qah 1) qao))) [none,none,some 3,some 4] (qdj 2 (qba (qai 0) (qba (qai 1) qhO))) (tOp qgE (tOp qit (qah 0) (tOp qcM (qah 3) (qah 1))) (qah 2))))))
noncomputable def qid (_:W.Frag):TS:=
  (qat (qaA (tOp qgE (qah 0) (qah 1)) (qai 2))
    (qbm (tIf (qaT (tOp iGt (tOp qcM (tC (.int 2)) (qah 2)) (qah 1))) (tOp qit (qah 2) (qah 1)) (qah 2))))
noncomputable def qlF:TS:=
  (qat (qaA (qap (qaU K) [] E0 (qab (qah 0) (qab (qah 1) qao))) (qai 2))
    (qat (qeR (qaT (tOp iLt (qah 1) (tC (.int 0)))) (qaA (tUn qm7 (qah 2)) (qai 2)) qbt)
    (qbm (qgj (qab (tOp qj8 (qah 0) (qah 2)) (qab (tOp qj8 (qah 1) (qah 2)) qao))))))
noncomputable def qlG:TS:=
  (qat (qaA (tC (.int 1)) (qai 1))
    (qat (qef (qos K (qah 0)) (qai 2) (qmf 1 (tOp qhn (tOp gT (qah 2) (tC (.int 1))) (qap (qaU K) [] E0 (qab (qah 1) (qab (tOp gT (qah 2) (tC (.int 1))) qao)))) qcM))
    (qbm (qgj (qab (qaG (qos K (qah 0)) [none,some 1] (qai 0) (tOp qcM (tOp gT (qah 0) (tC (.int 0))) (tOp qhn (qah 1) (tOp gT (qah 0) (tC (.int 1)))))) (qab (qah 1) qao))))))
noncomputable def qc3:TS:=
  (qaA (qap (qca K) [] E0 (qab (qah 3) (qab (qah 5) qao))) (qai 6))
noncomputable def qep:TS:=
  (qat (qaA (qjW (qbo K) (qa5 K) [] E0 (qab (qah 3) (qab (qap (qcH K) [] E0 (qab (qgi K (qah 5) "prime") qao)) qao))) (qai 5))
    (qc3 K))
noncomputable def qeq:TS:=
  (qbm (qgj (qab (tC (.str "none")) (qab (qap (qa4 K) [] E0 (qab (qah 12) (qab (tOp gT (qah 11) (tC (.int 1))) qao))) qao))))
noncomputable def qer:TS:=
  (qat (qaA (qaG (qiF K (qab (tOp gT (qah 11) (tC (.int 0))) (qab (qah 2) qao))) [none,none] (qdj 2 (qba (qai 0) (qba (qai 1) qhO))) (tOp qcM (qah 0) (tOp gT (qah 1) (tC (.int 1))))) (qai 12))
    (qeq K))
noncomputable def qes:TS:=
  (qat (qaA (qap (qbk K) [] E0 (qab (qah 3) (qab (qah 5) (qab (qah 9) qao)))) (qai 11))
    (qer K))
noncomputable def qgL:TS:=
  (qbm (qgj (qab (tC (.str "told")) (qab (qap (qa4 K) [] E0 (qab (qah 8) (qab (tOp gT (qah 7) (tC (.int 1))) qao))) (qab (tCB qmy (qab (qah 6) qao)) qao)))))
noncomputable def qgM:TS:=
  (qat (qef (qfR K (qab (qah 3) qao)) (qdj 2 (qba (qai 9) (qba (qai 10) qhO))) (qeR (qaT (tOp rNe (qap (qfY K) [] E0 (qab (qah 10) (qab (qah 8) qao))) (tOp qcM (tOp gL (qah 4) (qah 9)) (tOp gT (qah 7) (tC (.int 1)))))) (qes K) qbt))
    (qgL K))
noncomputable def qgN:TS:=
  (qat (qaA (qap (qcQ K) [] E0 (qab (qgi K (qah 5) "columns") (qab (tOp gT (qah 7) (tC (.int 0))) (qab (qap (qb8 K) [] E0 (qab (qah 3) qao)) qao)))) (qai 8))
    (qgM K))
noncomputable def qgO:TS:=
  (qat (qaA (qap (qcR K) [] E0 (qab (qgi K (qah 5) "minor") (qab (qgi K (qah 5) "turned") (qab (qap (qdm K) [] E0 (qab (qah 4) (qab (qgi K (qah 5) "lines") qao))) (qab (qgi K (qah 5) "prime") qao))))) (qai 7))
    (qgN K))
noncomputable def qgP:TS:=
  (qat (qde (qaT (tOp qp3 (qah 6) (tC .non))) (qep K))
    (qgO K))
noncomputable def qe0:TS:=
  (qat (qaA (qap (qca K) [] E0 (qab (qah 3) (qab (qah 5) qao))) (qai 6))
    (qgP K))
noncomputable def qgQ:TS:=
  (qat (qaA (qjW (qbo K) (qa5 K) [] E0 (qab (qah 3) (qab (tC (.int 170141183460469231731687303715884105727)) qao))) (qai 5))
    (qe0 K))
noncomputable def qgR:TS:=
  (qat (qaA (qaG (qbb K (qah 2)) [none] (qai 0) (tOp gL (tOp gT (qah 0) (tC (.int 0))) (tUn qm7 (tC (.int 1))))) (qai 4))
    (qgQ K))
noncomputable def qgS:TS:=
  (qat (qaA (qaG (qbb K (qah 2)) [none] (qai 0) (tSl sL (tOp gT (qah 0) (tC (.int 0))) qcD (qgl (tUn qm7 (tC (.int 1)))))) (qai 3))
    (qgR K))
noncomputable def qju:TS:=
  (qat (qaA (qaG (qiF K (qab (qah 0) (qab (qah 1) qao))) [none,none] (qdj 2 (qba (qai 0) (qba (qai 1) qhO))) (qap (qeY K) [] E0 (qab (tOp qps (tCB qja (qab (qah 0) qao)) (qfy (qab (qah 1) qao))) qao))) (qai 2))
    (qgS K))
noncomputable def qet:TS:=
  (qnE K (qah 0) (qap (qb9 K) [] E0 (qab (qgi K (qah 0) "minor") (qab (qah 2) qao))) "turned")
noncomputable def qeu:TS:=
  (qat (qnE K (qah 0) (qaG (qbb K (qgi K (qah 0) "lines")) [none,some 1,some 0] (qai 0) (qap (qdm K) [] E0 (qab (tOp gL (qah 1) (qah 0)) (qab (qgi K (qah 2) "columns") qao)))) "minor")
    (qet K))
noncomputable def qev:TS:=
  (qat (qnE K (qah 0) (tOp gT (qah 3) (tC (.int 2))) "columns")
    (qeu K))
noncomputable def qew:TS:=
  (qat (qnE K (qah 0) (tOp gT (qah 3) (tC (.int 1))) "lines")
    (qev K))
noncomputable def qex:TS:=
  (qat (qnE K (qah 0) (qah 2) "prime")
    (qew K))
noncomputable def qiN:TS:=
  (qat (qaA (qap (qa9 K) [] E0 (qab (qah 1) (qab (qah 2) qao))) (qai 3))
    (qex K))
noncomputable def qkf (_:W.Frag):TS:=
  (qbm (tIf (qiD (qah 0)) (tCB qcE (qab (tOp gL (qah 0) (tC (.int 0))) qao)) (tC (.int 0))))
noncomputable def qmE:TS:=
  (qbm (qaG (qbb K (qah 1)) [none,some 0] (qai 0) (tOp gL (qah 1) (qah 0))))
noncomputable def qmF:TS:=
  (qat (qaA (tOp qpt (qfy (qab (tC (.int 0)) qao)) (qah 2)) (qai 3))
    (qat (qef (qiF K (qab (qah 0) (qab (qah 1) qao))) (qdj 2 (qba (qai 4) (qba (qai 5) qhO))) (qaA (qah 5) (qmb (qah 3) (qah 4) qgm)))
    (qbm (qah 3))))
noncomputable def qgr:TS:=
  (qbm (tCB qmy (qab (qaG (qbb K (qah 0)) [none,some 1] (qai 0) (qap (qfE K) [] E0 (qab (qah 0) (qab (qah 1) qao)))) qao)))
noncomputable def qlH:TS:=
  (qbm (qaG (qee (qab (qap (qb8 K) [] E0 (qab (qah 0) qao)) qao)) [none,some 0] (qai 0) (qap (qbN K) [] E0 (qab (qah 1) (qab (qah 0) qao)))))
noncomputable def qf0:TS:=
  (qbm (qaG (qbb K (qah 0)) [none,some 1] (qai 0) (tOp gL (qah 0) (qah 1))))
noncomputable def qc8:TS:=
  (qbm (qaG (qbb K (tOp gT (qap (qa9 K) [] E0 (qab (qah 3) (qab (qah 1) qao))) (tC (.int 0)))) [none,some 2] (qai 0) (tSl sL (qah 0) (qgl (qah 1)) qcD)))
noncomputable def qc9:TS:=
  (qat (qaA (qaG (qfR K (qab (qah 0) qao)) [none,none,some 2] (qdj 2 (qba (qai 0) (qba (qai 1) qhO))) (tOp qps (qah 1) (qap (qcQ K) [] E0 (qab (qfy (qab (qah 0) qao)) (qab (qfy (qab (tC (.int 1)) qao)) (qab (qah 2) qao)))))) (qai 3))
    (qc8 K))
noncomputable def qgs:TS:=
  (qat (qaA (tCB qcE (qab (qah 0) qao)) (qai 2))
    (qc9 K))
noncomputable def qdp:TS:=
  (qjN (tBM K "list" qeT (qah 3) (qab (qap (qa4 K) [] E0 (qab (qah 7) (qab (tOp gT (qah 6) (tC (.int 1))) qao))) qao)))
noncomputable def qdq:TS:=
  (qat (qeR (tB (tCB qnX (qab (qaG (qbb K (qah 0)) [none,some 7] (qai 0) (qap (qfY K) [] E0 (qab (qah 0) (qab (qah 1) qao)))) qao))) (qbm (tC .non)) qbt)
    (qdp K))
noncomputable def qdr:TS:=
  (qat (qaA (tOp gT (qah 6) (tC (.int 1))) (qmb (qah 7) (qah 4) qgm))
    (qdq K))
noncomputable def qds:TS:=
  (qat (qaA (qap (qcQ K) [] E0 (qab (qgi K (qah 1) "columns") (qab (tOp gT (qah 6) (tC (.int 0))) (qab (qah 2) qao)))) (qai 7))
    (qdr K))
noncomputable def qdt:TS:=
  (qat (qaA (qap (qcR K) [] E0 (qab (qgi K (qah 1) "minor") (qab (qgi K (qah 1) "turned") (qab (qah 5) (qab (qgi K (qah 1) "prime") qao))))) (qai 6))
    (qds K))
noncomputable def qdu:TS:=
  (qat (qaA (qaG (qbb K (qgi K (qah 1) "lines")) [none,some 4,some 0] (qai 0) (tUn qm7 (tOp gL (tOp gL (qah 2) (qah 0)) (qah 1)))) (qai 5))
    (qdt K))
noncomputable def qfg (_:W.Frag):TS:=
  (qbm (qah 3))
noncomputable def qfh:TS:=
  (qat (qef (qee (qab (qah 2) qao)) (qai 4) (qeR (qaT (tOp (inD true) (qah 4) (qgi K (qah 1) "columns"))) (qdu K) qbt))
    (qfg K))
noncomputable def qfi:TS:=
  (qat (qaA (qfy qao) (qai 3))
    (qfh K))
noncomputable def qkg:TS:=
  (qat (qaA (qap (qb8 K) [] E0 (qab (qah 0) qao)) (qai 2))
    (qfi K))
noncomputable def qcc (_:W.Frag):TS:=
  (qbm (qgj (qab (qah 5) (qab (tOp gT (qah 4) (tC (.int 1))) qao))))
noncomputable def qcd:TS:=
  (qat (qaA (tOp gT (qah 4) (tC (.int 1))) (qmb (qah 5) (qah 2) qgm))
    (qcc K))
noncomputable def qce:TS:=
  (qat (qaA (qap (qcQ K) [] E0 (qab (qgi K (qah 1) "lines") (qab (qaG (qbb K (tOp gT (qah 4) (tC (.int 0)))) [none] (qai 0) (tUn qm7 (qah 0))) (qab (tCB qcE (qab (qah 0) qao)) qao)))) (qai 5))
    (qcd K))
noncomputable def qcf:TS:=
  (qat (qaA (qap (qcR K) [] E0 (qab (qap (qdK K) [] E0 (qab (qgi K (qah 1) "minor") qao)) (qab (qap (qdK K) [] E0 (qab (qgi K (qah 1) "turned") qao)) (qab (qah 3) (qab (qgi K (qah 1) "prime") qao))))) (qai 4))
    (qce K))
noncomputable def qe1:TS:=
  (qat (qaA (qap (qdm K) [] E0 (qab (tOp gL (qah 0) (qah 2)) (qab (qgi K (qah 1) "columns") qao))) (qai 3))
    (qcf K))
noncomputable def qdR (_:W.Frag):TS:=
  (qmf 6 (qah 3) qcM)
noncomputable def qdS:TS:=
  (qat (qaA (qaG (qiF K (qab (qah 4) (qab (qah 0) qao))) [none,none,some 3,some 10] (qdj 2 (qba (qai 0) (qba (qai 1) qhO))) (tOp qhn (tOp qit (qah 0) (qap (qfY K) [] E0 (qab (qah 1) (qab (qah 3) qao)))) (qah 2))) (qai 4))
    (qdR K))
noncomputable def qdT:TS:=
  (qat (qaA (qaG (qiF K (qab (qah 5) (qab (qah 10) qao))) [none,none,some 6] (qdj 2 (qba (qai 0) (qba (qai 1) qhO))) (tOp qhZ (qah 0) (tOp qcM (qah 2) (qah 1)))) (qai 5))
    (qdS K))
noncomputable def qdU:TS:=
  (qat (qaA (qaG (qbb K (qah 1)) [none,some 3,some 9] (qai 0) (tOp qgE (qap (qfY K) [] E0 (qab (qah 0) (qab (qah 2) qao))) (qah 1))) (qai 10))
    (qdT K))
noncomputable def qdV:TS:=
  (qat (qaA (qaG (qbb K (qah 4)) [none,some 3] (qai 0) (tOp qgE (qah 0) (qah 1))) (qai 9))
    (qdU K))
noncomputable def qdW (_:W.Frag):TS:=
  (qmf 7 (tC (.int 2)) qcM)
noncomputable def qcJ:TS:=
  (qat (qeR (qiy (qaT (tOp qoQ (qah 11) (tC .non))) (tB (qap (qfZ K) [] E0 (qab (qah 0) (qab (qah 11) (qab (qah 2) qao)))))) (qbm (qah 11)) qbt)
    (qdW K))
noncomputable def qdX:TS:=
  (qat (qaA (qap (qeZ K) [] E0 (qab (qah 5) (qab (qah 6) qao))) (qai 11))
    (qcJ K))
noncomputable def qdY:TS:=
  (qat (qef (qee (qab (qah 7) qao)) (qai 8) (qdV K))
    (qdX K))
noncomputable def qf1:TS:=
  (qde (tB (tC (.bl true))) (qdY K))
noncomputable def qf2:TS:=
  (qat (qaA (tC (.int 1)) (qai 7))
    (qf1 K))
noncomputable def qf3:TS:=
  (qat (qaA (tC (.int 1)) (qai 6))
    (qf2 K))
noncomputable def qf4:TS:=
  (qat (qaA (tOp qpt (qfy (qab (tC (.int 0)) qao)) (tCB qcE (qab (qah 2) qao))) (qai 5))
    (qf3 K))
noncomputable def qlI:TS:=
  (qat (qaA (qah 2) (qai 4))
    (qf4 K))
noncomputable def qmG:TS:=
  (qat (qef (qiF K (qab (qah 0) (qab (qah 2) qao))) (qdj 2 (qba (qai 3) (qba (qai 4) qhO))) (qeR (qaT (tOp rNe (qap (qfY K) [] E0 (qab (qah 3) (qab (tOp gT (qah 1) (tC (.int 0))) qao))) (tOp qcM (qah 4) (tOp gT (qah 1) (tC (.int 1)))))) (qbm (tC (.bl false))) qbt))
    (qbm (tC (.bl true))))
noncomputable def qdZ (_:W.Frag):TS:=
  (qeR (qaT (tOp iGt (qah 3) (qah 2))) (qbm (tC .non)) qbt)
noncomputable def qd0:TS:=
  (qat (qmf 3 (qap (qbO K) [] E0 (qab (tOp qgE (tOp qcM (qah 4) (qah 3)) (qah 1)) (qab (qah 1) (qab (qah 2) qao)))) qcM)
    (qdZ K))
noncomputable def qf5:TS:=
  (qbm (qgj (qab (qaG (qbb K (qah 0)) [none,some 1,some 3] (qai 0) (qap (qdI K) [] E0 (qab (tOp qcM (qah 0) (qah 2)) (qab (qah 1) qao)))) (qab (qah 3) qao))))
noncomputable def qf6:TS:=
  (qat (qef (qbb K (qah 0)) (qai 4) (qeR (qaT (tOp iGt (tCB qkw (qab (qap (qdI K) [] E0 (qab (tOp qcM (qah 4) (qah 3)) (qab (qah 1) qao))) qao)) (qah 2))) (qd0 K) qbt))
    (qf5 K))
noncomputable def qf7:TS:=
  (qat (qaA (tC (.int 1)) (qai 3))
    (qf6 K))
noncomputable def qlJ:TS:=
  (qat (qaA (tOp qp5 (tC (.int 1)) (tOp qhn (tOp qit (qpF K "int" qoV (qah 1)) (tC (.int 2))) (tC (.int 2)))) (qai 2))
    (qf7 K))
noncomputable def qbR (_:W.Frag):TS:=
  (qaA (qah 9) (qai 6))
noncomputable def qbS:TS:=
  (qat (qaA (qah 6) (qai 5))
    (qbR K))
noncomputable def qbT:TS:=
  (qat (qaA (tOp qhZ (qah 5) (tOp qcM (qah 7) (qah 6))) (qai 9))
    (qbS K))
noncomputable def qbU:TS:=
  (qat (qaA (qah 8) (qai 4))
    (qbT K))
noncomputable def qbV:TS:=
  (qat (qaA (qah 4) (qai 3))
    (qbU K))
noncomputable def qbW:TS:=
  (qat (qaA (tOp qit (qah 3) (tOp qcM (qah 7) (qah 4))) (qai 8))
    (qbV K))
noncomputable def qbX:TS:=
  (qat (qaA (tOp qhn (qah 3) (qah 4)) (qai 7))
    (qbW K))
noncomputable def qcT (_:W.Frag):TS:=
  (qbm (qah 6))
noncomputable def qcU:TS:=
  (qat (qde (qaT (tOp iGt (qah 4) (qah 2))) (qbX K))
    (qcT K))
noncomputable def qcV:TS:=
  (qat (qaA (tC (.int 1)) (qai 6))
    (qcU K))
noncomputable def qcW:TS:=
  (qat (qaA (tC (.int 0)) (qai 5))
    (qcV K))
noncomputable def qcX:TS:=
  (qat (qaA (qah 0) (qai 4))
    (qcW K))
noncomputable def qf8:TS:=
  (qat (qaA (qah 1) (qai 3))
    (qcX K))
noncomputable def qoa:TS:=
  (qat (qaA (tC (.int 0)) (qai 2))
    (qat (qeR (qaT (tOp iLt (qah 1) (tCB (qj3 K) (qab (qah 0) qao)))) (qaA (tOp (gS K) (qah 0) (qah 1)) (qai 2)) qbt)
    (qat (qaA (qme (tOp iGt (tCB (qj3 K) (qab (qah 0) qao)) (tC (.int 0))) (tOp rEq (tOp qgE (tOp (gS K) (qah 0) (tC (.int 0))) (tC (.int 2))) (tC (.int 0)))) (qai 3))
    (qbm (qfy (qab (tOp qcM (tCB qkw (qab (qah 2) qao)) (tCB qiC (qab (qah 3) qao))) (qab (tCB qkw (qab (qah 2) qao)) (qab (tOp qcM (tC (.int 7)) (qah 1)) qao))))))))
noncomputable def qey (_:W.Frag):TS:=
  (qbm (qah 2))
noncomputable def qez:TS:=
  (qat (qaA (tOp qhn (tOp gL (qah 0) (tC (.int 0))) (qah 1)) (qmb (qah 0) (tC (.int 0)) qgm))
    (qey K))
noncomputable def qeA:TS:=
  (qat (qaA (tOp qgE (tOp gL (qah 0) (tC (.int 0))) (qah 1)) (qai 2))
    (qez K))
noncomputable def qgT (_:W.Frag):TS:=
  (qbm (tOp qgE (tOp qhZ (tOp qk2 (tOp qcM (qah 3) (qah 3)) (tC (.int 97))) (tOp qk2 (qah 3) (tC (.int 31)))) (qah 1)))
noncomputable def qgU:TS:=
  (qat (qaA (tOp qgE (tOp qcM (qah 3) (tOp qhZ (tOp qhZ (tOp qgE (qah 3) (tC (.int 1000003))) (tOp qcM (tOp gL (qah 0) (tC (.int 2))) (tC (.int 69621)))) (tC (.int 11)))) (tC (.int 2305843009213693907))) (qai 3))
    (qgT K))
noncomputable def qgV:TS:=
  (qat (qaA (tOp qgE (tOp qcM (qah 3) (tOp qhZ (tC (.int 48271)) (tOp qcM (tOp gL (qah 0) (tC (.int 2))) (tOp gL (qah 0) (tC (.int 2)))))) (tC (.int 2305843009213693921))) (qai 3))
    (qgU K))
noncomputable def qgW:TS:=
  (qat (qaA (tOp qhZ (tOp qgE (tOp gL (qah 0) (tC (.int 1))) (tC (.int 2305843009213693951))) (tC (.int 3))) (qai 3))
    (qgV K))
noncomputable def qgX:TS:=
  (qat (qaA (tOp qhZ (tOp gL (qah 0) (tC (.int 2))) (tC (.int 1))) (qmb (qah 0) (tC (.int 2)) qgm))
    (qgW K))
noncomputable def qmH:TS:=
  (qat (qeR (qaT (tOp iGt (tOp gL (qah 0) (tC (.int 0))) (tC (.int 0)))) (qeA K) qbt)
    (qgX K))
noncomputable def qkh (_:W.Frag):TS:=
  (qat (qor 2 3 (qab (tCB qkw (qab (qah 0) qao)) (qab (qah 1) qao)))
    (qat (qde (qaT (tOp iGt (qah 3) (tC (.int 0)))) (qor 2 3 (qab (qah 3) (qab (tOp qgE (qah 2) (qah 3)) qao))))
    (qbm (qgj (qab (tOp qj8 (qah 0) (qah 2)) (qab (tOp qj8 (qah 1) (qah 2)) qao))))))
noncomputable def qfj:TS:=
  (qbm (qgj (qab (tOp qit (qap (qaE K) [] E0 (qab (qah 0) (qab (tC (.int 3)) qao))) (tC (.int 1))) (qab (tC (.int 1)) qao))))
noncomputable def qfk:TS:=
  (qat (qeR (qaT (tOp rEq (qah 1) (tC (.int 2)))) (qbm (qap (qa6 K) [] E0 (qab (tOp qit (qap (qaE K) [] E0 (qab (qah 0) (qab (tC (.int 1999999999999)) qao))) (tC (.int 999999999999))) (qab (tOp qhZ (tC (.int 1)) (qap (qaE K) [] E0 (qab (qah 0) (qab (tC (.int 999999999999)) qao)))) qao)))) qbt)
    (qfj K))
noncomputable def qfl:TS:=
  (qat (qeR (qaT (tOp rEq (qah 1) (tC (.int 1)))) (qbm (qap (qa6 K) [] E0 (qab (tOp qit (qap (qaE K) [] E0 (qab (qah 0) (qab (tC (.int 19)) qao))) (tC (.int 9))) (qab (tOp qhZ (tC (.int 1)) (qap (qaE K) [] E0 (qab (qah 0) (qab (tC (.int 6)) qao)))) qao)))) qbt)
    (qfk K))
noncomputable def qfm:TS:=
  (qat (qeR (qaT (tOp rEq (qah 1) (tC (.int 0)))) (qbm (qgj (qab (tOp qit (qap (qaE K) [] E0 (qab (qah 0) (qab (tC (.int 19)) qao))) (tC (.int 9))) (qab (tC (.int 1)) qao)))) qbt)
    (qfl K))
noncomputable def qki:TS:=
  (qat (qaA (qap (qaE K) [] E0 (qab (qah 0) (qab (tC (.int 5)) qao))) (qai 1))
    (qfm K))
noncomputable def qob:TS:=
  (qbm (qap (qa6 K) [] E0 (qab (tOp qhZ (tOp qcM (tOp gT (qah 0) (tC (.int 0))) (tOp gT (qah 1) (tC (.int 1)))) (tOp qcM (tOp gT (qah 1) (tC (.int 0))) (tOp gT (qah 0) (tC (.int 1))))) (qab (tOp qcM (tOp gT (qah 0) (tC (.int 1))) (tOp gT (qah 1) (tC (.int 1)))) qao))))
noncomputable def qiO:TS:=
  (qbm (qap (qa6 K) [] E0 (qab (tOp qcM (tOp gT (qah 0) (tC (.int 0))) (tOp gT (qah 1) (tC (.int 0)))) (qab (tOp qcM (tOp gT (qah 0) (tC (.int 1))) (tOp gT (qah 1) (tC (.int 1)))) qao))))
noncomputable def qiP:TS:=
  (qat (qaA (qgj (qab (tC (.int 0)) (qab (tC (.int 1)) qao))) (qai 2))
    (qat (qef (qn0 K (qab (qah 0) (qab (qah 1) qao))) (qdj 2 (qba (qai 3) (qba (qai 4) qhO))) (qaA (qap (qen K) [] E0 (qab (qah 2) (qab (qap (qcl K) [] E0 (qab (qah 3) (qab (qah 4) qao))) qao))) (qai 2)))
    (qbm (qah 2))))
noncomputable def qlK:TS:=
  (qbm (qap (qa6 K) [] E0 (qab (tOp qit (qap (qaE K) [] E0 (qab (qah 0) (qab (tC (.int 7)) qao))) (tC (.int 3))) (qab (tOp qhZ (tC (.int 1)) (tOp qk2 (qap (qaE K) [] E0 (qab (qah 0) (qab (tC (.int 4)) qao))) (tC (.int 2)))) qao))))
noncomputable def qcx:TS:=
  (qjN (tBM K "list" qeT (qah 6) (qab (qah 8) qao)))
noncomputable def qcy:TS:=
  (qat (qeR (qiy (qaT (tOp iGt (qah 7) (tC (.int 1)))) (qaT (tOp rEq (qap (qaE K) [] E0 (qab (qah 2) (qab (tC (.int 3)) qao))) (tC (.int 0))))) (qaA (qaG (qiF K (qab (tOp gL (qah 6) (tOp qit (qah 7) (tC (.int 1)))) (qab (tOp gL (qah 6) (tOp qit (qah 7) (tC (.int 2)))) qao))) [none,none] (qdj 2 (qba (qai 0) (qba (qai 1) qhO))) (qap (qen K) [] E0 (qab (qah 0) (qab (qah 1) qao)))) (qai 8)) qbt)
    (qcx K))
noncomputable def qcz:TS:=
  (qat (qeR (qiy (qaT (tOp rEq (qah 3) (tC (.int 6)))) (qaT (tOp rEq (qap (qaE K) [] E0 (qab (qah 2) (qab (tC (.int 4)) qao))) (tC (.int 0))))) (qaA (qaG (qee (qab (qah 5) qao)) [none,some 2] (qai 0) (qap (qcb K) [] E0 (qab (qah 1) qao))) (qai 8)) qbt)
    (qcy K))
noncomputable def qcA:TS:=
  (qat (qaA (qaG (qee (qab (qah 5) qao)) [none,some 2] (qai 0) (qap (qcS K) [] E0 (qab (qah 1) qao))) (qai 8))
    (qcz K))
noncomputable def qda (_:W.Frag):TS:=
  (qbm (qgj (qab (qah 6) (qab (qah 10) (qab (qah 11) qao)))))
noncomputable def qdv:TS:=
  (qat (qeR (qoz (tB (qah 11))) (qaA (qaG (qbb K (qah 10)) [none,some 2] (qai 0) (qap (qen K) [] E0 (qab (qah 0) (qab (qap (qcS K) [] E0 (qab (qah 1) qao)) qao)))) (qai 10)) qbt)
    (qda K))
noncomputable def qdw:TS:=
  (qat (qaA (tOp rEq (qap (qaE K) [] E0 (qab (qah 2) (qab (tC (.int 2)) qao))) (tC (.int 0))) (qai 11))
    (qdv K))
noncomputable def qdx:TS:=
  (qat (qaA (qaG (qbb K (qah 6)) [none,some 9] (qai 0) (qap (qcn K) [] E0 (qab (qah 0) (qab (qah 1) qao)))) (qai 10))
    (qdw K))
noncomputable def qdy:TS:=
  (qat (qaA (qaG (qee (qab (qah 5) qao)) [none,some 2] (qai 0) (qap (qcb K) [] E0 (qab (qah 1) qao))) (qai 9))
    (qdx K))
noncomputable def qdz:TS:=
  (qat (qef (qee (qab (qah 4) qao)) (qai 7) (qcA K))
    (qdy K))
noncomputable def qdA:TS:=
  (qat (qaA (qfy qao) (qai 6))
    (qdz K))
noncomputable def qdB:TS:=
  (qat (qaA (qap (qaE K) [] E0 (qab (qah 2) (qab (qah 3) qao))) (qai 5))
    (qdA K))
noncomputable def qdC:TS:=
  (qat (qaA (qap (qaE K) [] E0 (qab (qah 2) (qab (qah 3) qao))) (qai 4))
    (qdB K))
noncomputable def qdD:TS:=
  (qat (qaA (tOp gL (qfy (qab (tC (.int 6)) (qab (tC (.int 9)) qao))) (tCB qiC (qab (tOp rEq (qap (qaE K) [] E0 (qab (qah 2) (qab (tC (.int 8)) qao))) (tC (.int 7))) qao))) (qai 3))
    (qdC K))
noncomputable def qhB:TS:=
  (qat (qaA (qap (qhx K) [] E0 (qab (qah 0) (qab (qah 1) qao))) (qai 2))
    (qdD K))
noncomputable def qeB:TS:=
  (qjN (tBM K "list" qeT (qah 3) (qab (qaG (qiF K (qab (tSl sL (qah 6) (qgl (tC (.int 1))) qcD) (qab (tSl sL (qah 4) (qgl (tC (.int 1))) qcD) qao))) [none,none,some 7] (qdj 2 (qba (qai 0) (qba (qai 1) qhO))) (qap (qen K) [] E0 (qab (qah 0) (qab (qap (qcl K) [] E0 (qab (qah 2) (qab (qah 1) qao))) qao)))) qao)))
noncomputable def qeC:TS:=
  (qat (qaA (qap (qcl K) [] E0 (qab (tOp gL (qah 6) (tC (.int 0))) (qab (qah 5) qao))) (qai 7))
    (qeB K))
noncomputable def qeD:TS:=
  (qef (qbb K (tSl sL (qah 2) (qgl (tC (.int 1))) qcD)) (qai 6) (qeC K))
noncomputable def qeE:TS:=
  (qat (qaA (qgj (qab (tOp qcM (tOp gT (tOp gL (qah 4) (tC (.int 0))) (tC (.int 1))) (tOp gL (qfy (qab (tUn qm7 (tC (.int 1))) (qab (tC (.int 1)) qao))) (tCB qiC (qab (tOp iLt (tOp gT (tOp gL (qah 4) (tC (.int 0))) (tC (.int 0))) (tC (.int 0))) qao)))) (qab (tCB qkw (qab (tOp gT (tOp gL (qah 4) (tC (.int 0))) (tC (.int 0))) qao)) qao))) (qai 5))
    (qeD K))
noncomputable def qeF:TS:=
  (qat (qaA (tOp gL (qah 2) (tC (.int 0))) (qai 4))
    (qeE K))
noncomputable def qeG:TS:=
  (qat (qaA (tOp qhZ (qah 1) (tC (.int 1))) (qai 1))
    (qeF K))
noncomputable def qc4 (_:W.Frag):TS:=
  (qaA (qah 3) (qai 0))
noncomputable def qeH:TS:=
  (qat (qeR (qaT (tOp iGt (tCB qcE (qab (qah 2) qao)) (tC (.int 0)))) (qeG K) qbt)
    (qc4 K))
noncomputable def qeI:TS:=
  (qat (qaA (qdN (qbb K (qah 0)) [none] (qai 0) (qaT (tOp rEq (tOp gT (tOp gL (qah 0) (tC (.int 0))) (tC (.int 0))) (tC (.int 0)))) (tSl sL (qah 0) (qgl (tC (.int 1))) qcD)) (qai 3))
    (qeH K))
noncomputable def qeJ:TS:=
  (qat (qaA (qdN (qbb K (qah 0)) [none] (qai 0) (qaT (tOp rNe (tOp gT (tOp gL (qah 0) (tC (.int 0))) (tC (.int 0))) (tC (.int 0)))) (qah 0)) (qai 2))
    (qeI K))
noncomputable def qe2 (_:W.Frag):TS:=
  (qbm (qah 1))
noncomputable def qgY:TS:=
  (qat (qde (qiy (qaT (tOp iGt (tCB qcE (qab (qah 0) qao)) (tC (.int 0)))) (qaT (tOp iGt (tCB qcE (qab (tOp gL (qah 0) (tC (.int 0))) qao)) (tC (.int 0))))) (qeJ K))
    (qe2 K))
noncomputable def qgZ:TS:=
  (qat (qaA (tC (.int 0)) (qai 1))
    (qgY K))
noncomputable def qmI:TS:=
  (qat (qaA (qaG (qos K (qah 0)) [none] (qai 0) (tCB qna (qab (qah 0) qao))) (qai 0))
    (qgZ K))
noncomputable def qg0:TS:=
  (qeR (qiy (qaT (tOp iGt (tCB qk3 (qab (tOp gT (qah 5) (tC (.int 2))) qao)) (tC (.int 0)))) (qaT (tOp rNe (qap (qeo K) [] E0 (qab (tOp gT (qah 5) (tC (.int 2))) qao)) (tCB qk3 (qab (tOp gT (qah 5) (tC (.int 2))) qao))))) (qbm (tC (.bl false))) qbt)
noncomputable def qg1:TS:=
  (qat (qeR (tOr (qaT (tOp rNe (tOp gT (qah 5) (tC (.int 0))) (tC (.str "told")))) (qaT (tOp rNe (tCB qk3 (qab (tOp gT (qah 5) (tC (.int 2))) qao)) (tOp qit (qah 6) (qap (qeo K) [] E0 (qab (qah 2) qao)))))) (qbm (tC (.bl false))) qbt)
    (qg0 K))
noncomputable def qg2:TS:=
  (qat (qaA (tCB qcE (qab (tOp gL (qah 2) (tC (.int 0))) qao)) (qai 6))
    (qg1 K))
noncomputable def qg3:TS:=
  (qat (qaA (qap (qdn K) [] E0 (qab (qah 2) (qab (qah 3) qao))) (qai 5))
    (qg2 K))
noncomputable def qg4:TS:=
  (qeR (qiy (tB (qah 4)) (qaT (tOp iGt (tCB qcE (qab (qah 2) qao)) (tC (.int 0))))) (qg3 K) qbt)
noncomputable def qg5:TS:=
  (qat (qaA (qap (qcI K) [] E0 (qab (qah 0) (qab (qah 1) qao))) (qdj 3 (qba (qai 2) (qba (qai 3) (qba (qai 4) qhO)))))
    (qg4 K))
noncomputable def qlL:TS:=
  (qbm (tOp qp6 (qap (qdn K) [] E0 (qab (qfy qao) (qab (qfy qao) qao))) (qgj (qab (tC (.str "told")) (qab (qgj qao) (qab (qgj qao) qao))))))
noncomputable def qpW:TS:=
  (qat (qef (qee (qab (tCB qpH (qab (tC (.int 1)) (qab (tCB qpI (qab (tCB (qj3 K) (qab (qah 0) qao)) (qab (tC (.int 12)) qao))) qao))) qao)) (qai 1) (qg5 K))
    (qlL K))
end
end Bs
namespace Bs
open PySem L2
variable {K:W.Frag} {vs:List V} {H:Hp} {Q:VK} {E:XK}
local macro_rules | `(tactic| rwa [$[$t:term],*]) => do
  let l : Array Lean.Term := (("qat qaA qap qab qah qao qai qmb L2.start qeR tIf qaT L2.tB tOp rI0 rI L2.tC tUn rU qbt qbm qgj qfy qor qmf qjN tCB qiy tOr qoz qme rEq rNe qgm qhZ qit qcM qk2 qgE qoK iLt iLe iGt qm7 gT gL gS qkw qpH qpI qiC qk3 qcE qj3 qnO qnP qoL List.map_cons List.map_nil List.length_cons List.length_nil List.replicate List.cons_append List.nil_append List.append_nil List.getElem?_cons_zero List.getElem?_cons_succ Option.some.injEq exists_eq_left' exists_eq_left V.int.injEq V.bl.injEq V.ref.injEq V.ty.injEq HO.tup.injEq HO.lst.injEq List.cons.injEq and_true true_and and_assoc exists_and_left List.set_cons_zero List.set_cons_succ decide_eq_true_eq decide_eq_false_iff_not Bool.not_eq_true' Bool.true_eq_false Bool.false_eq_true Bool.not_true Bool.not_false if_true if_false ite_true ite_false qnQ qnR qaR qaQ qb1 qeW qaZ qj4 qj5 Nat.zero_add Nat.reduceAdd Nat.reduceSub qac Int.cast_ofNat_Int decide_true decide_false eq_self not_true_eq_false not_false_eq_true Int.natCast_add Int.natCast_zero reduceCtorEq qdj qba qhO tSl qcD qgl sL qmy qja qiD qpt qps qeT tBM qpF qmu qmv qnS qmw qnW qmz qnU qnX qp3 qoQ qhn qj8 qp4 qpu qb0 Option.bind_some Option.bind_none Option.bind Option.join id_eq qaU qfE".splitOn " ").map fun s => (⟨(Lean.mkIdent s.toName).raw⟩ : Lean.Term)).toArray
  `(tactic| simp only [$[$(l ++ t):term],*])
theorem qo9 {a b:Int} (ha:Bd 60000000 a) (hb:Bd 60000000 b):IntMulOk a b:=qoT ha hb (by decide)
theorem qpw {a b:Int} (h1:-18446744073709551616<b) (h2:b<18446744073709551616):IntMulOk a b:=IntMulOk.of_right (intBits_le_64 (by omega) (by omega))
theorem qp8 {a b:Int} (h1:-18446744073709551616<a) (h2:a<18446744073709551616):IntMulOk a b:=IntMulOk.of_left (intBits_le_64 (by omega) (by omega))
theorem qe3 (h:qaU K vs H Q E):qc6 K { nx:=fun _ H'=>Q .non H',rt:=Q } (L2.start ["one", "other", "rest"] vs) H:=by
  obtain ⟨a,b,rfl,q⟩:=h
  unfold qc6
  rwa []
  refine qbZ (fun m σ H'=>∃ (x y:Int) (r:Option V),σ=[some (.int x),some (.int y),r]∧H'=H∧Int.gcd x y=Int.gcd a b∧m=y.natAbs) b.natAbs ⟨a,b,none,rfl,rfl,rfl,rfl⟩ ?_
  rintro m σ H' ⟨x,y,r,rfl,rfl,hg,rfl⟩
  rwa []
  refine qbr (fun c=>?_) (fun c=>?_)
  · refine ⟨fun σ' H''=>∃ m',m'<y.natAbs∧_,fun _ _ h=>h,?_⟩
    refine ⟨c,_,qk1 x c,y,x.fmod y,_,rfl,rfl,?_,rfl⟩
    rw [qi7];exact hg
  · have y0:y=0:=Decidable.not_not.mp c
    subst y0
    have e:(if x<0 then -x else x)=((Int.gcd a b:Nat):Int):=by
      rw [← hg,Int.gcd_zero_right];split <;> omega
    rw [e];exact q
theorem qjv {ns:List Int} {k:Int} (h0:0≤k) (h:k<(ns.length:Int)):∃ v:Int,atI (ns.map V.int) k=some (.int v):=by
  have hk:k.toNat<ns.length:=by omega
  have ek:k=((k.toNat:Nat):Int):=by omega
  have q:atI (ns.map V.int) ((k.toNat:Nat):Int)=some (.int ns[k.toNat]):=qbc (by rw [List.getElem?_map,List.getElem?_eq_getElem hk] <;> rfl)
  rw [← ek] at q
  exact ⟨_,q⟩
theorem qmJ {l:List Nu} {i:Nat} {q:Nu} (h:l[i]?=some q):(l.take (i+1)).foldl (fun B q=>B*(q.2 / ((Int.gcd B q.2:Nat):Int))) 1=(l.take i).foldl (fun B q=>B*(q.2 / ((Int.gcd B q.2:Nat):Int))) 1*(q.2 / ((Int.gcd ((l.take i).foldl (fun B q=>B*(q.2 / ((Int.gcd B q.2:Nat):Int))) 1) q.2:Nat):Int)):=by
  rw [List.take_add_one,h,List.foldl_append]
  rfl
theorem qaS {α β:Type} {l:List α} {i:Nat} {q:α} (f:α→β) (h:l[i]?=some q):(l.take (i+1)).map f=(l.take i).map f++[f q]:=by
  rw [List.take_add_one,h,List.map_append]
  rfl
theorem qp9 {m n:Nat} {x y:Int} (hx:Bd m x) (hy:Bd n y) (hm:m≤60000000:=by decide) (hn:n≤60000000:=by decide):IntMulOk x y:=qo9 (hx.mono hm) (hy.mono hn)
theorem qmK (h:qfE K vs H Q E):qlF K { nx:=fun _ H'=>Q .non H',rt:=Q } (L2.start ["top", "bottom", "shared"] vs) H:=by
  obtain ⟨a,b,rfl,hb,q⟩:=h
  unfold qlF
  rwa []
  have go:∀ s:Int,(s=if b<0 then -((Int.gcd a b:Nat):Int) else ((Int.gcd a b:Nat):Int))→qpu a s∧qpu b s∧2≤sizeLine∧∀ (p:Addr),H p=none→Q (V.ref p) (upd H p (HO.tup [V.int (a.fdiv s),V.int (b.fdiv s)])):=fun s hs=>by
    obtain ⟨h1,h2,h3,h4,h5,h6⟩:=qeV hb hs
    have e:qbQ a b=(a.fdiv s,b.fdiv s):=by
      refine qlm (qej hb) h3 ?_
      rw [qfB hb,qh9 (q:=(a.fdiv s,b.fdiv s)) (Int.ne_of_gt h3.pos) hb h4]
    rw [e] at q
    exact ⟨h1,h1,sz (by decide),q⟩
  refine qbr (fun c=>?_) (fun c=>?_)
  · exact go _ (by rw [if_pos c])
  · exact go _ (by rw [if_neg c])
theorem qkj (h:qeY K vs H Q E):qlG K { nx:=fun _ H'=>Q .non H',rt:=Q } (L2.start ["P", "bottom", "number"] vs) H:=by
  obtain ⟨p,xs,l,M,rfl,hp,hN,hL,hO,bM,hB,hl,q⟩:=h
  have lx:=hN.length
  have B0:=(qfW hL).1
  have BB:=qjj (Int.ne_of_gt hO.1) (qjk hL hO) bM
  have qb:∀ q∈l,Bd 400000 q.2:=fun q hq=>qjj (Int.ne_of_gt hO.1) (hO.2 q hq) bM
  refine qaz (r_c (qql (xs:=xs) hp rfl (fun i σ H'=>∃ x,σ=[some (.ref p),some (.int ((l.take i).foldl (fun B q=>B*(q.2 / ((Int.gcd B q.2:Nat):Int))) 1)),x]∧H'=H) ⟨none,rfl,rfl⟩ ?_ ?_ ?_))
  · rintro i σ H' ⟨x,rfl,rfl⟩
    rfl
  · rintro i x σ H' hi ⟨y,rfl,rfl⟩
    obtain ⟨z,hz,p1,rfl,hp1⟩:=hN.get hi
    have zl:=hL z (List.mem_of_getElem? hz)
    have zb:=qb z (List.mem_of_getElem? hz)
    obtain ⟨f1,f3⟩:=qhu (M:=M) (l.take i) 1 (fun q hq=>⟨(hL q (List.mem_of_mem_take hq)).pos,hO.2 q (List.mem_of_mem_take hq)⟩) (by decide) (Int.one_dvd M)
    have f4:=qjj (Int.ne_of_gt hO.1) f3 bM
    obtain ⟨s1,_,_,s4,s5,s6⟩:=qhr f1 zl.pos
    rwa [hp1]
    refine ⟨s5,qp9 f4 (zb.le s4),?_,_,rfl⟩
    rw [qmJ hz]
  · rintro σ H' ⟨x,rfl,rfl⟩
    rw [lx,List.take_length]
    refine qa3 (qek (qoX (xs:=xs) hp rfl (fun i ys H''=>i≤xs.length∧ys=((qdP l).take i).map V.int∧H''=H') ⟨Nat.zero_le _,rfl,rfl⟩ ?_ ?_ ?_))
    · rintro i ys H'' ⟨h1,rfl,rfl⟩
      refine ⟨h1,sz ?_,rfl⟩
      rw [List.length_map,List.length_take];omega
    · rintro i x ys H'' hi ⟨h1,rfl,rfl⟩
      obtain ⟨z,hz,p1,rfl,hp1⟩:=hN.get hi
      have zl:=hL z (List.mem_of_getElem? hz)
      have zb:=qb z (List.mem_of_getElem? hz)
      have zn:=hB z (List.mem_of_getElem? hz)
      have hi2:i<xs.length:=(List.getElem?_eq_some_iff.mp hi).1
      rwa [hp1]
      have eB:l.foldl (fun B q=>B*(q.2 / ((Int.gcd B q.2:Nat):Int))) 1=qea l:=rfl
      rw [eB]
      have cz:(qdP l)[i]?=some (z.1*(qea l / z.2)):=by unfold qdP;rw [List.getElem?_map,hz];rfl
      refine ⟨zl.pos,qp9 zn (BB.le (qcF B0 zl.pos)),by omega,?_⟩
      rw [qaS V.int cz]
    · rintro ys H'' ⟨_,rfl,rfl⟩ a ha
      refine qaf rfl ⟨qmc,fun r hr=>?_⟩
      have e:(qdP l).take xs.length=qdP l:=by
        rw [lx,show l.length=(qdP l).length by unfold qdP;rw [List.length_map],List.take_length]
      rw [e] at hr ⊢
      have s:=(qae ha (HO.lst ((qdP l).map V.int))).trans (qae hr (HO.tup [V.ref a,V.int (qea l)]))
      exact q r a _ s qac (qae hr _ _ _ qac)
theorem qf9 {m n:Nat} {x y:Int} (hx:Bd m x) (hy:Bd n y) (hm:m≤60000000:=by omega) (hn:n≤60000000:=by omega):IntMulOk x y:=qo9 (hx.mono hm) (hy.mono hn)
theorem qfF {K:W.Frag} {a:Addr} {capt:List (Option Nat)} {te:TE} {σ:L2.St} {Q:VK} {H:Hp} {ns:List Int} (F:Int→Int) (hp:H a=some (.lst (ns.map V.int))) (hl:ns.length≤1000)
    (hs:∀ n,n∈ns→∀ P:VK,P (.int (F n)) H→te ((qb0 capt σ).set 0 (some (.int n))) H P) (hd:∀ p,H p=none→Q (.ref p) (upd H p (.lst ((ns.map F).map V.int)))):CompJ (Itl K a) capt (qai 0) te σ Q H:=by
  refine CompJ.lst (xs:=ns.map V.int) (fun i ys H'=>i≤ns.length∧H'=H∧ys=((ns.map F).take i).map V.int) ⟨Nat.zero_le _,rfl,rfl⟩ ?_ ?_ ?_
  · rintro i ys H' ⟨h1,rfl,rfl⟩
    refine ⟨by rw [List.length_map];exact h1,sz ?_,SqL.of hp⟩
    rw [List.length_map,List.length_take];omega
  · rintro i x ys H' hi ⟨h1,rfl,rfl⟩
    rw [List.getElem?_map] at hi
    cases e:ns[i]? with
    | none=>rw [e] at hi;cases hi
    | some n=>
      rw [e] at hi
      obtain rfl:V.int n=x:=Option.some.inj hi
      have hi2:i<ns.length:=(List.getElem?_eq_some_iff.mp e).1
      show te ((qb0 capt σ).set 0 (some (.int n))) H' _
      refine hs n (List.mem_of_getElem? e) _ ⟨by omega,rfl,?_⟩
      rw [qaS V.int (q:=F n) (by rw [List.getElem?_map,e];rfl)]
  · rintro ys H' ⟨_,rfl,rfl⟩ p hpn
    have e:(ns.map F).take (ns.map V.int).length=ns.map F:=by rw [List.length_map,show ns.length=(ns.map F).length by rw [List.length_map],List.take_length]
    rw [e]
    exact hd p hpn
theorem qga (h:qb7 K vs H Q E):qdQ K { nx:=fun _ H'=>Q .non H',rt:=Q } (L2.start ["row", "prime"] vs) H:=by
  obtain ⟨p,ns,m,rfl,hp,m0,hl,q⟩:=h
  unfold qdQ
  rwa []
  refine ⟨⟨_,SqL.of hp⟩,qfF (· % m) hp hl (fun n _ P hP=>?_) q⟩
  rwa []
  exact ⟨m0,hP⟩
theorem qbM (a m:Int):m∣a % m - a:=⟨-(a / m),by have:=Int.emod_add_mul_ediv a m;rw [Int.mul_neg];omega⟩
theorem qe4 (h:qbp K vs H Q E):qc7 K { nx:=fun _ H'=>Q .non H',rt:=Q } (L2.start ["whole", "prime", "one", "other", "one_weight", "other_weight", "quotient", "rest"] vs) H:=by
  obtain ⟨a,p,rfl,p2,bp,q⟩:=h
  unfold qc7 qcs qcr qcq qcp
  rwa []
  refine ⟨by omega,?_⟩
  have a0:=Int.emod_nonneg a (show p≠0 by omega)
  have a1:=Int.emod_lt_of_pos a (show 0<p by omega)
  refine qbZ (fun n σ H'=>∃ (x y s t:Int) (u v:Option V),σ=[some (.int a),some (.int p),some (.int x),some (.int y),some (.int s),some (.int t),u,v]∧H'=H∧n=y.toNat∧0≤y∧y<x∧x≤p∧
    Int.gcd x y=Int.gcd a p∧p∣x - s*a∧p∣y - t*a∧(t.natAbs:Int)*x+(s.natAbs:Int)*y≤p∧(s.natAbs:Int)≤p) (a % p).toNat ⟨p,a % p,0,1,none,none,rfl,rfl,rfl,a0,a1,Int.le_refl _,?_,⟨1,by omega⟩,?_,by simp,by simp;omega⟩ ?_
  · rw [qhj a (by omega)]
  · rw [show a % p - 1*a=a % p - a by omega]
    exact qbM a p
  · rintro n σ H' ⟨x,y,s,t,u,v,rfl,rfl,rfl,y0,yx,xp,hg,hs,ht,hb,hsp⟩
    have tx:(t.natAbs:Int)*1≤(t.natAbs:Int)*x:=Int.mul_le_mul_of_nonneg_left (by omega) (by omega)
    have sy:0≤(s.natAbs:Int)*y:=Int.mul_nonneg (by omega) y0
    have tp:(t.natAbs:Int)≤p:=by omega
    rwa []
    refine qbr (fun c=>?_) (fun c=>?_)
    · have yp:0<y:=by
        have:y≠0:=by simpa using c
        omega
      unfold qbC qbB qbA qbz qby qbx qbw
      have q0:=Int.ediv_nonneg (show 0≤x by omega) y0
      have q1:x / y≤x:=Int.ediv_le_self y (by omega)
      have r0:=Int.emod_nonneg x (show y≠0 by omega)
      have r1:=Int.emod_lt_of_pos x yp
      have er:x - x / y*y=x % y:=by have:=Int.emod_add_mul_ediv x y;rw [Int.mul_comm] at this;omega
      have B:∀ {z:Int},z.natAbs≤p.natAbs→Bd 60000000 z:=fun h=>(bp.le h).mono (by decide)
      refine ⟨fun σ' H''=>∃ m',m'<y.toNat∧_,fun _ _ h=>h,?_⟩
      rwa []
      refine ⟨yp,qf9 (B (by omega)) (B (by omega)),qf9 (B (by omega)) (B (by omega)),?_⟩
      refine ⟨(x - x / y*y).toNat,by omega,rfl,by omega,by omega,by omega,?_,ht,?_,?_,tp⟩
      · rw [er,qhj x y0];exact hg
      · obtain ⟨α,hα⟩:=hs
        obtain ⟨β,hβ⟩:=ht
        exact ⟨α - x / y*β,by
          generalize x / y=qq at *
          have e1:x=s*a+p*α:=by omega
          have e2:y=t*a+p*β:=by omega
          rw [e1,e2];grind⟩
      · have n1:((s - x / y*t).natAbs:Int)≤(s.natAbs:Int)+x / y*(t.natAbs:Int):=by
          have h1:=Int.natAbs_sub_le s (x / y*t)
          rw [Int.natAbs_mul] at h1
          have h2:((x / y).natAbs:Int)=x / y:=by omega
          have h3:(((x / y).natAbs*t.natAbs:Nat):Int)=x / y*(t.natAbs:Int):=by rw [Int.natCast_mul,h2]
          omega
        have n2:=Int.mul_le_mul_of_nonneg_right n1 y0
        rw [er]
        have n3:(t.natAbs:Int)*(x % y)=(t.natAbs:Int)*x - (t.natAbs:Int)*(x / y*y):=by rw [← er,Int.mul_sub]
        rw [n3]
        generalize (t.natAbs:Int)=tt at *
        generalize (s.natAbs:Int)=ss at *
        generalize x / y=qq at *
        have n4:(ss+qq*tt)*y=ss*y+tt*(qq*y):=by grind
        omega
    · have yz:y=0:=by simpa using c
      unfold qco
      rwa []
      refine ⟨by omega,q _ (Int.emod_nonneg _ (by omega)) (Int.emod_lt_of_pos _ (by omega)) fun hc=>?_⟩
      have x1:x=1:=by
        rw [yz] at hg
        rw [Int.gcd_zero_right,hc] at hg
        omega
      obtain ⟨α,hα⟩:=hs
      obtain ⟨γ,hγ⟩:=qbM s p
      refine ⟨γ*a - α,?_⟩
      have e1:s % p=s+p*γ:=by omega
      rw [e1]
      have e2:s*a=1 - p*α:=by omega
      grind
theorem qkk (h:qdI K vs H Q E):qid K { nx:=fun _ H'=>Q .non H',rt:=Q } (L2.start ["whole", "prime", "rest"] vs) H:=by
  obtain ⟨w,p,rfl,p0,k⟩:=h
  unfold qid
  rwa []
  have r0:=Int.emod_nonneg w (show p≠0 by omega)
  have r1:=Int.emod_lt_of_pos w p0
  have rd:=qbM w p
  refine ⟨p0,IntMulOk.of_left (intBits_le_64 (by omega) (by omega)),qbr (fun c=>?_) (fun c=>?_)⟩
  · refine k _ ?_ (by omega)
    obtain ⟨γ,hγ⟩:=rd
    exact ⟨γ - 1,by rw [Int.mul_sub];omega⟩
  · exact k _ rd (by omega)
theorem bdc {n:Nat} {x:Int} (h:x.natAbs<2 ^ n):Bd n x:=h
theorem SDs.tp {H H':Hp} (s:Same H H'):∀ {xs:List V} {rs:List (List Int)},SDs H xs rs→SDs H' xs rs
  | [],[],_=>trivial
  | _::_,_::_,h=>⟨let ⟨p,e,q⟩:=h.1;⟨p,e,s _ _ q⟩,SDs.tp s h.2⟩
  | [],_::_,h=>h.elim
  | _::_,[],h=>h.elim
theorem SD.tp {H H':Hp} (s:Same H H') {p:Addr} {rs:List (List Int)} (h:SD H p rs):SD H' p rs:=let ⟨xs,e,q⟩:=h;⟨xs,s _ _ e,q.tp s⟩
theorem SDs.length {H:Hp}:∀ {xs:List V} {rs:List (List Int)},SDs H xs rs→xs.length=rs.length
  | [],[],_=>rfl
  | _::_,_::_,h=>congrArg (·+1) (SDs.length h.2)
  | [],_::_,h=>h.elim
  | _::_,[],h=>h.elim
theorem SDs.get {H:Hp}:∀ {xs:List V} {rs:List (List Int)} {i:Nat} {v:V},SDs H xs rs→xs[i]?=some v→∃ p r,v=.ref p∧rs[i]?=some r∧H p=some (.lst (r.map V.int))
  | [],[],_,_,_,e=>by simp at e
  | _::_,r::_,0,_,h,e=>by
    simp at e;subst e
    obtain ⟨p,e,q⟩:=h.1
    exact ⟨p,r,e,rfl,q⟩
  | _::_,_::_,i+1,_,h,e=>by
    obtain ⟨p,r,h1,h2,h3⟩:=SDs.get (i:=i) h.2 (by simpa using e)
    exact ⟨p,r,h1,by simpa using h2,h3⟩
  | [],_::_,_,_,h,_=>h.elim
  | _::_,[],_,_,h,_=>h.elim
theorem SDs.snoc {H:Hp} {p:Addr} {r:List Int} (hp:H p=some (.lst (r.map V.int))):∀ {xs:List V} {rs:List (List Int)},SDs H xs rs→SDs H (xs++[.ref p]) (rs++[r])
  | [],[],_=>⟨⟨p,rfl,hp⟩,trivial⟩
  | _::_,_::_,h=>⟨h.1,SDs.snoc hp h.2⟩
  | [],_::_,h=>h.elim
  | _::_,[],h=>h.elim
theorem qfG {H0 H:Hp} {p:Addr} (s:Same H0 H) (h:H p=none) (o:HO):Same H0 (L2.upd H p o):=s.trans (qae h o)
theorem qhC {K:W.Frag} {capt:List (Option Nat)} {te:TE} {σ:L2.St} {H:Hp} {Q:VK} {a b:Addr} {ns ms:List Int} (F:Int→Int→Int) (ha:H a=some (.lst (ns.map V.int))) (hb:H b=some (.lst (ms.map V.int))) (hl:ns.length=ms.length) (h1:ns.length≤1000)
    (hs:∀ x y,x∈ns→y∈ms→∀ (H':Hp) (P:VK),Same H H'→P (.int (F x y)) H'→te (((qb0 capt σ).set 0 (some (.int x))).set 1 (some (.int y))) H' P) (hd:∀ (p:Addr) (H':Hp),Same H H'→H' p=none→Q (.ref p) (upd H' p (.lst ((List.zipWith F ns ms).map V.int)))) :
    CompJ (Itz K a b) capt (qdj 2 (qba (qai 0) (qba (qai 1) qhO))) te σ Q H:=by
  have lz:(List.zipWith F ns ms).length=ns.length:=by rw [List.length_zipWith];omega
  refine CompJ.zip (xs:=ns.map V.int) (ys:=ms.map V.int) (by rw [List.length_map,List.length_map,hl]) (fun i zs H'=>i≤ns.length∧Same H H'∧zs=((List.zipWith F ns ms).take i).map V.int) ⟨Nat.zero_le _,Same.refl H,rfl⟩ ?_ ?_ ?_
  · rintro i zs H' ⟨h2,s,rfl⟩
    refine ⟨by rw [List.length_map];exact h2,sz ?_,SqL.of (s _ _ ha),SqL.of (s _ _ hb)⟩
    rw [List.length_map,List.length_take];omega
  · rintro i x y zs H' p hx hy ⟨h2,s,rfl⟩ hp
    rw [List.getElem?_map] at hx hy
    obtain ⟨m,em,rfl⟩:=Option.map_eq_some_iff.mp hx
    obtain ⟨n,en,rfl⟩:=Option.map_eq_some_iff.mp hy
    have ez:(List.zipWith F ns ms)[i]?=some (F m n):=by rw [List.getElem?_zipWith,em,en]
    refine ⟨p,_,rfl,qac,rfl,_,_,rfl,_,_,rfl,rfl,?_⟩
    refine hs m n (List.mem_of_getElem? em) (List.mem_of_getElem? en) _ _ (qfG s hp _) ?_
    refine ⟨?_,qfG s hp _,?_⟩
    · have:=(List.getElem?_eq_some_iff.mp em).1;omega
    · rw [qaS V.int ez]
  · rintro zs H' ⟨_,s,rfl⟩ p hp
    rw [List.length_map,← lz,List.take_length]
    exact hd p H' s hp
theorem qlM (f:Nat→Int):∀ rs:List Int,(∀ i,i<rs.length→f i=co rs.reverse i)→rs.reverse.sum=su rs.length f
  | [],_=>rfl
  | x::rs,h=>by
    rw [List.reverse_cons] at h ⊢
    rw [List.sum_append]
    show _=su rs.length f+f rs.length
    have h2:=h rs.length (Nat.lt_succ_self _)
    rw [qlM f rs fun i hi=>?_,h2]
    · unfold co
      rw [List.getD_eq_getElem?_getD,List.getElem?_append_right (by rw [List.length_reverse];exact Nat.le_refl _),List.length_reverse,Nat.sub_self]
      simp
    · rw [h i (Nat.lt_succ_of_lt hi)]
      unfold co
      rw [List.getD_eq_getElem?_getD,List.getElem?_append_left (by rw [List.length_reverse];exact hi),List.getD_eq_getElem?_getD]
theorem qpa (f:Nat→Int) (ns:List Int) (h:∀ i,i<ns.length→f i=co ns i):ns.sum=su ns.length f:=by
  have:=qlM f ns.reverse (by rw [List.length_reverse,List.reverse_reverse];exact h)
  rwa [List.reverse_reverse,List.length_reverse] at this
theorem qdE {K:W.Frag} {ta:TA} {capt:List (Option Nat)} {g:TG} {te:TE} {σ:L2.St} {H:Hp} {Q:VK} (h:ta σ H (fun vs H1=>∃ a b,vs=[.ref a,.ref b]∧(∃ xs,SqL K H1 a xs)∧(∃ ys,SqL K H1 b ys)∧CompJ (Itz K a b) capt g te σ Q H1)):qaG (qiF K ta) capt g te σ H Q:=h
theorem qlN {F:Int→Int→Int} {ns ms:List Int} {i:Nat} (h1:i<ns.length) (h2:i<ms.length):co (List.zipWith F ns ms) i=F (co ns i) (co ms i):=by
  unfold co
  rw [List.getD_eq_getElem?_getD,List.getElem?_zipWith,List.getElem?_eq_getElem h1,List.getElem?_eq_getElem h2,List.getD_eq_getElem?_getD,List.getElem?_eq_getElem h1,List.getD_eq_getElem?_getD,List.getElem?_eq_getElem h2]
  rfl
theorem qpb (h:qfY K vs H Q E):qpV K { nx:=fun _ H'=>Q .non H',rt:=Q } (L2.start ["row", "other"] vs) H:=by
  obtain ⟨a,b,ns,ms,n,rfl,ha,hb,ln,lm,n1,bn,bm,k⟩:=h
  refine qa3 (qd5 (qdE ⟨_,rfl,_,rfl,a,b,rfl,⟨_,SqL.of ha⟩,⟨_,SqL.of hb⟩,qhC (·*·) ha hb (by omega) (by omega) (fun x y hx hy H' P s p=>⟨_,rfl,_,rfl,_,_,rfl,rfl,qf9 (bn x hx) (bm y hy),p⟩) fun p H' s hp=>⟨p,_,rfl,qac,?_⟩⟩))
  rw [qpa (fun i=>co ns i*co ms i) _ fun i hi=>by
    rw [List.length_zipWith] at hi
    exact (qlN (by omega) (by omega)).symm,List.length_zipWith,show min ns.length ms.length=n by omega]
  exact k _ (qfG s hp _)
theorem qgb {a b:Nat} (h:a≤b):2 ^ a≤2 ^ b:=Nat.pow_le_pow_right (by decide) h
theorem qiQ (h:qd7 K vs H Q E):qke K { nx:=fun _ H'=>Q .non H',rt:=Q } (L2.start ["whole", "divisor"] vs) H:=by
  obtain ⟨n,rfl,hn,k⟩:=h
  have e1:(2:Nat) ^ 45001=2 ^ 45000*2:=Nat.pow_succ 2 45000
  have e2:(2:Nat) ^ 2≤2 ^ 45000:=qgb (by decide)
  refine qbZ (fun m σ H'=>∃ d:Nat,σ=[some (.int (n:Int)),some (.int (d:Int))]∧H'=H∧2≤d∧m=n+2 - d∧d≤n+2∧∀ e,2≤e→e<d→¬ e∣n) n ⟨2,rfl,rfl,by omega,by omega,by omega,fun e h1 h2=>by omega⟩ ?_
  rintro m σ H' ⟨d,rfl,rfl,d2,rfl,dn,hd⟩
  have bd:Bd 45001 (d:Int):=by
    unfold Bd;rw [Int.natAbs_natCast,e1]
    generalize (2:Nat) ^ 45000=Z at *
    omega
  clear e1 e2 hn
  refine ⟨_,rfl,_,rfl,_,_,rfl,rfl,qf9 bd bd,_,rfl,_,_,rfl,rfl,_,rfl,qbr (fun c=>?_) (fun c=>?_)⟩
  · have c:=of_decide_eq_true c
    have c':d*d≤n:=by exact_mod_cast c
    have dl:d<n:=by
      have:d*2≤d*d:=Nat.mul_le_mul_left d d2
      omega
    refine ⟨_,fun _ _ h=>h,?_⟩
    refine ⟨_,rfl,_,rfl,_,_,rfl,rfl,by omega,rfl,_,rfl,qbr (fun z=>?_) (fun z=>?_)⟩
    · refine k false ⟨(fun z=>by cases z),fun hp=>?_⟩
      have z:(n:Int) % (d:Int)=0:=by simpa using z
      have dv:d∣n:=Int.natCast_dvd_natCast.mp (Int.dvd_of_emod_eq_zero z)
      rcases hp.div d dv with y | y <;> omega
    · have z:¬ (n:Int) % (d:Int)=0:=by simpa using z
      refine ⟨_,rfl,_,_,rfl,rfl,?_⟩
      refine ⟨n+2 - (d+1),by omega,d+1,rfl,rfl,by omega,rfl,by omega,fun e e2 ed he=>?_⟩
      rcases Nat.lt_succ_iff_lt_or_eq.mp ed with y | y
      · exact hd e e2 y he
      · rw [y] at he;exact z (Int.emod_eq_zero_of_dvd (Int.natCast_dvd_natCast.mpr he))
  · have c:¬ (d:Int)*(d:Int)≤(n:Int):=fun y=>c (decide_eq_true y)
    have c':n<d*d:=by have:(n:Int)<((d*d:Nat):Int):=by push_cast;omega
                      omega
    refine ⟨_,rfl,_,_,rfl,rfl,k _ ?_⟩
    constructor
    · intro y
      have n2:1<(n:Int):=of_decide_eq_true y
      refine ⟨by omega,fun e he=>?_⟩
      obtain ⟨f,hf⟩:=he
      by_cases e1:e=1
      · exact .inl e1
      by_cases en:e=n
      · exact .inr en
      exfalso
      have e0:e≠0:=fun z=>by rw [z] at hf;omega
      have f0:f≠0:=fun z=>by rw [z] at hf;omega
      have f1:f≠1:=fun z=>by rw [z] at hf;omega
      rcases Nat.lt_or_ge e d with y1 | y1
      · exact hd e (by omega) y1 ⟨f,hf⟩
      · rcases Nat.lt_or_ge f d with y2 | y2
        · exact hd f (by omega) y2 ⟨e,by rw [hf,Nat.mul_comm]⟩
        · have:=Nat.mul_le_mul y1 y2
          omega
    · intro y
      have:=y.two
      exact decide_eq_true (by omega)
theorem qgt (h:qcG K vs H Q E):qhy K { nx:=fun _ H'=>Q .non H',rt:=Q } (L2.start ["whole", "found"] vs) H:=by
  obtain ⟨n,g,rfl,hg,ng,g2,k⟩:=h
  refine ⟨_,rfl,_,_,rfl,rfl,?_⟩
  refine qbZ (fun m σ H'=>∃ d:Nat,σ=[some (.int (n:Int)),some (.int (d:Int))]∧H'=H∧n<d∧d≤g∧m=g - d) (g - (n+1)) ⟨n+1,rfl,rfl,by omega,by omega,rfl⟩ ?_
  rintro m σ H' ⟨d,rfl,rfl,nd,dg,rfl⟩
  refine qfr ⟨_,rfl,d,rfl,Nat.lt_of_le_of_lt dg g2,fun b hb=>⟨_,rfl,?_⟩⟩
  clear g2
  cases b with
  | true=>
    show (if (!true)=true then _ else _)
    refine qbr (fun c=>by cases c) (fun _=>?_)
    exact ⟨_,rfl,k d (hb.mp rfl) nd dg⟩
  | false=>
    refine qbr (fun _=>?_) (fun c=>absurd rfl c)
    have ne:d≠g:=fun z=>by have:=hb.mpr (z ▸ hg);cases this
    refine ⟨_,fun _ _ h=>h,?_⟩
    exact ⟨_,rfl,_,_,rfl,rfl,g - (d+1),by omega,d+1,rfl,rfl,by omega,by omega,rfl⟩
theorem qqp:Pr p31:=qjm (n:=29) (r:=9) (k:=10) (j:=2) rfl (by decide +kernel)
theorem qgu (h:qcH K vs H Q E):qhz K { nx:=fun _ H'=>Q .non H',rt:=Q } (L2.start ["prime"] vs) H:=by
  obtain ⟨n,g,rfl,hg,ng,g2,g31,k⟩:=h
  have e:(qlD:Int)=170141183460469231731687303715884105727:=by decide
  refine ⟨_,rfl,rfl,_,rfl,qbr (fun c=>?_) (fun c=>?_)⟩
  · have c:(n:Int)=170141183460469231731687303715884105727:=by simpa using c
    exact k p31 qqp (.inl ⟨by omega,rfl⟩) g31
  · have c:¬ (n:Int)=170141183460469231731687303715884105727:=by simpa using c
    exact qfr (qaf rfl ⟨n,g,rfl,hg,ng.resolve_left (by omega),g2,fun p pp np pg=>k p pp (.inr ⟨by omega,np⟩) pg⟩)
theorem qpc {α:Type} {xs:List α} {i j k:Nat} {x y:α} (hx:xs[j]?=some x) (hy:xs[i]?=some y) (hi:i<xs.length) (hj:j<xs.length) (hk:k<xs.length):((xs.set i x).set j y)[k]?=xs[tw i j k]?:=by
  rw [List.getElem?_set,List.length_set,List.getElem?_set]
  unfold tw
  by_cases q:k=j
  · by_cases r:k=i
    · rw [if_pos q.symm,if_pos hj,if_pos r,← q,r,hy]
    · rw [if_pos q.symm,if_pos hj,if_neg r,if_pos q,hy]
  · rw [if_neg (fun z=>q z.symm)]
    by_cases r:k=i
    · rw [if_pos r.symm,if_pos hi,if_pos r,hx]
    · rw [if_neg (fun z=>r z.symm),if_neg r,if_neg q]
theorem qe5 {n i:Nat} (h:i<n):ixN n (i:Int)=some i:=by
  unfold ixN
  rw [if_pos (by omega),if_pos (by omega)]
  simp
theorem qkl (h:qdJ K vs H Q E):qlE K { nx:=fun _ H'=>Q .non H',rt:=Q } (L2.start ["row", "one", "other", "result"] vs) H:=by
  obtain ⟨a,xs,i,j,rfl,ha,hi,hj,x1,k⟩:=h
  refine qaz (qd5 (qaf rfl ⟨a,xs,rfl,ha,fun r hr=>?_⟩))
  have ra:a≠r:=qaj ha hr
  obtain ⟨x,hx⟩:∃ x,xs[j]?=some x:=⟨_,List.getElem?_eq_getElem hj⟩
  obtain ⟨y,hy⟩:∃ y,xs[i]?=some y:=⟨_,List.getElem?_eq_getElem hi⟩
  refine qfd (qaD (qaf rfl (qaf rfl (qdM (by rw [qav ra];exact ha) (qbc hx) ?_))))
  refine ⟨_,rfl,_,rfl,r,xs,_,i,rfl,rfl,qac,qe5 hi,?_⟩
  rw [qkx]
  refine qfd (qaD (qaf rfl (qaf rfl (qdM (by rw [qav ra];exact ha) (qbc hy) ?_))))
  refine ⟨_,rfl,_,rfl,r,_,_,j,rfl,rfl,qac,qe5 (by rw [List.length_set];exact hj),?_⟩
  rw [qkx]
  exact qa3 (qaf rfl (k r _ hr (by rw [List.length_set,List.length_set]) fun k hk=>qpc hx hy hi hj hk))
theorem qkm {D:Ends} {t:TS} {σ:L2.St} {H:Hp} (h:t D σ H):qbt { D with nx:=t D } σ H:=h
theorem qgv (h:qbs K vs H Q E):qhA K { nx:=fun _ H'=>Q .non H',rt:=Q } (L2.start ["row", "lead", "column", "prime", "weight"] vs) H:=by
  obtain ⟨a,b,ns,ms,n,c,p,rfl,ha,hb,ln,lm,n1,cn,p0,bp,rn,rm,k⟩:=h
  have hc:(ns.map V.int)[c]?=some (.int (co ns c)):=by
    rw [List.getElem?_map,List.getElem?_eq_getElem (by omega)]
    unfold co
    rw [List.getD_eq_getElem?_getD,List.getElem?_eq_getElem (by omega)];rfl
  have cm:co ns c∈ns:=by
    unfold co
    rw [List.getD_eq_getElem?_getD,List.getElem?_eq_getElem (by omega)]
    exact List.getElem_mem _
  refine qaz (qaD (qaf rfl (qaf rfl (qdM ha (qbc hc) ?_))))
  refine qjo (qaV (qaD (qaf rfl (r_c ⟨rfl,_,rfl,qbr (fun z=>?_) (fun _=>?_)⟩))))
  · have z:co ns c=0:=by simpa using z
    refine qa3 (qaf rfl (k a ns H (Same.refl H) (.inl rfl) ha ln rn fun j hj=>?_))
    rw [z,show Zm.of p 0=0 from rfl]
    grind
  · refine qkm (qa3 (qdE ⟨_,rfl,_,rfl,a,b,rfl,⟨_,SqL.of ha⟩,⟨_,SqL.of hb⟩,qhC (fun x y=>(x - co ns c*y) % p) ha hb (by omega) (by omega) (fun x y hx hy H' P s q=>?_) fun r H' s hr=>?_⟩))
    · have B:∀ z,0≤z∧z<p→Bd 45000 z:=fun z hz=>bp.le (by omega)
      exact ⟨_,rfl,_,rfl,_,rfl,_,_,rfl,rfl,qf9 (B _ (rn _ cm)) (B _ (rm y hy)),_,_,rfl,rfl,_,rfl,_,_,rfl,rfl,p0,q⟩
    · refine k r _ _ (qfG s hr _) (.inr (s.free hr)) qac (by rw [List.length_zipWith];omega) (fun z hz=>?_) fun j hj=>?_
      · obtain ⟨i,hi,rfl⟩:=List.mem_iff_getElem.mp hz
        rw [List.getElem_zipWith]
        exact ⟨Int.emod_nonneg _ (by omega),Int.emod_lt_of_pos _ p0⟩
      · rw [qlN (by omega) (by omega),Zm.of_mod,Zm.of_sub,Zm.of_mul]
noncomputable def rm (H:Hp) (c:Addr):Hp:=fun b=>if b=c then none else H b
theorem qdb {H:Hp} {c:Addr}:Same (rm H c) H:=fun b o h=>by
  unfold rm at h
  by_cases q:b=c
  · rw [if_pos q] at h;cases h
  · rwa [if_neg q] at h
theorem qiR {H:Hp} {b c:Addr} {o:HO} (n:b≠c) (h:H b=some o):rm H c b=some o:=by unfold rm;rw [if_neg n];exact h
theorem qe6 {H H':Hp} (c:Addr) (s:Same H H'):Same (rm H c) (rm H' c):=fun b o h=>by
  unfold rm at h ⊢
  by_cases q:b=c
  · rw [if_pos q] at h;cases h
  · rw [if_neg q] at h ⊢;exact s b o h
theorem qjw {H:Hp} {c:Addr} {o:HO}:Same (rm H c) (rm (upd H c o) c):=fun b u h=>by
  unfold rm at h ⊢
  by_cases q:b=c
  · rw [if_pos q] at h;cases h
  · rw [if_neg q] at h ⊢;rw [qav q];exact h
theorem SDs.mk {H:Hp}:∀ {xs:List V} {rs:List (List Int)},xs.length=rs.length→(∀ (i:Nat) r,rs[i]?=some r→∃ a,xs[i]?=some (.ref a)∧H a=some (.lst (r.map V.int)))→SDs H xs rs
  | [],[],_,_=>trivial
  | x::xs,r::rs,h,k=>by
    obtain ⟨a,e,q⟩:=k 0 r rfl
    cases Option.some.inj e
    exact ⟨⟨a,rfl,q⟩,SDs.mk (Nat.succ.inj h) fun i r hr=>k (i+1) r (by simpa using hr)⟩
  | [],_::_,h,_=>nomatch h
  | _::_,[],h,_=>nomatch h
theorem SDs.at {H:Hp} {xs:List V} {rs:List (List Int)} (h:SDs H xs rs) {i:Nat} (hi:i<rs.length):∃ a,xs[i]?=some (.ref a)∧H a=some (.lst ((rs.getD i []).map V.int)):=by
  have hx:i<xs.length:=by rw [h.length];exact hi
  obtain ⟨a,r,e1,e2,e3⟩:=h.get (List.getElem?_eq_getElem hx)
  refine ⟨a,by rw [List.getElem?_eq_getElem hx,e1],?_⟩
  rw [List.getD_eq_getElem?_getD,e2];exact e3
theorem Rect.row {L:List (List Int)} {n w i:Nat} (R:Rect L n w) (h:i<n):L.getD i []∈L∧(L.getD i []).length=w:=by
  have hi:i<L.length:=by rw [R.1];exact h
  have m:L.getD i []∈L:=by rw [List.getD_eq_getElem?_getD,List.getElem?_eq_getElem hi];exact List.getElem_mem hi
  exact ⟨m,R.2 _ m⟩
theorem qa7 {ns:List Int} {i:Nat} (h:i<ns.length):co ns i∈ns:=by
  unfold co
  rw [List.getD_eq_getElem?_getD,List.getElem?_eq_getElem h];exact List.getElem_mem h
theorem qcB {ns:List Int} {i:Nat} (h:i<ns.length):(ns.map V.int)[i]?=some (.int (co ns i)):=by
  rw [List.getElem?_map,List.getElem?_eq_getElem h]
  unfold co
  rw [List.getD_eq_getElem?_getD,List.getElem?_eq_getElem h];rfl
theorem Rect.en_mem {L:List (List Int)} {n w i j:Nat} (R:Rect L n w) (h:i<n) (hj:j<w):∃ r∈L,en L i j∈r:=⟨_,(R.row h).1,qa7 (by rw [(R.row h).2];exact hj)⟩
theorem qg6 {os:List Nat} {i:Nat} (h:i<os.length):(iN os)[i]?=some (.int (nth os i:Int)):=by
  unfold iN nth
  rw [List.getElem?_map,List.getElem?_eq_getElem h,List.getD_eq_getElem?_getD,List.getElem?_eq_getElem h];rfl
theorem qa8 (os:List Nat):(iN os).length=os.length:=by unfold iN;rw [List.length_map]
theorem qfn {α:Type} (f:Nat→α) (d:α) {n i:Nat} (h:i<n):((List.range n).map f).getD i d=f i:=by
  rw [List.getD_eq_getElem?_getD,List.getElem?_map,List.getElem?_range h];rfl
theorem qaC {os:List Nat} {i:Nat} (h:i<os.length):nth os i∈os:=by
  unfold nth
  rw [List.getD_eq_getElem?_getD,List.getElem?_eq_getElem h];exact List.getElem_mem h
theorem qpd {p:Nat} (pp:Pr p) {x f:Int} (x0:0≤x) (xp:x<(p:Int)) (nz:x≠0) (hf:Int.gcd x (p:Int)=1→(p:Int)∣f*x - 1):Zm.of (p:Int) x*Zm.of (p:Int) f=1:=by
  have g:Int.gcd x (p:Int)=1:=by
    rcases pp.div _ (Int.natCast_dvd_natCast.mp (Int.gcd_dvd_right x (p:Int))) with q | q
    · exact q
    · have d:=Int.gcd_dvd_left x (p:Int)
      rw [q] at d
      have:=Int.le_of_dvd (by omega) d
      omega
  have h:=hf g
  rw [← Zm.of_mul,show (1:Zm (p:Int))=Zm.of (p:Int) 1 from rfl,Zm.of_eq,Int.mul_comm]
  exact h
structure RS (H H':Hp) (L:List (List Int)) (n w p i:Nat) (lf od cm:Addr) (LL:List (List Int)) (ob cb:List Nat):Prop where
  s:Same H H'
  cn:H cm=none
  hl:SD (rm H' cm) lf LL
  ho:rm H' cm od=some (.lst (iN ob))
  hc:H' cm=some (.lst (iN cb))
  rc:Rect LL n w
  lo:ob.length=n
  ip:InP (p:Int) LL
  re:∃ u,RE n w (fun i j=>Zm.of (p:Int) (en L i j)) i cb.length (nth ob) (nth cb) u (fun i j=>Zm.of (p:Int) (en LL i j))
theorem qlO {K:W.Frag} {H:Hp} {Q:VK} {σ:L2.St} {lf cm ld:Addr} {LL:List (List Int)} {ls:List Int} {n w p c:Nat} (hσ:σ[2]?=some (some (.ref lf))) (hσ9:σ[9]?=some (some (.ref ld))) (hσ5:σ[5]?=some (some (.int (c:Int)))) (hσ1:σ[1]?=some (some (.int (p:Int))))
    (hl:SD (rm H cm) lf LL) (hc:∃ o,H cm=some o) (hd:H ld=some (.lst (ls.map V.int))) (R:Rect LL n w) (n1:n≤100) (w1:w≤100) (lw:ls.length=w) (cw:c<w) (p0:0<p) (bp:Bd 45000 (p:Int)) (ip:InP (p:Int) LL) (il:∀ z∈ls,0≤z∧z<(p:Int))
    (k:∀ (r:Addr) (ys:List V) (RR:List (List Int)) (H':Hp),Same H H'→H' r=none→SDs (rm H' cm) ys RR→Rect RR n w→InP (p:Int) RR→(∀ t,t<n→∀ j,j<w→Zm.of (p:Int) (en RR t j)=Zm.of (p:Int) (en LL t j) - Zm.of (p:Int) (en LL t c)*Zm.of (p:Int) (co ls j))→Q (.ref r) (upd H' r (.lst ys))) :
    qaG (qbb K (qah 2)) [none,some 9,some 5,some 1] (qai 0) (qap (qbs K) [] E0 (qab (qah 0) (qab (qah 1) (qab (qah 2) (qab (qah 3) qao))))) σ H Q:=by
  obtain ⟨ws,hlf,hS⟩:=hl
  have lw2:=hS.length
  have hlf':=qdb _ _ hlf
  obtain ⟨oc,hoc⟩:=hc
  refine qa0 (qaf hσ ⟨lf,rfl,⟨_,SqL.of hlf'⟩,CompJ.lst (xs:=ws) (fun i ys H'=>i≤ws.length∧Same H H'∧∃ RR:List (List Int),SDs (rm H' cm) ys RR∧RR.length=i∧(∀ r∈RR,r.length=w)∧InP (p:Int) RR∧∀ t,t<i→∀ j,j<w→Zm.of (p:Int) (en RR t j)=Zm.of (p:Int) (en LL t j) - Zm.of (p:Int) (en LL t c)*Zm.of (p:Int) (co ls j)) ⟨Nat.zero_le _,Same.refl H,[],trivial,rfl,(fun _ h=>nomatch h),(fun _ h=>nomatch h),fun t h=>absurd h (Nat.not_lt_zero t)⟩ ?_ ?_ ?_⟩)
  · rintro i ys H' ⟨hi,s,RR,hR,lR,_⟩
    refine ⟨hi,sz ?_,SqL.of (s _ _ hlf')⟩
    rw [hR.length,lR,← R.1.symm.symm] at *
    have:=R.1
    omega
  · rintro i x ys H' hx ⟨hi,s,RR,hR,lR,rw',iR,hZ⟩
    have hi2:i<ws.length:=(List.getElem?_eq_some_iff.mp hx).1
    have hin:i<n:=by have:=R.1;omega
    obtain ⟨a,r,rfl,er,ha⟩:=hS.get hx
    have eg:LL.getD i []=r:=by rw [List.getD_eq_getElem?_getD,er];rfl
    have hr:=R.row hin
    rw [eg] at hr
    have acm:a≠cm:=fun z=>by
      unfold rm at ha
      rw [if_pos z] at ha;cases ha
    have b5:(qb0 [none,some 9,some 5,some 1] σ)=[none,some (.ref ld),some (.int (c:Int)),some (.int (p:Int))]:=by
      show [none,(σ[9]?).join,(σ[5]?).join,(σ[1]?).join]=_
      rw [hσ9,hσ5,hσ1];rfl
    rw [b5]
    refine qd6 (qmC (qaf rfl (qaf rfl (qaf rfl (qaf rfl ⟨a,ld,r,ls,w,c,_,rfl,s _ _ (qdb _ _ ha),s _ _ hd,hr.2,lw,by omega,cw,by omega,bp,ip r hr.1,il,fun q rs H2 s2 hq hrs lrs irs ers=>?_⟩)))))
    have qcm:q≠cm:=by
      rcases hq with z | z
      · rw [z];exact acm
      · exact (qaj (s _ _ hoc) z).symm
    refine ⟨hi2,s.trans s2,RR++[rs],(hR.tp (qe6 cm s2)).snoc (qiR qcm hrs),by rw [List.length_append,lR];rfl,fun r hr=>?_,fun r hr=>?_,fun t ht j hj=>?_⟩
    · rcases List.mem_append.mp hr with z | z
      · exact rw' r z
      · rw [List.mem_singleton.mp z];exact lrs
    · rcases List.mem_append.mp hr with z | z
      · exact iR r z
      · rw [List.mem_singleton.mp z];exact irs
    · unfold en
      by_cases z:t<i
      · rw [List.getD_eq_getElem?_getD,List.getElem?_append_left (by omega),← List.getD_eq_getElem?_getD]
        exact hZ t z j hj
      · have e:t=i:=by omega
        subst e
        rw [List.getD_eq_getElem?_getD,List.getElem?_append_right (by omega),lR,Nat.sub_self]
        show Zm.of _ (co rs j)=_
        rw [eg]
        exact ers j hj
  · rintro ys H' ⟨_,s,RR,hR,lR,rw',iR,hZ⟩ r hr
    have e:ws.length=n:=by have:=R.1;omega
    exact k r ys RR H' s hr hR ⟨by omega,rw'⟩ iR fun t ht=>hZ t (by omega)
theorem CompF.range {capt:List (Option Nat)} {g:TG} {tc:TT} {te:TE} {σ:L2.St} {H:Hp} {Q:VK} {lo:Int} {n:Nat} (W:Nat→List V→Hp→Prop) (h0:W 0 [] H) (hb:∀ i ys H,W i ys H→i≤n∧ys.length≤sizeLine)
    (hs:∀ i ys H,i<n→W i ys H→g (.int (lo+i)) (qb0 capt σ) H fun σ2 H2=>tc σ2 H2 fun b H3=>if b=true then te σ2 H3 fun y H4=>W (i+1) (ys++[y]) H4 else W (i+1) ys H3) (hd:∀ ys H,W n ys H→∀ p,H p=none→Q (.ref p) (upd H p (.lst ys))):CompF (Itr lo n) capt g tc te σ Q H:=by
  refine ⟨n,W,h0,fun i ys H w=>⟨(hb i ys H w).1,(hb i ys H w).2,?_⟩⟩
  by_cases h:i<n
  · refine .inr ⟨h,h,fun x H' y=>?_⟩
    obtain ⟨e,y⟩:=y
    subst e y
    exact hs i ys _ h w
  · have e:i=n:=Nat.le_antisymm (hb i ys H w).1 (Nat.not_lt.mp h)
    subst e
    exact .inl ⟨Nat.le_refl _,hd ys H w⟩
theorem qmL {ta:TA} {capt:List (Option Nat)} {g:TG} {tc:TT} {te:TE} {σ:L2.St} {H:Hp} {Q:VK} (h:ta σ H (fun vs H1=>∃ i j:Int,vs=[.int i,.int j]∧(-(2 ^ 62)≤i∧i<2 ^ 62∧-(2 ^ 62)≤j∧j<2 ^ 62)∧CompF (Itr i (j - i).toNat) capt g tc te σ Q H1)):qdN (qkz ta) capt g tc te σ H Q:=h
theorem qie {c:TT} {t u:TS} {D:Ends} {σ:L2.St} {H:Hp} (h:c σ H fun b H1=>if b=true then t D σ H1 else u D σ H1):qeR c t u D σ H:=h
theorem qnm {te:TE} {σ:L2.St} {H:Hp} {Q:Bool→Hp→Prop} (h:te σ H fun x H'=>∃ p xs,x=.ref p∧H' p=some (.lst xs)∧Q (!xs.isEmpty) H'):qiD te σ H Q:=h
theorem qjx (F:Int→Int) {ns:List Int} {j:Nat} (h:j<ns.length):co (ns.map F) j=F (co ns j):=by
  unfold co
  rw [List.getD_eq_getElem?_getD,List.getElem?_map,List.getElem?_eq_getElem h,List.getD_eq_getElem?_getD,List.getElem?_eq_getElem h];rfl
theorem RS.step {K:W.Frag} {H H':Hp} {L:List (List Int)} {n w p i:Nat} {a lf od cm:Addr} {LL:List (List Int)} {ob cb:List Nat} {x6 x7 x8 x9:Option V} {D:Ends} (I:RS H H' L n w p i lf od cm LL ob cb) (iw:i<w) (n1:n≤100) (w1:w≤100) (pp:Pr p) (bp:Bd 45000 (p:Int))
    (nx:∀ H2 lf od LL ob cb x6 x7 x8 x9,RS H H2 L n w p (i+1) lf od cm LL ob cb→D.nx [some (.ref a),some (.int (p:Int)),some (.ref lf),some (.ref od),some (.ref cm),some (.int (i:Int)),x6,x7,x8,x9] H2) :
    qbL K D [some (.ref a),some (.int (p:Int)),some (.ref lf),some (.ref od),some (.ref cm),some (.int (i:Int)),x6,x7,x8,x9] H':=by
  have p2:=pp.two
  obtain ⟨s,cn,⟨ws,hlf,hS⟩,ho,hc,R,lo,ip,u,re⟩:=I
  have lws:=hS.length
  have wn:ws.length=n:=by rw [lws,R.1]
  have hlf':=qdb _ _ hlf
  have ho':=qdb _ _ ho
  have dn:=re.dn
  have di:cb.length≤100:=by omega
  obtain ⟨d,hd⟩:∃ d,d=cb.length:=⟨_,rfl⟩
  rw [← hd] at re dn
  refine qaz (qcO (qaf rfl (qcP hc ?_)))
  rw [qa8,← hd]
  show qbK K _ _ _
  refine qaz (qmL ⟨_,rfl,_,rfl,lf,ws,rfl,hlf',_,_,rfl,by rw [wn];omega,?_⟩)
  rw [wn,show ((n:Int) - (d:Int)).toNat=n - d by omega]
  refine CompF.range (fun k ys H2=>k≤n - d∧H2=H'∧∃ ds:List Nat,ys=iN ds∧ds.length≤k∧(∀ z∈ds,d≤z∧z<n∧en LL z i≠0)∧(ds=[]→∀ z,d≤z→z<d+k→en LL z i=0)) ⟨Nat.zero_le _,rfl,[],rfl,Nat.le_refl _,(fun _ h=>nomatch h),fun _ z h1 h2=>by omega⟩ ?_ ?_ ?_
  · rintro k ys H2 ⟨hk,rfl,ds,rfl,ld,_⟩
    exact ⟨hk,sz (by rw [qa8];omega)⟩
  · rintro k ys H2 hk ⟨_,rfl,ds,rfl,ld,h1,h2⟩
    obtain ⟨ra,hra,era⟩:=hS.at (i:=d+k) (by rw [R.1];omega)
    have hr:=R.row (i:=d+k) (by omega)
    have ec:(((LL.getD (d+k) []).map V.int))[i]?=some (.int (en LL (d+k) i)):=qcB (by rw [hr.2];exact iw)
    refine qd6 (qaV (qaD (qaD (qaD (qaf rfl (qaf rfl (qdM hlf' (qb6 (j:=d+k) (by omega) hra) (qaf rfl (qdM (qdb _ _ era) (qbc ec) (r_c ⟨rfl,_,rfl,qbr (fun z=>?_) (fun z=>?_)⟩))))))))))
    · have z:en LL (d+k) i≠0:=by simpa using z
      refine ⟨_,rfl,by omega,rfl,ds++[d+k],?_,by rw [List.length_append];exact Nat.succ_le_succ ld,fun y hy=>?_,fun e=>by simp at e⟩
      · unfold iN
        rw [List.map_append]
        show _++[V.int ((d:Int)+(k:Int))]=_++[V.int ((d+k:Nat):Int)]
        rw [Int.natCast_add]
      · rcases List.mem_append.mp hy with q | q
        · exact h1 y q
        · rw [List.mem_singleton.mp q];exact ⟨by omega,by omega,z⟩
    · have z:en LL (d+k) i=0:=by simpa using z
      refine ⟨by omega,rfl,ds,rfl,by omega,h1,fun e y y1 y2=>?_⟩
      by_cases q:y=d+k
      · rw [q];exact z
      · exact h2 e y y1 (by omega)
  rintro ys H2 ⟨_,rfl,ds,rfl,ld,h1,h2⟩ ch hch
  have chcm:ch≠cm:=(qaj hc hch).symm
  have s1:=qae hch (.lst (iN ds))
  show qbJ K _ _ _
  refine qie (qnm (qaf rfl ⟨ch,_,rfl,qac,qbr (fun c=>?_) (fun c=>?_)⟩))
  · -- a pivot
    obtain ⟨k,ds',rfl⟩:∃ k ds',ds=k::ds':=by
      cases ds with
      | nil=>cases c
      | cons k ds'=>exact ⟨k,ds',rfl⟩
    obtain ⟨dk,kn,knz⟩:=h1 k (List.mem_cons_self ..)
    clear c h2
    have hk0:(iN (k::ds'))[0]?=some (.int (k:Int)):=rfl
    generalize hH3:upd H2 ch (.lst (iN (k::ds')))=H3 at *
    have hch3:H3 ch=some (.lst (iN (k::ds'))):=by rw [← hH3];exact qac
    refine qiJ (qaf rfl (qaf rfl (qaD (qaf rfl (r_c (qdM hch3 (qb6 (j:=0) rfl hk0) ⟨lf,ws,d,k,rfl,s1 _ _ hlf',by omega,by omega,by omega,fun l2 ys hl2 ly ey=>?_⟩))))))
    have s2:=qae hl2 (.lst ys)
    have l2cm:l2≠cm:=(qaj (s1 _ _ hc) hl2).symm
    generalize hH4:upd H3 l2 (.lst ys)=H4 at *
    have hl24:H4 l2=some (.lst ys):=by rw [← hH4];exact qac
    show qbI K _ _ _
    refine qiJ (qaf rfl (qaf rfl (qaD (qaf rfl (r_c (qdM (s2 _ _ hch3) (qb6 (j:=0) rfl hk0) ⟨od,iN ob,d,k,rfl,s2 _ _ (s1 _ _ ho'),by rw [qa8];omega,by rw [qa8];omega,by rw [qa8];omega,fun o2 zs ho2 lz ez=>?_⟩))))))
    have s3:=qae ho2 (.lst zs)
    have o2cm:o2≠cm:=(qaj (s2 _ _ (s1 _ _ hc)) ho2).symm
    generalize hH5:upd H4 o2 (.lst zs)=H5 at *
    have ho25:H5 o2=some (.lst zs):=by rw [← hH5];exact qac
    have s13:=(s1.trans s2).trans s3
    rw [qa8] at lz ez
    have zse:zs=iN ((List.range n).map fun t=>nth ob (tw d k t)):=by
      refine List.ext_getElem? fun t=>?_
      rcases Nat.lt_or_ge t n with q | q
      · rw [ez t (by omega),qg6 (by rw [lo];exact qlu (by omega) (by omega) q),qg6 (by simpa using q)]
        unfold nth
        rw [qfn _ _ q]
      · rw [List.getElem?_eq_none (by omega),List.getElem?_eq_none (by rw [qa8];simpa using q)]
    have hS5:SDs (rm H5 cm) ys ((List.range n).map fun t=>LL.getD (tw d k t) []):=SDs.mk (by rw [ly,wn];simp) fun t r hr=>by
      have q:t<n:=by
        have:=(List.getElem?_eq_some_iff.mp hr).1
        simpa using this
      rw [List.getElem?_map,List.getElem?_range q] at hr
      obtain ⟨b,eb,hb⟩:=hS.at (i:=tw d k t) (by rw [R.1];exact qlu (by omega) kn q)
      refine ⟨b,by rw [ey t (by omega),eb],?_⟩
      cases hr
      exact qe6 cm s13 _ _ hb
    have e5:∀ t,t<n→∀ j,en ((List.range n).map fun t=>LL.getD (tw d k t) []) t j=en LL (tw d k t) j:=fun t ht j=>by
      unfold en
      rw [qfn _ _ ht]
    have R5:Rect ((List.range n).map fun t=>LL.getD (tw d k t) []) n w:=⟨by simp,fun r hr=>by
      obtain ⟨t,ht,rfl⟩:=List.mem_map.mp hr
      exact (R.row (qlu (by omega) kn (List.mem_range.mp ht))).2⟩
    have ip5:InP (p:Int) ((List.range n).map fun t=>LL.getD (tw d k t) []):=fun r hr=>by
      obtain ⟨t,ht,rfl⟩:=List.mem_map.mp hr
      exact ip _ (R.row (qlu (by omega) kn (List.mem_range.mp ht))).1
    generalize hL5:((List.range n).map fun t=>LL.getD (tw d k t) [])=L5 at *
    show qbH K _ _ _
    obtain ⟨rd,hrd,erd⟩:=hS5.at (i:=d) (by rw [R5.1];omega)
    have hr5:=R5.row (i:=d) (by omega)
    have ec:(((L5.getD d []).map V.int))[i]?=some (.int (en L5 d i)):=qcB (by rw [hr5.2];exact iw)
    have edd:en L5 d i=en LL k i:=by rw [e5 d (by omega),qpR]
    have zi:=ip5 _ hr5.1 _ (qa7 (i:=i) (by rw [hr5.2];exact iw))
    refine qdk (qaD (qaD (qaf rfl (qaf rfl (qdM (s3 _ _ hl24) (qbc hrd) (qaf rfl (qdM (qdb _ _ erd) (qbc ec) (qaf rfl ⟨_,_,rfl,by omega,bp,fun f f0 f1 hf=>?_⟩))))))))
    have hinv:Zm.of (p:Int) (en LL k i)*Zm.of (p:Int) f=1:=by
      rw [← edd]
      exact qpd pp zi.1 zi.2 (by show en L5 d i≠0;rw [edd];exact knz) hf
    show qbG K _ _ _
    refine qaz (qa0 (qaD (qaf rfl (qaf rfl (qdM (s3 _ _ hl24) (qbc hrd) ⟨rd,rfl,⟨_,SqL.of (qdb _ _ erd)⟩,qfF (fun z=>z*f % (p:Int)) (qdb _ _ erd) (by rw [hr5.2];omega) (fun z hz P hP=>?_) fun ld hld=>?_⟩)))))
    · have zb:=ip5 _ hr5.1 z hz
      exact ⟨_,rfl,_,rfl,_,_,rfl,rfl,qf9 (bp.le (by omega)) (bp.le (by omega)),_,rfl,_,_,rfl,rfl,by omega,hP⟩
    have s4:=qae hld (.lst (((L5.getD d []).map fun z=>z*f % (p:Int)).map V.int))
    have lcm:ld≠cm:=(qaj (s13 _ _ hc) hld).symm
    obtain ⟨ls,hls⟩:∃ ls,ls=(L5.getD d []).map fun z=>z*f % (p:Int):=⟨_,rfl⟩
    rw [← hls] at s4 ⊢
    have lls:ls.length=w:=by rw [hls,List.length_map];exact hr5.2
    have cls:∀ j,j<w→Zm.of (p:Int) (co ls j)=Zm.of (p:Int) (en LL k j)*Zm.of (p:Int) f:=fun j hj=>by
      have e:co ls j=en L5 d j*f % (p:Int):=by
        rw [hls]
        exact qjx _ (by rw [hr5.2];exact hj)
      rw [e,Zm.of_mod,Zm.of_mul,e5 d (by omega),qpR]
    have ils:∀ z∈ls,0≤z∧z<(p:Int):=fun z hz=>by
      rw [hls] at hz
      obtain ⟨y,_,rfl⟩:=List.mem_map.mp hz
      exact ⟨Int.emod_nonneg _ (by omega),Int.emod_lt_of_pos _ (by omega)⟩
    generalize hH6:upd H5 ld (.lst (ls.map V.int))=H6 at *
    have hld6:H6 ld=some (.lst (ls.map V.int)):=by rw [← hH6];exact qac
    have s14:=s13.trans s4
    show qbF K _ _ _
    refine qaz (qlO (lf:=l2) (cm:=cm) (ld:=ld) (LL:=L5) (ls:=ls) (n:=n) (w:=w) (p:=p) (c:=i) rfl rfl rfl rfl ⟨ys,qiR l2cm (s4 _ _ (s3 _ _ hl24)),hS5.tp (qe6 cm s4)⟩ ⟨_,s14 _ _ hc⟩ hld6 R5 n1 w1 lls iw (by omega) bp ip5 ils fun l3 zs3 L6 H7 s5 hl3 hS6 R6 ip6 e6=>?_)
    have s15:=s14.trans s5
    have l3cm:l3≠cm:=(qaj (s15 _ _ hc) hl3).symm
    have s6:=qae hl3 (.lst zs3)
    generalize hH8:upd H7 l3 (.lst zs3)=H8 at *
    have hl38:H8 l3=some (.lst zs3):=by rw [← hH8];exact qac
    have l3ld:ld≠l3:=qaj (s5 _ _ hld6) hl3
    show qbE K _ _ _
    have lz3:=hS6.length
    refine qfd (qaf rfl ⟨_,rfl,_,rfl,l3,zs3,_,d,rfl,rfl,hl38,qe5 (by rw [lz3,R6.1];omega),?_⟩)
    show qbD K _ _ _
    have hld8:H8 ld=some (.lst (ls.map V.int)):=s6 _ _ (s5 _ _ hld6)
    have hc8:H8 cm=some (.lst (iN cb)):=s6 _ _ (s15 _ _ hc)
    generalize hH9:upd H8 l3 (.lst (zs3.set d (.ref ld)))=H9 at *
    have hc9:H9 cm=some (.lst (iN cb)):=by rw [← hH9,qav l3cm.symm];exact hc8
    refine ⟨_,rfl,.inl ⟨rfl,_,SqL.of hc9⟩,_,rfl,cm,_,_,rfl,rfl,hc9,sz (by rw [qa8];omega),?_⟩
    have k9:Kp l3 H8 H9:=by rw [← hH9];exact Kp.upd
    refine nx _ l3 o2 (L6.set d ls) ((List.range n).map fun t=>nth ob (tw d k t)) (cb++[i]) _ _ _ _ ?_
    have sH9:Same H2 H9:=by
      intro b o hb
      exact k9 b o (qaj (s15 b o hb) hl3) (s6 _ _ (s15 b o hb))
    have hcat:iN cb++[V.int (i:Int)]=iN (cb++[i]):=by unfold iN;rw [List.map_append];rfl
    rw [hcat]
    have en6:∀ t,t<n→∀ j,en (L6.set d ls) t j=if t=d then co ls j else en L6 t j:=fun t ht j=>by
      unfold en
      rw [List.getD_eq_getElem?_getD,List.getElem?_set]
      by_cases q:t=d
      · rw [if_pos q.symm,if_pos (by rw [R6.1];omega),if_pos q];rfl
      · rw [if_neg (fun z=>q z.symm),if_neg q,← List.getD_eq_getElem?_getD]
    refine ⟨fun b o hb=>?_,cn,⟨zs3.set d (.ref ld),?_,?_⟩,?_,qac,⟨by rw [List.length_set];exact R6.1,fun r hr=>?_⟩,by simp,fun r hr=>?_,?_⟩
    · rw [qav (qaj hb cn)]
      exact sH9 _ _ (s _ _ hb)
    · refine qjw _ _ (qiR l3cm ?_)
      rw [← hH9];exact qac
    · refine SDs.mk (by rw [List.length_set,List.length_set];exact lz3) fun t r hr=>?_
      have tn:t<n:=by
        have:=(List.getElem?_eq_some_iff.mp hr).1
        rw [List.length_set,R6.1] at this;exact this
      rw [List.getElem?_set] at hr ⊢
      by_cases q:d=t
      · rw [if_pos q,if_pos (by rw [R6.1];omega)] at hr
        rw [if_pos q,if_pos (by rw [lz3,R6.1];omega)]
        cases hr
        exact ⟨ld,rfl,qjw _ _ (qiR lcm (k9 _ _ l3ld hld8))⟩
      · rw [if_neg q] at hr ⊢
        obtain ⟨b,eb,hb⟩:=hS6.at (i:=t) (by rw [R6.1];exact tn)
        refine ⟨b,eb,?_⟩
        rw [List.getD_eq_getElem?_getD,hr] at hb
        have bcm:b≠cm:=fun z=>by
          unfold rm at hb
          rw [if_pos z] at hb;cases hb
        have hb7:=qdb _ _ hb
        exact qjw _ _ (qiR bcm (k9 _ _ (qaj hb7 hl3) (s6 _ _ hb7)))
    · have:=s6 _ _ (s5 _ _ (s4 _ _ ho25))
      rw [zse] at this
      exact qjw _ _ (qiR o2cm (k9 _ _ (qaj (s5 _ _ (s4 _ _ ho25)) hl3) this))
    · rcases List.mem_or_eq_of_mem_set hr with q | q
      · exact R6.2 r q
      · rw [q];exact lls
    · rcases List.mem_or_eq_of_mem_set hr with q | q
      · exact ip6 r q
      · rw [q];exact ils
    · rw [List.length_append,← hd]
      have cbn:∀ t,t<d→nth (cb++[i]) t=nth cb t:=fun t ht=>by
        unfold nth
        rw [List.getD_eq_getElem?_getD,List.getElem?_append_left (by omega),← List.getD_eq_getElem?_getD]
      refine re.step (k:=k) (y:=Zm.of (p:Int) f) iw dk kn hinv (fun t ht=>?_) cbn ?_ (fun j hj=>?_) (fun t ht q j hj=>?_)
      · unfold nth
        rw [qfn _ _ ht]
      · unfold nth
        rw [List.getD_eq_getElem?_getD,List.getElem?_append_right (by omega),← hd,Nat.sub_self];rfl
      · show Zm.of _ (en (L6.set d ls) d j)=_
        rw [en6 d (by omega),if_pos rfl]
        exact cls j hj
      · show Zm.of _ (en (L6.set d ls) t j)=_
        rw [en6 t ht,if_neg q,e6 t ht j hj,e5 t ht,e5 t ht,cls j hj]
  · have e:ds=[]:=by
      cases ds with
      | nil=>rfl
      | cons k ds'=>exact absurd rfl c
    refine nx _ lf od LL ob cb _ _ _ _ ⟨s.trans s1,cn,⟨ws,qe6 cm s1 _ _ hlf,hS.tp (qe6 cm s1)⟩,qe6 cm s1 _ _ ho,s1 _ _ hc,R,lo,ip,u,?_⟩
    rw [← hd]
    refine re.skip fun t dt tn=>?_
    rw [h2 e t dt (by omega)]
    rfl
theorem qpe {H:Hp} {c:Addr} {o:HO} (h:H c=none):Same H (rm (upd H c o) c):=fun b u hb=>qiR (qaj hb h) (qae h o b u hb)
theorem Rect.nil {n w:Nat} {L:List (List Int)} (R:Rect L n w) (h:n=0):L=[]:=List.length_eq_zero_iff.mp (R.1.trans h)
theorem qlP {a:Addr} {L:List (List Int)} {n w:Nat} {σ:L2.St} {H:Hp} {Q:VK} (hσ:σ[0]?=some (some (.ref a))) (h:SD H a L) (R:Rect L n w) (k0:n=0→Q (.int 0) H) (k1:n≠0→Q (.int (w:Int)) H):tIf (qiD (qah 0)) (tCB qcE (qab (tOp gL (qah 0) (tC (.int 0))) qao)) (tC (.int 0)) σ H Q:=by
  obtain ⟨ws,ha,hS⟩:=h
  have lw:=hS.length
  refine qnm (qaf hσ ⟨a,ws,rfl,ha,qbr (fun c=>?_) (fun c=>?_)⟩)
  · have n0:n≠0:=fun z=>by
      rw [R.nil z] at lw
      rw [List.length_eq_zero_iff.mp lw] at c;cases c
    obtain ⟨b,eb,hb⟩:=hS.at (i:=0) (by rw [R.1];omega)
    refine qcO (qaD (qaf hσ (r_c (qdM ha (qb6 (j:=0) rfl eb) (qcP hb ?_)))))
    rw [List.length_map,(R.row (i:=0) (by omega)).2]
    exact k1 n0
  · refine k0 (Classical.byContradiction fun z=>c ?_)
    cases ws with
    | nil=>have:0=L.length:=lw;have:=R.1;omega
    | cons=>rfl
theorem RE.none {R:Type} [Lean.Grind.CommRing R] {w d:Nat} {a u l:Nat→Nat→R} {o c:Nat→Nat} (I:RE 0 w a 0 d o c u l):RE 0 w a w d o c u l:=by
  have:d=0:=by have:=I.dn;omega
  subst this
  exact ⟨Nat.le_refl _,I.on,I.inj,fun s h=>absurd h (Nat.not_lt_zero s),I.cr,I.row,fun i _ h=>absurd h (Nat.not_lt_zero i),fun s h=>absurd h (Nat.not_lt_zero s),fun i _ h=>absurd h (Nat.not_lt_zero i),I.ech⟩
theorem SDs.take {H:Hp}:∀ {xs:List V} {rs:List (List Int)} (n:Nat),SDs H xs rs→SDs H (xs.take n) (rs.take n)
  | [],[],n,_=>by simp [SDs]
  | _::_,_::_,0,_=>trivial
  | _::_,_::_,n+1,h=>⟨h.1,SDs.take n h.2⟩
  | [],_::_,_,h=>h.elim
  | _::_,[],_,h=>h.elim
theorem qmM {os:List Nat} {d i:Nat} (h:i<d):nth (os.take d) i=nth os i:=by
  unfold nth
  rw [List.getD_eq_getElem?_getD,List.getElem?_take,if_pos h,← List.getD_eq_getElem?_getD]
theorem qoc {L:List (List Int)} {d i j:Nat} (h:i<d):en (L.take d) i j=en L i j:=by
  unfold en
  rw [List.getD_eq_getElem?_getD,List.getElem?_take,if_pos h,← List.getD_eq_getElem?_getD]
theorem qe7 (h:qa9 K vs H Q E):qfs K { nx:=fun _ H'=>Q .non H',rt:=Q } (L2.start ["rows", "prime", "left", "order", "columns", "column", "done", "chosen", "factor", "lead"] vs) H:=by
  obtain ⟨a,L,n,w,p,rfl,hL,R,n1,w1,pp,bp,k⟩:=h
  have p2:=pp.two
  obtain ⟨ws,ha,hS⟩:=hL
  have lws:=hS.length
  have wn:ws.length=n:=by rw [lws,R.1]
  obtain ⟨L0,hL0⟩:∃ L0:List (List Int),L0=L.map fun r=>r.map (· % (p:Int)):=⟨_,rfl⟩
  refine qaz (qa0 (qaf rfl ⟨a,rfl,⟨_,SqL.of ha⟩,CompJ.lst (xs:=ws) (fun i ys H'=>i≤ws.length∧Same H H'∧SDs H' ys (L0.take i)) ⟨Nat.zero_le _,Same.refl H,trivial⟩ ?_ ?_ ?_⟩))
  · rintro i ys H' ⟨hi,s,hR⟩
    refine ⟨hi,sz ?_,SqL.of (s _ _ ha)⟩
    rw [hR.length,List.length_take]
    omega
  · rintro i x ys H' hx ⟨hi,s,hR⟩
    have hi2:i<ws.length:=(List.getElem?_eq_some_iff.mp hx).1
    obtain ⟨b,r,rfl,er,hb⟩:=hS.get hx
    have hr:r∈L:=List.mem_of_getElem? er
    refine qd6 (qaO (qaf rfl (qaf rfl ⟨b,r,_,rfl,s _ _ hb,by omega,by rw [R.2 r hr];omega,fun q hq=>?_⟩)))
    have s2:=qae hq (.lst ((r.map (· % (p:Int))).map V.int))
    refine ⟨hi2,s.trans s2,?_⟩
    have e0:L0[i]?=some (r.map (· % (p:Int))):=by rw [hL0,List.getElem?_map,er];rfl
    have et:L0.take (i+1)=L0.take i++[r.map (· % (p:Int))]:=by rw [List.take_add_one,e0];rfl
    rw [et]
    exact (hR.tp s2).snoc qac
  rintro ys H1 ⟨_,s1,hR⟩ lf hlf
  have e0:L0.take ws.length=L0:=by rw [lws,show L.length=L0.length by rw [hL0,List.length_map],List.take_length]
  rw [e0] at hR
  have s2:=qae hlf (.lst ys)
  generalize hH2:upd H1 lf (.lst ys)=H2 at *
  have hlf2:H2 lf=some (.lst ys):=by rw [← hH2];exact qac
  have s12:=s1.trans s2
  show qcw K _ _ _
  refine qaz (show qle _ _ _ _ from qcO (qaf rfl (qcP (s12 _ _ ha) ⟨n,by rw [wn],by omega,fun od hod=>?_⟩)))
  have s3:=qae hod (.lst ((List.range n).map fun i:Nat=>V.int (i:Int)))
  generalize hH3:upd H2 od (.lst ((List.range n).map fun i:Nat=>V.int (i:Int)))=H3 at *
  have hod3:H3 od=some (.lst (iN (List.range n))):=by rw [← hH3];exact qac
  show qcv K _ _ _
  refine qaz (show qfy qao _ _ _ from ⟨Nat.zero_le _,fun cm hcm=>?_⟩)
  have s4:=qae hcm (.lst [])
  have s13:=s12.trans s3
  have s14:=s13.trans s4
  have cn:H cm=none:=s13.free hcm
  have r4:Same H3 (rm (upd H3 cm (.lst [])) cm):=qpe hcm
  generalize hH4:upd H3 cm (.lst [])=H4 at *
  have hcm4:H4 cm=some (.lst (iN [])):=by rw [← hH4];exact qac
  have R0:Rect L0 n w:=⟨by rw [hL0,List.length_map];exact R.1,fun r hr=>by
    rw [hL0] at hr
    obtain ⟨r',h',rfl⟩:=List.mem_map.mp hr
    rw [List.length_map];exact R.2 r' h'⟩
  have ip0:InP (p:Int) L0:=fun r hr z hz=>by
    rw [hL0] at hr
    obtain ⟨r',h',rfl⟩:=List.mem_map.mp hr
    obtain ⟨y,_,rfl⟩:=List.mem_map.mp hz
    exact ⟨Int.emod_nonneg _ (by omega),Int.emod_lt_of_pos _ (by omega)⟩
  have ez:∀ i,i<n→∀ j,j<w→Zm.of (p:Int) (en L0 i j)=Zm.of (p:Int) (en L i j):=fun i hi j hj=>by
    have e:en L0 i j=en L i j % (p:Int):=by
      have hi':i<L.length:=by rw [R.1];exact hi
      have e1:L0.getD i []=(L.getD i []).map (· % (p:Int)):=by
        rw [hL0,List.getD_eq_getElem?_getD,List.getElem?_map,List.getElem?_eq_getElem hi',List.getD_eq_getElem?_getD,List.getElem?_eq_getElem hi'];rfl
      show co (L0.getD i []) j=co (L.getD i []) j % _
      rw [e1]
      exact qjx _ (by rw [(R.row hi).2];exact hj)
    rw [e,Zm.of_mod]
  have re0:∃ u,RE n w (fun i j=>Zm.of (p:Int) (en L i j)) 0 0 (nth (List.range n)) (nth []) u (fun i j=>Zm.of (p:Int) (en L0 i j)):=by
    have nr:∀ i,i<n→nth (List.range n) i=i:=fun i hi=>by
      unfold nth
      rw [List.getD_eq_getElem?_getD,List.getElem?_range hi];rfl
    refine ⟨fun _ _=>0,Nat.zero_le _,fun i hi=>by rw [nr i hi];exact hi,fun i j hi hj e=>by rw [nr i hi,nr j hj] at e;exact e,fun s h=>absurd h (Nat.not_lt_zero s),fun s t _ h=>absurd h (Nat.not_lt_zero t),fun i h=>absurd h (Nat.not_lt_zero i),fun i _ hi j hj=>?_,fun s h=>absurd h (Nat.not_lt_zero s),fun _ _ _ j h=>absurd h (Nat.not_lt_zero j),fun i h=>absurd h (Nat.not_lt_zero i)⟩
    show Zm.of _ (en L0 i j)=Zm.of _ (en L (nth (List.range n) i) j)+0
    rw [nr i hi,ez i hi j hj];grind
  have I0:RS H H4 L n w p 0 lf od cm L0 (List.range n) []:=⟨s14,cn,⟨ys,r4 _ _ (s3 _ _ hlf2),(hR.tp (s2.trans s3)).tp r4⟩,r4 _ _ hod3,hcm4,R0,List.length_range,ip0,re0⟩
  have fin:∀ H' lf od LL ob cb x5 x6 x7 x8 x9,RS H H' L n w p w lf od cm LL ob cb→qct K { nx:=fun _ H'=>Q .non H',rt:=Q } [some (.ref a),some (.int (p:Int)),some (.ref lf),some (.ref od),some (.ref cm),x5,x6,x7,x8,x9] H':=by
    rintro H' lf od LL ob cb x5 x6 x7 x8 x9 ⟨s,cn,⟨ws,hlf,hS⟩,ho,hc,R',lo,ip,u,re⟩
    have lws:=hS.length
    have dn:=re.dn
    have hlf':=qdb _ _ hlf
    have ho':=qdb _ _ ho
    have hS':=hS.tp qdb
    refine qa3 (qjn (qaf rfl (qcO (qaf rfl (qcP hc ⟨_,rfl,lf,ws,rfl,hlf',fun l2 hl2=>?_⟩)))))
    rw [qa8,qia (by rw [lws,R'.1];exact dn)]
    have s2:=qae hl2 (.lst (ws.take cb.length))
    refine qaf rfl (qcO (qaf rfl (qcP (s2 _ _ hc) ⟨_,rfl,od,_,rfl,s2 _ _ ho',fun o2 ho2=>?_⟩)))
    rw [qa8,qia (by rw [qa8,lo];exact dn)]
    have s3:=qae ho2 (.lst ((iN ob).take cb.length))
    refine qaf rfl ⟨qo1,fun r hr=>?_⟩
    have s4:=qae hr (.tup [.ref l2,.ref o2,.ref cm])
    have st:Same H' (upd (upd (upd H' l2 (.lst (ws.take cb.length))) o2 (.lst ((iN ob).take cb.length))) r (.tup [.ref l2,.ref o2,.ref cm])):=(s2.trans s3).trans s4
    have ol:(ob.take cb.length).length=cb.length:=by rw [List.length_take];omega
    refine k r l2 o2 cm (LL.take cb.length) (ob.take cb.length) cb _ (s.trans st) qac ⟨ws.take cb.length,s4 _ _ (s3 _ _ qac),((hS'.take _).tp st)⟩ ?_ (st _ _ hc) ⟨⟨?_,fun r hr=>R'.2 r (List.mem_of_mem_take hr)⟩,ol.symm,fun r hr=>ip r (List.mem_of_mem_take hr),?_⟩
    · have:iN (ob.take cb.length)=(iN ob).take cb.length:=by unfold iN;rw [List.map_take]
      rw [this]
      exact s4 _ _ qac
    · rw [ol,List.length_take,R'.1];omega
    · rw [ol]
      exact ⟨nth ob,nth cb,u,_,re,fun i hi=>qmM hi,fun i _=>rfl,fun i hi j hj=>by rw [qoc hi]⟩
  show qcu K _ _ _
  refine (show qef _ _ _ _ _ _ from qlP rfl (⟨ws,s14 _ _ ha,hS.tp s14⟩:SD H4 a L) R (fun n0=>⟨0,rfl,by decide,by decide,?_⟩) (fun n0=>⟨(w:Int),rfl,by omega,by omega,?_⟩))
  · refine ForR.by (fun i σ H'=>i=0∧σ=[some (.ref a),some (.int (p:Int)),some (.ref lf),some (.ref od),some (.ref cm),none,none,none,none,none]∧H'=H4) ⟨rfl,rfl,rfl⟩ (fun i σ H' hi=>absurd hi (Nat.not_lt_zero i)) ?_
    rintro σ H' ⟨_,rfl,rfl⟩
    obtain ⟨u,re⟩:=re0
    refine fin _ _ _ _ _ _ _ _ _ _ _ ⟨I0.s,cn,I0.hl,I0.ho,hcm4,R0,List.length_range,ip0,u,?_⟩
    subst n0
    exact re.none
  · refine ForR.by (fun i σ H'=>∃ lf od LL ob cb x5 x6 x7 x8 x9,σ=[some (.ref a),some (.int (p:Int)),some (.ref lf),some (.ref od),some (.ref cm),x5,x6,x7,x8,x9]∧RS H H' L n w p i lf od cm LL ob cb) ⟨lf,od,L0,_,_,none,none,none,none,none,rfl,I0⟩ ?_ ?_
    · rintro i σ H' hi ⟨lf,od,LL,ob,cb,x5,x6,x7,x8,x9,rfl,I⟩
      have iw:i<w:=by omega
      refine qd6 ?_
      rw [show ((0:Int)+(i:Int))=(i:Int) by omega]
      exact I.step iw n1 w1 pp bp fun H2 lf od LL ob cb x6 x7 x8 x9 J=>⟨lf,od,LL,ob,cb,_,x6,x7,x8,x9,rfl,J⟩
    · rintro σ H' ⟨lf,od,LL,ob,cb,x5,x6,x7,x8,x9,rfl,I⟩
      exact fin _ _ _ _ _ _ _ _ _ _ _ I
theorem qiS (h:qb8 K vs H Q E):qkf K { nx:=fun _ H'=>Q .non H',rt:=Q } (L2.start ["sides"] vs) H:=by
  obtain ⟨a,L,n,w,rfl,hL,R,z,k⟩:=h
  refine qa3 (qlP rfl hL R (fun n0=>?_) (fun _=>k))
  have:=z n0
  subst this
  exact k
theorem qlQ (h:qdm K vs H Q E):qmE K { nx:=fun _ H'=>Q .non H',rt:=Q } (L2.start ["row", "places"] vs) H:=by
  obtain ⟨a,b,ns,ps,rfl,ha,hb,hp,p1,k⟩:=h
  refine qa3 (qa0 (qaf rfl ⟨b,rfl,⟨_,SqL.of hb⟩,CompJ.lst (xs:=iN ps) (fun i ys H'=>i≤ps.length∧H'=H∧ys=((ps.map (co ns)).take i).map V.int) ⟨Nat.zero_le _,rfl,rfl⟩ ?_ ?_ ?_⟩))
  · rintro i ys H' ⟨hi,rfl,rfl⟩
    refine ⟨by rw [qa8];exact hi,sz ?_,SqL.of hb⟩
    rw [List.length_map,List.length_take];omega
  · rintro i x ys H' hx ⟨hi,rfl,rfl⟩
    have hi2:i<ps.length:=by have:=(List.getElem?_eq_some_iff.mp hx).1;rw [qa8] at this;exact this
    rw [qg6 hi2] at hx
    cases hx
    have hn:nth ps i<ns.length:=hp _ (qaC hi2)
    refine qd6 (qaD (qaf rfl (qaf rfl (qdM ha (qbc (qcB hn)) ⟨hi2,rfl,?_⟩))))
    have e:(ps.map (co ns))[i]?=some (co ns (nth ps i)):=by
      unfold nth
      rw [List.getElem?_map,List.getElem?_eq_getElem hi2,List.getD_eq_getElem?_getD,List.getElem?_eq_getElem hi2];rfl
    rw [qaS V.int e]
  · rintro ys H' ⟨_,rfl,rfl⟩ r hr
    have e:(ps.map (co ns)).take (iN ps).length=ps.map (co ns):=by rw [qa8,show ps.length=(ps.map (co ns)).length by rw [List.length_map],List.take_length]
    rw [e]
    exact k r hr
theorem qjy {rs:List Int} {i j:Nat} {z:Int} (h:i<rs.length):co (rs.set i z) j=if j=i then z else co rs j:=by
  unfold co
  rw [List.getD_eq_getElem?_getD,List.getElem?_set]
  by_cases q:j=i
  · rw [if_pos q.symm,if_pos h,if_pos q];rfl
  · rw [if_neg (fun z=>q z.symm),if_neg q,List.getD_eq_getElem?_getD]
theorem qe8 {ps:List Nat} (h:ps.Nodup) {i j:Nat} (hi:i<ps.length) (hj:j<ps.length) (e:nth ps i=nth ps j):i=j:=by
  unfold nth at e
  rw [List.getD_eq_getElem?_getD,List.getElem?_eq_getElem hi,List.getD_eq_getElem?_getD,List.getElem?_eq_getElem hj] at e
  exact (List.getElem_inj h).mp e
theorem qnn (w j:Nat):co (List.replicate w (0:Int)) j=0:=by
  unfold co
  rw [List.getD_eq_getElem?_getD,List.getElem?_replicate]
  split <;> rfl
theorem qlR (h:qcQ K vs H Q E):qmF K { nx:=fun _ H'=>Q .non H',rt:=Q } (L2.start ["places", "wholes", "width", "result", "place", "whole"] vs) H:=by
  obtain ⟨a,b,ps,zs,w,rfl,ha,hb,lp,hp,nd,w1,k⟩:=h
  refine qaz (qaD (qib (r_c ⟨qo0,fun t ht=>qaf rfl ⟨t,_,_,rfl,rfl,qac,by omega,by omega,?_,fun r hr=>?_⟩⟩)))
  · rw [Int.toNat_natCast,show [V.int 0].length=1 from rfl,Nat.one_mul];exact sz (by omega)
  rw [Int.toNat_natCast,qhw]
  have s1:=qae ht (.lst [.int 0])
  have s2:=qae hr (.lst (List.replicate w (V.int 0)))
  have s12:=s1.trans s2
  have rn:H r=none:=s1.free hr
  generalize hH2:upd (upd H t (.lst [.int 0])) r (.lst (List.replicate w (V.int 0)))=H2 at *
  have hr2:H2 r=some (.lst ((List.replicate w (0:Int)).map V.int)):=by rw [List.map_replicate,← hH2];exact qac
  have lz:(iN ps).length=(zs.map V.int).length:=by rw [qa8,List.length_map,lp]
  refine (show qef (qiF K _) _ _ _ _ _ from ⟨_,rfl,_,rfl,a,b,rfl,⟨_,SqL.of (s12 _ _ ha)⟩,⟨_,SqL.of (s12 _ _ hb)⟩,ForJ.zip (xs:=iN ps) (ys:=zs.map V.int) lz (fun i σ H'=>i≤ps.length∧∃ (rs:List Int) (x4 x5:Option V),σ=[some (.ref a),some (.ref b),some (.int (w:Int)),some (.ref r),x4,x5]∧Same H H'∧H' r=some (.lst (rs.map V.int))∧rs.length=w∧(∀ t,t<i→co rs (nth ps t)=co zs t)∧(∀ j,(∀ t,t<i→nth ps t≠j)→co rs j=0))
    ⟨Nat.zero_le _,List.replicate w 0,none,none,rfl,s12,hr2,List.length_replicate,fun t h=>absurd h (Nat.not_lt_zero t),fun j _=>qnn w j⟩ ?_ ?_ ?_⟩)
  · rintro i σ H' _ ⟨_,rs,x4,x5,rfl,s,_⟩
    exact ⟨s _ _ ha,s _ _ hb⟩
  · rintro i x y q σ H' hx hy ⟨_,rs,x4,x5,rfl,s,hr',lr,h1,h2⟩ hq
    have hi2:i<ps.length:=by have:=(List.getElem?_eq_some_iff.mp hx).1;rw [qa8] at this;exact this
    rw [qg6 hi2] at hx
    rw [qcB (by omega)] at hy
    cases hx;cases hy
    have s3:=qae hq (.tup [V.int (nth ps i:Int),.int (co zs i)])
    have hn:nth ps i<w:=hp _ (qaC hi2)
    refine ⟨q,_,rfl,qac,rfl,_,_,rfl,_,_,rfl,rfl,?_⟩
    refine ⟨_,rfl,_,rfl,_,rfl,r,_,_,nth ps i,rfl,rfl,s3 _ _ hr',qe5 (by rw [List.length_map,lr];exact hn),?_⟩
    refine ⟨hi2,rs.set (nth ps i) (co zs i),_,_,rfl,?_,by rw [List.map_set];exact qac,by rw [List.length_set];exact lr,fun t ht=>?_,fun j hj=>?_⟩
    · exact fun b o hb=>by rw [qav (qaj hb rn)];exact s3 _ _ (s b o hb)
    · rw [qjy (by omega)]
      by_cases e:t=i
      · rw [e,if_pos rfl]
      · rw [if_neg fun z=>e (qe8 nd (by omega) hi2 z)]
        exact h1 t (by omega)
    · rw [qjy (by omega),if_neg fun z=>hj i (by omega) z.symm]
      exact h2 j fun t ht=>hj t (by omega)
  · rintro σ H' ⟨_,rs,x4,x5,rfl,s,hr',lr,h1,h2⟩
    rw [qa8] at h1 h2
    exact qa3 (qaf rfl (k r rs H' s rn hr' lr h1 h2))
theorem qgc (h:qa4 K vs H Q E):qgr K { nx:=fun _ H'=>Q .non H',rt:=Q } (L2.start ["wholes", "bottom"] vs) H:=by
  obtain ⟨a,zs,b,rfl,ha,z1,b0,k⟩:=h
  refine qa3 (qd5 (qa0 (qaf rfl ⟨a,rfl,⟨_,SqL.of ha⟩,CompJ.lst (xs:=zs.map V.int) (fun i ys H'=>i≤zs.length∧Same H H'∧Nums H' ys ((zs.map fun z=>qbQ z b).take i)) ⟨Nat.zero_le _,Same.refl H,trivial⟩ ?_ ?_ ?_⟩)))
  · rintro i ys H' ⟨hi,s,hN⟩
    refine ⟨by rw [List.length_map];exact hi,sz ?_,SqL.of (s _ _ ha)⟩
    rw [hN.length,List.length_take];omega
  · rintro i x ys H' hx ⟨hi,s,hN⟩
    have hi2:i<zs.length:=by have:=(List.getElem?_eq_some_iff.mp hx).1;rw [List.length_map] at this;exact this
    rw [qcB hi2] at hx
    cases hx
    refine qd6 (qaO (qaf rfl (qaf rfl ⟨_,b,rfl,b0,fun q hq=>?_⟩)))
    have s2:=qae hq (.tup [.int (qbQ (co zs i) b).1,.int (qbQ (co zs i) b).2])
    refine ⟨hi2,s.trans s2,?_⟩
    have e:(zs.map fun z=>qbQ z b)[i]?=some (qbQ (co zs i) b):=by
      unfold co
      rw [List.getElem?_map,List.getElem?_eq_getElem hi2,List.getD_eq_getElem?_getD,List.getElem?_eq_getElem hi2];rfl
    have et:(zs.map fun z=>qbQ z b).take (i+1)=(zs.map fun z=>qbQ z b).take i++[qbQ (co zs i) b]:=by rw [List.take_add_one,e];rfl
    rw [et]
    exact (hN.tp (tpS s2)).append (Nums.one qn6)
  · rintro ys H' ⟨_,s,hN⟩ r hr
    have e:(zs.map fun z=>qbQ z b).take (zs.map V.int).length=zs.map fun z=>qbQ z b:=by rw [show (zs.map V.int).length=(zs.map fun z=>qbQ z b).length by rw [List.length_map,List.length_map],List.take_length]
    rw [e] at hN
    have s2:=qae hr (.lst ys)
    refine ⟨r,ys,rfl,qac,fun q hq=>?_⟩
    have s3:=qae hq (.tup ys)
    exact k q ys _ ((s.trans s2).trans s3) qac (hN.tp (tpS (s2.trans s3)))
theorem qft (h:qbN K vs H Q E):qf0 K { nx:=fun _ H'=>Q .non H',rt:=Q } (L2.start ["rows", "place"] vs) H:=by
  obtain ⟨a,L,n,w,j,rfl,⟨ws,ha,hS⟩,R,n1,jw,k⟩:=h
  have lw:=hS.length
  have Rn:=R.1
  refine qa3 (qa0 (qaf rfl ⟨a,rfl,⟨_,SqL.of ha⟩,CompJ.lst (xs:=ws) (fun i ys H'=>i≤ws.length∧H'=H∧ys=((L.map fun l=>co l j).take i).map V.int) ⟨Nat.zero_le _,rfl,rfl⟩ ?_ ?_ ?_⟩))
  · rintro i ys H' ⟨hi,rfl,rfl⟩
    refine ⟨hi,sz ?_,SqL.of ha⟩
    rw [List.length_map,List.length_take];omega
  · rintro i x ys H' hx ⟨hi,rfl,rfl⟩
    have hi2:i<ws.length:=(List.getElem?_eq_some_iff.mp hx).1
    obtain ⟨b,r,rfl,er,hb⟩:=hS.get hx
    refine qd6 (qaD (qaf rfl (qaf rfl (qdM hb (qbc (qcB (by rw [R.2 r (List.mem_of_getElem? er)];exact jw))) ⟨hi2,rfl,?_⟩))))
    rw [qaS V.int (show (L.map fun l=>co l j)[i]?=some (co r j) by rw [List.getElem?_map,er];rfl)]
  · rintro ys H' ⟨_,rfl,rfl⟩ r hr
    have e:(L.map fun l=>co l j).take ws.length=L.map fun l=>co l j:=by rw [lw,show L.length=(L.map fun l=>co l j).length by rw [List.length_map],List.take_length]
    rw [e]
    exact k r hr
theorem qjz {ta:TA} {capt:List (Option Nat)} {g:TG} {te:TE} {σ:L2.St} {H:Hp} {Q:VK} (h:ta σ H (fun vs H1=>∃ j:Int,vs=[.int j]∧-(2 ^ 62)≤j∧j<2 ^ 62∧CompJ (Itr 0 j.toNat) capt g te σ Q H1)):qaG (qee ta) capt g te σ H Q:=h
theorem qkn (h:qdK K vs H Q E):qlH K { nx:=fun _ H'=>Q .non H',rt:=Q } (L2.start ["rows"] vs) H:=by
  obtain ⟨a,L,n,w,rfl,hL,R,z,n1,w1,k⟩:=h
  obtain ⟨LL,hLL⟩:∃ LL:List (List Int),LL=(List.range w).map fun j=>L.map fun l=>co l j:=⟨_,rfl⟩
  have lLL:LL.length=w:=by rw [hLL,List.length_map,List.length_range]
  refine qa3 (qjz (qfr (qaf rfl ⟨a,L,n,w,rfl,hL,R,z,(w:Int),rfl,by omega,by omega,?_⟩)))
  rw [Int.toNat_natCast]
  refine CompJ.range (fun i ys H'=>i≤w∧Same H H'∧SDs H' ys (LL.take i)) ⟨Nat.zero_le _,Same.refl H,trivial⟩ ?_ ?_ ?_
  · rintro i ys H' ⟨hi,s,hS⟩
    refine ⟨hi,sz ?_⟩
    rw [hS.length,List.length_take];omega
  · rintro i ys H' hi ⟨_,s,hS⟩
    rw [show ((0:Int)+(i:Int))=(i:Int) by omega]
    refine qd6 (qaO (qaf rfl (qaf rfl ⟨a,L,n,w,i,rfl,hL.tp s,R,n1,hi,fun r hr=>?_⟩)))
    have s2:=qae hr (.lst ((L.map fun l=>co l i).map V.int))
    refine ⟨hi,s.trans s2,?_⟩
    have e:LL[i]?=some (L.map fun l=>co l i):=by rw [hLL,List.getElem?_map,List.getElem?_range hi];rfl
    have et:LL.take (i+1)=LL.take i++[L.map fun l=>co l i]:=by rw [List.take_add_one,e];rfl
    rw [et]
    exact (hS.tp s2).snoc qac
  · rintro ys H' ⟨_,s,hS⟩ r hr
    rw [show LL.take w=LL by rw [← lLL,List.take_length]] at hS
    have s2:=qae hr (.lst ys)
    refine k r LL _ (s.trans s2) ⟨ys,qac,hS.tp s2⟩ ⟨lLL,fun l hl=>?_⟩ (fun i hi j hj=>?_) fun P hP l hl y hy=>?_
    · rw [hLL] at hl
      obtain ⟨j,_,rfl⟩:=List.mem_map.mp hl
      rw [List.length_map];exact R.1
    · have hi':i<L.length:=by rw [R.1];exact hi
      show co (LL.getD j []) i=co (L.getD i []) j
      rw [hLL,qfn _ _ hj]
      unfold co
      rw [List.getD_eq_getElem?_getD,List.getElem?_map,List.getElem?_eq_getElem hi',List.getD_eq_getElem?_getD (l:=L),List.getElem?_eq_getElem hi']
      rfl
    · rw [hLL] at hl
      obtain ⟨j,hj,rfl⟩:=List.mem_map.mp hl
      obtain ⟨r,hr,rfl⟩:=List.mem_map.mp hy
      exact hP r hr _ (qa7 (by rw [R.2 r hr];exact List.mem_range.mp hj))
theorem CompJ.enumL {K:W.Frag} {capt:List (Option Nat)} {g:TG} {te:TE} {σ:L2.St} {H:Hp} {Q:VK} {a:Addr} {xs:List V} (W:Nat→List V→Hp→Prop) (h0:W 0 [] H) (hb:∀ i ys H,W i ys H→i≤xs.length∧ys.length≤sizeLine∧SqL K H a xs)
    (hs:∀ i x p ys H,xs[i]?=some x→W i ys H→H p=none→g (.ref p) (qb0 capt σ) (upd H p (.tup [.int i,x])) fun σ2 H2=>te σ2 H2 fun y H3=>W (i+1) (ys++[y]) H3) (hd:∀ ys H,W xs.length ys H→∀ p,H p=none→Q (.ref p) (upd H p (.lst ys))):CompJ (qnT K a) capt g te σ Q H:=by
  refine ⟨xs.length,W,h0,fun i ys H w=>⟨(hb i ys H w).1,(hb i ys H w).2.1,?_⟩⟩
  have q:SqL K H a xs:=(hb i ys H w).2.2
  by_cases h:i<xs.length
  · refine .inr ⟨h,⟨xs,xs[i],q,by simp [h]⟩,fun x H' y=>?_⟩
    obtain ⟨p,x',hp,rfl,rfl,y⟩:=y
    exact hs i x' p ys _ (y xs q) w hp
  · have e:i=xs.length:=Nat.le_antisymm (hb i ys H w).1 (Nat.not_lt.mp h)
    subst e
    exact .inl ⟨⟨xs,q,Nat.le_refl _⟩,hd ys H w⟩
theorem qod {K:W.Frag} {ta:TA} {capt:List (Option Nat)} {g:TG} {te:TE} {σ:L2.St} {H:Hp} {Q:VK} (h:ta σ H (fun vs H1=>∃ a,vs=[.ref a]∧(∃ xs,SqL K H1 a xs)∧CompJ (qnT K a) capt g te σ Q H1)):qaG (qfR K ta) capt g te σ H Q:=h
theorem Pr.dom {p:Nat} (h:Pr p):Dom (Zm (p:Int)):=Zm.dom (by have:=h.two;omega) fun a b hab=>by
  by_cases q:p∣a.natAbs
  · exact .inl (Int.dvd_natAbs.mp (Int.natCast_dvd_natCast.mpr q))
  · refine .inr (Int.dvd_natAbs.mp (Int.natCast_dvd_natCast.mpr ?_))
    have g:=h.cop q
    have d:p∣a.natAbs*b.natAbs:=by rw [← Int.natAbs_mul];exact Int.natCast_dvd_natCast.mp (Int.dvd_natAbs.mpr hab)
    exact (Nat.Coprime.symm g).dvd_of_dvd_mul_left d
theorem qpf {q:Int} (i j:Nat):Zm.of q (dl i j)=dl i j:=by
  unfold dl
  by_cases h:i=j
  · rw [if_pos h,if_pos h];rfl
  · rw [if_neg h,if_neg h];rfl
theorem zm_dvd {q:Int} {k:Nat} {f g:Nat→Int} {i j:Nat}:(q∣su k (fun t=>f t*g t) - dl i j)↔su k (fun t=>Zm.of q (f t)*Zm.of q (g t))=dl i j:=by
  rw [← Zm.of_eq,Zm.of_su,qpf,qag (f:=fun t=>Zm.of q (f t*g t)) (g:=fun t=>Zm.of q (f t)*Zm.of q (g t)) k fun t _=>Zm.of_mul _ _]
theorem qif {xs:List V} {m:Nat} (h:m≤xs.length):qkv xs (some (m:Int)) none=xs.drop m:=by
  unfold qkv HT.sIx
  simp only [Int.toNat_natCast]
  rw [if_neg (by omega),Nat.min_eq_left h]
  exact List.take_of_length_le (by rw [List.length_drop];omega)
theorem qeK {a b:List Int} {j:Nat} (h:j<a.length):co (a++b) j=co a j:=by
  unfold co
  rw [List.getD_eq_getElem?_getD,List.getElem?_append_left h,List.getD_eq_getElem?_getD]
theorem qeL {a b:List Int} {j:Nat}:co (a++b) (a.length+j)=co b j:=by
  unfold co
  rw [List.getD_eq_getElem?_getD,List.getElem?_append_right (by omega),Nat.add_sub_cancel_left,List.getD_eq_getElem?_getD]
theorem qoe {a:List Int} {k j:Nat}:co (a.drop k) j=co a (k+j):=by
  unfold co
  rw [List.getD_eq_getElem?_getD,List.getElem?_drop,List.getD_eq_getElem?_getD]
theorem qeM {α:Type} {a b:List α} {i:Nat} {d:α} (h:i<a.length):(a++b).getD i d=a.getD i d:=by
  rw [List.getD_eq_getElem?_getD,List.getElem?_append_left h,List.getD_eq_getElem?_getD]
theorem qeN {α:Type} {a:List α} {b d:α}:(a++[b]).getD a.length d=b:=by
  rw [List.getD_eq_getElem?_getD,List.getElem?_append_right (Nat.le_refl _),Nat.sub_self];rfl
theorem qgd (h:qb9 K vs H Q E):qgs K { nx:=fun _ H'=>Q .non H',rt:=Q } (L2.start ["rows", "prime", "many", "beside"] vs) H:=by
  obtain ⟨a,M,k,p,W,rfl,hM,R,k1,pp,bp,hW,q⟩:=h
  have p2:=pp.two
  obtain ⟨ws,ha,hS⟩:=hM
  have lw:=hS.length
  have wk:ws.length=k:=by rw [lw,R.1]
  refine qaz (qcO (qaf rfl (qcP ha ?_)))
  rw [wk]
  show qc9 K _ _ _
  refine qaz (qod ⟨_,rfl,a,rfl,⟨_,SqL.of ha⟩,CompJ.enumL (xs:=ws) (fun i ys H'=>i≤ws.length∧Same H H'∧∃ BB:List (List Int),SDs H' ys BB∧BB.length=i∧(∀ r∈BB,r.length=k+k)∧∀ t,t<i→∀ j,j<k→en BB t j=en M t j∧en BB t (k+j)=dl t j) ⟨Nat.zero_le _,Same.refl H,[],trivial,rfl,(fun _ h=>nomatch h),fun t h=>absurd h (Nat.not_lt_zero t)⟩ ?_ ?_ ?_⟩)
  · rintro i ys H' ⟨hi,s,BB,hB,lB,_⟩
    exact ⟨hi,sz (by rw [hB.length];omega),SqL.of (s _ _ ha)⟩
  · rintro i x t ys H' hx ⟨hi,s,BB,hB,lB,rB,eB⟩ ht
    have hi2:i<ws.length:=(List.getElem?_eq_some_iff.mp hx).1
    obtain ⟨b,r,rfl,er,hb⟩:=hS.get hx
    have eg:M.getD i []=r:=by rw [List.getD_eq_getElem?_getD,er];rfl
    have lr:=R.2 r (List.mem_of_getElem? er)
    have s2:=qae ht (.tup [.int (i:Int),.ref b])
    refine ⟨t,_,rfl,qac,rfl,_,_,rfl,_,_,rfl,rfl,?_⟩
    generalize hH2:upd H' t (.tup [.int (i:Int),.ref b])=H2 at *
    refine qaD (qaf rfl (qkc (qib (qaf rfl ⟨qo0,fun c hc=>qib (r_c ⟨qo0,fun e he=>qaf rfl ?_⟩)⟩))))
    have s3:=qae hc (.lst [V.int (i:Int)])
    have s4:=qae he (.lst [V.int 1])
    refine ⟨c,e,[i],[1],k,rfl,s4 _ _ qac,qac,rfl,fun z hz=>by rw [List.mem_singleton.mp hz];omega,(List.pairwise_singleton _ _),by omega,fun u rs H5 s5 hu hrs lrs e1 e0=>?_⟩
    have s15:=((s2.trans s3).trans s4).trans s5
    refine ⟨b,u,_,_,rfl,rfl,s15 _ _ (s _ _ hb),hrs,sz (by rw [List.length_map,List.length_map];omega),fun v hv=>?_⟩
    have s6:=qae hv (.lst (r.map V.int++rs.map V.int))
    refine ⟨hi2,(s.trans s15).trans s6,BB++[r++rs],(hB.tp (s15.trans s6)).snoc (by rw [List.map_append];exact qac),by rw [List.length_append,lB];rfl,fun z hz=>?_,fun m hm j hj=>?_⟩
    · rcases List.mem_append.mp hz with y | y
      · exact rB z y
      · rw [List.mem_singleton.mp y,List.length_append,lr,lrs]
    · by_cases y:m<i
      · unfold en
        rw [qeM (by omega)]
        exact eB m y j hj
      · have ye:m=BB.length:=by omega
        unfold en
        rw [ye,qeN,lB,eg]
        refine ⟨qeK (by omega),?_⟩
        rw [← lr,qeL]
        unfold dl
        by_cases x:i=j
        · rw [if_pos x,← x]
          exact e1 0 Nat.one_pos
        · rw [if_neg x]
          refine e0 j fun t ht=>?_
          have:t=0:=by have:t<1:=ht;omega
          rw [this]
          exact x
  rintro ys H1 ⟨_,s1,BB,hB,lB,rB,eB⟩ be hbe
  have s2:=qae hbe (.lst ys)
  generalize hH2:upd H1 be (.lst ys)=H2 at *
  have hbe2:H2 be=some (.lst ys):=by rw [← hH2];exact qac
  show qc8 K _ _ _
  refine qa3 (qa0 (qaD (qaO (qaf rfl (qaf rfl ⟨be,BB,k,k+k,p,rfl,⟨ys,hbe2,hB.tp s2⟩,⟨by omega,rB⟩,by omega,by omega,pp,bp,fun r x y z LL os cs H3 s3 hr hx _ _ D=>r_c (qng hr (qb1 _ _ _) ?_)⟩)))))
  obtain ⟨xs,hxs,hLL⟩:=hx
  obtain ⟨o,c,u,l,re,eo,ec,el⟩:=D.ri
  have inv:=re.inverse pp.dom (M:=fun i j=>Zm.of (p:Int) (en M i j)) (W:=W) hW (fun r hr j hj=>by show Zm.of _ (en BB r j)=_;rw [(eB r (by omega) j hj).1]) (fun r hr j hj=>by show Zm.of _ (en BB r (k+j))=_;rw [(eB r (by omega) j hj).2,qpf])
  obtain ⟨dk,inv⟩:=inv
  have Rr:=D.rc
  have ip:=D.ip
  have lxs:=hLL.length
  have lLL:LL.length=k:=Rr.1.trans dk
  refine ⟨x,rfl,⟨_,SqL.of hxs⟩,CompJ.lst (xs:=xs) (fun i ys H'=>i≤xs.length∧Same H3 H'∧SDs H' ys ((LL.map fun r=>r.drop k).take i)) ⟨Nat.zero_le _,Same.refl H3,trivial⟩ ?_ ?_ ?_⟩
  · rintro i ys H' ⟨hi,s,hS'⟩
    exact ⟨hi,sz (by rw [hS'.length,List.length_take];omega),SqL.of (s _ _ hxs)⟩
  · rintro i v ys H' hv ⟨hi,s,hS'⟩
    have hi2:i<xs.length:=(List.getElem?_eq_some_iff.mp hv).1
    obtain ⟨b,r',rfl,er,hb⟩:=hLL.get hv
    have lr:=Rr.2 r' (List.mem_of_getElem? er)
    refine qd6 (show tSl sL _ _ _ _ _ _ from qaf rfl (qaf rfl ⟨_,rfl,b,_,rfl,s _ _ hb,fun w hw=>?_⟩))
    rw [qif (by rw [List.length_map];omega)]
    have s4:=qae hw (.lst ((r'.map V.int).drop k))
    refine ⟨hi2,s.trans s4,?_⟩
    have e:(LL.map fun r=>r.drop k)[i]?=some (r'.drop k):=by rw [List.getElem?_map,er];rfl
    have et:(LL.map fun r=>r.drop k).take (i+1)=(LL.map fun r=>r.drop k).take i++[r'.drop k]:=by rw [List.take_add_one,e];rfl
    rw [et]
    exact (hS'.tp s4).snoc (by rw [List.map_drop];exact qac)
  · rintro ys H' ⟨_,s,hS'⟩ v hv
    rw [show (LL.map fun r=>r.drop k).take xs.length=LL.map fun r=>r.drop k by rw [lxs,show LL.length=(LL.map fun r=>r.drop k).length by rw [List.length_map],List.take_length]] at hS'
    have s4:=qae hv (.lst ys)
    have enT:∀ i,i<k→∀ j,en (LL.map fun r=>r.drop k) i j=en LL i (k+j):=fun i hi j=>by
      have hi':i<LL.length:=by omega
      unfold en
      rw [List.getD_eq_getElem?_getD,List.getElem?_map,List.getElem?_eq_getElem hi',List.getD_eq_getElem?_getD (l:=LL),List.getElem?_eq_getElem hi']
      exact qoe
    have tm:∀ i,i<k→∀ j,j<k→su k (fun t=>Zm.of (p:Int) (en (LL.map fun r=>r.drop k) i t)*Zm.of (p:Int) (en M t j))=dl i j:=fun i hi j hj=>by
      rw [← inv i hi j hj]
      exact qag k fun t ht=>by rw [enT i hi t,← el i (by omega) (k+t) (by omega)]
    refine q v _ _ (((s1.trans s2).trans s3).trans (s.trans s4)) ⟨ys,qac,hS'.tp s4⟩ ⟨by rw [List.length_map];exact lLL,fun r hr=>?_⟩ (fun r hr z hz=>?_) ⟨fun i hi j hj=>zm_dvd.mpr (qp7 pp.dom tm i hi j hj),fun i hi j hj=>zm_dvd.mpr (tm i hi j hj)⟩
    · obtain ⟨r',h',rfl⟩:=List.mem_map.mp hr
      rw [List.length_drop,Rr.2 r' h'];omega
    · obtain ⟨r',h',rfl⟩:=List.mem_map.mp hr
      exact ip r' h' z (List.mem_of_mem_drop hz)
theorem qjA {K:W.Frag} {ta tv:TE} {f:Str} {rest:TS} {D:Ends} {σ:L2.St} {H:Hp} (h:tv σ H fun y H1=>ta σ H1 fun x H2=>∃ a C dx fs,x=.ref a∧H2 a=some (.ins C dx fs)∧Cls K C∧NoAttr K C f∧fs.length<1000∧rest D σ (upd H2 a (.ins C dx (qfx f y fs)))):qat (qnE K ta tv f) rest D σ H:=h
theorem qcY {K:W.Frag} {ta:TE} {f:Str} {σ:L2.St} {H:Hp} {Q:VK} (h:ta σ H fun x H1=>∃ a C dx fs v,x=.ref a∧H1 a=some (.ins C dx fs)∧Cls K C∧NoAttr K C f∧fs.lookup f=some v∧Q v H1):qgi K ta f σ H Q:=h
theorem SD.kx {H H':Hp} {x a:Addr} {C dx:Addr} {fs:List (Str×V)} {L:List (List Int)} (h:SD H a L) (hx:H x=some (.ins C dx fs)) (k:Kp x H H'):SD H' a L:=by
  have ne:∀ b xs,H b=some (.lst xs)→b≠x:=fun b xs hb=>qiv hb hx (by intro z;cases z)
  obtain ⟨ws,ha,hS⟩:=h
  refine ⟨ws,k _ _ (ne _ _ ha) ha,SDs.mk hS.length fun i r hr=>?_⟩
  have hi:i<L.length:=(List.getElem?_eq_some_iff.mp hr).1
  obtain ⟨b,eb,hb⟩:=hS.at hi
  rw [List.getD_eq_getElem?_getD,hr] at hb
  exact ⟨b,eb,k _ _ (ne _ _ hb) hb⟩
theorem qbq {os:List Nat} {z:Nat} (h:z∈os):∃ i,i<os.length∧nth os i=z:=by
  obtain ⟨i,hi,rfl⟩:=List.mem_iff_getElem.mp h
  refine ⟨i,hi,?_⟩
  unfold nth
  rw [List.getD_eq_getElem?_getD,List.getElem?_eq_getElem hi];rfl
theorem qdF {os:List Nat} {i:Nat} (h:i<os.length):os[i]=nth os i:=by
  unfold nth
  rw [List.getD_eq_getElem?_getD,List.getElem?_eq_getElem h];rfl
theorem qeO (f:Str) (v:V):∀ fs:List (Str×V),(qfx f v fs).length≤fs.length+1
  | []=>Nat.le_refl _
  | (g,x)::r=>by
    unfold qfx
    by_cases h:g=f
    · rw [if_pos h];show r.length+1≤r.length+1+1;omega
    · rw [if_neg h];exact Nat.succ_le_succ (qeO f v r)
theorem qig {K:W.Frag} (hC:ClsOk K (qbo K)) {vs:List V} {H:Hp} {Q:VK} {E:XK} (h:qa5 K vs H Q E):qiN K { nx:=fun _ H'=>Q .non H',rt:=Q } (L2.start ["self", "sides", "prime", "reduced"] vs) H:=by
  obtain ⟨x,a,dx,L,n,w,p,rfl,hx,hL,R,n1,w1,pp,bp,k⟩:=h
  generalize qbo K=C at *
  refine qdk (qaf rfl (qaf rfl ⟨a,L,n,w,p,rfl,hL,R,by omega,by omega,pp,bp,fun r l y z LL os cs H1 s1 hr hl hy hz D=>?_⟩))
  have hx1:=s1 _ _ hx
  have hL1:=hL.tp s1
  show qex K _ _ _
  refine qjA (qaf rfl (qaf rfl ⟨x,C,dx,_,rfl,hx1,hC.cl,hC.a1,by decide,?_⟩))
  obtain ⟨f1,hf1⟩:∃ f1,f1=qfx "prime" (.int (p:Int)) []:=⟨_,rfl⟩
  rw [← hf1]
  have lf1:f1.length≤1:=by rw [hf1];exact qeO _ _ _
  have k2:Kp x H1 (upd H1 x (.ins C dx f1)):=Kp.upd
  have nl:∀ {b xs},H1 b=some (.lst xs)→b≠x:=fun hb=>qiv hb hx1 (by intro z;cases z)
  have nt:∀ {b xs},H1 b=some (.tup xs)→b≠x:=fun hb=>qiv hb hx1 (by intro z;cases z)
  generalize hH2:upd H1 x (.ins C dx f1)=H2 at *
  have hx2:H2 x=some (.ins C dx f1):=by rw [← hH2];exact qac
  show qew K _ _ _
  refine qjA (qaD (qaf rfl (r_c (qng (k2 _ _ (nt hr) hr) (qeW _ _ _) (qaf rfl ⟨x,C,dx,_,rfl,hx2,hC.cl,hC.a2,by omega,?_⟩)))))
  obtain ⟨f2,hf2⟩:∃ f2,f2=qfx "lines" (.ref y) f1:=⟨_,rfl⟩
  rw [← hf2]
  have lf2:f2.length≤2:=by have:=qeO "lines" (.ref y) f1;rw [hf2];omega
  have k3:Kp x H2 (upd H2 x (.ins C dx f2)):=Kp.upd
  generalize hH3:upd H2 x (.ins C dx f2)=H3 at *
  have hx3:H3 x=some (.ins C dx f2):=by rw [← hH3];exact qac
  have k13:=k2.trans k3
  show qev K _ _ _
  refine qjA (qaD (qaf rfl (r_c (qng (k13 _ _ (nt hr) hr) (qaZ _ _ _) (qaf rfl ⟨x,C,dx,_,rfl,hx3,hC.cl,hC.a3,by omega,?_⟩)))))
  obtain ⟨f3,hf3⟩:∃ f3,f3=qfx "columns" (.ref z) f2:=⟨_,rfl⟩
  rw [← hf3]
  have lf3:f3.length≤3:=by have:=qeO "columns" (.ref z) f2;rw [hf3];omega
  have k4:Kp x H3 (upd H3 x (.ins C dx f3)):=Kp.upd
  generalize hH4:upd H3 x (.ins C dx f3)=H4 at *
  have hx4:H4 x=some (.ins C dx f3):=by rw [← hH4];exact qac
  have k14:=k13.trans k4
  have hy4:=k14 _ _ (nl hy) hy
  have hz4:=k14 _ _ (nl hz) hz
  have hL4:=hL1.kx hx1 k14
  have look2:f3.lookup ("lines" : Str)=some (.ref y):=by rw [hf3,qay,if_neg (by decide),hf2,qay,if_pos rfl]
  have look3:f3.lookup ("columns" : Str)=some (.ref z):=by rw [hf3,qay,if_pos rfl]
  obtain ⟨o,c,u,l',re,eo,ec,el⟩:=D.ri
  have lc:=D.lc
  have dn:=re.dn
  have on:∀ i,i<os.length→nth os i<n:=fun i hi=>by rw [eo i hi];exact re.on i (by omega)
  have cw:∀ i,i<os.length→nth cs i<w:=fun i hi=>by rw [ec i hi];exact re.cl i hi
  obtain ⟨M,hM⟩:∃ M:List (List Int),M=os.map fun t=>cs.map (co (L.getD t [])):=⟨_,rfl⟩
  have lM:M.length=os.length:=by rw [hM,List.length_map]
  show qeu K _ _ _
  refine qjA (qa0 (qcY (qaf rfl ⟨x,C,dx,_,_,rfl,hx4,hC.cl,hC.a2,look2,y,rfl,⟨_,SqL.of hy4⟩,CompJ.lst (xs:=iN os) (fun i ys H'=>i≤os.length∧Same H4 H'∧SDs H' ys (M.take i)) ⟨Nat.zero_le _,Same.refl H4,trivial⟩ ?_ ?_ ?_⟩)))
  · rintro i ys H' ⟨hi,s,hS⟩
    exact ⟨by rw [qa8];exact hi,sz (by rw [hS.length,List.length_take];omega),SqL.of (s _ _ hy4)⟩
  · rintro i v ys H' hv ⟨hi,s,hS⟩
    have hi2:i<os.length:=by have:=(List.getElem?_eq_some_iff.mp hv).1;rw [qa8] at this;exact this
    rw [qg6 hi2] at hv
    cases hv
    obtain ⟨ws,ha4,hS4⟩:=hL4
    obtain ⟨b,eb,hb⟩:=hS4.at (i:=nth os i) (by rw [R.1];exact on i hi2)
    have lr:=(R.row (on i hi2)).2
    refine qd6 (qaO (qaD (qaf rfl (qaf rfl (qdM (s _ _ ha4) (qbc eb) (qcY (qaf rfl ⟨x,C,dx,_,_,rfl,s _ _ hx4,hC.cl,hC.a3,look3,⟨b,z,_,cs,rfl,s _ _ hb,s _ _ hz4,fun j hj=>?_,by omega,fun q hq=>?_⟩⟩)))))))
    · obtain ⟨t,ht,rfl⟩:=qbq hj
      rw [lr];exact cw t (by omega)
    · have s2:=qae hq (.lst ((cs.map (co (L.getD (nth os i) []))).map V.int))
      refine ⟨hi2,s.trans s2,?_⟩
      have e:M[i]?=some (cs.map (co (L.getD (nth os i) []))):=by rw [hM,List.getElem?_map,List.getElem?_eq_getElem hi2,qdF hi2];rfl
      have et:M.take (i+1)=M.take i++[cs.map (co (L.getD (nth os i) []))]:=by rw [List.take_add_one,e];rfl
      rw [et]
      exact (hS.tp s2).snoc qac
  rintro ys H5 ⟨_,s5,hS5⟩ m hm
  rw [show M.take (iN os).length=M by rw [qa8,← lM,List.take_length]] at hS5
  have s6:=qae hm (.lst ys)
  generalize hH6:upd H5 m (.lst ys)=H6 at *
  have hm6:H6 m=some (.lst ys):=by rw [← hH6];exact qac
  have s46:=s5.trans s6
  have hx6:=s46 _ _ hx4
  have hM6:SD H6 m M:=⟨ys,hm6,hS5.tp s6⟩
  refine qaf rfl ⟨x,C,dx,_,rfl,hx6,hC.cl,hC.a4,by omega,?_⟩
  obtain ⟨f4,hf4⟩:∃ f4,f4=qfx "minor" (.ref m) f3:=⟨_,rfl⟩
  rw [← hf4]
  have lf4:f4.length≤4:=by have:=qeO "minor" (.ref m) f3;rw [hf4];omega
  have k7:Kp x H6 (upd H6 x (.ins C dx f4)):=Kp.upd
  generalize hH7:upd H6 x (.ins C dx f4)=H7 at *
  have hx7:H7 x=some (.ins C dx f4):=by rw [← hH7];exact qac
  have look4:f4.lookup ("minor" : Str)=some (.ref m):=by rw [hf4,qay,if_pos rfl]
  have hM7:=hM6.kx hx6 k7
  have RM:Rect M os.length os.length:=⟨lM,fun r hr=>by
    rw [hM] at hr
    obtain ⟨t,_,rfl⟩:=List.mem_map.mp hr
    rw [List.length_map];exact lc⟩
  have eM:∀ i,i<os.length→∀ s,s<os.length→en M i s=en L (nth os i) (nth cs s):=fun i hi s hs=>by
    have e:M.getD i []=cs.map (co (L.getD (nth os i) [])):=by rw [hM,List.getD_eq_getElem?_getD,List.getElem?_map,List.getElem?_eq_getElem hi,qdF hi];rfl
    have hs':s<cs.length:=by omega
    unfold en
    rw [e]
    show (cs.map (co (L.getD (nth os i) []))).getD s 0=_
    rw [List.getD_eq_getElem?_getD,List.getElem?_map,List.getElem?_eq_getElem hs',qdF hs'];rfl
  show qet K _ _ _
  refine (show qap _ _ _ _ _ _ _ from qaO (qcY (qaf rfl ⟨x,C,dx,_,_,rfl,hx7,hC.cl,hC.a4,look4,qaf rfl ⟨m,M,os.length,p,u,rfl,hM7,RM,by omega,pp,bp,fun i hi j hj=>?_,fun t T H8 s8 hT RT iT inv=>?_⟩⟩)))
  · rw [← re.minor (Nat.le_refl _) i hi j hj]
    exact qag _ fun t ht=>by rw [eM t ht j hj,eo t ht,ec j hj]
  have hx8:=s8 _ _ hx7
  refine qaf rfl ⟨x,C,dx,_,rfl,hx8,hC.cl,hC.a5,by omega,?_⟩
  obtain ⟨f5,hf5⟩:∃ f5,f5=qfx "turned" (.ref t) f4:=⟨_,rfl⟩
  rw [← hf5]
  have k9:Kp x H8 (upd H8 x (.ins C dx f5)):=Kp.upd
  generalize hH9:upd H8 x (.ins C dx f5)=H9 at *
  have hx9:H9 x=some (.ins C dx f5):=by rw [← hH9];exact qac
  have kall:Kp x H1 H9:=((k14.same s46).trans k7 |>.same s8).trans k9
  have k69:Kp x H6 H9:=(k7.same s8).trans k9
  refine k os cs M T y z m t H9 (fun b o nb hb=>kall b o nb (s1 _ _ hb)) ⟨⟨dx,f5,hx9,⟨?_,?_,?_,?_,?_⟩⟩,kall _ _ (nl hy) hy,kall _ _ (nl hz) hz,hM6.kx hx6 k69,hT.kx hx8 k9,⟨lc,RM,RT,iT,inv,fun i hi=>?_,?_,fun j hj=>?_,?_,eM,fun r hr=>?_⟩⟩
  · rw [hf5,qay,if_neg (by decide),hf4,qay,if_neg (by decide),hf3,qay,if_neg (by decide),hf2,qay,if_neg (by decide),hf1,qay,if_pos rfl]
  · rw [hf5,qay,if_neg (by decide),hf4,qay,if_neg (by decide),look2]
  · rw [hf5,qay,if_neg (by decide),hf4,qay,if_neg (by decide),look3]
  · rw [hf5,qay,if_neg (by decide),look4]
  · rw [hf5,qay,if_pos rfl]
  · obtain ⟨t,ht,rfl⟩:=qbq hi
    exact on t ht
  · refine List.pairwise_iff_getElem.mpr fun i j hi hj ij e=>?_
    rw [qdF hi,qdF hj,eo i hi,eo j hj] at e
    have:=re.inj i j (by omega) (by omega) e
    omega
  · obtain ⟨t,ht,rfl⟩:=qbq hj
    exact cw t (by omega)
  · refine List.pairwise_iff_getElem.mpr fun i j hi hj ij=>?_
    rw [qdF hi,qdF hj,ec i (by omega),ec j (by omega)]
    exact re.cr i j ij (by omega)
  · obtain ⟨v,hv⟩:=re.span hr
    refine ⟨fun t=>Classical.choose (Zm.sur (v t)),fun j hj=>?_⟩
    rw [← Zm.of_eq,Zm.of_su]
    refine (hv j hj).trans (qag _ fun t ht=>?_)
    rw [Zm.of_mul,Classical.choose_spec (Zm.sur (v t)),eo t ht]
theorem qpg (i:Int):i.natAbs<2 ^ blN i:=by
  unfold blN
  split
  · rename_i h;rw [h];decide
  · exact Nat.lt_log2_self
theorem qno {i:Int} (h:i≠0):2 ^ (blN i - 1)≤i.natAbs∧1≤blN i:=by
  unfold blN
  rw [if_neg h,Nat.add_sub_cancel]
  exact ⟨Nat.log2_self_le (by omega),by omega⟩
theorem qph {b:Nat} {i:Int} (h:Bd b i):blN i≤b:=by
  by_cases z:i=0
  · unfold blN;rw [if_pos z];exact Nat.zero_le _
  · have h1:=(qno z).1
    have h2:i.natAbs<2 ^ b:=h
    have:=(Nat.pow_lt_pow_iff_right (a:=2) (by decide)).mp (Nat.lt_of_le_of_lt h1 h2)
    omega
theorem qof {K:W.Frag} {tl:TE} {g:TG} {tb rest:TS} {D:Ends} {σ:L2.St} {H:Hp} (h:tl σ H (fun x H1=>∃ a,x=.ref a∧(∃ xs,SqL K H1 a xs)∧ForL K a g tb { D with nx:=rest D } σ H1)):qat (qef (qbb K tl) g tb) rest D σ H:=h
theorem qfu (h:qbO K vs H Q E):qf8 K { nx:=fun _ H'=>Q .non H',rt:=Q } (L2.start ["whole", "modulus", "limit", "one", "other", "one_weight", "other_weight", "quotient", "rest", "size"] vs) H:=by
  obtain ⟨w,m,lim,rfl,w0,wm,l0,lm,bm,k⟩:=h
  refine qaz (qaf rfl ?_)
  show qcX K _ _ _
  refine qaz (qaf rfl ?_)
  show qcW K _ _ _
  refine qaz (r_c ?_)
  show qcV K _ _ _
  refine qaz (r_c ?_)
  show qcU K _ _ _
  refine qfz (qbZ (fun n σ H'=>∃ (one oth s t:Int) (x7 x8 x9:Option V),σ=[some (.int w),some (.int m),some (.int lim),some (.int one),some (.int oth),some (.int s),some (.int t),x7,x8,x9]∧H'=H∧n=oth.toNat∧lim<one∧Eu m w one oth s t) w.toNat ⟨m,w,0,1,none,none,none,rfl,rfl,rfl,lm,Eu.start w0 wm⟩ ?_)
  rintro n σ H' ⟨one,oth,s,t,x7,x8,x9,rfl,rfl,rfl,lo,I⟩
  have s0:=I.s0
  have t1:=I.t1
  have o0:=I.o0
  have lt:=I.lt
  have det:=I.det
  have h1:one*1≤one*t:=Int.mul_le_mul_of_nonneg_left t1 (by omega)
  have h2:1*t≤one*t:=Int.mul_le_mul_of_nonneg_right (by omega) (by omega)
  have h3:0≤oth*s:=Int.mul_nonneg o0 s0
  refine ⟨_,rfl,_,rfl,_,_,rfl,rfl,_,rfl,qbr (fun c=>?_) (fun c=>?_)⟩
  · have c:lim<oth:=of_decide_eq_true c
    refine ⟨_,fun _ _ h=>h,?_⟩
    have nx:=I.next (by omega)
    have q1:0≤one / oth:=Int.ediv_nonneg (by omega) o0
    have q2:one / oth≤one:=Int.ediv_le_self oth (by omega)
    have B:∀ z:Int,0≤z→z≤m→Bd 500000 z:=fun z z0 zm=>bm.le (by omega)
    have bq:Bd 500000 (one / oth):=B _ q1 (by omega)
    show qbX K _ _ _
    refine qaz ⟨_,rfl,_,rfl,_,_,rfl,rfl,show (0:Int)<oth by omega,?_⟩
    show qbW K _ _ _
    refine qaz ⟨_,rfl,_,rfl,_,rfl,_,_,rfl,rfl,qf9 bq (B oth o0 (by omega)),_,_,rfl,rfl,?_⟩
    show qbV K _ _ _
    refine qaz (qaf rfl ?_)
    show qbU K _ _ _
    refine qaz (qaf rfl ?_)
    show qbT K _ _ _
    refine qaz ⟨_,rfl,_,rfl,_,rfl,_,_,rfl,rfl,qf9 bq (B t (by omega) (by omega)),_,_,rfl,rfl,?_⟩
    show qbS K _ _ _
    refine qaz (qaf rfl ?_)
    show qbR K _ _ _
    refine qfe (qaf rfl ⟨(one - one / oth*oth).toNat,?_,oth,one - one / oth*oth,t,s+one / oth*t,_,_,_,rfl,rfl,rfl,c,nx⟩)
    have:=nx.lt
    have:=nx.o0
    omega
  · have c:¬ lim<oth:=fun z=>c (decide_eq_true z)
    show qcT K _ _ _
    exact qa3 (qaf rfl (k one oth s t I (by omega) lo))
theorem qlS {m:Int} (m2:2≤m):∃ e:Nat,(((blN m:Int) - 2) / 2)=(e:Int)∧(2:Int) ^ e*2 ^ e*2≤m∧m<(2:Int) ^ e*2 ^ e*8∧1≤(2:Int) ^ e∧(e:Int)≤blN m:=by
  have h1:=qpg m
  obtain ⟨h2,h3⟩:=qno (show m≠0 by omega)
  have b2:2≤blN m:=Nat.le_of_not_lt fun z=>by
    have:blN m=1:=by omega
    rw [this] at h1
    omega
  obtain ⟨e,he⟩:∃ e:Nat,blN m=2*e+2∨blN m=2*e+3:=⟨(blN m - 2) / 2,by omega⟩
  have p0:1≤2 ^ e:=Nat.pow_pos (by decide)
  have sq:(2:Nat) ^ (2*e)=2 ^ e*2 ^ e:=by rw [Nat.two_mul,Nat.pow_add]
  have c1:((2:Int) ^ e)=((2 ^ e:Nat):Int):=by push_cast;rfl
  have c2:((2 ^ e:Nat):Int)*((2 ^ e:Nat):Int)=((2 ^ e*2 ^ e:Nat):Int):=by push_cast;rfl
  refine ⟨e,by omega,?_,?_,by rw [c1];omega,by omega⟩
  · rw [c1,c2,← sq]
    rcases he with q | q
    · rw [q,show 2*e+2 - 1=2*e+1 by omega,Nat.pow_succ] at h2
      omega
    · rw [q,show 2*e+3 - 1=2*e+1+1 by omega,Nat.pow_succ,Nat.pow_succ] at h2
      omega
  · rw [c1,c2,← sq]
    rcases he with q | q
    · rw [q,show 2*e+2=2*e+1+1 by omega,Nat.pow_succ,Nat.pow_succ] at h1
      omega
    · rw [q,show 2*e+3=2*e+1+1+1 by omega,Nat.pow_succ,Nat.pow_succ,Nat.pow_succ] at h1
      omega
theorem Fits.lim {m X D l:Int} {ps:List Int} {x:Nat→Int} (F:Fits m X ps x D) (h:m<l*l*8) (l0:0≤l):4*X≤l:=by
  have d0:=F.d0
  have dX:=F.dX
  have m0:=F.m0
  refine Int.le_of_not_gt fun z=>?_
  have h1:l*l≤l*(4*X):=Int.mul_le_mul_of_nonneg_left (by omega) l0
  have h2:l*(4*X)≤4*X*(4*X):=Int.mul_le_mul_of_nonneg_right (by omega) (by omega)
  have h3:4*X*(4*X)=16*(X*X):=by grind
  have h4:256*X*X=256*(X*X):=Int.mul_assoc _ _ _
  have h5:0≤X*X:=Int.mul_nonneg (by omega) (by omega)
  omega
theorem qih {m y z:Int} (h:m∣y - z) (b:(y.natAbs:Int)+(z.natAbs:Int)<m):y=z:=by
  have:=Int.eq_zero_of_dvd_of_natAbs_lt_natAbs h (by omega)
  omega
noncomputable def Gs (m:Int) (ps:List Int) (B:Int) (i:Nat):Prop:=∀ X x D,Fits m X ps x D→∃ c,0<c∧D=B*c∧∀ j,j<i→∃ y,y*c=x j∧m∣y - co ps j*B
theorem qko (h:qeZ K vs H Q E):qlJ K { nx:=fun _ H'=>Q .non H',rt:=Q } (L2.start ["places", "modulus", "limit", "bottom", "place"] vs) H:=by
  obtain ⟨a,ps,m,rfl,ha,p1,bp,m2,bm,kN,k⟩:=h
  obtain ⟨e,ee,l1,l2,l3,el⟩:=qlS m2
  have bl:=qph bm
  refine qaz ⟨_,rfl,rfl,m,rfl,rfl,_,_,rfl,rfl,_,_,rfl,rfl,show (0:Int)<2 by decide,_,_,rfl,rfl,?_,?_⟩
  · show (0:Int)≤((blN m:Int) - 2) / 2∧(blN 1:Int)+((blN m:Int) - 2) / 2≤134217728
    rw [ee,show (blN 1:Int)=1 by decide]
    omega
  show qf7 K _ (List.set _ 2 (some (.int (1*2 ^ (((blN m:Int) - 2) / 2).toNat)))) _
  rw [ee,Int.toNat_natCast,Int.one_mul]
  generalize (2:Int) ^ e=lim at *
  have lm:lim*1≤lim*lim:=Int.mul_le_mul_of_nonneg_left l3 (by omega)
  have B5:∀ z:Int,0≤z→z≤m→Bd 250000 z:=fun z z0 zm=>bm.le (by omega)
  refine qaz (r_c ?_)
  show qf6 K _ _ _
  refine qof ⟨_,rfl,a,rfl,⟨_,SqL.of ha⟩,ForL.by (xs:=ps.map V.int) (fun i σ H'=>∃ (B:Int) (x4:Option V),σ=[some (.ref a),some (.int m),some (.int lim),some (.int B),x4]∧H'=H∧i≤ps.length∧0<B∧B≤lim∧Gs m ps B i) ⟨1,none,rfl,rfl,Nat.zero_le _,by decide,l3,fun X x D F=>⟨D,F.d0,by omega,fun j h=>absurd h (Nat.not_lt_zero j)⟩⟩ ?_ ?_ ?_⟩
  · rintro i σ H' _ ⟨B,x4,rfl,rfl,_⟩
    exact SqL.of ha
  · rintro i v σ H' hv ⟨B,x4,rfl,rfl,_,B0,Bl,I⟩
    have hi:i<ps.length:=by have:=(List.getElem?_eq_some_iff.mp hv).1;rw [List.length_map] at this;exact this
    rw [qcB hi] at hv
    cases hv
    have bz:Bd 500000 (co ps i):=bp _ (qa7 hi)
    have bB:Bd 250000 B:=B5 B (by omega) (by omega)
    refine qd6 (qie (qaV (qaD (qd5 (qaO ⟨_,rfl,_,rfl,_,_,rfl,rfl,qf9 bz bB,_,rfl,_,_,rfl,by omega,fun N dN hN=>⟨N,rfl,_,rfl,_,_,rfl,rfl,_,rfl,qbr (fun c=>?_) (fun c=>?_)⟩⟩)))))
    · have c:lim<(if N<0 then -N else N):=of_decide_eq_true c
      show qd0 K _ _ _
      refine (show qmf _ _ _ _ _ _ from ⟨_,rfl,qkc ⟨_,rfl,_,rfl,_,_,rfl,rfl,qf9 bz bB,_,rfl,_,_,rfl,rfl,show (0:Int)<m by omega,_,rfl,_,rfl,co ps i*B % m,m,lim,rfl,Int.emod_nonneg _ (by omega),Int.emod_lt_of_pos _ (by omega),by omega,by omega,bm.mono (by decide),fun one oth s t Eu ol lo=>?_⟩⟩)
      have t1:=Eu.t1
      have tm:t≤m:=by
        have h2:1*t≤one*t:=Int.mul_le_mul_of_nonneg_right (by omega) (by omega)
        have h3:0≤oth*s:=Int.mul_nonneg Eu.o0 Eu.s0
        have:=Eu.det
        omega
      refine ⟨_,_,rfl,rfl,qf9 bB (B5 t (by omega) tm),?_⟩
      have step:Gs m ps (B*t) (i+1):=fun X x D F=>by
        obtain ⟨c,c0,Dc,hy⟩:=I X x D F
        have x4:=F.lim l2 (by omega)
        have cX:c≤X:=by
          have h1:1*c≤B*c:=Int.mul_le_mul_of_nonneg_right (by omega) (by omega)
          have:=F.dX
          omega
        have hd:m∣c*(co ps i*B % m) - x i:=by
          obtain ⟨u,hu⟩:=F.dv i hi
          obtain ⟨v,hv⟩:=qbM (co ps i*B) m
          exact ⟨c*v+u,by grind⟩
        obtain ⟨c',y,c0',e1,e2,e3⟩:=Eu.pair (by omega) hd c0 (Eu.fits ol lo (by omega) x4 (F.xX i) cX c0)
        refine ⟨c',c0',by rw [Dc,e1,Int.mul_assoc],fun j hj=>?_⟩
        by_cases q:j=i
        · rw [q]
          refine ⟨y,e2,?_⟩
          obtain ⟨u,hu⟩:=e3
          obtain ⟨v,hv⟩:=qbM (co ps i*B) m
          exact ⟨u+t*v,by grind⟩
        · obtain ⟨z,z1,⟨u,hu⟩⟩:=hy j (by omega)
          exact ⟨z*t,by rw [← z1,e1,Int.mul_assoc],⟨u*t,by grind⟩⟩
      show qdZ K _ _ _
      refine qie (qaV ⟨_,rfl,_,rfl,_,_,rfl,rfl,_,rfl,qbr (fun d=>?_) (fun d=>?_)⟩)
      · have d:lim<B*t:=of_decide_eq_true d
        refine kN _ (Same.refl H') fun X x D F=>?_
        obtain ⟨c,c0,Dc,_⟩:=step X x D F
        have x4:=F.lim l2 (by omega)
        have h1:B*t*1≤B*t*c:=Int.mul_le_mul_of_nonneg_left (by omega) (by omega)
        have:=F.dX
        have:=F.d0
        omega
      · have d:¬ lim<B*t:=fun z=>d (decide_eq_true z)
        exact ⟨B*t,_,rfl,rfl,by omega,Int.mul_pos B0 (by omega),by omega,step⟩
    · have c:¬ lim<(if N<0 then -N else N):=fun z=>c (decide_eq_true z)
      have nl:(N.natAbs:Int)≤lim:=by split at c <;> omega
      refine ⟨B,_,rfl,rfl,by omega,B0,Bl,fun X x D F=>?_⟩
      obtain ⟨c,c0,Dc,hy⟩:=I X x D F
      refine ⟨c,c0,Dc,fun j hj=>?_⟩
      by_cases q:j=i
      · rw [q]
        refine ⟨N,?_,dN⟩
        have x4:=F.lim l2 (by omega)
        have cX:c≤X:=by
          have h1:1*c≤B*c:=Int.mul_le_mul_of_nonneg_right (by omega) (by omega)
          have:=F.dX
          omega
        have xX:=F.xX i
        refine qih (m:=m) ?_ ?_
        · obtain ⟨u,hu⟩:=F.dv i hi
          obtain ⟨v,hv⟩:=dN
          exact ⟨v*c+u,by grind⟩
        · have e1:((N*c).natAbs:Int)=(N.natAbs:Int)*c:=by rw [Int.natAbs_mul];push_cast;rw [show ((c.natAbs:Nat):Int)=c by omega]
          have h1:(N.natAbs:Int)*c≤lim*X:=Int.le_trans (Int.mul_le_mul_of_nonneg_right nl (by omega)) (Int.mul_le_mul_of_nonneg_left cX (by omega))
          have h2:lim*(4*X)≤lim*lim:=Int.mul_le_mul_of_nonneg_left x4 (by omega)
          have e2:lim*(4*X)=4*(lim*X):=by grind
          omega
      · exact hy j (by omega)
  · rintro σ H' ⟨B,x4,rfl,rfl,_,B0,Bl,I⟩
    rw [List.length_map] at I
    have bB:Bd 250000 B:=B5 B (by omega) (by omega)
    show qf5 K _ _ _
    refine qa3 (qek (qa0 (qaf rfl ⟨a,rfl,⟨_,SqL.of ha⟩,CompJ.lst (xs:=ps.map V.int) (fun i ys H''=>i≤ps.length∧H''=H'∧∃ zs:List Int,ys=zs.map V.int∧zs.length=i∧(∀ z∈zs,2*z.natAbs≤m.natAbs)∧∀ j,j<i→m∣co zs j - co ps j*B) ⟨Nat.zero_le _,rfl,[],rfl,rfl,(fun _ h=>nomatch h),fun j h=>absurd h (Nat.not_lt_zero j)⟩ ?_ ?_ ?_⟩)))
    · rintro i ys H'' ⟨hi,rfl,zs,rfl,lz,_⟩
      exact ⟨by rw [List.length_map];exact hi,sz (by rw [List.length_map];omega),SqL.of ha⟩
    · rintro i v ys H'' hv ⟨_,rfl,zs,rfl,lz,z1,z2⟩
      have hi:i<ps.length:=by have:=(List.getElem?_eq_some_iff.mp hv).1;rw [List.length_map] at this;exact this
      rw [qcB hi] at hv
      cases hv
      refine qd6 (qaO ⟨_,rfl,_,rfl,_,_,rfl,rfl,qf9 (bp _ (qa7 hi)) bB,_,rfl,_,_,rfl,by omega,fun N dN hN=>⟨hi,rfl,zs++[N],by rw [List.map_append];rfl,by rw [List.length_append,lz];rfl,fun z hz=>?_,fun j hj=>?_⟩⟩)
      · rcases List.mem_append.mp hz with q | q
        · exact z1 z q
        · rw [List.mem_singleton.mp q];exact hN
      · by_cases q:j<i
        · rw [qeK (by omega)];exact z2 j q
        · have e:j=zs.length+0:=by omega
          rw [e,qeL,Nat.add_zero,lz];exact dN
    · rintro ys H'' ⟨_,rfl,zs,rfl,lz,z1,z2⟩ b hb
      rw [List.length_map] at lz z2
      have s1:=qae hb (.lst (zs.map V.int))
      refine qaf rfl ⟨qmc,fun r hr=>?_⟩
      have s2:=qae hr (.tup [.ref b,.int B])
      refine k r b zs B _ (s1.trans s2) qac (s2 _ _ qac) lz B0 (by omega) (fun z hz=>by have:=z1 z hz;omega) fun X x D F j hj=>?_
      obtain ⟨c,c0,Dc,hy⟩:=I X x D F
      obtain ⟨y,y1,y2⟩:=hy j hj
      have x4:=F.lim l2 (by omega)
      have e:co zs j=y:=by
        refine qih (m:=m) ?_ ?_
        · obtain ⟨u,hu⟩:=z2 j hj
          obtain ⟨v,hv⟩:=y2
          exact ⟨u - v,by grind⟩
        · have h1:=z1 (co zs j) (qa7 (by omega))
          have h2:(y.natAbs:Int)≤X:=by
            have:=F.xX j
            have e:(y*c).natAbs=y.natAbs*c.natAbs:=Int.natAbs_mul y c
            have h3:y.natAbs*1≤y.natAbs*c.natAbs:=Nat.mul_le_mul_left _ (by omega)
            rw [← y1] at this
            omega
          omega
      rw [e,Dc,← y1]
      grind
theorem qlT (h:qfZ K vs H Q E):qmG K { nx:=fun _ H'=>Q .non H',rt:=Q } (L2.start ["minor", "guess", "due", "row", "whole"] vs) H:=by
  obtain ⟨m,g,y,b,M,ys,bs,B,n,rfl,⟨ws,hm,hS⟩,R,hg,hy,hb,ly,lb,n1,bM,by',bb,bB,k⟩:=h
  have lw:=hS.length
  have wn:ws.length=n:=by rw [lw,R.1]
  refine (show qef (qiF K _) _ _ _ _ _ from ⟨_,rfl,_,rfl,m,b,rfl,⟨_,SqL.of hm⟩,⟨_,SqL.of hb⟩,ForJ.zip (xs:=ws) (ys:=bs.map V.int) (by rw [List.length_map];omega) (fun i σ H'=>∃ x3 x4,σ=[some (.ref m),some (.ref g),some (.ref b),x3,x4]∧Same H H'∧∀ t,t<i→su n (fun j=>en M t j*co ys j)=co bs t*B) ⟨none,none,rfl,Same.refl H,fun t h=>absurd h (Nat.not_lt_zero t)⟩ ?_ ?_ ?_⟩)
  · rintro i σ H' _ ⟨x3,x4,rfl,s,_⟩
    exact ⟨s _ _ hm,s _ _ hb⟩
  · rintro i v z p σ H' hv hz ⟨x3,x4,rfl,s,I⟩ hp
    have hi:i<ws.length:=(List.getElem?_eq_some_iff.mp hv).1
    obtain ⟨r,rr,rfl,er,hr⟩:=hS.get hv
    rw [qcB (by omega)] at hz
    cases hz
    have eg:M.getD i []=rr:=by rw [List.getD_eq_getElem?_getD,er];rfl
    have rm:=List.mem_of_getElem? er
    have s2:=qae hp (.tup [.ref r,.int (co bs i)])
    generalize hH2:upd H' p (.tup [.ref r,.int (co bs i)])=H2 at *
    have hp2:H2 p=some (.tup [.ref r,.int (co bs i)]):=by rw [← hH2];exact qac
    have s12:=s.trans s2
    refine ⟨p,_,rfl,hp2,rfl,_,_,rfl,_,_,rfl,rfl,?_⟩
    refine qie (qaV (qaD (qaO (qaf rfl (qd4 rfl (s12 _ _ hg) (qaR _ _) ⟨r,y,rr,ys,n,rfl,s12 _ _ hr,s12 _ _ hy,R.2 rr rm,ly,by omega,bM rr rm,by',fun H3 s3=>?_⟩)))))
    refine qaD (qaf rfl (qd4 rfl (s3 _ _ (s12 _ _ hg)) (qaQ _ _) ⟨_,_,rfl,rfl,qf9 (bb _ (qa7 (by omega))) bB,rfl,_,rfl,qbr (fun c=>?_) (fun c=>?_)⟩))
    · have c:su n (fun i=>co rr i*co ys i)≠co bs i*B:=by simpa using c
      refine k H3 false (s12.trans s3) ⟨(fun z=>by cases z),fun z=>absurd ?_ c⟩
      have:=z i (by omega)
      unfold en at this
      rw [eg] at this
      exact this
    · have c:su n (fun i=>co rr i*co ys i)=co bs i*B:=by simpa using c
      refine ⟨_,_,rfl,s12.trans s3,fun t ht=>?_⟩
      by_cases q:t=i
      · unfold en
        rw [q,eg];exact c
      · exact I t (by omega)
  · rintro σ H' ⟨x3,x4,rfl,s,I⟩
    exact k H' true s ⟨fun _ i hi=>I i (by omega),fun _=>rfl⟩
structure ST (p k:Nat) (M:List (List Int)) (bs ls qs:List Int) (e:Nat):Prop where
  ll:ls.length=k
  lq:qs.length=k
  eq:∀ i,i<k→co bs i=su k (fun j=>en M i j*co qs j)+(p:Int) ^ e*co ls i
  bl:∀ z∈ls,Bd 4020 z
  bq:∀ z∈qs,0≤z∧z<(p:Int) ^ e
theorem ST.dvd {p k e:Nat} {M T:List (List Int)} {ls ss fs:List Int} (I:Inv2 (p:Int) k (en M) (en T)) (hs:∀ t,t<k→co ss t=co ls t % (p:Int)) (hf:∀ j,j<k→co fs j=su k (fun t=>en T j t*co ss t) % (p:Int)) {i:Nat} (hi:i<k):(p:Int)∣co ls i - su k fun j=>en M i j*co fs j:=by
  rw [← Zm.of_eq,Zm.of_su]
  have e1:∀ j,j<k→Zm.of (p:Int) (en M i j*co fs j)=su k fun t=>Zm.of (p:Int) (en M i j)*Zm.of (p:Int) (en T j t)*Zm.of (p:Int) (co ls t):=fun j hj=>by
    rw [Zm.of_mul,hf j hj,Zm.of_mod,Zm.of_su,← qaK]
    exact qag k fun t ht=>by rw [hs t ht,Zm.of_mul,Zm.of_mod,Lean.Grind.Semiring.mul_assoc]
  rw [qag k e1,qbj,qag (g:=fun t=>dl i t*Zm.of (p:Int) (co ls t)) k fun t ht=>by rw [qaI,zm_dvd.mp (I.mt i hi t ht)],qff (fun t=>Zm.of (p:Int) (co ls t)) hi]
theorem qmN {p k:Nat} {x s y:Int} (p2:2≤p) (k1:k≤10) (hx:Bd 4020 x) (hs:s.natAbs≤k*(2 ^ 4000*p)) (h:x - s=(p:Int)*y):Bd 4020 y:=by
  unfold Bd at *
  have e:(2:Nat) ^ 4020=2 ^ 4000*1048576:=by rw [show 4020=4000+20 from rfl,Nat.pow_add]
  have e2:k*(2 ^ 4000*p)=2 ^ 4000*(k*p):=Nat.mul_left_comm ..
  rw [e2] at hs
  rw [e] at hx ⊢
  have Y0:0<(2:Nat) ^ 4000:=Nat.pow_pos (by decide)
  generalize (2:Nat) ^ 4000=Y at *
  have h1:p*y.natAbs≤x.natAbs+s.natAbs:=by
    have:(x - s).natAbs=p*y.natAbs:=by rw [h,Int.natAbs_mul,Int.natAbs_natCast]
    omega
  refine Nat.lt_of_not_le fun z=>?_
  have h2:p*(Y*1048576)≤p*y.natAbs:=Nat.mul_le_mul_left _ z
  have h3:Y*(k*p)≤Y*(10*p):=Nat.mul_le_mul_left _ (Nat.mul_le_mul_right _ k1)
  have h4:p*(Y*1048576)=Y*(1048576*p):=by rw [Nat.mul_left_comm,Nat.mul_comm p]
  have h5:Y*(1048576*p)<Y*1048576+Y*(10*p):=by omega
  rw [← Nat.mul_add] at h5
  have:=Nat.lt_of_mul_lt_mul_left h5
  omega
theorem qiT {K:W.Frag} {H H0:Hp} {m t b lf pl:Addr} {M T:List (List Int)} {bs ls qs:List Int} {k p e:Nat} {st:Int} {x8 x9 x10 x11:Option V} {D:Ends}
    (hm:SD H0 m M) (ht:SD H0 t T) (s0:Same H0 H) (hl:H lf=some (.lst (ls.map V.int))) (hq:H pl=some (.lst (qs.map V.int))) (RM:Rect M k k) (RT:Rect T k k) (k1:k≤10) (p2:2≤p) (bp:Bd 44500 (p:Int)) (iT:InP (p:Int) T) (I:Inv2 (p:Int) k (en M) (en T)) (bM:BdL 4000 M) (S:ST p k M bs ls qs e) (be:Bd 250000 ((p:Int) ^ (e+1)))
    (nx:∀ (lf pl:Addr) (ls qs:List Int) (H':Hp) x9 x10,Same H0 H'→H' lf=some (.lst (ls.map V.int))→H' pl=some (.lst (qs.map V.int))→ST p k M bs ls qs (e+1)→D.nx [some (.ref m),some (.ref t),some (.ref b),some (.int (p:Int)),some (.ref lf),some (.ref pl),some (.int ((p:Int) ^ (e+1))),some (.int st),x8,x9,x10,x11] H') :
    qdV K D [some (.ref m),some (.ref t),some (.ref b),some (.int (p:Int)),some (.ref lf),some (.ref pl),some (.int ((p:Int) ^ e)),some (.int st),x8,x9,x10,x11] H:=by
  have p0:(0:Int)<(p:Int):=by omega
  have pe0:(0:Int)<(p:Int) ^ e:=Int.pow_pos p0
  have pe1:(p:Int) ^ (e+1)=(p:Int) ^ e*(p:Int):=Int.pow_succ _ _
  have bE:Bd 250000 ((p:Int) ^ e):=be.le (by
    have:(p:Int) ^ e*1≤(p:Int) ^ e*(p:Int):=Int.mul_le_mul_of_nonneg_left (by omega) (by omega)
    rw [pe1];omega)
  have bP:∀ z:Int,0≤z∧z<(p:Int)→Bd 44500 z:=fun z hz=>bp.le (by omega)
  obtain ⟨ws,hmw,hMS⟩:=hm
  obtain ⟨vs,htv,hTS⟩:=ht
  have lws:=hMS.length
  have lvs:=hTS.length
  have RM1:=RM.1
  have RT1:=RT.1
  have ll:=S.ll
  have lq:=S.lq
  refine qaz (qa0 (qaf rfl ⟨lf,rfl,⟨_,SqL.of hl⟩,qfF (· % (p:Int)) hl (by omega) (fun n hn P hP=>⟨_,rfl,_,rfl,_,_,rfl,rfl,p0,hP⟩) fun sh hsh=>?_⟩))
  obtain ⟨ss,hss⟩:∃ ss,ss=ls.map (· % (p:Int)):=⟨_,rfl⟩
  rw [← hss]
  have lss:ss.length=k:=by rw [hss,List.length_map];exact ll
  have css:∀ t,t<k→co ss t=co ls t % (p:Int):=fun t ht=>by rw [hss];exact qjx _ (by omega)
  have iss:∀ z∈ss,0≤z∧z<(p:Int):=fun z hz=>by
    rw [hss] at hz
    obtain ⟨y,_,rfl⟩:=List.mem_map.mp hz
    exact ⟨Int.emod_nonneg _ (by omega),Int.emod_lt_of_pos _ p0⟩
  have s1:=qae hsh (.lst (ss.map V.int))
  generalize hH1:upd H sh (.lst (ss.map V.int))=H1 at *
  have hsh1:H1 sh=some (.lst (ss.map V.int)):=by rw [← hH1];exact qac
  have s01:=s0.trans s1
  show qdU K _ _ _
  refine qaz (qa0 (qaf rfl ⟨t,rfl,⟨_,SqL.of (s01 _ _ htv)⟩,CompJ.lst (xs:=vs) (fun i ys H'=>i≤vs.length∧Same H1 H'∧∃ fs:List Int,ys=fs.map V.int∧fs.length=i∧(∀ z∈fs,0≤z∧z<(p:Int))∧∀ j,j<i→co fs j=su k (fun t=>en T j t*co ss t) % (p:Int)) ⟨Nat.zero_le _,Same.refl H1,[],rfl,rfl,(fun _ h=>nomatch h),fun j h=>absurd h (Nat.not_lt_zero j)⟩ ?_ ?_ ?_⟩))
  · rintro i ys H' ⟨hi,s,fs,rfl,lf',_⟩
    exact ⟨hi,sz (by rw [List.length_map];omega),SqL.of (s _ _ (s01 _ _ htv))⟩
  · rintro i v ys H' hv ⟨_,s,fs,rfl,lf',f1,f2⟩
    have hi:i<vs.length:=(List.getElem?_eq_some_iff.mp hv).1
    obtain ⟨r,rr,rfl,er,hr⟩:=hTS.get hv
    have eg:T.getD i []=rr:=by rw [List.getD_eq_getElem?_getD,er];rfl
    have rm:=List.mem_of_getElem? er
    refine qd6 (qaD (qaO (qaf rfl (qaf rfl ⟨r,sh,rr,ss,k,rfl,s _ _ (s01 _ _ hr),s _ _ hsh1,RT.2 rr rm,lss,by omega,fun z hz=>(bP z (iT rr rm z hz)).mono (by decide),fun z hz=>(bP z (iss z hz)).mono (by decide),fun H2 s2=>?_⟩))))
    refine qaf rfl ⟨_,_,rfl,rfl,p0,hi,s.trans s2,fs++[su k (fun i=>co rr i*co ss i) % (p:Int)],by rw [List.map_append];rfl,by rw [List.length_append,lf'];rfl,fun z hz=>?_,fun j hj=>?_⟩
    · rcases List.mem_append.mp hz with q | q
      · exact f1 z q
      · rw [List.mem_singleton.mp q];exact ⟨Int.emod_nonneg _ (by omega),Int.emod_lt_of_pos _ p0⟩
    · by_cases q:j<i
      · rw [qeK (by omega)];exact f2 j q
      · have ej:j=fs.length+0:=by omega
        rw [ej,qeL,Nat.add_zero,lf']
        unfold en
        rw [eg];rfl
  rintro ys H2 ⟨_,s2,fs,rfl,lf',f1,f2⟩ fo hfo
  rw [lvs,RT1] at lf' f2
  have s3:=qae hfo (.lst (fs.map V.int))
  generalize hH3:upd H2 fo (.lst (fs.map V.int))=H3 at *
  have hfo3:H3 fo=some (.lst (fs.map V.int)):=by rw [← hH3];exact qac
  have s13:=s2.trans s3
  have s03:=s01.trans s13
  show qdT K _ _ _
  refine qaz (qdE ⟨_,rfl,_,rfl,pl,fo,rfl,⟨_,SqL.of (s13 _ _ (s1 _ _ hq))⟩,⟨_,SqL.of hfo3⟩,qhC (fun x y=>x+(p:Int) ^ e*y) (s13 _ _ (s1 _ _ hq)) hfo3 (by omega) (by omega) (fun x y hx hy H' P s q=>⟨_,rfl,_,rfl,_,rfl,_,_,rfl,rfl,qf9 bE (bP y (f1 y hy)),_,_,rfl,rfl,q⟩) fun pl' H4 s4 hpl=>?_⟩)
  obtain ⟨qs',hqs⟩:∃ qs',qs'=List.zipWith (fun x y=>x+(p:Int) ^ e*y) qs fs:=⟨_,rfl⟩
  rw [← hqs]
  have lqs:qs'.length=k:=by rw [hqs,List.length_zipWith];omega
  have cqs:∀ j,j<k→co qs' j=co qs j+(p:Int) ^ e*co fs j:=fun j hj=>by rw [hqs];exact qlN (by omega) (by omega)
  have s5:=qae hpl (.lst (qs'.map V.int))
  generalize hH5:upd H4 pl' (.lst (qs'.map V.int))=H5 at *
  have hpl5:H5 pl'=some (.lst (qs'.map V.int)):=by rw [← hH5];exact qac
  have s35:=s4.trans s5
  have s05:=s03.trans s35
  have hl5:H5 lf=some (.lst (ls.map V.int)):=s35 _ _ (s13 _ _ (s1 _ _ hl))
  show qdS K _ _ _
  have dv:∀ i,i<k→(p:Int)∣co ls i - su k fun j=>en M i j*co fs j:=fun i hi=>ST.dvd (e:=e) I css f2 hi
  refine qaz (qdE ⟨_,rfl,_,rfl,lf,m,rfl,⟨_,SqL.of hl5⟩,⟨_,SqL.of (s05 _ _ hmw)⟩,CompJ.zip (xs:=ls.map V.int) (ys:=ws) (by rw [List.length_map];omega) (fun i zs H'=>i≤ls.length∧Same H5 H'∧∃ gs:List Int,zs=gs.map V.int∧gs.length=i∧(∀ z∈gs,Bd 4020 z)∧∀ j,j<i→co ls j - su k (fun t=>en M j t*co fs t)=(p:Int)*co gs j) ⟨Nat.zero_le _,Same.refl H5,[],rfl,rfl,(fun _ h=>nomatch h),fun j h=>absurd h (Nat.not_lt_zero j)⟩ ?_ ?_ ?_⟩)
  · rintro i zs H' ⟨hi,s,gs,rfl,lg,_⟩
    exact ⟨by rw [List.length_map];exact hi,sz (by rw [List.length_map];omega),SqL.of (s _ _ hl5),SqL.of (s _ _ (s05 _ _ hmw))⟩
  · rintro i v y zs H' q hv hy ⟨_,s,gs,rfl,lg,g1,g2⟩ hq'
    have hi:i<ls.length:=by have:=(List.getElem?_eq_some_iff.mp hv).1;rw [List.length_map] at this;exact this
    rw [qcB hi] at hv
    cases hv
    obtain ⟨r,rr,rfl,er,hr⟩:=hMS.get hy
    have eg:M.getD i []=rr:=by rw [List.getD_eq_getElem?_getD,er];rfl
    have rm:=List.mem_of_getElem? er
    have s6:=qae hq' (.tup [.int (co ls i),.ref r])
    refine ⟨q,_,rfl,qac,rfl,_,_,rfl,_,_,rfl,rfl,?_⟩
    generalize hH6:upd H' q (.tup [.int (co ls i),.ref r])=H6 at *
    have s56:=s.trans s6
    refine qaD (qaD (qaf rfl (qaO (qaf rfl (qaf rfl ⟨r,fo,rr,fs,k,rfl,s56 _ _ (s05 _ _ hr),s56 _ _ (s35 _ _ hfo3),RM.2 rr rm,lf',by omega,fun z hz=>(bM rr rm z hz).mono (by decide),fun z hz=>(bP z (f1 z hz)).mono (by decide),fun H7 s7=>⟨_,_,rfl,rfl,qaf rfl ⟨_,_,rfl,rfl,p0,?_⟩⟩⟩)))))
    have ee:su k (fun i=>co rr i*co fs i)=su k (fun t=>en M i t*co fs t):=by unfold en;rw [eg]
    obtain ⟨y,hy⟩:=dv i (by omega)
    have ey:(co ls i - su k (fun i=>co rr i*co fs i)) / (p:Int)=y:=by rw [ee,hy];exact Int.mul_ediv_cancel_left _ (by omega)
    show i+1≤_∧_∧_
    refine ⟨hi,s56.trans s7,gs++[y],by rw [List.map_append,← ey];rfl,by rw [List.length_append,lg];rfl,fun z hz=>?_,fun j hj=>?_⟩
    · rcases List.mem_append.mp hz with q | q
      · exact g1 z q
      · rw [List.mem_singleton.mp q]
        refine qmN p2 k1 (S.bl _ (qa7 hi)) (qlv (A:=2 ^ 4000) (B:=p) k (fun t ht=>?_) fun t ht=>?_) hy
        · obtain ⟨r',hr',hm'⟩:=RM.en_mem (i:=i) (j:=t) (by omega) ht
          exact Nat.le_of_lt (bM r' hr' _ hm')
        · have:=f1 (co fs t) (qa7 (by omega));omega
    · by_cases q:j<i
      · rw [qeK (by omega)];exact g2 j q
      · have ej:j=gs.length+0:=by omega
        rw [ej,qeL,Nat.add_zero,lg]
        exact hy
  rintro zs H6 ⟨_,s6,gs,rfl,lg,g1,g2⟩ l2 hl2
  rw [List.length_map] at lg g2
  have s7:=qae hl2 (.lst (gs.map V.int))
  generalize hH7:upd H6 l2 (.lst (gs.map V.int))=H7 at *
  have hl27:H7 l2=some (.lst (gs.map V.int)):=by rw [← hH7];exact qac
  show qdR K _ _ _
  refine ⟨_,rfl,_,rfl,_,_,rfl,rfl,qf9 bE bp,?_⟩
  show D.nx (List.set _ 6 (some (.int ((p:Int) ^ e*(p:Int))))) _
  rw [← pe1]
  refine nx l2 pl' gs qs' H7 _ _ (s05.trans (s6.trans s7)) hl27 ((s6.trans s7) _ _ hpl5) ⟨by omega,lqs,fun i hi=>?_,g1,fun z hz=>?_⟩
  · have e1:=S.eq i hi
    have e2:=g2 i (by omega)
    have e3:su k (fun j=>en M i j*co qs' j)=su k (fun j=>en M i j*co qs j)+(p:Int) ^ e*su k (fun t=>en M i t*co fs t):=by
      rw [← qaK,← qel]
      exact qag k fun j hj=>by rw [cqs j hj];grind
    rw [e1,e3,pe1]
    grind
  · obtain ⟨j,hj,rfl⟩:=List.mem_iff_getElem.mp hz
    have ej:qs'[j]=co qs' j:=by unfold co;rw [List.getD_eq_getElem?_getD,List.getElem?_eq_getElem hj];rfl
    rw [ej,cqs j (by omega),pe1]
    have b1:=S.bq (co qs j) (qa7 (by omega))
    have b2:=f1 (co fs j) (qa7 (by omega))
    have h1:0≤(p:Int) ^ e*co fs j:=Int.mul_nonneg (by omega) b2.1
    have h2:(p:Int) ^ e*(co fs j+1)≤(p:Int) ^ e*(p:Int):=Int.mul_le_mul_of_nonneg_left (by omega) (by omega)
    rw [Int.mul_add,Int.mul_one] at h2
    omega
theorem qnp {k:Nat} (k1:k≤10):(2*((k+1)*2 ^ 4000)) ^ k≤2 ^ 40050:=by
  have h1:2*((k+1)*2 ^ 4000)≤2 ^ 4005:=by
    have e:(2:Nat) ^ 4005=32*2 ^ 4000:=by rw [show 4005=5+4000 from rfl,Nat.pow_add]
    rw [e]
    generalize (2:Nat) ^ 4000=Y
    have:(k+1)*Y≤11*Y:=Nat.mul_le_mul_right _ (by omega)
    omega
  refine Nat.le_trans (Nat.pow_le_pow_left h1 k) ?_
  rw [← Nat.pow_mul]
  exact qgb (by omega)
theorem ST.fits {p k e:Nat} {M T:List (List Int)} {bs ls qs:List Int} (p2:2≤p) (k1:k≤10) (I:Inv2 (p:Int) k (en M) (en T)) (RM:Rect M k k) (bM:BdL 4000 M) (lb:bs.length=k) (bb:∀ z∈bs,Bd 4000 z) (S:ST p k M bs ls qs e) (big:(2:Int) ^ 80110<(p:Int) ^ e) :
    ∃ X x D,Fits ((p:Int) ^ e) X qs x D∧∀ i,i<k→su k (fun j=>en M i j*x j)=co bs i*D:=by
  obtain ⟨x,D,d0,dX,xX,hs⟩:=I.small (A:=2 ^ 4000) (b:=co bs) p2 (fun i hi j hj=>by
    obtain ⟨r,hr,hm⟩:=RM.en_mem hi hj
    exact Nat.le_of_lt (bM r hr _ hm)) (fun i hi=>Nat.le_of_lt (bb _ (qa7 (by omega)))) (Nat.pow_pos (by decide)) rfl
  have xs:=qnp k1
  generalize (2*((k+1)*2 ^ 4000)) ^ k=X at *
  refine ⟨(X:Int),x,D,⟨d0,dX,fun j=>by have:=xX j;omega,fun j hj=>?_,?_⟩,hs⟩
  · refine I.zero e (x:=fun j=>D*co qs j - x j) (fun i hi=>?_) j (by have:=S.lq;omega)
    rw [qag (g:=fun j=>D*(en M i j*co qs j) - en M i j*x j) k fun j _=>by grind,qem,qaK,hs i hi,S.eq i hi]
    exact ⟨-(co ls i*D),by grind⟩
  · refine Int.lt_of_le_of_lt ?_ big
    have e1:(2:Nat) ^ 80110=1024*(2 ^ 40050*2 ^ 40050):=by rw [show 80110=10+(40050+40050) from rfl,Nat.pow_add,Nat.pow_add]
    have e2:(2:Int) ^ 80110=((2 ^ 80110:Nat):Int):=by rw [Int.natCast_pow];rfl
    have h1:X*X≤2 ^ 40050*2 ^ 40050:=Nat.mul_le_mul xs xs
    rw [e2,e1]
    generalize (2:Nat) ^ 40050=Y at *
    have e3:256*(X:Int)*(X:Int)=((256*(X*X):Nat):Int):=by push_cast;rw [Int.mul_assoc]
    rw [e3]
    omega
theorem qg7 {p e Z:Nat} (p2:2≤p) (h:p ^ e≤2 ^ Z):e≤Z:=by
  have h1:2 ^ e≤p ^ e:=Nat.pow_le_pow_left p2 e
  exact (Nat.pow_le_pow_iff_right (a:=2) (by decide)).mp (Nat.le_trans h1 h)
theorem qlU {p st i:Nat} (p2:2≤p) (bp:Bd 44500 (p:Int)) (h:p ^ (st - 1)≤2 ^ 80110) (s1:1≤st) (hi:i≤st):Bd 250000 ((p:Int) ^ (st - 1+i)):=by
  have bp:p<2 ^ 44500:=by unfold Bd at bp;rw [Int.natAbs_natCast] at bp;exact bp
  have e:((p:Int) ^ (st - 1+i)).natAbs=p ^ (st - 1+i):=by rw [Int.natAbs_pow,Int.natAbs_natCast]
  unfold Bd
  rw [e]
  have h1:p ^ (st - 1+i)≤p ^ ((st - 1)+(st - 1)+1):=Nat.pow_le_pow_right (by omega) (by omega)
  refine Nat.lt_of_le_of_lt h1 ?_
  rw [Nat.pow_succ,Nat.pow_add]
  have h2:p ^ (st - 1)*p ^ (st - 1)≤2 ^ 80110*2 ^ 80110:=Nat.mul_le_mul h h
  have h3:p ^ (st - 1)*p ^ (st - 1)*p≤2 ^ 80110*2 ^ 80110*2 ^ 44500:=Nat.mul_le_mul h2 (Nat.le_of_lt bp)
  refine Nat.lt_of_le_of_lt h3 ?_
  rw [← Nat.pow_add,← Nat.pow_add]
  exact Nat.pow_lt_pow_right (by decide) (by decide)
theorem qkp (h:qcR K vs H Q E):qlI K { nx:=fun _ H'=>Q .non H',rt:=Q } (L2.start ["minor", "turned", "due", "prime", "left", "places", "scale", "steps", "step", "short", "found", "guess"] vs) H:=by
  obtain ⟨m,t,b,M,T,bs,k,p,rfl,hm,ht,hb,RM,RT,lb,k1,p2,bp,iT,I,bM,bb,kk⟩:=h
  refine qaz (qaf rfl ?_)
  show qf4 K _ _ _
  refine qaz (qaD (qib (r_c ⟨qo0,fun c hc=>qcO (qaf rfl (qcP (qae hc _ _ _ hb) ⟨c,_,_,rfl,rfl,qac,?_,?_,?_,fun pl hpl=>?_⟩))⟩)))
  · rw [List.length_map];omega
  · rw [List.length_map];omega
  · rw [List.length_map,lb,Int.toNat_natCast,show [V.int 0].length=1 from rfl,Nat.one_mul];exact sz (by omega)
  rw [List.length_map,lb,Int.toNat_natCast,qhw]
  have s1:=qae hc (.lst [V.int 0])
  have s2:=qae hpl (.lst (List.replicate k (V.int 0)))
  have s12:=s1.trans s2
  generalize hH2:upd (upd H c (.lst [V.int 0])) pl (.lst (List.replicate k (V.int 0)))=H2 at *
  have hpl2:H2 pl=some (.lst ((List.replicate k (0:Int)).map V.int)):=by rw [List.map_replicate,← hH2];exact qac
  show qf3 K _ _ _
  refine qaz (r_c ?_)
  show qf2 K _ _ _
  refine qaz (r_c ?_)
  show qf1 K _ _ _
  have S0:ST p k M bs bs (List.replicate k 0) 0:=⟨lb,List.length_replicate,fun i hi=>by
    rw [qaP (n:=k) (f:=fun j=>en M i j*co (List.replicate k 0) j) fun j _=>by rw [qnn,Int.mul_zero]]
    rw [Int.pow_zero];omega,fun z hz=>(bb z hz).mono (by decide),fun z hz=>by
    rw [(List.mem_replicate.mp hz).2,Int.pow_zero];decide⟩
  refine qbZ (fun n σ H'=>∃ (lf pl:Addr) (ls qs:List Int) (st:Nat) (x8 x9 x10 x11:Option V),σ=[some (.ref m),some (.ref t),some (.ref b),some (.int (p:Int)),some (.ref lf),some (.ref pl),some (.int ((p:Int) ^ (st - 1))),some (.int (st:Int)),x8,x9,x10,x11]∧Same H H'∧H' lf=some (.lst (ls.map V.int))∧H' pl=some (.lst (qs.map V.int))∧ST p k M bs ls qs (st - 1)∧1≤st∧p ^ (st - 1)≤2 ^ 80110∧n=80200 - st) 80199 ⟨b,pl,bs,List.replicate k 0,1,none,none,none,none,rfl,s12,s12 _ _ hb,hpl2,S0,Nat.le_refl _,by rw [Nat.sub_self,Nat.pow_zero];exact Nat.pow_pos (by decide),rfl⟩ ?_
  rintro n σ H' ⟨lf,pl,ls,qs,st,x8,x9,x10,x11,rfl,s,hl,hq,S,st1,sz',rfl⟩
  have stz:st - 1≤80110:=qg7 p2 sz'
  refine ⟨true,rfl,qbr (fun _=>?_) (fun z=>absurd rfl z)⟩
  refine ⟨_,fun _ _ h=>h,?_⟩
  show qdY K _ _ _
  refine (show qef _ _ _ _ _ _ from ⟨_,rfl,(st:Int),rfl,by omega,by omega,?_⟩)
  rw [Int.toNat_natCast]
  refine ForR.by (fun i σ H''=>∃ (lf pl:Addr) (ls qs:List Int) (x8 x9 x10:Option V),σ=[some (.ref m),some (.ref t),some (.ref b),some (.int (p:Int)),some (.ref lf),some (.ref pl),some (.int ((p:Int) ^ (st - 1+i))),some (.int (st:Int)),x8,x9,x10,x11]∧Same H H''∧H'' lf=some (.lst (ls.map V.int))∧H'' pl=some (.lst (qs.map V.int))∧ST p k M bs ls qs (st - 1+i)) ⟨lf,pl,ls,qs,x8,x9,x10,rfl,s,hl,hq,S⟩ ?_ ?_
  · rintro i σ H'' hi ⟨lf,pl,ls,qs,x8,x9,x10,rfl,s,hl,hq,S⟩
    refine qd6 ?_
    exact qiT hm ht s hl hq RM RT k1 p2 bp iT I bM S (qlU p2 bp sz' st1 (i:=i+1) hi) fun lf pl ls qs H3 x9 x10 s3 hl3 hq3 S3=>⟨lf,pl,ls,qs,_,x9,x10,rfl,s3,hl3,hq3,S3⟩
  rintro σ H'' ⟨lf,pl,ls,qs,x8,x9,x10,rfl,s,hl,hq,S⟩
  have be:=qlU p2 bp sz' st1 (Nat.le_refl st)
  obtain ⟨e,he⟩:∃ e,e=st - 1+st:=⟨_,rfl⟩
  rw [← he] at be S ⊢
  have lq:=S.lq
  have pe2:(2:Int)≤(p:Int) ^ e:=by
    have h1:p ^ 1≤p ^ e:=Nat.pow_le_pow_right (by omega) (by omega)
    rw [Nat.pow_one] at h1
    have:(p:Int) ^ e=((p ^ e:Nat):Int):=by rw [Int.natCast_pow]
    rw [this];omega
  have bq:∀ z∈qs,Bd 250000 z:=fun z hz=>be.le (by have:=S.bq z hz;omega)
  have small:(∀ X x D,Fits ((p:Int) ^ e) X qs x D→(∀ i,i<k→su k (fun j=>en M i j*x j)=co bs i*D)→False)→p ^ e≤2 ^ 80110:=fun no=>by
    refine Nat.le_of_not_lt fun z=>?_
    have e1:(p:Int) ^ e=((p ^ e:Nat):Int):=by rw [Int.natCast_pow]
    have e2:(2:Int) ^ 80110=((2 ^ 80110:Nat):Int):=by rw [Int.natCast_pow];rfl
    obtain ⟨X,x,D,F,hs⟩:=S.fits p2 k1 I RM bM lb bb (by rw [e1,e2];exact Int.ofNat_lt.mpr z)
    exact no X x D F hs
  have again:∀ (x11:Option V) (H3:Hp),Same H'' H3→p ^ e≤2 ^ 80110→qdW K { nx:=fun σ' H'=>∃ m',m'<80200 - st∧∃ (lf pl:Addr) (ls qs:List Int) (st:Nat) (x8 x9 x10 x11:Option V),σ'=[some (.ref m),some (.ref t),some (.ref b),some (.int (p:Int)),some (.ref lf),some (.ref pl),some (.int ((p:Int) ^ (st - 1))),some (.int (st:Int)),x8,x9,x10,x11]∧Same H H'∧H' lf=some (.lst (ls.map V.int))∧H' pl=some (.lst (qs.map V.int))∧ST p k M bs ls qs (st - 1)∧1≤st∧p ^ (st - 1)≤2 ^ 80110∧m'=80200 - st,rt:=Q } [some (.ref m),some (.ref t),some (.ref b),some (.int (p:Int)),some (.ref lf),some (.ref pl),some (.int ((p:Int) ^ e)),some (.int (st:Int)),x8,x9,x10,x11] H3:=fun x11 H3 s3 small=>by
    refine ⟨_,rfl,_,_,rfl,rfl,qpw (by decide) (by decide),?_⟩
    have ez:=qg7 p2 small
    refine ⟨80200 - (2*st),by omega,lf,pl,ls,qs,2*st,x8,x9,x10,x11,?_,s.trans s3,s3 _ _ hl,s3 _ _ hq,?_,by omega,?_,rfl⟩
    · show [some (.ref m),some (.ref t),some (.ref b),some (.int (p:Int)),some (.ref lf),some (.ref pl),some (.int ((p:Int) ^ e)),some (.int ((st:Int)*2)),x8,x9,x10,x11]=_
      rw [show 2*st - 1=e by omega,show (st:Int)*2=((2*st:Nat):Int) by omega]
    · rw [show 2*st - 1=e by omega];exact S
    · rw [show 2*st - 1=e by omega];exact small
  show qdX K _ _ _
  refine qdk (qaf rfl (qaf rfl ⟨pl,qs,_,rfl,hq,by omega,fun z hz=>(bq z hz).mono (by decide),pe2,be,fun H3 s3 no=>?_,fun g y ys B H3 s3 hg hy ly B0 Bm ym fit=>?_⟩))
  · show qcJ K _ _ _
    refine qjo (show qiy _ _ _ _ _ from ⟨_,rfl,rfl,_,rfl,qbr (fun z=>by cases z) (fun _=>qbr (fun z=>by cases z) (fun _=>?_))⟩)
    exact again _ _ s3 (small fun X x D F _=>no X x D F)
  · have bB:Bd 250000 B:=be.le (by omega)
    have bys:∀ z∈ys,Bd 250000 z:=fun z hz=>be.le (ym z hz)
    show qcJ K _ _ _
    refine qjo (show qiy _ _ _ _ _ from ⟨_,rfl,rfl,_,rfl,qbr (fun _=>?_) (fun z=>absurd rfl z)⟩)
    refine (show qap _ _ _ _ _ _ _ from qkc (qaf rfl (qaf rfl (qaf rfl ⟨m,g,y,b,M,ys,bs,B,k,rfl,hm.tp (s.trans s3),RM,hg,hy,(s.trans s3) _ _ hb,by omega,lb,by omega,fun r hr z hz=>(bM r hr z hz).mono (by decide),fun z hz=>(bys z hz).mono (by decide),fun z hz=>(bb z hz).mono (by decide),bB.mono (by decide),fun H4 c s4 hc=>⟨c,rfl,qbr (fun d=>?_) (fun d=>?_)⟩⟩))))
    · exact qa3 (qaf rfl (kk g y ys B H4 ((s.trans s3).trans s4) (s4 _ _ hg) (s4 _ _ hy) (by omega) B0 bB bys (hc.mp d)))
    · refine again _ _ (s3.trans s4) (small fun X x D F hs=>d (hc.mpr fun i hi=>?_))
      have f:=fit X x D F
      have d0:=F.d0
      have e1:su k (fun j=>en M i j*co ys j)*D=co bs i*B*D:=by
        rw [← qaI,qag (g:=fun j=>B*(en M i j*x j)) k fun j hj=>by
          have:=f j (by omega)
          rw [Int.mul_assoc,this];grind,qaK,hs i hi]
        grind
      exact Int.eq_of_mul_eq_mul_right (by omega) e1
theorem Cor.tp {C:Addr} {H H':Hp} {x:Addr} {L:List (List Int)} {n w p:Nat} {os cs:List Nat} {M T:List (List Int)} {y z m t:Addr} (c:Cor C H x L n w p os cs M T y z m t) (s:Same H H'):Cor C H' x L n w p os cs M T y z m t:=
  ⟨let ⟨dx,fs,h,f⟩:=c.at';⟨dx,fs,s _ _ h,f⟩,s _ _ c.hy,s _ _ c.hz,c.hm.tp s,c.ht.tp s,c.c⟩
theorem rising_len' {w:Nat}:∀ (cs:List Nat) (lo:Nat),cs.Pairwise (·<·)→(∀ j∈cs,lo≤j∧j<w)→cs=[]∨cs.length+lo≤w
  | [],_,_,_=>.inl rfl
  | c::cs,lo,hp,hw=>by
    obtain ⟨h1,h2⟩:=List.pairwise_cons.mp hp
    have hc:=hw c (List.mem_cons_self ..)
    refine .inr ?_
    rcases rising_len' cs (c+1) h2 (fun j hj=>⟨h1 j hj,(hw j (List.mem_cons_of_mem _ hj)).2⟩) with q | q
    · rw [q];show 1+lo≤w;omega
    · show cs.length+1+lo≤w;omega
theorem qdL {cs:List Nat} {w:Nat} (h:cs.Pairwise (·<·)) (hw:∀ j∈cs,j<w):cs.length≤w:=by
  rcases rising_len' cs 0 h (fun j hj=>⟨Nat.zero_le _,hw j hj⟩) with q | q
  · rw [q];exact Nat.zero_le _
  · exact q
theorem qmO {R:Type} [Lean.Grind.CommRing R] {w d q:Nat} {c:Nat→Nat} {f:Nat→R} (g:Nat→R) (cw:∀ s,s<d→c s<w) (inj:∀ s t,s<d→t<d→c s=c t→s=t) (qw:q<w) (qc:∀ s,s<d→c s≠q) (zer:∀ j,j<w→(∀ s,s<d→c s≠j)→j≠q→f j=0) :
    su w (fun j=>g j*f j)=su d (fun s=>g (c s)*f (c s))+g q*f q:=by
  have key:∀ j,j<w→f j=su d (fun s=>f (c s)*dl (c s) j)+f q*dl q j:=fun j hj=>by
    by_cases e1:∃ s,s<d∧c s=j
    · obtain ⟨s0,h0,rfl⟩:=e1
      rw [qag (g:=fun s=>(fun s=>f (c s)) s*dl s s0) d fun s hs=>by
        unfold dl
        by_cases e:c s=c s0
        · rw [if_pos e,if_pos (inj s s0 hs h0 e)]
        · rw [if_neg e,if_neg fun z=>e (by rw [z])],qfX (fun s=>f (c s)),if_pos h0]
      unfold dl
      rw [if_neg fun z=>qc s0 h0 z.symm]
      grind
    · have e1:∀ s,s<d→c s≠j:=fun s hs z=>e1 ⟨s,hs,z⟩
      rw [qaP fun s hs=>by
        unfold dl
        rw [if_neg (e1 s hs)];grind]
      by_cases e2:j=q
      · rw [e2];unfold dl;rw [if_pos rfl];grind
      · rw [zer j hj e1 e2];unfold dl;rw [if_neg fun z=>e2 z.symm];grind
  rw [qag (g:=fun j=>su d (fun s=>f (c s)*dl (c s) j)*g j+f q*(dl q j*g j)) w fun j hj=>by rw [key j hj];grind,qel,qfD cw (fun s=>f (c s)) g,qaK,qff g qw]
  rw [qag (f:=fun t=>f (c t)*g (c t)) (g:=fun s=>g (c s)*f (c s)) d fun s _=>by grind]
  grind
theorem FRs.tp {H H':Hp} {L:List (List Int)} {n w:Nat} {cs:List Nat} (t:Tp H H'):∀ {xs:List V} {F:List (Nat×List Int×Int)},FRs H L n w cs xs F→FRs H' L n w cs xs F
  | [],[],_=>trivial
  | _::_,_::_,h=>⟨let ⟨u,zs,e,hu,hN,f⟩:=h.1;⟨u,zs,e,t _ _ hu,hN.tp t,f⟩,FRs.tp t h.2⟩
  | [],_::_,h=>h.elim
  | _::_,[],h=>h.elim
theorem FRs.length {H:Hp} {L:List (List Int)} {n w:Nat} {cs:List Nat}:∀ {xs:List V} {F:List (Nat×List Int×Int)},FRs H L n w cs xs F→xs.length=F.length
  | [],[],_=>rfl
  | _::_,_::_,h=>congrArg (·+1) (FRs.length h.2)
  | [],_::_,h=>h.elim
  | _::_,[],h=>h.elim
theorem FRs.snoc {H:Hp} {L:List (List Int)} {n w:Nat} {cs:List Nat} {u:Addr} {zs:List V} {q:Nat×List Int×Int} (hu:H u=some (.tup zs)) (hN:Nums H zs (q.2.1.map fun z=>qbQ z q.2.2)) (f:Fre L n w cs q.1 q.2.1 q.2.2):∀ {xs:List V} {F:List (Nat×List Int×Int)},FRs H L n w cs xs F→FRs H L n w cs (xs++[.ref u]) (F++[q])
  | [],[],_=>⟨⟨u,zs,rfl,hu,hN,f⟩,trivial⟩
  | _::_,_::_,h=>⟨h.1,FRs.snoc hu hN f h.2⟩
  | [],_::_,h=>h.elim
  | _::_,[],h=>h.elim
theorem qjB (i:Nat) (cs:List Nat):frC (i+1) cs=frC i cs++(if i∈cs then [] else [i]):=by
  unfold frC
  rw [List.range_succ,List.filter_append]
  by_cases h:i∈cs
  · rw [if_pos h];simp [h]
  · rw [if_neg h];simp [h]
theorem qog (w:Nat) (cs:List Nat):(frC w cs).length≤w:=by
  unfold frC
  have:=List.length_filter_le (fun j=>decide (j∉cs)) (List.range w)
  rw [List.length_range] at this
  exact this
theorem qqa {H:Hp}:∀ cs:List Nat,RepA H (iN cs) (cs.map fun j:Nat=>PySem.W.Dat.int (j:Int))
  | []=>.nil
  | _::cs=>.cons (.int _) (qqa cs)
theorem qmP {ta:TE} {σ:L2.St} {H:Hp} {Q:VK} (h:ta σ H fun x H1=>∃ i:Int,x=.int i∧Q (.int (-i)) H1):tUn qm7 ta σ H Q:=h
theorem qiU {K:W.Frag} (hC:ClsOk K (qbo K)) {vs:List V} {H:Hp} {Q:VK} {E:XK} (h:qca K vs H Q E):qkg K { nx:=fun _ H'=>Q .non H',rt:=Q } (L2.start ["sides", "core", "width", "frees", "column", "due", "solution", "row"] vs) H:=by
  obtain ⟨a,x,y,z,m,t,L,M,T,n,w,p,os,cs,rfl,hL,R,nw,n1,w1,bL,p2,bp,C,kN,k⟩:=h
  generalize qbo K=A at *
  have c:=C.c
  have lc:=c.lc
  have ol:=c.ol
  have cl:=c.cl
  have dw:os.length≤10:=by have:=qdL c.cu c.cl;omega
  have cnd:cs.Nodup:=c.cu.imp fun h=>Nat.ne_of_lt h
  have bM:BdL 4000 M:=fun r hr z hz=>by
    obtain ⟨i,hi,rfl⟩:=List.mem_iff_getElem.mp hr
    obtain ⟨j,hj,rfl⟩:=List.mem_iff_getElem.mp hz
    have hi':i<os.length:=by have:=c.rM.1;omega
    have hj':j<os.length:=by have:=c.rM.2 _ hr;omega
    have e:M[i][j]=en M i j:=by
      unfold en co
      rw [List.getD_eq_getElem?_getD (l:=M),List.getElem?_eq_getElem hi]
      show M[i][j]=(M[i]).getD j 0
      rw [List.getD_eq_getElem?_getD,List.getElem?_eq_getElem hj];rfl
    rw [e,c.eM i hi' j hj']
    obtain ⟨r,hr,hm⟩:=R.en_mem (ol _ (qaC hi')) (cl _ (qaC (by omega:j<cs.length)))
    exact bL r hr _ hm
  refine qn7 (qaf rfl ⟨a,L,n,w,rfl,hL,R,nw,?_⟩)
  show qfi K _ _ _
  refine qaz (show qfy qao _ _ _ from ⟨Nat.zero_le _,fun fr hfr=>?_⟩)
  have s0:=qae hfr (.lst [])
  show qfh K _ _ _
  refine (show qef _ _ _ _ _ _ from ⟨_,rfl,(w:Int),rfl,by omega,by omega,?_⟩)
  rw [Int.toNat_natCast]
  refine ForR.by (fun i σ H'=>i≤w∧∃ (xs:List V) (F:List (Nat×List Int×Int)) (x4 x5 x6 x7:Option V),σ=[some (.ref a),some (.ref x),some (.int (w:Int)),some (.ref fr),x4,x5,x6,x7]∧Same H H'∧H' fr=some (.lst xs)∧FRs H' L n w cs xs F∧F.map (fun q=>q.1)=frC i cs) ⟨Nat.zero_le _,[],[],none,none,none,none,rfl,s0,qac,trivial,rfl⟩ ?_ ?_
  · rintro i σ H1 hi ⟨_,xs,F,x4,x5,x6,x7,rfl,s1,hfr1,hF,eF⟩
    refine qd6 ?_
    rw [show ((0:Int)+(i:Int))=(i:Int) by omega]
    have C1:=C.tp s1
    obtain ⟨dx,fs,hx1,fo⟩:=C1.at'
    refine qie (qaV (qaD (qaf rfl (qcY (qaf rfl ⟨x,A,dx,fs,_,rfl,hx1,hC.cl,hC.a3,fo.f3,z,_,.int (i:Int),cs.map (fun j:Nat=>.int (j:Int)),decide (i∈cs),rfl,C1.hz,.int _,qqa cs,rfl,fun e he=>?_,?_,_,rfl,qbr (fun q=>?_) (fun q=>?_)⟩)))))
    · obtain ⟨j,_,rfl⟩:=List.mem_map.mp he
      rfl
    · constructor
      · intro h
        exact List.mem_map.mpr ⟨i,of_decide_eq_true h,rfl⟩
      · intro h
        obtain ⟨j,hj,e⟩:=List.mem_map.mp h
        have:(j:Int)=(i:Int):=by injection e
        rw [show i=j by omega]
        exact decide_eq_true hj
    · -- a column that isn't the core's
      have ic:i∉cs:=by simpa using q
      show qdu K _ _ _
      obtain ⟨ws,haw,hS⟩:=hL
      have lw:=hS.length
      obtain ⟨bs,hbs⟩:∃ bs:List Int,bs=os.map fun o=>-(en L o i):=⟨_,rfl⟩
      have lbs:bs.length=os.length:=by rw [hbs,List.length_map]
      refine qaz (qa0 (qcY (qaf rfl ⟨x,A,dx,fs,_,rfl,hx1,hC.cl,hC.a2,fo.f2,y,rfl,⟨_,SqL.of C1.hy⟩,CompJ.lst (xs:=iN os) (fun j ys H'=>j≤os.length∧H'=H1∧ys=(bs.take j).map V.int) ⟨Nat.zero_le _,rfl,rfl⟩ ?_ ?_ ?_⟩)))
      · rintro j ys H' ⟨hj,rfl,rfl⟩
        exact ⟨by rw [qa8];exact hj,sz (by rw [List.length_map,List.length_take];omega),SqL.of C1.hy⟩
      · rintro j v ys H' hv ⟨_,rfl,rfl⟩
        have hj:j<os.length:=by have:=(List.getElem?_eq_some_iff.mp hv).1;rw [qa8] at this;exact this
        rw [qg6 hj] at hv
        cases hv
        have on:=ol _ (qaC hj)
        obtain ⟨b,eb,hb⟩:=hS.at (i:=nth os j) (by rw [R.1];exact on)
        have lr:=(R.row on).2
        refine qd6 (qmP (qaD (qaD (qaf rfl (qaf rfl (qdM (s1 _ _ haw) (qbc eb) (qaf rfl (qdM (s1 _ _ hb) (qbc (qcB (by rw [lr];exact hi))) ⟨_,rfl,hj,rfl,?_⟩))))))))
        have e:bs[j]?=some (-(en L (nth os j) i)):=by rw [hbs,List.getElem?_map,List.getElem?_eq_getElem hj,qdF hj];rfl
        rw [qaS V.int e];rfl
      rintro ys' H' ⟨_,rfl,rfl⟩ du hdu
      rw [show bs.take (iN os).length=bs by rw [qa8,← lbs,List.take_length]]
      have s2:=qae hdu (.lst (bs.map V.int))
      generalize hH2:upd H' du (.lst (bs.map V.int))=H2 at *
      have hdu2:H2 du=some (.lst (bs.map V.int)):=by rw [← hH2];exact qac
      have C2:=C1.tp s2
      have hx2:=s2 _ _ hx1
      have bbs:∀ z∈bs,Bd 4000 z:=fun z hz=>by
        rw [hbs] at hz
        obtain ⟨o,ho,rfl⟩:=List.mem_map.mp hz
        obtain ⟨r,hr,hm⟩:=R.en_mem (ol o ho) hi
        exact (bL r hr _ hm).neg
      show qdt K _ _ _
      refine qaz (qmC (qcY (qaf rfl ⟨x,A,dx,fs,_,rfl,hx2,hC.cl,hC.a4,fo.f4,qcY (qaf rfl ⟨x,A,dx,fs,_,rfl,hx2,hC.cl,hC.a5,fo.f5,qaf rfl (qcY (qaf rfl ⟨x,A,dx,fs,_,rfl,hx2,hC.cl,hC.a1,fo.f1,m,t,du,M,T,bs,os.length,p,rfl,C2.hm,C2.ht,hdu2,c.rM,c.rT,lbs,dw,p2,bp,c.iT,c.inv,bM,bbs,fun so yy ys B H3 s3 hso hyy lys B0 bB bys sol=>?_⟩))⟩)⟩)))
      have C3:=C2.tp s3
      have hx3:=s3 _ _ hx2
      show qds K _ _ _
      refine qaz (qkc (qcY (qaf rfl ⟨x,A,dx,fs,_,rfl,hx3,hC.cl,hC.a3,fo.f3,qd4 rfl hso (qaR _ _) (qaf rfl ⟨z,yy,cs,ys,w,rfl,C3.hz,hyy,by omega,cl,cnd,by omega,fun ro rs H4 s4 hro hrs lrs r1 r0=>?_⟩)⟩)))
      have s14:=(s2.trans s3).trans s4
      have roH:H ro=none:=(s1.trans (s2.trans s3)).free hro
      have rofr:fr≠ro:=qaj (s3 _ _ (s2 _ _ hfr1)) hro
      show qdr K _ _ _
      refine qfd (qd4 rfl (s4 _ _ hso) (qaQ _ _) ⟨_,rfl,_,rfl,ro,_,_,i,rfl,rfl,hrs,qe5 (by rw [List.length_map];omega),?_⟩)
      rw [← List.map_set]
      obtain ⟨f,hf⟩:∃ f,f=rs.set i B:=⟨_,rfl⟩
      rw [← hf]
      have k5:Kp ro H4 (upd H4 ro (.lst (f.map V.int))):=Kp.upd
      generalize hH5:upd H4 ro (.lst (f.map V.int))=H5 at *
      have hro5:H5 ro=some (.lst (f.map V.int)):=by rw [← hH5];exact qac
      have s5:Same H H5:=fun b o hb=>k5 b o (qaj hb roH) (s14 _ _ (s1 _ _ hb))
      have cf:∀ j,co f j=if j=i then B else co rs j:=fun j=>by rw [hf];exact qjy (by omega)
      have lf:f.length=w:=by rw [hf,List.length_set];exact lrs
      have fB:co f i=B:=by rw [cf,if_pos rfl]
      have fc:∀ s,s<os.length→co f (nth cs s)=co ys s:=fun s hs=>by
        rw [cf,if_neg fun e=>ic (by rw [← e];exact qaC (by omega))]
        exact r1 s (by omega)
      have f0:∀ j,j<w→j∉cs→j≠i→co f j=0:=fun j hj jc ji=>by
        rw [cf,if_neg ji]
        exact r0 j fun s hs e=>jc (by rw [← e];exact qaC hs)
      have bf:∀ z∈f,Bd 250000 z:=fun zz hz=>by
        obtain ⟨j,hj,rfl⟩:=List.mem_iff_getElem.mp hz
        have e:f[j]=co f j:=by unfold co;rw [List.getD_eq_getElem?_getD,List.getElem?_eq_getElem hj];rfl
        rw [e]
        by_cases ji:j=i
        · rw [ji,fB];exact bB
        · by_cases jc:j∈cs
          · obtain ⟨s,hs,rfl⟩:=qbq jc
            rw [fc s (by omega)];exact bys _ (qa7 (by omega))
          · rw [f0 j (by omega) jc ji];exact qfV _
      have sum:∀ o,su w (fun j=>en L o j*co f j)=su os.length (fun s=>en L o (nth cs s)*co ys s)+en L o i*B:=fun o=>by
        rw [qmO (d:=os.length) (c:=nth cs) (q:=i) (f:=co f) (fun j=>en L o j) (fun s hs=>cl _ (qaC (by omega))) (fun s t hs ht e=>qe8 cnd (by omega) (by omega) e) hi (fun s hs e=>ic (by rw [← e];exact qaC (by omega))) (fun j hj h1 h2=>f0 j hj (fun jc=>by
          obtain ⟨s,hs,e⟩:=qbq jc
          exact h1 s (by omega) e) h2),fB,qag (f:=fun s=>en L o (nth cs s)*co f (nth cs s)) (g:=fun s=>en L o (nth cs s)*co ys s) os.length fun s hs=>by rw [fc s hs]]
      have lines:∀ tt,tt<os.length→su w (fun j=>en L (nth os tt) j*co f j)=0:=fun tt ht=>by
        rw [sum,qag (g:=fun s=>en M tt s*co ys s) os.length fun s hs=>by rw [c.eM tt ht s hs],sol tt ht]
        have e:co bs tt = -(en L (nth os tt) i):=by
          unfold co
          rw [hbs,List.getD_eq_getElem?_getD,List.getElem?_map,List.getElem?_eq_getElem ht,qdF ht];rfl
        rw [e];grind
      show qdq K _ _ _
      refine qjo (show tB _ _ _ _ from qd5 (qa0 (qaf rfl ⟨a,rfl,⟨_,SqL.of (s5 _ _ haw)⟩,CompJ.lst (xs:=ws) (fun j ys H'=>j≤ws.length∧Same H5 H'∧∃ ds:List Int,ys=ds.map V.int∧ds.length=j∧∀ o,o<j→co ds o=su w fun q=>en L o q*co f q) ⟨Nat.zero_le _,Same.refl H5,[],rfl,rfl,fun o h=>absurd h (Nat.not_lt_zero o)⟩ ?_ ?_ ?_⟩)))
      · rintro j ys H' ⟨hj,s,ds,rfl,ld,_⟩
        exact ⟨hj,sz (by rw [List.length_map];have:=R.1;omega),SqL.of (s _ _ (s5 _ _ haw))⟩
      · rintro j v ys H' hv ⟨_,s,ds,rfl,ld,hd⟩
        have hj:j<ws.length:=(List.getElem?_eq_some_iff.mp hv).1
        obtain ⟨b,rr,rfl,er,hb⟩:=hS.get hv
        have eg:L.getD j []=rr:=by rw [List.getD_eq_getElem?_getD,er];rfl
        have rm:=List.mem_of_getElem? er
        refine qd6 (qaO (qaf rfl (qaf rfl ⟨b,ro,rr,f,w,rfl,s _ _ (s5 _ _ hb),s _ _ hro5,R.2 rr rm,lf,by omega,fun zz hz=>(bL rr rm zz hz).mono (by decide),fun zz hz=>(bf zz hz).mono (by decide),fun H6 s6=>⟨hj,s.trans s6,ds++[su w fun q=>co rr q*co f q],by rw [List.map_append];rfl,by rw [List.length_append,ld];rfl,fun o ho=>?_⟩⟩)))
        by_cases q:o<j
        · rw [qeK (by omega)];exact hd o q
        · have eo:o=ds.length+0:=by omega
          rw [eo,qeL,Nat.add_zero,ld]
          unfold en
          rw [eg];rfl
      rintro ys H6 ⟨_,s6,ds,rfl,ld,hd⟩ an han
      have wn:ws.length=n:=by rw [lw,R.1]
      rw [wn] at ld hd
      have s7:=qae han (.lst (ds.map V.int))
      generalize hH7:upd H6 an (.lst (ds.map V.int))=H7 at *
      have han7:H7 an=some (.lst (ds.map V.int)):=by rw [← hH7];exact qac
      have s57:=s6.trans s7
      refine ⟨an,ds,rfl,han7,_,rfl,qbr (fun q=>?_) (fun q=>?_)⟩
      · obtain ⟨zz,hz,nz⟩:=List.any_eq_true.mp q
        obtain ⟨o,ho,rfl⟩:=List.mem_iff_getElem.mp hz
        have e:ds[o]=co ds o:=by unfold co;rw [List.getD_eq_getElem?_getD,List.getElem?_eq_getElem ho];rfl
        rw [e,hd o (by omega)] at nz
        exact kN _ (s5.trans s57) ⟨o,co f,by omega,lines,by simpa using nz⟩
      · have all:∀ o,o<n→su w (fun j=>en L o j*co f j)=0:=fun o ho=>Classical.byContradiction fun nz=>q (List.any_eq_true.mpr ⟨co ds o,qa7 (by omega),by rw [hd o ho];simpa using nz⟩)
        refine qkm ?_
        show qdp K _ _ _
        have hfr7:H7 fr=some (.lst xs):=s57 _ _ (k5 _ _ rofr (s14 _ _ hfr1))
        have hso7:H7 so=some (.tup [.ref yy,.int B]):=s57 _ _ (k5 _ _ (qiv (s4 _ _ hso) hrs (by intro z;cases z)) (s4 _ _ hso))
        have tp7:Tp H' H7:=fun b o hb=>s57 _ _ (k5 _ _ (qiv (s14 _ _ hb) hrs (by intro z;cases z)) (s14 _ _ hb))
        have lF:=hF.length
        have lF2:F.length≤w:=by
          have:=congrArg List.length eF
          rw [List.length_map] at this
          have:=qog i cs
          omega
        refine ⟨_,rfl,.inl ⟨rfl,_,SqL.of hfr7⟩,qaO (qaf rfl (qd4 rfl hso7 (qaQ _ _) ⟨ro,f,B,rfl,s57 _ _ hro5,by omega,by omega,fun u zs H8 s8 hu hN=>⟨fr,_,_,rfl,rfl,s8 _ _ hfr7,sz (by omega),hi,xs++[.ref u],F++[(i,f,B)],_,_,_,_,rfl,fun b o hb=>?_,qac,?_,?_⟩⟩))⟩
        · rw [qav (qaj hb hfr)]
          exact s8 _ _ (s57 _ _ (s5 _ _ hb))
        · have tp8:Tp H8 (upd H8 fr (.lst (xs++[.ref u]))):=Tp.updL (s8 _ _ hfr7)
          exact ((hF.tp tp7).tp (tpS s8)).tp tp8 |> FRs.snoc (q:=(i,f,B)) (tp8 _ _ hu) (hN.tp tp8) ⟨lf,B0,bB,bf,all,hi,ic,fB,f0⟩
        · rw [List.map_append,eF,qjB,if_neg ic];rfl
    · have ic:i∈cs:=by simpa using q
      refine ⟨hi,xs,F,_,_,_,_,rfl,s1,hfr1,hF,?_⟩
      rw [qjB,if_pos ic,List.append_nil]
      exact eF
  · rintro σ H1 ⟨_,xs,F,x4,x5,x6,x7,rfl,s1,hfr1,hF,eF⟩
    show qfg K _ _ _
    exact qa3 (qaf rfl (k fr xs F H1 s1 hfr1 hF eF))
theorem bez (a b:Nat):∃ x y:Int,(a:Int)*x+(b:Int)*y=((Nat.gcd a b:Nat):Int):=by
  induction a,b using Nat.gcd.induction with
  | H0 n=>exact ⟨0,1,by rw [Nat.gcd_zero_left];omega⟩
  | H1 m n h ih=>
    obtain ⟨x,y,e⟩:=ih
    refine ⟨y - (n / m:Nat)*x,x,?_⟩
    rw [Nat.gcd_rec,← e]
    have h1:(n:Int)=(m:Int)*((n / m:Nat):Int)+((n % m:Nat):Int):=by
      have:=Nat.div_add_mod n m
      omega
    grind
theorem Pr.inv {p:Nat} (h:Pr p) (D:Int) (dp:¬ (p:Int)∣D):∃ E,Zm.of (p:Int) E*Zm.of (p:Int) D=1:=by
  have g:Nat.gcd D.natAbs p=1:=h.cop fun z=>dp (Int.dvd_natAbs.mp (Int.natCast_dvd_natCast.mpr z))
  obtain ⟨x,y,e⟩:=bez D.natAbs p
  rw [g] at e
  refine ⟨x*D.sign,?_⟩
  rw [← Zm.of_mul,show (1:Zm (p:Int))=Zm.of (p:Int) 1 from rfl,Zm.of_eq]
  refine ⟨-y,?_⟩
  have h1:D.sign*D=(D.natAbs:Int):=Int.sign_mul_self D
  have h2:x*D.sign*D=(D.natAbs:Int)*x:=by rw [Int.mul_assoc,h1,Int.mul_comm]
  rw [h2]
  have e:(D.natAbs:Int)*x+(p:Int)*y=1:=e
  rw [Int.mul_neg]
  omega
theorem qkq {L:List (List Int)} {n w:Nat} (R:Rect L n w) (bL:BdL 4000 L) (w1:w≤10) :
    ∃ D:Nat,0<D∧D≤2 ^ 1000000∧∀ (p:Nat) (os cs:List Nat) (M T:List (List Int)),CorM L n w p os cs M T→Pr p→¬ p∣D→¬ qjs L n w os:=by
  obtain ⟨r,o,c,D,rw',on,cw,D0,hx,sp⟩:=qiL (n:=n) (w:=w) (A:=2 ^ 4000) (b:=en L) (fun i hi j hj=>by
    obtain ⟨r',hr',hm⟩:=R.en_mem hi hj
    exact Nat.le_of_lt (bL r' hr' _ hm)) (Nat.pow_pos (by decide))
  have xs:=qnp (k:=r) (by omega)
  have nz:=qo5 r fun s hs=>(D0 s hs).1
  refine ⟨(pd r D).natAbs,by omega,?_,fun p os cs M T C pp pD=>?_⟩
  · refine Nat.le_trans (qn9 r fun s hs=>Nat.le_trans (D0 s hs).2 xs) ?_
    rw [← Nat.pow_mul]
    exact qgb (by omega)
  rintro ⟨i,f,hi,lines,nzf⟩
  have p2:=pp.two
  obtain ⟨d,hd⟩:∃ d,d=os.length:=⟨_,rfl⟩
  have lc:=C.lc
  have inv:=C.inv
  have eM:=C.eM
  rw [← hd] at lines lc inv eM
  have pDs:∀ s,s<r→∃ E,Zm.of (p:Int) E*Zm.of (p:Int) (D s)=1:=fun s hs=>pp.inv (D s) fun z=>pD (Int.natCast_dvd_natCast.mp (Int.dvd_natAbs.mpr (Int.dvd_trans z (qlz hs))))
  obtain ⟨W,hW⟩:∃ W:Nat→Nat→Zm (p:Int),∀ s,s<r→∀ s',s'<r→su r (fun t=>W s t*Zm.of (p:Int) (en L (o t) (c s')))=dl s s':=by
    refine ⟨fun s t=>if h:s<r then Zm.of (p:Int) (Classical.choose (pDs s h))*Zm.of (p:Int) (Classical.choose (hx s h) t) else 0,fun s hs s' hs'=>?_⟩
    have ce:=Classical.choose_spec (pDs s hs)
    have sp:=Classical.choose_spec (hx s hs) s' hs'
    rw [qag (g:=fun t=>Zm.of (p:Int) (Classical.choose (pDs s hs))*Zm.of (p:Int) (Classical.choose (hx s hs) t*en L (o t) (c s'))) r fun t _=>by
      show (if h:s<r then _ else _)*_=_
      rw [dif_pos hs,Zm.of_mul,Lean.Grind.Semiring.mul_assoc],qaK,← Zm.of_su,sp,Zm.of_mul,← Lean.Grind.Semiring.mul_assoc,ce]
    unfold dl
    split
    · show (1:Zm (p:Int))*1=1;grind
    · show (1:Zm (p:Int))*0=0;grind
  have h1:r≤d:=Nat.le_of_not_lt fun lt=>by
    have sp:∀ t,t<r→∃ z:Nat→Int,∀ j,j<w→(p:Int)∣en L (o t) j - su d fun s=>z s*en L (nth os s) j:=fun t ht=>by rw [hd];exact C.span (o t) (on t ht)
    obtain ⟨cc,⟨l,hl,nl⟩,e⟩:=dep pp.dom d r (fun t s=>if h:t<r then Zm.of (p:Int) (Classical.choose (sp t h) s) else 0) lt
    refine nl (ker pp.dom (k:=r) (W:=W) (M:=fun t s=>Zm.of (p:Int) (en L (o t) (c s))) hW (v:=cc) (fun s hs=>?_) l hl)
    have ez:∀ t,t<r→Zm.of (p:Int) (en L (o t) (c s))=su d fun q=>(if h:t<r then Zm.of (p:Int) (Classical.choose (sp t h) q) else 0)*Zm.of (p:Int) (en L (nth os q) (c s)):=fun t ht=>by
      have:=Zm.of_eq.mpr (Classical.choose_spec (sp t ht) (c s) (cw s hs))
      rw [this,Zm.of_su]
      exact qag d fun q _=>by rw [dif_pos ht,Zm.of_mul]
    rw [qag (g:=fun t=>su d fun q=>cc t*(if h:t<r then Zm.of (p:Int) (Classical.choose (sp t h) q) else 0)*Zm.of (p:Int) (en L (nth os q) (c s))) r fun t ht=>by
      rw [ez t ht,← qaK]
      exact qag d fun q _=>by rw [Lean.Grind.Semiring.mul_assoc],qbj]
    exact qaP fun q hq=>by rw [qaI,e q hq,Lean.Grind.Semiring.zero_mul]
  obtain ⟨cc,⟨l,hl,nl⟩,e⟩:=dep domQ r (d+1) (fun t s=>if h:(if t=d then i else nth os t)<n then Classical.choose (sp _ h) s else 0) (by omega)
  have bn:∀ t,t<d+1→(if t=d then i else nth os t)<n:=fun t ht=>by
    by_cases q:t=d
    · rw [if_pos q];exact hi
    · rw [if_neg q];exact C.ol _ (qaC (by omega))
  have zero:∀ j,j<w→su (d+1) (fun t=>cc t*(en L (if t=d then i else nth os t) j:Rat))=0:=fun j hj=>by
    rw [qag (g:=fun t=>su r fun q=>cc t*(if h:(if t=d then i else nth os t)<n then Classical.choose (sp _ h) q else 0)*(en L (o q) j:Rat)) (d+1) fun t ht=>by
      rw [Classical.choose_spec (sp _ (bn t ht)) j hj,← qaK]
      exact qag r fun q _=>by rw [dif_pos (bn t ht),Rat.mul_assoc],qbj]
    exact qaP fun q hq=>by rw [qaI,e q hq,Rat.zero_mul]
  obtain ⟨B,V,b0,hV⟩:=qly cc (d+1)
  have zI:∀ j,j<w→su d (fun t=>V t*en L (nth os t) j)+V d*en L i j=0:=fun j hj=>by
    have h:su (d+1) (fun t=>V t*en L (if t=d then i else nth os t) j)=0:=qc2 (by
      rw [qdl,qag (g:=fun t=>(B:Rat)*(cc t*(en L (if t=d then i else nth os t) j:Rat))) (d+1) fun t ht=>by rw [Rat.intCast_mul,hV t ht,Rat.mul_assoc],qaK,zero j hj,Rat.mul_zero];rfl)
    have h:su d (fun t=>V t*en L (if t=d then i else nth os t) j)+V d*en L (if d=d then i else nth os d) j=0:=h
    rw [if_pos rfl,qag (f:=fun t=>V t*en L (if t=d then i else nth os t) j) (g:=fun t=>V t*en L (nth os t) j) d fun t ht=>by rw [if_neg (by omega)]] at h
    exact h
  have vd:V d=0:=by
    have h1:su w (fun j=>(su d (fun r=>V r*en L (nth os r) j)+V d*en L i j)*f j)=0:=qaP fun j hj=>by rw [zI j hj,Int.zero_mul]
    rw [qag (g:=fun j=>su d (fun r=>V r*(en L (nth os r) j*f j))+V d*(en L i j*f j)) w fun j _=>by
      rw [Int.add_mul,← qaI,Int.mul_assoc,qag (f:=fun r=>V r*en L (nth os r) j*f j) (g:=fun r=>V r*(en L (nth os r) j*f j)) d fun r _=>Int.mul_assoc ..],qel,qbj,qaK,qaP (n:=d) (fun r hr=>by rw [qaK,lines r hr,Int.mul_zero]),Int.zero_add] at h1
    exact (Int.mul_eq_zero.mp h1).resolve_right nzf
  have vz:=inv.flip.null p2 (x:=V) (fun s hs=>by
    have:=zI (nth cs s) (C.cl _ (qaC (by omega)))
    rw [vd,Int.zero_mul,Int.add_zero] at this
    rw [qag (g:=fun r=>V r*en L (nth os r) (nth cs s)) d fun r hr=>by rw [eM r hr s hs,Int.mul_comm]]
    exact this)
  have vl:V l=0:=by
    by_cases q:l=d
    · rw [q];exact vd
    · exact vz l (by omega)
  have:=hV l hl
  rw [vl] at this
  have b0':(B:Rat)≠0:=fun z=>b0 (qc2 z)
  exact nl ((domQ.mul this.symm).resolve_left b0')
theorem Inv2.congr {p:Int} {k:Nat} {M T M' T':Nat→Nat→Int} (I:Inv2 p k M T) (hM:∀ i,i<k→∀ j,j<k→M' i j=M i j) (hT:∀ i,i<k→∀ j,j<k→T' i j=T i j):Inv2 p k M' T':=
  ⟨fun i hi j hj=>by rw [qag (g:=fun t=>M i t*T t j) k fun t ht=>by rw [hM i hi t ht,hT t ht j hj]];exact I.mt i hi j hj,fun i hi j hj=>by rw [qag (g:=fun t=>T i t*M t j) k fun t ht=>by rw [hT i hi t ht,hM t ht j hj]];exact I.tm i hi j hj⟩
theorem CorM.bM {L M T:List (List Int)} {n w p b:Nat} {os cs:List Nat} (c:CorM L n w p os cs M T) (R:Rect L n w) (bL:BdL b L):BdL b M:=fun r hr z hz=>by
  obtain ⟨i,hi,rfl⟩:=List.mem_iff_getElem.mp hr
  obtain ⟨j,hj,rfl⟩:=List.mem_iff_getElem.mp hz
  have lc:=c.lc
  have hi':i<os.length:=by have:=c.rM.1;omega
  have hj':j<os.length:=by have:=c.rM.2 _ hr;omega
  have e:M[i][j]=en M i j:=by
    unfold en co
    rw [List.getD_eq_getElem?_getD (l:=M),List.getElem?_eq_getElem hi]
    show M[i][j]=(M[i]).getD j 0
    rw [List.getD_eq_getElem?_getD,List.getElem?_eq_getElem hj];rfl
  rw [e,c.eM i hi' j hj']
  obtain ⟨r,hr,hm⟩:=R.en_mem (c.ol _ (qaC hi')) (c.cl _ (qaC (by omega:j<cs.length)))
  exact bL r hr _ hm
theorem qeP {K:W.Frag} (hC:ClsOk K (qbo K)) {vs:List V} {H:Hp} {Q:VK} {E:XK} (h:qbk K vs H Q E):qe1 K { nx:=fun _ H'=>Q .non H',rt:=Q } (L2.start ["sides", "core", "place", "due", "solution", "weights"] vs) H:=by
  obtain ⟨a,x,y,z,m,t,L,M,T,n,w,p,os,cs,i,rfl,hL,R,n1,w1,bL,p2,bp,C,hi,io,k⟩:=h
  generalize qbo K=A at *
  have c:=C.c
  have lc:=c.lc
  have ol:=c.ol
  have cl:=c.cl
  have dw:os.length≤10:=by have:=qdL c.cu c.cl;omega
  have bM:=c.bM R bL
  obtain ⟨dx,fs,hx,fo⟩:=C.at'
  obtain ⟨ws,haw,hS⟩:=hL
  obtain ⟨b,eb,hb⟩:=hS.at (i:=i) (by rw [R.1];exact hi)
  have lr:=(R.row hi).2
  refine qaz (qaO (qaD (qaf rfl (qaf rfl (qdM haw (qbc eb) (qcY (qaf rfl ⟨x,A,dx,fs,_,rfl,hx,hC.cl,hC.a3,fo.f3,b,z,_,cs,rfl,hb,C.hz,fun j hj=>by rw [lr];exact cl j hj,by omega,fun du hdu=>?_⟩)))))))
  obtain ⟨bs,hbs⟩:∃ bs,bs=cs.map (co (L.getD i [])):=⟨_,rfl⟩
  rw [← hbs]
  have lbs:bs.length=os.length:=by rw [hbs,List.length_map];exact lc
  have cbs:∀ s,s<os.length→co bs s=en L i (nth cs s):=fun s hs=>by
    have hs':s<cs.length:=by omega
    show bs.getD s 0=_
    rw [hbs,List.getD_eq_getElem?_getD,List.getElem?_map,List.getElem?_eq_getElem hs',qdF hs'];rfl
  have bbs:∀ z∈bs,Bd 4000 z:=fun z hz=>by
    rw [hbs] at hz
    obtain ⟨j,hj,rfl⟩:=List.mem_map.mp hz
    exact bL _ (R.row hi).1 _ (qa7 (by rw [lr];exact cl j hj))
  have s1:=qae hdu (.lst (bs.map V.int))
  generalize hH1:upd H du (.lst (bs.map V.int))=H1 at *
  have hdu1:H1 du=some (.lst (bs.map V.int)):=by rw [← hH1];exact qac
  have C1:=C.tp s1
  have hx1:=s1 _ _ hx
  show qcf K _ _ _
  refine qaz (qmC (qfr (qcY (qaf rfl ⟨x,A,dx,fs,_,rfl,hx1,hC.cl,hC.a4,fo.f4,m,M,os.length,os.length,rfl,C1.hm,c.rM,id,by omega,by omega,fun m2 M2 H2 s2 hM2 RM2 eM2 pM2=>qfr (qcY (qaf rfl ⟨x,A,dx,fs,_,rfl,s2 _ _ hx1,hC.cl,hC.a5,fo.f5,t,T,os.length,os.length,rfl,C1.ht.tp s2,c.rT,id,by omega,by omega,fun t2 T2 H3 s3 hT2 RT2 eT2 pT2=>qaf rfl (qcY (qaf rfl ⟨x,A,dx,fs,_,rfl,s3 _ _ (s2 _ _ hx1),hC.cl,hC.a1,fo.f1,m2,t2,du,M2,T2,bs,os.length,p,rfl,hM2.tp s3,hT2,s3 _ _ (s2 _ _ hdu1),RM2,RT2,lbs,dw,p2,bp,pT2 (fun z=>0≤z∧z<(p:Int)) c.iT,c.inv.flip.congr (fun i hi j hj=>eM2 j hj i hi) (fun i hi j hj=>eT2 j hj i hi),pM2 (fun z=>Bd 4000 z) bM,bbs,fun so yy ys B H4 s4 hso hyy lys B0 bB bys sol=>?_⟩))⟩))⟩))))
  have s14:=(s2.trans s3).trans s4
  have C4:=C1.tp s14
  have hx4:=s14 _ _ hx1
  have s04:=s1.trans s14
  show qce K _ _ _
  refine qaz (qkc (qcY (qaf rfl ⟨x,A,dx,fs,_,rfl,hx4,hC.cl,hC.a2,fo.f2,qa0 (qd4 rfl hso (qaR _ _) ⟨yy,rfl,⟨_,SqL.of hyy⟩,qfF (fun z=>-z) hyy (by omega) (fun n hn P hP=>⟨_,rfl,_,rfl,hP⟩) fun ng hng=>?_⟩)⟩)))
  have s5:=qae hng (.lst ((ys.map fun z=>-z).map V.int))
  generalize hH5:upd H4 ng (.lst ((ys.map fun z=>-z).map V.int))=H5 at *
  have hng5:H5 ng=some (.lst ((ys.map fun z=>-z).map V.int)):=by rw [← hH5];exact qac
  have s05:=s04.trans s5
  have wn:ws.length=n:=by rw [hS.length,R.1]
  refine qcO (qaf rfl (qcP (s05 _ _ haw) ⟨y,ng,os,ys.map fun z=>-z,n,by rw [wn],s5 _ _ C4.hy,hng5,by rw [List.length_map];omega,ol,c.ou,by omega,fun wl rs H6 s6 hwl hrs lrs r1 r0=>?_⟩))
  show qcd K _ _ _
  refine qfd (qd4 rfl (s6 _ _ (s5 _ _ hso)) (qaQ _ _) ⟨_,rfl,_,rfl,wl,_,_,i,rfl,rfl,hrs,qe5 (by rw [List.length_map];omega),?_⟩)
  rw [← List.map_set]
  have wlH:H wl=none:=s05.free hwl
  obtain ⟨W,hW⟩:∃ W,W=rs.set i B:=⟨_,rfl⟩
  rw [← hW]
  have k7:Kp wl H6 (upd H6 wl (.lst (W.map V.int))):=Kp.upd
  generalize hH7:upd H6 wl (.lst (W.map V.int))=H7 at *
  have hwl7:H7 wl=some (.lst (W.map V.int)):=by rw [← hH7];exact qac
  have s07:Same H H7:=fun b o hb=>k7 b o (qaj hb wlH) (s6 _ _ (s05 _ _ hb))
  have lW:W.length=n:=by rw [hW,List.length_set];exact lrs
  have cW:∀ j,co W j=if j=i then B else co rs j:=fun j=>by rw [hW];exact qjy (by omega)
  have WB:co W i=B:=by rw [cW,if_pos rfl]
  have Wo:∀ tt,tt<os.length→co W (nth os tt) = - co ys tt:=fun tt ht=>by
    rw [cW,if_neg fun e=>io (by rw [← e];exact qaC ht),r1 tt ht]
    exact qjx _ (by omega)
  have W0:∀ j,j<n→j∉os→j≠i→co W j=0:=fun j hj jo ji=>by
    rw [cW,if_neg ji]
    exact r0 j fun s hs e=>jo (by rw [← e];exact qaC hs)
  show qcc K _ _ _
  refine qa3 (qek (qaf rfl (qd4 rfl (k7 _ _ (qiv (s6 _ _ (s5 _ _ hso)) hrs (by intro z;cases z)) (s6 _ _ (s5 _ _ hso))) (qaQ _ _) ⟨qmc,fun r hr=>?_⟩)))
  have s8:=qae hr (.tup [.ref wl,.int B])
  refine k r wl W B _ (s07.trans s8) qac (s8 _ _ hwl7) lW B0 bB (fun zz hz=>?_) WB W0 fun s hs=>?_
  · obtain ⟨j,hj,rfl⟩:=List.mem_iff_getElem.mp hz
    have e:W[j]=co W j:=by unfold co;rw [List.getD_eq_getElem?_getD,List.getElem?_eq_getElem hj];rfl
    rw [e]
    by_cases ji:j=i
    · rw [ji,WB];exact bB
    · by_cases jo:j∈os
      · obtain ⟨tt,ht,rfl⟩:=qbq jo
        rw [Wo tt ht];exact (bys _ (qa7 (by omega))).neg
      · rw [W0 j (by omega) jo ji];exact qfV _
  · rw [qag (g:=fun j=>en L j (nth cs s)*co W j) n fun j _=>Int.mul_comm _ _,qmO (d:=os.length) (c:=nth os) (q:=i) (f:=co W) (fun j=>en L j (nth cs s)) (fun tt ht=>ol _ (qaC ht)) (fun s t hs ht e=>qe8 c.ou hs ht e) hi (fun tt ht e=>io (by rw [← e];exact qaC ht)) (fun j hj h1 h2=>W0 j hj (fun jo=>by
      obtain ⟨tt,ht,e⟩:=qbq jo
      exact h1 tt ht e) h2),WB]
    have e:=sol s hs
    rw [qag (g:=fun j=>en L (nth os j) (nth cs s)*co ys j) os.length fun j hj=>by rw [eM2 j hj s hs,c.eM j hj s hs],cbs s hs] at e
    rw [qag (f:=fun s_1=>en L (nth os s_1) (nth cs s)*co W (nth os s_1)) (g:=fun j=>(-1)*(en L (nth os j) (nth cs s)*co ys j)) os.length fun j hj=>by rw [Wo j hj];grind,qaK,e]
    omega
theorem qpi {R:Type} [Lean.Grind.CommRing R] {w d:Nat} {c:Nat→Nat} {f:Nat→R} (g:Nat→R) (cw:∀ s,s<d→c s<w) (inj:∀ s t,s<d→t<d→c s=c t→s=t) (zer:∀ j,j<w→(∀ s,s<d→c s≠j)→f j=0) :
    su w (fun j=>g j*f j)=su d (fun s=>g (c s)*f (c s)):=by
  have key:∀ j,j<w→f j=su d (fun s=>f (c s)*dl (c s) j):=fun j hj=>by
    by_cases e1:∃ s,s<d∧c s=j
    · obtain ⟨s0,h0,rfl⟩:=e1
      rw [qag (g:=fun s=>(fun s=>f (c s)) s*dl s s0) d fun s hs=>by
        unfold dl
        by_cases e:c s=c s0
        · rw [if_pos e,if_pos (inj s s0 hs h0 e)]
        · rw [if_neg e,if_neg fun z=>e (by rw [z])],qfX (fun s=>f (c s)),if_pos h0]
    · have e1:∀ s,s<d→c s≠j:=fun s hs z=>e1 ⟨s,hs,z⟩
      rw [qaP fun s hs=>by
        unfold dl
        rw [if_neg (e1 s hs)];grind]
      exact zer j hj e1
  rw [qag (g:=fun j=>su d (fun s=>f (c s)*dl (c s) j)*g j) w fun j hj=>by rw [← key j hj];grind,qfD cw (fun s=>f (c s)) g]
  exact qag d fun s _=>by grind
theorem qlV {l:List Nu} (hl:qgK l) {j:Nat} (hj:j<l.length):((co (qdP l) j:Int):Rat)=vl l j*((qea l:Int):Rat):=by
  have q2:=(qfW hl).2 _ (List.getElem_mem hj)
  have lo:=hl _ (List.getElem_mem hj)
  have e1:co (qdP l) j=l[j].1*(qea l / l[j].2):=by
    unfold co qdP
    rw [List.getD_eq_getElem?_getD,List.getElem?_map,List.getElem?_eq_getElem hj];rfl
  have e2:vl l j=(l[j].1:Rat) / (l[j].2:Rat):=by
    unfold vl val
    rw [List.getD_eq_getElem?_getD,List.getElem?_eq_getElem hj];rfl
  obtain ⟨t,ht⟩:=q2
  have p:=lo.pos
  have n0:((l[j].2:Int):Rat)≠0:=qaY (by omega)
  rw [e1,e2,ht,Int.mul_ediv_cancel_left _ (by omega)]
  push_cast
  grind
theorem qjC {b m:Nat} {l:List Nu} {M:Int} (h:NuOk b l) (o:Ov l M) (bM:Bd m M):(∀ z∈qdP l,Bd (b+m) z)∧Bd m (qea l):=by
  have B0:=(qfW h.1).1
  have BB:Bd m (qea l):=qjj (Int.ne_of_gt o.1) (qjk h.1 o) bM
  refine ⟨fun z hz=>?_,BB⟩
  unfold qdP at hz
  obtain ⟨q,hq,rfl⟩:=List.mem_map.mp hz
  exact ((h.2 q hq).1).mul (BB.le (qcF B0 (h.1 q hq).pos))
theorem qhD (l:List Nu):(qdP l).length=l.length:=by unfold qdP;rw [List.length_map]
noncomputable def CLs (H:Hp):List V→List (List Nu)→Prop
  | [],[]=>True
  | x::xs,l::ls=>(∃ r a,x=.ref r∧H r=some (.tup [.ref a,.int (qea l)])∧H a=some (.lst ((qdP l).map V.int)))∧CLs H xs ls
  | _,_=>False
theorem CLs.tp {H H':Hp} (s:Same H H'):∀ {xs:List V} {ls:List (List Nu)},CLs H xs ls→CLs H' xs ls
  | [],[],_=>trivial
  | _::_,_::_,h=>⟨let ⟨r,a,e,h1,h2⟩:=h.1;⟨r,a,e,s _ _ h1,s _ _ h2⟩,CLs.tp s h.2⟩
  | [],_::_,h=>h.elim
  | _::_,[],h=>h.elim
theorem CLs.length {H:Hp}:∀ {xs:List V} {ls:List (List Nu)},CLs H xs ls→xs.length=ls.length
  | [],[],_=>rfl
  | _::_,_::_,h=>congrArg (·+1) (CLs.length h.2)
  | [],_::_,h=>h.elim
  | _::_,[],h=>h.elim
theorem CLs.get {H:Hp}:∀ {xs:List V} {ls:List (List Nu)} {i:Nat} {v:V},CLs H xs ls→xs[i]?=some v→∃ r a l,v=.ref r∧ls[i]?=some l∧H r=some (.tup [.ref a,.int (qea l)])∧H a=some (.lst ((qdP l).map V.int))
  | [],[],_,_,_,e=>by simp at e
  | _::_,l::_,0,_,h,e=>by
    simp at e;subst e
    obtain ⟨r,a,e,q1,q2⟩:=h.1
    exact ⟨r,a,l,e,rfl,q1,q2⟩
  | _::_,_::_,i+1,_,h,e=>by
    obtain ⟨r,a,l,h1,h2,h3⟩:=CLs.get (i:=i) h.2 (by simpa using e)
    exact ⟨r,a,l,h1,by simpa using h2,h3⟩
  | [],_::_,_,_,h,_=>h.elim
  | _::_,[],_,_,h,_=>h.elim
theorem CLs.snoc {H:Hp} {r a:Addr} {l:List Nu} (h1:H r=some (.tup [.ref a,.int (qea l)])) (h2:H a=some (.lst ((qdP l).map V.int))):∀ {xs:List V} {ls:List (List Nu)},CLs H xs ls→CLs H (xs++[.ref r]) (ls++[l])
  | [],[],_=>⟨⟨r,a,rfl,h1,h2⟩,trivial⟩
  | _::_,_::_,h=>⟨h.1,CLs.snoc h1 h2 h.2⟩
  | [],_::_,h=>h.elim
  | _::_,[],h=>h.elim
theorem NRs.get {H:Hp}:∀ {xs:List V} {A:List (List Nu)} {i:Nat} {v:V},NRs H xs A→xs[i]?=some v→∃ a zs l,v=.ref a∧A[i]?=some l∧H a=some (.lst zs)∧Nums H zs l
  | [],[],_,_,_,e=>by simp at e
  | _::_,l::_,0,_,h,e=>by
    simp at e;subst e
    obtain ⟨a,zs,e,q1,q2⟩:=h.1
    exact ⟨a,zs,l,e,rfl,q1,q2⟩
  | _::_,_::_,i+1,_,h,e=>by
    obtain ⟨a,zs,l,h1,h2,h3⟩:=NRs.get (i:=i) h.2 (by simpa using e)
    exact ⟨a,zs,l,h1,by simpa using h2,h3⟩
  | [],_::_,_,_,h,_=>h.elim
  | _::_,[],_,_,h,_=>h.elim
theorem NRs.length {H:Hp}:∀ {xs:List V} {A:List (List Nu)},NRs H xs A→xs.length=A.length
  | [],[],_=>rfl
  | _::_,_::_,h=>congrArg (·+1) (NRs.length h.2)
  | [],_::_,h=>h.elim
  | _::_,[],h=>h.elim
theorem qlW {xs:List V} {w:Nat} (h:xs.length=w+1):qkv xs none (some (-1))=xs.take w:=by
  unfold qkv HT.sIx
  simp only [List.drop_zero,Nat.sub_zero]
  rw [if_pos (by decide),show ((-1:Int)+(xs.length:Int)).toNat=w by omega]
theorem qmQ {xs:List V} {w:Nat} {v:V} (h:xs.length=w+1) (hv:xs[w]?=some v):atI xs (-1)=some v:=by
  unfold atI ixN
  rw [if_neg (by decide),if_pos (by omega),show ((-1:Int)+(xs.length:Int)).toNat=w by omega]
  exact hv
structure Eqs (H:Hp) (A:List (List Nu)) (B:List Nu) (n w:Nat) (ln sd du:Addr) (ls:List (List Nu)) (L:List (List Int)) (ds:List Int):Prop where
  hl:∃ zs,H ln=some (.lst zs)∧CLs H zs ls
  hs:SD H sd L
  hd:H du=some (.lst (ds.map V.int))
  ll:ls.length=n
  ld:ds.length=n
  rL:Rect L n w
  bL:BdL 4000 L
  bS:BdL 1710 L
  bd:∀ z∈ds,Bd 4000 z
  b0:∀ l∈ls,0<qea l∧Bd 1900 (qea l)
  eL:∀ i,i<n→∀ j,j<w→((en L i j:Int):Rat)=vr A i j*((qea (ls.getD i []):Int):Rat)
  ed:∀ i,i<n→((co ds i:Int):Rat)=vl B i*((qea (ls.getD i []):Int):Rat)
theorem Eqs.tp {H H':Hp} {A:List (List Nu)} {B:List Nu} {n w:Nat} {ln sd du:Addr} {ls:List (List Nu)} {L:List (List Int)} {ds:List Int} (e:Eqs H A B n w ln sd du ls L ds) (s:Same H H'):Eqs H' A B n w ln sd du ls L ds:=
  ⟨let ⟨zs,h,c⟩:=e.hl;⟨zs,s _ _ h,c.tp s⟩,e.hs.tp s,s _ _ e.hd,e.ll,e.ld,e.rL,e.bL,e.bS,e.bd,e.b0,e.eL,e.ed⟩
theorem qoh {K:W.Frag} {H:Hp} {D:Ends} {a b:Addr} {xs ys:List V} {A:List (List Nu)} {B:List Nu} {n w:Nat} {x5 x6 x7 x8 x9 x10 x11 x12:Option V} (ha:H a=some (.lst xs)) (hb:H b=some (.lst ys)) (hA:NRs H xs A) (hB:Nums H ys B) (lA:A.length=n) (lB:B.length=n) (rA:∀ l∈A,l.length=w) (n1:n≤20) (w1:w≤10)
    (ok:∀ i,i<n→NuOk 2000 (A.getD i []++[B.getD i (0,1)])∧∃ m,Ov (A.getD i []++[B.getD i (0,1)]) m∧Bd 1900 m) (okA:∀ i,i<n→NuOk 204 (A.getD i [])∧∃ m,Ov (A.getD i []++[B.getD i (0,1)]) m∧Bd 1500 m)
    (k:∀ (ln sd du:Addr) (ls:List (List Nu)) (L:List (List Int)) (ds:List Int) (H':Hp),Same H H'→Eqs H' A B n w ln sd du ls L ds→qgQ K D [some (.ref a),some (.ref b),some (.ref ln),some (.ref sd),some (.ref du),x5,x6,x7,x8,x9,x10,x11,x12] H') :
    qju K D [some (.ref a),some (.ref b),none,none,none,x5,x6,x7,x8,x9,x10,x11,x12] H:=by
  have lx:=hA.length
  have ly:=hB.length
  obtain ⟨ls,hls⟩:∃ ls:List (List Nu),ls=(List.range n).map fun i=>A.getD i []++[B.getD i (0,1)]:=⟨_,rfl⟩
  have lls:ls.length=n:=by rw [hls,List.length_map,List.length_range]
  have gls:∀ i,i<n→ls.getD i []=A.getD i []++[B.getD i (0,1)]:=fun i hi=>by rw [hls,qfn _ _ hi]
  have gA:∀ i,i<n→A.getD i []∈A:=fun i hi=>by rw [List.getD_eq_getElem?_getD,List.getElem?_eq_getElem (by omega)];exact List.getElem_mem _
  have lw:∀ l∈ls,l.length=w+1:=fun l hl=>by
    rw [hls] at hl
    obtain ⟨i,hi,rfl⟩:=List.mem_map.mp hl
    rw [List.length_append,rA _ (gA i (List.mem_range.mp hi))];rfl
  have okl:∀ l∈ls,NuOk 2000 l∧∃ m,Ov l m∧Bd 1900 m:=fun l hl=>by
    rw [hls] at hl
    obtain ⟨i,hi,rfl⟩:=List.mem_map.mp hl
    exact ok i (List.mem_range.mp hi)
  refine qaz (qdE ⟨_,rfl,_,rfl,a,b,rfl,⟨_,SqL.of ha⟩,⟨_,SqL.of hb⟩,CompJ.zip (xs:=xs) (ys:=ys) (by omega) (fun i zs H'=>i≤xs.length∧Same H H'∧CLs H' zs (ls.take i)) ⟨Nat.zero_le _,Same.refl H,trivial⟩ ?_ ?_ ?_⟩)
  · rintro i zs H' ⟨hi,s,hC⟩
    exact ⟨hi,sz (by rw [hC.length,List.length_take];omega),SqL.of (s _ _ ha),SqL.of (s _ _ hb)⟩
  · rintro i x y zs H' p hx hy ⟨_,s,hC⟩ hp
    have hi:i<xs.length:=(List.getElem?_eq_some_iff.mp hx).1
    have hin:i<n:=by omega
    obtain ⟨r,us,l,rfl,el,hr,hN⟩:=hA.get hx
    obtain ⟨q,eq,hq⟩:=hB.get hy
    have e1:A.getD i []=l:=by rw [List.getD_eq_getElem?_getD,el];rfl
    have e2:B.getD i (0,1)=q:=by rw [List.getD_eq_getElem?_getD,eq];rfl
    have s2:=qae hp (.tup [.ref r,y])
    refine ⟨p,_,rfl,qac,rfl,_,_,rfl,_,_,rfl,rfl,?_⟩
    generalize hH2:upd H' p (.tup [.ref r,y])=H2 at *
    have s02:=s.trans s2
    obtain ⟨o1,m,o2,o3⟩:=ok i hin
    rw [e1,e2] at o1 o2
    refine qfr (qaD (qd5 (qaf rfl ⟨r,us,rfl,s02 _ _ hr,fun c hc=>?_⟩)))
    have s3:=qae hc (.lst us)
    refine qib (qaf rfl ⟨qo0,fun d hd=>?_⟩)
    have s4:=qae hd (.lst [y])
    have lus:us.length=w:=by rw [hN.length];rw [← e1];exact rA _ (gA i hin)
    refine ⟨c,d,us,[y],rfl,rfl,s4 _ _ qac,qac,sz (by show us.length+1≤_;omega),fun e he=>?_⟩
    have s5:=qae he (.lst (us++[y]))
    have s05:=((s02.trans s3).trans s4).trans s5
    refine ⟨e,us++[y],l++[q],m,rfl,.inr qac,(hN.tp (tpS s05)).append (Nums.one (hq.tp (tpS s05))),o1.1,o2,o3.mono (by decide),fun z hz=>((o1.2 z hz).1).mono (by decide),by rw [List.length_append,← hN.length,lus];show w+1≤_;omega,fun f g H6 s6 hf hg=>?_⟩
    have st:=((s2.trans s3).trans s4).trans (s5.trans s6)
    refine ⟨hi,s.trans st,?_⟩
    have e0:ls[i]?=some (l++[q]):=by rw [hls,List.getElem?_map,List.getElem?_range hin,← e1,← e2];rfl
    have et:ls.take (i+1)=ls.take i++[l++[q]]:=by rw [List.take_add_one,e0];rfl
    rw [et]
    exact (hC.tp st).snoc hf hg
  rintro zs H1 ⟨_,s1,hC⟩ ln hln
  rw [show ls.take xs.length=ls by rw [show xs.length=ls.length by omega,List.take_length]] at hC
  have lz:=hC.length
  have s2:=qae hln (.lst zs)
  generalize hH2:upd H1 ln (.lst zs)=H2 at *
  have hln2:H2 ln=some (.lst zs):=by rw [← hH2];exact qac
  have hC2:=hC.tp s2
  show qgS K _ _ _
  obtain ⟨L,hL⟩:∃ L:List (List Int),L=ls.map fun l=>(qdP l).take w:=⟨_,rfl⟩
  refine qaz (qa0 (qaf rfl ⟨ln,rfl,⟨_,SqL.of hln2⟩,CompJ.lst (xs:=zs) (fun i ys H'=>i≤zs.length∧Same H2 H'∧SDs H' ys (L.take i)) ⟨Nat.zero_le _,Same.refl H2,trivial⟩ ?_ ?_ ?_⟩))
  · rintro i ys H' ⟨hi,s,hS⟩
    exact ⟨hi,sz (by rw [hS.length,List.length_take];omega),SqL.of (s _ _ hln2)⟩
  · rintro i v ys H' hv ⟨_,s,hS⟩
    have hi:i<zs.length:=(List.getElem?_eq_some_iff.mp hv).1
    obtain ⟨r,c,l,rfl,el,hr,hc⟩:=hC2.get hv
    have ml:=List.mem_of_getElem? el
    refine qd6 (show tSl sL _ _ _ _ _ _ from qd4 rfl (s _ _ hr) (qaR _ _) (qmP (r_c ⟨1,rfl,_,rfl,c,_,rfl,s _ _ hc,fun p hp=>?_⟩)))
    rw [qlW (w:=w) (by rw [List.length_map,qhD];exact lw l ml)]
    have s3:=qae hp (.lst (((qdP l).map V.int).take w))
    refine ⟨hi,s.trans s3,?_⟩
    have e0:L[i]?=some ((qdP l).take w):=by rw [hL,List.getElem?_map,el];rfl
    have et:L.take (i+1)=L.take i++[(qdP l).take w]:=by rw [List.take_add_one,e0];rfl
    rw [et]
    exact (hS.tp s3).snoc (by rw [List.map_take];exact qac)
  rintro ys' H3 ⟨_,s3,hS⟩ sd hsd
  rw [show L.take zs.length=L by rw [show zs.length=L.length by rw [hL,List.length_map];omega,List.take_length]] at hS
  have s4:=qae hsd (.lst ys')
  generalize hH4:upd H3 sd (.lst ys')=H4 at *
  have hsd4:H4 sd=some (.lst ys'):=by rw [← hH4];exact qac
  have s24:=s3.trans s4
  have hC4:=hC2.tp s24
  show qgR K _ _ _
  obtain ⟨ds,hds⟩:∃ ds:List Int,ds=ls.map fun l=>co (qdP l) w:=⟨_,rfl⟩
  refine qaz (qa0 (qaf rfl ⟨ln,rfl,⟨_,SqL.of (s24 _ _ hln2)⟩,CompJ.lst (xs:=zs) (fun i ys H'=>i≤zs.length∧H'=H4∧ys=(ds.take i).map V.int) ⟨Nat.zero_le _,rfl,rfl⟩ ?_ ?_ ?_⟩))
  · rintro i ys H' ⟨hi,rfl,rfl⟩
    exact ⟨hi,sz (by rw [List.length_map,List.length_take];omega),SqL.of (s24 _ _ hln2)⟩
  · rintro i v ys H' hv ⟨_,rfl,rfl⟩
    have hi:i<zs.length:=(List.getElem?_eq_some_iff.mp hv).1
    obtain ⟨r,c,l,rfl,el,hr,hc⟩:=hC4.get hv
    have ml:=List.mem_of_getElem? el
    have ll:(qdP l).length=w+1:=by rw [qhD];exact lw l ml
    refine qd6 (qaD (qd4 rfl hr (qaR _ _) (qmP (r_c ⟨1,rfl,qdM hc (qmQ (w:=w) (by rw [List.length_map];exact ll) (qcB (by omega))) ⟨hi,rfl,?_⟩⟩))))
    have e0:ds[i]?=some (co (qdP l) w):=by rw [hds,List.getElem?_map,el];rfl
    rw [qaS V.int e0]
  rintro ys2 H' ⟨_,rfl,rfl⟩ du hdu
  rw [show ds.take zs.length=ds by rw [show zs.length=ds.length by rw [hds,List.length_map];omega,List.take_length]]
  have s5:=qae hdu (.lst (ds.map V.int))
  have s25:=s24.trans s5
  have lL:L.length=n:=by rw [hL,List.length_map];exact lls
  have gl:∀ i,i<n→ls.getD i []∈ls:=fun i hi=>by rw [List.getD_eq_getElem?_getD,List.getElem?_eq_getElem (by omega)];exact List.getElem_mem _
  refine k ln sd du ls L ds _ (s1.trans (s2.trans s25)) ⟨⟨zs,s25 _ _ hln2,hC2.tp s25⟩,⟨ys',s5 _ _ hsd4,hS.tp (s4.trans s5)⟩,qac,lls,by rw [hds,List.length_map];exact lls,⟨lL,fun r hr=>?_⟩,fun r hr z hz=>?_,fun r hr z hz=>?_,fun z hz=>?_,fun l hl=>?_,fun i hi j hj=>?_,fun i hi=>?_⟩
  · rw [hL] at hr
    obtain ⟨l,hl,rfl⟩:=List.mem_map.mp hr
    rw [List.length_take,qhD,lw l hl];omega
  · rw [hL] at hr
    obtain ⟨l,hl,rfl⟩:=List.mem_map.mp hr
    obtain ⟨o1,m,o2,o3⟩:=okl l hl
    exact ((qjC o1 o2 o3).1 z (List.mem_of_mem_take hz)).mono (by decide)
  · rw [hL] at hr
    obtain ⟨l,hl,rfl⟩:=List.mem_map.mp hr
    have o1:=(okl l hl).1
    rw [hls] at hl
    obtain ⟨i,hi,rfl⟩:=List.mem_map.mp hl
    have hi:=List.mem_range.mp hi
    obtain ⟨a1,m,a2,a3⟩:=okA i hi
    have BB:=(qjC o1 a2 a3).2
    unfold qdP at hz
    rw [← List.map_take,List.take_append_of_le_length (Nat.le_of_eq (rA _ (gA i hi)).symm)] at hz
    obtain ⟨q,hq,rfl⟩:=List.mem_map.mp hz
    have qA:=List.mem_of_mem_take hq
    exact (((a1.2 q qA).1).mul (BB.le (qcF (qfW o1.1).1 (a1.1 q qA).pos))).mono (by decide)
  · rw [hds] at hz
    obtain ⟨l,hl,rfl⟩:=List.mem_map.mp hz
    obtain ⟨o1,m,o2,o3⟩:=okl l hl
    exact ((qjC o1 o2 o3).1 _ (qa7 (by rw [qhD,lw l hl];omega))).mono (by decide)
  · obtain ⟨o1,m,o2,o3⟩:=okl l hl
    exact ⟨(qfW o1.1).1,(qjC o1 o2 o3).2⟩
  · have ml:=gl i hi
    have lwi:=lw _ ml
    have e:en L i j=co (qdP (ls.getD i [])) j:=by
      have e1:L.getD i []=(qdP (ls.getD i [])).take w:=by
        rw [hL,List.getD_eq_getElem?_getD,List.getElem?_map,List.getElem?_eq_getElem (by omega),List.getD_eq_getElem?_getD,List.getElem?_eq_getElem (by omega)];rfl
      show (L.getD i []).getD j 0=(qdP (ls.getD i [])).getD j 0
      rw [e1]
      generalize qdP (ls.getD i [])=cl
      rw [List.getD_eq_getElem?_getD,List.getElem?_take,if_pos hj,← List.getD_eq_getElem?_getD]
    rw [e,qlV (okl _ ml).1.1 (by omega)]
    congr 1
    unfold vr vl
    rw [gls i hi,qeM (by rw [rA _ (gA i hi)];exact hj)]
  · have ml:=gl i hi
    have lwi:=lw _ ml
    have e:co ds i=co (qdP (ls.getD i [])) w:=by
      show ds.getD i 0=_
      rw [hds,List.getD_eq_getElem?_getD,List.getElem?_map,List.getElem?_eq_getElem (by omega),List.getD_eq_getElem?_getD,List.getElem?_eq_getElem (by omega)];rfl
    rw [e,qlV (okl _ ml).1.1 (by omega)]
    congr 1
    unfold vl
    rw [gls i hi,show w=(A.getD i []).length from (rA _ (gA i hi)).symm,qeN]
theorem qjD {zs:List Int} {b:Int} (b0:b≠0) {j:Nat} (hj:j<zs.length):vl (zs.map fun z=>qbQ z b) j=((co zs j:Int):Rat) / ((b:Int):Rat):=by
  unfold vl co
  rw [List.getD_eq_getElem?_getD,List.getElem?_map,List.getElem?_eq_getElem hj,List.getD_eq_getElem?_getD,List.getElem?_eq_getElem hj]
  exact qfB b0
theorem qlX {zs:List Int} {b:Int} {c:Nat} (b0:b≠0) (hz:∀ z∈zs,Bd c z) (hb:Bd c b):NuOk c (zs.map fun z=>qbQ z b):=
  ⟨fun q hq=>by obtain ⟨z,_,rfl⟩:=List.mem_map.mp hq;exact qej b0,fun q hq=>by obtain ⟨z,h,rfl⟩:=List.mem_map.mp hq;exact qiH b0 (hz z h) hb⟩
section
variable {H:Hp} {A:List (List Nu)} {B:List Nu} {n w:Nat} {ln sd du:Addr} {ls:List (List Nu)} {L:List (List Int)} {ds:List Int}
theorem Eqs.bt (E:Eqs H A B n w ln sd du ls L ds) {i:Nat} (hi:i<n):ls.getD i []∈ls∧((qea (ls.getD i []):Int):Rat)≠0:=by
  have m:ls.getD i []∈ls:=by rw [List.getD_eq_getElem?_getD,List.getElem?_eq_getElem (by have:=E.ll;omega)];exact List.getElem_mem _
  exact ⟨m,qaY (by have:=(E.b0 _ m).1;omega)⟩
theorem Eqs.sum (E:Eqs H A B n w ln sd du ls L ds) {i:Nat} (hi:i<n) {f:List Int} {D:Int} (D0:D≠0) (lf:f.length=w):su w (fun j=>vr A i j*vl (f.map fun z=>qbQ z D) j)*(((qea (ls.getD i []):Int):Rat)*((D:Int):Rat))=((su w (fun j=>en L i j*co f j):Int):Rat):=by
  have d0:=qaY D0
  rw [← qaI,qdl]
  refine qag w fun j hj=>?_
  rw [qjD D0 (by omega),Rat.intCast_mul,E.eL i hi j hj]
  grind
theorem Eqs.zero (E:Eqs H A B n w ln sd du ls L ds) {i:Nat} (hi:i<n) {f:List Int} {D:Int} (D0:D≠0) (lf:f.length=w) (h:su w (fun j=>en L i j*co f j)=0):su w (fun j=>vr A i j*vl (f.map fun z=>qbQ z D) j)=0:=by
  have e:=E.sum hi D0 lf
  have b:=(E.bt hi).2
  have d0:=qaY D0
  rw [h] at e
  have e:su w (fun j=>vr A i j*vl (f.map fun z=>qbQ z D) j)*(((qea (ls.getD i []):Int):Rat)*((D:Int):Rat))=0:=e
  exact (domQ.mul e).resolve_right fun z=>(domQ.mul z).elim b d0
theorem Eqs.told (E:Eqs H A B n w ln sd du ls L ds) {i:Nat} (hi:i<n) {f:List Int} {D:Int} (D0:D≠0) (lf:f.length=w) (h:su w (fun j=>en L i j*co f j)=co ds i*D):su w (fun j=>vr A i j*vl (f.map fun z=>qbQ z D) j)=vl B i:=by
  have e:=E.sum hi D0 lf
  have b:=(E.bt hi).2
  have d0:=qaY D0
  rw [h,Rat.intCast_mul,E.ed i hi] at e
  have e2:(su w (fun j=>vr A i j*vl (f.map fun z=>qbQ z D) j) - vl B i)*(((qea (ls.getD i []):Int):Rat)*((D:Int):Rat))=0:=by grind
  have:=(domQ.mul e2).resolve_right fun z=>(domQ.mul z).elim b d0
  grind
theorem TFs.of (E:Eqs H A B n w ln sd du ls L ds) (lA:A.length=n) {H':Hp} {cs:List Nat}:∀ {xs:List V} {F:List (Nat×List Int×Int)},FRs H' L n w cs xs F→TFs H' w A xs (F.map fun q=>q.2.1.map fun z=>qbQ z q.2.2)
  | [],[],_=>trivial
  | _::_,q::_,h=>⟨let ⟨u,zs,e,hu,hN,f⟩:=h.1;⟨u,zs,e,hu,hN,by rw [List.length_map];exact f.lf,qlX (Int.ne_of_gt f.d0) f.bf f.bD,fun i hi=>E.zero (by omega) (Int.ne_of_gt f.d0) f.lf (f.sol i (by omega))⟩,TFs.of E lA h.2⟩
  | [],_::_,h=>h.elim
  | _::_,[],h=>h.elim
end
theorem TFs.tp {H H':Hp} {w:Nat} {A:List (List Nu)} (t:Tp H H'):∀ {xs:List V} {F:List (List Nu)},TFs H w A xs F→TFs H' w A xs F
  | [],[],_=>trivial
  | _::_,_::_,h=>⟨let ⟨u,zs,e,hu,hN,f⟩:=h.1;⟨u,zs,e,t _ _ hu,hN.tp t,f⟩,TFs.tp t h.2⟩
  | [],_::_,h=>h.elim
  | _::_,[],h=>h.elim
theorem FRs.get {H:Hp} {L:List (List Int)} {n w:Nat} {cs:List Nat}:∀ {xs:List V} {F:List (Nat×List Int×Int)},FRs H L n w cs xs F→∀ q∈F,Fre L n w cs q.1 q.2.1 q.2.2
  | [],[],_,_,h=>nomatch h
  | _::_,p::_,h,q,hq=>by
    rcases List.mem_cons.mp hq with e | e
    · rw [e];obtain ⟨_,_,_,_,_,f⟩:=h.1;exact f
    · exact FRs.get h.2 q e
  | [],_::_,h,_,_=>h.elim
  | _::_,[],h,_,_=>h.elim
theorem qlY {K:W.Frag} {H:Hp} {Q:VK} {a:Addr} {L:List (List Int)} {n w p:Nat} (hL:SD H a L) (R:Rect L n w) (n1:n≤50) (w1:w≤50) (pp:Pr p) (bp:Bd 45000 (p:Int))
    (k:∀ (x:Addr) (os cs:List Nat) (M T:List (List Int)) (y z m t:Addr) (H':Hp),Same H H'→Cor (qbo K) H' x L n w p os cs M T y z m t→Q (.ref x) H') :
    ∀ x dx,H x=none→H dx=none→dx≠x→qa5 K (.ref x::([.ref a,.int (p:Int)]++[])) (upd (upd H dx (.own x)) x (.ins (qbo K) dx [])) (fun v H2=>v=.non∧Q (.ref x) H2) E0:=fun x dx hx hdx ne=>by
  have s:∀ b o,H b=some o→upd (upd H dx (.own x)) x (.ins (qbo K) dx []) b=some o:=fun b o hb=>by
    rw [qav (qaj hb hx),qav (qaj hb hdx)];exact hb
  exact ⟨x,a,dx,L,n,w,p,rfl,qac,hL.tp s,R,n1,w1,pp,bp,fun os cs M T y z m t H' k' c=>⟨rfl,k x os cs M T y z m t H' (fun b o hb=>k' b o (qaj hb hx) (s b o hb)) c⟩⟩
noncomputable def FrO (H:Hp) (L:List (List Int)) (n w:Nat) (os cs:List Nat) (v:V):Prop:=(v=.non∧qjs L n w os)∨∃ r xs F,v=.ref r∧H r=some (.lst xs)∧FRs H L n w cs xs F∧F.map (fun q=>q.1)=frC w cs
theorem qpj:p31=2147483647:=by decide
theorem qoi:qlD=170141183460469231731687303715884105727:=by decide
theorem bdP {p:Nat} {b:Nat} (h:p<2 ^ 130) (hb:130≤b):Bd b (p:Int):=by
  have:Bd 130 (p:Int):=by unfold Bd;rw [Int.natAbs_natCast];exact h
  exact this.mono hb
theorem pr127':Pr qlD:=qpQ
theorem qii {L:List (List Int)} {n w p:Nat} {os cs:List Nat} {M T:List (List Int)} {F:List (Nat×List Int×Int)} {W:List Int} (c:CorM L n w p os cs M T) (hF:∀ q∈F,Fre L n w cs q.1 q.2.1 q.2.2) (eF:F.map (fun q=>q.1)=frC w cs) (zc:∀ s,s<os.length→su n (fun j=>co W j*en L j (nth cs s))=0) {j:Nat} (hj:j<w):su n (fun i=>co W i*en L i j)=0:=by
  by_cases jc:j∈cs
  · obtain ⟨s,hs,rfl⟩:=qbq jc
    exact zc s (by have:=c.lc;omega)
  · have mj:j∈frC w cs:=by unfold frC;exact List.mem_filter.mpr ⟨List.mem_range.mpr hj,decide_eq_true jc⟩
    rw [← eF] at mj
    obtain ⟨q,hq,rfl⟩:=List.mem_map.mp mj
    have f:=hF q hq
    have h1:su w (fun j=>su n (fun i=>co W i*en L i j)*co q.2.1 j)=0:=by
      rw [qag (g:=fun j=>su n fun i=>co W i*(en L i j*co q.2.1 j)) w fun j _=>by rw [← qaI];exact qag n fun i _=>Int.mul_assoc ..,qbj]
      exact qaP fun i hi=>by rw [qaK,f.sol i hi,Int.mul_zero]
    have cnd:cs.Nodup:=c.cu.imp fun h=>Nat.ne_of_lt h
    rw [qmO (d:=cs.length) (c:=nth cs) (q:=q.1) (f:=co q.2.1) (fun j=>su n fun i=>co W i*en L i j) (fun s hs=>c.cl _ (qaC hs)) (fun s t hs ht e=>qe8 cnd hs ht e) hj (fun s hs e=>jc (by rw [← e];exact qaC hs)) (fun j hj h1 h2=>f.zer j hj (fun jc=>by
      obtain ⟨s,hs,e⟩:=qbq jc
      exact h1 s hs e) h2),qaP (n:=cs.length) (fun s hs=>by rw [zc s (by have:=c.lc;omega),Int.zero_mul]),Int.zero_add,f.one] at h1
    exact (Int.mul_eq_zero.mp h1).resolve_right (Int.ne_of_gt f.d0)
theorem qmR {L:List (List Int)} {n w:Nat} {os:List Nat} {W ds rs:List Int} {B i:Int} {q:Nat} (zW:∀ j,j<w→su n (fun i=>co W i*en L i j)=0) (qn:q<n) (Wq:co W q≠0) (W0:∀ j,j<n→j∉os→j≠q→co W j=0) (so:∀ o∈os,su w (fun j=>en L o j*co rs j)=co ds o*B) (sq:su w (fun j=>en L q j*co rs j)≠co ds q*B) (qo:q∉os):su n (fun i=>co W i*co ds i)≠0:=fun z=>by
  have h1:su n (fun i=>co W i*(su w (fun j=>en L i j*co rs j) - co ds i*B))=0:=by
    rw [qag (g:=fun i=>su w (fun j=>co W i*en L i j*co rs j) - co W i*co ds i*B) n fun i _=>by
      rw [Int.mul_sub,← qaK,qag (f:=fun j=>co W i*(en L i j*co rs j)) (g:=fun j=>co W i*en L i j*co rs j) w fun j _=>(Int.mul_assoc ..).symm];grind,qem,qbj,qaI,z,qaP (n:=w) (fun j hj=>by rw [qaI,zW j hj,Int.zero_mul])]
    omega
  rw [qag (g:=fun i=>(fun i=>co W i*(su w (fun j=>en L i j*co rs j) - co ds i*B)) i*dl i q) n fun i hi=>by
    unfold dl
    by_cases e:i=q
    · rw [if_pos e,Int.mul_one]
    · rw [if_neg e,Int.mul_zero]
      by_cases o:i∈os
      · rw [so i o,Int.sub_self,Int.mul_zero]
      · rw [W0 i hi o e,Int.zero_mul],qfX (fun i=>co W i*(su w (fun j=>en L i j*co rs j) - co ds i*B)),if_pos qn] at h1
  rcases Int.mul_eq_zero.mp h1 with y | y
  · exact Wq y
  · exact sq (by omega)
theorem qnq:∀ (k:Nat) (v:Nat→Rat),∃ (D:Int) (x:Nat→Int),D≠0∧∀ j,j<k→v j*(D:Rat)=(x j:Rat)
  | 0,_=>⟨1,fun _=>0,by decide,fun j h=>absurd h (Nat.not_lt_zero j)⟩
  | k+1,v=>by
    obtain ⟨D,x,D0,e⟩:=qnq k v
    have d:=(v k).den_nz
    have h:=Rat.num_divInt_den (v k)
    rw [Rat.divInt_eq_div] at h
    have d1:(((v k).den:Int):Rat)≠0:=qaY (by omega)
    refine ⟨D*((v k).den:Int),fun j=>if j=k then (v k).num*D else x j*((v k).den:Int),Int.mul_ne_zero D0 (by omega),fun j hj=>?_⟩
    show v j*((D*((v k).den:Int):Int):Rat)=(((if j=k then (v k).num*D else x j*((v k).den:Int)):Int):Rat)
    rw [Rat.intCast_mul]
    by_cases q:j=k
    · rw [if_pos q,q,Rat.intCast_mul];grind
    · rw [if_neg q,Rat.intCast_mul,← e j (by omega)];grind
theorem PL.at {A:List (List Nu)} {i:Nat} (h:i<A.length):PL A (fun j=>vr A i j):=⟨A.getD i [],by rw [List.getD_eq_getElem?_getD,List.getElem?_eq_getElem h];exact List.getElem_mem _,rfl⟩
theorem PL.get {A:List (List Nu)} {u:Nat→Rat} (h:PL A u):∃ i,i<A.length∧∀ j,u j=vr A i j:=by
  obtain ⟨l,hl,rfl⟩:=h
  obtain ⟨i,hi,rfl⟩:=List.mem_iff_getElem.mp hl
  exact ⟨i,hi,fun j=>by unfold vr;rw [List.getD_eq_getElem?_getD (l:=A),List.getElem?_eq_getElem hi];rfl⟩
section
variable {L:List (List Int)} {n w p:Nat} {os cs:List Nat} {M T:List (List Int)} {F:List (Nat×List Int×Int)}
theorem qmS (c:CorM L n w p os cs M T) (p2:2≤p) (hF:∀ q∈F,Fre L n w cs q.1 q.2.1 q.2.2) (eF:F.map (fun q=>q.1)=frC w cs) {i:Nat} (hi:i<n):∃ (e:Int) (z:Nat→Int),e≠0∧∀ j,j<w→e*en L i j=su os.length (fun t=>z t*en L (nth os t) j):=by
  obtain ⟨g,⟨i0,hi0,gi0⟩,ee⟩:=dep qqn os.length (os.length+1) (fun t s=>if t=os.length then en L i (nth cs s) else en L (nth os t) (nth cs s)) (by omega)
  have e1:∀ s,s<os.length→su os.length (fun t=>g t*en L (nth os t) (nth cs s))+g os.length*en L i (nth cs s)=0:=fun s hs=>by
    have h:su os.length (fun t=>g t*(if t=os.length then en L i (nth cs s) else en L (nth os t) (nth cs s)))+g os.length*(if os.length=os.length then en L i (nth cs s) else _)=0:=ee s hs
    rw [if_pos rfl,qag (g:=fun t=>g t*en L (nth os t) (nth cs s)) os.length fun t ht=>by rw [if_neg (by omega)]] at h
    exact h
  have g0:g os.length≠0:=fun z=>gi0 (by
    by_cases q:i0=os.length
    · rw [q];exact z
    · refine c.inv.flip.null p2 (x:=g) (fun s hs=>?_) i0 (by omega)
      have:=e1 s hs
      rw [z,Int.zero_mul,Int.add_zero] at this
      rw [qag (g:=fun t=>g t*en L (nth os t) (nth cs s)) os.length fun t ht=>by rw [c.eM t ht s hs,Int.mul_comm]]
      exact this)
  obtain ⟨W,hW⟩:∃ W:List Int,W=(List.range n).map fun i'=>su os.length (fun t=>g t*dl (nth os t) i')+g os.length*dl i i':=⟨_,rfl⟩
  have cW:∀ i',i'<n→co W i'=su os.length (fun t=>g t*dl (nth os t) i')+g os.length*dl i i':=fun i' h=>by
    show W.getD i' 0=_
    rw [hW,qfn _ _ h]
  have sW:∀ f:Nat→Int,su n (fun i'=>co W i'*f i')=su os.length (fun t=>g t*f (nth os t))+g os.length*f i:=fun f=>by
    rw [qag (g:=fun i'=>su os.length (fun t=>g t*dl (nth os t) i')*f i'+g os.length*(dl i i'*f i')) n fun i' h=>by rw [cW i' h];grind,qel,qaK,qff f hi,qfD (fun t ht=>c.ol _ (qaC ht)) g f]
  refine ⟨g os.length,fun t=>- g t,g0,fun j hj=>?_⟩
  have h:=qii (W:=W) c hF eF (fun s hs=>by rw [sW fun i=>en L i (nth cs s)];exact e1 s hs) hj
  rw [sW fun i=>en L i j] at h
  rw [qag (g:=fun t=>(-1)*(g t*en L (nth os t) j)) os.length fun t _=>by grind,qaK]
  omega
theorem qmT (c:CorM L n w p os cs M T) (p2:2≤p):Inde w os.length fun t j=>((en L (nth os t) j:Int):Rat):=fun v h t ht=>by
  obtain ⟨D,x,D0,e⟩:=qnq os.length v
  have x0:∀ t,t<os.length→x t=0:=c.inv.flip.null p2 (x:=x) fun s hs=>by
    refine qc2 ?_
    have:=congrArg (fun y:Rat=>y*(D:Rat)) (h (nth cs s) (c.cl _ (qaC (by have:=c.lc;omega))))
    simp only [← qaI] at this
    rw [qdl,qag (g:=fun t=>v t*((en L (nth os t) (nth cs s):Int):Rat)*(D:Rat)) os.length fun t ht=>by rw [Rat.intCast_mul,← e t ht,c.eM t ht s hs];grind,this]
    grind
  have:=e t ht
  rw [x0 t ht] at this
  exact (domQ.mul (show v t*(D:Rat)=0 from this)).resolve_right (qaY D0)
theorem qkr (c:CorM L n w p os cs M T) (p2:2≤p) (R:Rect L n w) (bL:BdL 1710 L) (w1:w≤10) {q:Nat} {f:List Int} {D:Int} (fr:Fre L n w cs q f D):NuOk (os.length*1715+1) (f.map fun z=>qbQ z D):=by
  have lc:=c.lc
  have cnd:cs.Nodup:=c.cu.imp fun h=>Nat.ne_of_lt h
  have k10:os.length≤10:=by have:=qdL c.cu c.cl;omega
  have en_bd:∀ i j,i<n→j<w→(en L i j).natAbs≤2 ^ 1710:=fun i j hi hj=>by
    have m:L.getD i []∈L:=by rw [List.getD_eq_getElem?_getD,List.getElem?_eq_getElem (by have:=R.1;omega)];exact List.getElem_mem _
    exact Nat.le_of_lt (bL _ m _ (qa7 (by rw [R.2 _ m];exact hj)))
  obtain ⟨x,D',D0',DX,xX,xs⟩:=c.inv.small (A:=2 ^ 1710) (b:=fun t=>- en L (nth os t) q) p2 (fun t ht s hs=>by rw [c.eM t ht s hs];exact en_bd _ _ (c.ol _ (qaC ht)) (c.cl _ (qaC (by omega)))) (fun t ht=>by rw [Int.natAbs_neg];exact en_bd _ _ (c.ol _ (qaC ht)) fr.qw) (Nat.one_le_two_pow) rfl
  have Xb:∀ z:Int,(z.natAbs)≤(2*((os.length+1)*2 ^ 1710)) ^ os.length→Bd (os.length*1715+1) z:=fun z hz=>by
    have h1:2*((os.length+1)*2 ^ 1710)≤2 ^ 1715:=by
      have:2*((os.length+1)*2 ^ 1710)=(2*(os.length+1))*2 ^ 1710:=by grind
      rw [this,show (2:Nat) ^ 1715=2 ^ 5*2 ^ 1710 from (Nat.pow_add 2 5 1710)]
      exact Nat.mul_le_mul_right _ (by omega)
    have h2:=Nat.pow_le_pow_left h1 os.length
    rw [← Nat.pow_mul,Nat.mul_comm 1715] at h2
    exact Nat.lt_of_le_of_lt (Nat.le_trans hz h2) (Nat.pow_lt_pow_right (by decide) (by omega))
  have d0:=fr.d0
  have fs:∀ t,t<os.length→su os.length (fun s=>en M t s*co f (nth cs s)) = - en L (nth os t) q*D:=fun t ht=>by
    have h:=fr.sol _ (c.ol _ (qaC ht))
    rw [qmO (d:=os.length) (c:=nth cs) (q:=q) (f:=co f) (fun j=>en L (nth os t) j) (fun s hs=>c.cl _ (qaC (by omega))) (fun s t hs ht e=>qe8 cnd (by omega) (by omega) e) fr.qw (fun s hs e=>fr.qc (by rw [← e];exact qaC (by omega))) (fun j hj h1 h2=>fr.zer j hj (fun jc=>by
      obtain ⟨s,hs,e⟩:=qbq jc
      exact h1 s (by omega) e) h2),fr.one] at h
    rw [qag (g:=fun s=>en L (nth os t) (nth cs s)*co f (nth cs s)) os.length fun s hs=>by rw [c.eM t ht s hs]]
    rw [Int.neg_mul];omega
  have eq:∀ s,s<os.length→x s*D=co f (nth cs s)*D':=fun s hs=>by
    have:=c.inv.null p2 (x:=fun s=>x s*D - co f (nth cs s)*D') (fun t ht=>by
      rw [qag (g:=fun s=>en M t s*x s*D - en M t s*co f (nth cs s)*D') os.length fun s _=>by grind,qem,qaI,qaI,xs t ht,fs t ht];grind) s hs
    omega
  have dn:D≠0:=by omega
  have dn':D'≠0:=by omega
  have red:∀ z z':Int,z'*D=z*D'→qbQ z D=qbQ z' D':=fun z z' h=>qlm (qej dn) (qej dn') (by
    rw [qfB dn,qfB dn']
    have a:=qaY dn
    have b:=qaY dn'
    have h:(z':Rat)*(D:Rat)=(z:Rat)*(D':Rat):=by rw [← Rat.intCast_mul,← Rat.intCast_mul,h]
    grind)
  have bD:Bd (os.length*1715+1) D':=Xb D' (by omega)
  have key:∀ j,j<w→∃ z:Int,qbQ (co f j) D=qbQ z D'∧Bd (os.length*1715+1) z:=fun j hj=>by
    by_cases jc:j∈cs
    · obtain ⟨s,hs,rfl⟩:=qbq jc
      exact ⟨x s,red _ _ (eq s (by omega)),Xb _ (xX s)⟩
    · by_cases jq:j=q
      · exact ⟨D',red _ _ (by rw [jq,fr.one,Int.mul_comm]),bD⟩
      · exact ⟨0,red _ _ (by rw [fr.zer j hj jc jq];omega),qfV _⟩
  have all:∀ r∈f.map (fun z=>qbQ z D),Nb (os.length*1715+1) r:=fun r hr=>by
    obtain ⟨z,hz,rfl⟩:=List.mem_map.mp hr
    obtain ⟨j,hj,rfl⟩:=List.mem_iff_getElem.mp hz
    have e:f[j]=co f j:=by unfold co;rw [List.getD_eq_getElem?_getD,List.getElem?_eq_getElem hj];rfl
    obtain ⟨z,ez,bz⟩:=key j (by have:=fr.lf;omega)
    rw [e,ez]
    exact ⟨qej dn',qiH dn' bz bD⟩
  exact ⟨fun r hr=>(all r hr).1,fun r hr=>(all r hr).2⟩
end
theorem qij (w:Nat) (cs:List Nat):(frC w cs).Nodup:=List.Pairwise.filter _ List.nodup_range
theorem frC_mem {w:Nat} {cs:List Nat} {j:Nat}:j∈frC w cs↔j<w∧j∉cs:=by unfold frC;rw [List.mem_filter,List.mem_range];exact and_congr_right fun _=>⟨of_decide_eq_true,decide_eq_true⟩
theorem qoj {w:Nat} {cs:List Nat} (cu:cs.Nodup) (cl:∀ j∈cs,j<w):cs.length+(frC w cs).length=w:=by
  have h:(cs++frC w cs).Perm (List.range w):=(List.perm_ext_iff_of_nodup (List.nodup_append.mpr ⟨cu,qij w cs,fun a ha b hb e=>(frC_mem.mp hb).2 (e ▸ ha)⟩) List.nodup_range).mpr fun j=>by
    rw [List.mem_append,frC_mem,List.mem_range]
    exact ⟨fun h=>h.elim (cl j) fun z=>z.1,fun h=>Classical.byCases (fun z:j∈cs=>.inl z) fun z=>.inr ⟨h,z⟩⟩
  have:=h.length_eq
  rw [List.length_append,List.length_range] at this
  exact this
section
variable {H:Hp} {A:List (List Nu)} {B:List Nu} {n w:Nat} {ln sd du:Addr} {ls:List (List Nu)} {L:List (List Int)} {ds:List Int} {p:Nat} {os cs:List Nat} {M T:List (List Int)}
theorem qqq {F:List (Nat×List Int×Int)} (E:Eqs H A B n w ln sd du ls L ds) (lA:A.length=n) (c:CorM L n w p os cs M T) (p2:2≤p) (hF:∀ q∈F,Fre L n w cs q.1 q.2.1 q.2.2) (eF:F.map (fun q=>q.1)=frC w cs):Rk w (PL A) os.length:=by
  obtain ⟨m,hm⟩:∃ m:Nat→Rat,∀ i,m i=((qea (ls.getD i []):Int):Rat):=⟨_,fun _=>rfl⟩
  have m0:∀ i,i<n→m i≠0:=fun i hi=>by rw [hm];exact (E.bt hi).2
  have eL:∀ i,i<n→∀ j,j<w→((en L i j:Int):Rat)=vr A i j*m i:=fun i hi j hj=>by rw [hm];exact E.eL i hi j hj
  have ol:∀ t,t<os.length→nth os t<n:=fun t ht=>c.ol _ (qaC ht)
  refine ⟨fun t j=>vr A (nth os t) j,fun v h t ht=>?_,fun t ht=>.of 1 (PL.at (i:=nth os t) (by have:=ol t ht;omega)) fun j _=>(Rat.one_mul _).symm,fun u hu=>?_⟩
  · have:=qmT c p2 (fun t=>v t / m (nth os t)) (fun j hj=>by
      rw [qag (g:=fun t=>v t*vr A (nth os t) j) os.length fun t ht=>by
        show v t / m (nth os t)*((en L (nth os t) j:Int):Rat)=_
        rw [eL _ (ol t ht) j hj]
        have:=m0 _ (ol t ht)
        grind]
      exact h j hj) t ht
    have q:=m0 _ (ol t ht)
    grind
  · obtain ⟨i,hi,eu⟩:=hu.get
    have hi:i<n:=by omega
    obtain ⟨e,z,e0,ez⟩:=qmS c p2 hF eF hi
    have ce:=qaY e0
    have mi:=m0 i hi
    refine ⟨fun t=>(z t:Rat)*m (nth os t) / ((e:Rat)*m i),fun j hj=>?_⟩
    have h1:(e:Rat)*(vr A i j*m i)=su os.length fun t=>(z t:Rat)*m (nth os t)*vr A (nth os t) j:=by
      rw [← eL i hi j hj,← Rat.intCast_mul,ez j hj,qdl]
      exact qag os.length fun t ht=>by rw [Rat.intCast_mul,eL _ (ol t ht) j hj];grind
    rw [eu,qag (g:=fun t=>(z t:Rat)*m (nth os t)*vr A (nth os t) j*((e:Rat)*m i)⁻¹) os.length fun t _=>by grind,qaI,← h1]
    grind
theorem qqr {F:List (Nat×List Int×Int)} (hF:∀ q∈F,Fre L n w cs q.1 q.2.1 q.2.2) (eF:F.map (fun q=>q.1)=frC w cs):Rk w (PL (F.map fun q=>q.2.1.map fun z=>qbQ z q.2.2)) (F.map fun q=>q.2.1.map fun z=>qbQ z q.2.2).length:=by
  obtain ⟨G,hG⟩:∃ G,G=F.map fun q:Nat×List Int×Int=>q.2.1.map fun z=>qbQ z q.2.2:=⟨_,rfl⟩
  rw [← hG]
  have lG:G.length=F.length:=by rw [hG,List.length_map]
  have at':∀ u,u<F.length→∃ q,F[u]?=some q∧Fre L n w cs q.1 q.2.1 q.2.2∧(frC w cs)[u]?=some q.1∧∀ j,j<w→vr G u j=((co q.2.1 j:Int):Rat) / ((q.2.2:Int):Rat):=fun u hu=>by
    have f:=hF _ (List.getElem_mem hu)
    refine ⟨F[u],List.getElem?_eq_getElem hu,f,by rw [← eF,List.getElem?_map,List.getElem?_eq_getElem hu];rfl,fun j hj=>?_⟩
    unfold vr
    rw [show G.getD u []=F[u].2.1.map fun z=>qbQ z F[u].2.2 by rw [hG,List.getD_eq_getElem?_getD,List.getElem?_map,List.getElem?_eq_getElem hu];rfl]
    exact qjD (Int.ne_of_gt f.d0) (by have:=f.lf;omega)
  refine ⟨fun u j=>vr G u j,fun v h u hu=>?_,fun u hu=>.of 1 (PL.at hu) fun j _=>(Rat.one_mul _).symm,fun x hx=>?_⟩
  · obtain ⟨q,_,f,eq,vq⟩:=at' u (by omega)
    have:=h q.1 f.qw
    rw [qag (g:=fun t=>v t*dl t u) G.length fun t ht=>by
      obtain ⟨q',_,f',eq',vq'⟩:=at' t (by omega)
      show v t*vr G t q.1=v t*dl t u
      rw [vq' q.1 f.qw]
      unfold dl
      by_cases e:t=u
      · rw [if_pos e]
        rw [e,eq] at eq'
        have e1:q.1=q'.1:=by injection eq'
        rw [e1,f'.one]
        have:=qaY (Int.ne_of_gt f'.d0)
        grind
      · rw [if_neg e,f'.zer q.1 f.qw f.qc fun z=>e ?_]
        · have:=qaY (Int.ne_of_gt f'.d0)
          show v t*(((0:Int):Rat) / _)=v t*0
          grind
        · rw [z,← eq'] at eq
          exact (List.getElem?_inj (List.getElem?_eq_some_iff.mp eq').1 (qij w cs)).mp eq.symm,qfX v,if_pos hu] at this
    exact this
  · obtain ⟨i,hi,e⟩:=hx.get
    refine ⟨fun t=>dl i t,fun j hj=>?_⟩
    rw [qff (fun t=>vr G t j) hi];exact e j
theorem qpX {H':Hp} {gs:List V} {F:List (Nat×List Int×Int)} (E:Eqs H A B n w ln sd du ls L ds) (lA:A.length=n) (c:CorM L n w p os cs M T) (p2:2≤p) (w1:w≤10) (hF:FRs H' L n w cs gs F) (eF:F.map (fun q=>q.1)=frC w cs):Wh A w (F.map fun q=>q.2.1.map fun z=>qbQ z q.2.2):=by
  have cnd:cs.Nodup:=c.cu.imp fun h=>Nat.ne_of_lt h
  have lF:F.length=(frC w cs).length:=by rw [← eF,List.length_map]
  refine ⟨os.length,?_,qqq E lA c p2 hF.get eF,qqr hF.get eF,fun l hl=>?_⟩
  · rw [List.length_map,lF,← c.lc];exact qoj cnd c.cl
  · obtain ⟨q,hq,rfl⟩:=List.mem_map.mp hl
    exact qkr c p2 E.rL E.bS w1 (hF.get q hq)
end
theorem qok {C:Addr} {sp:Sp} {E:XK} {ta tb:TE} {σ:L2.St} {H:Hp} {Q:VK} (h:ta σ H fun u H1=>tb σ H1 fun v H2=>∀ x dx,H2 x=none→H2 dx=none→dx≠x→sp (.ref x::([u,v]++[])) (upd (upd H2 dx (.own x)) x (.ins C dx [])) (fun y H3=>y=.non∧Q (.ref x) H3) E):qjW C sp [] E (qab ta (qab tb qao)) σ H Q:=h
theorem qlZ {K:W.Frag} (hC:ClsOk K (qbo K)) {vs:List V} {H:Hp} {Q:VK} {E:XK} (h:qdn K vs H Q E):qju K { nx:=fun _ H'=>Q .non H',rt:=Q } (L2.start ["rows", "due", "lines", "sides", "dues", "core", "frees", "solution", "row", "place", "side", "weights", "wholes"] vs) H:=by
  obtain ⟨a,b,xs,ys,A,B,n,w,rfl,ha,hb,hA,hB,lA,lB,rA,nw,n1,w1,ok,okA,kT,kN⟩:=h
  refine qoh ha hb hA hB lA lB rA n1 w1 ok okA fun ln sd du ls L ds H1 s1 E1=>?_
  have R:=E1.rL
  have bL:=E1.bL
  obtain ⟨D,d0,dD,rank⟩:=qkq R bL w1
  obtain ⟨g,pg,g31,g61,gD⟩:=qic d0 dD
  have e31:=qpj
  have e127:=qoi
  have g45:g<2 ^ 45000:=Nat.lt_trans g61 (Nat.pow_lt_pow_right (by decide) (by decide))
  have bg:∀ p:Nat,p=qlD∨p≤g→p<2 ^ 130:=fun p hp=>by omega
  have frees:∀ {x y z m t:Addr} {p:Nat} {os cs:List Nat} {M T:List (List Int)} {H':Hp} {Q':VK},Same H1 H'→Cor (qbo K) H' x L n w p os cs M T y z m t→Pr p→p<2 ^ 130→(∀ v H2,Same H' H2→FrO H2 L n w os cs v→Q' v H2)→qca K [.ref sd,.ref x] H' Q' E0:=fun {x y z m t p os cs M T H' Q'} s c pp pb k=>
    ⟨sd,x,y,z,m,t,L,M,T,n,w,p,os,cs,rfl,E1.hs.tp s,R,nw,n1,w1,bL,pp.two,bdP pb (by decide),c,fun H2 s2 no=>k _ H2 s2 (.inl ⟨rfl,no⟩),fun r xs F H2 s2 hr hF eF=>k _ H2 s2 (.inr ⟨r,xs,F,rfl,hr,hF,eF⟩)⟩
  refine qaz (show qjW _ _ _ _ _ _ _ _ from ⟨_,rfl,?_⟩)
  show ∀ x dx,H1 x=none→H1 dx=none→dx≠x→qa5 K (.ref x::([.ref sd,.int 170141183460469231731687303715884105727]++[])) _ _ _
  rw [show (170141183460469231731687303715884105727:Int)=(qlD:Int) by rw [e127];rfl]
  refine qlY (Q:=fun v H'=>qe0 K { nx:=fun _ H'=>Q .non H',rt:=Q } [some (.ref a),some (.ref b),some (.ref ln),some (.ref sd),some (.ref du),some v,none,none,none,none,none,none,none] H') E1.hs R (by omega) (by omega) pr127' (bdP (bg _ (.inl rfl)) (by decide)) fun x os cs M T y z m t H2 s2 c2=>?_
  show qe0 K _ _ _
  refine qdk (qaf rfl (qaf rfl (frees s2 c2 pr127' (bg _ (.inl rfl)) fun v H3 s3 f3=>?_)))
  show qgP K _ _ _
  refine qfz (qbZ (fun mm σ H'=>∃ (x y z m t:Addr) (p:Nat) (os cs:List Nat) (M T:List (List Int)) (v:V),σ=[some (.ref a),some (.ref b),some (.ref ln),some (.ref sd),some (.ref du),some (.ref x),some v,none,none,none,none,none,none]∧Same H1 H'∧Cor (qbo K) H' x L n w p os cs M T y z m t∧Pr p∧(p=qlD∧mm=g+1∨p≠qlD∧p31≤p∧p≤g∧mm=g - p)∧FrO H' L n w os cs v) (g+1) ⟨x,y,z,m,t,qlD,os,cs,M,T,v,rfl,s2.trans s3,c2.tp s3,pr127',.inl ⟨rfl,rfl⟩,f3⟩ ?_)
  rintro mm σ H4 ⟨x,y,z,m,t,p,os,cs,M,T,v,rfl,s4,c4,pp,hp,f4⟩
  obtain ⟨dx,fs,hx4,fo⟩:=c4.at'
  have c:=c4.c
  have pb:p<2 ^ 130:=bg p (by rcases hp with q | q;exact .inl q.1;exact .inr q.2.2.1)
  refine ⟨_,rfl,rfl,_,rfl,qbr (fun q=>?_) (fun q=>?_)⟩
  · -- another prime
    have no:qjs L n w os:=by
      rcases f4 with ⟨_,h⟩ | ⟨r,_,_,e,_⟩
      · exact h
      · rw [e] at q;cases of_decide_eq_true q
    have pg':p≠g:=fun e=>by
      have:=Classical.byContradiction fun nd=>rank p os cs M T c pp nd no
      exact gD (by rw [← e];exact this)
    refine ⟨_,fun _ _ h=>h,?_⟩
    show qep K _ _ _
    refine qaz (qok (qaf rfl (qfr (qcY (qaf rfl ⟨x,qbo K,dx,fs,_,rfl,hx4,hC.cl,hC.a1,fo.f1,p,g,rfl,pg,?_,g45,by omega,fun p' pp' hp' p'g=>?_⟩)))))
    · rcases hp with q | q
      · exact .inl q.1
      · exact .inr (by omega)
    show ∀ x dx,H4 x=none→H4 dx=none→dx≠x→qa5 K (.ref x::([.ref sd,.int (p':Int)]++[])) _ _ _
    have pb':=bg p' (.inr p'g)
    refine qlY (Q:=fun v H'=>qc3 K _ [some (.ref a),some (.ref b),some (.ref ln),some (.ref sd),some (.ref du),some v,some _,none,none,none,none,none,none] H') (E1.hs.tp s4) R (by omega) (by omega) pp' (bdP pb' (by decide)) fun x os cs M T y z m t H5 s5 c5=>?_
    show qc3 K _ _ _
    refine qfe (qaO (qaf rfl (qaf rfl (frees (s4.trans s5) c5 pp' pb' fun v H6 s6 f6=>⟨g - p',?_,x,y,z,m,t,p',os,cs,M,T,v,rfl,(s4.trans s5).trans s6,c5.tp s6,pp',.inr ⟨by omega,?_,p'g,rfl⟩,f6⟩))))
    · rcases hp with q | q <;> rcases hp' with r | r <;> omega
    · rcases hp' with r | r
      · omega
      · rcases hp with q | q
        · exact absurd q.1 r.1
        · omega
  · -- solved by this one
    have fr:∃ r xs F,v=.ref r∧H4 r=some (.lst xs)∧FRs H4 L n w cs xs F∧F.map (fun q=>q.1)=frC w cs:=by
      rcases f4 with ⟨e,_⟩ | h
      · exact absurd (decide_eq_true e) q
      · exact h
    obtain ⟨fr,gs,F,rfl,hfr,hF,eF⟩:=fr
    clear q f4
    have E4:=E1.tp s4
    have lc:=c.lc
    have ol:=c.ol
    have cl:=c.cl
    have dw:os.length≤10:=by have:=qdL c.cu c.cl;omega
    have cnd:cs.Nodup:=c.cu.imp fun h=>Nat.ne_of_lt h
    have ldn:=E4.ld
    show qgO K _ _ _
    refine qaz (qmC (qcY (qaf rfl ⟨x,qbo K,dx,fs,_,rfl,hx4,hC.cl,hC.a4,fo.f4,qcY (qaf rfl ⟨x,qbo K,dx,fs,_,rfl,hx4,hC.cl,hC.a5,fo.f5,qaO (qaf rfl (qcY (qaf rfl ⟨x,qbo K,dx,fs,_,rfl,hx4,hC.cl,hC.a2,fo.f2,du,y,ds,os,rfl,E4.hd,c4.hy,fun i hi=>by rw [ldn];exact ol i hi,by omega,fun pk hpk=>?_⟩)))⟩)⟩)))
    obtain ⟨bs,hbs⟩:∃ bs,bs=os.map (co ds):=⟨_,rfl⟩
    rw [← hbs]
    have lbs:bs.length=os.length:=by rw [hbs,List.length_map]
    have cbs:∀ t,t<os.length→co bs t=co ds (nth os t):=fun t ht=>by
      show bs.getD t 0=_
      rw [hbs,List.getD_eq_getElem?_getD,List.getElem?_map,List.getElem?_eq_getElem ht,qdF ht];rfl
    have bbs:∀ z∈bs,Bd 4000 z:=fun z hz=>by
      rw [hbs] at hz
      obtain ⟨o,ho,rfl⟩:=List.mem_map.mp hz
      exact E4.bd _ (qa7 (by rw [ldn];exact ol o ho))
    have s5:=qae hpk (.lst (bs.map V.int))
    generalize hH5:upd H4 pk (.lst (bs.map V.int))=H5 at *
    have hpk5:H5 pk=some (.lst (bs.map V.int)):=by rw [← hH5];exact qac
    have c5:=c4.tp s5
    refine qcY (qaf rfl ⟨x,qbo K,dx,fs,_,rfl,s5 _ _ hx4,hC.cl,hC.a1,fo.f1,m,t,pk,M,T,bs,os.length,p,rfl,c5.hm,c5.ht,hpk5,c.rM,c.rT,lbs,dw,pp.two,bdP pb (by decide),c.iT,c.inv,c.bM R bL,bbs,fun so yy zs B' H6 s6 hso hyy lzs B0 bB bzs sol=>?_⟩)
    have c6:=c5.tp s6
    have s46:=s5.trans s6
    have hx6:=s46 _ _ hx4
    have E6:=E4.tp s46
    have B0':B'≠0:=by omega
    show qgN K _ _ _
    refine qaz (qkc (qcY (qaf rfl ⟨x,qbo K,dx,fs,_,rfl,hx6,hC.cl,hC.a3,fo.f3,qd4 rfl hso (qaR _ _) (qfr (qaf rfl ⟨sd,L,n,w,rfl,E6.hs,R,nw,z,yy,cs,zs,w,rfl,c6.hz,hyy,by omega,cl,cnd,by omega,fun ro rs H7 s7 hro hrs lrs r1 r0=>?_⟩))⟩)))
    have s47:=s46.trans s7
    have E7:=E6.tp s7
    have c7:=c6.tp s7
    have brs:∀ z∈rs,Bd 250000 z:=fun zz hz=>by
      obtain ⟨j,hj,rfl⟩:=List.mem_iff_getElem.mp hz
      have e:rs[j]=co rs j:=by unfold co;rw [List.getD_eq_getElem?_getD,List.getElem?_eq_getElem hj];rfl
      rw [e]
      by_cases jc:j∈cs
      · obtain ⟨s,hs,rfl⟩:=qbq jc
        rw [r1 s hs];exact bzs _ (qa7 (by omega))
      · rw [r0 j fun s hs e=>jc (by rw [← e];exact qaC hs)];exact qfV _
    have lines:∀ o∈os,su w (fun j=>en L o j*co rs j)=co ds o*B':=fun o ho=>by
      obtain ⟨tt,ht,rfl⟩:=qbq ho
      rw [qpi (d:=os.length) (c:=nth cs) (f:=co rs) (fun j=>en L (nth os tt) j) (fun s hs=>cl _ (qaC (by omega))) (fun s t hs ht e=>qe8 cnd (by omega) (by omega) e) (fun j hj h1=>r0 j fun s hs=>h1 s (by omega)),qag (g:=fun s=>en M tt s*co zs s) os.length fun s hs=>by rw [c.eM tt ht s hs,r1 s (by omega)],sol tt ht,cbs tt ht]
    have hso7:=s7 _ _ hso
    obtain ⟨ws,hws,hwS⟩:=E7.hs
    have lws:=hwS.length
    have wn:ws.length=n:=by rw [lws,R.1]
    show qgM K _ _ _
    refine (show qef (qfR K _) _ _ _ _ _ from ⟨_,rfl,sd,rfl,⟨_,SqL.of hws⟩,ForJ.enumL (xs:=ws) (fun i σ H'=>∃ x9 x10,σ=[some (.ref a),some (.ref b),some (.ref ln),some (.ref sd),some (.ref du),some (.ref x),some (.ref fr),some (.ref so),some (.ref ro),x9,x10,none,none]∧Same H7 H'∧∀ t,t<i→su w (fun j=>en L t j*co rs j)=co ds t*B') ⟨none,none,rfl,Same.refl H7,fun t h=>absurd h (Nat.not_lt_zero t)⟩ ?_ ?_ ?_⟩)
    · rintro i σ H' _ ⟨x9,x10,rfl,s,_⟩
      exact SqL.of (s _ _ hws)
    · rintro i v q σ H8 hv ⟨x9,x10,rfl,s8,I⟩ hq
      have hi:i<ws.length:=(List.getElem?_eq_some_iff.mp hv).1
      have hin:i<n:=by omega
      obtain ⟨r,rr,rfl,er,hr⟩:=hwS.get hv
      have eg:L.getD i []=rr:=by rw [List.getD_eq_getElem?_getD,er];rfl
      have rm:=List.mem_of_getElem? er
      have s9:=qae hq (.tup [.int (i:Int),.ref r])
      refine ⟨q,_,rfl,qac,rfl,_,_,rfl,_,_,rfl,rfl,?_⟩
      generalize hH9:upd H8 q (.tup [.int (i:Int),.ref r])=H9 at *
      have s79:=s8.trans s9
      refine qie (qaV (qaD (qaO (qaf rfl (qaf rfl ⟨r,ro,rr,rs,w,rfl,s79 _ _ hr,s79 _ _ hrs,R.2 rr rm,lrs,by omega,fun z hz=>(bL rr rm z hz).mono (by decide),fun z hz=>(brs z hz).mono (by decide),fun HA sA=>?_⟩)))))
      have s7A:=s79.trans sA
      have dsi:co ds i∈ds:=qa7 (by omega)
      refine qaD (qaD (qaf rfl (qaf rfl (qdM (s7A _ _ E7.hd) (qbc (qcB (by omega))) (qd4 rfl (s7A _ _ hso7) (qaQ _ _) ⟨_,_,rfl,rfl,qf9 (E4.bd _ dsi) bB,rfl,_,rfl,qbr (fun q=>?_) (fun q=>?_)⟩)))))
      · -- none
        have ne:su w (fun j=>en L i j*co rs j)≠co ds i*B':=by
          have q:su w (fun i=>co rr i*co rs i)≠co ds i*B':=by simpa using q
          unfold en
          rw [eg];exact q
        have io:i∉os:=fun h=>ne (lines i h)
        show qes K _ _ _
        refine qiJ (qaf rfl (qaf rfl (qaf rfl ⟨sd,x,y,z,m,t,L,M,T,n,w,p,os,cs,i,rfl,E7.hs.tp s7A,R,n1,w1,bL,pp.two,bdP pb (by decide),c7.tp s7A,hin,io,fun wr wu W BW HB sB hwr hwu lW BW0 bBW bW Wi W0 zc=>?_⟩)))
        have s7B:=s7A.trans sB
        have BWn:BW≠0:=by omega
        obtain ⟨zl,hzl,hCL⟩:=(E7.tp s7B).hl
        have lzl:=hCL.length
        have lls:=E7.ll
        obtain ⟨wh,hwh⟩:∃ wh:List Int,wh=(List.range n).map fun i=>co W i*qea (ls.getD i []):=⟨_,rfl⟩
        have lwh:wh.length=n:=by rw [hwh,List.length_map,List.length_range]
        show qer K _ _ _
        refine qaz (qdE (qd4 rfl hwr (qaR _ _) ⟨_,rfl,wu,ln,rfl,⟨_,SqL.of hwu⟩,⟨_,SqL.of hzl⟩,CompJ.zip (xs:=W.map V.int) (ys:=zl) (by rw [List.length_map];omega) (fun i zs H'=>i≤n∧Same HB H'∧zs=(wh.take i).map V.int) ⟨Nat.zero_le _,Same.refl HB,rfl⟩ ?_ ?_ ?_⟩))
        · rintro i zs H' ⟨hi,s,rfl⟩
          exact ⟨by rw [List.length_map];omega,sz (by rw [List.length_map,List.length_take];omega),SqL.of (s _ _ hwu),SqL.of (s _ _ hzl)⟩
        · rintro i v u zs H' q hv hu ⟨_,s,rfl⟩ hq
          have hi:i<W.length:=by have:=(List.getElem?_eq_some_iff.mp hv).1;rw [List.length_map] at this;exact this
          rw [qcB hi] at hv
          cases hv
          obtain ⟨r,c',l,rfl,el,hr,_⟩:=hCL.get hu
          have gl:ls.getD i []=l:=by rw [List.getD_eq_getElem?_getD,el];rfl
          have bl:=E7.b0 l (List.mem_of_getElem? el)
          have s2:=qae hq (.tup [.int (co W i),.ref r])
          refine ⟨q,_,rfl,qac,rfl,_,_,rfl,_,_,rfl,rfl,?_⟩
          refine qaD (qaf rfl (qd4 rfl (s2 _ _ (s _ _ hr)) (qaQ _ _) ⟨_,_,rfl,rfl,qf9 (bW _ (qa7 hi)) bl.2,by omega,s.trans s2,?_⟩))
          have e0:wh[i]?=some (co W i*qea l):=by rw [hwh,List.getElem?_map,List.getElem?_range (by omega),← gl];rfl
          rw [qaS V.int e0]
        rintro zs' HC ⟨_,sC,rfl⟩ wl hwl
        rw [List.length_map,lW,show wh.take n=wh by rw [← lwh,List.take_length]]
        have sD:=qae hwl (.lst (wh.map V.int))
        generalize hHD:upd HC wl (.lst (wh.map V.int))=HD at *
        have hwlD:HD wl=some (.lst (wh.map V.int)):=by rw [← hHD];exact qac
        have sBD:=sC.trans sD
        have bwh:∀ z∈wh,Bd 260000 z:=fun z hz=>by
          rw [hwh] at hz
          obtain ⟨i,hi,rfl⟩:=List.mem_map.mp hz
          have hi:=List.mem_range.mp hi
          exact ((bW _ (qa7 (by omega))).mul (E7.b0 _ (E7.bt hi).1).2).mono (by decide)
        show qeq K _ _ _
        refine qa3 (qek (r_c (qaO (qaf rfl (qd4 rfl (sBD _ _ hwr) (qaQ _ _) ⟨wl,wh,BW,rfl,hwlD,by omega,BWn,fun u us HE sE hu hN=>⟨qmc,fun rr hrr=>?_⟩⟩)))))
        have sF:=qae hrr (.tup [.str "none", .ref u])
        have zW:∀ j,j<w→su n (fun i=>co W i*en L i j)=0:=fun j hj=>qii c hF.get eF zc hj
        have cwh:∀ i,i<n→((co wh i:Int):Rat)=((co W i:Int):Rat)*((qea (ls.getD i []):Int):Rat):=fun i hi=>by
          have:co wh i=co W i*qea (ls.getD i []):=by
            show wh.getD i 0=_
            rw [hwh,qfn _ _ hi]
          rw [this,Rat.intCast_mul]
        have bw0:=qaY BWn
        have sall:Same H (upd HE rr (.tup [.str "none", .ref u])):=(s1.trans (s4.trans (s47.trans (s7B.trans (sBD.trans (sE.trans sF))))))
        refine kN rr u us (wh.map fun z=>qbQ z BW) _ (by omega) sall qac (sF _ _ hu) (hN.tp (tpS sF)) (by rw [List.length_map];exact lwh) (qlX BWn bwh (bBW.mono (by decide))) (fun j hj=>?_) ?_
        · have e:su n (fun i=>vr A i j*vl (wh.map fun z=>qbQ z BW) i)*((BW:Int):Rat)=((su n (fun i=>co W i*en L i j):Int):Rat):=by
            rw [← qaI,qdl]
            refine qag n fun i hi=>?_
            rw [qjD BWn (by omega),cwh i hi,Rat.intCast_mul,E7.eL i hi j hj]
            grind
          rw [zW j hj] at e
          exact (domQ.mul (show _*((BW:Int):Rat)=0 from e)).resolve_right bw0
        · have e:su n (fun i=>vl B i*vl (wh.map fun z=>qbQ z BW) i)*((BW:Int):Rat)=((su n (fun i=>co W i*co ds i):Int):Rat):=by
            rw [← qaI,qdl]
            refine qag n fun i hi=>?_
            rw [qjD BWn (by omega),cwh i hi,Rat.intCast_mul,E7.ed i hi]
            grind
          intro z0
          rw [z0,Rat.zero_mul] at e
          exact qmR (B:=B') (i:=0) zW hin (by rw [Wi];exact BWn) W0 lines ne io (qc2 e.symm)
      · have q:su w (fun i=>co rr i*co rs i)=co ds i*B':=by simpa using q
        refine ⟨_,_,rfl,s7A,fun t ht=>?_⟩
        by_cases e:t=i
        · unfold en
          rw [e,eg];exact q
        · exact I t (by omega)
    · rintro σ H8 ⟨x9,x10,rfl,s8,I⟩
      rw [wn] at I
      show qgL K _ _ _
      have s48:=s47.trans s8
      refine qa3 (qjn (r_c (qaO (qaf rfl (qd4 rfl (s8 _ _ hso7) (qaQ _ _) ⟨ro,rs,B',rfl,s8 _ _ hrs,by omega,B0',fun u us H9 s9 hu hN=>qd5 (qaf rfl ⟨fr,gs,rfl,s9 _ _ (s48 _ _ hfr),fun ft hft=>⟨qo1,fun rr hrr=>?_⟩⟩)⟩)))))
      have sA:=qae hft (.tup gs)
      have sB:=qae hrr (.tup [.str "told", .ref u,.ref ft])
      have sAB:=sA.trans sB
      refine kT rr u ft us gs (rs.map fun z=>qbQ z B') _ _ (s1.trans (s4.trans (s48.trans (s9.trans sAB)))) qac (sAB _ _ hu) (hN.tp (tpS sAB)) (by rw [List.length_map];exact lrs) (qlX B0' brs bB) (fun i hi=>E7.told hi B0' lrs (I i hi)) (sB _ _ qac) ((TFs.of E7 lA hF).tp (tpS (s48.trans (s9.trans sAB)))) (qpX E7 lA c pp.two w1 hF eF)
theorem qmU (h:qhx K vs H Q E):qoa K { nx:=fun _ H'=>Q .non H',rt:=Q } (L2.start ["_law_script", "_law_k", "_law_cell", "_law_plain"] vs) H:=by
  obtain ⟨s,ns,k,rfl,hS,k0,k1,q⟩:=h
  have fin:∀ (cell:Int) (pl:Bool),qbm (qfy (qab (tOp qcM (tCB qkw (qab (qah 2) qao)) (tCB qiC (qab (qah 3) qao))) (qab (tCB qkw (qab (qah 2) qao)) (qab (tOp qcM (tC (.int 7)) (qah 1)) qao)))) { nx:=fun _ H'=>Q .non H',rt:=Q } [some (.ref s),some (.int k),some (.int cell),some (.bl pl)] H:=fun cell pl=>by
    have c0:0≤(if cell<0 then -cell else cell):=by split <;> omega
    refine ⟨_,rfl,_,rfl,_,rfl,pl,rfl,_,_,rfl,rfl,qpw (by cases pl <;> decide) (by cases pl <;> decide),_,rfl,_,rfl,_,rfl,_,_,rfl,rfl,qp8 (by decide) (by decide),qo1,fun p hp=>q p _ hp (qae hp _) ⟨_,_,_,qac,Int.mul_nonneg c0 (by cases pl <;> decide),c0,by omega,by omega⟩⟩
  have mid:∀ cell:Int,qat (qaA (qme (tOp iGt (tCB (qj3 K) (qab (qah 0) qao)) (tC (.int 0))) (tOp rEq (tOp qgE (tOp (gS K) (qah 0) (tC (.int 0))) (tC (.int 2))) (tC (.int 0)))) (qai 3)) (qbm (qfy (qab (tOp qcM (tCB qkw (qab (qah 2) qao)) (tCB qiC (qab (qah 3) qao))) (qab (tCB qkw (qab (qah 2) qao)) (qab (tOp qcM (tC (.int 7)) (qah 1)) qao))))) { nx:=fun _ H'=>Q .non H',rt:=Q } [some (.ref s),some (.int k),some (.int cell),none] H:=fun cell=>by
    refine ⟨_,rfl,_,_,rfl,hS,_,_,rfl,rfl,_,rfl,qbr (fun c=>?_) (fun c=>?_)⟩
    · have c:=of_decide_eq_true c
      rw [List.length_map] at c
      obtain ⟨w,hw⟩:=qjv (ns:=ns) (Int.le_refl 0) (by omega)
      exact ⟨_,rfl,_,_,_,_,rfl,rfl,hS,hw,_,_,rfl,rfl,show (0:Int)<2 by decide,rfl,fin cell _⟩
    · exact fin cell false
  refine qaz (r_c (qjo ⟨_,rfl,_,rfl,_,_,rfl,hS,_,_,rfl,rfl,_,rfl,qbr (fun c=>?_) (fun _=>mid 0)⟩))
  have c:=of_decide_eq_true c
  rw [List.length_map] at c
  obtain ⟨v,hv⟩:=qjv (ns:=ns) k0 c
  exact ⟨_,rfl,_,rfl,_,_,_,_,rfl,rfl,hS,hv,mid v⟩
theorem ql0 (h:qaE K vs H Q E):qmH K { nx:=fun _ H'=>Q .non H',rt:=Q } (L2.start ["_law_box_here", "_law_many", "_law_digit", "_law_m"] vs) H:=by
  obtain ⟨p,m,n,rfl,⟨a,b,c,hp,ha,hb,hc,hcn⟩,hn,hm,hm2,k⟩:=h
  have L:∀ {x y:Int},0≤x→x<4611686018427387904→IntMulOk x y:=fun h1 h2=>qp8 (by omega) (by omega)
  have Z:∀ (x:Int) {y:Int},0<y→y<4611686018427387904→0≤x % y∧x % y<4611686018427387904:=fun x y h1 h2=>⟨Int.emod_nonneg x (by omega),by have:=Int.emod_lt_of_pos x h1;omega⟩
  refine qjo (qaV (qaD (qnd rfl hp (qb1 _ _ _) (r_c ⟨_,_,rfl,rfl,_,rfl,qbr (fun c0=>?_) (fun c0=>?_)⟩))))
  · show qeA K _ _ _
    refine qaz (qaD (qnd rfl hp (qb1 _ _ _) (qaf rfl ⟨_,_,rfl,rfl,hm,?_⟩)))
    show qez K _ _ _
    refine qfd (qaD (qnd rfl hp (qb1 _ _ _) (qaf rfl ⟨_,_,rfl,rfl,hm,_,rfl,p,_,_,0,rfl,rfl,hp,rfl,?_⟩)))
    show qey K _ _ _
    exact qa3 (qaf rfl (k _ _ (Int.emod_nonneg _ (by omega)) (Int.emod_lt_of_pos _ hm) ⟨_,_,_,qac,Int.ediv_nonneg ha (by omega),hb,hc,by omega⟩ Kp.upd))
  · refine qkm ?_
    show qgX K _ _ _
    refine qfd (qaD (qnd rfl hp (qaZ _ _ _) (r_c ⟨_,_,rfl,rfl,_,rfl,p,_,_,2,rfl,rfl,hp,rfl,?_⟩)))
    have kp:Kp p H (upd H p (.lst (([V.int a,.int b,.int c]:List V).set 2 (.int (c+1))))):=Kp.upd
    generalize hH1:upd H p (.lst (([V.int a,.int b,.int c]:List V).set 2 (.int (c+1))))=H1 at *
    have hp1:H1 p=some (.lst [.int a,.int b,.int (c+1)]):=by rw [← hH1];exact qac
    show qgW K _ _ _
    refine qaz (qaD (qaD (qnd rfl hp1 (qeW _ _ _) (r_c ⟨_,_,rfl,rfl,show (0:Int)<2305843009213693951 by decide,r_c ⟨_,_,rfl,rfl,?_⟩⟩))))
    have z1:=Z b (y:=2305843009213693951) (by decide) (by decide)
    generalize b % 2305843009213693951=m1 at *
    show qgV K _ _ _
    refine qaz (qaD (qaD (qaf rfl (qaD (r_c (qaD (qnd rfl hp1 (qaZ _ _ _) (qnd rfl hp1 (qaZ _ _ _) ⟨_,_,rfl,rfl,L (by omega) (by omega),_,_,rfl,rfl,_,_,rfl,rfl,?_,r_c ⟨_,_,rfl,rfl,show (0:Int)<2305843009213693921 by decide,?_⟩⟩))))))))
    · have h1:(c+1)*(c+1)≤2000000*2000000:=Int.le_trans (Int.mul_le_mul_of_nonneg_left (by omega) (by omega)) (Int.mul_le_mul_of_nonneg_right (by omega) (by omega))
      have h2:0≤(c+1)*(c+1):=Int.mul_nonneg (by omega) (by omega)
      exact qpw (by omega) (by omega)
    have z2:=Z ((m1+3)*(48271+(c+1)*(c+1))) (y:=2305843009213693921) (by decide) (by decide)
    show qgU K _ (List.set _ 3 (some (.int ((m1+3)*(48271+(c+1)*(c+1)) % 2305843009213693921)))) _
    generalize (m1+3)*(48271+(c+1)*(c+1)) % 2305843009213693921=m2 at *
    refine qaz (qaD (qaD (qaf rfl (qaD (qaD (qaD (qaf rfl (r_c ⟨_,_,rfl,rfl,show (0:Int)<1000003 by decide,qaD (qnd rfl hp1 (qaZ _ _ _) (r_c ⟨_,_,rfl,rfl,qpw (by decide) (by decide),_,_,rfl,rfl,r_c ⟨_,_,rfl,rfl,_,_,rfl,rfl,L z2.1 z2.2,r_c ⟨_,_,rfl,rfl,show (0:Int)<2305843009213693907 by decide,?_⟩⟩⟩))⟩))))))))
    have z3:=Z (m2*(m2 % 1000003+(c+1)*69621+11)) (y:=2305843009213693907) (by decide) (by decide)
    show qgT K _ (List.set _ 3 (some (.int (m2*(m2 % 1000003+(c+1)*69621+11) % 2305843009213693907)))) _
    generalize m2*(m2 % 1000003+(c+1)*69621+11) % 2305843009213693907=m3 at *
    have D:∀ x y:Int,0<y→y<100→qp2 x y:=fun x y h1 h2=>⟨h1,bdc (Nat.lt_of_lt_of_le (show y.natAbs<2 ^ 7 by omega) (qgb (by decide)))⟩
    refine qa3 (qaD (qaD (qaD (qaD (qaf rfl (qaf rfl ⟨_,_,rfl,rfl,L z3.1 z3.2,r_c ⟨_,_,rfl,rfl,D _ _ (by decide) (by decide),qaD (qaf rfl (r_c ⟨_,_,rfl,rfl,D _ _ (by decide) (by decide),_,_,rfl,rfl,qaf rfl ⟨_,_,rfl,rfl,hm,?_⟩⟩))⟩⟩))))))
    exact k _ _ (Int.emod_nonneg _ (by omega)) (Int.emod_lt_of_pos _ hm) ⟨_,_,_,hp1,ha,hb,by omega,by omega⟩ kp
theorem r_nx' {D:Ends} {t:TS} {σ:L2.St} {H:Hp} (h:t D σ H):t D σ H:=h
theorem qiV (h:qa6 K vs H Q E):qkh K { nx:=fun _ H'=>Q .non H',rt:=Q } (L2.start ["_law_top", "_law_bottom", "_law_one", "_law_other"] vs) H:=by
  obtain ⟨a,b,rfl,hb,q⟩:=h
  refine (show qor _ _ _ _ _ _ from ⟨_,rfl,_,rfl,_,rfl,_,_,rfl,?_⟩)
  refine qfz (qbZ (fun m σ H'=>∃ x y:Int,σ=[some (.int a),some (.int b),some (.int x),some (.int y)]∧H'=H∧0≤x∧0≤y∧Int.gcd x y=Int.gcd a b∧m=y.natAbs) b.natAbs ⟨(if a<0 then -a else a),b,rfl,rfl,by split <;> omega,by omega,?_,rfl⟩ ?_)
  · split
    · rw [Int.neg_gcd]
    · rfl
  rintro m σ H' ⟨x,y,rfl,rfl,x0,y0,hg,rfl⟩
  refine qaV (qaD (qaf rfl (r_c ⟨_,_,rfl,rfl,_,rfl,qbr (fun c=>?_) (fun c=>?_)⟩)))
  · have c:0<y:=of_decide_eq_true c
    have z1:=Int.emod_nonneg x (show y≠0 by omega)
    have z2:=Int.emod_lt_of_pos x c
    refine ⟨_,fun _ _ h=>h,?_⟩
    refine (show qor _ _ _ _ _ _ from ⟨_,rfl,_,rfl,_,rfl,_,_,rfl,rfl,c,_,_,rfl,(x % y).natAbs,by omega,y,x % y,rfl,rfl,y0,z1,?_,rfl⟩)
    rw [qhj x y0];exact hg
  · have c:¬ 0<y:=fun z=>c (decide_eq_true z)
    have e:y=0:=by omega
    subst e
    have ex:x=((Int.gcd a b:Nat):Int):=by rw [← hg,Int.gcd_zero_right];omega
    have g0:0<x:=by
      have:Int.gcd a b≠0:=fun z=>by have:=Int.gcd_eq_zero_iff.mp z;omega
      omega
    refine r_nx' (qa3 (qek (qaD (qaf rfl (qaf rfl ⟨_,_,rfl,rfl,show x≠0 by omega,qaD (qaf rfl (qaf rfl ⟨_,_,rfl,rfl,show x≠0 by omega,qmc,fun p hp=>?_⟩))⟩)))))
    show Q (.ref p) (upd H' p (.tup [.int (a.fdiv x),.int (b.fdiv x)]))
    rw [Int.fdiv_eq_ediv_of_nonneg _ (by omega),Int.fdiv_eq_ediv_of_nonneg _ (by omega),ex]
    exact q p hp
theorem Box.same {H H':Hp} {p:Addr} {n:Int} (h:Box H p n) (k:Same H H'):Box H' p n:=by
  obtain ⟨a,b,c,h1,h2⟩:=h
  exact ⟨a,b,c,k _ _ h1,h2⟩
theorem Box.mono {H:Hp} {p:Addr} {m n:Int} (h:Box H p m) (hn:m≤n):Box H p n:=by
  obtain ⟨a,b,c,h1,h2,h3,h4,h5⟩:=h
  exact ⟨a,b,c,h1,h2,h3,h4,by omega⟩
theorem qpk (z:Int):Low z 1:=⟨by decide,by rw [Int.gcd_one_right]⟩
theorem bdL {b:Nat} {z:Int} (A:Nat) (h:z.natAbs≤A) (hA:A<2 ^ b):Bd b z:=Nat.lt_of_le_of_lt h hA
theorem qjE {b:Nat} {x y:Int} (y0:0<y) (hx:Bd b x) (hy:Bd b y):Nb b (red x y):=by
  have e:qbQ x y=red x y:=by unfold qbQ;rw [if_neg (by omega)]
  have:=qiH (Int.ne_of_gt y0) hx hy
  rw [e] at this
  exact ⟨qeX y0,this⟩
theorem qiW (h:qcb K vs H Q E):qki K { nx:=fun _ H'=>Q .non H',rt:=Q } (L2.start ["_law_box_here", "_law_kind"] vs) H:=by
  obtain ⟨p,n,rfl,hB,n1,k⟩:=h
  refine qdk (qaf rfl (r_c ⟨p,5,n,rfl,hB,by omega,by decide,by decide,fun d H1 d0 d1 B1 k1=>?_⟩))
  have two:∀ (u v:Int) (H2 H3:Hp) (r:Addr) (q:Nu),Nb 40 q→Box H3 p (n+3)→Kp p H H3→isN H3 (.ref r) q→Q (.ref r) H3:=fun u v H2 H3 r q nb B kk hq=>k r q H3 hq nb B kk
  have fin1:∀ (t:Int) (H2:Hp),Box H2 p (n+2)→Kp p H H2→t.natAbs≤9→[V.int t,V.int 1].length≤sizeLine∧∀ r,H2 r=none→Q (.ref r) (upd H2 r (.tup [.int t,.int 1])):=fun t H2 B2 k2 tb=>⟨qmc,fun r hr=>by
    have s:=qae hr (.tup [.int t,.int 1])
    exact k r (t,1) _ ⟨r,rfl,qac⟩ ⟨qpk t,bdL 9 tb (by decide),bdL 1 (show (1:Int).natAbs≤1 by decide) (by decide)⟩ ((B2.same s).mono (by omega)) (k2.same s)⟩
  have fin2:∀ (t d:Int) (H2:Hp),Box H2 p (n+3)→Kp p H H2→0<d→Bd 40 t→Bd 40 d→qa6 K [.int t,.int d] H2 Q E0:=fun t d H2 B2 k2 d0 bt bd=>⟨t,d,rfl,d0,fun r hr=>by
    have s:=qae hr (.tup [.int (red t d).1,.int (red t d).2])
    exact k r (red t d) _ ⟨r,rfl,qac⟩ (qjE d0 bt bd) (B2.same s) (k2.same s)⟩
  show qfm K _ _ _
  refine qjo (qaV (qaD (qaf rfl (r_c ⟨rfl,_,rfl,qbr (fun _=>?_) (fun _=>?_)⟩))))
  · exact qa3 (qek (qaD (qaO (qaf rfl (r_c ⟨p,19,n+1,rfl,B1,by omega,by decide,by decide,fun e H2 e0 e1 B2 k2=>r_c ⟨_,_,rfl,rfl,r_c (fin1 _ H2 (B2.mono (by omega)) (k1.trans k2) (by omega))⟩⟩)))))
  refine qkm ?_
  show qfl K _ _ _
  refine qjo (qaV (qaD (qaf rfl (r_c ⟨rfl,_,rfl,qbr (fun _=>?_) (fun _=>?_)⟩))))
  · refine qa3 (qaO (qaD (qaO (qaf rfl (r_c ⟨p,19,n+1,rfl,B1,by omega,by decide,by decide,fun e H2 e0 e1 B2 k2=>r_c ⟨_,_,rfl,rfl,qaD (r_c (qaO (qaf rfl (r_c ⟨p,6,n+1+1,rfl,B2,by omega,by decide,by decide,fun f H3 f0 f1 B3 k3=>⟨_,_,rfl,rfl,fin2 _ _ H3 (B3.mono (by omega)) ((k1.trans k2).trans k3) (by omega) (bdL 9 (by omega) (by decide)) (bdL 6 (by omega) (by decide))⟩⟩))))⟩⟩)))))
  refine qkm ?_
  show qfk K _ _ _
  refine qjo (qaV (qaD (qaf rfl (r_c ⟨rfl,_,rfl,qbr (fun _=>?_) (fun _=>?_)⟩))))
  · refine qa3 (qaO (qaD (qaO (qaf rfl (r_c ⟨p,1999999999999,n+1,rfl,B1,by omega,by decide,by decide,fun e H2 e0 e1 B2 k2=>r_c ⟨_,_,rfl,rfl,qaD (r_c (qaO (qaf rfl (r_c ⟨p,999999999999,n+1+1,rfl,B2,by omega,by decide,by decide,fun f H3 f0 f1 B3 k3=>⟨_,_,rfl,rfl,fin2 _ _ H3 (B3.mono (by omega)) ((k1.trans k2).trans k3) (by omega) (bdL 999999999999 (by omega) (by decide)) (bdL 999999999999 (by omega) (by decide))⟩⟩))))⟩⟩)))))
  refine qkm ?_
  show qfj K _ _ _
  exact qa3 (qek (qaD (qaO (qaf rfl (r_c ⟨p,3,n+1,rfl,B1,by omega,by decide,by decide,fun e H2 e0 e1 B2 k2=>r_c ⟨_,_,rfl,rfl,r_c (fin1 _ H2 (B2.mono (by omega)) (k1.trans k2) (by omega))⟩⟩)))))
theorem qks (h:qcS K vs H Q E):qlK K { nx:=fun _ H'=>Q .non H',rt:=Q } (L2.start ["_law_box_here"] vs) H:=by
  obtain ⟨p,n,rfl,hB,n1,k⟩:=h
  refine qa3 (qaO (qaD (qaO (qaf rfl (r_c ⟨p,7,n,rfl,hB,by omega,by decide,by decide,fun d H1 d0 d1 B1 k1=>r_c ⟨_,_,rfl,rfl,qaD (r_c (qaD (qaO (qaf rfl (r_c ⟨p,4,n+1,rfl,B1,by omega,by decide,by decide,fun e H2 e0 e1 B2 k2=>r_c ⟨_,_,rfl,rfl,⟨by decide,bdc (Nat.lt_of_lt_of_le (show (2:Int).natAbs<2 ^ 7 by decide) (qgb (by decide)))⟩,_,_,rfl,rfl,_,_,rfl,by omega,fun r hr=>?_⟩⟩)))))⟩⟩)))))
  have s:=qae hr (.tup [.int (red (d - 3) (1+e / 2)).1,.int (red (d - 3) (1+e / 2)).2])
  exact k r _ _ ⟨r,rfl,qac⟩ (qjE (by omega) (bdL 3 (by omega) (by decide)) (bdL 2 (by omega) (by decide))) ((B2.same s).mono (by omega)) ((k1.trans k2).same s)
theorem qmV (h:qjt nadd K vs H Q E):qob K { nx:=fun _ H'=>Q .non H',rt:=Q } (L2.start ["_law_one", "_law_other"] vs) H:=by
  obtain ⟨x,y,q,r,rfl,⟨_,e1,hx⟩,⟨_,e2,hy⟩,nq,nr,k⟩:=h
  cases e1;cases e2
  exact qa3 (qaO (qaD (qaD (qd4 rfl hx (qaR _ _) (qd4 rfl hy (qaQ _ _) ⟨_,_,rfl,rfl,qf9 nq.2.1 nr.2.2,qaD (qd4 rfl hy (qaR _ _) (qd4 rfl hx (qaQ _ _) ⟨_,_,rfl,rfl,qf9 nr.2.1 nq.2.2,_,_,rfl,rfl,qaD (qd4 rfl hx (qaQ _ _) (qd4 rfl hy (qaQ _ _) ⟨_,_,rfl,rfl,qf9 nq.2.2 nr.2.2,_,_,rfl,Int.mul_pos nq.1.pos nr.1.pos,k⟩))⟩))⟩)))))
theorem qik (h:qjt nmul K vs H Q E):qiO K { nx:=fun _ H'=>Q .non H',rt:=Q } (L2.start ["_law_one", "_law_other"] vs) H:=by
  obtain ⟨x,y,q,r,rfl,⟨_,e1,hx⟩,⟨_,e2,hy⟩,nq,nr,k⟩:=h
  cases e1;cases e2
  exact qa3 (qaO (qaD (qd4 rfl hx (qaR _ _) (qd4 rfl hy (qaR _ _) ⟨_,_,rfl,rfl,qf9 nq.2.1 nr.2.1,qaD (qd4 rfl hx (qaQ _ _) (qd4 rfl hy (qaQ _ _) ⟨_,_,rfl,rfl,qf9 nq.2.2 nr.2.2,_,_,rfl,Int.mul_pos nq.1.pos nr.1.pos,k⟩))⟩))))
theorem qhE {a b:Nat} {q r:Nu} (hq:Nb a q) (hr:Nb b r):Nb (a+b+1) (nadd q r):=by
  refine qjE (Int.mul_pos hq.1.pos hr.1.pos) ?_ ((hq.2.2.mul hr.2.2).mono (by omega))
  have h1:=hq.2.1.mul hr.2.2
  have h2:=hr.2.1.mul hq.2.2
  rw [Nat.add_comm b a] at h2
  exact h1.add h2
theorem qge {a b:Nat} {q r:Nu} (hq:Nb a q) (hr:Nb b r):Nb (a+b) (nmul q r):=qjE (Int.mul_pos hq.1.pos hr.1.pos) (hq.2.1.mul hr.2.1) (hq.2.2.mul hr.2.2)
theorem qhF {n m:Int}:(red n m).2∣m:=by
  unfold red
  exact Int.ediv_dvd_of_dvd (Int.gcd_dvd_right n m)
theorem Nb.mono {a b:Nat} {q:Nu} (h:Nb a q) (ab:a≤b):Nb b q:=⟨h.1,h.2.1.mono ab,h.2.2.mono ab⟩
theorem NuOk.at {b:Nat} {l:List Nu} (h:NuOk b l) {q:Nu} (hq:q∈l):Nb b q:=⟨h.1 q hq,h.2 q hq⟩
theorem ql1 {l:List Nu} {j:Nat} {q:Nu} (h:l[j]?=some q):vl l j=val q∧l.getD j (0,1)=q:=by
  have e:l.getD j (0,1)=q:=by rw [List.getD_eq_getElem?_getD,h];rfl
  unfold vl
  rw [e];exact ⟨rfl,rfl⟩
theorem qil (h:qcn K vs H Q E):qiP K { nx:=fun _ H'=>Q .non H',rt:=Q } (L2.start ["_law_row", "_law_weights", "_law_total", "_law_one", "_law_weight"] vs) H:=by
  obtain ⟨a,b,xs,ys,l,m,k,bl,bm,rfl,ha,hb,hl,hm,ll,lm,ol,om,bb,k1,kk⟩:=h
  have lx:=hl.length
  have ly:=hm.length
  refine qaz (qek (r_c (r_c ⟨qmc,fun t ht=>?_⟩)))
  have s1:=qae ht (.tup [.int 0,.int 1])
  have hb1:upd H t (.tup [.int 0,.int 1]) b=some (.tup ys)∨upd H t (.tup [.int 0,.int 1]) b=some (.lst ys):=hb.imp (s1 _ _) (s1 _ _)
  have keep:∀ H',Same H H'→H' a=upd H t (.tup [.int 0,.int 1]) a∧H' b=upd H t (.tup [.int 0,.int 1]) b:=fun H' s=>by
    refine ⟨by rw [s _ _ ha,s1 _ _ ha],?_⟩
    rcases hb with h | h
    · rw [s _ _ h,s1 _ _ h]
    · rw [s _ _ h,s1 _ _ h]
  refine qqm (a:=a) (b:=b) (xs:=xs) (ys:=ys) rfl rfl (s1 _ _ ha) hb1 (by omega) (fun i σ H'=>i≤k∧∃ (t:Addr) (q:Nu) (x3 x4:Option V),σ=[some (.ref a),some (.ref b),some (.ref t),x3,x4]∧Same H H'∧isN H' (.ref t) q∧Nb ((bl+bm+1)*i+1) q∧val q=su i (fun j=>vl l j*vl m j)∧q.2∣pbt i l m) ⟨Nat.zero_le _,t,(0,1),none,none,rfl,s1,⟨t,rfl,qac⟩,⟨qpk 0,qfV _,bdL 1 (show (1:Int).natAbs≤1 by decide) (Nat.one_lt_two_pow (by omega))⟩,by show ((0:Int):Rat) / ((1:Int):Rat)=0;grind,Int.dvd_refl 1⟩ ?_ ?_ ?_
  · rintro i σ H' ⟨_,t,q,x3,x4,rfl,s,_⟩
    exact keep H' s
  · rintro i x y p σ H' hx hy ⟨_,t,q,x3,x4,rfl,s,ht,nb,vq,dq⟩ hp
    have hi:i<k:=by have:=(List.getElem?_eq_some_iff.mp hx).1;omega
    obtain ⟨u,eu,px,rfl,hpx⟩:=hl.get hx
    obtain ⟨v,ev,py,rfl,hpy⟩:=hm.get hy
    have nu:=ol.at (List.mem_of_getElem? eu)
    have nv:=om.at (List.mem_of_getElem? ev)
    have s2:=qae hp (.tup [.ref px,.ref py])
    refine ⟨p,_,rfl,qac,rfl,_,_,rfl,_,_,rfl,rfl,?_⟩
    generalize hH2:upd H' p (.tup [.ref px,.ref py])=H2 at *
    have s12:=s.trans s2
    have c1:(bl+bm+1)*i≤1000001*20:=Nat.mul_le_mul (by omega) (by omega)
    refine qfe (qaO (qaf rfl (qaO (qaf rfl (qaf rfl ⟨px,py,u,v,rfl,⟨px,rfl,s12 _ _ hpx⟩,⟨py,rfl,s12 _ _ hpy⟩,nu.mono (by omega),nv.mono (by omega),fun z hz=>?_⟩)))))
    have s3:=qae hz (.tup [.int (nmul u v).1,.int (nmul u v).2])
    have npr:=qge nu nv
    refine ⟨t,z,q,nmul u v,rfl,(ht.tp (tpS s2)).tp (tpS s3),⟨z,rfl,qac⟩,nb.mono (by omega),npr.mono (by omega),fun w hw=>?_⟩
    have s4:=qae hw (.tup [.int (nadd q (nmul u v)).1,.int (nadd q (nmul u v)).2])
    refine ⟨by omega,w,nadd q (nmul u v),_,_,rfl,(s12.trans s3).trans s4,⟨w,rfl,qac⟩,(qhE nb npr).mono (by rw [Nat.mul_add];omega),?_,?_⟩
    · rw [qji nb.1.pos npr.1.pos,qht nu.1.pos nv.1.pos,vq]
      show _=su i _+vl l i*vl m i
      rw [(ql1 eu).1,(ql1 ev).1]
    · have d1:(nadd q (nmul u v)).2∣q.2*(nmul u v).2:=qhF
      have d2:(nmul u v).2∣u.2*v.2:=qhF
      refine Int.dvd_trans d1 ?_
      show _∣pd i _*((l.getD i (0,1)).2*(m.getD i (0,1)).2)
      rw [(ql1 eu).2,(ql1 ev).2]
      exact Int.mul_dvd_mul dq d2
  · rintro σ H' ⟨_,t,q,x3,x4,rfl,s,ht,nb,vq,dq⟩
    have e:xs.length=k:=by omega
    rw [e] at nb vq dq
    exact qa3 (qaf rfl (kk t q H' s ht nb vq dq))
theorem NRs.tp {H H':Hp} (s:Same H H'):∀ {xs:List V} {A:List (List Nu)},NRs H xs A→NRs H' xs A
  | [],[],_=>trivial
  | _::_,_::_,h=>⟨let ⟨a,zs,e,h1,h2⟩:=h.1;⟨a,zs,e,s _ _ h1,h2.tp (tpS s)⟩,NRs.tp s h.2⟩
  | [],_::_,h=>h.elim
  | _::_,[],h=>h.elim
section
variable {A:List (List Nu)} {B:List Nu} {n w:Nat}
end
noncomputable def rm2 (H:Hp) (p q:Addr):Hp:=fun b=>if b=p∨b=q then none else H b
theorem qcg {H:Hp} {p q:Addr}:Same (rm2 H p q) H:=fun b o h=>by
  unfold rm2 at h
  by_cases e:b=p∨b=q
  · rw [if_pos e] at h;cases h
  · rwa [if_neg e] at h
theorem qim {H:Hp} {p q b:Addr} {o:HO} (h:rm2 H p q b=some o):b≠p∧b≠q:=by
  unfold rm2 at h
  by_cases e:b=p∨b=q
  · rw [if_pos e] at h;cases h
  · exact ⟨fun z=>e (.inl z),fun z=>e (.inr z)⟩
theorem qg8 {H:Hp} {p q b:Addr} {o:HO} (h1:b≠p) (h2:b≠q) (h:H b=some o):rm2 H p q b=some o:=by unfold rm2;rw [if_neg fun z=>z.elim h1 h2];exact h
theorem qjF {H H':Hp} {p q:Addr} (k:∀ b o,b≠p→b≠q→H b=some o→H' b=some o):Same (rm2 H p q) (rm2 H' p q):=fun b o h=>qg8 (qim h).1 (qim h).2 (k b o (qim h).1 (qim h).2 (qcg _ _ h))
theorem Kp.off {p:Addr} {H H':Hp} (k:Kp p H H') (q:Addr):Same (rm2 H p q) (rm2 H' p q):=qjF fun b o h1 _ h=>k b o h1 h
theorem Box.kp {H H':Hp} {p q:Addr} {n:Int} (h:Box H p n) (k:Kp q H H') (e:p≠q):Box H' p n:=by
  obtain ⟨a,b,c,h1,h2⟩:=h
  exact ⟨a,b,c,k _ _ e h1,h2⟩
theorem Box.at {H:Hp} {p:Addr} {n:Int} (h:Box H p n):∃ xs,H p=some (.lst xs):=let ⟨_,_,_,h1,_⟩:=h;⟨_,h1⟩
theorem Box.tp {H H':Hp} {p:Addr} {n:Int} (h:Box H p n) (k:Kp p H H'):Tp H H':=let ⟨_,h1⟩:=h.at;Kp.tp k h1
theorem Box.ne {H:Hp} {p q:Addr} {n:Int} (h:Box H p n) (e:H q=none):q≠p:=let ⟨_,h1⟩:=h.at;(qaj h1 e).symm
theorem NuOk.snoc {b:Nat} {l:List Nu} {q:Nu} (h:NuOk b l) (hq:Nb b q):NuOk b (l++[q]):=
  ⟨fun r hr=>(List.mem_append.mp hr).elim (h.1 r) fun z=>by rw [List.mem_singleton.mp z];exact hq.1,fun r hr=>(List.mem_append.mp hr).elim (h.2 r) fun z=>by rw [List.mem_singleton.mp z];exact hq.2⟩
theorem NuOk.mono {a b:Nat} {l:List Nu} (h:NuOk a l) (ab:a≤b):NuOk b l:=⟨h.1,fun q hq=>⟨(h.2 q hq).1.mono ab,(h.2 q hq).2.mono ab⟩⟩
theorem NuOk.nil (b:Nat):NuOk b []:=⟨(fun _ h=>nomatch h),(fun _ h=>nomatch h)⟩
theorem qhG {H:Hp} {Q:VK} {σ:L2.St} {capt:List (Option Nat)} {sp:Sp} {tr:TE} {p:Addr} {u b:Nat} {n:Int} (htr:∀ R:VK,R (.int (u:Int)) H→tr σ H R) (hc:qb0 capt σ=[none,some (.ref p)]) (hB:Box H p n) (n1:n≤800000) (u1:u≤20)
    (hsp:∀ (H:Hp) (n:Int) (R:VK),Box H p n→n≤900000→(∀ (r:Addr) (q:Nu) (H':Hp),isN H' (.ref r) q→Nb b q→Box H' p (n+3)→Kp p H H'→R (.ref r) H')→sp [.ref p] H R E0)
    (k:∀ (ys:List V) (l:List Nu) (H':Hp),Nums H' ys l→l.length=u→NuOk b l→Box H' p (n+3*u)→Kp p H H'→∀ r,H' r=none→Q (.ref r) (upd H' r (.lst ys))) :
    qaG (qee (qab tr qao)) capt (qai 0) (qap sp [] E0 (qab (qah 1) qao)) σ H Q:=by
  refine qjz (htr _ ⟨(u:Int),rfl,by omega,by omega,?_⟩)
  rw [Int.toNat_natCast]
  refine CompJ.range (fun i ys H'=>i≤u∧∃ l,Nums H' ys l∧l.length=i∧NuOk b l∧Box H' p (n+3*i)∧Kp p H H') ⟨Nat.zero_le _,[],trivial,rfl,NuOk.nil b,by show Box H p (n+3*0);rw [Int.mul_zero,Int.add_zero];exact hB,fun _ _ _ h=>h⟩ ?_ ?_ ?_
  · rintro i ys H' ⟨hi,l,hN,ll,_⟩
    exact ⟨hi,sz (by rw [hN.length];omega)⟩
  · rintro i ys H' hi ⟨_,l,hN,ll,ol,hB',k'⟩
    rw [hc]
    refine qd6 (qfr (qaf rfl (hsp H' _ _ hB' (by omega) fun r q H2 hq nq B2 k2=>⟨hi,l++[q],?_,by rw [List.length_append,ll];rfl,ol.snoc nq,B2.mono (by omega),k'.trans k2⟩)))
    exact (hN.tp (hB'.tp k2)).append (Nums.one hq)
  · rintro ys H' ⟨_,l,hN,ll,ol,hB',k'⟩ r hr
    exact k ys l H' hN ll ol hB' k' r hr
theorem NRs.snoc {H:Hp} {a:Addr} {zs:List V} {l:List Nu} (h1:H a=some (.lst zs)) (h2:Nums H zs l):∀ {xs:List V} {A:List (List Nu)},NRs H xs A→NRs H (xs++[.ref a]) (A++[l])
  | [],[],_=>⟨⟨a,zs,rfl,h1,h2⟩,trivial⟩
  | _::_,_::_,h=>⟨h.1,NRs.snoc h1 h2 h.2⟩
  | [],_::_,h=>h.elim
  | _::_,[],h=>h.elim
noncomputable def fB (e:Nat):Nat→Nat
  | 0=>e
  | 1=>e
  | j+2=>fB e (j+1)+fB e j+1
theorem qpl (e:Nat):∀ j,e≤fB e j
  | 0=>Nat.le_refl _
  | 1=>Nat.le_refl _
  | j+2=>by have:=qpl e (j+1);show e≤fB e (j+1)+fB e j+1;omega
structure RwS (H H':Hp) (p rw:Addr) (n:Int) (xs:List V) (A:List (List Nu)) (e u j:Nat):Prop where
  s:Same H H'
  bx:Box H' p n
  pn:H p=none
  rn:H rw=none
  hr:H' rw=some (.lst xs)
  ne:p≠rw
  nr:NRs (rm2 H' p rw) xs A
  lA:A.length=j
  ok:∀ t,t<j→(A.getD t []).length=u∧NuOk (fB e t) (A.getD t [])
theorem RwS.kp {H H' H2:Hp} {p rw:Addr} {n n2:Int} {xs:List V} {A:List (List Nu)} {e u j:Nat} (I:RwS H H' p rw n xs A e u j) (k:Kp p H' H2) (b:Box H2 p n2):RwS H H2 p rw n2 xs A e u j:=
  ⟨fun b o h=>k b o (qaj h I.pn) (I.s b o h),b,I.pn,I.rn,k _ _ I.ne.symm I.hr,I.ne,I.nr.tp (k.off rw),I.lA,I.ok⟩
theorem RwS.new {H H':Hp} {p rw r:Addr} {n:Int} {xs:List V} {A:List (List Nu)} {e u j:Nat} {o:HO} (I:RwS H H' p rw n xs A e u j) (h:H' r=none):RwS H (upd H' r o) p rw n xs A e u j:=
  I.kp (Kp.of_same (qae h o)) (I.bx.same (qae h o))
theorem RwS.put {H H':Hp} {p rw r:Addr} {n:Int} {xs zs:List V} {A:List (List Nu)} {l:List Nu} {e u j:Nat} (I:RwS H H' p rw n xs A e u j) (hr:H' r=some (.lst zs)) (rp:r≠p) (rr:r≠rw) (hN:Nums H' zs l) (ll:l.length=u) (ol:NuOk (fB e j) l):RwS H (upd H' rw (.lst (xs++[.ref r]))) p rw n (xs++[.ref r]) (A++[l]) e u (j+1):=by
  have k:Kp rw H' (upd H' rw (.lst (xs++[.ref r]))):=Kp.upd
  have t:Tp H' (upd H' rw (.lst (xs++[.ref r]))):=Tp.updL I.hr
  have sm:Same (rm2 H' p rw) (rm2 (upd H' rw (.lst (xs++[.ref r]))) p rw):=qjF fun b o _ h2 h=>k b o h2 h
  have lA:=I.lA
  obtain ⟨bxs,hbx⟩:=I.bx.at
  refine ⟨fun b o h=>k b o (qaj h I.rn) (I.s b o h),I.bx.kp k I.ne,I.pn,I.rn,qac,I.ne,(I.nr.tp sm).snoc (qg8 rp rr (k _ _ rr hr)) ?_,by rw [List.length_append,lA];rfl,fun i hi=>?_⟩
  · refine (hN.tp t).tp fun b ys h=>qg8 ?_ ?_ h
    · exact fun z=>by rw [z,k _ _ I.ne hbx] at h;cases h
    · exact fun z=>by rw [z,qac] at h;cases h
  · by_cases q:i<j
    · rw [qeM (by omega)];exact I.ok i q
    · have:i=A.length:=by omega
      rw [this,qeN,lA];exact ⟨ll,ol⟩
theorem qjG {K:W.Frag} {p:Addr} (H:Hp) (n:Int) (R:VK) (hB:Box H p n) (n1:n≤900000) (k:∀ (r:Addr) (q:Nu) (H':Hp),isN H' (.ref r) q→Nb 2 q→Box H' p (n+3)→Kp p H H'→R (.ref r) H'):qcS K [.ref p] H R E0:=⟨p,n,rfl,hB,n1,k⟩
theorem qin {K:W.Frag} {p:Addr} (H:Hp) (n:Int) (R:VK) (hB:Box H p n) (n1:n≤900000) (k:∀ (r:Addr) (q:Nu) (H':Hp),isN H' (.ref r) q→Nb 40 q→Box H' p (n+3)→Kp p H H'→R (.ref r) H'):qcb K [.ref p] H R E0:=⟨p,n,rfl,hB,n1,k⟩
theorem qiX {K:W.Frag} {H H':Hp} {D:Ends} {s p rw r:Addr} {k most many:Int} {u e j:Nat} {n:Int} {xs zs:List V} {A:List (List Nu)} {l:List Nu} {x9 x10 x11:Option V} (I:RwS H H' p rw n xs A e u j) (n1:n≤500000) (j1:j≤10) (u1:u≤20) (e1:fB e j≤1000) (hr:H' r=some (.lst zs)) (rp:r≠p) (rr:r≠rw) (hN:Nums H' zs l) (ll:l.length=u) (ol:NuOk e l)
    (nx:∀ r n2 xs A H2,RwS H H2 p rw n2 xs A e u (j+1)→n2≤n+1→D.nx [some (.ref s),some (.int k),some (.ref p),some (.int most),some (.int many),some (.int (u:Int)),some (.ref rw),some (.int (j:Int)),some (.ref r),x9,x10,x11] H2) :
    qcy K D [some (.ref s),some (.int k),some (.ref p),some (.int most),some (.int many),some (.int (u:Int)),some (.ref rw),some (.int (j:Int)),some (.ref r),x9,x10,x11] H':=by
  have lx:=I.nr.length
  have lA:=I.lA
  have fin:∀ (r:Addr) (zs:List V) (l:List Nu) (n2:Int) (H2:Hp),RwS H H2 p rw n2 xs A e u j→n2≤n+1→H2 r=some (.lst zs)→r≠p→r≠rw→Nums H2 zs l→l.length=u→NuOk (fB e j) l→qcx K D [some (.ref s),some (.int k),some (.ref p),some (.int most),some (.int many),some (.int (u:Int)),some (.ref rw),some (.int (j:Int)),some (.ref r),x9,x10,x11] H2:=fun r zs l n2 H2 I2 b2 hr rp rr hN ll ol=>
    ⟨_,rfl,.inl ⟨rfl,_,SqL.of I2.hr⟩,_,rfl,rw,_,_,rfl,rfl,I2.hr,sz (by omega),nx r n2 _ _ _ (I2.put hr rp rr hN ll ol) b2⟩
  have ol':=ol.mono (qpl e j)
  refine qjo (show qiy _ _ _ _ _ from qaV (qaD (qaf rfl (r_c ⟨_,_,rfl,rfl,_,rfl,qbr (fun c=>?_) (fun _=>qbr (fun z=>by cases z) (fun _=>qkm (fin r zs l n H' I (by omega) hr rp rr hN ll ol')))⟩))))
  have c:(1:Int)<(j:Int):=of_decide_eq_true c
  obtain ⟨i,rfl⟩:∃ i,j=i+2:=⟨j - 2,by omega⟩
  refine qaV (qaD (qaO (qaf rfl (r_c ⟨p,3,n,rfl,I.bx,by omega,by decide,by decide,fun d H2 d0 d1 B2 k2=>r_c ⟨rfl,_,rfl,qbr (fun _=>?_) (fun _=>qkm ?_)⟩⟩))))
  · have I2:=I.kp k2 B2
    obtain ⟨v1,hv1⟩:∃ v,xs[i+1]?=some v:=⟨_,List.getElem?_eq_getElem (by omega)⟩
    obtain ⟨v2,hv2⟩:∃ v,xs[i]?=some v:=⟨_,List.getElem?_eq_getElem (by omega)⟩
    obtain ⟨a1,z1,l1,rfl,e1',h1,N1⟩:=I2.nr.get hv1
    obtain ⟨a2,z2,l2,rfl,e2',h2,N2⟩:=I2.nr.get hv2
    have o1:=I2.ok (i+1) (by omega)
    have o2:=I2.ok i (by omega)
    rw [show A.getD (i+1) []=l1 by rw [List.getD_eq_getElem?_getD,e1'];rfl] at o1
    rw [show A.getD i []=l2 by rw [List.getD_eq_getElem?_getD,e2'];rfl] at o2
    have fe:fB e (i+2)=fB e (i+1)+fB e i+1:=rfl
    have N1':=N1.tp (tpS qcg)
    have N2':=N2.tp (tpS qcg)
    have h1':=qcg _ _ h1
    have h2':=qcg _ _ h2
    have lz1:=N1.length
    have lz2:=N2.length
    refine qfe (qdE (qaD (qaf rfl (qaD (qaf rfl (r_c ⟨_,_,rfl,rfl,qdM I2.hr (qb6 (j:=i+1) (by omega) hv1) (qaD (qaf rfl (qaD (qaf rfl (r_c ⟨_,_,rfl,rfl,qdM I2.hr (qb6 (j:=i) (by omega) hv2) ⟨a1,a2,rfl,⟨_,SqL.of h1'⟩,⟨_,SqL.of h2'⟩,CompJ.zip (xs:=z1) (ys:=z2) (by omega) (fun t ys H3=>t≤z1.length∧Same H2 H3∧∃ m:List Nu,Nums H3 ys m∧m.length=t∧NuOk (fB e (i+2)) m) ⟨Nat.zero_le _,Same.refl H2,[],trivial,rfl,NuOk.nil _⟩ ?_ ?_ ?_⟩⟩)))))⟩))))))
    · rintro t ys H3 ⟨ht,s,m,hm,lm,_⟩
      exact ⟨ht,sz (by rw [hm.length];omega),SqL.of (s _ _ h1'),SqL.of (s _ _ h2')⟩
    · rintro t x y ys H3 q hx hy ⟨_,s,m,hm,lm,om⟩ hq
      have ht:t<z1.length:=(List.getElem?_eq_some_iff.mp hx).1
      obtain ⟨u1,eu,px,rfl,hpx⟩:=N1'.get hx
      obtain ⟨u2,ev,py,rfl,hpy⟩:=N2'.get hy
      have nu:=o1.2.at (List.mem_of_getElem? eu)
      have nv:=o2.2.at (List.mem_of_getElem? ev)
      have s3:=qae hq (.tup [.ref px,.ref py])
      refine ⟨q,_,rfl,qac,rfl,_,_,rfl,_,_,rfl,rfl,?_⟩
      have s23:=s.trans s3
      refine qaO (qaf rfl (qaf rfl ⟨px,py,u1,u2,rfl,⟨px,rfl,s23 _ _ hpx⟩,⟨py,rfl,s23 _ _ hpy⟩,nu.mono (by omega),nv.mono (by omega),fun z hz=>?_⟩))
      have s4:=qae hz (.tup [.int (nadd u1 u2).1,.int (nadd u1 u2).2])
      exact ⟨ht,s23.trans s4,m++[nadd u1 u2],((hm.tp (tpS s3)).tp (tpS s4)).append (Nums.one ⟨z,rfl,qac⟩),by rw [List.length_append,lm];rfl,om.snoc (qhE nu nv)⟩
    · rintro ys H3 ⟨_,s,m,hm,lm,om⟩ q hq
      have s4:=qae hq (.lst ys)
      have I3:=I2.kp (Kp.of_same s) (I2.bx.same s)
      exact fin q ys m _ _ (I3.new hq) (by omega) qac (I3.bx.ne hq) (qaj I3.hr hq).symm (hm.tp (tpS s4)) (by rw [lm,lz1];exact o1.1) om
  · have I2:=I.kp k2 B2
    exact fin r zs l _ H2 I2 (by omega) (k2 _ _ rp hr) rp rr (hN.tp (I.bx.tp k2)) ll ol'
theorem qol {K:W.Frag} {H H':Hp} {D:Ends} {s p rw:Addr} {k most many:Int} {u e j:Nat} {n:Int} {xs:List V} {A:List (List Nu)} {x8 x9 x10 x11:Option V} (I:RwS H H' p rw n xs A e u j) (n1:n≤400000) (j1:j≤10) (u1:u≤20) (e1:fB e j≤1000) (e2:2≤e) (e6:most=6→40≤e)
    (nx:∀ r n2 xs A H2,RwS H H2 p rw n2 xs A e u (j+1)→n2≤n+130→D.nx [some (.ref s),some (.int k),some (.ref p),some (.int most),some (.int many),some (.int (u:Int)),some (.ref rw),some (.int (j:Int)),some (.ref r),x9,x10,x11] H2) :
    qcA K D [some (.ref s),some (.int k),some (.ref p),some (.int most),some (.int many),some (.int (u:Int)),some (.ref rw),some (.int (j:Int)),x8,x9,x10,x11] H':=by
  refine qaz (qhG (u:=u) (fun R h=>qaf rfl h) rfl I.bx (by omega) u1 qjG fun ys l H2 hN ll ol B2 k2 r hr=>?_)
  have I2:=I.kp k2 B2
  have I3:=I2.new (o:=.lst ys) hr
  have s3:=qae hr (.lst ys)
  have rp:=I2.bx.ne hr
  have rr:=(qaj I2.hr hr).symm
  show qcz K _ _ _
  refine qjo (show qiy _ _ _ _ _ from qaV (qaD (qaf rfl (r_c ⟨rfl,_,rfl,qbr (fun c=>?_) (fun _=>qbr (fun z=>by cases z) (fun _=>qkm ?_))⟩))))
  · have c:most=6:=by simpa using c
    have e40:=e6 c
    refine qaV (qaD (qaO (qaf rfl (r_c ⟨p,4,_,rfl,I3.bx,by omega,by decide,by decide,fun d H4 d0 d1 B4 k4=>r_c ⟨rfl,_,rfl,qbr (fun _=>?_) (fun _=>qkm ?_)⟩⟩))))
    · have I4:=I3.kp k4 B4
      refine qfe (qhG (u:=u) (fun R h=>qaf rfl h) rfl I4.bx (by omega) u1 qin fun ys l H5 hN ll ol B5 k5 r hr=>?_)
      have I5:=I4.kp k5 B5
      exact qiX (I5.new hr) (by omega) j1 u1 e1 qac (I5.bx.ne hr) (qaj I5.hr hr).symm (hN.tp (tpS (qae hr _))) ll (ol.mono e40) fun r n2 xs A H2 I b=>nx r n2 xs A H2 I (by omega)
    · have I4:=I3.kp k4 B4
      exact qiX I4 (by omega) j1 u1 e1 (k4 _ _ rp qac) rp rr ((hN.tp (tpS s3)).tp (I3.bx.tp k4)) ll (ol.mono e2) fun r n2 xs A H2 I b=>nx r n2 xs A H2 I (by omega)
  · exact qiX I3 (by omega) j1 u1 e1 qac rp rr (hN.tp (tpS s3)) ll (ol.mono e2) fun r n2 xs A H2 I b=>nx r n2 xs A H2 I (by omega)
theorem qpm {a b k:Nat} {l m:List Nu} (hl:NuOk a l) (hm:NuOk b m) (ll:l.length=k) (lm:m.length=k):0<pbt k l m∧(∀ q∈l,q.2∣pbt k l m)∧Bd ((a+b)*k+1) (pbt k l m):=by
  have at':∀ j,j<k→Nb a (l.getD j (0,1))∧Nb b (m.getD j (0,1)):=fun j hj=>by
    refine ⟨hl.at ?_,hm.at ?_⟩
    · rw [List.getD_eq_getElem?_getD,List.getElem?_eq_getElem (by omega)];exact List.getElem_mem _
    · rw [List.getD_eq_getElem?_getD,List.getElem?_eq_getElem (by omega)];exact List.getElem_mem _
  have pos:∀ i,i≤k→0<pd i fun j=>(l.getD j (0,1)).2*(m.getD j (0,1)).2:=fun i=>by
    induction i with
    | zero=>intro _;exact Int.one_pos
    | succ i ih=>intro h;exact Int.mul_pos (ih (by omega)) (Int.mul_pos (at' i (by omega)).1.1.pos (at' i (by omega)).2.1.pos)
  refine ⟨pos k (Nat.le_refl _),fun q hq=>?_,?_⟩
  · obtain ⟨j,hj,rfl⟩:=List.mem_iff_getElem.mp hq
    have e:l.getD j (0,1)=l[j]:=by rw [List.getD_eq_getElem?_getD,List.getElem?_eq_getElem hj];rfl
    refine Int.dvd_trans ?_ (qlz (f:=fun j=>(l.getD j (0,1)).2*(m.getD j (0,1)).2) (s:=j) (by omega:j<k))
    rw [← e];exact ⟨_,rfl⟩
  · have h:=qn9 (f:=fun j=>(l.getD j (0,1)).2*(m.getD j (0,1)).2) (X:=2 ^ (a+b)) k fun j hj=>Nat.le_of_lt ((at' j hj).1.2.2.mul (at' j hj).2.2.2)
    rw [← Nat.pow_mul] at h
    exact Nat.lt_of_le_of_lt h (Nat.pow_lt_pow_right (by decide) (Nat.lt_succ_self _))
noncomputable def Du (l X:List Nu) (u c:Nat) (q:Nu):Prop:=Nb c q∧∃ t:Int,0<t∧Bd 3 t∧q.2∣pbt u l X*t
theorem qpY {A:List (List Nu)} {B X:List Nu} {n u R b c:Nat} (lA:A.length=n) (lB:B.length=n) (n1:n≤12) (u1:u≤10) (hA:∀ i,i<n→(A.getD i []).length=u∧NuOk R (A.getD i [])) (hX:NuOk b X) (lX:X.length=u) (R1:R≤1500) (c1:c≤1500) (s1:(R+b)*u+4≤1500) (hB:∀ i,i<n→Du (A.getD i []) X u c (B.getD i (0,1))):EqOk A B n (if n=0 then 0 else u):=by
  refine ⟨lA,lB,fun l hl=>?_,fun z=>if_pos z,by omega,by split <;> omega,fun i hi=>?_⟩
  · obtain ⟨i,hi,rfl⟩:=List.mem_iff_getElem.mp hl
    rw [if_neg (by omega),← (hA i (by omega)).1,List.getD_eq_getElem?_getD,List.getElem?_eq_getElem hi];rfl
  · obtain ⟨la,oa⟩:=hA i hi
    obtain ⟨nq,t,t0,bt,dq⟩:=hB i hi
    obtain ⟨p0,pd',pb⟩:=qpm oa hX la lX
    refine ⟨(oa.mono R1).snoc (nq.mono c1),pbt u (A.getD i []) X*t,⟨Int.mul_pos p0 t0,fun q hq=>?_⟩,(pb.mul bt).mono (by omega)⟩
    rcases List.mem_append.mp hq with z | z
    · exact Int.dvd_trans (pd' q z) ⟨t,rfl⟩
    · rw [List.mem_singleton.mp z];exact dq
theorem qmW {K:W.Frag} {H:Hp} {Q:VK} {σ:L2.St} {ia ib:Nat} {rw wl:Addr} {xs zs:List V} {A:List (List Nu)} {X:List Nu} {u R b:Nat} (ha:σ[ia]?=some (some (.ref rw))) (hc:qb0 [none,some ib] σ=[none,some (.ref wl)]) (hr:H rw=some (.lst xs)) (nr:NRs H xs A) (hw:H wl=some (.lst zs)) (hX:Nums H zs X) (lX:X.length=u) (oX:NuOk b X) (hA:∀ i,i<A.length→(A.getD i []).length=u∧NuOk R (A.getD i [])) (n1:A.length≤100) (u1:u≤20) (rb:R+b≤1000000)
    (k:∀ (ys:List V) (B:List Nu) (H':Hp),Same H H'→Nums H' ys B→B.length=A.length→(∀ i,i<A.length→(Nb ((R+b+1)*u+1) (B.getD i (0,1))∧(B.getD i (0,1)).2∣pbt u (A.getD i []) X)∧vl B i=su u fun j=>vr A i j*vl X j)→∀ r,H' r=none→Q (.ref r) (upd H' r (.lst ys))) :
    qaG (qbb K (qah ia)) [none,some ib] (qai 0) (qap (qcn K) [] E0 (qab (qah 0) (qab (qah 1) qao))) σ H Q:=by
  have lx:=nr.length
  refine qa0 (qaf ha ⟨rw,rfl,⟨_,SqL.of hr⟩,CompJ.lst (xs:=xs) (fun i ys H'=>i≤xs.length∧Same H H'∧∃ B:List Nu,Nums H' ys B∧B.length=i∧∀ t,t<i→(Nb ((R+b+1)*u+1) (B.getD t (0,1))∧(B.getD t (0,1)).2∣pbt u (A.getD t []) X)∧vl B t=su u fun j=>vr A t j*vl X j) ⟨Nat.zero_le _,Same.refl H,[],trivial,rfl,fun t h=>absurd h (Nat.not_lt_zero t)⟩ ?_ ?_ ?_⟩)
  · rintro i ys H' ⟨hi,s,B,hB,lB,_⟩
    exact ⟨hi,sz (by rw [hB.length];omega),SqL.of (s _ _ hr)⟩
  · rintro i v ys H' hv ⟨_,s,B,hB,lB,fB⟩
    have hi:i<xs.length:=(List.getElem?_eq_some_iff.mp hv).1
    obtain ⟨a,us,l,rfl,el,hl,hN⟩:=nr.get hv
    have g:A.getD i []=l:=by rw [List.getD_eq_getElem?_getD,el];rfl
    obtain ⟨la,oa⟩:=hA i (by omega)
    rw [g] at la oa
    rw [hc]
    refine qd6 (qaO (qaf rfl (qaf rfl ⟨a,wl,us,zs,l,X,u,R,b,rfl,s _ _ hl,.inr (s _ _ hw),hN.tp (tpS s),hX.tp (tpS s),la,lX,oa,oX,rb,u1,fun r q H2 s2 hq nq vq dq=>⟨hi,s.trans s2,B++[q],(hB.tp (tpS s2)).append (Nums.one hq),by rw [List.length_append,lB];rfl,fun t ht=>?_⟩⟩)))
    by_cases z:t<i
    · unfold vl
      rw [qeM (by omega)];exact fB t z
    · have e:t=B.length:=by omega
      unfold vl vr
      rw [e,qeN,lB,g]
      exact ⟨⟨nq,dq⟩,vq⟩
  · rintro ys H' ⟨_,s,B,hB,lB,fB⟩ r hr'
    exact k ys B H' s hB (by omega) (fun i hi=>fB i (by omega)) r hr'
theorem qpZ {n u:Nat} {f:Nat→Rat}:n≠0→su (if n=0 then 0 else u) f=su u f:=fun h=>by rw [if_neg h]
theorem fB2:∀ j,j<8→fB 2 j≤62:=by decide
theorem qqs:∀ j,j<5→fB 40 j≤204:=by decide
theorem qgw (h:qcI K vs H Q E):qhB K { nx:=fun _ H'=>Q .non H',rt:=Q } (L2.start ["_law_script", "_law_k", "_law_box_here", "_law_most", "_law_many", "_law_unknowns", "_law_rows", "_law_j", "_law_row", "_law_wanted", "_law_due", "_law_fits"] vs) H:=by
  obtain ⟨s,ns,k,rfl,hS,k0,k1,out⟩:=h
  refine qdk (qaf rfl (qaf rfl ⟨s,ns,k,rfl,hS,k0,k1,fun p H1 pn s1 B1=>?_⟩))
  have main:∀ (most many:Int) (e R:Nat) (n:Int) (H2:Hp),Box H2 p n→n≤8000→Same H H2→0≤many→many<most→0<most→most≤9→2≤e→(most=6→40≤e)→(∀ j:Nat,(j:Int)<most - 1→fB e j≤R)→(R+41)*(most.toNat - 1)+10≤1400→R≤1000→(most≤6∧R=204∨R=62)→qdB K { nx:=fun _ H'=>Q .non H',rt:=Q } [some (.ref s),some (.int k),some (.ref p),some (.int most),some (.int many),none,none,none,none,none,none,none] H2:=by
    intro most many e R n H2 B2 n2 s2 m0 mm mp m9 e2 e6 fR sR R1 hR
    refine qdk (qaf rfl (qaf rfl ⟨p,most,n,rfl,B2,by omega,mp,by omega,fun ui H3 u0 u1 B3 k3=>?_⟩))
    obtain ⟨u,rfl⟩:∃ u:Nat,ui=(u:Int):=⟨ui.toNat,by omega⟩
    have s3:Same H H3:=fun b o h=>k3 b o (qaj h pn) (s2 b o h)
    show qdA K _ _ _
    refine qaz (show qfy qao _ _ _ from ⟨Nat.zero_le _,fun rw' hrw=>?_⟩)
    have I0:RwS H (upd H3 rw' (.lst [])) p rw' (n+1) [] [] e u 0:=⟨s3.trans (qae hrw _),B3.same (qae hrw _),pn,s3.free hrw,qac,(B3.ne hrw).symm,trivial,rfl,fun t h=>absurd h (Nat.not_lt_zero t)⟩
    obtain ⟨nm,hnm⟩:∃ nm:Nat,many=(nm:Int):=⟨many.toNat,by omega⟩
    subst hnm
    show qdz K _ _ _
    refine (show qef _ _ _ _ _ _ from ⟨_,rfl,(nm:Int),rfl,by omega,by omega,?_⟩)
    rw [Int.toNat_natCast]
    refine ForR.by (fun j σ H'=>∃ (x7 x8:Option V) (n2:Int) (xs:List V) (A:List (List Nu)),σ=[some (.ref s),some (.int k),some (.ref p),some (.int most),some (.int (nm:Int)),some (.int (u:Int)),some (.ref rw'),x7,x8,none,none,none]∧RwS H H' p rw' n2 xs A e u j∧n2≤9000+200*j) ⟨none,none,_,[],[],rfl,I0,by omega⟩ ?_ ?_
    · rintro j σ H4 hj ⟨x7,x8,n4,xs,A,rfl,I,b4⟩
      refine qd6 ?_
      rw [show ((0:Int)+(j:Int))=(j:Int) by omega]
      have:=fR j (by omega)
      exact qol I (by omega) (by omega) (by omega) (by omega) e2 e6 fun r n5 xs A H5 I5 b5=>⟨_,_,n5,xs,A,rfl,I5,by omega⟩
    rintro σ H4 ⟨x7,x8,n4,xs,A,rfl,I,b4⟩
    have n4':n4≤20000:=by omega
    show qdy K _ _ _
    refine qaz (qhG (u:=u) (fun R h=>qaf rfl h) rfl I.bx (by omega) (by omega) qin fun zs X H5 hX lX oX B5 k5 wl hwl=>?_)
    have I5:=I.kp k5 B5
    have I6:=I5.new (o:=.lst zs) hwl
    have s6:=qae hwl (.lst zs)
    have wp:=I5.bx.ne hwl
    have wr:=(qaj I5.hr hwl).symm
    have lA:=I.lA
    have hA:∀ i,i<A.length→(A.getD i []).length=u∧NuOk R (A.getD i []):=fun i hi=>⟨(I.ok i (by omega)).1,(I.ok i (by omega)).2.mono (fR i (by omega))⟩
    generalize hH6:upd H5 wl (.lst zs)=H6 at *
    have hwl6:H6 wl=some (.lst zs):=by rw [← hH6];exact qac
    have u8:u≤most.toNat - 1:=by omega
    have sz1:(R+41)*u≤1390:=Nat.le_trans (Nat.mul_le_mul_left _ u8) (by omega)
    have e41:(R+40+1)*u=(R+41)*u:=rfl
    have sz2:(R+40)*u≤(R+41)*u:=Nat.mul_le_mul_right _ (by omega)
    show qdx K _ _ _
    refine qaz (qmW (ia:=6) (ib:=9) (R:=R) (b:=40) (u:=u) rfl rfl I6.hr (I6.nr.tp qcg) hwl6 (hX.tp (tpS s6)) lX oX hA (by omega) (by omega) (by omega) fun ys B H7 s7 hB lB dB du hdu=>?_)
    have I7:=I6.kp (Kp.of_same s7) (I6.bx.same s7)
    have I8:=I7.new (o:=.lst ys) hdu
    have dp:=I7.bx.ne hdu
    have dr:=(qaj I7.hr hdu).symm
    have s8:=qae hdu (.lst ys)
    generalize hH8:upd H7 du (.lst ys)=H8 at *
    have hdu8:H8 du=some (.lst ys):=by rw [← hH8];exact qac
    have hB8:=hB.tp (tpS s8)
    show qdw K _ _ _
    refine qaz (qaD (qaO (qaf rfl (r_c ⟨p,2,_,rfl,I8.bx,by omega,by decide,by decide,fun d H9 d0 d1 B9 k9=>r_c ⟨rfl,?_⟩⟩))))
    have I9:=I8.kp k9 B9
    have hdu9:=k9 _ _ dp hdu8
    have hB9:=hB8.tp (I8.bx.tp k9)
    have fin:∀ (fits:Bool) (dd:Addr) (ys:List V) (B:List Nu) (nn:Int) (H':Hp),RwS H H' p rw' nn xs A e u nm→H' dd=some (.lst ys)→Nums H' ys B→B.length=A.length→(∀ i,i<A.length→Du (A.getD i []) X u 1500 (B.getD i (0,1)))→(fits=true→∀ i,i<A.length→vl B i=su u fun j=>vr A i j*vl X j)→qda K { nx:=fun _ H'=>Q .non H',rt:=Q } [some (.ref s),some (.int k),some (.ref p),some (.int most),some (.int (nm:Int)),some (.int (u:Int)),some (.ref rw'),x7,x8,some (.ref wl),some (.ref dd),some (.bl fits)] H':=fun fits dd ys B nn H' I' hd hB lB dB fB=>by
      refine qa3 (qjn (qaf rfl (qaf rfl (qaf rfl ⟨qo1,fun r hr=>?_⟩))))
      have sr:=qae hr (.tup [.ref rw',.ref dd,.bl fits])
      refine out r rw' dd fits xs ys A B nm _ _ qac (sr _ _ I'.hr) (sr _ _ hd) ((I'.nr.tp qcg).tp sr) (hB.tp (tpS sr)) (qpY lA (by omega) (by omega) (by omega) (fun i hi=>hA i (by omega)) oX lX (by omega) (Nat.le_refl _) (by omega) fun i hi=>dB i (by omega)) (by omega) ⟨R,fun l hl=>by obtain ⟨i,hi,rfl⟩:=List.mem_iff_getElem.mp hl;have h:=(hA i hi).2;rw [List.getD_eq_getElem?_getD,List.getElem?_eq_getElem hi] at h;exact h,hR.elim (fun h=>.inl ⟨by omega,by split <;> omega,h.2⟩) fun h=>.inr ⟨by omega,by split <;> omega,h⟩⟩ (fun f=>⟨vl X,fun i hi=>?_⟩) (I'.s.trans sr)
      rw [qpZ (by omega),fB f i (by omega)]
    have wk:∀ i,i<A.length→Du (A.getD i []) X u 1500 (B.getD i (0,1)):=fun i hi=>⟨(dB i hi).1.1.mono (by omega),1,by decide,bdL 1 (by decide) (by decide),by rw [Int.mul_one];exact (dB i hi).1.2⟩
    show qdv K _ _ _
    refine qjo (show qoz _ _ _ _ from ⟨_,rfl,_,rfl,qbr (fun cf=>?_) (fun _=>qkm (fin _ du ys B _ H9 I9 hdu9 hB9 lB wk fun _ i hi=>(dB i hi).2))⟩)
    have lys:=hB9.length
    refine qfe (qa0 (qaf rfl ⟨du,rfl,⟨_,SqL.of hdu9⟩,CompJ.lst (xs:=ys) (fun i zs' H'=>i≤ys.length∧Kp p H9 H'∧∃ (C:List Nu) (nn:Int),Box H' p nn∧nn≤30000+3*i∧Nums H' zs' C∧C.length=i∧∀ t,t<i→Du (A.getD t []) X u 1500 (C.getD t (0,1))) ⟨Nat.zero_le _,(fun _ _ _ h=>h),[],_,B9,by omega,trivial,rfl,fun t h=>absurd h (Nat.not_lt_zero t)⟩ ?_ ?_ ?_⟩))
    · rintro i zs' H' ⟨hi,kk,C,nn,_,_,hC,lC,_⟩
      exact ⟨hi,sz (by rw [hC.length];omega),SqL.of (kk _ _ dp hdu9)⟩
    · rintro i v zs' H' hv ⟨_,kk,C,nn,bx,bn,hC,lC,dC⟩
      have hi:i<ys.length:=(List.getElem?_eq_some_iff.mp hv).1
      obtain ⟨q,eq,pq,rfl,hq⟩:=hB9.get hv
      have gB:B.getD i (0,1)=q:=(ql1 eq).2
      obtain ⟨⟨nq,dq⟩,_⟩:=dB i (by omega)
      rw [gB] at nq dq
      refine qd6 (qaO (qaf rfl (qfr (qaf rfl (qjG H' nn _ bx (by omega) fun r w H2 hw nw B2 k2=>?_)))))
      have tq:isN H2 (.ref pq) q:=(⟨pq,rfl,(I9.bx.tp (kk.trans k2)) _ _ hq⟩:isN H2 (.ref pq) q)
      refine ⟨pq,r,q,w,rfl,tq,hw,nq.mono (by omega),nw.mono (by omega),fun z hz=>?_⟩
      have s3:=qae hz (.tup [.int (nadd q w).1,.int (nadd q w).2])
      refine ⟨hi,(kk.trans k2).same s3,C++[nadd q w],_,B2.same s3,by omega,((hC.tp (bx.tp k2)).tp (tpS s3)).append (Nums.one ⟨z,rfl,qac⟩),by rw [List.length_append,lC];rfl,fun tt ht=>?_⟩
      by_cases zz:tt<i
      · rw [qeM (by omega)];exact dC tt zz
      · have e:tt=C.length:=by omega
        rw [e,qeN,lC]
        refine ⟨(qhE nq nw).mono (by omega),w.2,nw.1.pos,nw.2.2.mono (by decide),?_⟩
        have d1:(nadd q w).2∣q.2*w.2:=qhF
        exact Int.dvd_trans d1 (Int.mul_dvd_mul dq (Int.dvd_refl _))
    · rintro zs' H' ⟨_,kk,C,nn,bx,bn,hC,lC,dC⟩ r hr
      have I':=I9.kp kk bx
      refine fin (decide (V.int d=V.int 0)) r zs' C _ _ (I'.new hr) qac (hC.tp (tpS (qae hr _))) (by omega) (fun i hi=>dC i (by omega)) (fun z=>by rw [z] at cf;cases cf)
  show qdD K _ _ _
  refine qaz (qaD (qnf (r_c (r_c ⟨qmc,fun ml hml=>?_⟩))))
  have s2:=qae hml (.lst [.int 6,.int 9])
  refine qd5 (qaD (qaO (qaf rfl (r_c ⟨p,8,7000,rfl,B1.same s2,by decide,by decide,by decide,fun d H3 d0 d1 B3 k3=>r_c ⟨rfl,?_⟩⟩))))
  have mlp:=(B1.ne hml)
  have hml3:=k3 _ _ mlp qac
  have s3:Same H H3:=fun b o h=>k3 b o (qaj h pn) (s2 _ _ (s1 b o h))
  refine ⟨_,rfl,?_⟩
  have take:∀ (most:Int) (e R:Nat),0<most→most≤9→2≤e→(most=6→40≤e)→(∀ j:Nat,(j:Int)<most - 1→fB e j≤R)→(R+41)*(most.toNat - 1)+10≤1400→R≤1000→(most≤6∧R=204∨R=62)→qdC K { nx:=fun _ H'=>Q .non H',rt:=Q } [some (.ref s),some (.int k),some (.ref p),some (.int most),none,none,none,none,none,none,none,none] H3:=fun most e R mp m9 e2 e6 fR sR R1 hR=>
    qdk (qaf rfl (qaf rfl ⟨p,most,7000+1,rfl,B3,by decide,mp,by omega,fun many H4 m0 m1 B4 k4=>main most many e R _ H4 B4 (by omega) (fun b o h=>k4 b o (qaj h pn) (s3 b o h)) m0 m1 mp m9 e2 e6 fR sR R1 hR⟩))
  generalize decide (V.int d=V.int 7)=bb
  cases bb with
  | true=>exact qdM hml3 (qaQ _ _) (take 9 2 62 (by decide) (by decide) (by decide) (fun z=>absurd z (by decide)) (fun j hj=>fB2 j (by omega)) (by decide) (by decide) (.inr rfl))
  | false=>exact qdM hml3 (qaR _ _) (take 6 40 204 (by decide) (by decide) (by decide) (fun _=>Nat.le_refl _) (fun j hj=>qqs j (by omega)) (by decide) (by decide) (.inl ⟨by decide,rfl⟩))
theorem qjH {K:W.Frag} {tl:TE} {capt:List (Option Nat)} {g:TG} {tc:TT} {te:TE} {σ:L2.St} {H:Hp} {Q:VK} (h:tl σ H (fun x H1=>∃ a,x=.ref a∧(∃ xs,SqL K H1 a xs)∧CompF (Itl K a) capt g tc te σ Q H1)):qdN (qbb K tl) capt g tc te σ H Q:=h
noncomputable def hd0 (l:List Nu):Nu:=l.getD 0 (0,1)
noncomputable def isZ (l:List Nu):Bool:=decide (V.int (hd0 l).1=V.int 0)
noncomputable def qiY (l:List Nu):Bool:=!decide (V.int (hd0 l).1=V.int 0)
theorem isZ_iff {l:List Nu}:isZ l=true↔(hd0 l).1=0:=by unfold isZ;rw [decide_eq_true_iff];exact ⟨fun h=>by injection h,fun h=>by rw [h]⟩
theorem isNZ_iff {l:List Nu}:qiY l=true↔(hd0 l).1≠0:=by
  unfold qiY
  rw [Bool.not_eq_true',decide_eq_false_iff_not]
  exact ⟨fun h z=>h (by rw [z]),fun h z=>h (by injection z)⟩
theorem Nums.drop1 {H:Hp}:∀ {xs:List V} {l:List Nu},Nums H xs l→Nums H (xs.drop 1) (l.drop 1)
  | [],[],_=>trivial
  | _::_,_::_,h=>h.2
  | [],_::_,h=>h.elim
  | _::_,[],h=>h.elim
theorem qiZ (l:List Nu) (j:Nat):vl (l.drop 1) j=vl l (j+1):=by
  unfold vl
  rw [List.getD_eq_getElem?_getD,List.getElem?_drop,Nat.add_comm 1 j,List.getD_eq_getElem?_getD]
theorem ql2 (l:List Nu) (j:Nat):(l.drop 1).getD j (0,1)=l.getD (j+1) (0,1):=by
  rw [List.getD_eq_getElem?_getD,List.getElem?_drop,Nat.add_comm 1 j,List.getD_eq_getElem?_getD]
theorem qd8 {α:Type} (p:α→Bool) (l:List α) (x:α):(l++[x]).filter p=l.filter p++(if p x=true then [x] else []):=by
  rw [List.filter_append,List.filter_cons];rfl
theorem SRs.get {H:Hp}:∀ {xs:List V} {A:List (List Nu)} {i:Nat} {v:V},SRs H xs A→xs[i]?=some v→∃ a zs l,v=.ref a∧A[i]?=some l∧(H a=some (.lst zs)∨H a=some (.tup zs))∧Nums H zs l
  | [],[],_,_,_,e=>by simp at e
  | _::_,l::_,0,_,h,e=>by
    simp at e;subst e
    obtain ⟨a,zs,e,q1,q2⟩:=h.1
    exact ⟨a,zs,l,e,rfl,q1,q2⟩
  | _::_,_::_,i+1,_,h,e=>by
    obtain ⟨a,zs,l,h1,h2,h3⟩:=SRs.get (i:=i) h.2 (by simpa using e)
    exact ⟨a,zs,l,h1,by simpa using h2,h3⟩
  | [],_::_,_,_,h,_=>h.elim
  | _::_,[],_,_,h,_=>h.elim
theorem SRs.length {H:Hp}:∀ {xs:List V} {A:List (List Nu)},SRs H xs A→xs.length=A.length
  | [],[],_=>rfl
  | _::_,_::_,h=>congrArg (·+1) (SRs.length h.2)
  | [],_::_,h=>h.elim
  | _::_,[],h=>h.elim
noncomputable def und (q:Nu):Nu:=(q.2*(if q.1<0 then 1 else -1),if q.1<0 then -q.1 else q.1)
noncomputable def nrw (l0 l:List Nu):List Nu:=(List.range (l.length - 1)).map fun j=>nadd (l.getD (j+1) (0,1)) (nmul (nmul (hd0 l) (und (hd0 l0))) (l0.getD (j+1) (0,1)))
theorem qnr {b:Nat} {q:Nu} (h:Nb b q) (q0:q.1≠0):Nb b (und q)∧val (und q) = - (1 / val q):=by
  have p:=h.1.pos
  have d:=qaY (Int.ne_of_gt p)
  have z:=qaY q0
  unfold und val
  by_cases c:q.1<0
  · rw [if_pos c,if_pos c]
    refine ⟨⟨⟨by omega,?_⟩,by rw [Int.mul_one];exact h.2.2,by unfold Bd;rw [Int.natAbs_neg];exact h.2.1⟩,?_⟩
    · show Int.gcd (q.2*1) (-q.1)=1
      rw [Int.mul_one,Int.gcd_neg,Int.gcd_comm];exact h.1.one
    · show ((q.2*1:Int):Rat) / ((-q.1:Int):Rat)=_
      rw [Int.mul_one,Rat.intCast_neg];grind
  · rw [if_neg c,if_neg c]
    refine ⟨⟨⟨by omega,?_⟩,by unfold Bd;rw [show q.2 * -1 = - q.2 by omega,Int.natAbs_neg];exact h.2.2,h.2.1⟩,?_⟩
    · show Int.gcd (q.2 * -1) q.1=1
      rw [show q.2 * -1 = - q.2 by omega,Int.neg_gcd,Int.gcd_comm];exact h.1.one
    · show ((q.2 * -1:Int):Rat) / (q.1:Rat)=_
      rw [show q.2 * -1 = - q.2 by omega,Rat.intCast_neg];grind
theorem qjI {b w:Nat} {l0 l:List Nu} (h0:NuOk b l0) (h:NuOk b l) (e0:l0.length=w+1) (e:l.length=w+1) (q0:(hd0 l0).1≠0):(nrw l0 l).length=w∧NuOk (4*b+2) (nrw l0 l)∧∀ j,j<w→vl (nrw l0 l) j=vl l (j+1) - vl l 0 / vl l0 0*vl l0 (j+1):=by
  have at':∀ {l:List Nu},NuOk b l→l.length=w+1→∀ j,j<w+1→Nb b (l.getD j (0,1)):=fun {l} h e j hj=>h.at (by rw [List.getD_eq_getElem?_getD,List.getElem?_eq_getElem (by omega)];exact List.getElem_mem _)
  have n0:Nb b (und (hd0 l0))∧val (und (hd0 l0)) = - (1 / val (hd0 l0)):=qnr (at' h0 e0 0 (by omega)) q0
  have one:∀ j,j<w→Nb (4*b+2) (nadd (l.getD (j+1) (0,1)) (nmul (nmul (hd0 l) (und (hd0 l0))) (l0.getD (j+1) (0,1))))∧val (nadd (l.getD (j+1) (0,1)) (nmul (nmul (hd0 l) (und (hd0 l0))) (l0.getD (j+1) (0,1))))=vl l (j+1) - vl l 0 / vl l0 0*vl l0 (j+1):=fun j hj=>by
    have a1:=at' h e (j+1) (by omega)
    have a2:=at' h0 e0 (j+1) (by omega)
    have a3:Nb b (hd0 l):=at' h e 0 (by omega)
    have s:=qge a3 n0.1
    have t:=qge s a2
    refine ⟨(qhE a1 t).mono (by omega),?_⟩
    rw [qji a1.1.pos t.1.pos,qht s.1.pos a2.1.pos,qht a3.1.pos n0.1.1.pos]
    rw [n0.2]
    unfold vl hd0
    grind
  refine ⟨by unfold nrw;rw [List.length_map,List.length_range];omega,?_,fun j hj=>?_⟩
  · have all:∀ q∈nrw l0 l,Nb (4*b+2) q:=fun q hq=>by
      obtain ⟨j,hj,rfl⟩:=List.mem_map.mp hq
      exact (one j (by have:=List.mem_range.mp hj;omega)).1
    exact ⟨fun q hq=>(all q hq).1,fun q hq=>(all q hq).2⟩
  · rw [← (one j hj).2]
    show val ((nrw l0 l).getD j (0,1))=_
    unfold nrw
    rw [qfn _ _ (by omega)]
section
variable {A:List (List Nu)} {w b:Nat}
theorem qom {r:Nat} (hA:∀ l∈A,l.length=w+1∧NuOk b l) (hN:A.filter qiY=[]) (k:Rk w (PL ((A.filter isZ).map (List.drop 1))) r):Rk (w+1) (PL A) r:=by
  have z:∀ l∈A,isZ l=true:=fun l hl=>by
    have:=List.filter_eq_nil_iff.mp hN l hl
    rw [isNZ_iff] at this
    exact isZ_iff.mpr (Classical.byContradiction this)
  refine Rk.skip (fun u hu=>?_) (fun v hv=>?_) k
  · obtain ⟨l,hl,rfl⟩:=hu
    refine ⟨?_,vl (l.drop 1),⟨_,List.mem_map.mpr ⟨l,List.mem_filter.mpr ⟨hl,z l hl⟩,rfl⟩,rfl⟩,fun j _=>(qiZ l j).symm⟩
    show ((hd0 l).1:Rat) / ((hd0 l).2:Rat)=0
    rw [isZ_iff.mp (z l hl),show (((0:Int):Rat))=0 from rfl];grind
  · obtain ⟨_,h,rfl⟩:=hv
    obtain ⟨l,hl,rfl⟩:=List.mem_map.mp h
    exact ⟨vl l,⟨l,(List.mem_filter.mp hl).1,rfl⟩,fun j _=>(qiZ l j).symm⟩
theorem qon {r:Nat} {l0:List Nu} {more:List (List Nu)} (hA:∀ l∈A,l.length=w+1∧NuOk b l) (hN:A.filter qiY=l0::more) (k:Rk w (PL ((A.filter isZ).map (List.drop 1)++more.map (nrw l0))) r):Rk (w+1) (PL A) (r+1):=by
  have m0:l0∈A∧qiY l0=true:=List.mem_filter.mp (by rw [hN];exact List.mem_cons_self)
  have q0:=isNZ_iff.mp m0.2
  have o0:=hA l0 m0.1
  have mm:∀ l∈more,l∈A:=fun l hl=>(List.mem_filter.mp (show l∈A.filter qiY by rw [hN];exact List.mem_cons_of_mem _ hl)).1
  have l0n:vl l0 0≠0:=fun z=>q0 (by
    have p:=(o0.2.at (q:=hd0 l0) (by unfold hd0;rw [List.getD_eq_getElem?_getD,List.getElem?_eq_getElem (by omega)];exact List.getElem_mem _)).1.pos
    have z:((hd0 l0).1:Rat) / ((hd0 l0).2:Rat)=0:=z
    have d:=qaY (Int.ne_of_gt p)
    exact qc2 (by show ((hd0 l0).1:Rat)=0;grind))
  have zr:∀ l∈A,isZ l=true→∀ j,vl (l.drop 1) j=vl l (j+1) - vl l 0 / vl l0 0*vl l0 (j+1):=fun l hl h j=>by
    have:vl l 0=0:=by
      show ((hd0 l).1:Rat) / ((hd0 l).2:Rat)=0
      rw [isZ_iff.mp h,show (((0:Int):Rat))=0 from rfl];grind
    rw [qiZ,this];grind
  refine Rk.lead (l:=vl l0) ⟨l0,m0.1,rfl⟩ l0n (fun u hu=>?_) (fun v hv=>?_) k
  · obtain ⟨l,hl,rfl⟩:=hu
    by_cases z:isZ l=true
    · exact .inr ⟨vl (l.drop 1),⟨_,List.mem_append_left _ (List.mem_map.mpr ⟨l,List.mem_filter.mpr ⟨hl,z⟩,rfl⟩),rfl⟩,fun j _=>zr l hl z j⟩
    · have:l∈A.filter qiY:=List.mem_filter.mpr ⟨hl,isNZ_iff.mpr fun e=>z (isZ_iff.mpr e)⟩
      rw [hN] at this
      rcases List.mem_cons.mp this with e | e
      · exact .inl fun j _=>by rw [e]
      · exact .inr ⟨vl (nrw l0 l),⟨_,List.mem_append_right _ (List.mem_map.mpr ⟨l,e,rfl⟩),rfl⟩,(qjI o0.2 (hA l hl).2 o0.1 (hA l hl).1 q0).2.2⟩
  · obtain ⟨_,h,rfl⟩:=hv
    rcases List.mem_append.mp h with h | h
    · obtain ⟨l,hl,rfl⟩:=List.mem_map.mp h
      have hl:=List.mem_filter.mp hl
      exact ⟨vl l,⟨l,hl.1,rfl⟩,fun j _=>zr l hl.1 hl.2 j⟩
    · obtain ⟨l,hl,rfl⟩:=List.mem_map.mp h
      have hl:=mm l hl
      exact ⟨vl l,⟨l,hl,rfl⟩,(qjI o0.2 (hA l hl).2 o0.1 (hA l hl).1 q0).2.2⟩
theorem qkt (A:List (List Nu)):(A.filter isZ).length+(A.filter qiY).length=A.length:=by
  induction A with
  | nil=>rfl
  | cons l A ih=>
    rw [List.filter_cons,List.filter_cons]
    by_cases z:isZ l=true
    · rw [if_pos z,if_neg (fun h=>isNZ_iff.mp h (isZ_iff.mp z)),List.length_cons,List.length_cons];omega
    · rw [if_neg z,if_pos (isNZ_iff.mpr fun e=>z (isZ_iff.mpr e)),List.length_cons,List.length_cons];omega
end
theorem qpx {xs:List V} (h:1≤xs.length):qkv xs (some 1) none=xs.drop 1:=qif (m:=1) h
theorem qmX {K:W.Frag} {H:Hp} {D:Ends} {v0 v1 v2 v7:Option V} {rs la un rw:Addr} {es zs ys:List V} {l0 l:List Nu} {w b:Nat} (hrs:H rs=some (.lst es)) (les:es.length≤100) (hla:H la=some (.lst ys)) (h0:Nums H ys l0) (hun:isN H (.ref un) (und (hd0 l0))) (hrw:H rw=some (.lst zs)) (hl:Nums H zs l) (o0:NuOk b l0) (o:NuOk b l) (e0:l0.length=w+1) (e:l.length=w+1) (w1:w≤20) (b1:b≤2000000) (q0:(hd0 l0).1≠0)
    (k:∀ (c sh:Addr) (cs:List V) (H':Hp),Kp rs H H'→H' rs=some (.lst (es++[.ref c]))→H' c=some (.lst cs)→c≠rs→Nums H' cs (nrw l0 l)→D.nx [v0,v1,v2,some (.ref rs),some (.ref la),some (.ref un),some (.ref rw),some (.ref sh)] H') :
    qeC K D [v0,v1,v2,some (.ref rs),some (.ref la),some (.ref un),some (.ref rw),v7] H:=by
  have at':∀ {l:List Nu},NuOk b l→l.length=w+1→∀ j,j<w+1→Nb b (l.getD j (0,1)):=fun {l} h e j hj=>h.at (by rw [List.getD_eq_getElem?_getD,List.getElem?_eq_getElem (by omega)];exact List.getElem_mem _)
  have nu:Nb b (und (hd0 l0)):=(qnr (at' o0 e0 0 (by omega)) q0).1
  have nl:Nb b (hd0 l):=at' o e 0 (by omega)
  have lz:=hl.length
  have ly:=h0.length
  obtain ⟨_,hz0,pz,rfl,hpz⟩:=hl.at (i:=0) (by omega) (0,1)
  refine qaz (qaO (qaD (qaf rfl (r_c (qdM hrw (qb6 (j:=0) rfl hz0) (qaf rfl ⟨pz,un,hd0 l,und (hd0 l0),rfl,⟨pz,rfl,hpz⟩,hun,nl.mono (by omega),nu.mono (by omega),fun sh hsh=>?_⟩))))))
  have ns:=qge nl nu
  obtain ⟨sq,hsq⟩:∃ sq,sq=nmul (hd0 l) (und (hd0 l0)):=⟨_,rfl⟩
  rw [← hsq] at ns ⊢
  have s1:=qae hsh (.tup [.int sq.1,.int sq.2])
  have hsh1:isN (upd H sh (.tup [.int sq.1,.int sq.2])) (.ref sh) sq:=⟨sh,rfl,qac⟩
  generalize upd H sh (.tup [.int sq.1,.int sq.2])=H1 at *
  show qeB K _ _ _
  refine ⟨_,rfl,.inl ⟨rfl,_,SqL.of (s1 _ _ hrs)⟩,?_⟩
  refine (show qaG _ _ _ _ _ _ _ from qdE (show tSl sL _ _ _ _ _ _ from qaf rfl (r_c ⟨1,rfl,rw,zs,rfl,s1 _ _ hrw,fun p1 hp1=>?_⟩)))
  rw [qpx (by omega)]
  have s2:=qae hp1 (.lst (zs.drop 1))
  refine (show tSl sL _ _ _ _ _ _ from qaf rfl (r_c ⟨1,rfl,la,ys,rfl,s2 _ _ (s1 _ _ hla),fun p2 hp2=>?_⟩))
  rw [qpx (by omega)]
  have s3:=qae hp2 (.lst (ys.drop 1))
  have hp1':=s3 _ _ (qac:upd H1 p1 (.lst (zs.drop 1)) p1=_)
  have hp2':upd (upd H1 p1 (.lst (zs.drop 1))) p2 (.lst (ys.drop 1)) p2=_:=qac
  have s13:=s1.trans (s2.trans s3)
  have s123:=s2.trans s3
  generalize upd (upd H1 p1 (.lst (zs.drop 1))) p2 (.lst (ys.drop 1))=H2 at *
  have N1:=hl.drop1.tp (tpS s13)
  have N2:=h0.drop1.tp (tpS s13)
  have lnr:(nrw l0 l).length=w:=(qjI o0 o e0 e q0).1
  have lzd:(zs.drop 1).length=w:=by rw [List.length_drop];omega
  refine ⟨p1,p2,rfl,⟨_,SqL.of hp1'⟩,⟨_,SqL.of hp2'⟩,CompJ.zip (xs:=zs.drop 1) (ys:=ys.drop 1) (by rw [List.length_drop,List.length_drop];omega) (fun t vs H3=>t≤w∧Same H2 H3∧Nums H3 vs ((nrw l0 l).take t)) ⟨Nat.zero_le _,Same.refl H2,trivial⟩ ?_ ?_ ?_⟩
  · rintro t vs H3 ⟨ht,s,hm⟩
    exact ⟨by omega,sz (by rw [hm.length,List.length_take];omega),SqL.of (s _ _ hp1'),SqL.of (s _ _ hp2')⟩
  · rintro t x y vs H3 q hx hy ⟨_,s,hm⟩ hq
    have ht:t<(zs.drop 1).length:=(List.getElem?_eq_some_iff.mp hx).1
    obtain ⟨u1,eu,px,rfl,hpx⟩:=N1.get hx
    obtain ⟨u2,ev,py,rfl,hpy⟩:=N2.get hy
    have g1:l.getD (t+1) (0,1)=u1:=by rw [← ql2,List.getD_eq_getElem?_getD,eu];rfl
    have g2:l0.getD (t+1) (0,1)=u2:=by rw [← ql2,List.getD_eq_getElem?_getD,ev];rfl
    have n1:Nb b u1:=by rw [← g1];exact at' o e (t+1) (by omega)
    have n2:Nb b u2:=by rw [← g2];exact at' o0 e0 (t+1) (by omega)
    have s4:=qae hq (.tup [.ref px,.ref py])
    refine ⟨q,_,rfl,qac,rfl,_,_,rfl,_,_,rfl,rfl,?_⟩
    have s24:=s.trans s4
    have st:=(s123.trans s24)
    refine qaO (qaf rfl (qaO (qaf rfl (qaf rfl ⟨sh,py,sq,u2,rfl,hsh1.tp (tpS st),⟨py,rfl,s24 _ _ hpy⟩,ns.mono (by omega),n2.mono (by omega),fun y1 hy1=>?_⟩))))
    have s5:=qae hy1 (.tup [.int (nmul sq u2).1,.int (nmul sq u2).2])
    have n3:=qge ns n2
    refine ⟨px,y1,u1,nmul sq u2,rfl,⟨px,rfl,s5 _ _ (s24 _ _ hpx)⟩,⟨y1,rfl,qac⟩,n1.mono (by omega),n3.mono (by omega),fun y2 hy2=>?_⟩
    have s6:=qae hy2 (.tup [.int (nadd u1 (nmul sq u2)).1,.int (nadd u1 (nmul sq u2)).2])
    refine ⟨by omega,(s24.trans s5).trans s6,?_⟩
    have en:(nrw l0 l)[t]?=some (nadd u1 (nmul sq u2)):=by
      unfold nrw
      rw [List.getElem?_map,List.getElem?_range (by omega),← g1,← g2,hsq];rfl
    rw [show (nrw l0 l).take (t+1)=(nrw l0 l).take t++[nadd u1 (nmul sq u2)] by rw [List.take_add_one,en];rfl]
    exact (hm.tp (tpS ((s4.trans s5).trans s6))).append (Nums.one ⟨y2,rfl,qac⟩)
  · rintro vs H3 ⟨_,s,hm⟩ pn hpn
    rw [lzd,show (nrw l0 l).take w=nrw l0 l by rw [← lnr,List.take_length]] at hm
    have s7:=qae hpn (.lst vs)
    have st:=s13.trans (s.trans s7)
    have hrs4:=st _ _ hrs
    have hpn4:upd H3 pn (.lst vs) pn=some (.lst vs):=qac
    have hm4:=hm.tp (tpS s7)
    have ne:pn≠rs:=(qaj (s13.trans s _ _ hrs) hpn).symm
    generalize upd H3 pn (.lst vs)=H4 at *
    refine ⟨rs,es,.ref pn,rfl,rfl,hrs4,Nat.lt_of_le_of_lt les (Nat.lt_of_lt_of_le (show 100<1000 by decide) (sz (by decide))),?_⟩
    exact k pn sh vs _ (fun b o hb h=>Kp.upd b o hb (st b o h)) qac (Kp.upd _ _ ne hpn4) ne (hm4.tp (Tp.updL hrs4))
structure RkI (H H':Hp) (A:List (List Nu)) (w:Nat) (rl:Addr) (us:List V) (A':List (List Nu)) (w' b' ρ:Nat):Prop where
  s:Same H H'
  hr:H' rl=some (.lst us)
  nr:NRs H' us A'
  ok:∀ l∈A',l.length=w'∧NuOk b' l
  n1:A'.length≤20
  w1:w'≤20
  sz:(b'+1)*4 ^ A'.length≤30000000
  go:∀ r,Rk w' (PL A') r→Rk w (PL A) (ρ+r)
theorem qp0 {b n m:Nat} (h:(b+1)*4 ^ n≤30000000) (hm:m≤n):(b+1)*4 ^ m≤30000000:=Nat.le_trans (Nat.mul_le_mul_left _ (Nat.pow_le_pow_right (by decide) hm)) h
theorem NRs.at0 {H:Hp} {us:List V} {A:List (List Nu)} {w b:Nat} (h:NRs H us A) (ok:∀ l∈A,l.length=w+1∧NuOk b l) {i:Nat} {v:V} (hv:us[i]?=some v):∃ (c:Addr) (zs:List V) (l:List Nu) (pz:Addr),v=.ref c∧A[i]?=some l∧H c=some (.lst zs)∧Nums H zs l∧l.length=w+1∧NuOk b l∧zs[0]?=some (.ref pz)∧H pz=some (.tup [.int (hd0 l).1,.int (hd0 l).2])∧zs.length=w+1:=by
  obtain ⟨c,zs,l,rfl,el,hc,hl⟩:=h.get hv
  obtain ⟨e,o⟩:=ok l (List.mem_of_getElem? el)
  obtain ⟨_,hz0,pz,rfl,hpz⟩:=hl.at (i:=0) (by omega) (0,1)
  exact ⟨c,zs,l,pz,rfl,el,hc,hl,e,o,hz0,hpz,by rw [hl.length];exact e⟩
theorem qpn (z:Int):Bd 1 (if z<0 then 1 else -1):=by
  by_cases c:z<0
  · rw [if_pos c];exact bdL 1 (by decide) (by decide)
  · rw [if_neg c];exact bdL 1 (by decide) (by decide)
theorem ql3 {K:W.Frag} {H:Hp} {D:Ends} {v0 x4 x5 x6 x7:Option V} {dl rs:Addr} {ds es:List V} {l0:List Nu} {more RA:List (List Nu)} {w b ρ:Nat} (hdl:H dl=some (.lst ds)) (hD:NRs (rm2 H rs rs) ds (l0::more)) (hrs:H rs=some (.lst es)) (hR:NRs (rm2 H rs rs) es RA) (ok:∀ l∈l0::more,l.length=w+1∧NuOk b l) (nz:∀ l∈l0::more,(hd0 l).1≠0) (n1:RA.length+more.length≤20) (w1:w≤20) (sz1:(b+1)*4 ^ (RA.length+(more.length+1))≤30000000) (drs:dl≠rs)
    (k:∀ (y4 y5 y6 y7:Option V) (es':List V) (H':Hp),Kp rs H H'→H' rs=some (.lst es')→NRs (rm2 H' rs rs) es' (RA++more.map (nrw l0))→D.nx [v0,some (.int ((ρ+1:Nat):Int)),some (.ref dl),some (.ref rs),y4,y5,y6,y7] H') :
    qeG K D [v0,some (.int (ρ:Int)),some (.ref dl),some (.ref rs),x4,x5,x6,x7] H:=by
  have lD:=hD.length
  have lR:=hR.length
  have bb:b<30000000:=by have:=qp0 sz1 (Nat.zero_le _);rw [Nat.pow_zero,Nat.mul_one] at this;omega
  refine qaz (qaD (qaf rfl (r_c ⟨_,_,rfl,rfl,?_⟩)))
  show qeF K _ _ _
  obtain ⟨v,hv⟩:∃ v,ds[0]?=some v:=⟨_,List.getElem?_eq_getElem (by rw [lD];exact Nat.succ_pos _)⟩
  obtain ⟨la,ys,l,pz,rfl,el,hla,hl,e0,o0,hz0,hpz,ly⟩:=hD.at0 ok hv
  obtain rfl:l0=l:=by injection el
  have q0:=nz l0 List.mem_cons_self
  have hla':=qcg _ _ hla
  have hpz':=qcg _ _ hpz
  refine qaz (qaD (qaf rfl (r_c (qdM hdl (qb6 (j:=0) rfl hv) ?_))))
  show qeE K _ _ _
  obtain ⟨q,hq⟩:∃ q,q=hd0 l0:=⟨_,rfl⟩
  rw [← hq] at hpz' q0
  have nq:Nb b q:=o0.at (by rw [hq];unfold hd0;rw [List.getD_eq_getElem?_getD,List.getElem?_eq_getElem (by omega)];exact List.getElem_mem _)
  refine qaz (qek (qaD (qaD (qaD (qaf rfl (r_c (qdM hla' (qb6 (j:=0) rfl hz0) (r_c (qng hpz' (qaQ _ _) (qaD (qnf (qmP (r_c ⟨1,rfl,r_c ⟨qmc,fun ml hml=>?_⟩⟩)))))))))))))
  have s1:=qae hml (.lst [.int (-1),.int 1])
  refine qd5 (qaD (qaD (qaD (qaf rfl (r_c (qdM (s1 _ _ hla') (qb6 (j:=0) rfl hz0) (r_c (qng (s1 _ _ hpz') (qaR _ _) (r_c ⟨_,_,rfl,rfl,_,rfl,?_⟩)))))))))
  have ai:atI [V.int (-1),V.int 1] (if decide (q.1<0)=true then 1 else 0)=some (V.int (if q.1<0 then 1 else -1)):=by
    by_cases c:q.1<0
    · rw [if_pos (decide_eq_true c),if_pos c];rfl
    · rw [if_neg (fun z=>c (of_decide_eq_true z)),if_neg c];rfl
  refine qdM qac ai ⟨_,_,rfl,rfl,qf9 (n:=1) nq.2.2 (qpn q.1),?_⟩
  refine qd5 (qaD (qaD (qaf rfl (r_c (qdM (s1 _ _ hla') (qb6 (j:=0) rfl hz0) (r_c (qng (s1 _ _ hpz') (qaR _ _) ⟨_,rfl,qmc,fun un hun=>?_⟩)))))))
  have s2:=qae hun (.tup [.int (und q).1,.int (und q).2])
  have hun2:isN (upd (upd H ml (.lst [.int (-1),.int 1])) un (.tup [.int (und q).1,.int (und q).2])) (.ref un) (und q):=⟨un,rfl,qac⟩
  have s12:=s1.trans s2
  show qeD K _ _ (upd (upd H ml (.lst [.int (-1),.int 1])) un (.tup [.int (und q).1,.int (und q).2]))
  generalize upd (upd H ml (.lst [.int (-1),.int 1])) un (.tup [.int (und q).1,.int (und q).2])=H2 at *
  refine (show qef (qbb K _) _ _ _ _ _ from (show tSl sL _ _ _ _ _ _ from qaf rfl (r_c ⟨1,rfl,dl,ds,rfl,s12 _ _ hdl,fun p hp=>?_⟩)))
  rw [qpx (by rw [lD];exact Nat.succ_pos _)]
  have s3:=qae hp (.lst (ds.drop 1))
  have s13:=s12.trans s3
  have prs:p≠rs:=(qaj (s12 _ _ hrs) hp).symm
  have hp3:upd H2 p (.lst (ds.drop 1)) p=some (.lst (ds.drop 1)):=qac
  have hun3:=hun2.tp (tpS s3)
  generalize upd H2 p (.lst (ds.drop 1))=H3 at *
  have ldd:(ds.drop 1).length=more.length:=by rw [List.length_drop,lD];rfl
  refine ⟨p,rfl,⟨_,SqL.of hp3⟩,ForL.by (xs:=ds.drop 1) (fun i σ H'=>∃ (y6 y7:Option V) (es':List V),σ=[v0,some (.int ((ρ+1:Nat):Int)),some (.ref dl),some (.ref rs),some (.ref la),some (.ref un),y6,y7]∧Kp rs H3 H'∧H' rs=some (.lst es')∧NRs (rm2 H' rs rs) es' (RA++(more.take i).map (nrw l0))) ⟨_,_,es,rfl,(fun _ _ _ h=>h),s13 _ _ hrs,by rw [List.take_zero,List.map_nil,List.append_nil];exact hR.tp (qjF fun b o _ _ h=>s13 b o h)⟩ ?_ ?_ ?_⟩
  · rintro i σ H' _ ⟨y6,y7,es',rfl,kk,_⟩
    exact SqL.of (kk _ _ prs hp3)
  · rintro i v σ H' hv ⟨y6,y7,es',rfl,kk,hrs',hN⟩
    have hi:i<(ds.drop 1).length:=(List.getElem?_eq_some_iff.mp hv).1
    rw [List.getElem?_drop,Nat.add_comm 1 i] at hv
    obtain ⟨c,zs,l,pc,rfl,el',hc,hlc,e1,o1,_,_,_⟩:=hD.at0 ok hv
    have el':more[i]?=some l:=by rw [List.getElem?_cons_succ] at el';exact el'
    have b2:b≤2000000:=by
      have:=qp0 sz1 (show 2≤RA.length+(more.length+1) by omega)
      omega
    have hunr:∀ b o,rm2 H rs rs b=some o→H' b=some o:=fun b o h=>kk b o (qim h).1 (s13 b o (qcg _ _ h))
    have le':es'.length≤100:=by rw [hN.length,List.length_append,List.length_map,List.length_take];omega
    have hun':isN H' (.ref un) (und (hd0 l0)):=by rw [← hq];exact hun3.tp (Kp.tp kk (s13 _ _ hrs))
    refine qd6 (qmX (l:=l) (l0:=l0) hrs' le' (hunr _ _ hla) (hl.tp fun b us h=>hunr b _ h) hun' (hunr _ _ hc) (hlc.tp fun b us h=>hunr b _ h) o0 o1 e0 e1 w1 b2 (by rw [← hq];exact q0) fun c' sh cs H4 k4 hrs4 hc4 ne4 hN4=>?_)
    refine ⟨_,_,_,rfl,kk.trans k4,hrs4,?_⟩
    rw [show more.take (i+1)=more.take i++[l] by rw [List.take_add_one,el'];rfl,List.map_append,← List.append_assoc]
    refine (hN.tp (qjF fun b o h1 _ h=>k4 b o h1 h)).snoc (qg8 ne4 ne4 hc4) (hN4.tp fun b us h=>?_)
    have:b≠rs:=fun z=>by rw [z,hrs4] at h;cases h
    exact qg8 this this h
  · rintro σ H' ⟨y6,y7,es',rfl,kk,hrs',hN⟩
    rw [ldd,List.take_length] at hN
    exact k _ _ _ _ es' H' (fun b o hb h=>kk b o hb (s13 b o h)) hrs' hN
theorem ql4 (h:qeo K vs H Q E):qmI K { nx:=fun _ H'=>Q .non H',rt:=Q } (L2.start ["_law_rows", "_law_rank_here", "_law_led", "_law_rest", "_law_lead", "_law_under", "_law_row", "_law_share"] vs) H:=by
  obtain ⟨a,xs,A,w,b,rfl,ha,hA,oA,n1,w1,sz1,k⟩:=h
  have lx:=hA.length
  refine qaz (qoX ha rfl (fun i ys H'=>i≤xs.length∧Same H H'∧NRs H' ys (A.take i)) ⟨Nat.zero_le _,Same.refl H,trivial⟩ ?_ ?_ ?_)
  · rintro i ys H' ⟨hi,s,hN⟩
    exact ⟨hi,sz (by rw [hN.length,List.length_take];omega),ha.elim (fun h=>(s _ _ h).trans h.symm) fun h=>(s _ _ h).trans h.symm⟩
  · rintro i v ys H' hv ⟨_,s,hN⟩
    have hi:i<xs.length:=(List.getElem?_eq_some_iff.mp hv).1
    obtain ⟨c,us,l,rfl,el,hc,hl⟩:=hA.get hv
    refine qd6 (qd5 (qaf rfl ⟨c,us,rfl,hc.imp (s _ _) (s _ _),fun p hp=>?_⟩))
    have sp:=qae hp (.lst us)
    refine ⟨hi,s.trans sp,?_⟩
    rw [show A.take (i+1)=A.take i++[l] by rw [List.take_add_one,el];rfl]
    exact (hN.tp sp).snoc qac (hl.tp (tpS (s.trans sp)))
  rintro us H1 ⟨_,s1,hN⟩ rl hrl
  rw [show A.take xs.length=A by rw [lx,List.take_length]] at hN
  have sr:=qae hrl (.lst us)
  show qgZ K _ _ _
  refine qaz (r_c ?_)
  show qgY K _ _ _
  refine qfz (qbZ (fun mm σ H'=>∃ (rl:Addr) (us:List V) (A':List (List Nu)) (b' ρ:Nat) (x2 x3 x4 x5 x6 x7:Option V),σ=[some (.ref rl),some (.int (ρ:Int)),x2,x3,x4,x5,x6,x7]∧RkI H H' A w rl us A' mm b' ρ) w ⟨rl,us,A,b,0,none,none,none,none,none,none,rfl,s1.trans sr,qac,hN.tp sr,oA,n1,w1,sz1,fun r h=>by rw [Nat.zero_add];exact h⟩ ?_)
  rintro mm σ H2 ⟨rl,us,A',b',ρ,x2,x3,x4,x5,x6,x7,rfl,I⟩
  clear hN sr s1 hrl
  have lu:=I.nr.length
  have n1':=I.n1
  refine (show qiy _ _ _ _ _ from qaV (qaD (qcO (qaf rfl (qcP I.hr (r_c ⟨_,_,rfl,rfl,_,rfl,qbr (fun c=>?_) (fun c=>qbr (fun z=>by cases z) (fun _=>?_))⟩))))))
  rotate_left
  · -- no row
    have c:¬ 0<(us.length:Int):=fun z=>c (decide_eq_true z)
    show qe2 K _ _ _
    exact qa3 (qaf rfl (k ρ H2 I.s (I.go 0 (Rk.nil (.inr fun u ⟨l,hl,_⟩=>by
      have:=List.length_pos_of_mem hl
      omega)))))
  have c:0<(us.length:Int):=of_decide_eq_true c
  obtain ⟨v,hv⟩:∃ v,us[0]?=some v:=⟨_,List.getElem?_eq_getElem (by omega)⟩
  obtain ⟨c0,z0,l00,rfl,e00,hc0,hl0⟩:=I.nr.get hv
  have lz0:z0.length=mm:=by rw [hl0.length];exact (I.ok _ (List.mem_of_getElem? e00)).1
  refine qaV (qaD (qcO (qaD (qaf rfl (r_c (qdM I.hr (qb6 (j:=0) rfl hv) (qcP hc0 (r_c ⟨_,_,rfl,rfl,_,rfl,qbr (fun c=>?_) (fun c=>?_)⟩))))))))
  rotate_left
  · -- no column
    have c:¬ 0<(z0.length:Int):=fun z=>c (decide_eq_true z)
    show qe2 K _ _ _
    exact qa3 (qaf rfl (k ρ H2 I.s (I.go 0 (Rk.nil (.inl (by omega))))))
  have c:0<(z0.length:Int):=of_decide_eq_true c
  obtain ⟨w2,rfl⟩:∃ w2,mm=w2+1:=⟨mm - 1,by omega⟩
  refine ⟨_,fun _ _ h=>h,?_⟩
  show qeJ K _ _ _
  refine qaz (qjH (qaf rfl ⟨rl,rfl,⟨_,SqL.of I.hr⟩,CompF.lst (xs:=us) (fun i ys H'=>i≤us.length∧H'=H2∧NRs H2 ys ((A'.take i).filter qiY)) ⟨Nat.zero_le _,rfl,trivial⟩ ?_ ?_ ?_⟩))
  · rintro i ys H' ⟨hi,rfl,hN⟩
    exact ⟨hi,sz (by rw [hN.length];exact Nat.le_trans (List.length_filter_le _ _) (by rw [List.length_take];omega)),SqL.of I.hr⟩
  · rintro i v ys H' hv ⟨_,rfl,hN⟩
    have hi:i<us.length:=(List.getElem?_eq_some_iff.mp hv).1
    obtain ⟨c,zs,l,pz,rfl,el,hc,hl,_,_,hz0,hpz,_⟩:=I.nr.at0 I.ok hv
    have et:A'.take (i+1)=A'.take i++[l]:=by rw [List.take_add_one,el];rfl
    refine qd6 (qaV (qaD (qaD (qaD (qaf rfl (r_c (qdM hc (qb6 (j:=0) rfl hz0) (r_c (qng hpz (qaR _ _) (r_c ⟨rfl,_,rfl,qbr (fun q=>qaf rfl ⟨hi,rfl,?_⟩) (fun q=>⟨hi,rfl,?_⟩)⟩)))))))))) <;> rw [et,qd8]
    · rw [if_pos (show qiY l=true from q)]
      exact hN.snoc hc hl
    · rw [if_neg (show ¬ qiY l=true from q),List.append_nil]
      exact hN
  rintro ds H' ⟨_,rfl,hD⟩ dl hdl
  rw [show A'.take us.length=A' by rw [lu,List.take_length]] at hD
  have sd:=qae hdl (.lst ds)
  have hdl3:upd H' dl (.lst ds) dl=some (.lst ds):=qac
  generalize upd H' dl (.lst ds)=H3 at *
  show qeI K _ _ _
  refine qaz (qjH (qaf rfl ⟨rl,rfl,⟨_,SqL.of (sd _ _ I.hr)⟩,CompF.lst (xs:=us) (fun i ys H5=>i≤us.length∧Same H3 H5∧NRs H5 ys (((A'.take i).filter isZ).map (List.drop 1))) ⟨Nat.zero_le _,Same.refl H3,trivial⟩ ?_ ?_ ?_⟩))
  · rintro i ys H5 ⟨hi,s,hN⟩
    exact ⟨hi,sz (by rw [hN.length,List.length_map];exact Nat.le_trans (List.length_filter_le _ _) (by rw [List.length_take];omega)),SqL.of (s _ _ (sd _ _ I.hr))⟩
  · rintro i v ys H5 hv ⟨_,s,hN⟩
    have hi:i<us.length:=(List.getElem?_eq_some_iff.mp hv).1
    obtain ⟨c,zs,l,pz,rfl,el,hc,hl,_,_,hz0,hpz,lz⟩:=I.nr.at0 I.ok hv
    have et:A'.take (i+1)=A'.take i++[l]:=by rw [List.take_add_one,el];rfl
    have s5:=sd.trans s
    refine qd6 (qaV (qaD (qaD (qaD (qaf rfl (r_c (qdM (s5 _ _ hc) (qb6 (j:=0) rfl hz0) (r_c (qng (s5 _ _ hpz) (qaR _ _) (r_c ⟨rfl,_,rfl,qbr (fun q=>?_) (fun q=>⟨hi,s,?_⟩)⟩))))))))))
    · refine (show tSl sL _ _ _ _ _ _ from qaf rfl (r_c ⟨1,rfl,c,zs,rfl,s5 _ _ hc,fun p hp=>?_⟩))
      rw [qpx (by omega)]
      have sp:=qae hp (.lst (zs.drop 1))
      refine ⟨hi,s.trans sp,?_⟩
      rw [et,qd8,if_pos (show isZ l=true from q),List.map_append]
      exact (hN.tp sp).snoc qac (hl.drop1.tp (tpS (s5.trans sp)))
    · rw [et,qd8,if_neg (show ¬ isZ l=true from q),List.append_nil]
      exact hN
  rintro es H5 ⟨_,s5,hR⟩ rs hrs
  rw [show A'.take us.length=A' by rw [lu,List.take_length]] at hR
  have s6:=qae hrs (.lst es)
  have hrs6:upd H5 rs (.lst es) rs=some (.lst es):=qac
  have off:Same H5 (rm2 (upd H5 rs (.lst es)) rs rs):=fun b o z=>qg8 (qaj z hrs) (qaj z hrs) (s6 _ _ z)
  have drs:dl≠rs:=qaj (s5 _ _ hdl3) hrs
  have s36:=s5.trans s6
  generalize upd H5 rs (.lst es)=H6 at *
  have fl:=qkt A'
  have lds:=hD.length
  have sall:Same H H6:=I.s.trans (sd.trans s36)
  have nrs:∀ b o,H b=some o→b≠rs:=fun b o z=>qaj (I.s.trans (sd.trans s5) b o z) hrs
  show qeH K _ _ _
  refine qjo (qaV (qaD (qcO (qaf rfl (qcP (s36 _ _ hdl3) (r_c ⟨_,_,rfl,rfl,_,rfl,qbr (fun c=>?_) (fun c=>qkm ?_)⟩))))))
  rotate_left
  · -- no row leads
    have c:¬ 0<(ds.length:Int):=fun z=>c (decide_eq_true z)
    have hNZ:A'.filter qiY=[]:=List.length_eq_zero_iff.mp (by omega)
    show qc4 K _ _ _
    refine qfe (qaf rfl ⟨w2,by omega,rs,es,(A'.filter isZ).map (List.drop 1),b',ρ,_,_,_,_,_,_,rfl,sall,hrs6,hR.tp s6,fun l hl=>?_,by rw [List.length_map];omega,by have:=I.w1;omega,by rw [List.length_map];exact qp0 I.sz (by omega),fun r h=>I.go r (qom I.ok hNZ h)⟩)
    obtain ⟨l',hl',rfl⟩:=List.mem_map.mp hl
    have o:=I.ok l' (List.mem_filter.mp hl').1
    exact ⟨by rw [List.length_drop];omega,⟨fun q hq=>o.2.1 q (List.mem_of_mem_drop hq),fun q hq=>o.2.2 q (List.mem_of_mem_drop hq)⟩⟩
  have c:0<(ds.length:Int):=of_decide_eq_true c
  obtain ⟨l0,more,hNZ⟩:∃ l0 more,A'.filter qiY=l0::more:=by
    cases e:A'.filter qiY with
    | nil=>rw [e] at lds;rw [List.length_nil] at lds;omega
    | cons l0 more=>exact ⟨l0,more,rfl⟩
  have mA:∀ l∈l0::more,l∈A'∧qiY l=true:=fun l hl=>List.mem_filter.mp (by rw [hNZ];exact hl)
  have ln:((A'.filter isZ).map (List.drop 1)).length+(more.length+1)=A'.length:=by
    rw [List.length_map]
    rw [hNZ,List.length_cons] at fl
    exact fl
  rw [hNZ] at hD
  have w1':=I.w1
  refine ql3 (b:=b') (w:=w2) (s36 _ _ hdl3) (hD.tp fun b o z=>off b o (s5 _ _ (sd _ _ z))) hrs6 (hR.tp off) (fun l hl=>I.ok l (mA l hl).1) (fun l hl=>isNZ_iff.mp (mA l hl).2) (by omega) (by omega) (by rw [ln];exact I.sz) drs fun y4 y5 y6 y7 es' H7 k7 hrs7 hN7=>?_
  show qc4 K _ _ _
  refine qfe (qaf rfl ⟨w2,by omega,rs,es',_,4*b'+2,ρ+1,_,_,_,_,_,_,rfl,fun b o z=>k7 b o (nrs b o z) (sall b o z),hrs7,hN7.tp qcg,fun l hl=>?_,by rw [List.length_append,List.length_map (f:=nrw l0)];omega,by omega,?_,fun r h=>?_⟩)
  · rcases List.mem_append.mp hl with hl | hl
    · obtain ⟨l',hl',rfl⟩:=List.mem_map.mp hl
      have o:=I.ok l' (List.mem_filter.mp hl').1
      exact ⟨by rw [List.length_drop];omega,NuOk.mono ⟨fun q hq=>o.2.1 q (List.mem_of_mem_drop hq),fun q hq=>o.2.2 q (List.mem_of_mem_drop hq)⟩ (by omega)⟩
    · obtain ⟨l',hl',rfl⟩:=List.mem_map.mp hl
      have o:=I.ok l' (mA l' (List.mem_cons_of_mem _ hl')).1
      have o0:=I.ok l0 (mA l0 List.mem_cons_self).1
      have:=qjI o0.2 o.2 o0.1 o.1 (isNZ_iff.mp (mA l0 List.mem_cons_self).2)
      exact ⟨this.1,this.2.1⟩
  · have:=I.sz
    rw [← ln,← Nat.add_assoc,Nat.pow_succ] at this
    rw [List.length_append,List.length_map (f:=nrw l0)]
    have e:(4*b'+2+1)*4 ^ (((A'.filter isZ).map (List.drop 1)).length+more.length)≤(b'+1)*(4 ^ (((A'.filter isZ).map (List.drop 1)).length+more.length)*4):=by
      rw [Nat.mul_comm (4 ^ _) 4,← Nat.mul_assoc]
      exact Nat.mul_le_mul_right _ (by omega)
    exact Nat.le_trans e this
  · have:=I.go (r+1) (qon I.ok hNZ h)
    rw [show ρ+1+r=ρ+(r+1) by omega];exact this
theorem NRs.srs {H:Hp}:∀ {xs:List V} {A:List (List Nu)},NRs H xs A→SRs H xs A
  | [],[],_=>trivial
  | _::_,_::_,h=>⟨let ⟨a,zs,e,h1,h2⟩:=h.1;⟨a,zs,e,.inl h1,h2⟩,NRs.srs h.2⟩
  | [],_::_,h=>h.elim
  | _::_,[],h=>h.elim
theorem TFs.srs {H:Hp} {w:Nat} {A:List (List Nu)}:∀ {xs:List V} {F:List (List Nu)},TFs H w A xs F→SRs H xs F∧∀ l∈F,l.length=w
  | [],[],_=>⟨trivial,fun _ h=>nomatch h⟩
  | _::_,_::_,h=>⟨⟨let ⟨u,zs,e,hu,hN,_⟩:=h.1;⟨u,zs,e,.inr hu,hN⟩,(TFs.srs h.2).1⟩,fun l hl=>(List.mem_cons.mp hl).elim (fun e=>by
      obtain ⟨_,_,_,_,_,lw,_⟩:=h.1
      rw [e];exact lw) ((TFs.srs h.2).2 l)⟩
  | [],_::_,h=>h.elim
  | _::_,[],h=>h.elim
section
variable {A:List (List Nu)} {B:List Nu} {n w:Nat}
theorem qns {K:W.Frag} {H:Hp} {c d:Addr} {us vs:List V} {R:VK} {E:XK} (e:EqOk A B n w) (hR:∀ l∈A,NuOk 204 l) (hf:qo8 A B n w) (hc:H c=some (.lst us)) (hd:H d=some (.lst vs)) (hA:NRs H us A) (hB:Nums H vs B)
    (k:∀ (r x f:Addr) (zs gs:List V) (X:List Nu) (F:List (List Nu)) (H':Hp),Same H H'→H' r=some (.tup [.str "told", .ref x,.ref f])→H' x=some (.tup zs)→Nums H' zs X→X.length=w→H' f=some (.tup gs)→TFs H' w A gs F→Wh A w F→R (.ref r) H'):qdn K [.ref c,.ref d] H R E:=by
  refine ⟨c,d,us,vs,A,B,n,w,rfl,hc,hd,hA,hB,e.lA,e.lB,e.rA,e.nw,by have:=e.n1;omega,e.w1,fun i hi=>⟨(e.ok i hi).1.mono (by decide),let ⟨m,o,b⟩:=(e.ok i hi).2;⟨m,o,b.mono (by decide)⟩⟩,fun i hi=>⟨hR _ (by rw [List.getD_eq_getElem?_getD,List.getElem?_eq_getElem (by have:=e.lA;omega)];exact List.getElem_mem _),(e.ok i hi).2⟩,fun r x f zs gs X F H' s hr hx hX lX _ _ hf hF hW=>k r x f zs gs X F H' s hr hx hX lX hf hF hW,fun r x zs W H' n0 s hr hx hW lW oW sW nW=>?_⟩
  obtain ⟨X,hX⟩:=hf
  refine absurd ?_ nW
  rw [qag (g:=fun i=>su w fun j=>vr A i j*X j*vl W i) n fun i hi=>by rw [qaI,hX i hi],qbj]
  refine qaP fun j hj=>?_
  rw [qag (g:=fun i=>vr A i j*vl W i*X j) n fun i hi=>by grind,qaI,sW j hj,Rat.zero_mul]
end
theorem qpo {x:Str} {p:Prop} (h:(!decide (V.str x=V.str x))=true):p:=by rw [decide_eq_true rfl] at h;cases h
theorem ql5 {x:V} {p:Prop} (h:(!decide (x=x))=true):p:=by rw [decide_eq_true rfl] at h;cases h
theorem ql6:∀ r,r<9→∀ f,f<9→r+f≤8→(r*1715+1+1)*4 ^ f≤30000000:=by decide
theorem qjJ:∀ n,n<9→(62+1)*4 ^ n≤30000000∧(n<6→(204+1)*4 ^ n≤30000000):=by decide
theorem qpp (h:qjr K vs H Q E):qpW K { nx:=fun _ H'=>Q .non H',rt:=Q } (L2.start ["_law_script", "_law_k", "_law_rows", "_law_due", "_law_fits", "_law_found", "_law_many"] vs) H:=by
  obtain ⟨s,ns,rfl,hS,h63,k⟩:=h
  refine (show qef _ _ _ _ _ _ from qoZ (r_c (qoZ (qd5 (qaf rfl ⟨s,_,rfl,hS,r_c ?_⟩)))))
  rw [List.length_map]
  have hL:∀ L:Int,L=(if (if (12:Int)<(ns.length:Int) then (12:Int) else (ns.length:Int)) > 1 then (if (12:Int)<(ns.length:Int) then (12:Int) else (ns.length:Int)) else 1)→1≤L∧L≤12:=fun L e=>by
    rw [e];split <;> split <;> omega
  refine ⟨_,_,rfl,_,_,rfl,?_⟩
  generalize hLe:(if (if (12:Int)<(ns.length:Int) then (12:Int) else (ns.length:Int)) > 1 then (if (12:Int)<(ns.length:Int) then (12:Int) else (ns.length:Int)) else 1)=L
  obtain ⟨hL1,hL2⟩:=hL L hLe.symm
  refine ⟨L,rfl,by omega,by omega,?_⟩
  refine ForR.by (fun i σ H'=>∃ x1 x2 x3 x4 x5 x6:Option V,σ=[some (.ref s),x1,x2,x3,x4,x5,x6]∧Same H H') ⟨none,none,none,none,none,none,rfl,Same.refl H⟩ ?_ ?_
  · rintro i σ H0 hi ⟨x1,x2,x3,x4,x5,x6,rfl,s0⟩
    refine qd6 ?_
    have ki:(0:Int)+(i:Int)≤62∧0≤(0:Int)+(i:Int):=by omega
    generalize (0:Int)+(i:Int)=kk at ki ⊢
    obtain ⟨k1,k0⟩:=ki
    show qg5 K _ _ _
    refine qfd (qaO (qaf rfl (qaf rfl ⟨s,ns,kk,rfl,s0.seq hS,k0,by omega,fun r a b fits xs ys A B n w H1 hr ha hb hA hB e n12 hR hf s1=>⟨r,_,rfl,hr,rfl,_,_,rfl,qd6 ⟨_,_,rfl,qd6 ⟨_,_,rfl,qd6 ⟨rfl,?_⟩⟩⟩⟩⟩)))
    have lA:=e.lA
    have lx:=hA.length
    obtain ⟨R,oR,hRw⟩:=hR
    have R204:R≤204:=by omega
    have w8:w≤8:=by omega
    have n8:n≤8:=by omega
    have s01:=s0.trans s1
    show qg4 K _ _ _
    refine qie (show qiy _ _ _ _ _ from ⟨_,rfl,_,rfl,qbr (fun ft=>?_) (fun _=>qbr (fun z=>by cases z) (fun _=>⟨_,_,_,_,_,_,rfl,s01⟩))⟩)
    refine qaV (qaD (qcO (qaf rfl (qcP ha (r_c ⟨_,_,rfl,rfl,_,rfl,qbr (fun c=>?_) (fun _=>⟨_,_,_,_,_,_,rfl,s01⟩)⟩)))))
    have c:0<(xs.length:Int):=of_decide_eq_true c
    show qg3 K _ _ _
    refine qaz (qaO (qaf rfl (qaf rfl (qns e (fun l hl=>(oR l hl).mono R204) (hf ft) ha hb hA hB fun r x f zs gs X F H2 s2 hr2 hx2 _ _ hf2 hF hW=>?_))))
    obtain ⟨rr,rw',rkA,rkF,oF⟩:=hW.ex
    obtain ⟨srF,lF⟩:=hF.srs
    have lgs:=srF.length
    obtain ⟨v,hv⟩:∃ v,xs[0]?=some v:=⟨_,List.getElem?_eq_getElem (by omega)⟩
    obtain ⟨c0,z0,l00,rfl,e00,hc0,hl0⟩:=hA.get hv
    have lz0:z0.length=w:=by rw [hl0.length];exact e.rA _ (List.mem_of_getElem? e00)
    show qg2 K _ _ _
    refine qaz (qcO (qaD (qaf rfl (r_c (qdM (s2 _ _ ha) (qb6 (j:=0) rfl hv) (qcP (s2 _ _ hc0) ?_))))))
    rw [lz0]
    show qg1 K _ _ _
    refine qjo (show tOr _ _ _ _ _ from qaV (qaD (qd4 rfl hr2 (qb1 _ _ _) (r_c ⟨rfl,_,rfl,qbr (fun z=>qpo z) (fun _=>?_)⟩))))
    have szA:(R+1)*4 ^ A.length≤30000000:=by
      rcases hRw with ⟨h1,_,rfl⟩ | ⟨h1,_,rfl⟩
      · exact (qjJ A.length (by omega)).2 (by omega)
      · exact (qjJ A.length (by omega)).1
    refine qaV (qaD (qd5 (qd4 rfl hr2 (qaZ _ _ _) ⟨f,gs,rfl,hf2,qaD (qaf rfl (qfr (qaf rfl ⟨a,xs,A,w,R,rfl,.inr (s2 _ _ ha),(hA.tp s2).srs,fun l hl=>⟨e.rA l hl,oR l hl⟩,by omega,by omega,szA,fun r' H3 s3 rk=>?_⟩)))⟩)))
    have er:=rk.uniq rkA
    refine ⟨_,_,rfl,rfl,?_⟩
    show rNe (V.int (gs.length:Int)) (V.int ((w:Int) - (r':Int))) H3 _
    rw [show (w:Int) - (r':Int)=(gs.length:Int) by omega]
    refine ⟨rfl,_,rfl,qbr (fun z=>ql5 z) (fun _=>qkm ?_)⟩
    have s23:=s01.trans (s2.trans s3)
    show qg0 K _ _ _
    refine qie (show qiy _ _ _ _ _ from qaV (qaD (qd5 (qd4 rfl (s3 _ _ hr2) (qaZ _ _ _) ⟨f,gs,rfl,s3 _ _ hf2,r_c ⟨_,_,rfl,rfl,_,rfl,qbr (fun _=>?_) (fun _=>qbr (fun z=>by cases z) (fun _=>⟨_,_,_,_,_,_,rfl,s23⟩))⟩⟩))))
    have szF:(rr*1715+1+1)*4 ^ F.length≤30000000:=ql6 rr (by omega) F.length (by omega) (by omega)
    have srF3:SRs H3 gs F:=(hF.tp (tpS s3)).srs.1
    refine qaV (qaD (qfr (qd4 rfl (s3 _ _ hr2) (qaZ _ _ _) ⟨f,gs,F,w,rr*1715+1,rfl,.inl (s3 _ _ hf2),srF3,fun l hl=>⟨lF l hl,oF l hl⟩,by omega,by omega,szF,fun r'' H4 s4 rk2=>?_⟩)))
    have er2:=rk2.uniq rkF
    refine qd5 (qd4 rfl (s4 _ _ (s3 _ _ hr2)) (qaZ _ _ _) ⟨f,gs,rfl,s4 _ _ (s3 _ _ hf2),?_⟩)
    rw [show (r'':Int)=(gs.length:Int) by omega]
    exact ⟨rfl,_,rfl,qbr (fun z=>ql5 z) (fun _=>⟨_,_,_,_,_,_,rfl,s23.trans s4⟩)⟩
  · rintro σ H0 ⟨x1,x2,x3,x4,x5,x6,rfl,s0⟩
    show qlL K _ _ _
    refine qa3 (qaD (qaO (show qfy qao _ _ _ from ⟨Nat.zero_le _,fun p1 hp1=>(show qfy qao _ _ _ from ⟨Nat.zero_le _,fun p2 hp2=>?_⟩)⟩)))
    have sp2:=qae hp2 (.lst [])
    have e:EqOk [] [] 0 0:=⟨rfl,rfl,(fun _ h=>nomatch h),fun _=>rfl,by decide,by decide,fun i h=>absurd h (Nat.not_lt_zero i)⟩
    refine qns e (fun _ h=>nomatch h) ⟨fun _=>0,fun i h=>absurd h (Nat.not_lt_zero i)⟩ (sp2 _ _ qac) qac (us:=[]) (vs:=[]) trivial trivial fun r x f zs gs X F H2 s2 hr2 hx2 hX lX hf2 hF hW=>?_
    obtain ⟨rr,rw',_⟩:=hW.ex
    have lz:=hX.length
    have lg:=hF.srs.1.length
    have z0:zs=[]:=List.length_eq_zero_iff.mp (by omega)
    have g0:gs=[]:=List.length_eq_zero_iff.mp (by omega)
    subst z0;subst g0
    refine qjn (r_c (show qgj qao _ _ _ from ⟨Nat.zero_le _,fun q1 hq1=>(show qgj qao _ _ _ from ⟨Nat.zero_le _,fun q2 hq2=>⟨qo1,fun q3 hq3=>?_⟩⟩)⟩))
    have t1:=qae hq1 (.tup [])
    have t2:=qae hq2 (.tup [])
    have t3:=qae hq3 (.tup [.str "told", .ref q1,.ref q2])
    have t13:=t1.trans (t2.trans t3)
    exact ⟨.tuple [.str "told", .tuple [],.tuple []],.tuple [.str "told", .tuple [],.tuple []],true,⟨r,_,_,rfl,t13 _ _ hr2,rfl,.inr ⟨_,rfl,rfl⟩,.inl (.tup (t13 _ _ hx2) .nil),.inl (.tup (t13 _ _ hf2) .nil),trivial⟩,⟨q3,_,_,rfl,qac,rfl,.inr ⟨_,rfl,rfl⟩,.inl (.tup (t3 _ _ (t2 _ _ qac)) .nil),.inl (.tup (t3 _ _ qac) .nil),trivial⟩,(by first | decide | decide +kernel),(by first | decide | decide +kernel),by simp,k _⟩
end Bs
namespace Bs
open PySem PySem.Spec PyProof.Rows L2
set_option maxHeartbeats 4000000
open Hd
structure Bl (K:W.Frag) (mg:Str→Option Value):Prop where
  abs:mg "abs" = none
  FIRST_PRIME:mg "FIRST_PRIME" = some (.int 170141183460469231731687303715884105727 189)
  SECOND_PRIME:mg "SECOND_PRIME" = some (.int 2147483647 191)
  zip:mg "zip" = none
  sum:mg "sum" = none
  len:mg "len" = none
  list:mg "list" = none
  range:mg "range" = none
  enumerate:mg "enumerate" = none
  tuple:mg "tuple" = none
  any:mg "any" = none
  int:mg "int" = none
  min:mg "min" = none
  max:mg "max" = none
section
variable {P:Program} {w:World} {K:W.Frag} {mg:Str→Option Value} {base:Heap} {f:Addr} {fd:FuncData}
theorem okm {n q:Str} {st:Stmt} {N ps:List Str} {k:Nat} {sp:Sp} {t:TS} (F:Fun K n q st f fd) (v:∀ {vs:List V} {H:Hp} {Q:VK} {E:XK},sp vs H Q E→t { nx:=fun _ H'=>Q .non H',rt:=Q } (start N vs) H) (d:∀ {cdv:Value} {A:Around} {outer:List Env} {s:Shared} {H:Hp} {E:XK} (hr:Room k (A.deeper (envOfC q (qaH st) s.heap.objs.size f cdv))) (nd:N.Nodup) (hu:(A.deeper (envOfC q (qaH st) s.heap.objs.size f cdv)).units<cLine) (hu64:(A.deeper (envOfC q (qaH st) s.heap.objs.size f cdv)).units+64<cLine),PSs (qnH CX0 P w K mg base N q (qaH st) f cdv A outer s H E).nox (qbn st) t) (S:FnScope N ps (qaH st):=by exact ⟨rfl,rfl,rfl,by decide +kernel,rfl,by decide +kernel,by decide +kernel⟩) (len:∀ vs H Q E,sp vs H Q E→vs.length=ps.length:=by intro vs H Q E h;repeat (first | (obtain ⟨rfl,_⟩:=h;rfl) | obtain ⟨_,h⟩:=h)):FnOk P w K mg base CX0 (k+1) f fd ps sp:=F.ok S len fun cdv A outer s H vs Q E hr h=>⟨t,d hr S.nd hr.units0 hr.units,v h⟩
theorem li {a:Prop} {α:Type} {x:α}:x=x∨a:=Or.inl rfl
end
end Bs
namespace Bs
open PySem PySem.Spec PyProof.Rows L2
set_option maxHeartbeats 4000000
open Hd
theorem qoo {K:W.Frag} {st:Stmt} {f c:Addr} {n:Str} {pm:Value} (l:K.lookup f=some (fnO n st pm c)) (e:PySem.W.codeIn K (.ref c) n=true) (k:PySem.W.keepIn K (.ref f)=true):Fun K n n st f (PySem.W.fnOf n n (qb5 st) (qbn st) (qaH st) .none .none .none pm none (.ref c) .none):=qm6 (st:=st) l e k
theorem qpq {P:Program} {K:W.Frag} {w:World} {h base:Heap} {mg:Str→Option Value} {k:Nat} {f:Addr} {fd:FuncData} {n:Str} {ps:List Str} {sp:Sp} (X:K.In h) (G:h.Ns mainGlobals mg) (ok:FnOk P w K mg base CX0 k f fd ps sp) (b:Binds K fd ps []) (e:PySem.W.keepIn K (.ref f)=true) (a:PySem.W.nsIn K mainGlobals n=some (some (.ref f))):Cal P w K mg base k n ps sp:=⟨f,fd,ok,b,e,PySem.W.mg_of X G a⟩
theorem qpy {us:List Value} {n:Nat} (h:us.length=n+1):∃ x t,us=x::t∧t.length=n:=by cases us with | nil=>cases h | cons x t=>exact ⟨x,t,rfl,Nat.succ.inj h⟩
theorem qqb (us:List Value) (h:us.length=1):∃ x0,us=[x0]:=by obtain ⟨x,t,rfl,q⟩:=qpy h;exact ⟨x,by rw [List.length_eq_zero_iff.mp q]⟩
theorem qqc (us:List Value) (h:us.length=2):∃ x0 x1,us=[x0,x1]:=by obtain ⟨x,t,rfl,q⟩:=qpy h;obtain ⟨x1,rfl⟩:=qqb t q;exact ⟨x,x1,rfl⟩
theorem qp1 (us:List Value) (h:us.length=3):∃ x0 x1 x2,us=[x0,x1,x2]:=by obtain ⟨x,t,rfl,q⟩:=qpy h;obtain ⟨x1,x2,rfl⟩:=qqc t q;exact ⟨x,x1,x2,rfl⟩
theorem qqt (us:List Value) (h:us.length=4):∃ x0 x1 x2 x3,us=[x0,x1,x2,x3]:=by obtain ⟨x,t,rfl,q⟩:=qpy h;obtain ⟨x1,x2,x3,rfl⟩:=qp1 t q;exact ⟨x,x1,x2,x3,rfl⟩
theorem qa1 {P:Program} {K:W.Frag} {w:World} {h base:Heap} {mg:Str→Option Value} {k:Nat} {f c:Addr} {n:Str} {ps:List Str} {sp:Sp} {st:Stmt} {pm:Value} (X:K.In h) (G:h.Ns mainGlobals mg) (ok:Fun K n n st f (PySem.W.fnOf n n (qb5 st) (qbn st) (qaH st) .none .none .none pm none (.ref c) .none)→FnOk P w K mg base CX0 k f (PySem.W.fnOf n n (qb5 st) (qbn st) (qaH st) .none .none .none pm none (.ref c) .none) ps sp) (l:K.lookup f=some (fnO n st pm c):=by kernel_rfl) (e:PySem.W.codeIn K (.ref c) n=true:=by kernel_rfl) (q:PySem.W.keepIn K (.ref f)=true:=by kernel_rfl) (a:PySem.W.nsIn K mainGlobals n=some (some (.ref f)):=by kernel_rfl) (b:∀ (kV doc pm:Value) (an:Option Addr) (cdv ct:Value) (us:List Value),us.length=ps.length→bindArgs (PySem.W.fnOf n n (qb5 st) (qbn st) (qaH st) .none kV doc pm an cdv ct) ⟨us,[]⟩=pure (ps.zip us):=by first | exact fun _ _ _ _ _ _ us hl=>by obtain ⟨_,rfl⟩:=qqb us hl;rfl | exact fun _ _ _ _ _ _ us hl=>by obtain ⟨_,_,rfl⟩:=qqc us hl;rfl | exact fun _ _ _ _ _ _ us hl=>by obtain ⟨_,_,_,rfl⟩:=qp1 us hl;rfl | exact fun _ _ _ _ _ _ us hl=>by obtain ⟨_,_,_,_,rfl⟩:=qqt us hl;rfl):Cal P w K mg base k n ps sp:=qpq X G (ok (qoo l e q)) ((qoo l e q).binds b) q a
noncomputable abbrev CaH (P:Program) (w:World) (mg:Str→Option Value) (base:Heap) (k:Nat) (n:Str) (ps:List Str) (sp:W.Frag→Sp):Prop:=Cal P w (hp w.params) mg base k n ps (sp (hp w.params))
theorem qpr {P:Params}:qbo (hp P)=115:=by kernel_rfl
theorem qmY {P:Params}:ClsOk (hp P) (qbo (hp P)):=by
  rw [qpr]
  exact ⟨⟨by kernel_rfl,by kernel_rfl,by kernel_rfl,by kernel_rfl⟩,(show PySem.W.findIn _ _ _=_ by kernel_rfl),(show PySem.W.findIn _ _ _=_ by kernel_rfl),(show PySem.W.findIn _ _ _=_ by kernel_rfl),(show PySem.W.findIn _ _ _=_ by kernel_rfl),(show PySem.W.findIn _ _ _=_ by kernel_rfl)⟩
section
variable {P:Program} {w:World} {mg:Str→Option Value} {base h:Heap} (X:(hp w.params).In h) (G:h.Ns mainGlobals mg) (B:Bl (hp w.params) mg)
include X G B
theorem qdc:CaH P w mg base 1 "common_divisor" ["one", "other"] qaU:=qa1 (f:=21) (c:=20) (pm:=mo0) (st:=qfo) X G fun F=>okm F (qe3 ) fun hr nd hu ht=>(qaa (qbY PassesOwn.never (cR qhc (pv 1) qal) (qaa (asS nd (qaq qny (pv 0) (pv 1))) (qaa (asS nd (pv 1)) (qak (asS nd (pv 2)))))) (qak (qaw (qau qcN rfl B.abs qgF (qad (pv 0) qam)))))
theorem qku:CaH P w mg base 1 "is_prime" ["whole"] qd7:=qa1 (f:=28) (c:=27) (pm:=mo0) (st:=qjY) X G fun F=>okm F (qiQ ) fun hr nd hu ht=>(qaa (asS nd qal) (qaa (qbY PassesOwn.never (cR qpD (qaq qaB (pv 1) (pv 1)) (pv 0)) (qaa (qb3 (cR qeS (qaq qbl (pv 0) (pv 1)) qal) (qak (qaw qjM)) qaL) (qak (qgB (i:=1) nd rfl li qal qkD)))) (qak (qaw (qd1 qeg (pv 0) qal (nomark _))))))
theorem ql7:CaH P w mg base 1 "dot" ["row", "other"] qfY:=qa1 (f:=47) (c:=46) (pm:=mo0) (st:=qpG) X G fun F=>okm F (qpb ) fun hr nd hu ht=>(qak (qaw (qau (qla rfl) rfl B.sum qoO (qad (qaF (N:=["whole", "factor"]) (capt:=[none,none]) rfl (BlkOk.of rfl rfl rfl rfl (fun _ h=>nomatch h) rfl rfl rfl) (qdO rfl B.zip (qad (pv 0) (qad (pv 1) qam))) (fun _ _ _ _=>(qbi rfl (qax (qan (i:=0) (show (["whole", "factor"]:List PySem.Str).Nodup by decide +kernel) rfl li) (qax (qan (i:=1) (show (["whole", "factor"]:List PySem.Str).Nodup by decide +kernel) rfl li) qbg)))) (fun _ _ _ _=>(qaq qaB (pv 0) (pv 1)))) qam))))
theorem qfv:CaH P w mg base 1 "inverse_modulo" ["whole", "prime"] qbp:=qa1 (f:=54) (c:=53) (pm:=mo0) (st:=qfp) X G fun F=>okm F (qe4 ) fun hr nd hu ht=>(qaa (asS nd (pv 1)) (qaa (asS nd (qaq qbl (pv 0) (pv 1))) (qaa (asS nd qal) (qaa (asS nd qal) (qaa (qbY PassesOwn.never (cR qhc (pv 3) qal) (qaa (asS nd (qaq qc0 (pv 2) (pv 3))) (qaa (asS nd (qaq qb4 (pv 2) (qaq qaB (pv 6) (pv 3)))) (qaa (asS nd (pv 3)) (qaa (asS nd (pv 7)) (qaa (asS nd (qaq qb4 (pv 4) (qaq qaB (pv 6) (pv 5)))) (qaa (asS nd (pv 5)) (qak (asS nd (pv 7)))))))))) (qak (qaw (qaq qbl (pv 4) (pv 1)))))))))
theorem qgx:CaH P w mg base 1 "rests_modulo" ["row", "prime"] qb7:=qa1 (f:=59) (c:=58) (pm:=mo0) (st:=qgn) X G fun F=>okm F (qga ) fun hr nd hu ht=>(qak (qaw (qaF (N:=["whole", "prime"]) (capt:=[none,some 1]) rfl (BlkOk.of rfl rfl rfl rfl (List.forall_mem_singleton.mpr rfl) rfl rfl rfl) (qaM (pv 0)) (fun _ _ _ _=>(qan (i:=0) (show (["whole", "prime"]:List PySem.Str).Nodup by decide +kernel) rfl li)) (fun _ _ _ _=>(qaq qbl (pv 0) (pv 1))))))
theorem qio:CaH P w mg base 1 "swapped" ["row", "one", "other"] qdJ:=qa1 (f:=71) (c:=70) (pm:=mo0) (st:=qkU) X G fun F=>okm F (qkl ) fun hr nd hu ht=>(qaa (asS nd (qbv qgG rfl B.list qhk (qad (pv 0) qam))) (qaa (qed (qch qas (pv 0) (pv 2) (fun _ _=>rfl)) (qfb (pv 3) (pv 1) qck)) (qaa (qed (qch qas (pv 0) (pv 1) (fun _ _=>rfl)) (qfb (pv 3) (pv 2) qck)) (qak (qaw (pv 3))))))
theorem qhH:CaH P w mg base 1 "row_cleared" ["row", "lead", "column", "prime"] qbs:=qa1 (f:=76) (c:=75) (pm:=mo0) (st:=qhh) X G fun F=>okm F (qgv ) fun hr nd hu ht=>(qaa (qbu (i:=4) nd rfl (Or.inr rfl) (qch qas (pv 0) (pv 2) (fun _ _=>rfl))) (qaa (qb3 (cR qeS (pv 4) qal) (qak (qaw (pv 0))) qaL) (qak (qaw (qaF (N:=["whole", "other", "prime", "weight"]) (capt:=[none,none,some 3,some 4]) rfl (BlkOk.of rfl rfl rfl rfl (List.forall_mem_cons.mpr ⟨rfl,(List.forall_mem_singleton.mpr rfl)⟩) rfl rfl rfl) (qdO rfl B.zip (qad (pv 0) (qad (pv 1) qam))) (fun _ _ _ _=>(qbi rfl (qax (qan (i:=0) (show (["whole", "other", "prime", "weight"]:List PySem.Str).Nodup by decide +kernel) rfl li) (qax (qan (i:=1) (show (["whole", "other", "prime", "weight"]:List PySem.Str).Nodup by decide +kernel) rfl li) qbg)))) (fun _ _ _ _=>(qaq qbl (qaq qb4 (pv 0) (qaq qaB (pv 3) (pv 1))) (pv 2))))))))
theorem qip:CaH P w mg base 1 "nearest" ["whole", "prime"] qdI:=qa1 (f:=83) (c:=82) (pm:=mo0) (st:=qkV) X G fun F=>okm F (qkk ) fun hr nd hu ht=>(qaa (asS nd (qaq qbl (pv 0) (pv 1))) (qak (qaw (qfw (cR qeg (qaq qaB qal (pv 2)) (pv 1)) (qaq qb4 (pv 2) (pv 1)) (pv 2)))))
theorem qe9:CaH P w mg base 1 "width_of" ["sides"] qb8:=qa1 (f:=126) (c:=125) (pm:=mo3) (st:=qjZ) X G fun F=>okm F (qiS ) fun hr nd hu ht=>(qak (qaw (qfw (qiE (pv 0) (fun _=>rfl)) (qau qaN rfl B.len qbd (qad (xI qas (pv 0)) qam)) qal)))
theorem qhI:CaH P w mg base 1 "picked" ["row", "places"] qdm:=qa1 (f:=131) (c:=130) (pm:=mo3) (st:=qmo) X G fun F=>okm F (qlQ ) fun hr nd hu ht=>(qak (qaw (qaF (N:=["place", "row"]) (capt:=[none,some 0]) rfl (BlkOk.of rfl rfl rfl rfl (List.forall_mem_singleton.mpr rfl) rfl rfl rfl) (qaM (pv 1)) (fun _ _ _ _=>(qan (i:=0) (show (["place", "row"]:List PySem.Str).Nodup by decide +kernel) rfl li)) (fun _ _ _ _=>(qch qas (pv 1) (pv 0) (fun _ _=>rfl))))))
theorem qfH:CaH P w mg base 1 "spread" ["places", "wholes", "width"] qcQ:=qa1 (f:=138) (c:=137) (pm:=mo3) (st:=qmp) X G fun F=>okm F (qlR ) fun hr nd hu ht=>(qaa (asS nd (qaq qm5 (qcL (qad qal qam)) (pv 2))) (qaa (qc5 PassesOwn.never rfl (qdO rfl B.zip (qad (pv 0) (qad (pv 1) qam))) (qbi rfl (qax (qan (i:=4) nd rfl li) (qax (qan (i:=5) nd rfl li) qbg))) (qak (qed (pv 5) (qfb (pv 3) (pv 4) qck)))) (qak (qaw (pv 3)))))
theorem qgf:CaH P w mg base 1 "picked_column" ["rows", "place"] qbN:=qa1 (f:=153) (c:=152) (pm:=mo3) (st:=qfM) X G fun F=>okm F (qft ) fun hr nd hu ht=>(qak (qaw (qaF (N:=["row", "place"]) (capt:=[none,some 1]) rfl (BlkOk.of rfl rfl rfl rfl (List.forall_mem_singleton.mpr rfl) rfl rfl rfl) (qaM (pv 0)) (fun _ _ _ _=>(qan (i:=0) (show (["row", "place"]:List PySem.Str).Nodup by decide +kernel) rfl li)) (fun _ _ _ _=>(qch qas (pv 0) (pv 1) (fun _ _=>rfl))))))
theorem qgg:CaH P w mg base 1 "bottom_modulo" ["whole", "modulus", "limit"] qbO:=qa1 (f:=192) (c:=191) (pm:=mo3) (st:=qfN) X G fun F=>okm F (qfu ) fun hr nd hu ht=>(qaa (asS nd (pv 1)) (qaa (asS nd (pv 0)) (qaa (asS nd qal) (qaa (asS nd qal) (qaa (qbY PassesOwn.never (cR qeg (pv 4) (pv 2)) (qaa (asS nd (qaq qc0 (pv 3) (pv 4))) (qaa (asS nd (qaq qb4 (pv 3) (qaq qaB (pv 7) (pv 4)))) (qaa (asS nd (pv 4)) (qaa (asS nd (pv 8)) (qaa (asS nd (qaq qci (pv 5) (qaq qaB (pv 7) (pv 6)))) (qaa (asS nd (pv 6)) (qak (asS nd (pv 9)))))))))) (qak (qaw (pv 6))))))))
theorem qop:CaH P w mg base 1 "_law_box" ["_law_script", "_law_k"] qhx:=qa1 (f:=199) (c:=198) (pm:=mo4) (st:=qnM) X G fun F=>okm F (qmU ) fun hr nd hu ht=>(qaa (asS nd qal) (qaa (qb3 (cR qnz (pv 1) (qau qfQ rfl B.len qbd (qad (pv 0) qam))) (qak (asS nd (qch qh1 (pv 0) (pv 1) (fun _ _=>rfl)))) qaL) (qaa (asS nd (qoC (qd1 qeg (qau qfQ rfl B.len qbd (qad (pv 0) qam)) qal (nomark _)) (qoB (qd1 qeS (qaq qbl (xI qh1 (pv 0)) qal) qal (nomark _))))) (qak (qaw (qcL (qad (qaq qaB (qau qcN rfl B.abs qgF (qad (pv 2) qam)) (qbv qfO rfl B.int qk4 (qad (pv 3) qam))) (qad (qau qcN rfl B.abs qgF (qad (pv 2) qam)) (qad (qaq qaB qal (pv 1)) qam)))))))))
theorem qaX:CaH P w mg base 1 "_law_take" ["_law_box_here", "_law_many"] qaE:=qa1 (f:=206) (c:=205) (pm:=mo4) (st:=qmr) X G fun F=>okm F (ql0 ) fun hr nd hu ht=>(qaa (qb3 (cR qeg (xI qas (pv 0)) qal) (qaa (asS nd (qaq qbl (xI qas (pv 0)) (pv 1))) (qaa (qed (qaq qc0 (xI qas (pv 0)) (pv 1)) (qfb (pv 0) qal qck)) (qak (qaw (pv 2))))) qaL) (qaa (qed (qaq qci (xI qas (pv 0)) qal) (qfb (pv 0) qal qck)) (qaa (asS nd (qaq qci (qaq qbl (xI qas (pv 0)) qal) qal)) (qaa (asS nd (qaq qbl (qaq qaB (pv 3) (qaq qci qal (qaq qaB (xI qas (pv 0)) (xI qas (pv 0))))) qal)) (qaa (asS nd (qaq qbl (qaq qaB (pv 3) (qaq qci (qaq qci (qaq qbl (pv 3) qal) (qaq qaB (xI qas (pv 0)) qal)) qal)) qal)) (qak (qaw (qaq qbl (qaq qci (qaq qhl (qaq qaB (pv 3) (pv 3)) qal) (qaq qhl (pv 3) qal)) (pv 1)))))))))
theorem qcZ:CaH P w mg base 1 "_law_lowest" ["_law_top", "_law_bottom"] qa6:=qa1 (f:=213) (c:=212) (pm:=mo4) (st:=qj1) X G fun F=>okm F (qiV ) fun hr nd hu ht=>(qaa (qm1 (i:=2) (j:=3) rfl nd rfl rfl (by decide) rfl rfl (qad (qau qcN rfl B.abs qgF (qad (pv 0) qam)) (qad (pv 1) qam)) rfl) (qaa (qbY PassesOwn.never (cR qeg (pv 3) qal) (qak (qm1 (i:=2) (j:=3) rfl nd rfl rfl (by decide) rfl rfl (qad (pv 3) (qad (qaq qbl (pv 2) (pv 3)) qam)) rfl))) (qak (qaw (qbP (qad (qaq qei (pv 0) (pv 2)) (qad (qaq qei (pv 1) (pv 2)) qam)))))))
theorem qhJ:CaH P w mg base 2 "prime_after" ["whole"] qcG:=qa1 (f:=35) (c:=34) (pm:=mo0) (st:=qhf) X G fun F=>okm F (qgt ) fun hr nd hu ht=>(qaa (asS nd (qaq qci (pv 0) qal)) (qaa (qbY PassesOwn.never (qm0 (qgz ((qku X G B).q1 hr (pv 1)))) (qak (qgB (i:=1) nd rfl li qal qkD))) (qak (qaw (pv 1)))))
theorem qdd:CaH P w mg base 2 "reduced_modulo" ["rows", "prime"] qa9:=qa1 (f:=64) (c:=63) (pm:=mo0) (st:=qfq) X G fun F=>okm F (qe7 ) fun hr nd hu ht=>(qaa (qbu (i:=2) nd rfl (Or.inr rfl) (qaF (N:=["row", "prime"]) (capt:=[none,some 1]) rfl (BlkOk.of rfl rfl rfl rfl (List.forall_mem_singleton.mpr rfl) rfl rfl rfl) (qaM (pv 0)) (fun _ _ _ _=>(qan (i:=0) (show (["row", "prime"]:List PySem.Str).Nodup by decide +kernel) rfl li)) (fun _ _ _ _=>((qgx X G B).q2 hr (pv 0) (pv 1))))) (qaa (asS nd (qmA rfl B.list rfl B.range rfl (qad (qau qaN rfl B.len qbd (qad (pv 0) qam)) qam))) (qaa (asS nd (qcL qam)) (qaa (qc5 PassesOwn.never rfl (qbh rfl B.range (qad (qfw (qiE (pv 0) (fun _=>rfl)) (qau qaN rfl B.len qbd (qad (xI qas (pv 0)) qam)) qal) qam)) (qan (i:=5) nd rfl (Or.inr rfl)) (qaa (asS nd (qau qaN rfl B.len qbd (qad (pv 4) qam))) (qaa (qhp (i:=7) (N:=["place", "column", "left"]) (capt:=[none,some 5,some 2]) nd rfl li rfl (BlkOk.of rfl rfl rfl rfl (List.forall_mem_cons.mpr ⟨rfl,(List.forall_mem_singleton.mpr rfl)⟩) rfl rfl rfl) (qkA rfl B.range (qad (pv 6) (qad (qau qaN rfl B.len qbd (qad (pv 2) qam)) qam))) (fun _ _ _ _=>(qan (i:=0) (show (["place", "column", "left"]:List PySem.Str).Nodup by decide +kernel) rfl li)) (fun _ _ _ _=>(cR qhc (qch qas (qch qas (pv 2) (pv 0) (fun _ _=>rfl)) (pv 1) (fun _ _=>rfl)) qal)) (fun _ _ _ _=>(pv 0))) (qak (qb3 (qiE (pv 7) (fun _=>rfl)) (qaa (qbu (i:=2) nd rfl (Or.inr rfl) ((qio X G B).q3 hr (pv 2) (pv 6) (xI qas (pv 7)))) (qaa (asS nd ((qio X G B).q3 hr (pv 3) (pv 6) (xI qas (pv 7)))) (qaa (qbu (i:=8) nd rfl (Or.inr rfl) ((qfv X G B).q2 hr (qch qas (qch qas (pv 2) (pv 6) (fun _ _=>rfl)) (pv 5) (fun _ _=>rfl)) (pv 1))) (qaa (qbu (i:=9) nd rfl (Or.inr rfl) (qaF (N:=["whole", "prime", "factor"]) (capt:=[none,some 1,some 8]) rfl (BlkOk.of rfl rfl rfl rfl (List.forall_mem_cons.mpr ⟨rfl,(List.forall_mem_singleton.mpr rfl)⟩) rfl rfl rfl) (qaM (qch qas (pv 2) (pv 6) (fun _ _=>rfl))) (fun _ _ _ _=>(qan (i:=0) (show (["whole", "prime", "factor"]:List PySem.Str).Nodup by decide +kernel) rfl li)) (fun _ _ _ _=>(qaq qbl (qaq qaB (pv 0) (pv 2)) (pv 1))))) (qaa (qbu (i:=2) nd rfl (Or.inr rfl) (qaF (N:=["row", "lead", "column", "prime"]) (capt:=[none,some 9,some 5,some 1]) rfl (BlkOk.of rfl rfl rfl rfl (List.forall_mem_cons.mpr ⟨rfl,(List.forall_mem_cons.mpr ⟨rfl,(List.forall_mem_singleton.mpr rfl)⟩)⟩) rfl rfl rfl) (qaM (pv 2)) (fun _ _ _ _=>(qan (i:=0) (show (["row", "lead", "column", "prime"]:List PySem.Str).Nodup by decide +kernel) rfl li)) (fun _ _ _ _=>((qhH X G B).pe hr (by decide) rfl (qad (pv 0) (qad (pv 1) (qad (pv 2) (qad (pv 3) qam)))))))) (qaa (qed (pv 9) (qfb (pv 2) (pv 6) qck)) (qak (qhb (qmk PySem.F.plainAttrs_list PySem.F.slot_list_append PySem.F.type_list_append qeh (pv 4) (qad (pv 5) qam)))))))))) qaL))))) (qak (qaw (qbP (qad (qcj qdi (pv 2) qdf (qdg (qau qaN rfl B.len qbd (qad (pv 4) qam)))) (qad (qcj qdi (pv 3) qdf (qdg (qau qaN rfl B.len qbd (qad (pv 4) qam)))) (qad (pv 4) qam))))))))))
theorem qoq:CaH P w mg base 2 "ratio" ["top", "bottom"] qfE:=qa1 (f:=90) (c:=89) (pm:=mo1) (st:=qnL) X G fun F=>okm F (qmK ) fun hr nd hu ht=>(qaa (asS nd ((qdc X G B).q2 hr (pv 0) (pv 1))) (qaa (qb3 (cR qnz (pv 1) qal) (qak (asS nd (qjQ qgC (pv 2)))) qaL) (qak (qaw (qbP (qad (qaq qei (pv 0) (pv 2)) (qad (qaq qei (pv 1) (pv 2)) qam)))))))
theorem ql8:CaH P w mg base 2 "cleared" ["P"] qeY:=qa1 (f:=95) (c:=94) (pm:=mo2) (st:=qkW) X G fun F=>okm F (qkj ) fun hr nd hu ht=>(qaa (qbu (i:=1) nd rfl (Or.inr rfl) qal) (qaa (qc5 PassesOwn.never rfl (qld (pv 0)) (qan (i:=2) nd rfl li) (qak (qgB (i:=1) nd rfl (Or.inr rfl) (qaq qc0 (xI qar (pv 2)) ((qdc X G B).q2 hr (pv 1) (xI qar (pv 2)))) qfA))) (qak (qaw (qbP (qad (qaF (N:=["number", "bottom"]) (capt:=[none,some 1]) rfl (BlkOk.of rfl rfl rfl rfl (List.forall_mem_singleton.mpr rfl) rfl rfl rfl) (qld (pv 0)) (fun _ _ _ _=>(qan (i:=0) (show (["number", "bottom"]:List PySem.Str).Nodup by decide +kernel) rfl li)) (fun _ _ _ _=>(qaq qaB (xI qar (pv 0)) (qaq qc0 (pv 1) (xI qar (pv 0)))))) (qad (pv 1) qam)))))))
theorem qiq:CaH P w mg base 2 "crossed" ["rows"] qdK:=qa1 (f:=148) (c:=147) (pm:=mo3) (st:=qkX) X G fun F=>okm F (qkn ) fun hr nd hu ht=>(qak (qaw (qaF (N:=["place", "rows"]) (capt:=[none,some 0]) rfl (BlkOk.of rfl rfl rfl rfl (List.forall_mem_singleton.mpr rfl) rfl rfl rfl) (qbh rfl B.range (qad ((qe9 X G B).q1 hr (pv 0)) qam)) (fun _ _ _ _=>(qan (i:=0) (show (["place", "rows"]:List PySem.Str).Nodup by decide +kernel) rfl li)) (fun _ _ _ _=>((qgf X G B).q2 hr (pv 1) (pv 0))))))
theorem qmZ:CaH P w mg base 2 "solves" ["minor", "guess", "due"] qfZ:=qa1 (f:=180) (c:=179) (pm:=mo3) (st:=qmq) X G fun F=>okm F (qlT ) fun hr nd hu ht=>(qaa (qc5 PassesOwn.never rfl (qdO rfl B.zip (qad (pv 0) (qad (pv 2) qam))) (qbi rfl (qax (qan (i:=3) nd rfl li) (qax (qan (i:=4) nd rfl li) qbg))) (qak (qb3 (cR qhc ((ql7 X G B).q2 hr (pv 3) (xI qar (pv 1))) (qaq qaB (pv 4) (xI qar (pv 1)))) (qak (qaw qjM)) qaL))) (qak (qaw qjM)))
theorem ql9:CaH P w mg base 2 "guessed" ["places", "modulus"] qeZ:=qa1 (f:=185) (c:=184) (pm:=mo3) (st:=qkZ) X G fun F=>okm F (qko ) fun hr nd hu ht=>(qaa (asS nd (qaq qoW qal (qaq qc0 (qaq qb4 (qoI PySem.F.plainAttrs_int PySem.F.slot_int_bit_length PyProof.Rows.type_int_bit_length qnY (pv 1)) qal) qal))) (qaa (qbu (i:=3) nd rfl (Or.inr rfl) qal) (qaa (qc5 PassesOwn.never rfl (qaM (pv 0)) (qan (i:=4) nd rfl li) (qak (qb3 (cR qeg (qau qcN rfl B.abs qgF (qad ((qip X G B).q2 hr (qaq qaB (pv 4) (pv 3)) (pv 1)) qam)) (pv 2)) (qaa (qgB (i:=3) nd rfl (Or.inr rfl) ((qgg X G B).q3 hr (qaq qbl (qaq qaB (pv 4) (pv 3)) (pv 1)) (pv 1) (pv 2)) qfA) (qak (qb3 (cR qeg (pv 3) (pv 2)) (qak (qaw qi2)) qaL))) qaL))) (qak (qaw (qbP (qad (qaF (N:=["place", "modulus", "bottom"]) (capt:=[none,some 1,some 3]) rfl (BlkOk.of rfl rfl rfl rfl (List.forall_mem_cons.mpr ⟨rfl,(List.forall_mem_singleton.mpr rfl)⟩) rfl rfl rfl) (qaM (pv 0)) (fun _ _ _ _=>(qan (i:=0) (show (["place", "modulus", "bottom"]:List PySem.Str).Nodup by decide +kernel) rfl li)) (fun _ _ _ _=>((qip X G B).q2 hr (qaq qaB (pv 0) (pv 2)) (pv 1)))) (qad (pv 3) qam))))))))
theorem qg9:CaH P w mg base 2 "_law_number" ["_law_box_here"] qcb:=qa1 (f:=220) (c:=219) (pm:=mo4) (st:=qj2) X G fun F=>okm F (qiW ) fun hr nd hu ht=>(qaa (asS nd ((qaX X G B).q2 hr (pv 0) qal)) (qaa (qb3 (cR qeS (pv 1) qal) (qak (qaw (qbP (qad (qaq qb4 ((qaX X G B).q2 hr (pv 0) qal) qal) (qad qal qam))))) qaL) (qaa (qb3 (cR qeS (pv 1) qal) (qak (qaw ((qcZ X G B).q2 hr (qaq qb4 ((qaX X G B).q2 hr (pv 0) qal) qal) (qaq qci qal ((qaX X G B).q2 hr (pv 0) qal))))) qaL) (qaa (qb3 (cR qeS (pv 1) qal) (qak (qaw ((qcZ X G B).q2 hr (qaq qb4 ((qaX X G B).q2 hr (pv 0) qal) qal) (qaq qci qal ((qaX X G B).q2 hr (pv 0) qal))))) qaL) (qak (qaw (qbP (qad (qaq qb4 ((qaX X G B).q2 hr (pv 0) qal) qal) (qad qal qam)))))))))
theorem qhK:CaH P w mg base 2 "_law_sum" ["_law_one", "_law_other"] qen:=qa1 (f:=227) (c:=226) (pm:=mo4) (st:=qnN) X G fun F=>okm F (qmV ) fun hr nd hu ht=>(qak (qaw ((qcZ X G B).q2 hr (qaq qci (qaq qaB (xI qar (pv 0)) (xI qar (pv 1))) (qaq qaB (xI qar (pv 1)) (xI qar (pv 0)))) (qaq qaB (xI qar (pv 0)) (xI qar (pv 1))))))
theorem qd9:CaH P w mg base 2 "_law_product" ["_law_one", "_law_other"] qcl:=qa1 (f:=234) (c:=233) (pm:=mo4) (st:=qiA) X G fun F=>okm F (qik ) fun hr nd hu ht=>(qak (qaw ((qcZ X G B).q2 hr (qaq qaB (xI qar (pv 0)) (xI qar (pv 1))) (qaq qaB (xI qar (pv 0)) (xI qar (pv 1))))))
theorem qir:CaH P w mg base 2 "_law_small" ["_law_box_here"] qcS:=qa1 (f:=255) (c:=254) (pm:=mo4) (st:=qk0) X G fun F=>okm F (qks ) fun hr nd hu ht=>(qak (qaw ((qcZ X G B).q2 hr (qaq qb4 ((qaX X G B).q2 hr (pv 0) qal) qal) (qaq qci qal (qaq qhl ((qaX X G B).q2 hr (pv 0) qal) qal)))))
theorem qhL:CaH P w mg base 3 "other_prime" ["prime"] qcH:=qa1 (f:=42) (c:=41) (pm:=mo0) (st:=qhg) X G fun F=>okm F (qgu ) fun hr nd hu ht=>(qak (qaw (qfw (cR qeS (pv 0) (qix rfl B.FIRST_PRIME ⟨_,rfl⟩)) (qix rfl B.SECOND_PRIME ⟨_,rfl⟩) ((qhJ X G B).q1 hr (pv 0)))))
theorem qcK:CaH P w mg base 3 "numbers_over" ["wholes", "bottom"] qa4:=qa1 (f:=143) (c:=142) (pm:=mo3) (st:=qgo) X G fun F=>okm F (qgc ) fun hr nd hu ht=>(qak (qaw (qbv qh4 rfl B.tuple qi8 (qad (qaF (N:=["whole", "bottom"]) (capt:=[none,some 1]) rfl (BlkOk.of rfl rfl rfl rfl (List.forall_mem_singleton.mpr rfl) rfl rfl rfl) (qaM (pv 0)) (fun _ _ _ _=>(qan (i:=0) (show (["whole", "bottom"]:List PySem.Str).Nodup by decide +kernel) rfl li)) (fun _ _ _ _=>((qoq X G B).q2 hr (pv 0) (pv 1)))) qam))))
theorem qgy:CaH P w mg base 3 "inverse_rows" ["rows", "prime"] qb9:=qa1 (f:=158) (c:=157) (pm:=mo3) (st:=qgp) X G fun F=>okm F (qgd ) fun hr nd hu ht=>(qaa (qbu (i:=2) nd rfl (Or.inr rfl) (qau qaN rfl B.len qbd (qad (pv 0) qam))) (qaa (qa2 (i:=3) (N:=["place", "row", "many"]) (capt:=[none,none,some 2]) nd rfl li rfl (BlkOk.of rfl rfl rfl rfl (List.forall_mem_singleton.mpr rfl) rfl rfl rfl) (qi9 rfl B.enumerate (qad (pv 0) qam)) (fun _ _ _ _=>(qbi rfl (qax (qan (i:=0) (show (["place", "row", "many"]:List PySem.Str).Nodup by decide +kernel) rfl li) (qax (qan (i:=1) (show (["place", "row", "many"]:List PySem.Str).Nodup by decide +kernel) rfl li) qbg)))) (fun _ _ _ _=>(qaq qm4 (pv 1) ((qfH X G B).q3 hr (qcL (qad (pv 0) qam)) (qcL (qad qal qam)) (pv 2))))) (qak (qaw (qaF (N:=["row", "many"]) (capt:=[none,some 2]) rfl (BlkOk.of rfl rfl rfl rfl (List.forall_mem_singleton.mpr rfl) rfl rfl rfl) (qaM (xI qar ((qdd X G B).q2 hr (pv 3) (pv 1)))) (fun _ _ _ _=>(qan (i:=0) (show (["row", "many"]:List PySem.Str).Nodup by decide +kernel) rfl li)) (fun _ _ _ _=>(qcj qdi (pv 0) (qdg (pv 1)) qdf)))))))
theorem qgh:CaH P w mg base 3 "settled" ["minor", "turned", "due", "prime"] qcR:=qa1 (f:=173) (c:=172) (pm:=mo3) (st:=qkY) X G fun F=>okm F (qkp ) fun hr nd hu ht=>(qaa (asS nd (pv 2)) (qaa (asS nd (qaq qm5 (qcL (qad qal qam)) (qau qaN rfl B.len qbd (qad (pv 2) qam)))) (qaa (qbu (i:=6) nd rfl (Or.inr rfl) qal) (qaa (asS nd qal) (qak (qbY PassesOwn.never (qgz qjM) (qaa (qc5 PassesOwn.never rfl (qbh rfl B.range (qad (pv 7) qam)) (qan (i:=8) nd rfl li) (qaa (qbu (i:=9) nd rfl (Or.inr rfl) (qaF (N:=["whole", "prime"]) (capt:=[none,some 3]) rfl (BlkOk.of rfl rfl rfl rfl (List.forall_mem_singleton.mpr rfl) rfl rfl rfl) (qaM (pv 4)) (fun _ _ _ _=>(qan (i:=0) (show (["whole", "prime"]:List PySem.Str).Nodup by decide +kernel) rfl li)) (fun _ _ _ _=>(qaq qbl (pv 0) (pv 1))))) (qaa (qbu (i:=10) nd rfl (Or.inr rfl) (qaF (N:=["row", "prime", "short"]) (capt:=[none,some 3,some 9]) rfl (BlkOk.of rfl rfl rfl rfl (List.forall_mem_cons.mpr ⟨rfl,(List.forall_mem_singleton.mpr rfl)⟩) rfl rfl rfl) (qaM (pv 1)) (fun _ _ _ _=>(qan (i:=0) (show (["row", "prime", "short"]:List PySem.Str).Nodup by decide +kernel) rfl li)) (fun _ _ _ _=>(qaq qbl ((ql7 X G B).q2 hr (pv 0) (pv 2)) (pv 1))))) (qaa (qa2 (i:=5) (N:=["whole", "more", "scale"]) (capt:=[none,none,some 6]) nd rfl li rfl (BlkOk.of rfl rfl rfl rfl (List.forall_mem_singleton.mpr rfl) rfl rfl rfl) (qdO rfl B.zip (qad (pv 5) (qad (pv 10) qam))) (fun _ _ _ _=>(qbi rfl (qax (qan (i:=0) (show (["whole", "more", "scale"]:List PySem.Str).Nodup by decide +kernel) rfl li) (qax (qan (i:=1) (show (["whole", "more", "scale"]:List PySem.Str).Nodup by decide +kernel) rfl li) qbg)))) (fun _ _ _ _=>(qaq qci (pv 0) (qaq qaB (pv 2) (pv 1))))) (qaa (qa2 (i:=4) (N:=["whole", "row", "prime", "found"]) (capt:=[none,none,some 3,some 10]) nd rfl li rfl (BlkOk.of rfl rfl rfl rfl (List.forall_mem_cons.mpr ⟨rfl,(List.forall_mem_singleton.mpr rfl)⟩) rfl rfl rfl) (qdO rfl B.zip (qad (pv 4) (qad (pv 0) qam))) (fun _ _ _ _=>(qbi rfl (qax (qan (i:=0) (show (["whole", "row", "prime", "found"]:List PySem.Str).Nodup by decide +kernel) rfl li) (qax (qan (i:=1) (show (["whole", "row", "prime", "found"]:List PySem.Str).Nodup by decide +kernel) rfl li) qbg)))) (fun _ _ _ _=>(qaq qc0 (qaq qb4 (pv 0) ((ql7 X G B).q2 hr (pv 1) (pv 3))) (pv 2)))) (qak (qgB (i:=6) nd rfl (Or.inr rfl) (pv 3) qfA))))))) (qaa (asS nd ((ql9 X G B).q2 hr (pv 5) (pv 6))) (qaa (qb3 (PW.pt (qgA (cR qnA (pv 11) qi2) (qeQ (qgz ((qmZ X G B).q3 hr (pv 0) (pv 11) (pv 2)))))) (qak (qaw (pv 11))) qaL) (qak (qgB (i:=7) nd rfl li qal qfA)))))))))))
theorem qi0:CaH P w mg base 3 "_law_weighed" ["_law_row", "_law_weights"] qcn:=qa1 (f:=248) (c:=247) (pm:=mo4) (st:=qiB) X G fun F=>okm F (qil ) fun hr nd hu ht=>(qaa (asS nd (qbP (qad qal (qad qal qam)))) (qaa (qc5 PassesOwn.never rfl (qn1 rfl B.zip (qad (pv 0) (qad (pv 1) qam))) (qbi rfl (qax (qan (i:=3) nd rfl li) (qax (qan (i:=4) nd rfl li) qbg))) (qak (asS nd ((qhK X G B).q2 hr (pv 2) ((qd9 X G B).q2 hr (pv 3) (pv 4)))))) (qak (qaw (pv 2)))))
theorem qjK:CaH P w mg base 3 "_law_rank" ["_law_rows"] qeo:=qa1 (f:=265) (c:=264) (pm:=mo4) (st:=qms) X G fun F=>okm F (ql4 ) fun hr nd hu ht=>(qaa (qa2 (i:=0) (N:=["_law_row"]) (capt:=[none]) nd rfl li rfl (BlkOk.of rfl rfl rfl rfl (fun _ h=>nomatch h) rfl rfl rfl) (qld (pv 0)) (fun _ _ _ _=>(qan (i:=0) (show (["_law_row"]:List PySem.Str).Nodup by decide +kernel) rfl li)) (fun _ _ _ _=>(qbv qkb rfl B.list qhk (qad (pv 0) qam)))) (qaa (asS nd qal) (qaa (qbY PassesOwn.never (PW.pt (qgA (cR qeg (qau qaN rfl B.len qbd (qad (pv 0) qam)) qal) (qeQ (cR qeg (qau qaN rfl B.len qbd (qad (xI qas (pv 0)) qam)) qal)))) (qaa (qhp (i:=2) (N:=["_law_row"]) (capt:=[none]) nd rfl li rfl (BlkOk.of rfl rfl rfl rfl (fun _ h=>nomatch h) rfl rfl rfl) (qaM (pv 0)) (fun _ _ _ _=>(qan (i:=0) (show (["_law_row"]:List PySem.Str).Nodup by decide +kernel) rfl li)) (fun _ _ _ _=>(cR qhc (xI qar (xI qas (pv 0))) qal)) (fun _ _ _ _=>(pv 0))) (qaa (qhp (i:=3) (N:=["_law_row"]) (capt:=[none]) nd rfl li rfl (BlkOk.of rfl rfl rfl rfl (fun _ h=>nomatch h) rfl rfl rfl) (qaM (pv 0)) (fun _ _ _ _=>(qan (i:=0) (show (["_law_row"]:List PySem.Str).Nodup by decide +kernel) rfl li)) (fun _ _ _ _=>(cR qeS (xI qar (xI qas (pv 0))) qal)) (fun _ _ _ _=>(qcj qdi (pv 0) (qdg qal) qdf))) (qaa (qb3 (cR qeg (qau qaN rfl B.len qbd (qad (pv 2) qam)) qal) (qaa (asS nd (qaq qci (pv 1) qal)) (qaa (asS nd (xI qas (pv 2))) (qaa (asS nd (qbP (qad (qaq qaB (xI qar (xI qas (pv 4))) (qch qas (qcL (qad (qjQ qgC qal) (qad qal qam))) (qbv qfO rfl B.int qk4 (qad (qd1 qnz (xI qar (xI qas (pv 4))) qal (nomark _)) qam)) (fun _ _=>rfl))) (qad (qau qcN rfl B.abs qgF (qad (xI qar (xI qas (pv 4))) qam)) qam)))) (qak (qc5 PassesOwn.never rfl (qaM (qcj qdi (pv 2) (qdg qal) qdf)) (qan (i:=6) nd rfl li) (qaa (qbu (i:=7) nd rfl (Or.inr rfl) ((qd9 X G B).q2 hr (xI qas (pv 6)) (pv 5))) (qak (qhb (qmk PySem.F.plainAttrs_list PySem.F.slot_list_append PySem.F.type_list_append qeh (pv 3) (qad (qaF (N:=["_law_one", "_law_other", "_law_share"]) (capt:=[none,none,some 7]) rfl (BlkOk.of rfl rfl rfl rfl (List.forall_mem_singleton.mpr rfl) rfl rfl rfl) (qdO rfl B.zip (qad (qcj qdi (pv 6) (qdg qal) qdf) (qad (qcj qdi (pv 4) (qdg qal) qdf) qam))) (fun _ _ _ _=>(qbi rfl (qax (qan (i:=0) (show (["_law_one", "_law_other", "_law_share"]:List PySem.Str).Nodup by decide +kernel) rfl li) (qax (qan (i:=1) (show (["_law_one", "_law_other", "_law_share"]:List PySem.Str).Nodup by decide +kernel) rfl li) qbg)))) (fun _ _ _ _=>((qhK X G B).q2 hr (pv 0) ((qd9 X G B).q2 hr (pv 2) (pv 1))))) qam)))))))))) qaL) (qak (asS nd (pv 3))))))) (qak (qaw (pv 1))))))
theorem qnt:Mak P w (hp w.params) mg base 4 "Core" (qbo (hp w.params)) ["self", "sides", "prime"] (qa5 (hp w.params)):=by
  rw [qpr]
  have F:=qm6 (x := "__init__") (qual := "Core.__init__") (st:=qfL) (show (hp w.params).lookup 112=some (fnQ "__init__" "Core.__init__" qfL mo3 111) by kernel_rfl) (by kernel_rfl) (by kernel_rfl)
  exact ⟨112,_,⟨by kernel_rfl,by kernel_rfl,by kernel_rfl,by kernel_rfl⟩,okm F (qig qmY) fun hr nd hu ht=>(qaa (asS nd ((qdd X G B).q2 hr (pv 1) (pv 2))) (qaa (qhR (pv 0) (pv 2) rfl) (qaa (qhR (pv 0) (xI qar (pv 3)) rfl) (qaa (qhR (pv 0) (xI qar (pv 3)) rfl) (qaa (qhR (pv 0) (qaF (N:=["line", "sides", "self"]) (capt:=[none,some 1,some 0]) rfl (BlkOk.of rfl rfl rfl rfl (List.forall_mem_cons.mpr ⟨rfl,(List.forall_mem_singleton.mpr rfl)⟩) rfl rfl rfl) (qaM (qbe (pv 0) rfl)) (fun _ _ _ _=>(qan (i:=0) (show (["line", "sides", "self"]:List PySem.Str).Nodup by decide +kernel) rfl li)) (fun _ _ _ _=>((qhI X G B).q2 hr (qch qas (pv 1) (pv 0) (fun _ _=>rfl)) (qbe (pv 2) rfl)))) rfl) (qak (qhR (pv 0) ((qgy X G B).q2 hr (qbe (pv 0) rfl) (pv 2)) rfl))))))),F.binds fun _ _ _ _ _ _ us hl=>by obtain ⟨_,_,_,rfl⟩:=qp1 us hl;rfl,PySem.W.mg_of X G (by kernel_rfl)⟩
theorem qha:CaH P w mg base 4 "frees_of" ["sides", "core"] qca:=qa1 (f:=163) (c:=162) (pm:=mo3) (st:=qj0) X G fun F=>okm F (qiU qmY) fun hr nd hu ht=>(qaa (asS nd ((qe9 X G B).q1 hr (pv 0))) (qaa (asS nd (qcL qam)) (qaa (qc5 PassesOwn.never rfl (qbh rfl B.range (qad (pv 2) qam)) (qan (i:=4) nd rfl (Or.inr rfl)) (qak (qb3 (qkH (qlb ht) (pv 4) (qbe (pv 1) rfl) rfl) (qaa (qa2 (i:=5) (N:=["line", "column", "sides"]) (capt:=[none,some 4,some 0]) nd rfl li rfl (BlkOk.of rfl rfl rfl rfl (List.forall_mem_cons.mpr ⟨rfl,(List.forall_mem_singleton.mpr rfl)⟩) rfl rfl rfl) (qaM (qbe (pv 1) rfl)) (fun _ _ _ _=>(qan (i:=0) (show (["line", "column", "sides"]:List PySem.Str).Nodup by decide +kernel) rfl li)) (fun _ _ _ _=>(qjQ qgC (qch qas (qch qas (pv 2) (pv 0) (fun _ _=>rfl)) (pv 1) (fun _ _=>rfl))))) (qaa (asS nd ((qgh X G B).pe hr (by decide) rfl (qad (qbe (pv 1) rfl) (qad (qbe (pv 1) rfl) (qad (pv 5) (qad (qbe (pv 1) rfl) qam)))))) (qaa (qbu (i:=7) nd rfl (Or.inr rfl) ((qfH X G B).q3 hr (qbe (pv 1) rfl) (xI qar (pv 6)) (pv 2))) (qaa (qed (xI qar (pv 6)) (qfb (pv 7) (pv 4) qck)) (qaa (qb3 (qgz (qau (qk9 rfl) rfl B.any qoR (qad (qaF (N:=["side", "row"]) (capt:=[none,some 7]) rfl (BlkOk.of rfl rfl rfl rfl (List.forall_mem_singleton.mpr rfl) rfl rfl rfl) (qaM (pv 0)) (fun _ _ _ _=>(qan (i:=0) (show (["side", "row"]:List PySem.Str).Nodup by decide +kernel) rfl li)) (fun _ _ _ _=>((ql7 X G B).q2 hr (pv 0) (pv 1)))) qam))) (qak (qaw qi2)) qaL) (qak (qhb (qmk PySem.F.plainAttrs_list PySem.F.slot_list_append PySem.F.type_list_append qeh (pv 3) (qad ((qcK X G B).q2 hr (pv 7) (xI qar (pv 6))) qam))))))))) qaL))) (qak (qaw (pv 3))))))
theorem qfa:CaH P w mg base 4 "weights_against" ["sides", "core", "place"] qbk:=qa1 (f:=168) (c:=167) (pm:=mo3) (st:=qeU) X G fun F=>okm F (qeP qmY) fun hr nd hu ht=>(qaa (asS nd ((qhI X G B).q2 hr (qch qas (pv 0) (pv 2) (fun _ _=>rfl)) (qbe (pv 1) rfl))) (qaa (asS nd ((qgh X G B).pe hr (by decide) rfl (qad ((qiq X G B).q1 hr (qbe (pv 1) rfl)) (qad ((qiq X G B).q1 hr (qbe (pv 1) rfl)) (qad (pv 3) (qad (qbe (pv 1) rfl) qam)))))) (qaa (asS nd ((qfH X G B).q3 hr (qbe (pv 1) rfl) (qaF (N:=["whole"]) (capt:=[none]) rfl (BlkOk.of rfl rfl rfl rfl (fun _ h=>nomatch h) rfl rfl rfl) (qaM (xI qar (pv 4))) (fun _ _ _ _=>(qan (i:=0) (show (["whole"]:List PySem.Str).Nodup by decide +kernel) rfl li)) (fun _ _ _ _=>(qjQ qgC (pv 0)))) (qau qaN rfl B.len qbd (qad (pv 0) qam)))) (qaa (qed (xI qar (pv 4)) (qfb (pv 5) (pv 2) qck)) (qak (qaw (qbP (qad (pv 5) (qad (xI qar (pv 4)) qam)))))))))
theorem qhM:CaH P w mg base 4 "_law_equations" ["_law_script", "_law_k"] qcI:=qa1 (f:=260) (c:=259) (pm:=mo4) (st:=qhi) X G fun F=>okm F (qgw ) fun hr nd hu ht=>(qaa (qbu (i:=2) nd rfl (Or.inr rfl) ((qop X G B).q2 hr (pv 0) (pv 1))) (qaa (asS nd (qch qas (qcL (qad qal (qad qal qam))) (qbv qfO rfl B.int qk4 (qad (qd1 qeS ((qaX X G B).q2 hr (pv 2) qal) qal (nomark _)) qam)) (fun _ _=>rfl))) (qaa (asS nd ((qaX X G B).q2 hr (pv 2) (pv 3))) (qaa (asS nd ((qaX X G B).q2 hr (pv 2) (pv 3))) (qaa (asS nd (qcL qam)) (qaa (qc5 PassesOwn.never rfl (qbh rfl B.range (qad (pv 4) qam)) (qan (i:=7) nd rfl li) (qaa (qa2 (i:=8) (N:=["_law_i", "_law_box_here"]) (capt:=[none,some 2]) nd rfl li rfl (BlkOk.of rfl rfl rfl rfl (List.forall_mem_singleton.mpr rfl) rfl rfl rfl) (qbh rfl B.range (qad (pv 5) qam)) (fun _ _ _ _=>(qan (i:=0) (show (["_law_i", "_law_box_here"]:List PySem.Str).Nodup by decide +kernel) rfl li)) (fun _ _ _ _=>((qir X G B).q1 hr (pv 1)))) (qaa (qb3 (PW.pt (qgA (cR qeS (pv 3) qal) (qeQ (cR qeS ((qaX X G B).q2 hr (pv 2) qal) qal)))) (qak (qa2 (i:=8) (N:=["_law_i", "_law_box_here"]) (capt:=[none,some 2]) nd rfl li rfl (BlkOk.of rfl rfl rfl rfl (List.forall_mem_singleton.mpr rfl) rfl rfl rfl) (qbh rfl B.range (qad (pv 5) qam)) (fun _ _ _ _=>(qan (i:=0) (show (["_law_i", "_law_box_here"]:List PySem.Str).Nodup by decide +kernel) rfl li)) (fun _ _ _ _=>((qg9 X G B).q1 hr (pv 1))))) qaL) (qaa (qb3 (PW.pt (qgA (cR qeg (pv 7) qal) (qeQ (cR qeS ((qaX X G B).q2 hr (pv 2) qal) qal)))) (qak (qa2 (i:=8) (N:=["_law_one", "_law_other"]) (capt:=[none,none]) nd rfl li rfl (BlkOk.of rfl rfl rfl rfl (fun _ h=>nomatch h) rfl rfl rfl) (qdO rfl B.zip (qad (qch qas (pv 6) (qaq qb4 (pv 7) qal) (fun _ _=>rfl)) (qad (qch qas (pv 6) (qaq qb4 (pv 7) qal) (fun _ _=>rfl)) qam))) (fun _ _ _ _=>(qbi rfl (qax (qan (i:=0) (show (["_law_one", "_law_other"]:List PySem.Str).Nodup by decide +kernel) rfl li) (qax (qan (i:=1) (show (["_law_one", "_law_other"]:List PySem.Str).Nodup by decide +kernel) rfl li) qbg)))) (fun _ _ _ _=>((qhK X G B).q2 hr (pv 0) (pv 1))))) qaL) (qak (qhb (qmk PySem.F.plainAttrs_list PySem.F.slot_list_append PySem.F.type_list_append qeh (pv 6) (qad (pv 8) qam)))))))) (qaa (qbu (i:=9) nd rfl (Or.inr rfl) (qaF (N:=["_law_i", "_law_box_here"]) (capt:=[none,some 2]) rfl (BlkOk.of rfl rfl rfl rfl (List.forall_mem_singleton.mpr rfl) rfl rfl rfl) (qbh rfl B.range (qad (pv 5) qam)) (fun _ _ _ _=>(qan (i:=0) (show (["_law_i", "_law_box_here"]:List PySem.Str).Nodup by decide +kernel) rfl li)) (fun _ _ _ _=>((qg9 X G B).q1 hr (pv 1))))) (qaa (qa2 (i:=10) (N:=["_law_row", "_law_wanted"]) (capt:=[none,some 9]) nd rfl li rfl (BlkOk.of rfl rfl rfl rfl (List.forall_mem_singleton.mpr rfl) rfl rfl rfl) (qaM (pv 6)) (fun _ _ _ _=>(qan (i:=0) (show (["_law_row", "_law_wanted"]:List PySem.Str).Nodup by decide +kernel) rfl li)) (fun _ _ _ _=>((qi0 X G B).q2 hr (pv 0) (pv 1)))) (qaa (asS nd (qd1 qeS ((qaX X G B).q2 hr (pv 2) qal) qal (nomark _))) (qaa (qb3 (qm0 (qgz (pv 11))) (qak (qa2 (i:=10) (N:=["_law_one", "_law_box_here"]) (capt:=[none,some 2]) nd rfl li rfl (BlkOk.of rfl rfl rfl rfl (List.forall_mem_singleton.mpr rfl) rfl rfl rfl) (qaM (pv 10)) (fun _ _ _ _=>(qan (i:=0) (show (["_law_one", "_law_box_here"]:List PySem.Str).Nodup by decide +kernel) rfl li)) (fun _ _ _ _=>((qhK X G B).q2 hr (pv 0) ((qir X G B).q1 hr (pv 1)))))) qaL) (qak (qaw (qbP (qad (pv 6) (qad (pv 10) (qad (pv 11) qam))))))))))))))))
theorem qjL:CaH P w mg base 6 "solved" ["rows", "due"] qdn:=qa1 (f:=100) (c:=99) (pm:=mo3) (st:=qmn) X G fun F=>okm F (qlZ qmY) fun hr nd hu ht=>(qaa (qa2 (i:=2) (N:=["row", "number"]) (capt:=[none,none]) nd rfl li rfl (BlkOk.of rfl rfl rfl rfl (fun _ h=>nomatch h) rfl rfl rfl) (qdO rfl B.zip (qad (pv 0) (qad (pv 1) qam))) (fun _ _ _ _=>(qbi rfl (qax (qan (i:=0) (show (["row", "number"]:List PySem.Str).Nodup by decide +kernel) rfl li) (qax (qan (i:=1) (show (["row", "number"]:List PySem.Str).Nodup by decide +kernel) rfl li) qbg)))) (fun _ _ _ _=>((ql8 X G B).q1 hr (qaq qm4 (qbv qgG rfl B.list qhk (qad (pv 0) qam)) (qcL (qad (pv 1) qam)))))) (qaa (qa2 (i:=3) (N:=["line"]) (capt:=[none]) nd rfl li rfl (BlkOk.of rfl rfl rfl rfl (fun _ h=>nomatch h) rfl rfl rfl) (qaM (pv 2)) (fun _ _ _ _=>(qan (i:=0) (show (["line"]:List PySem.Str).Nodup by decide +kernel) rfl li)) (fun _ _ _ _=>(qcj qdi (xI qar (pv 0)) qdf (qdg (qjQ qgC qal))))) (qaa (qa2 (i:=4) (N:=["line"]) (capt:=[none]) nd rfl li rfl (BlkOk.of rfl rfl rfl rfl (fun _ h=>nomatch h) rfl rfl rfl) (qaM (pv 2)) (fun _ _ _ _=>(qan (i:=0) (show (["line"]:List PySem.Str).Nodup by decide +kernel) rfl li)) (fun _ _ _ _=>(qch qas (xI qar (pv 0)) (qjQ qgC qal) (fun _ _=>rfl)))) (qaa (asS nd ((qnt X G B).pe hr (by decide) rfl (qad (pv 3) (qad (qix rfl B.FIRST_PRIME ⟨_,rfl⟩) qam)))) (qaa (asS nd ((qha X G B).q2 hr (pv 3) (pv 5))) (qaa (qbY PassesOwn.never (cR qoE (pv 6) qi2) (qaa (asS nd ((qnt X G B).pe hr (by decide) rfl (qad (pv 3) (qad ((qhL X G B).q1 hr (qbe (pv 5) rfl)) qam)))) (qak (asS nd ((qha X G B).q2 hr (pv 3) (pv 5)))))) (qaa (asS nd ((qgh X G B).pe hr (by decide) rfl (qad (qbe (pv 5) rfl) (qad (qbe (pv 5) rfl) (qad ((qhI X G B).q2 hr (pv 4) (qbe (pv 5) rfl)) (qad (qbe (pv 5) rfl) qam)))))) (qaa (asS nd ((qfH X G B).q3 hr (qbe (pv 5) rfl) (xI qar (pv 7)) ((qe9 X G B).q1 hr (pv 3)))) (qaa (qc5 PassesOwn.never rfl (qi9 rfl B.enumerate (qad (pv 3) qam)) (qbi rfl (qax (qan (i:=9) nd rfl li) (qax (qan (i:=10) nd rfl li) qbg))) (qak (qb3 (cR qhc ((ql7 X G B).q2 hr (pv 10) (pv 8)) (qaq qaB (qch qas (pv 4) (pv 9) (fun _ _=>rfl)) (xI qar (pv 7)))) (qaa (asS nd ((qfa X G B).q3 hr (pv 3) (pv 5) (pv 9))) (qaa (qa2 (i:=12) (N:=["weight", "line"]) (capt:=[none,none]) nd rfl li rfl (BlkOk.of rfl rfl rfl rfl (fun _ h=>nomatch h) rfl rfl rfl) (qdO rfl B.zip (qad (xI qar (pv 11)) (qad (pv 2) qam))) (fun _ _ _ _=>(qbi rfl (qax (qan (i:=0) (show (["weight", "line"]:List PySem.Str).Nodup by decide +kernel) rfl li) (qax (qan (i:=1) (show (["weight", "line"]:List PySem.Str).Nodup by decide +kernel) rfl li) qbg)))) (fun _ _ _ _=>(qaq qaB (pv 0) (xI qar (pv 1))))) (qak (qaw (qbP (qad qi3 (qad ((qcK X G B).q2 hr (pv 12) (xI qar (pv 11))) qam))))))) qaL))) (qak (qaw (qbP (qad qi3 (qad ((qcK X G B).q2 hr (pv 8) (xI qar (pv 7))) (qad (qbv qh4 rfl B.tuple qi8 (qad (pv 6) qam)) qam)))))))))))))))
end
theorem all_mk {l:PySem.W.OpenLaw} {w:World} {h:Heap} {mg:Str→Option Value} {fa:Addr} (X:(hp w.params).In h) (G:h.Ns mainGlobals mg) (hfa:mg "law" = some (.ref fa))
    : ∃ fd:FuncData,(∀ (s:Shared) (v:Value),BindsTo s fd ⟨[v],[]⟩ [("_law_script", v)])∧∀ base:Heap,(hp w.params).In base→base.Ns mainGlobals mg→FnOk l.prog w (hp w.params) mg base CX0 7 fa fd ["_law_script"] (qjr (hp w.params)):=by
  have e:=hfa.symm.trans (PySem.W.mg_of X G (n := "law") (v:=.ref 272) (by kernel_rfl))
  cases e
  have B:Bl (hp w.params) mg:=⟨PySem.W.mg_none_of X G (by kernel_rfl),PySem.W.mg_of X G (by kernel_rfl),PySem.W.mg_of X G (by kernel_rfl),PySem.W.mg_none_of X G (by kernel_rfl),PySem.W.mg_none_of X G (by kernel_rfl),PySem.W.mg_none_of X G (by kernel_rfl),PySem.W.mg_none_of X G (by kernel_rfl),PySem.W.mg_none_of X G (by kernel_rfl),PySem.W.mg_none_of X G (by kernel_rfl),PySem.W.mg_none_of X G (by kernel_rfl),PySem.W.mg_none_of X G (by kernel_rfl),PySem.W.mg_none_of X G (by kernel_rfl),PySem.W.mg_none_of X G (by kernel_rfl),PySem.W.mg_none_of X G (by kernel_rfl)⟩
  have FL:=qoo (K:=hp w.params) (st:=qmt) (f:=272) (c:=271) (n := "law") (pm:=mo4) (by kernel_rfl) (by kernel_rfl) (by kernel_rfl)
  refine ⟨PySem.W.fnOf "law" "law" (qb5 qmt) (qbn qmt) (qaH qmt) .none .none .none mo4 none (.ref 271) .none,fun s v=>.of_eq rfl,fun base KB _=>?_⟩
  exact okm FL (qpp ) fun hr nd hu ht=>(qaa (qc5 PassesOwn.never rfl (qbh rfl B.range (qad (qau (qk6 rfl) rfl B.max qoM (qad qal (qad (qau (qk7 rfl) rfl B.min qoN (qad (qau qfQ rfl B.len qbd (qad (pv 0) qam)) (qad qal qam))) qam))) qam)) (qan (i:=1) nd rfl li) (qaa (qed ((qhM X G B).q2 hr (pv 0) (pv 1)) (qbi rfl (qax (qan (i:=2) nd rfl li) (qax (qan (i:=3) nd rfl li) (qax (qan (i:=4) nd rfl li) qbg))))) (qak (qb3 (PW.pt (qgA (qgz (pv 4)) (qeQ (cR qeg (qau qaN rfl B.len qbd (qad (pv 2) qam)) qal)))) (qaa (asS nd ((qjL X G B).q2 hr (pv 2) (pv 3))) (qaa (asS nd (qau qaN rfl B.len qbd (qad (xI qas (pv 2)) qam))) (qaa (qb3 (PW.pt (qpz (cR qhc (xI qar (pv 5)) qi3) (qoA (cR qhc (qau qfP rfl B.len qbd (qad (xI qar (pv 5)) qam)) (qaq qb4 (pv 6) ((qjK X G B).q1 hr (pv 2))))))) (qak (qaw qjM)) qaL) (qak (qb3 (PW.pt (qgA (cR qeg (qau qfP rfl B.len qbd (qad (xI qar (pv 5)) qam)) qal) (qeQ (cR qhc ((qjK X G B).q1 hr (xI qar (pv 5))) (qau qfP rfl B.len qbd (qad (xI qar (pv 5)) qam)))))) (qak (qaw qjM)) qaL))))) qaL)))) (qak (qaw (qd1 (qn2 ht) ((qjL X G B).q2 hr (qcL qam) (qcL qam)) (qbP (qad qi3 (qad (qbP qam) (qad (qbP qam) qam)))) (nomark _)))))
theorem row_said {l:PySem.W.OpenLaw} (h:l.wellSaid=true):l.row.wellSaid=true:=by
  unfold PySem.W.OpenLaw.wellSaid at h
  simp only [Bool.and_eq_true] at h
  exact h.1.1.1.1.1.1.1.1.1.1.1.1.1.1.1.1.1.1
theorem walk {l:PySem.W.OpenLaw} {q:Program} {loose:List Str} {XP:(Str→Option Value)→Heap→Prop} {YP:World→Heap→Prop} {d:DefRec} {K:Params→W.Frag} (hn:l.most=some 63) (hdf:d.params.defaults=[]) (hq:importsNone q=true) (ht:∀ w,(model l.prog w).prog.given.tree=none)
    (hY:∀ (w:World) (h:Heap),YP w h→(K w.params).In h)
    (F:∀ (w:World) (mg:Str→Option Value) (fa:Addr) (h:Heap),(K w.params).In h→h.Ns mainGlobals mg→mg d.name=some (.ref fa)→
      ∃ fd:FuncData,(∀ (s:Shared) (u:Value),BindsTo s fd ⟨[u],[]⟩ [("_law_script", u)])∧∀ base:Heap,(K w.params).In base→base.Ns mainGlobals mg→FnOk l.prog w (K w.params) mg base CX0 7 fa fd ["_law_script"] (qjr (K w.params))) :
    PySem.W.WalkO q loose XP YP l.row.toRowW d [] (fun f vs=>PySem.call f vs):=
  L2.walk_of (n:=63) (k:=7) (x := "_law_script") (CX:=fun _=>CX0) (sp:=fun w=>qjr (K w.params)) hn (by decide) hdf hq ht ⟨rfl,by decide,by decide⟩ hY F (fun _ _ a ns hl _ hS=>⟨a,ns,rfl,hS,hl,fun _=>rfl⟩) fun _ _ _ _ _ z=>z
end Bs
open PySem PySem.W PyProof.Rows
set_option maxRecDepth 100000 in
set_option maxHeartbeats 0 in
theorem PySem.Challenge.cw_backslope_k08_all_solutions_holds : PySem.Challenge.rw_backslope_k08_all_solutions.Holds := by
  have said : PySem.Challenge.rw_backslope_k08_all_solutions.wellSaid = true := by decide +kernel
  refine ⟨said, ?_⟩
  refine PySem.W.holds_open (q := Bs.Hd.vw) (loose := []) (Xt := fun s => PySem.W.xlAt Bs.Hd.vw [] s && PySem.W.recOk (PySem.W.RowW.records (PySem.W.OpenRow.toRowW (PySem.W.OpenLaw.row PySem.Challenge.rw_backslope_k08_all_solutions))) s) (XP := PySem.W.XL Bs.Hd.vw []) (Yf := Bs.Hd.hk.obs) (Ya := Bs.Hd.hk.val) (YP := Bs.Hd.hk.says) (N := 2974) Bs.Hd.left Bs.Hd.hk.of Bs.Hd.hk.keeps (fun s e => PySem.W.xl_of s (Bool.and_eq_true_iff.mp e).1) PySem.W.XL.keeps (by rfl) (by rfl) (by rfl) (fun s e => PySem.W.recFacts_of (Bool.and_eq_true_iff.mp e).2) (by rfl) (Bs.row_said said) (by decide +kernel) ⟨rfl, rfl, rfl, rfl, rfl, by decide +kernel⟩ ?hw ?hc
  case hw => w_witness2
  case hc => exact Bs.walk (l := PySem.Challenge.rw_backslope_k08_all_solutions) (K := Bs.Hd.hp) rfl rfl (by decide +kernel) (fun _ => rfl) (fun w h Y => Y) (fun w mg fa h KX G hmg => Bs.all_mk KX G hmg)
#print axioms PySem.Challenge.cw_backslope_k08_all_solutions_holds

