import PyProof.Rows.All
import Wide.All
import OpenK.AllK
import Wide.FinOn
import Lean
import PyProof.EqAt
import PyProof.EqKinds
import PyProof.TupleCall
import PySem.Challenge.RW_backslope_k41_x_by_the_root
set_option Elab.async false
set_option linter.all false
set_option maxRecDepth 100000
namespace L2
open PySem PySem.Spec PyProof.Rows
abbrev Key := Sum Int Str
def keyIs : Key → Value → Bool
  | .inl k, v => Value.isInt k v
  | .inr x, v => Value.isStrOf x v
def keyH (w : World) : Key → Int
  | .inl k => hashInt k
  | .inr x => hashStr w x
theorem keyIs_shape : ∀ {k : Key} {v : Value}, keyIs k v = true → (∃ i t, k = Sum.inl i ∧ v = Value.int i t) ∨ (∃ x t, k = Sum.inr x ∧ v = Value.str x t)
  | .inl i, v, h => by
    obtain ⟨t, e⟩ := Value.isInt_shape (k := i) (v := v) h
    exact .inl ⟨i, t, rfl, e⟩
  | .inr x, v, h => by
    obtain ⟨t, e⟩ := Value.isStrOf_shape (x := x) (v := v) h
    exact .inr ⟨x, t, rfl, e⟩
theorem key_ll (a b : Int) : decide ((Sum.inl a : Key) = Sum.inl b) = (a == b) := by
  by_cases e : a = b
  · subst e; simp
  · have h : ¬ (Sum.inl a : Key) = Sum.inl b := fun q => e (Sum.inl.inj q)
    rw [decide_eq_false h]
    exact (beq_eq_false_iff_ne.mpr e).symm
theorem key_rr (a b : Str) : decide ((Sum.inr a : Key) = Sum.inr b) = decide (a = b) := by
  by_cases e : a = b
  · subst e; simp
  · have h : ¬ (Sum.inr a : Key) = Sum.inr b := fun q => e (Sum.inr.inj q)
    rw [decide_eq_false h, decide_eq_false e]
theorem key_lr (a : Int) (b : Str) : decide ((Sum.inl a : Key) = Sum.inr b) = false := decide_eq_false (fun q => nomatch q)
theorem key_rl (a : Str) (b : Int) : decide ((Sum.inr a : Key) = Sum.inl b) = false := decide_eq_false (fun q => nomatch q)
def mixKind (prog : Program) (w : World) : PySem.KeyKind prog w Key where
  is := keyIs
  hash := keyH w
  inj := fun v a b ha hb => by
    rcases keyIs_shape ha with ⟨i, t, rfl, rfl⟩ | ⟨x, t, rfl, rfl⟩
    · rcases keyIs_shape hb with ⟨j, u, rfl, e⟩ | ⟨y, u, rfl, e⟩
      · injection e with e1 _; rw [e1]
      · exact nomatch e
    · rcases keyIs_shape hb with ⟨j, u, rfl, e⟩ | ⟨y, u, rfl, e⟩
      · exact nomatch e
      · injection e with e1 _; rw [e1]
  byValue := fun k v h => by
    rcases keyIs_shape h with ⟨i, t, rfl, rfl⟩ | ⟨x, t, rfl, rfl⟩ <;> rfl
  pyHash := fun hv h => by
    rcases keyIs_shape hv with ⟨i, t, rfl, rfl⟩ | ⟨x, t, rfl, rfl⟩
    · exact wpAny_pyHash_int h
    · exact wpAny_pyHash_str h
  eqBool := fun hu hv h => by
    rcases keyIs_shape hu with ⟨i, t, rfl, rfl⟩ | ⟨x, t, rfl, rfl⟩
    · rcases keyIs_shape hv with ⟨j, u, rfl, rfl⟩ | ⟨y, u, rfl, rfl⟩
      · rw [key_ll] at h; exact wpAny_eqBool_int h
      · rw [key_lr] at h; exact SeqAt.EqAt.int_str i t y u _ _ _ _ h
    · rcases keyIs_shape hv with ⟨j, u, rfl, rfl⟩ | ⟨y, u, rfl, rfl⟩
      · rw [key_rl] at h; exact SeqAt.EqAt.str_int x t j u _ _ _ _ h
      · rw [key_rr] at h; exact wpAny_eqBool_str h
  «strs» := fun k x t v h => by
    rcases keyIs_shape h with ⟨i, u, rfl, e⟩ | ⟨y, u, rfl, e⟩
    · exact nomatch e
    · injection e with e1 _
      subst e1
      cases v <;> rfl
end L2
namespace L2
open PySem PySem.Spec PyProof.Rows
inductive V where
  | non | bl (b : Bool) | int (i : Int) | str (x : Str) | byt (b : Array UInt8) | flt (b : UInt64) | ref (a : Addr) | ty (n : String)
  deriving DecidableEq
def RelV : V → Value → Prop
  | .non, u => u = Value.none
  | .bl b, u => u = Value.bool b
  | .int i, u => ∃ t, u = Value.int i t
  | .str x, u => ∃ t, u = Value.str x t
  | .byt b, u => ∃ t, u = Value.bytes b t
  | .flt b, u => ∃ t, u = Value.float b t
  | .ref a, u => u = Value.ref a
  | .ty n, u => u = Value.type n
abbrev Vals : List V → List Value → Prop := Paired RelV
theorem Vals.length {xs : List V} {us : List Value} (r : Vals xs us) : xs.length = us.length := Paired.length r
theorem Vals.get : ∀ {xs : List V} {us : List Value} {i : Nat} {x : V}, Vals xs us → xs[i]? = some x → ∃ u, us[i]? = some u ∧ RelV x u
  | _, _, _, _, .nil, e => by simp at e
  | _, _, 0, _, .cons r _, e => by simp at e; subst e; exact ⟨_, rfl, r⟩
  | _, _, i + 1, x, .cons _ t, e => by
    obtain ⟨u, h1, h2⟩ := Vals.get (i := i) (x := x) t (by simpa using e)
    exact ⟨u, by simpa using h1, h2⟩
theorem Vals.set {x : V} {u : Value} (r : RelV x u) : ∀ {xs : List V} {us : List Value} (i : Nat), Vals xs us → Vals (xs.set i x) (us.set i u)
  | _, _, _, .nil => .nil
  | _, _, 0, .cons _ t => .cons r t
  | _, _, i + 1, .cons q t => .cons q (Vals.set r i t)
theorem Vals.append : ∀ {xs ys : List V} {us ws : List Value}, Vals xs us → Vals ys ws → Vals (xs ++ ys) (us ++ ws)
  | _, _, _, _, .nil, s => s
  | _, _, _, _, .cons r t, s => .cons r (Vals.append t s)
theorem Vals.take : ∀ {xs : List V} {us : List Value} (n : Nat), Vals xs us → Vals (xs.take n) (us.take n)
  | _, _, 0, _ => .nil
  | _, _, _ + 1, .nil => .nil
  | _, _, n + 1, .cons r t => .cons r (Vals.take n t)
theorem Vals.drop : ∀ {xs : List V} {us : List Value} (n : Nat), Vals xs us → Vals (xs.drop n) (us.drop n)
  | _, _, 0, r => r
  | _, _, _ + 1, .nil => .nil
  | _, _, n + 1, .cons _ t => Vals.drop n t
def RelO : Option V → Option Value → Prop
  | some v, some u => RelV v u
  | none, none => True
  | _, _ => False
def KV {κ : Type} : List (κ × V) → List (κ × Value) → Prop := Paired fun (p : κ × V) (q : κ × Value) => p.1 = q.1 ∧ RelV p.2 q.2
def kV : Key → V
  | .inl i => .int i
  | .inr x => .str x
inductive HO where

  | lst (xs : List V)

  | tup (xs : List V)

  | dK (kvs : List (Key × V)) | dT (kvs : List (List Key × V))

  | set (S : Int → Bool) (n : Nat)

  | ins (C dx : Addr) (fs : List (Str × V))

  | own (x : Addr)

  | xd (fs : List (Str × V))

  | met (f x : Addr)

  | rng (lo hi : Int)

  | frz (o : Obj) (u : HO)

  | tbl (ps : Array Value)

  | ext (φ : Heap → Prop)
abbrev Hp := Addr → Option HO
def upd (H : Hp) (a : Addr) (o : HO) : Hp := fun b => if b = a then some o else H b
theorem upd_same {H : Hp} {a : Addr} {o : HO} : upd H a o a = some o := by unfold upd; rw [if_pos rfl]
theorem upd_ne {H : Hp} {a b : Addr} {o : HO} (h : b ≠ a) : upd H a o b = H b := by unfold upd; rw [if_neg h]
theorem ne_of {H : Hp} {a b : Addr} {o u : HO} (h : H a = some o) (h' : H b = some u) (d : o ≠ u) : a ≠ b := by
  intro e; subst e; rw [h] at h'; exact d (Option.some.inj h')
theorem ne_of_none {H : Hp} {a b : Addr} {o : HO} (h : H a = some o) (h' : H b = none) : a ≠ b := by
  intro e; subst e; rw [h] at h'; cases h'
section
variable (P : Program) (w : World)
def ObjOk (H : Hp) (h : Heap) (a : Addr) : HO → Prop
  | .lst xs => xs.length ≤ sizeLine ∧ ∃ (its : List Value) (n : Nat), Vals xs its ∧ h.get? a = some { cls := .type "list", data := .seq its.toArray n }
  | .tup xs => xs.length ≤ sizeLine ∧ ∃ its : List Value, Vals xs its ∧ IsTup h a its.toArray
  | .dK kvs => kvs.length ≤ sizeLine ∧ (a == sysModules) = false ∧ ∃ vs, KV kvs vs ∧ h.DictOf (mixKind P w) a vs
  | .dT kvs => kvs.length ≤ sizeLine ∧ (a == sysModules) = false ∧ ∃ xs : List (List Key × Addr × Value),
      Paired (fun (p : List Key × V) (q : List Key × Addr × Value) => p.1 = q.1 ∧ H q.2.1 = some (.tup (p.1.map kV)) ∧ RelV p.2 q.2.2) kvs xs ∧
      ∃ o es ep, h.get? a = some o ∧ o.ExactDict ∧ o.data = .dict es ep ∧ es.toList = xs.map (entryOfKey (tupleKind (mixKind P w))) ∧ (xs.map (·.1)).Nodup
  | .set S n => h.SetOf (intKind P w) a S n
  | .ins C dx fs => H dx = some (.own a) ∧ fs.length ≤ 1000 ∧ dx ≠ a ∧ h.get? a = some (PySem.W.instObj C dx) ∧
      ∃ mA, h.Ns1 dx mA ∧ (∀ f, RelO (fs.lookup f) (mA f)) ∧ PySem.Within mA (fs.map (·.1))
  | .own _ => ∃ o, h.get? a = some o
  | .xd fs => ∃ mA, h.Ns1 a mA ∧ ∀ f, RelO (fs.lookup f) (mA f)
  | .rng lo hi => ∃ t u v, h.get? a = some { cls := .type "range", data := .fields #[.int lo t, .int hi u, .int 1 v] }
  | .frz o u => h.get? a = some o ∧ ObjOk H h a u
  | .tbl ps => h.get? a = some { cls := .none, data := .fields ps }
  | .met f x => h.get? a = some (PySem.W.methodObj (.ref f) (.ref x))
  | .ext φ => φ h ∧ (∃ o, h.get? a = some o) ∧ ∀ h1 h2 : Heap, φ h1 → (∀ o, h1.get? a = some o → h2.get? a = some o) → φ h2
def HOk (H : Hp) (h : Heap) : Prop := ∀ a o, H a = some o → ObjOk P w H h a o
end
section
variable {P : Program} {w : World} {H H' : Hp} {h h' : Heap} {a : Addr} {o : HO}
theorem ObjOk.lt (x : ObjOk P w H h a o) : a < h.objs.size := by
  cases o with
  | lst xs => obtain ⟨_, _, _, _, e⟩ := x; exact Heap.lt_size e
  | tup xs => obtain ⟨_, _, _, p⟩ := x; exact p.lt
  | dK kvs => obtain ⟨_, _, _, _, o, _, _, e, _⟩ := x; exact Heap.lt_size e
  | dT kvs => obtain ⟨_, _, _, _, o, _, _, e, _⟩ := x; exact Heap.lt_size e
  | set S n => obtain ⟨o, _, _, _, e, _⟩ := x; exact Heap.lt_size e
  | ins C dx fs => obtain ⟨_, _, _, e, _⟩ := x; exact Heap.lt_size e
  | own y => obtain ⟨_, e⟩ := x; exact Heap.lt_size e
  | xd fs => obtain ⟨_, ⟨_, _, _, e, _⟩, _⟩ := x; exact Heap.lt_size e
  | rng lo hi => obtain ⟨_, _, _, e⟩ := x; exact Heap.lt_size e
  | frz ob u => obtain ⟨e, _⟩ := x; exact Heap.lt_size e
  | tbl ps => exact Heap.lt_size (show h.get? a = some _ from x)
  | met f y => exact Heap.lt_size (show h.get? a = some _ from x)
  | ext φ => obtain ⟨_, ⟨_, e⟩, _⟩ := x; exact Heap.lt_size e
theorem Paired.mapP {α β : Type} {F G : α → β → Prop} : ∀ {l₁ : List α} {l₂ : List β}, Paired F l₁ l₂ → (∀ a b, F a b → G a b) → Paired G l₁ l₂
  | _, _, .nil, _ => .nil
  | _, _, .cons r t, f => .cons (f _ _ r) (Paired.mapP t f)
theorem ObjOk.stay (x : ObjOk P w H h a o) (k : ∀ b u, (b = a ∨ H b = some (.own a)) → h.get? b = some u → h'.get? b = some u)
    (ho : ∀ b, H b = some (.own a) → H' b = some (.own a)) (ht : ∀ b xs, H b = some (.tup xs) → H' b = some (.tup xs)) : ObjOk P w H' h' a o := by
  induction o with
  | lst xs => obtain ⟨z, its, n, r, e⟩ := x; exact ⟨z, its, n, r, k _ _ (.inl rfl) e⟩
  | tup xs => obtain ⟨z, its, r, ob, e, c⟩ := x; exact ⟨z, its, r, ob, k _ _ (.inl rfl) e, c⟩
  | dK kvs => obtain ⟨z, y, vs, r, ob, es, ep, e, c⟩ := x; exact ⟨z, y, vs, r, ob, es, ep, k _ _ (.inl rfl) e, c⟩
  | dT kvs =>
    obtain ⟨z, y, xs, r, ob, es, ep, e, c⟩ := x
    exact ⟨z, y, xs, Paired.mapP r fun p q z => ⟨z.1, ht _ _ z.2.1, z.2.2⟩, ob, es, ep, k _ _ (.inl rfl) e, c⟩
  | set S n => obtain ⟨ob, es, ep, t, e, c⟩ := x; exact ⟨ob, es, ep, t, k _ _ (.inl rfl) e, c⟩
  | ins C dx fs =>
    obtain ⟨d, z, ne, e, mA, ⟨od, es, ep, e2, c⟩, r⟩ := x
    exact ⟨ho _ d, z, ne, k _ _ (.inl rfl) e, mA, ⟨od, es, ep, k _ _ (.inr d) e2, c⟩, r⟩
  | own y => obtain ⟨ob, e⟩ := x; exact ⟨ob, k _ _ (.inl rfl) e⟩
  | xd fs => obtain ⟨mA, ⟨od, es, ep, e, c⟩, r⟩ := x; exact ⟨mA, ⟨od, es, ep, k _ _ (.inl rfl) e, c⟩, r⟩
  | rng lo hi => obtain ⟨t, u, v, e⟩ := x; exact ⟨t, u, v, k _ _ (.inl rfl) e⟩
  | frz ob u ih => obtain ⟨e, q⟩ := x; exact ⟨k _ _ (.inl rfl) e, ih q⟩
  | tbl ps =>
    have e : h.get? a = some { cls := .none, data := .fields ps } := x
    show h'.get? a = some { cls := .none, data := .fields ps }
    exact k a _ (.inl rfl) e
  | met f y =>
    have e : h.get? a = some (PySem.W.methodObj (.ref f) (.ref y)) := x
    show h'.get? a = some (PySem.W.methodObj (.ref f) (.ref y))
    exact k a _ (.inl rfl) e
  | ext φ => obtain ⟨p, ⟨o, e⟩, st⟩ := x; exact ⟨st _ _ p fun o q => k _ _ (.inl rfl) q, ⟨o, k _ _ (.inl rfl) e⟩, st⟩
theorem HOk.lt (x : HOk P w H h) (e : H a = some o) : a < h.objs.size := (x a o e).lt
theorem HOk.fresh (x : HOk P w H h) (e : h.objs.size ≤ a) : H a = none := by
  cases q : H a with
  | none => rfl
  | some u => exact absurd (Nat.lt_of_lt_of_le (x.lt q) e) (Nat.lt_irrefl _)
theorem HOk.kept (x : HOk P w H h) (k : ∀ b u, h.get? b = some u → h'.get? b = some u) : HOk P w H h' := fun a o e =>
  (x a o e).stay (fun b u _ q => k b u q) (fun _ q => q) fun _ _ q => q
theorem HOk.laid (x : HOk P w H h) (k : ∀ b u, h.get? b = some u → h'.get? b = some u) (hp : h.objs.size ≤ a) (new : ObjOk P w (upd H a o) h' a o) : HOk P w (upd H a o) h' := fun b u e => by
  have hn := x.fresh hp
  by_cases hb : b = a
  · subst hb; rw [upd_same] at e; cases e; exact new
  · rw [upd_ne hb] at e
    exact (x b u e).stay (fun c v _ q => k c v q) (fun c q => by rw [upd_ne (ne_of_none q hn)]; exact q) fun c xs q => by rw [upd_ne (ne_of_none q hn)]; exact q
end
def Rd (H : Hp) (a : Addr) (u : HO) : Prop := H a = some u ∨ ∃ o, H a = some (.frz o u)
theorem Rd.of {H : Hp} {a : Addr} {u : HO} (h : H a = some u) : Rd H a u := .inl h
theorem Rd.ok {P : Program} {w : World} {H : Hp} {h : Heap} {a : Addr} {u : HO} (r : Rd H a u) (x : HOk P w H h) : ObjOk P w H h a u := by
  rcases r with r | ⟨o, r⟩
  · exact x a u r
  · obtain ⟨_, q⟩ := x a _ r
    exact q
def Mut : Option HO → Prop
  | some (.lst _) => True
  | some (.dK _) => True
  | some (.dT _) => True
  | some (.set _ _) => True
  | some (.ins _ _ _) => True
  | some (.ext _) => True
  | _ => False
section
variable {P : Program} {w : World} {H : Hp} {h h' : Heap} {x e : Addr} {o' : HO}
theorem HOk.write (ok : HOk P w H h) (mu : Mut (H x)) (he : e = x ∨ H e = some (.own x)) (k : ∀ b u, b ≠ e → h.get? b = some u → h'.get? b = some u) (heo : ∃ u, h'.get? e = some u)
    (new : ObjOk P w (upd H x o') h' x o') : HOk P w (upd H x o') h' := fun b u q => by
  have nown : ∀ c y, H c = some (.own y) → c ≠ x := fun c y r z => by subst z; rw [r] at mu; exact mu
  have ntup : ∀ c xs, H c = some (.tup xs) → c ≠ x := fun c xs r z => by subst z; rw [r] at mu; exact mu
  by_cases hb : b = x
  · subst hb; rw [upd_same] at q; cases q; exact new
  · rw [upd_ne hb] at q
    by_cases hbe : b = e
    · have q' : H b = some (.own x) := by
        rcases he with z | z
        · exact absurd (hbe.trans z) hb
        · rw [hbe]; exact z
      rw [q] at q'; cases q'
      obtain ⟨v, hv⟩ := heo
      exact ⟨v, by rw [hbe]; exact hv⟩
    · refine (ok b u q).stay (fun c v hc r => k c v ?_ r) (fun c r => by rw [upd_ne (nown c b r)]; exact r) fun c xs r => by rw [upd_ne (ntup c xs r)]; exact r
      rcases hc with rfl | hc
      · exact hbe
      · rintro rfl
        rcases he with z | z
        · exact nown c b hc z
        · rw [hc] at z; cases z; exact hb rfl
end
structure Un (fs ex : List Addr) (H H' : Hp) (h h' : Heap) : Prop where
  keep : ∀ b o, h.get? b = some o → H b = none → b ∉ fs → b ∉ ex → h'.get? b = some o
  slot : ∀ b o, h.get? b = some o → H b = none → b ∈ fs → b ∉ ex → ∃ sl, h'.get? b = some { o with slots := sl }
  free : ∀ b o, h.get? b = some o → H b = none → b ∉ ex → H' b = none
  there : ∀ b o, h.get? b = some o → b ∉ ex → ∃ o', h'.get? b = some o'
  tups : ∀ b xs, H b = some (.tup xs) → H' b = some (.tup xs)
  frzs : ∀ b o u, H b = some (.frz o u) → H' b = some (.frz o u)
  tbls : ∀ b ps, H b = some (.tbl ps) → ∃ more, H' b = some (.tbl (ps ++ more))
section
variable {fs fs' ex ex' : List Addr} {H H1 H2 : Hp} {h h1 h2 h' : Heap} {a x e : Addr} {o : HO}
theorem Un.any (u : Un fs ex H H1 h h1) {b : Addr} {ob : Obj} (q : h.get? b = some ob) (n : H b = none) (hx : b ∉ ex) : ∃ sl, h1.get? b = some { ob with slots := sl } := by
  by_cases hb : b ∈ fs
  · exact u.slot b ob q n hb hx
  · exact ⟨ob.slots, u.keep b ob q n hb hx⟩
theorem Un.trans (a : Un fs ex H H1 h h1) (b : Un fs ex H1 H2 h1 h2) : Un fs ex H H2 h h2 where
  keep := fun c ob q n hc hx => b.keep c ob (a.keep c ob q n hc hx) (a.free c ob q n hx) hc hx
  slot := fun c ob q n hc hx => by
    obtain ⟨sl, e1⟩ := a.slot c ob q n hc hx
    obtain ⟨sl', e2⟩ := b.slot c _ e1 (a.free c ob q n hx) hc hx
    exact ⟨sl', e2⟩
  free := fun c ob q n hx => by
    obtain ⟨o', e1⟩ := a.there c ob q hx
    exact b.free c o' e1 (a.free c ob q n hx) hx
  there := fun c ob q hx => by
    obtain ⟨o', e1⟩ := a.there c ob q hx
    exact b.there c o' e1 hx
  tups := fun c xs q => b.tups c xs (a.tups c xs q)
  frzs := fun c ob xs q => b.frzs c ob xs (a.frzs c ob xs q)
  tbls := fun c ps q => by
    obtain ⟨m1, e1⟩ := a.tbls c ps q
    obtain ⟨m2, e2⟩ := b.tbls c _ e1
    exact ⟨m1 ++ m2, by rw [e2, Array.append_assoc]⟩
theorem Un.kept (k : ∀ b u, h.get? b = some u → h'.get? b = some u) : Un fs ex H H h h' :=
  ⟨fun b ob q _ _ _ => k b ob q, fun b ob q _ _ _ => ⟨ob.slots, k b ob q⟩, fun _ _ _ n _ => n, fun b ob q _ => ⟨ob, k b ob q⟩, fun _ _ q => q, fun _ _ _ q => q, fun _ ps q => ⟨#[], by rw [q]; simp⟩⟩
theorem Un.refl : Un fs ex H H h h := Un.kept fun _ _ q => q
theorem Un.laid (k : ∀ b u, h.get? b = some u → h'.get? b = some u) (hp : h.objs.size ≤ a) (hn : H a = none) : Un fs ex H (upd H a o) h h' where
  keep := fun b u q _ _ _ => k b u q
  slot := fun b u q _ _ _ => ⟨u.slots, k b u q⟩
  free := fun b u q n _ => by rw [upd_ne (Nat.ne_of_lt (Nat.lt_of_lt_of_le (Heap.lt_size q) hp))]; exact n
  there := fun b u q _ => ⟨u, k b u q⟩
  tups := fun b xs q => by rw [upd_ne (ne_of_none q hn)]; exact q
  frzs := fun b u xs q => by rw [upd_ne (ne_of_none q hn)]; exact q
  tbls := fun b ps q => ⟨#[], by rw [upd_ne (ne_of_none q hn), q]; simp⟩
theorem Un.write (mu : Mut (H x)) (he : e = x ∨ H e = some (.own x)) (k : ∀ b u, b ≠ e → h.get? b = some u → h'.get? b = some u) (heo : ∃ u, h'.get? e = some u) : Un fs ex H (upd H x o) h h' := by
  have hx : ∀ b, H b = none → b ≠ x := fun b n z => by subst z; rw [n] at mu; exact mu
  have hb : ∀ b, H b = none → b ≠ e := fun b n z => by
    subst z
    rcases he with r | r
    · exact hx b n r
    · rw [n] at r; cases r
  have hm : ∀ b u, H b = some u → ¬ Mut (some u) → b ≠ x := fun b u q nm z => by subst z; rw [q] at mu; exact nm mu
  refine ⟨fun b u q n _ _ => k b u (hb b n) q, fun b u q n _ _ => ⟨u.slots, k b u (hb b n) q⟩, fun b u q n _ => by rw [upd_ne (hx b n)]; exact n, fun b u q _ => ?_,
    fun b xs q => by rw [upd_ne (hm b _ q fun z => z)]; exact q, fun b u xs q => by rw [upd_ne (hm b _ q fun z => z)]; exact q, fun b ps q => ⟨#[], by rw [upd_ne (hm b _ q fun z => z), q]; simp⟩⟩
  by_cases hbe : b = e
  · subst hbe; exact heo
  · exact ⟨u, k b u hbe q⟩
theorem Un.mono (u : Un fs ex H H1 h h1) (hs : ∀ b ∈ fs, b ∈ fs') (hx : ∀ b ∈ ex, b ∈ ex') : Un fs' ex' H H1 h h1 :=
  ⟨fun b ob q n hb he => u.keep b ob q n (fun z => hb (hs b z)) fun z => he (hx b z), fun _ _ q n _ he => u.any q n fun z => he (hx _ z), fun b ob q n he => u.free b ob q n fun z => he (hx b z), fun b ob q he => u.there b ob q fun z => he (hx b z), u.tups, u.frzs, u.tbls⟩
end
def trk (h : Heap) (H : Hp) : List Addr := (List.range h.objs.size).filter fun a => (H a).isSome
def hidT (h : Heap) (H : Hp) : Heap := PySem.W.hideAll h (trk h H)
theorem hidT_size (h : Heap) (H : Hp) : (hidT h H).objs.size = h.objs.size := PySem.W.hideAll_size _ _
theorem hidT_get {h : Heap} {H : Hp} {b : Addr} {o : Obj} (e : h.get? b = some o) (n : H b = none) : (hidT h H).get? b = some o :=
  PySem.W.hideAll_get _ e fun hm => by
    have q : (H b).isSome = true := (List.mem_filter.mp hm).2
    rw [n] at q; simp at q
theorem of_hidT {h : Heap} {H : Hp} {b : Addr} {o : Obj} (e : (hidT h H).get? b = some o) : h.get? b = some o ∧ H b = none := by
  have e' : h.get? b = some o := PySem.W.of_hideAll (trk h H) e
  refine ⟨e', ?_⟩
  cases q : H b with
  | none => rfl
  | some x =>
    have hm : b ∈ trk h H := List.mem_filter.mpr ⟨List.mem_range.mpr (Heap.lt_size e'), by simp [q]⟩
    have z : (hidT h H).get? b = none := PySem.W.hideAll_none (trk h H) hm
    rw [z] at e; cases e
def allNews (g h : Heap) (L : Addr) : List (Addr × Obj) := (List.range h.objs.size).filterMap fun a => if a = L ∨ (g.get? a).isSome = true then none else (h.get? a).map fun o => (a, o)
def rest (g h : Heap) (L d : Addr) : List (Addr × Obj) := (allNews g h L).filter fun p => decide (p.1 ≠ d)
end L2
namespace L2
open PySem PySem.Spec PyProof.Rows
structure Mod (K : PySem.W.Frag) (mg : Str → Option Value) (base : Heap) : Prop where
  kin : K.In base
  glob : base.Ns mainGlobals mg
  blt : ∃ mb, base.Ns builtinsNs mb ∧ ∀ x : Str, x ≠ "__name__" → mb x = bootBuiltins x
  nolimit : base.NoLimit
structure Cx where
  prog : Program
  w : World
  K : PySem.W.Frag
  mg : Str → Option Value
  base : Heap
  A : Around
  N : List Str
  s₀ : Shared
  H₀ : Hp
  env : Env
  outer : List Env
  stack : List Env
  ex : List Addr
  fn : Str → Bool
  calm : Bool
  pn : List (Addr × Obj)
  xe : Value → Shared → Prop
def frs (l : List Env) : List Addr := l.filterMap (·.frame)
abbrev Cx.fs (X : Cx) : List Addr := frs X.outer
def Vis (sc : Scope) (x : Str) : Prop := sc.names.lookup x = some .local ∨ sc.names.lookup x = some .cell ∨ sc.names.lookup x = some .free
def Loc (sc : Scope) (x : Str) : Prop := sc.names.lookup x = some .local ∨ sc.names.lookup x = some .cell
def Look (env : Env) (h : Heap) (m : Str → Option Value) (x : Str) (u : Value) : Prop :=
  (env.kindOf x = some .local ∧ m x = some u) ∨ ((env.kindOf x = some .cell ∨ env.kindOf x = some .free) ∧ ∃ c, env.cells.lookup x = some c ∧ h.IsCell c (some u))
structure Cx.Ok (X : Cx) : Prop where
  mod : Mod X.K X.mg X.base
  kind : X.env.scope.kind = .function
  glob : X.env.globals = mainGlobals
  blt : X.env.builtins = builtinsNs
  above : X.s₀.heap.objs.size ≤ X.env.locals
  inj : ∀ x y c, X.env.cells.lookup x = some c → X.env.cells.lookup y = some c → x = y
  has : ∀ x, (X.env.kindOf x = some .cell ∨ X.env.kindOf x = some .free) → ∃ c, X.env.cells.lookup x = some c
  cab : ∀ x c, X.fn x = true → X.env.cells.lookup x = some c → X.s₀.heap.objs.size ≤ c
  hd : X.calm = true → X.A.handled = none
  frames : X.A.frames = some X.stack
  stk : X.stack = X.outer ∨ (X.stack = X.env :: X.outer ∧ X.env.frame = some X.env.locals)
  exf : ∀ b ∈ X.ex, b ≠ X.env.locals ∧ ∀ x c, X.env.cells.lookup x = some c → c ≠ b
  bs : ∀ b o, X.base.get? b = some o → X.s₀.heap.get? b = some o ∧ X.H₀ b = none
  bsz : X.base.objs.size ≤ X.s₀.heap.objs.size
  noex : ∀ b o, X.base.get? b = some o → b ∉ X.ex
  exfs : ∀ b ∈ X.ex, b ∉ X.fs
  funs : X.s₀.heap.FunFrames X.base X.outer
  frf : ∀ b ∈ X.fs, X.H₀ b = none
  seer : X.base.NoSeer
  tree : (model X.prog X.w).prog.given.tree = none
  plr : ∀ s : Shared, (∀ b o, X.base.get? b = some o → s.heap.get? b = some o) → PySem.PylongRoom (model X.prog X.w) X.A s
structure Inv (X : Cx) (pins : List (Addr × Obj)) (σ : List (Option V)) (H : Hp) (s : Shared) : Prop where
  ok : X.Ok
  os : s.os = X.s₀.os
  bare : AllBare s.gens
  base : Un X.fs X.ex X.H₀ H X.s₀.heap s.heap
  loc : ∃ m, s.heap.Ns X.env.locals m ∧ ∀ (i : Nat) (x : Str) (v : V), X.N[i]? = some x → σ[i]? = some (some v) → Vis X.env.scope x → ∃ u, RelV v u ∧ Look X.env s.heap m x u
  cell : ∀ x c, X.env.cells.lookup x = some c → ∃ v, s.heap.IsCell c v
  free : H X.env.locals = none
  freeC : ∀ x c, X.env.cells.lookup x = some c → H c = none
  pin : ∀ p ∈ X.pn ++ pins, s.heap.get? p.1 = some p.2 ∧ H p.1 = none ∧ p.1 ≠ X.env.locals ∧ p.1 ∉ X.fs ∧ ∀ v, p.2.data ≠ .cell v
  hok : HOk X.prog X.w H s.heap
  len : σ.length = X.N.length
section
variable {X : Cx} {pins : List (Addr × Obj)} {σ : List (Option V)} {H H' : Hp} {s : Shared} {h' : Heap}
theorem Cx.Ok.nofr (ok : X.Ok) {b : Addr} {o : Obj} (e : X.base.get? b = some o) : b ∉ X.fs := fun hb => by
  have := (ok.funs.mem hb).1
  rw [e] at this; cases this
theorem Inv.bs (I : Inv X pins σ H s) : ∀ b o, X.base.get? b = some o → s.heap.get? b = some o ∧ H b = none := fun b o e =>
  ⟨I.base.keep b o (I.ok.bs b o e).1 (I.ok.bs b o e).2 (I.ok.nofr e) (I.ok.noex b o e), I.base.free b o (I.ok.bs b o e).1 (I.ok.bs b o e).2 (I.ok.noex b o e)⟩
theorem Inv.bk (I : Inv X pins σ H s) : ∀ b o, X.base.get? b = some o → s.heap.get? b = some o := fun b o e => (I.bs b o e).1
theorem Inv.mod (I : Inv X pins σ H s) : Mod X.K X.mg X.base := I.ok.mod
theorem Inv.kIn (I : Inv X pins σ H s) : X.K.In s.heap := I.ok.mod.kin.keeps I.bk
theorem Inv.nolimit (I : Inv X pins σ H s) : s.heap.NoLimit := I.ok.mod.nolimit.keeps I.bk
theorem Inv.lt (I : Inv X pins σ H s) : X.env.locals < s.heap.objs.size := let ⟨_, hn, _⟩ := I.loc; hn.lt
theorem Inv.sz (I : Inv X pins σ H s) : X.s₀.heap.objs.size ≤ s.heap.objs.size := Nat.le_trans I.ok.above (Nat.le_of_lt I.lt)
theorem Inv.nofs (I : Inv X pins σ H s) {a : Addr} (h : s.heap.objs.size ≤ a) : a ∉ X.fs := fun hb => by
  obtain ⟨_, o, ho, _⟩ := I.ok.funs.mem hb
  exact absurd (Nat.lt_of_lt_of_le (Heap.lt_size ho) (Nat.le_trans I.sz h)) (Nat.lt_irrefl _)
theorem Inv.cne (I : Inv X pins σ H s) : ∀ x c, X.env.cells.lookup x = some c → c ≠ X.env.locals := fun x c e z => by
  obtain ⟨v, o, ho, hd⟩ := I.cell x c e
  obtain ⟨m, ⟨o', es, ep, ho', hd', _⟩, _⟩ := I.loc
  rw [z, ho'] at ho; cases ho; rw [hd'] at hd; cases hd
theorem Inv.funs (I : Inv X pins σ H s) : s.heap.FunFrames X.base X.outer := by
  have all : ∀ (l : List Env), (∀ b ∈ frs l, b ∈ X.fs) → X.s₀.heap.FunFrames X.base l → s.heap.FunFrames X.base l := by
    intro l
    induction l with
    | nil => intro _ _; trivial
    | cons env r ih =>
      intro hs hl
      obtain ⟨hk, ⟨L, o, hf, hn, ho, hd⟩, hr⟩ := hl
      have hL : L ∈ X.fs := hs L (by unfold frs; rw [List.filterMap_cons, hf]; exact List.mem_cons_self)
      obtain ⟨sl, e⟩ := I.base.slot L o ho (I.ok.frf L hL) hL fun z => I.ok.exfs L z hL
      exact ⟨hk, ⟨L, _, hf, hn, e, hd⟩, ih (fun b hb => hs b (by unfold frs; rw [List.filterMap_cons, hf]; exact List.mem_cons_of_mem _ hb)) hr⟩
  exact all X.outer (fun _ hb => hb) I.ok.funs
theorem Inv.stack (I : Inv X pins σ H s) : s.heap.FunFrames X.base X.stack := by
  rcases I.ok.stk with e | ⟨e, hf⟩
  · rw [e]; exact I.funs
  · rw [e]
    obtain ⟨m, hn, _⟩ := I.loc
    refine .cons (by rw [I.ok.kind]; decide) hf hn ?_ I.funs
    exact Heap.get?_none_of_le (Nat.le_trans I.ok.bsz I.ok.above)
theorem Inv.stkSub (I : Inv X pins σ H s) : ∀ b ∈ frs X.stack, b ∈ X.env.locals :: X.fs := fun b hb => by
  rcases I.ok.stk with e | ⟨e, hf⟩
  · rw [e] at hb; exact List.mem_cons_of_mem _ hb
  · rw [e] at hb
    unfold frs at hb
    rw [List.filterMap_cons, hf] at hb
    exact hb
theorem Inv.stkFree (I : Inv X pins σ H s) : ∀ b ∈ frs X.stack, H b = none := fun b hb => by
  rcases List.mem_cons.mp (I.stkSub b hb) with e | hb
  · rw [e]; exact I.free
  · obtain ⟨_, o, ho, _⟩ := I.ok.funs.mem hb
    exact I.base.free b o ho (I.ok.frf b hb) fun z => I.ok.exfs b z hb
theorem Inv.step {g' : Array GenState} {t' : Nat} {d' : Drawn} {ch : List Addr} (I : Inv X pins σ H s)
    (hch : ∀ b ∈ ch, (b ∈ X.ex ∨ X.s₀.heap.objs.size ≤ b) ∧ b ≠ X.env.locals ∧ (∀ x c, X.env.cells.lookup x = some c → c ≠ b) ∧ ∀ p ∈ X.pn ++ pins, p.1 ≠ b)
    (keep : ∀ b o, b ≠ X.env.locals → b ∉ X.fs → b ∉ ch → s.heap.get? b = some o → H b = none → h'.get? b = some o)
    (slot : ∀ b o, b ≠ X.env.locals → b ∈ X.fs → b ∉ ch → s.heap.get? b = some o → H b = none → ∃ sl, h'.get? b = some { o with slots := sl }) (free : ∀ b o, b ∉ ch → s.heap.get? b = some o → H b = none → H' b = none)
    (there : ∀ b o, b ∉ ch → s.heap.get? b = some o → ∃ o', h'.get? b = some o')
    (tups : ∀ b xs, H b = some (.tup xs) → H' b = some (.tup xs)) (frzs : ∀ b o u, H b = some (.frz o u) → H' b = some (.frz o u)) (tbls : ∀ b ps, H b = some (.tbl ps) → ∃ more, H' b = some (.tbl (ps ++ more)))
    (ns : ∀ m, s.heap.Ns X.env.locals m → h'.Ns X.env.locals m) (hok : HOk X.prog X.w H' h') (hg : AllBare g') :
    Inv X pins σ H' { s with heap := h', gens := g', drawn := d', toks := t' } := by
  have neL : ∀ b o, X.s₀.heap.get? b = some o → b ≠ X.env.locals := fun b o e => Nat.ne_of_lt (Nat.lt_of_lt_of_le (Heap.lt_size e) I.ok.above)
  have neC : ∀ b o, X.s₀.heap.get? b = some o → b ∉ X.ex → b ∉ ch := fun b o e hx hb => by
    rcases (hch b hb).1 with z | z
    · exact hx z
    · exact absurd (Nat.lt_of_lt_of_le (Heap.lt_size e) z) (Nat.lt_irrefl _)
  have cellK : ∀ x c, X.env.cells.lookup x = some c → ∀ v, s.heap.IsCell c v → h'.IsCell c v := fun x c e v ⟨o, ho, hd⟩ => by
    have nch : c ∉ ch := fun z => (hch c z).2.2.1 x c e rfl
    by_cases hc : c ∈ X.fs
    · obtain ⟨sl, q⟩ := slot c o (I.cne x c e) hc nch ho (I.freeC x c e)
      exact ⟨_, q, hd⟩
    · exact ⟨o, keep c o (I.cne x c e) hc nch ho (I.freeC x c e), hd⟩
  refine ⟨I.ok, I.os, hg, ⟨fun b o e n hb hx => ?_, fun b o e n hb hx => ?_, fun b o e n hx => ?_, fun b o e hx => ?_, fun b xs e => tups b xs (I.base.tups b xs e), fun b o xs e => frzs b o xs (I.base.frzs b o xs e), fun b ps e => ?_⟩, ?_, fun x c e => ?_, ?_, fun x c e => ?_, fun p hp => ?_, hok, I.len⟩
  · exact keep b o (neL b o e) hb (neC b o e hx) (I.base.keep b o e n hb hx) (I.base.free b o e n hx)
  · obtain ⟨sl, e1⟩ := I.base.slot b o e n hb hx
    obtain ⟨sl', e2⟩ := slot b _ (neL b o e) hb (neC b o e hx) e1 (I.base.free b o e n hx)
    exact ⟨sl', e2⟩
  · obtain ⟨o', e1⟩ := I.base.there b o e hx
    exact free b o' (neC b o e hx) e1 (I.base.free b o e n hx)
  · obtain ⟨o', e1⟩ := I.base.there b o e hx
    exact there b o' (neC b o e hx) e1
  · obtain ⟨m1, e1⟩ := I.base.tbls b ps e
    obtain ⟨m2, e2⟩ := tbls b _ e1
    exact ⟨m1 ++ m2, by rw [e2, Array.append_assoc]⟩
  · obtain ⟨m, hn, hl⟩ := I.loc
    refine ⟨m, ns m hn, fun i x v e1 e2 e3 => ?_⟩
    obtain ⟨u, r, l⟩ := hl i x v e1 e2 e3
    refine ⟨u, r, ?_⟩
    rcases l with l | ⟨k, c, e, z⟩
    · exact .inl l
    · exact .inr ⟨k, c, e, cellK x c e _ z⟩
  · obtain ⟨v, z⟩ := I.cell x c e
    exact ⟨v, cellK x c e v z⟩
  · obtain ⟨m, ⟨o, _, _, ho, _⟩, _⟩ := I.loc
    exact free _ o (fun z => (hch _ z).2.1 rfl) ho I.free
  · obtain ⟨v, o, ho, hd⟩ := I.cell x c e
    exact free c o (fun z => (hch c z).2.2.1 x c e rfl) ho (I.freeC x c e)
  · obtain ⟨e, n, ne, nf, d⟩ := I.pin p hp
    have nch : p.1 ∉ ch := fun z => (hch p.1 z).2.2.2 p hp rfl
    exact ⟨keep p.1 p.2 ne nf nch e n, free p.1 p.2 nch e n, ne, nf, d⟩
theorem Inv.un {t' : Nat} (I : Inv X pins σ H s) (u : Un X.fs [] H H' s.heap h') (hok : HOk X.prog X.w H' h') : Inv X pins σ H' { s with heap := h', toks := t' } := by
  obtain ⟨m, ⟨o, es, ep, ho, r⟩, _⟩ := id I.loc
  obtain ⟨sl, hL⟩ := u.any ho I.free (by simp)
  exact I.step (g' := s.gens) (d' := s.drawn) (ch := []) (fun _ z => nomatch z) (fun b o _ hb _ e n => u.keep b o e n hb (by simp)) (fun b o _ hb _ e n => u.slot b o e n hb (by simp)) (fun b o _ e n => u.free b o e n (by simp)) (fun b o _ e => u.there b o e (by simp)) u.tups u.frzs u.tbls (fun m' hm => by
    obtain ⟨o', es', ep', ho', r'⟩ := hm
    rw [ho] at ho'; cases ho'
    exact ⟨_, es', ep', hL, r'⟩) hok I.bare
theorem Inv.call {g' : Array GenState} {t' : Nat} {d' : Drawn} {ch : List Addr} (I : Inv X pins σ H s) (u : Un (frs X.stack) ch H H' s.heap h') (hok : HOk X.prog X.w H' h') (hg : AllBare g')
    (hch : ∀ b ∈ ch, (b ∈ X.ex ∨ X.s₀.heap.objs.size ≤ b) ∧ b ≠ X.env.locals ∧ (∀ x c, X.env.cells.lookup x = some c → c ≠ b) ∧ ∀ p ∈ X.pn ++ pins, p.1 ≠ b) :
    Inv X pins σ H' { s with heap := h', gens := g', drawn := d', toks := t' } := by
  obtain ⟨m, ⟨o, es, ep, ho, r⟩, _⟩ := id I.loc
  obtain ⟨sl, hL⟩ := u.any ho I.free fun z => (hch _ z).2.1 rfl
  exact I.step (ch := ch) hch (fun b o hL hb hc e n => u.keep b o e n (fun z => (List.mem_cons.mp (I.stkSub b z)).elim hL hb) hc) (fun b o _ _ hc e n => u.any e n hc) (fun b o hc e n => u.free b o e n hc) (fun b o hc e => u.there b o e hc) u.tups u.frzs u.tbls (fun m' hm => by
    obtain ⟨o', es', ep', ho', r'⟩ := hm
    rw [ho] at ho'; cases ho'
    exact ⟨_, es', ep', hL, r'⟩) hok hg
theorem Inv.turned {t' : Nat} {it : Addr} (I : Inv X pins σ H s) (k : ∀ b o, b ≠ it → s.heap.get? b = some o → h'.get? b = some o) (hn : H it = none) (hL : it ≠ X.env.locals)
    (h1 : it ∈ X.ex ∨ X.s₀.heap.objs.size ≤ it) (h2 : ∀ x c, X.env.cells.lookup x = some c → c ≠ it) (h3 : ∀ p ∈ X.pn ++ pins, p.1 ≠ it) : Inv X pins σ H { s with heap := h', toks := t' } := by
  have nit : ∀ b u, H b = some u → b ≠ it := fun b u e z => by rw [z, hn] at e; cases e
  refine I.step (g' := s.gens) (d' := s.drawn) (ch := [it]) (fun b hb => ?_) (fun b o _ _ hc e _ => k b o (fun z => hc (by simp [z])) e) (fun b o _ _ hc e _ => ⟨o.slots, k b o (fun z => hc (by simp [z])) e⟩) (fun _ _ _ _ n => n)
    (fun b o hc e => ⟨o, k b o (fun z => hc (by simp [z])) e⟩) (fun _ _ e => e) (fun _ _ _ e => e) (fun b ps e => ⟨#[], by rw [e]; simp⟩) (fun m hm => ?_) (fun b u e => ?_) I.bare
  · have e : b = it := by simpa using hb
    subst e
    exact ⟨h1, hL, h2, h3⟩
  · obtain ⟨o, es, ep, ho, r⟩ := hm
    exact ⟨o, es, ep, k _ o (Ne.symm hL) ho, r⟩
  · refine (I.hok b u e).stay (fun c v hc q => k c v ?_ q) (fun _ q => q) fun _ _ q => q
    rcases hc with z | z
    · rw [z]; exact nit b u e
    · exact nit c _ z
theorem Inv.tok (I : Inv X pins σ H s) (t : Nat) : Inv X pins σ H { s with toks := t } := I.un (h' := s.heap) (t' := t) Un.refl I.hok
theorem Inv.kept {t' : Nat} (I : Inv X pins σ H s) (k : ∀ b u, s.heap.get? b = some u → h'.get? b = some u) : Inv X pins σ H { s with heap := h', toks := t' } := I.un (Un.kept k) (I.hok.kept k)
theorem Inv.laid {a : Addr} {o : HO} {t' : Nat} (I : Inv X pins σ H s) (k : ∀ b u, s.heap.get? b = some u → h'.get? b = some u) (hp : s.heap.objs.size ≤ a) (new : ObjOk X.prog X.w (upd H a o) h' a o) :
    Inv X pins σ (upd H a o) { s with heap := h', toks := t' } := I.un (Un.laid k hp (I.hok.fresh hp)) (I.hok.laid k hp new)
theorem Inv.write {x e : Addr} {o : HO} {t' : Nat} (I : Inv X pins σ H s) (mu : Mut (H x)) (he : e = x ∨ H e = some (.own x)) (k : ∀ b u, b ≠ e → s.heap.get? b = some u → h'.get? b = some u) (heo : ∃ u, h'.get? e = some u)
    (new : ObjOk X.prog X.w (upd H x o) h' x o) : Inv X pins σ (upd H x o) { s with heap := h', toks := t' } := I.un (Un.write mu he k heo) (I.hok.write mu he k heo new)
theorem Inv.pins_of {pins' : List (Addr × Obj)} (I : Inv X pins σ H s) (h : ∀ p ∈ pins', s.heap.get? p.1 = some p.2 ∧ H p.1 = none ∧ p.1 ≠ X.env.locals ∧ p.1 ∉ X.fs ∧ ∀ v, p.2.data ≠ .cell v) : Inv X pins' σ H s :=
  ⟨I.ok, I.os, I.bare, I.base, I.loc, I.cell, I.free, I.freeC, fun p hp => (List.mem_append.mp hp).elim (fun z => I.pin p (List.mem_append_left _ z)) (h p), I.hok, I.len⟩
theorem nodup_ix {N : List Str} (hN : N.Nodup) {i j : Nat} {x : Str} (a : N[i]? = some x) (b : N[j]? = some x) : i = j := by
  obtain ⟨h1, e1⟩ := List.getElem?_eq_some_iff.mp a
  obtain ⟨h2, e2⟩ := List.getElem?_eq_some_iff.mp b
  exact (List.getElem_inj hN).mp (e1.trans e2.symm)
theorem store_ok2 {M : Model} {A : Around} {E : Value → Shared → Prop} {i : Nat} {x : Str} {v : V} {u : Value} {Q : Unit → Shared → Prop} (I : Inv X pins σ H s) (hN : X.N.Nodup) (hi : X.N[i]? = some x) (hx : Loc X.env.scope x) (r : RelV v u)
    (h : ∀ s', Inv X pins (σ.set i (some v)) H s' → (∃ a, Heap.SameBut a s.heap s'.heap ∧ (a = X.env.locals ∨ X.env.cells.lookup x = some a)) → Q () s') (hf : X.fn x = true ∨ X.env.scope.names.lookup x = some .local := by first | exact .inl rfl | exact .inr rfl | assumption) : wpAny M A (storeName X.env x u) Q E s := by
  obtain ⟨m, hn, hl⟩ := id I.loc
  have hcls : (X.env.scope.kind == .class || (X.env.scope.kind == .module && X.env.locals != X.env.globals)) = false := by rw [I.ok.kind]; rfl
  have hiσ : i < σ.length := by rw [I.len]; exact (List.getElem?_eq_some_iff.mp hi).1
  have cne := I.cne
  have tracked : ∀ {a : Addr} {h' : Heap}, (∃ o, s.heap.get? a = some o ∧ H a = none) → Heap.SameBut a s.heap h' → HOk X.prog X.w H h' := fun {a h'} ha hs b ob e => by
    obtain ⟨_, _, hfree⟩ := ha
    refine (I.hok b ob e).stay (fun c w' hc q => (hs.2 c ?_).trans q) (fun _ q => q) fun _ _ q => q
    rintro rfl
    rcases hc with rfl | hc
    · rw [hfree] at e; cases e
    · rw [hfree] at hc; cases hc
  rcases hx with hk | hk
  · refine wpAny_storeName_local hk hn (fun h' hn' hs => ?_) hcls
    obtain ⟨oL, _, _, hoL, _⟩ := id hn
    refine h _ ⟨I.ok, I.os, I.bare, ⟨fun b o e n hb hx => ?_, fun b o e n hb hx => ?_, I.base.free, fun b o e hx => ?_, I.base.tups, I.base.frzs, I.base.tbls⟩, ⟨_, hn', fun j y v' e1 e2 e3 => ?_⟩, fun y c e => ?_, I.free, I.freeC, fun p hp => ?_, tracked ⟨oL, hoL, I.free⟩ hs, by simpa using I.len⟩ ⟨_, hs, .inl rfl⟩
    · exact (hs.2 b (Nat.ne_of_lt (Nat.lt_of_lt_of_le (Heap.lt_size e) I.ok.above))).trans (I.base.keep b o e n hb hx)
    · obtain ⟨sl, e1⟩ := I.base.slot b o e n hb hx
      exact ⟨sl, (hs.2 b (Nat.ne_of_lt (Nat.lt_of_lt_of_le (Heap.lt_size e) I.ok.above))).trans e1⟩
    · obtain ⟨o', e1⟩ := I.base.there b o e hx
      exact ⟨o', (hs.2 b (Nat.ne_of_lt (Nat.lt_of_lt_of_le (Heap.lt_size e) I.ok.above))).trans e1⟩
    · by_cases hj : j = i
      · subst hj
        rw [hi] at e1; cases e1
        rw [List.getElem?_set_self hiσ] at e2
        cases e2
        exact ⟨u, r, .inl ⟨hk, by simp⟩⟩
      · rw [List.getElem?_set_ne (Ne.symm hj)] at e2
        obtain ⟨u', r', q⟩ := hl j y v' e1 e2 e3
        refine ⟨u', r', ?_⟩
        rcases q with ⟨k, e⟩ | ⟨k, c, e, z⟩
        · refine .inl ⟨k, ?_⟩
          have : y ≠ x := fun e => hj (nodup_ix hN e1 (e ▸ hi))
          simp [this, e]
        · exact .inr ⟨k, c, e, z.sameBut hs (cne y c e)⟩
    · obtain ⟨w', z⟩ := I.cell y c e
      exact ⟨w', z.sameBut hs (cne y c e)⟩
    · obtain ⟨e, n, ne, nf, d⟩ := I.pin p hp
      exact ⟨(hs.2 p.1 ne).trans e, n, ne, nf, d⟩
  · have hfn : X.fn x = true := by
      rcases hf with z | z
      · exact z
      · rw [z] at hk; cases hk
    obtain ⟨c, hc⟩ := I.ok.has x (.inl hk)
    obtain ⟨w', z⟩ := I.cell x c hc
    refine wpAny_storeName_cell I.ok.kind hk hc z (fun h' hc' hs => ?_)
    obtain ⟨oc, hoc, hocd⟩ := id z
    refine h { s with heap := h' } ⟨I.ok, I.os, I.bare, ⟨fun b o e n hb hx => ?_, fun b o e n hb hx => ?_, I.base.free, fun b o e hx => ?_, I.base.tups, I.base.frzs, I.base.tbls⟩, ⟨m, hn.sameBut hs (Ne.symm (cne x c hc)), fun j y v' e1 e2 e3 => ?_⟩, fun y c' e => ?_, I.free, I.freeC, fun p hp => ?_, tracked ⟨oc, hoc, I.freeC x c hc⟩ hs, by simpa using I.len⟩ ⟨c, hs, .inr hc⟩
    · exact (hs.2 b (Nat.ne_of_lt (Nat.lt_of_lt_of_le (Heap.lt_size e) (I.ok.cab x c hfn hc)))).trans (I.base.keep b o e n hb hx)
    · obtain ⟨sl, e1⟩ := I.base.slot b o e n hb hx
      exact ⟨sl, (hs.2 b (Nat.ne_of_lt (Nat.lt_of_lt_of_le (Heap.lt_size e) (I.ok.cab x c hfn hc)))).trans e1⟩
    · obtain ⟨o', e1⟩ := I.base.there b o e hx
      exact ⟨o', (hs.2 b (Nat.ne_of_lt (Nat.lt_of_lt_of_le (Heap.lt_size e) (I.ok.cab x c hfn hc)))).trans e1⟩
    · by_cases hj : j = i
      · subst hj
        rw [hi] at e1; cases e1
        rw [List.getElem?_set_self hiσ] at e2
        cases e2
        exact ⟨u, r, .inr ⟨.inl hk, c, hc, hc'⟩⟩
      · rw [List.getElem?_set_ne (Ne.symm hj)] at e2
        obtain ⟨u', r', q⟩ := hl j y v' e1 e2 e3
        refine ⟨u', r', ?_⟩
        rcases q with q | ⟨k, c', e, z'⟩
        · exact .inl q
        · refine .inr ⟨k, c', e, z'.sameBut hs ?_⟩
          rintro rfl
          exact hj (nodup_ix hN e1 (I.ok.inj _ _ _ e hc ▸ hi))
    · by_cases hcc : c' = c
      · subst hcc; exact ⟨_, hc'⟩
      · obtain ⟨w2, z2⟩ := I.cell y c' e
        exact ⟨w2, z2.sameBut hs hcc⟩
    · obtain ⟨e, n, ne, nf, d⟩ := I.pin p hp
      refine ⟨(hs.2 p.1 ?_).trans e, n, ne, nf, d⟩
      intro q
      rw [q, hoc] at e
      have q' : oc = p.2 := Option.some.inj e
      exact d w' (by rw [← q']; exact hocd)
theorem store_ok {M : Model} {A : Around} {E : Value → Shared → Prop} {i : Nat} {x : Str} {v : V} {u : Value} {Q : Unit → Shared → Prop} (I : Inv X pins σ H s) (hN : X.N.Nodup) (hi : X.N[i]? = some x) (hx : Loc X.env.scope x) (r : RelV v u)
    (h : ∀ s', Inv X pins (σ.set i (some v)) H s' → Q () s') (hf : X.fn x = true ∨ X.env.scope.names.lookup x = some .local := by first | exact .inl rfl | exact .inr rfl | assumption) : wpAny M A (storeName X.env x u) Q E s :=
  store_ok2 I hN hi hx r (fun s' I' _ => h s' I') hf
theorem Inv.call' {s' : Shared} {ch : List Addr} (I : Inv X pins σ H s) (ho : s'.os = s.os) (u : Un (frs X.stack) ch H H' s.heap s'.heap) (hok : HOk X.prog X.w H' s'.heap) (hg : AllBare s'.gens)
    (hch : ∀ b ∈ ch, (b ∈ X.ex ∨ X.s₀.heap.objs.size ≤ b) ∧ b ≠ X.env.locals ∧ (∀ x c, X.env.cells.lookup x = some c → c ≠ b) ∧ ∀ p ∈ X.pn ++ pins, p.1 ≠ b) : Inv X pins σ H' s' := by
  obtain ⟨h', g', d', t', o'⟩ := s'
  have e : o' = s.os := ho
  subst e
  exact I.call (g' := g') (t' := t') (d' := d') u hok hg hch
end
abbrev XK := Value → Option Addr → Hp → Prop
abbrev St := List (Option V)
abbrev VK := V → Hp → Prop
abbrev TE := St → Hp → VK → Prop
abbrev TT := St → Hp → (Bool → Hp → Prop) → Prop
abbrev TA := St → Hp → (List V → Hp → Prop) → Prop
structure Ends where
  nx : St → Hp → Prop
  rt : VK
  bk : St → Hp → Prop := fun _ _ => False
  ct : St → Hp → Prop := fun _ _ => False
abbrev TS := Ends → St → Hp → Prop
def EP (X : Cx) (pins : List (Addr × Obj)) (σ : St) (Q : VK) (u : Value) (s' : Shared) : Prop := ∃ v H', Inv X pins σ H' s' ∧ RelV v u ∧ Q v H'
def TP (X : Cx) (pins : List (Addr × Obj)) (σ : St) (Q : Bool → Hp → Prop) (b : Bool) (s' : Shared) : Prop := ∃ H', Inv X pins σ H' s' ∧ Q b H'
def AP (X : Cx) (pins : List (Addr × Obj)) (σ : St) (Q : List V → Hp → Prop) (us : List Value) (s' : Shared) : Prop := ∃ vs H', Inv X pins σ H' s' ∧ Vals vs us ∧ Q vs H'
def SP (X : Cx) (pins : List (Addr × Obj)) (D : Ends) (f : Flow) (s' : Shared) : Prop :=
  match f with
  | .next => ∃ σ' H', Inv X pins σ' H' s' ∧ D.nx σ' H'
  | .brk => ∃ σ' H', Inv X pins σ' H' s' ∧ D.bk σ' H'
  | .cont => ∃ σ' H', Inv X pins σ' H' s' ∧ D.ct σ' H'
  | .ret u => ∃ v σ' H', Inv X pins σ' H' s' ∧ RelV v u ∧ D.rt v H'
def PE (X : Cx) (e : Expr) (t : TE) : Prop :=
  ∀ (pins : List (Addr × Obj)) (s : Shared) (σ : St) (H : Hp) (Q : VK), Inv X pins σ H s → t σ H Q → wpAny (model X.prog X.w) X.A (eval e X.env) (EP X pins σ Q) X.xe s
def PT (X : Cx) (e : Expr) (t : TT) : Prop :=
  ∀ (pins : List (Addr × Obj)) (s : Shared) (σ : St) (H : Hp) (Q : Bool → Hp → Prop), Inv X pins σ H s → t σ H Q → wpAny (model X.prog X.w) X.A (isTrue e X.env (eval e X.env)) (TP X pins σ Q) X.xe s
def PW (X : Cx) (e : Expr) (t : TT) : Prop :=
  ∀ (whole : Sem Value) (pins : List (Addr × Obj)) (s : Shared) (σ : St) (H : Hp) (Q : Bool → Hp → Prop), Inv X pins σ H s → t σ H Q → wpAny (model X.prog X.w) X.A (isTrue e X.env whole) (TP X pins σ Q) X.xe s
theorem PW.pt {X : Cx} {e : Expr} {t : TT} (h : PW X e t) : PT X e t := h _
def PA (X : Cx) (es : List Expr) (t : TA) : Prop :=
  ∀ (pos : Pos) (pins : List (Addr × Obj)) (s : Shared) (σ : St) (H : Hp) (Q : List V → Hp → Prop), Inv X pins σ H s → t σ H Q → wpAny (model X.prog X.w) X.A (spliced (backTo pos (starEach es X.env))) (AP X pins σ Q) X.xe s
def PS (X : Cx) (st : Stmt) (t : TS) : Prop :=
  ∀ (pins : List (Addr × Obj)) (s : Shared) (σ : St) (H : Hp) (D : Ends), Inv X pins σ H s → t D σ H → wpAny (model X.prog X.w) X.A (exec st X.env) (SP X pins D) X.xe s
def PSs (X : Cx) (st : List Stmt) (t : TS) : Prop :=
  ∀ (pins : List (Addr × Obj)) (s : Shared) (σ : St) (H : Hp) (D : Ends), Inv X pins σ H s → t D σ H → wpAny (model X.prog X.w) X.A (execs st X.env) (SP X pins D) X.xe s
theorem thn {α : Type} {t : Sem α} {Q Q' : α → Shared → Prop} {M : Model} {A : Around} {E : Value → Shared → Prop} {s : Shared} (h : wpAny M A t Q E s) (hQ : ∀ a s, Q a s → Q' a s) : wpAny M A t Q' E s := wpAny_mono h hQ fun _ _ x => x
end L2
namespace L2
open PySem PySem.Spec PyProof.Rows
section
variable {X : Cx}
def tVar (i : Nat) : TE := fun σ H Q => ∃ v, σ[i]? = some (some v) ∧ Q v H
def tC (v : V) : TE := fun _ H Q => Q v H
theorem pe_var {i : Nat} {x : Str} {pos : Pos} (hN : X.N[i]? = some x) (hv : Vis X.env.scope x) (hd : (x == ("__debug__" : Str)) = false := by decide) (hcd : (x == ("__classdict__" : Str)) = false := by decide) : PE X (.Name x pos) (tVar i) := by
  intro pins s σ H Q I h
  obtain ⟨v, e, h⟩ := h
  obtain ⟨m, hn, hl⟩ := I.loc
  obtain ⟨u, r, l⟩ := hl i x v hN e hv
  have fin : EP X pins σ Q u s := ⟨v, H, I, r, h⟩
  rcases l with ⟨hk, hm⟩ | ⟨hk, c, hc, hcell⟩
  · exact wpAny_Name (wpAny_loadName_local I.ok.kind hk hn hm fin) hd
  · rcases hk with hk | hk
    · exact wpAny_Name (wpAny_loadName_cell I.ok.kind hk hc hcell fin) hd
    · exact wpAny_Name (wpAny_loadName_free I.ok.kind hk hc hcell fin hcd) hd
theorem pe_int {i j pos} : PE X (.Constant (.int i) j pos) (tC (.int i)) := fun _ _ _ H _ I h => wpAny_Constant_int ⟨.int i, H, I.tok _, ⟨_, rfl⟩, h⟩
theorem pe_bl {b j pos} : PE X (.Constant (.bool b) j pos) (tC (.bl b)) := fun _ _ _ H _ I h => Constant_bool ⟨.bl b, H, I, rfl, h⟩
theorem pe_non {j pos} : PE X (.Constant .none j pos) (tC .non) := fun _ _ _ H _ I h => Constant_none ⟨.non, H, I, rfl, h⟩
def Gl (X : Cx) (x : Str) : Prop := X.env.kindOf x = some .globalImplicit
theorem ld_glob {E : Value → Shared → Prop} {pins : List (Addr × Obj)} {s : Shared} {σ : St} {H : Hp} {x : Str} {u : Value} {pos : Pos} {Q : Value → Shared → Prop} (I : Inv X pins σ H s) (hg : Gl X x) (hm : X.mg x = some u) (h : Q u s)
    (hd : (x == ("__debug__" : Str)) = false := by decide) : wpAny (model X.prog X.w) X.A (eval (.Name x pos) X.env) Q E s :=
  Calls.Name_function_global I.ok.kind hg (Calls.loadGlobal_global (by rw [I.ok.glob]; exact I.mod.glob.keeps I.bk) hm h) hd
theorem ld_blt {E : Value → Shared → Prop} {pins : List (Addr × Obj)} {s : Shared} {σ : St} {H : Hp} {x : Str} {u : Value} {pos : Pos} {Q : Value → Shared → Prop} (I : Inv X pins σ H s) (hg : Gl X x) (hm : X.mg x = none) (hv : bootBuiltins x = some u) (h : Q u s)
    (hn : x ≠ "__name__" := by decide) (hd : (x == ("__debug__" : Str)) = false := by decide) : wpAny (model X.prog X.w) X.A (eval (.Name x pos) X.env) Q E s := by
  obtain ⟨mb, h1, h2⟩ := I.mod.blt
  exact Calls.Name_function_global I.ok.kind hg (Calls.loadGlobal_builtin (by rw [I.ok.glob]; exact I.mod.glob.keeps I.bk) hm (by rw [I.ok.blt]; exact h1.keeps I.bk) ((h2 x hn).trans hv) h) hd
theorem pe_glob {x : Str} {v : V} {u : Value} {pos : Pos} (hg : Gl X x) (hm : X.mg x = some u) (r : RelV v u) (hd : (x == ("__debug__" : Str)) = false := by decide) : PE X (.Name x pos) (tC v) :=
  fun _ _ _ H _ I h => ld_glob I hg hm ⟨v, H, I, r, h⟩ hd
theorem pe_bltn {x : Str} {v : V} {u : Value} {pos : Pos} (hg : Gl X x) (hm : X.mg x = none) (hv : bootBuiltins x = some u) (r : RelV v u) (hn : x ≠ "__name__" := by decide) (hd : (x == ("__debug__" : Str)) = false := by decide) : PE X (.Name x pos) (tC v) :=
  fun _ _ _ H _ I h => ld_blt I hg hm hv ⟨v, H, I, r, h⟩ hn hd
variable {a b : Expr} {ta tb : TE} {pos : Pos}
def tB (t : TE) : TT := fun σ H Q => t σ H fun x H1 => ∃ c, x = .bl c ∧ Q c H1
theorem pt_val {e : Expr} {t : TE} (h : PE X e t) (he : ∀ whole, isTrue e X.env whole = (do let v ← whole; standAt e.pos; holding [v] (truthy v)) := by intro _; rfl) : PT X e (tB t) := by
  intro pins s σ H Q I hw
  refine isTrue_plain (thn (h pins s σ H _ I hw) fun v s1 ⟨x, H1, I1, r1, q1⟩ => ?_) (he _)
  obtain ⟨d, rfl, q⟩ := q1
  cases r1
  exact wpAny_truthy_bool ⟨H1, I1, q⟩
variable {tA tB' : TT} {rest : List Expr}
def tAnd (t u : TT) : TT := fun σ H Q => t σ H fun c H1 => if c = true then u σ H1 Q else Q false H1
def tOr (t u : TT) : TT := fun σ H Q => t σ H fun c H1 => if c = true then Q true H1 else u σ H1 Q
def tNot (t : TT) : TT := fun σ H Q => t σ H fun c H1 => Q (!c) H1
theorem pw_and1 (ha : PT X a tA) : PW X (.BoolOp .And [a] pos) tA := by
  intro wh pins s σ H Q I h
  refine isTrue_and (thn (ha pins s σ H Q I h) fun c s1 e => ?_)
  cases c with
  | true => exact isTrue_and_nil e
  | false => exact e
theorem pw_or1 (ha : PT X a tA) : PW X (.BoolOp .Or [a] pos) tA := by
  intro wh pins s σ H Q I h
  refine isTrue_or (thn (ha pins s σ H Q I h) fun c s1 e => ?_)
  cases c with
  | false => exact isTrue_or_nil e
  | true => exact e
theorem pw_and (ha : PT X a tA) (hb : PW X (.BoolOp .And (b :: rest) pos) tB') : PW X (.BoolOp .And (a :: b :: rest) pos) (tAnd tA tB') := by
  intro wh pins s σ H Q I h
  refine isTrue_and (thn (ha pins s σ H _ I h) fun c s1 ⟨H1, I1, q1⟩ => ?_)
  cases c with
  | true => exact hb wh pins s1 σ H1 Q I1 q1
  | false => exact ⟨H1, I1, q1⟩
theorem pw_or (ha : PT X a tA) (hb : PW X (.BoolOp .Or (b :: rest) pos) tB') : PW X (.BoolOp .Or (a :: b :: rest) pos) (tOr tA tB') := by
  intro wh pins s σ H Q I h
  refine isTrue_or (thn (ha pins s σ H _ I h) fun c s1 ⟨H1, I1, q1⟩ => ?_)
  cases c with
  | true => exact ⟨H1, I1, q1⟩
  | false => exact hb wh pins s1 σ H1 Q I1 q1
theorem pt_not (ha : PT X a tA) : PT X (.UnaryOp .Not a pos) (tNot tA) := by
  intro pins s σ H Q I h
  exact isTrue_not (ha pins s σ H (fun c H1 => Q (!c) H1) I h)
def tAndV (ta tb : TE) : TE := fun σ H Q => ta σ H fun x H1 => ∃ c, x = .bl c ∧ if c = true then tb σ H1 Q else Q (.bl false) H1
def tOrV (ta tb : TE) : TE := fun σ H Q => ta σ H fun x H1 => ∃ c, x = .bl c ∧ if c = true then Q (.bl true) H1 else tb σ H1 Q
def tNotV (ta : TE) : TE := fun σ H Q => ta σ H fun x H1 => ∃ c, x = .bl c ∧ Q (.bl (!c)) H1
def tIf (t : TT) (ta tb : TE) : TE := fun σ H Q => t σ H fun c H1 => if c = true then ta σ H1 Q else tb σ H1 Q
theorem pe_ifExp {c : Expr} (hc : PT X c tA) (ha : PE X a ta) (hb : PE X b tb) : PE X (.IfExp c a b pos) (tIf tA ta tb) := by
  intro pins s σ H Q I h
  refine wpAny_IfExp (thn (hc pins s σ H _ I h) fun d s1 ⟨H1, I1, q1⟩ => ?_)
  cases d with
  | true => exact ha pins s1 σ H1 Q I1 q1
  | false => exact hb pins s1 σ H1 Q I1 q1
end
end L2
namespace L2
open PySem PySem.Spec PyProof.Rows
def SqL (K : PySem.W.Frag) (H : Hp) (a : Addr) (xs : List V) : Prop :=
  Rd H a (.lst xs) ∨
    ∃ (o : Obj) (its : Array Value) (n : Nat), K.lookup a = some o ∧ o.cls = .type "list" ∧ o.dict = none ∧ o.data = .seq its n ∧ its.size ≤ sizeLine ∧ Vals xs its.toList
def SqT (K : PySem.W.Frag) (H : Hp) (a : Addr) (xs : List V) : Prop :=
  Rd H a (.tup xs) ∨
    ∃ (o : Obj) (its : Array Value) (n : Nat), K.lookup a = some o ∧ o.cls = .type "tuple" ∧ o.data = .seq its n ∧ its.size ≤ sizeLine ∧ Vals xs its.toList
def absV : Value → Option V
  | .none => some .non
  | .bool b => some (.bl b)
  | .int i _ => some (.int i)
  | .str x _ => some (.str x)
  | .bytes b _ => some (.byt b)
  | .float b _ => some (.flt b)
  | .ref a => some (.ref a)
  | .type n => some (.ty n)
  | _ => none
theorem RelV.abs {x : V} {u : Value} (r : RelV x u) : absV u = some x := by
  cases x with
  | non => cases r; rfl
  | bl _ => cases r; rfl
  | int _ => obtain ⟨t, rfl⟩ := r; rfl
  | str _ => obtain ⟨t, rfl⟩ := r; rfl
  | byt _ => obtain ⟨t, rfl⟩ := r; rfl
  | flt _ => obtain ⟨t, rfl⟩ := r; rfl
  | ref _ => cases r; rfl
  | ty _ => cases r; rfl
theorem RelV.inj {x y : V} {u : Value} (r : RelV x u) (q : RelV y u) : x = y := Option.some.inj (r.abs.symm.trans q.abs)
theorem Vals.inj : ∀ {xs ys : List V} {us : List Value}, Vals xs us → Vals ys us → xs = ys
  | _, _, _, .nil, .nil => rfl
  | _, _, _, .cons r t, .cons r' t' => by rw [r.inj r', Vals.inj t t']
section
variable {X : Cx} {pins : List (Addr × Obj)} {σ : St} {H : Hp} {s : Shared} {a : Addr} {xs ys : List V}
theorem SqL.of {K : PySem.W.Frag} (h : H a = some (.lst xs)) : SqL K H a xs := .inl (.inl h)
theorem SqT.of {K : PySem.W.Frag} (h : H a = some (.tup xs)) : SqT K H a xs := .inl (.inl h)
theorem Inv.list (I : Inv X pins σ H s) (h : SqL X.K H a xs) : ∃ its : List Value, Vals xs its ∧ PlainL s.heap a its.toArray ∧ xs.length ≤ sizeLine := by
  rcases h with h | ⟨o, its, n, hk, hc, hd, hs, hz, r⟩
  · obtain ⟨z, its, n, r, e⟩ := h.ok I.hok
    exact ⟨its, r, ⟨_, n, e, rfl, rfl, rfl⟩, z⟩
  · refine ⟨its.toList, r, ⟨o, n, I.kIn a o hk, hc, hd, by simpa using hs⟩, ?_⟩
    have e := r.length
    simp only [Array.length_toList] at e
    omega
theorem Inv.tuple (I : Inv X pins σ H s) (h : SqT X.K H a xs) : ∃ its : List Value, Vals xs its ∧ IsTup s.heap a its.toArray ∧ xs.length ≤ sizeLine := by
  rcases h with h | ⟨o, its, n, hk, hc, hs, hz, r⟩
  · obtain ⟨z, its, r, p⟩ := h.ok I.hok
    exact ⟨its, r, p, z⟩
  · refine ⟨its.toList, r, ⟨o, I.kIn a o hk, hc, n, by simpa using hs⟩, ?_⟩
    have e := r.length
    simp only [Array.length_toList] at e
    omega
theorem Inv.list_inj (I : Inv X pins σ H s) (h : SqL X.K H a xs) (h' : SqL X.K H a ys) : xs = ys := by
  obtain ⟨its, r, ⟨o, n, e, _, _, d⟩, _⟩ := I.list h
  obtain ⟨its', r', ⟨o', n', e', _, _, d'⟩, _⟩ := I.list h'
  rw [e] at e'; cases e'
  rw [d] at d'
  injection d' with d1 _
  have : its = its' := by simpa using congrArg Array.toList d1
  subst this
  exact r.inj r'
theorem Inv.tuple_inj (I : Inv X pins σ H s) (h : SqT X.K H a xs) (h' : SqT X.K H a ys) : xs = ys := by
  obtain ⟨its, r, ⟨o, e, _, n, d⟩, _⟩ := I.tuple h
  obtain ⟨its', r', ⟨o', e', _, n', d'⟩, _⟩ := I.tuple h'
  rw [e] at e'; cases e'
  rw [d] at d'
  injection d' with d1 _
  have : its = its' := by simpa using congrArg Array.toList d1
  subst this
  exact r.inj r'
end
abbrev Cx.wish (X : Cx) (E : Value → Shared → Prop) : Cx := { X with xe := E }
abbrev Cx.nox (X : Cx) : Cx := X.wish fun _ _ => False
theorem Cx.Ok.wish {X : Cx} (ok : X.Ok) (E : Value → Shared → Prop) : (X.wish E).Ok :=
  ⟨ok.mod, ok.kind, ok.glob, ok.blt, ok.above, ok.inj, ok.has, ok.cab, ok.hd, ok.frames, ok.stk, ok.exf, ok.bs, ok.bsz, ok.noex, ok.exfs, ok.funs, ok.frf, ok.seer, ok.tree, ok.plr⟩
theorem Cx.Ok.unwish {X : Cx} {E : Value → Shared → Prop} (ok : (X.wish E).Ok) : X.Ok :=
  ⟨ok.mod, ok.kind, ok.glob, ok.blt, ok.above, ok.inj, ok.has, ok.cab, ok.hd, ok.frames, ok.stk, ok.exf, ok.bs, ok.bsz, ok.noex, ok.exfs, ok.funs, ok.frf, ok.seer, ok.tree, ok.plr⟩
section
variable {X : Cx} {pins : List (Addr × Obj)} {σ : St} {H : Hp} {s : Shared} {E : Value → Shared → Prop}
theorem Inv.wish (I : Inv X pins σ H s) (E : Value → Shared → Prop) : Inv (X.wish E) pins σ H s := ⟨I.ok.wish E, I.os, I.bare, I.base, I.loc, I.cell, I.free, I.freeC, I.pin, I.hok, I.len⟩
theorem Inv.unwish (I : Inv (X.wish E) pins σ H s) : Inv X pins σ H s := ⟨I.ok.unwish, I.os, I.bare, I.base, I.loc, I.cell, I.free, I.freeC, I.pin, I.hok, I.len⟩
theorem SP.unwish {D : Ends} {f : Flow} {s' : Shared} (h : SP (X.wish E) pins D f s') : SP X pins D f s' := by
  cases f with
  | next => obtain ⟨σ', H', I, q⟩ := h; exact ⟨σ', H', I.unwish, q⟩
  | brk => obtain ⟨σ', H', I, q⟩ := h; exact ⟨σ', H', I.unwish, q⟩
  | cont => obtain ⟨σ', H', I, q⟩ := h; exact ⟨σ', H', I.unwish, q⟩
  | ret u => obtain ⟨v, σ', H', I, r, q⟩ := h; exact ⟨v, σ', H', I.unwish, r, q⟩
theorem PE.nox {e : Expr} {t : TE} (h : PE X.nox e t) : PE X e t := fun pins s σ H Q I hw =>
  wpAny_mono (h pins s σ H Q (I.wish _) hw) (fun _ _ ⟨v, H', I', r, q⟩ => ⟨v, H', I'.unwish, r, q⟩) fun _ _ z => False.elim z
theorem PT.nox {e : Expr} {t : TT} (h : PT X.nox e t) : PT X e t := fun pins s σ H Q I hw =>
  wpAny_mono (h pins s σ H Q (I.wish _) hw) (fun _ _ ⟨H', I', q⟩ => ⟨H', I'.unwish, q⟩) fun _ _ z => False.elim z
theorem PSs.nox {st : List Stmt} {t : TS} (h : PSs X.nox st t) : PSs X st t := fun pins s σ H D I hw =>
  wpAny_mono (h pins s σ H D (I.wish _) hw) (fun _ _ q => q.unwish) fun _ _ z => False.elim z
end
section
variable {X : Cx} {st : Stmt} {rest : List Stmt} {t u : TS} {e : Expr} {te : TE} {pos : Pos}
def tNext : TS := fun D σ H => D.nx σ H
def tSeq (t u : TS) : TS := fun D σ H => t { D with nx := u D } σ H
theorem pss_nil : PSs X [] tNext := fun _ _ σ H _ I h => wpAny_execs_nil ⟨σ, H, I, h⟩
theorem pss_cons (h1 : PS X st t) (h2 : PSs X rest u) : PSs X (st :: rest) (tSeq t u) := by
  intro pins s σ H D I h
  refine wpAny_execs_cons (thn (h1 pins s σ H { D with nx := u D } I h) fun f s1 q => ?_)
  cases f with
  | next =>
    obtain ⟨σ', H', I', q⟩ := q
    exact h2 pins s1 σ' H' D I' q
  | ret v => exact q
  | brk => exact q
  | cont => exact q
theorem pss_one (h1 : PS X st t) : PSs X [st] t := by
  intro pins s σ H D I h
  refine wpAny_execs_cons (thn (h1 pins s σ H D I h) fun f s1 q => ?_)
  cases f with
  | next => exact wpAny_execs_nil q
  | ret v => exact q
  | brk => exact q
  | cont => exact q
theorem Inv.quiet {pins : List (Addr × Obj)} {σ : St} {H : Hp} {s : Shared} (I : Inv X pins σ H s) : interactive X.env = false := by simp [interactive, I.ok.kind]
def tDrop (te : TE) : TS := fun D σ H => te σ H fun _ H1 => D.nx σ H1
theorem ps_expr (he : PE X e te) (hs : swapsWith e none pos.line X.env = pure false := by rfl) : PS X (.Expr e pos) (tDrop te) := by
  intro pins s σ H D I h
  exact wpAny_Expr_any (thn (he pins s σ H _ I h) fun v s1 ⟨x, H1, I1, r1, q1⟩ => ⟨σ, H1, I1, q1⟩) I.quiet hs
def tRet (te : TE) : TS := fun D σ H => te σ H D.rt
theorem ps_ret (he : PE X e te) : PS X (.Return (some e) pos) (tRet te) := by
  intro pins s σ H D I h
  exact wpAny_Return_some (thn (he pins s σ H _ I h) fun v s1 ⟨x, H1, I1, r1, q1⟩ => ⟨x, σ, H1, I1, r1, q1⟩)
def tIfS (c : TT) (t u : TS) : TS := fun D σ H => c σ H fun b H1 => if b = true then t D σ H1 else u D σ H1
theorem ps_if {c : Expr} {a b : List Stmt} {tc : TT} (hc : PT X c tc) (ha : PSs X a t) (hb : PSs X b u) : PS X (.If c a b pos) (tIfS tc t u) := by
  intro pins s σ H D I h
  refine wpAny_If (thn (hc pins s σ H _ I h) fun d s1 ⟨H1, I1, q1⟩ => ?_)
  cases d with
  | true => exact ha pins s1 σ H1 D I1 q1
  | false => exact hb pins s1 σ H1 D I1 q1
end
abbrev TG := V → St → Hp → (St → Hp → Prop) → Prop
abbrev TGs := List V → St → Hp → (St → Hp → Prop) → Prop
def PG (X : Cx) (target : Expr) (t : TG) : Prop :=
  ∀ (pins : List (Addr × Obj)) (s : Shared) (σ : St) (H : Hp) (v : V) (u : Value) (Q : St → Hp → Prop), Inv X pins σ H s → RelV v u → t v σ H Q →
    wpAny (model X.prog X.w) X.A (assign target X.env u) (fun _ s' => ∃ σ' H', Inv X pins σ' H' s' ∧ Q σ' H') X.xe s
def PGs (X : Cx) (ts : List Expr) (t : TGs) : Prop :=
  ∀ (pins : List (Addr × Obj)) (s : Shared) (σ : St) (H : Hp) (vs : List V) (us : List Value) (Q : St → Hp → Prop), Inv X pins σ H s → Vals vs us → t vs σ H Q →
    wpAny (model X.prog X.w) X.A (assignInOrder ((assignEach ts X.env).map (·.2)) us) (fun _ s' => ∃ σ' H', Inv X pins σ' H' s' ∧ Q σ' H') X.xe s
abbrev TSet := V → V → V → Hp → (Hp → Prop) → Prop
def PSet (X : Cx) (t : TSet) : Prop :=
  ∀ (pins : List (Addr × Obj)) (s : Shared) (σ : St) (H : Hp) (o i v : V) (ov iv u : Value) (Q : Hp → Prop), Inv X pins σ H s → RelV o ov → RelV i iv → RelV v u → t o i v H Q →
    wpAny (model X.prog X.w) X.A (setItem ov iv u) (fun _ s' => ∃ H', Inv X pins σ H' s' ∧ Q H') X.xe s
abbrev TIp := V → V → Hp → VK → Prop
def PIp (X : Cx) (op : Operator) (t : TIp) : Prop :=
  ∀ (pins : List (Addr × Obj)) (s : Shared) (σ : St) (H : Hp) (x y : V) (v u : Value) (Q : VK), Inv X pins σ H s → RelV x v → RelV y u → t x y H Q →
    wpAny (model X.prog X.w) X.A (inplaceOp op v u) (EP X pins σ Q) X.xe s
section
variable {X : Cx} {pos : Pos}
def gName (i : Nat) : TG := fun v σ H Q => Q (σ.set i (some v)) H
theorem pg_name {i : Nat} {x : Str} (hN : X.N.Nodup) (hi : X.N[i]? = some x) (hx : Loc X.env.scope x) (hf : X.fn x = true ∨ X.env.scope.names.lookup x = some .local := by first | exact .inl rfl | exact .inr rfl | assumption) : PG X (.Name x pos) (gName i) := by
  intro pins s σ H v u Q I r h
  exact wpAny_assign_Name (store_ok I hN hi hx r (fun s' I' => ⟨_, H, I', h⟩) hf)
def gNil : TGs := fun vs σ H Q => vs = [] ∧ Q σ H
def gCons (t : TG) (u : TGs) : TGs := fun vs σ H Q => ∃ v r, vs = v :: r ∧ t v σ H fun σ' H' => u r σ' H' Q
theorem pgs_nil : PGs X [] gNil := by
  intro pins s σ H vs us Q I r h
  obtain ⟨e, h⟩ := h
  subst e
  cases r
  exact assignInOrder_nil ⟨σ, H, I, h⟩
theorem pgs_cons {e : Expr} {es : List Expr} {t : TG} {u : TGs} (h1 : PG X e t) (h2 : PGs X es u)
    (hs : (assignEach (e :: es) X.env).map (·.2) = assign e X.env :: (assignEach es X.env).map (·.2) := by rfl) : PGs X (e :: es) (gCons t u) := by
  intro pins s σ H vs us Q I r h
  obtain ⟨v, vr, e1, h⟩ := h
  subst e1
  cases r with
  | cons r rr =>
    rw [hs]
    refine assignInOrder_cons (thn (h1 pins s σ H _ _ _ I r h) fun _ s1 ⟨σ1, H1, I1, q1⟩ => ?_)
    exact h2 pins s1 σ1 H1 _ _ Q I1 rr q1
def gTup (K : PySem.W.Frag) (n : Nat) (t : TGs) : TG := fun v σ H Q => ∃ a xs, v = .ref a ∧ SqT K H a xs ∧ xs.length = n ∧ t xs σ H Q
theorem pg_tup {es : List Expr} {k : Nat} {t : TGs} {n : Nat} (hc : X.calm = true) (h : PGs X es t)
    (hn : (assignEach es X.env).length = n := by rfl) (hst : (assignEach es X.env).findIdx? (·.1) = none := by rfl) : PG X (.Tuple es k pos) (gTup X.K n t) := by
  intro pins s σ H v u Q I r hw
  obtain ⟨a, xs, e1, hq, hl, hw⟩ := hw
  subst e1
  cases r
  obtain ⟨its, rv, ht, hz⟩ := I.tuple hq
  refine assign_Tuple_tuple (I.ok.hd hc) ht (by simp [hn, ← hl, rv.length]) hst fun h' hx => ?_
  have I1 : Inv X pins σ H { s with heap := h' } := I.kept (t' := s.toks) fun b o e => hx b o (Nat.ne_of_lt (Heap.lt_size e)) e
  exact h pins _ σ H xs _ Q I1 (by simpa using rv) hw
def gSub (to ti : TE) (t : TSet) : TG := fun v σ H Q => to σ H fun o H1 => ti σ H1 fun i H2 => t o i v H2 fun H3 => Q σ H3
theorem pg_sub {o i : Expr} {to ti : TE} {t : TSet} (ho : PE X o to) (hi : PE X i ti) (hs : PSet X t)
    (ha : ∀ v, assign (.Subscript o i pos) X.env v = (do
      let ov ← holding [v] (eval o X.env)
      let iv ← holding [v, ov] (eval i X.env)
      standAt pos
      holding [v, ov, iv] (setItem ov iv v)
      release [v, ov, iv] []) := by intro _; rfl) : PG X (.Subscript o i pos) (gSub to ti t) := by
  intro pins s σ H v u Q I r h
  rw [ha]
  refine wpAny_bind (wpAny_holding (thn (ho pins s σ H _ I h) fun ov s1 ⟨x, H1, I1, r1, q1⟩ => ?_))
  refine wpAny_bind (wpAny_holding (thn (hi pins s1 σ H1 _ I1 q1) fun iv s2 ⟨y, H2, I2, r2, q2⟩ => ?_))
  refine wpAny_bind (wpAny_standAt (wpAny_bind (wpAny_holding (thn (hs pins s2 σ H2 x y v ov iv u _ I2 r1 r2 r q2) fun _ s3 ⟨H3, I3, q3⟩ => ?_))))
  exact wpAny_release ⟨σ, H3, I3, q3⟩
def tAsg (te : TE) (g : TG) : TS := fun D σ H => te σ H fun x H1 => g x σ H1 D.nx
theorem ps_asg {tg e : Expr} {te : TE} {g : TG} (he : PE X e te) (hg : PG X tg g) (hs : swapsWithSole [tg] e pos.line X.env = pure false := by rfl) (hw : swappedStores [tg] e X.env = pure none := by rfl)
    (h1 : (assignEach [tg] X.env).map (·.2) = [assign tg X.env] := by rfl) : PS X (.Assign [tg] e pos) (tAsg te g) := by
  intro pins s σ H D I h
  refine wpAny_Assign_stores (thn (he pins s σ H _ I h) fun v s1 ⟨x, H1, I1, r1, q1⟩ => ?_) hs hw
  rw [h1]
  exact thn (hg pins s1 σ H1 x v _ I1 r1 q1) fun _ s2 q => q
theorem ps_set {i : Nat} {x : Str} {e : Expr} {te : TE} {pos' : Pos} (hN : X.N.Nodup) (hi : X.N[i]? = some x) (hx : Loc X.env.scope x) (he : PE X e te) (hs : swapsWith e (some (.Name x pos')) pos.line X.env = pure false := by rfl) (hf : X.fn x = true ∨ X.env.scope.names.lookup x = some .local := by first | exact .inl rfl | exact .inr rfl | assumption) :
    PS X (.Assign [.Name x pos'] e pos) (tAsg te (gName i)) := by
  intro pins s σ H D I h
  refine wpAny_Assign_Name (thn (he pins s σ H _ I h) fun v s1 ⟨y, H1, I1, r1, q1⟩ => ?_) hs
  exact store_ok I1 hN hi hx r1 (fun s2 I2 => ⟨_, H1, I2, q1⟩) hf
def tPar (i j : Nat) (ta : TA) : TS := fun D σ H => ta σ H fun vs H1 => ∃ v w, vs = [v, w] ∧ D.nx ((σ.set i (some v)).set j (some w)) H1
theorem ps_par {i j : Nat} {x y : Str} {a b : Expr} {ta : TA} {px py pt : Pos} {kt k2 pt2} (hc : X.calm = true) (hN : X.N.Nodup) (hi : X.N[i]? = some x) (hj : X.N[j]? = some y) (hij : i ≠ j)
    (hx : X.env.scope.names.lookup x = some .local) (hy : X.env.scope.names.lookup y = some .local) (ha : PA X [a, b] ta)
    (hw : swappedStores [.Tuple [.Name x px, .Name y py] kt pt] (.Tuple [a, b] k2 pt2) X.env = pure (some [x, y]))
    (hs : swapsWithSole [.Tuple [.Name x px, .Name y py] kt pt] (.Tuple [a, b] k2 pt2) pos.line X.env = pure false := by rfl) :
    PS X (.Assign [.Tuple [.Name x px, .Name y py] kt pt] (.Tuple [a, b] k2 pt2) pos) (tPar i j ta) := by
  intro pins s σ H D I h
  rw [exec_Assign_arm]
  refine wpAny_bind (wpAny_standAt ?_)
  rw [hs]
  refine wpAny_bind (wpAny_pure ?_)
  rw [if_neg (by decide)]
  refine wpAny_bind (Tuple_ (thn (ha _ pins s σ H _ I h) fun us s1 ⟨vs, H1, I1, r1, q1⟩ => ?_))
  obtain ⟨v, w, e1, q1⟩ := q1
  subst e1
  obtain ⟨u1, u2, rfl, rv, rw'⟩ : ∃ u1 u2, us = [u1, u2] ∧ RelV v u1 ∧ RelV w u2 := by
    cases r1 with
    | cons p q =>
      cases q with
      | cons p' q' =>
        cases q'
        exact ⟨_, _, rfl, p, p'⟩
  refine wpAny_newObj_type ?_ (by show 2 ≤ sizeLine; decide)
  have I2 : Inv X pins σ H1 { s1 with heap := s1.heap.push { cls := .type "tuple", data := .seq [u1, u2].toArray } } := I1.kept (t' := s1.toks) fun b o e => Heap.get?_push_of_some _ e
  rw [hw]
  refine wpAny_bind (wpAny_pure ?_)
  show wpAny (model X.prog X.w) X.A (do rule "assign.swapped-stores"; let items ← unpackItems (.ref s1.heap.objs.size) 2 none; assignInOrder [fun v => bindName X.env y v, fun v => bindName X.env x v] items.reverse; pure Flow.next) _ _ _
  refine wpAny_bind (wpAny_rule (wpAny_bind (unpackItems_tuple (items := #[u1, u2]) (I.ok.hd hc) (IsTup.new s1.heap _) fun h' hx' => ?_)))
  have I3 := I2.kept (h' := h') (t' := s1.toks) fun b o e => hx' b o (Nat.ne_of_lt (Heap.lt_size e)) e
  show wpAny _ _ (assignInOrder [fun v => bindName X.env y v, fun v => bindName X.env x v] [u2, u1] >>= fun _ => pure Flow.next) _ _ _
  refine wpAny_bind (assignInOrder_cons (wpAny_bindName (store_ok I3 hN hj (.inl hy) rw' (fun s2 I4 => ?_) (.inr hy))))
  refine assignInOrder_cons (wpAny_bindName (store_ok I4 hN hi (.inl hx) rv (fun s3 I5 => assignInOrder_nil (wpAny_pure ?_)) (.inr hx)))
  rw [List.set_comm _ _ (Ne.symm hij)] at I5
  exact ⟨_, H1, I5, q1⟩
def tAug (i : Nat) (te : TE) (ti : TIp) : TS := fun D σ H => ∃ x, σ[i]? = some (some x) ∧ te σ H fun y H1 => ti x y H1 fun z H2 => D.nx (σ.set i (some z)) H2
theorem ps_aug {i : Nat} {x : Str} {e : Expr} {te : TE} {op : Operator} {ti : TIp} {pos' : Pos} (hN : X.N.Nodup) (hi : X.N[i]? = some x) (hx : Loc X.env.scope x) (he : PE X e te) (ho : PIp X op ti) (hf : X.fn x = true ∨ X.env.scope.names.lookup x = some .local := by first | exact .inl rfl | exact .inr rfl | assumption) :
    PS X (.AugAssign (.Name x pos') op e pos) (tAug i te ti) := by
  intro pins s σ H D I h
  obtain ⟨v, e1, h⟩ := h
  obtain ⟨m, hn, hl⟩ := I.loc
  have vis : Vis X.env.scope x := by rcases hx with k | k; exact .inl k; exact .inr (.inl k)
  obtain ⟨u, r, l⟩ := hl i x v hi e1 vis
  refine wpAny_AugAssign_Name ?_
  have go : wpAny (model X.prog X.w) X.A (eval e X.env) (fun w s₂ => wpAny (model X.prog X.w) X.A (inplaceOp op u w) (fun r s₃ => wpAny (model X.prog X.w) X.A (storeName X.env x r) (fun _ => SP X pins D .next) X.xe s₃) X.xe s₂) X.xe s := by
    refine thn (he pins s σ H _ I h) fun w s1 ⟨y, H1, I1, r1, q1⟩ => ?_
    refine thn (ho pins s1 σ H1 v y u w _ I1 r r1 q1) fun z s2 ⟨zv, H2, I2, r2, q2⟩ => ?_
    exact store_ok I2 hN hi hx r2 (fun s3 I3 => ⟨_, H2, I3, q2⟩) hf
  rcases l with ⟨hk, hm⟩ | ⟨hk, c, hc, hcell⟩
  · exact wpAny_loadName_local I.ok.kind hk hn hm go
  · rcases hk with hk | hk
    · exact wpAny_loadName_cell I.ok.kind hk hc hcell go
    · rcases hx with k | k
      · have : X.env.scope.names.lookup x = some .free := hk
        rw [k] at this; cases this
      · have : X.env.scope.names.lookup x = some .free := hk
        rw [k] at this; cases this
def tAugS (to ti te : TE) (tget : V → V → Hp → VK → Prop) (tip : TIp) (tset : TSet) : TS := fun D σ H => to σ H fun o H1 => ti σ H1 fun i H2 => tget o i H2 fun x H3 => te σ H3 fun y H4 => tip x y H4 fun z H5 => tset o i z H5 fun H6 => D.nx σ H6
def PGet (X : Cx) (t : V → V → Hp → VK → Prop) : Prop :=
  ∀ (pins : List (Addr × Obj)) (s : Shared) (σ : St) (H : Hp) (o i : V) (ov iv : Value) (Q : VK), Inv X pins σ H s → RelV o ov → RelV i iv → t o i H Q →
    wpAny (model X.prog X.w) X.A (getItem ov iv) (EP X pins σ Q) X.xe s
theorem ps_augS {o i e : Expr} {to ti te : TE} {tget : V → V → Hp → VK → Prop} {tip : TIp} {tset : TSet} {op : Operator} {tpos : Pos} (ho : PE X o to) (hi : PE X i ti) (hg : PGet X tget) (he : PE X e te) (hp : PIp X op tip) (hs : PSet X tset)
    (ha : ∀ ov iv new, augStore i ov iv new = (do holding [new, ov, iv] (setItem ov iv new); release [new, ov, iv] []; pure .next) := by intros; rfl) : PS X (.AugAssign (.Subscript o i tpos) op e pos) (tAugS to ti te tget tip tset) := by
  intro pins s σ H D I h
  refine wpAny_AugAssign_SubscriptAny (thn (ho pins s σ H _ I h) fun ov s1 ⟨x1, H1, I1, r1, q1⟩ => ?_) ha
  refine thn (hi pins s1 σ H1 _ I1 q1) fun iv s2 ⟨x2, H2, I2, r2, q2⟩ => ?_
  refine thn (hg pins s2 σ H2 x1 x2 ov iv _ I2 r1 r2 q2) fun old s3 ⟨x3, H3, I3, r3, q3⟩ => ?_
  refine thn (he pins s3 σ H3 _ I3 q3) fun v s4 ⟨x4, H4, I4, r4, q4⟩ => ?_
  refine thn (hp pins s4 σ H4 x3 x4 old v _ I4 r3 r4 q4) fun new s5 ⟨x5, H5, I5, r5, q5⟩ => ?_
  exact thn (hs pins s5 σ H5 x1 x2 x5 ov iv new _ I5 r1 r2 r5 q5) fun _ s6 ⟨H6, I6, q6⟩ => ⟨σ, H6, I6, q6⟩
end
section
variable {X : Cx} {pos : Pos}
def tWhile (c : TT) (tb : TS) : TS := fun D σ H => ∃ W : Nat → St → Hp → Prop, (∃ m, W m σ H) ∧ ∀ m σ H, W m σ H →
  c σ H fun b H1 => if b = true then ∃ N : St → Hp → Prop, (∀ σ' H', N σ' H' → ∃ m', m' < m ∧ W m' σ' H') ∧ tb { D with nx := N, ct := N, bk := D.nx } σ H1 else D.nx σ H1
theorem ps_while {c : Expr} {body : List Stmt} {tc : TT} {tb : TS} (hp : PassesOwn (model X.prog X.w) X.A X.env X.xe) (hc : PT X c tc) (hb : PSs X body tb) : PS X (.While c body [] pos) (tWhile tc tb) := by
  intro pins s σ H D I h
  obtain ⟨W, ⟨m0, w0⟩, turn⟩ := h
  refine wpAny_While (codeAny_whileLoop (fun n s' => ∃ σ' H', Inv X pins σ' H' s' ∧ W n σ' H') ?_ m0 ⟨σ, H, I, w0⟩)
  rintro n s1 ⟨σ1, H1, I1, w1⟩
  refine wpAny_passesOwn hp (thn (hc pins s1 σ1 H1 _ I1 (turn n σ1 H1 w1)) fun b s2 ⟨H2, I2, q2⟩ => ?_)
  cases b with
  | true =>
    obtain ⟨N, hN, q2⟩ := q2
    rw [if_pos rfl]
    refine wpAny_passesOwn hp (thn (hb pins s2 σ1 H2 _ I2 q2) fun f s3 q3 => ?_)
    cases f with
    | next =>
      obtain ⟨σ3, H3, I3, n3⟩ := q3
      obtain ⟨m', hm, w3⟩ := hN σ3 H3 n3
      exact ⟨m', hm, σ3, H3, I3, w3⟩
    | cont =>
      obtain ⟨σ3, H3, I3, n3⟩ := q3
      obtain ⟨m', hm, w3⟩ := hN σ3 H3 n3
      exact ⟨m', hm, σ3, H3, I3, w3⟩
    | brk => exact q3
    | ret v => exact q3
  | false =>
    rw [if_neg Bool.false_ne_true]
    exact wpAny_execs_nil ⟨σ1, H2, I2, q2⟩
end
structure It where
  go : Nat → Hp → Prop
  yld : Nat → Hp → V → Hp → Prop
  stop : Nat → Hp → Prop
def FpOk (X : Cx) (pins : List (Addr × Obj)) (H : Hp) (b : Addr) : Prop :=
  H b = none ∧ b ≠ X.env.locals ∧ b ∉ X.fs ∧ (b ∈ X.ex ∨ X.s₀.heap.objs.size ≤ b) ∧ (∀ x c, X.env.cells.lookup x = some c → c ≠ b) ∧ ∀ p ∈ X.pn ++ pins, p.1 ≠ b
theorem Inv.fpOk {X : Cx} {pins : List (Addr × Obj)} {σ : St} {H H' : Hp} {s : Shared} {b : Addr} (I : Inv X pins σ H s) (hb : s.heap.objs.size ≤ b) (hn : H' b = none) : FpOk X pins H' b := by
  refine ⟨hn, Nat.ne_of_gt (Nat.lt_of_lt_of_le I.lt hb), I.nofs hb, .inr (Nat.le_trans I.sz hb), fun x c e z => ?_, fun p hp z => ?_⟩
  · obtain ⟨v, q⟩ := I.cell x c e
    exact absurd (Nat.lt_of_lt_of_le q.lt (by rw [z]; exact hb)) (Nat.lt_irrefl _)
  · exact absurd (Nat.lt_of_lt_of_le (Heap.lt_size (I.pin p hp).1) (by rw [z]; exact hb)) (Nat.lt_irrefl _)
structure Turn (P : Program) (w : World) (K : PySem.W.Frag) (tg : Expr) (J : It) (fp : List Addr) (it : Addr) (tn : Nat → Heap → Prop) : Prop where
  mem : it ∈ fp
  obj : ∀ i h, tn i h → ∀ b ∈ fp, ∃ o, h.get? b = some o ∧ ∀ v, o.data ≠ .cell v
  keep : ∀ i h h', tn i h → (∀ b ∈ fp, ∀ o, h.get? b = some o → h'.get? b = some o) → tn i h'
  item : ∀ (X : Cx), X.prog = P → X.w = w → X.K = K → X.calm = true → ∀ (i : Nat) (pins : List (Addr × Obj)) (s : Shared) (σ : St) (H : Hp) (E : Value → Shared → Prop), Inv X pins σ H s → (∀ b ∈ fp, FpOk X pins H b) → tn i s.heap → J.go i H →
    wpAny (model P w) X.A (pyNext (.ref it)) (fun r s1 => ∃ u, r = some u ∧
      wpAny (model P w) X.A (letOwnedTupleGo tg (.ref it) u) (fun _ s2 => ∃ x H', Inv X pins σ H' s2 ∧ RelV x u ∧ J.yld i H x H' ∧ tn (i + 1) s2.heap ∧ ∀ b ∈ fp, H' b = none) E s1) E s
  done : ∀ (X : Cx), X.prog = P → X.w = w → X.K = K → X.calm = true → ∀ (i : Nat) (pins : List (Addr × Obj)) (s : Shared) (σ : St) (H : Hp) (E : Value → Shared → Prop), Inv X pins σ H s → (∀ b ∈ fp, FpOk X pins H b) → tn i s.heap → J.stop i H →
    wpAny (model P w) X.A (pyNext (.ref it)) (fun r s1 => r = none ∧ Inv X pins σ H s1) E s
  self : ∀ (A : Around) (i : Nat) (s : Shared) (Q : Value → Shared → Prop) (E : Value → Shared → Prop), tn i s.heap → Q (.ref it) s → wpAny (model P w) A (pyIter (.ref it)) Q E s
abbrev TI := St → Hp → (It → Hp → Prop) → Prop
def PIE (X : Cx) (pins : List (Addr × Obj)) (σ : St) (tg : Expr) (R : It → Hp → Prop) (itv : Value) (s2 : Shared) : Prop :=
  ∃ (it : Addr) (fp : List Addr) (tn : Nat → Heap → Prop) (J : It) (H' : Hp), itv = .ref it ∧ Inv X pins σ H' s2 ∧ Turn X.prog X.w X.K tg J fp it tn ∧ tn 0 s2.heap ∧ (∀ b ∈ fp, FpOk X pins H' b) ∧ R J H'
def PI (X : Cx) (tg iter : Expr) (wi : TI) : Prop :=
  ∀ (pins : List (Addr × Obj)) (s : Shared) (σ : St) (H : Hp) (R : It → Hp → Prop), Inv X pins σ H s → wi σ H R →
    wpAny (model X.prog X.w) X.A (eval iter X.env) (fun v s1 => wpAny (model X.prog X.w) X.A (pyIter v) (PIE X pins σ tg R) X.xe s1) X.xe s
theorem go_of {M : Model} {A : Around} {E : Value → Shared → Prop} {s : Shared} {tg : Expr} {it : Addr} {u : Value} {o : Obj} {n : String} {vs : Array Value} {Q : Unit → Shared → Prop} (ho : s.heap.get? it = some o) (hc : o.cls = .type n) (hd : o.data = .fields vs)
    (hn : ["enumerate", "zip", "dict_itemiterator", "dict_reverseitemiterator", "odict_iterator", "itertools.zip_longest", "itertools.pairwise"].contains n = false) (hQ : Q () s) : wpAny M A (letOwnedTupleGo tg (.ref it) u) Q E s := by
  unfold letOwnedTupleGo
  cases tg <;> first
    | exact wpAny_pure hQ
    | (cases u <;> first
        | exact wpAny_pure hQ
        | (refine wpAny_bind (wpAny_load ho ?_)
           rw [hc, hd]
           show wpAny M A (if (["enumerate", "zip", "dict_itemiterator", "dict_reverseitemiterator", "odict_iterator", "itertools.zip_longest", "itertools.pairwise"].contains n && vs[0]? == some (rawInt _)) = true then _ else _) Q E s
           rw [if_neg (by intro h; rw [hn, Bool.false_and] at h; cases h)]
           exact wpAny_pure hQ))
def Itl (K : PySem.W.Frag) (a : Addr) : It :=
  ⟨fun i H => ∃ xs x, SqL K H a xs ∧ xs[i]? = some x, fun i H x H' => H' = H ∧ ∀ xs, SqL K H a xs → xs[i]? = some x, fun i H => ∃ xs, SqL K H a xs ∧ xs.length ≤ i⟩
def Itt (K : PySem.W.Frag) (a : Addr) : It :=
  ⟨fun i H => ∃ xs x, SqT K H a xs ∧ xs[i]? = some x, fun i H x H' => H' = H ∧ ∀ xs, SqT K H a xs → xs[i]? = some x, fun i H => ∃ xs, SqT K H a xs ∧ xs.length ≤ i⟩
def Itr (lo : Int) (n : Nat) : It := ⟨fun i _ => i < n, fun i H x H' => H' = H ∧ x = .int (lo + i), fun i _ => n ≤ i⟩
theorem turn_list {P : Program} {w : World} {K : PySem.W.Frag} {tg : Expr} (a it : Addr) : Turn P w K tg (Itl K a) [it] it (fun i h => h.IsListIter it a i) where
  mem := by simp
  obj := fun i h st b hb => by
    have e : b = it := by simpa using hb
    subst e
    obtain ⟨o, e, c, d⟩ := st
    exact ⟨o, e, fun v z => by rw [d] at z; cases z⟩
  keep := fun i h h' st k => st.at fun o e => k it (by simp) o e
  item := by
    intro X hP hw hK hc i pins s σ H E I hf st hg
    subst hP hw hK
    obtain ⟨xs, x, hq, hx⟩ := hg
    obtain ⟨its, rv, p, hz⟩ := I.list hq
    obtain ⟨u, hu, ru⟩ := rv.get hx
    obtain ⟨f0, f1, f2, f3, f4, f5⟩ := hf it (by simp)
    refine wpAny_pyNext_list_item st p.isList (x := u) (by simpa using hu) fun h' st' sb => ?_
    have I1 : Inv X pins σ H { s with heap := h' } := I.turned (t' := s.toks) (fun b o hb e => (sb.2 b hb).trans e) f0 f1 f3 f4 f5
    obtain ⟨o, e, c, d⟩ := id st'
    exact ⟨u, rfl, go_of (s := { s with heap := h' }) e c d (by decide) ⟨x, H, I1, ru, ⟨rfl, fun ys hy => by rw [I.list_inj hy hq]; exact hx⟩, st', fun b hb => (hf b hb).1⟩⟩
  done := by
    intro X hP hw hK hc i pins s σ H E I hf st hg
    subst hP hw hK
    obtain ⟨xs, hq, hx⟩ := hg
    obtain ⟨its, rv, p, hz⟩ := I.list hq
    obtain ⟨f0, f1, f2, f3, f4, f5⟩ := hf it (by simp)
    have hl := rv.length
    exact wpAny_pyNext_list_end (I.ok.hd hc) st p.isList (by simp; omega) fun h' eb => ⟨rfl, I.turned (t' := s.toks) (fun b o hb e => eb b o hb e) f0 f1 f3 f4 f5⟩
  self := fun _ _ _ _ _ st h => wpAny_pyIter_listiter st h
theorem turn_tuple {P : Program} {w : World} {K : PySem.W.Frag} {tg : Expr} (a it : Addr) : Turn P w K tg (Itt K a) [it] it (fun i h => h.IsTupleIter it a i) where
  mem := by simp
  obj := fun i h st b hb => by
    have e : b = it := by simpa using hb
    subst e
    obtain ⟨o, e, c, d⟩ := st
    exact ⟨o, e, fun v z => by rw [d] at z; cases z⟩
  keep := fun i h h' st k => st.at fun o e => k it (by simp) o e
  item := by
    intro X hP hw hK hc i pins s σ H E I hf st hg
    subst hP hw hK
    obtain ⟨xs, x, hq, hx⟩ := hg
    obtain ⟨its, rv, p, hz⟩ := I.tuple hq
    obtain ⟨u, hu, ru⟩ := rv.get hx
    obtain ⟨f0, f1, f2, f3, f4, f5⟩ := hf it (by simp)
    refine wpAny_pyNext_tuple_item st (show s.heap.IsTuple a its.toArray from p) (x := u) (by simpa using hu) fun h' st' sb => ?_
    have I1 : Inv X pins σ H { s with heap := h' } := I.turned (t' := s.toks) (fun b o hb e => (sb.2 b hb).trans e) f0 f1 f3 f4 f5
    obtain ⟨o, e, c, d⟩ := id st'
    exact ⟨u, rfl, go_of (s := { s with heap := h' }) e c d (by decide) ⟨x, H, I1, ru, ⟨rfl, fun ys hy => by rw [I.tuple_inj hy hq]; exact hx⟩, st', fun b hb => (hf b hb).1⟩⟩
  done := by
    intro X hP hw hK hc i pins s σ H E I hf st hg
    subst hP hw hK
    obtain ⟨xs, hq, hx⟩ := hg
    obtain ⟨its, rv, p, hz⟩ := I.tuple hq
    obtain ⟨f0, f1, f2, f3, f4, f5⟩ := hf it (by simp)
    have hl := rv.length
    exact wpAny_pyNext_tuple_end (I.ok.hd hc) st (show s.heap.IsTuple a its.toArray from p) (by simp; omega) fun h' eb => ⟨rfl, I.turned (t' := s.toks) (fun b o hb e => eb b o hb e) f0 f1 f3 f4 f5⟩
  self := fun _ _ _ _ _ st h => wpAny_pyIter_tupleiter st h
theorem turn_range {P : Program} {w : World} {K : PySem.W.Frag} {tg : Expr} (it : Addr) (lo : Int) (n : Nat) : Turn P w K tg (Itr lo n) [it] it (fun i h => IsRangeIter h it (lo + (i : Nat) * 1) ((n : Int) - (i : Nat)) 1) where
  mem := by simp
  obj := fun i h st b hb => by
    have e : b = it := by simpa using hb
    subst e
    exact ⟨_, st, fun v z => by
      have z' : Data.fields _ = Data.cell v := z
      cases z'⟩
  keep := fun i h h' st k => k it (by simp) _ st
  item := by
    intro X hP hw hK hc i pins s σ H E I hf st hg
    subst hP hw hK
    obtain ⟨f0, f1, f2, f3, f4, f5⟩ := hf it (by simp)
    have W := Walks.range (prog := X.prog) (w := X.w) (I.ok.hd hc) it lo 1 n
    refine W.item i s _ _ hg st fun v h' tk hv st' kk => ?_
    obtain ⟨t, rfl⟩ := hv
    have I1 : Inv X pins σ H { s with heap := h', toks := tk } := I.turned (fun b o hb e => kk b o (by simpa using hb) e) f0 f1 f3 f4 f5
    refine ⟨_, rfl, go_of (s := { s with heap := h', toks := tk }) (n := "range_iterator") st' rfl rfl (by decide) ⟨.int (lo + i), H, I1, ⟨t, ?_⟩, ⟨rfl, rfl⟩, st', fun b hb => (hf b hb).1⟩⟩
    rw [Int.mul_one]
  done := by
    intro X hP hw hK hc i pins s σ H E I hf st hg
    subst hP hw hK
    obtain ⟨f0, f1, f2, f3, f4, f5⟩ := hf it (by simp)
    exact wpAny_pyNext_range_end (I.ok.hd hc) st (by have : n ≤ i := hg; omega) fun h' eb => ⟨rfl, I.turned (t' := s.toks) (fun b o hb e => eb b o hb e) f0 f1 f3 f4 f5⟩
  self := fun _ _ _ _ _ st h => wpAny_pyIter_rangeiter st h
end L2
namespace L2
open PySem PySem.Spec PyProof.Rows
section
variable {X : Cx} {tg : Expr}
def iList (K : PySem.W.Frag) (tl : TE) : TI := fun σ H R => tl σ H fun x H1 => ∃ a, x = .ref a ∧ (∃ xs, SqL K H1 a xs) ∧ R (Itl K a) H1
def iTup (K : PySem.W.Frag) (tl : TE) : TI := fun σ H R => tl σ H fun x H1 => ∃ a, x = .ref a ∧ (∃ xs, SqT K H1 a xs) ∧ R (Itt K a) H1
theorem pi_list {l : Expr} {tl : TE} (hl : PE X l tl) : PI X tg l (iList X.K tl) := by
  intro pins s σ H R I h
  refine thn (hl pins s σ H _ I h) fun v s1 ⟨x, H1, I1, r1, q1⟩ => ?_
  obtain ⟨a, e, ⟨xs, hq⟩, q⟩ := q1
  subst e
  cases r1
  obtain ⟨its, rv, p, hz⟩ := I1.list hq
  refine wpAny_pyIter_list p.isList ?_
  refine ⟨s1.heap.objs.size, [s1.heap.objs.size], _, _, H1, rfl, I1.kept (t' := s1.toks) fun b o e => Heap.get?_push_of_some _ e, turn_list a _, ⟨_, Heap.get?_push_size _ rfl, rfl, rfl⟩, fun b hb => ?_, q⟩
  have e : b = s1.heap.objs.size := by simpa using hb
  subst e
  exact I1.fpOk (Nat.le_refl _) (I1.hok.fresh (Nat.le_refl _))
theorem pi_tup {l : Expr} {tl : TE} (hl : PE X l tl) : PI X tg l (iTup X.K tl) := by
  intro pins s σ H R I h
  refine thn (hl pins s σ H _ I h) fun v s1 ⟨x, H1, I1, r1, q1⟩ => ?_
  obtain ⟨a, e, ⟨xs, hq⟩, q⟩ := q1
  subst e
  cases r1
  obtain ⟨its, rv, p, hz⟩ := I1.tuple hq
  refine wpAny_pyIter_tuple (show s1.heap.IsTuple a its.toArray from p) ?_
  refine ⟨s1.heap.objs.size, [s1.heap.objs.size], _, _, H1, rfl, I1.kept (t' := s1.toks) fun b o e => Heap.get?_push_of_some _ e, turn_tuple a _, ⟨_, Heap.get?_push_size _ rfl, rfl, rfl⟩, fun b hb => ?_, q⟩
  have e : b = s1.heap.objs.size := by simpa using hb
  subst e
  exact I1.fpOk (Nat.le_refl _) (I1.hok.fresh (Nat.le_refl _))
theorem range_it {pins : List (Addr × Obj)} {σ : St} {H : Hp} {s : Shared} {R : It → Hp → Prop} {E : Value → Shared → Prop} {lo hi : Int} {t u v : Tok} {tk : Nat} (I : Inv X pins σ H s) (h1 : -(2 ^ 62) ≤ lo) (h2 : lo < 2 ^ 62) (h3 : -(2 ^ 62) ≤ hi) (h4 : hi < 2 ^ 62)
    (q : R (Itr lo (hi - lo).toNat) H) : wpAny (model X.prog X.w) X.A (pyIter (.ref s.heap.objs.size)) (PIE X pins σ tg R) E { s with heap := s.heap.push { cls := .type "range", data := .fields #[.int lo t, .int hi u, .int 1 v] }, toks := tk } := by
  refine wpAny_pyIter_range (IsRange.new ..) (small_one h1 h2 h3 h4) ?_
  have I1 : Inv X pins σ H { s with heap := s.heap.push { cls := .type "range", data := .fields #[.int lo t, .int hi u, .int 1 v] }, toks := tk } := I.kept fun b o e => Heap.get?_push_of_some _ e
  refine ⟨(s.heap.push { cls := .type "range", data := .fields #[.int lo t, .int hi u, .int 1 v] }).objs.size, [(s.heap.push { cls := .type "range", data := .fields #[.int lo t, .int hi u, .int 1 v] }).objs.size], _, _, H, rfl,
    I1.kept (t' := tk) fun b o e => Heap.get?_push_of_some _ e, turn_range _ lo (hi - lo).toNat, ?_, fun b hb => ?_, q⟩
  · have e1 : lo + ((0 : Nat) : Int) * 1 = lo := by simp
    have e2 : (((hi - lo).toNat : Nat) : Int) - ((0 : Nat) : Int) = Builtin.Range.rangeSize lo hi 1 := by rw [rangeSize_one]; split <;> omega
    show IsRangeIter _ _ (lo + ((0 : Nat) : Int) * 1) ((((hi - lo).toNat : Nat) : Int) - ((0 : Nat) : Int)) 1
    rw [e1, e2]
    exact Heap.get?_push_size _ rfl
  · have e : b = (s.heap.push { cls := .type "range", data := .fields #[.int lo t, .int hi u, .int 1 v] }).objs.size := by simpa using hb
    subst e
    exact I1.fpOk (Nat.le_refl _) (I1.hok.fresh (Nat.le_refl _))
def iRng1 (ta : TA) : TI := fun σ H R => ta σ H fun vs H1 => ∃ j : Int, vs = [.int j] ∧ -(2 ^ 62) ≤ j ∧ j < 2 ^ 62 ∧ R (Itr 0 j.toNat) H1
def iRng2 (ta : TA) : TI := fun σ H R => ta σ H fun vs H1 => ∃ i j : Int, vs = [.int i, .int j] ∧ (-(2 ^ 62) ≤ i ∧ i < 2 ^ 62 ∧ -(2 ^ 62) ≤ j ∧ j < 2 ^ 62) ∧ R (Itr i (j - i).toNat) H1
theorem pi_range1 {a : Expr} {ta : TA} {p pos : Pos} (hg : Gl X "range") (hm : X.mg "range" = none) (ha : PA X [a] ta) (hs : starEach [a] X.env = [(false, eval a X.env)] := by rfl) : PI X tg (.Call (.Name "range" p) [a] [] pos) (iRng1 ta) := by
  intro pins s σ H R I h
  refine Call_ (ld_blt I hg hm boot_range (PyProof.Rows.callWith_type1 (thn (ha pos pins s σ H _ I h) fun us s1 ⟨vs, H1, I1, r1, q1⟩ => ?_) hs rfl))
  obtain ⟨j, e, q1, q2, q⟩ := q1
  subst e
  cases r1 with
  | cons r rr =>
    cases rr
    obtain ⟨t, rfl⟩ := r
    exact call_range_1 (range_it I1 (by omega) (by omega) q1 q2 (by simpa using q))
def tFor (wi : TI) (g : TG) (tb : TS) : TS := fun D σ H => wi σ H fun J H1 => ∃ W : Nat → Nat → St → Hp → Prop, (∃ m, W 0 m σ H1) ∧ ∀ i m σ H, W i m σ H →
  (J.stop i H ∧ D.nx σ H) ∨ (J.go i H ∧ ∃ N : St → Hp → Prop, (∀ σ' H', N σ' H' → ∃ m', m' < m ∧ W (i + 1) m' σ' H') ∧ ∀ x H', J.yld i H x H' → g x σ H' fun σ2 H2 => tb { D with nx := N, ct := N, bk := D.nx } σ2 H2)
def pinsAt (fp : List Addr) (h : Heap) : List (Addr × Obj) := fp.filterMap fun b => (h.get? b).map fun o => (b, o)
theorem mem_pinsAt {fp : List Addr} {h : Heap} {b : Addr} {o : Obj} (hb : b ∈ fp) (e : h.get? b = some o) : (b, o) ∈ pinsAt fp h := List.mem_filterMap.mpr ⟨b, hb, by rw [e]; rfl⟩
theorem of_pinsAt {fp : List Addr} {h : Heap} {p : Addr × Obj} (hp : p ∈ pinsAt fp h) : p.1 ∈ fp ∧ h.get? p.1 = some p.2 := by
  obtain ⟨b, hb, e⟩ := List.mem_filterMap.mp hp
  cases q : h.get? b with
  | none => rw [q] at e; cases e
  | some o =>
    rw [q] at e
    have e' : (b, o) = p := Option.some.inj e
    subst e'
    exact ⟨hb, q⟩
theorem Inv.pinned {pins : List (Addr × Obj)} {σ : St} {H : Hp} {s : Shared} {fp : List Addr} (I : Inv X pins σ H s) (hf : ∀ b ∈ fp, FpOk X pins H b) (ho : ∀ b ∈ fp, ∃ o, s.heap.get? b = some o ∧ ∀ v, o.data ≠ .cell v) : Inv X (pins ++ pinsAt fp s.heap) σ H s :=
  I.pins_of fun p hp => (List.mem_append.mp hp).elim (fun z => I.pin p (List.mem_append_right _ z)) fun z => by
    obtain ⟨hb, e⟩ := of_pinsAt z
    obtain ⟨f0, f1, f2, _⟩ := hf p.1 hb
    obtain ⟨o, e', d⟩ := ho p.1 hb
    rw [e] at e'; cases e'
    exact ⟨e, f0, f1, f2, d⟩
theorem Inv.unpinned {pins pl : List (Addr × Obj)} {σ : St} {H : Hp} {s : Shared} (I : Inv X (pins ++ pl) σ H s) : Inv X pins σ H s := I.pins_of fun p hp => I.pin p (List.mem_append_right _ (List.mem_append_left _ hp))
theorem ps_for {iter : Expr} {body : List Stmt} {wi : TI} {g : TG} {tb : TS} {pos : Pos} (hp : PassesOwn (model X.prog X.w) X.A X.env X.xe) (hc : X.calm = true) (hi : PI X tg iter wi) (hg : PG X tg g) (hb : PSs X body tb)
    (hs : ∀ x, foldedSetIterable iter X.env x = pure x := by intro _; rfl) : PS X (.For tg iter body [] pos) (tFor wi g tb) := by
  intro pins s σ H D I h
  refine wpAny_For (thn (hi pins s σ H _ I h) fun v s1 h1 => thn h1 fun itv s2 h2 => ?_) hs
  obtain ⟨it, fp, tn, J, H2, e, I2, T, st2, f2, W, ⟨m0, w0⟩, turn⟩ := h2
  subst e
  have stat : ∀ {H' : Hp}, (∀ b ∈ fp, H' b = none) → ∀ b ∈ fp, FpOk X pins H' b := fun hn b hb => ⟨hn b hb, (f2 b hb).2⟩
  refine codeAny_forLoop_any (fun n s' => ∃ i σ' H', Inv X pins σ' H' s' ∧ tn i s'.heap ∧ (∀ b ∈ fp, H' b = none) ∧ W i n σ' H') ?_ m0 ⟨0, σ, H2, I2, st2, fun b hb => (f2 b hb).1, w0⟩
  rintro n s3 ⟨i, σ3, H3, I3, st3, fr3, w3⟩
  rcases turn i n σ3 H3 w3 with ⟨stop, qn⟩ | ⟨go, N, hN, step⟩
  · refine wpAny_passesOwn hp (thn (T.done X rfl rfl rfl hc i pins s3 σ3 H3 X.xe I3 (stat fr3) st3 stop) fun r s4 ⟨hr, I4⟩ => ?_)
    subst hr
    exact wpAny_execs_nil ⟨σ3, H3, I4, qn⟩
  · refine wpAny_passesOwn hp (thn (T.item X rfl rfl rfl hc i pins s3 σ3 H3 X.xe I3 (stat fr3) st3 go) fun r s4 ⟨u, hr, h4⟩ => ?_)
    subst hr
    refine wpAny_passesOwn hp (thn h4 fun _ s5 ⟨x, H5, I5, r5, y5, st5, fr5⟩ => ?_)
    have I5' := I5.pinned (stat fr5) (T.obj _ _ st5)
    refine wpAny_passesOwn hp (thn (hg _ s5 σ3 H5 x u _ I5' r5 (step x H5 y5)) fun _ s6 ⟨σ6, H6, I6, q6⟩ => ?_)
    refine wpAny_passesOwn hp (thn (hb _ s6 σ6 H6 _ I6 q6) fun f s7 q7 => ?_)
    have again : ∀ {σ7 : St} {H7 : Hp}, Inv X (pins ++ pinsAt fp s5.heap) σ7 H7 s7 → N σ7 H7 → ∃ m, m < n ∧ ∃ i σ' H', Inv X pins σ' H' s7 ∧ tn i s7.heap ∧ (∀ b ∈ fp, H' b = none) ∧ W i m σ' H' := fun {σ7 H7} I7 n7 => by
      obtain ⟨m', hm, w7⟩ := hN σ7 H7 n7
      refine ⟨m', hm, i + 1, σ7, H7, I7.unpinned, T.keep _ _ _ st5 fun b hb o e => (I7.pin (b, o) (List.mem_append_right _ (List.mem_append_right _ (mem_pinsAt hb e)))).1, fun b hb => ?_, w7⟩
      obtain ⟨o, e, d⟩ := T.obj _ _ st5 b hb
      exact (I7.pin (b, o) (List.mem_append_right _ (List.mem_append_right _ (mem_pinsAt hb e)))).2.1
    cases f with
    | next => obtain ⟨σ7, H7, I7, n7⟩ := q7; exact again I7 n7
    | cont => obtain ⟨σ7, H7, I7, n7⟩ := q7; exact again I7 n7
    | brk => obtain ⟨σ7, H7, I7, q7⟩ := q7; exact ⟨σ7, H7, I7.unpinned, q7⟩
    | ret v => obtain ⟨x7, σ7, H7, I7, r7, q7⟩ := q7; exact ⟨x7, σ7, H7, I7.unpinned, r7, q7⟩
end
theorem for_list {K : PySem.W.Frag} {a : Addr} {xs : List V} {g : TG} {tb : TS} {D : Ends} {σ : St} {H : Hp} (Pv : Nat → St → Hp → Prop) (h0 : Pv 0 σ H) (hl : ∀ i σ H, i ≤ xs.length → Pv i σ H → SqL K H a xs)
    (hs : ∀ i x σ H, xs[i]? = some x → Pv i σ H → g x σ H fun σ2 H2 => tb { D with nx := Pv (i + 1), ct := Pv (i + 1), bk := D.nx } σ2 H2) (hd : ∀ σ H, Pv xs.length σ H → D.nx σ H) :
    ∃ W : Nat → Nat → St → Hp → Prop, (∃ m, W 0 m σ H) ∧ ∀ i m σ H, W i m σ H →
      ((Itl K a).stop i H ∧ D.nx σ H) ∨ ((Itl K a).go i H ∧ ∃ N : St → Hp → Prop, (∀ σ' H', N σ' H' → ∃ m', m' < m ∧ W (i + 1) m' σ' H') ∧ ∀ x H', (Itl K a).yld i H x H' → g x σ H' fun σ2 H2 => tb { D with nx := N, ct := N, bk := D.nx } σ2 H2) := by
  refine ⟨fun i m σ H => m = xs.length - i ∧ i ≤ xs.length ∧ Pv i σ H, ⟨xs.length, by simp, Nat.zero_le _, h0⟩, ?_⟩
  rintro i m σ H ⟨rfl, hi, p⟩
  have q := hl i σ H hi p
  by_cases hlt : i < xs.length
  · refine .inr ⟨⟨xs, xs[i], q, by simp [hlt]⟩, Pv (i + 1), fun σ' H' p' => ⟨xs.length - (i + 1), by omega, rfl, hlt, p'⟩, fun x H' y => ?_⟩
    obtain ⟨e, y⟩ := y
    subst e
    exact hs i x σ _ (y xs q) p
  · have e : i = xs.length := by omega
    subst e
    exact .inl ⟨⟨xs, q, Nat.le_refl _⟩, hd σ H p⟩
theorem for_tup {K : PySem.W.Frag} {a : Addr} {xs : List V} {g : TG} {tb : TS} {D : Ends} {σ : St} {H : Hp} (Pv : Nat → St → Hp → Prop) (h0 : Pv 0 σ H) (hl : ∀ i σ H, i ≤ xs.length → Pv i σ H → SqT K H a xs)
    (hs : ∀ i x σ H, xs[i]? = some x → Pv i σ H → g x σ H fun σ2 H2 => tb { D with nx := Pv (i + 1), ct := Pv (i + 1), bk := D.nx } σ2 H2) (hd : ∀ σ H, Pv xs.length σ H → D.nx σ H) :
    ∃ W : Nat → Nat → St → Hp → Prop, (∃ m, W 0 m σ H) ∧ ∀ i m σ H, W i m σ H →
      ((Itt K a).stop i H ∧ D.nx σ H) ∨ ((Itt K a).go i H ∧ ∃ N : St → Hp → Prop, (∀ σ' H', N σ' H' → ∃ m', m' < m ∧ W (i + 1) m' σ' H') ∧ ∀ x H', (Itt K a).yld i H x H' → g x σ H' fun σ2 H2 => tb { D with nx := N, ct := N, bk := D.nx } σ2 H2) := by
  refine ⟨fun i m σ H => m = xs.length - i ∧ i ≤ xs.length ∧ Pv i σ H, ⟨xs.length, by simp, Nat.zero_le _, h0⟩, ?_⟩
  rintro i m σ H ⟨rfl, hi, p⟩
  have q := hl i σ H hi p
  by_cases hlt : i < xs.length
  · refine .inr ⟨⟨xs, xs[i], q, by simp [hlt]⟩, Pv (i + 1), fun σ' H' p' => ⟨xs.length - (i + 1), by omega, rfl, hlt, p'⟩, fun x H' y => ?_⟩
    obtain ⟨e, y⟩ := y
    subst e
    exact hs i x σ _ (y xs q) p
  · have e : i = xs.length := by omega
    subst e
    exact .inl ⟨⟨xs, q, Nat.le_refl _⟩, hd σ H p⟩
theorem for_range {lo : Int} {n : Nat} {g : TG} {tb : TS} {D : Ends} {σ : St} {H : Hp} (Pv : Nat → St → Hp → Prop) (h0 : Pv 0 σ H)
    (hs : ∀ i σ H, i < n → Pv i σ H → g (.int (lo + i)) σ H fun σ2 H2 => tb { D with nx := Pv (i + 1), ct := Pv (i + 1), bk := D.nx } σ2 H2) (hd : ∀ σ H, Pv n σ H → D.nx σ H) :
    ∃ W : Nat → Nat → St → Hp → Prop, (∃ m, W 0 m σ H) ∧ ∀ i m σ H, W i m σ H →
      ((Itr lo n).stop i H ∧ D.nx σ H) ∨ ((Itr lo n).go i H ∧ ∃ N : St → Hp → Prop, (∀ σ' H', N σ' H' → ∃ m', m' < m ∧ W (i + 1) m' σ' H') ∧ ∀ x H', (Itr lo n).yld i H x H' → g x σ H' fun σ2 H2 => tb { D with nx := N, ct := N, bk := D.nx } σ2 H2) := by
  refine ⟨fun i m σ H => m = n - i ∧ i ≤ n ∧ Pv i σ H, ⟨n, by simp, Nat.zero_le _, h0⟩, ?_⟩
  rintro i m σ H ⟨rfl, hi, p⟩
  by_cases hlt : i < n
  · refine .inr ⟨hlt, Pv (i + 1), fun σ' H' p' => ⟨n - (i + 1), by omega, rfl, hlt, p'⟩, fun x H' y => ?_⟩
    obtain ⟨e, y⟩ := y
    subst e y
    exact hs i σ _ hlt p
  · have e : i = n := by omega
    subst e
    exact .inl ⟨Nat.le_refl _, hd σ H p⟩
theorem while_by {c : TT} {tb : TS} {D : Ends} {σ : St} {H : Hp} (Pv : St → Hp → Prop) (μ : St → Hp → Nat) (h0 : Pv σ H)
    (hs : ∀ σ H, Pv σ H → c σ H fun b H1 => if b = true then tb { D with nx := fun σ' H' => Pv σ' H' ∧ μ σ' H' < μ σ H, ct := fun σ' H' => Pv σ' H' ∧ μ σ' H' < μ σ H, bk := D.nx } σ H1 else D.nx σ H1)
    (mono : ∀ σ H Q Q', (∀ b H1, Q b H1 → Q' b H1) → c σ H Q → c σ H Q') : tWhile c tb D σ H := by
  refine ⟨fun m σ H => m = μ σ H ∧ Pv σ H, ⟨_, rfl, h0⟩, ?_⟩
  rintro m σ H ⟨rfl, p⟩
  refine mono σ H _ _ (fun b H1 q => ?_) (hs σ H p)
  cases b with
  | true => exact ⟨_, fun σ' H' ⟨p', l⟩ => ⟨_, l, rfl, p'⟩, q⟩
  | false => exact q
end L2
namespace L2
open PySem PySem.Spec PyProof.Rows
abbrev R2 := V → V → Hp → VK → Prop
def OpR (X : Cx) (f : Value → Value → Sem Value) (r : R2) : Prop :=
  ∀ (pins : List (Addr × Obj)) (s : Shared) (σ : St) (H : Hp) (x y : V) (v u : Value) (Q : VK), Inv X pins σ H s → RelV x v → RelV y u → r x y H Q →
    wpAny (model X.prog X.w) X.A (f v u) (EP X pins σ Q) X.xe s
def UnR (X : Cx) (f : Value → Sem Value) (r : V → Hp → VK → Prop) : Prop :=
  ∀ (pins : List (Addr × Obj)) (s : Shared) (σ : St) (H : Hp) (x : V) (v : Value) (Q : VK), Inv X pins σ H s → RelV x v → r x H Q →
    wpAny (model X.prog X.w) X.A (f v) (EP X pins σ Q) X.xe s
def CallR (X : Cx) (f : Value) (r : List V → Hp → VK → Prop) : Prop :=
  ∀ (pins : List (Addr × Obj)) (s : Shared) (σ : St) (H : Hp) (xs : List V) (us : List Value) (Q : VK), Inv X pins σ H s → Vals xs us → r xs H Q →
    wpAny (model X.prog X.w) X.A (call f us) (EP X pins σ Q) X.xe s
def tOp (r : R2) (ta tb : TE) : TE := fun σ H Q => ta σ H fun x H1 => tb σ H1 fun y H2 => r x y H2 Q
def tUn (r : V → Hp → VK → Prop) (ta : TE) : TE := fun σ H Q => ta σ H fun x H1 => r x H1 Q
def rI (C : Int → Int → Prop) (g : Int → Int → V) : R2 := fun x y H Q => ∃ i j, x = .int i ∧ y = .int j ∧ C i j ∧ Q (g i j) H
def rI0 (g : Int → Int → V) : R2 := fun x y H Q => ∃ i j, x = .int i ∧ y = .int j ∧ Q (g i j) H
def rU (g : Int → V) : V → Hp → VK → Prop := fun x H Q => ∃ i, x = .int i ∧ Q (g i) H
section
variable {X : Cx} {a b c : Expr} {ta tb tc : TE} {pos : Pos}
theorem binT (ha : PE X a ta) (hb : PE X b tb) {pins : List (Addr × Obj)} {s : Shared} {σ : St} {H : Hp} {R : V → V → Hp → Prop} (I : Inv X pins σ H s)
    (h : ta σ H fun x H1 => tb σ H1 fun y H2 => R x y H2) {Q : Value → Shared → Prop} {f : Value → Value → Sem Value}
    (hf : ∀ v u s2 x y H2, Inv X pins σ H2 s2 → RelV x v → RelV y u → R x y H2 → wpAny (model X.prog X.w) X.A (f v u) Q X.xe s2) :
    wpAny (model X.prog X.w) X.A (eval a X.env) (fun v s₁ => wpAny (model X.prog X.w) X.A (eval b X.env) (fun u s₂ => wpAny (model X.prog X.w) X.A (f v u) Q X.xe s₂) X.xe s₁) X.xe s := by
  refine thn (ha pins s σ H _ I h) fun v s1 ⟨x, H1, I1, r1, q1⟩ => ?_
  refine thn (hb pins s1 σ H1 _ I1 q1) fun u s2 ⟨y, H2, I2, r2, q2⟩ => ?_
  exact hf v u s2 x y H2 I2 r1 r2 q2
theorem pe_op {op : Operator} {r : R2} (ho : OpR X (binaryOp op) r) (ha : PE X a ta) (hb : PE X b tb) : PE X (.BinOp a op b pos) (tOp r ta tb) := by
  intro pins s σ H Q I h
  exact wpAny_BinOp (binT ha hb I h fun v u s2 x y H2 I2 rx ry q => ho pins s2 σ H2 x y v u Q I2 rx ry q)
theorem pe_un {op : UnaryOp} {r : V → Hp → VK → Prop} (ho : UnR X (unaryOp op) r) (ha : PE X a ta) : PE X (.UnaryOp op a pos) (tUn r ta) := by
  intro pins s σ H Q I h
  exact UnaryOp_ (thn (ha pins s σ H _ I h) fun v s1 ⟨x, H1, I1, r1, q1⟩ => ho pins s1 σ H1 x v Q I1 r1 q1)
theorem opI {f : Value → Value → Sem Value} {C : Int → Int → Prop} {g : Int → Int → Int}
    (rule : ∀ (i j : Int) (t u : Tok) (s : Shared) (Q : Value → Shared → Prop) (E : Value → Shared → Prop), C i j → Q (.int (g i j) s.toks) { s with toks := s.toks + 1 } → wpAny (model X.prog X.w) X.A (f (.int i t) (.int j u)) Q E s) :
    OpR X f (rI C fun i j => .int (g i j)) := by
  intro pins s σ H x y v u Q I rx ry h
  obtain ⟨i, j, rfl, rfl, hc, q⟩ := h
  obtain ⟨t, rfl⟩ := rx
  obtain ⟨t', rfl⟩ := ry
  exact rule i j t t' s _ _ hc ⟨.int (g i j), H, I.tok _, ⟨_, rfl⟩, q⟩
theorem opI0 {f : Value → Value → Sem Value} {g : Int → Int → Int}
    (rule : ∀ (i j : Int) (t u : Tok) (s : Shared) (Q : Value → Shared → Prop) (E : Value → Shared → Prop), Q (.int (g i j) s.toks) { s with toks := s.toks + 1 } → wpAny (model X.prog X.w) X.A (f (.int i t) (.int j u)) Q E s) :
    OpR X f (rI0 fun i j => .int (g i j)) := by
  intro pins s σ H x y v u Q I rx ry h
  obtain ⟨i, j, rfl, rfl, q⟩ := h
  obtain ⟨t, rfl⟩ := rx
  obtain ⟨t', rfl⟩ := ry
  exact rule i j t t' s _ _ ⟨.int (g i j), H, I.tok _, ⟨_, rfl⟩, q⟩
theorem opB0 {f : Value → Value → Sem Value} {g : Int → Int → Bool}
    (rule : ∀ (i j : Int) (t u : Tok) (s : Shared) (Q : Value → Shared → Prop) (E : Value → Shared → Prop), Q (.bool (g i j)) s → wpAny (model X.prog X.w) X.A (f (.int i t) (.int j u)) Q E s) :
    OpR X f (rI0 fun i j => .bl (g i j)) := by
  intro pins s σ H x y v u Q I rx ry h
  obtain ⟨i, j, rfl, rfl, q⟩ := h
  obtain ⟨t, rfl⟩ := rx
  obtain ⟨t', rfl⟩ := ry
  exact rule i j t t' s _ _ ⟨.bl (g i j), H, I, rfl, q⟩
def CMul (i j : Int) : Prop := (-(2 ^ 64) < i ∧ i < 2 ^ 64) ∨ (-(2 ^ 64) < j ∧ j < 2 ^ 64)
theorem CMul.ok {i j : Int} (h : CMul i j) : IntMulOk i j := by
  rcases h with ⟨h1, h2⟩ | ⟨h1, h2⟩
  · exact .of_left (intBits_le_64 h1 h2)
  · exact .of_right (intBits_le_64 h1 h2)
theorem op_add : OpR X (binaryOp .Add) (rI0 fun i j => .int (i + j)) := opI0 fun _ _ _ _ _ _ _ q => add_int q
theorem op_sub : OpR X (binaryOp .Sub) (rI0 fun i j => .int (i - j)) := opI0 fun _ _ _ _ _ _ _ q => sub_int q
theorem op_mod : OpR X (binaryOp .Mod) (rI (fun _ j => 0 < j) fun i j => .int (i % j)) := opI fun i j _ _ _ _ _ hc q => by
  have h1 : (0 : Int) < j := hc
  exact mod_int' (by omega) (by rw [Int.fmod_eq_emod_of_nonneg i (by omega)]; exact q)
theorem op_modN : OpR X (binaryOp .Mod) (rI (fun _ j => j ≠ 0) fun i j => .int (i.fmod j)) := opI fun _ _ _ _ _ _ _ hc q => mod_int' hc q
theorem iop_add : OpR X (inplaceOp .Add) (rI0 fun i j => .int (i + j)) := opI0 fun _ _ _ _ _ _ _ q => iadd_int q
theorem iop_sub : OpR X (inplaceOp .Sub) (rI0 fun i j => .int (i - j)) := opI0 fun _ _ _ _ _ _ _ q => isub_int q
theorem unI {f : Value → Sem Value} {g : Int → Int}
    (rule : ∀ (i : Int) (t : Tok) (s : Shared) (Q : Value → Shared → Prop) (E : Value → Shared → Prop), Q (.int (g i) s.toks) { s with toks := s.toks + 1 } → wpAny (model X.prog X.w) X.A (f (.int i t)) Q E s) :
    UnR X f (rU fun i => .int (g i)) := by
  intro pins s σ H x v Q I rx h
  obtain ⟨i, rfl, q⟩ := h
  obtain ⟨t, rfl⟩ := rx
  exact rule i t s _ _ ⟨.int (g i), H, I.tok _, ⟨_, rfl⟩, q⟩
theorem un_neg : UnR X (unaryOp .USub) (rU fun i => .int (-i)) := unI fun _ _ _ _ _ q => neg_int q
end
def scal : V → V → Bool
  | .non, .non => true | .non, .int _ => true | .int _, .non => true | .non, .bl _ => true | .bl _, .non => true | .non, .str _ => true | .str _, .non => true
  | .int _, .int _ => true | .bl _, .bl _ => true | .str _, .str _ => true | .byt _, .byt _ => true
  | .int _, .str _ => true | .str _, .int _ => true | .bl _, .str _ => true | .str _, .bl _ => true
  | _, _ => false
def rEq : R2 := fun x y H Q => scal x y = true ∧ Q (.bl (decide (x = y))) H
def rNe : R2 := fun x y H Q => scal x y = true ∧ Q (.bl (!decide (x = y))) H
theorem dec_int {i j : Int} : decide (V.int i = V.int j) = (i == j) := by
  rw [Bool.eq_iff_iff]
  simp
theorem dec_bl {i j : Bool} : decide (V.bl i = V.bl j) = (i == j) := by
  rw [Bool.eq_iff_iff]
  simp
theorem dec_str {i j : Str} : decide (V.str i = V.str j) = (i == j) := by
  rw [Bool.eq_iff_iff]
  simp
theorem dec_byt {i j : Array UInt8} : decide (V.byt i = V.byt j) = (i.toList == j.toList) := by
  rw [Bool.eq_iff_iff]
  cases i
  cases j
  simp
section
variable {X : Cx} {a b c : Expr} {ta tb tc : TE} {pos : Pos}
theorem fin_bl {pins : List (Addr × Obj)} {σ : St} {H : Hp} {s : Shared} {Q : VK} {k k' : Bool} (I : Inv X pins σ H s) (q : Q (.bl k) H) (e : k = k') : EP X pins σ Q (.bool k') s := by
  subst e
  exact ⟨.bl k, H, I, rfl, q⟩
theorem op_eq : OpR X (compareOp .Eq) rEq := by
  intro pins s σ H x y v u Q I rx ry h
  obtain ⟨hs, q⟩ := h
  cases x with
  | non =>
    cases rx
    cases y with
    | non => cases ry; exact PySem.EqNone.eq_none_none (fin_bl I q (by simp))
    | bl j => cases ry; exact PySem.EqNone.eq_none_bool (fin_bl I q (by simp))
    | int j => obtain ⟨t', rfl⟩ := ry; exact PySem.EqNone.eq_none_int (fin_bl I q (by simp))
    | str j => obtain ⟨t', rfl⟩ := ry; exact PySem.EqNone.eq_none_str (fin_bl I q (by simp))
    | _ => exact absurd (show false = true from hs) Bool.false_ne_true
  | bl i =>
    cases rx
    cases y with
    | non => cases ry; exact PySem.EqNone.eq_bool_none (fin_bl I q (by simp))
    | bl j => cases ry; exact eq_bool (fin_bl I q dec_bl)
    | str j => obtain ⟨t', rfl⟩ := ry; exact PySem.EqMixed.eq_bool_str (fin_bl I q (by simp))
    | _ => exact absurd (show false = true from hs) Bool.false_ne_true
  | int i =>
    obtain ⟨t, rfl⟩ := rx
    cases y with
    | non => cases ry; exact PySem.EqNone.eq_int_none (fin_bl I q (by simp))
    | int j => obtain ⟨t', rfl⟩ := ry; exact eq_int (fin_bl I q dec_int)
    | str j => obtain ⟨t', rfl⟩ := ry; exact PySem.EqMixed.eq_int_str (fin_bl I q (by simp))
    | _ => exact absurd (show false = true from hs) Bool.false_ne_true
  | str i =>
    obtain ⟨t, rfl⟩ := rx
    cases y with
    | non => cases ry; exact PySem.EqNone.eq_str_none (fin_bl I q (by simp))
    | bl j => cases ry; exact PySem.EqMixed.eq_str_bool (fin_bl I q (by simp))
    | int j => obtain ⟨t', rfl⟩ := ry; exact PySem.EqMixed.eq_str_int (fin_bl I q (by simp))
    | str j => obtain ⟨t', rfl⟩ := ry; exact eq_str (fin_bl I q dec_str)
    | _ => exact absurd (show false = true from hs) Bool.false_ne_true
  | byt i =>
    obtain ⟨t, rfl⟩ := rx
    cases y with
    | byt j => obtain ⟨t', rfl⟩ := ry; exact PySem.W.eq_bytes (fin_bl I q dec_byt)
    | _ => exact absurd (show false = true from hs) Bool.false_ne_true
  | _ => cases y <;> exact absurd (show false = true from hs) Bool.false_ne_true
theorem op_ne : OpR X (compareOp .NotEq) rNe := by
  intro pins s σ H x y v u Q I rx ry h
  obtain ⟨hs, q⟩ := h
  cases x with
  | non =>
    cases rx
    cases y with
    | non => cases ry; exact PySem.EqNone.ne_none_none (fin_bl I q (by simp))
    | bl j => cases ry; exact PySem.EqNone.ne_none_bool (fin_bl I q (by simp))
    | int j => obtain ⟨t', rfl⟩ := ry; exact PySem.EqNone.ne_none_int (fin_bl I q (by simp))
    | str j => obtain ⟨t', rfl⟩ := ry; exact PySem.EqNone.ne_none_str (fin_bl I q (by simp))
    | _ => exact absurd (show false = true from hs) Bool.false_ne_true
  | bl i =>
    cases rx
    cases y with
    | non => cases ry; exact PySem.EqNone.ne_bool_none (fin_bl I q (by simp))
    | bl j => cases ry; exact ne_bool (fin_bl I q (congrArg not dec_bl))
    | str j => obtain ⟨t', rfl⟩ := ry; exact PySem.EqMixed.ne_bool_str (fin_bl I q (by simp))
    | _ => exact absurd (show false = true from hs) Bool.false_ne_true
  | int i =>
    obtain ⟨t, rfl⟩ := rx
    cases y with
    | non => cases ry; exact PySem.EqNone.ne_int_none (fin_bl I q (by simp))
    | int j => obtain ⟨t', rfl⟩ := ry; exact ne_int (fin_bl I q (congrArg not dec_int))
    | str j => obtain ⟨t', rfl⟩ := ry; exact PySem.EqMixed.ne_int_str (fin_bl I q (by simp))
    | _ => exact absurd (show false = true from hs) Bool.false_ne_true
  | str i =>
    obtain ⟨t, rfl⟩ := rx
    cases y with
    | non => cases ry; exact PySem.EqNone.ne_str_none (fin_bl I q (by simp))
    | bl j => cases ry; exact PySem.EqMixed.ne_str_bool (fin_bl I q (by simp))
    | int j => obtain ⟨t', rfl⟩ := ry; exact PySem.EqMixed.ne_str_int (fin_bl I q (by simp))
    | str j => obtain ⟨t', rfl⟩ := ry; exact ne_str (fin_bl I q (congrArg not dec_str))
    | _ => exact absurd (show false = true from hs) Bool.false_ne_true
  | byt i =>
    obtain ⟨t, rfl⟩ := rx
    cases y with
    | byt j => obtain ⟨t', rfl⟩ := ry; exact PySem.W.ne_bytes (fin_bl I q (congrArg not dec_byt))
    | _ => exact absurd (show false = true from hs) Bool.false_ne_true
  | _ => cases y <;> exact absurd (show false = true from hs) Bool.false_ne_true
theorem op_lt : OpR X (compareOp .Lt) (rI0 fun i j => .bl (decide (i < j))) := opB0 fun _ _ _ _ _ _ _ q => lt_int q
theorem op_gt : OpR X (compareOp .Gt) (rI0 fun i j => .bl (decide (j < i))) := opB0 fun _ _ _ _ _ _ _ q => gt_int q
theorem op_ge : OpR X (compareOp .GtE) (rI0 fun i j => .bl (decide (j ≤ i))) := opB0 fun _ _ _ _ _ _ _ q => ge_int q
theorem nomark (b : Expr) {op : CmpOp} (h : op ≠ .In := by decide) (h2 : op ≠ .NotIn := by decide) : behindInMarks op b = false := by
  have e1 : (op == CmpOp.In) = false := by cases op <;> first | rfl | exact absurd rfl h
  have e2 : (op == CmpOp.NotIn) = false := by cases op <;> first | rfl | exact absurd rfl h2
  cases b <;> simp [behindInMarks, e1, e2]
theorem pe_cmpR {op : CmpOp} {r : R2} (ho : OpR X (compareOp op) r) (ha : PE X a ta) (hb : PE X b tb) (hm : behindInMarks op b = false) : PE X (.Compare a [op] [b] pos) (tOp r ta tb) := by
  intro pins s σ H Q I h
  exact wpAny_Compare1 (binT ha hb I h fun v u s2 x y H2 I2 rx ry q => ho pins s2 σ H2 x y v u Q I2 rx ry q) hm
def tTest (t : TE) : TT := fun σ H Q => t σ H fun x H' => ∃ k, x = .bl k ∧ Q k H'
theorem pt_cmpR {op : CmpOp} {r : R2} (ho : OpR X (compareOp op) r) (ha : PE X a ta) (hb : PE X b tb) (hm : behindInMarks op b = false) : PT X (.Compare a [op] [b] pos) (tTest (tOp r ta tb)) := by
  intro pins s σ H Q I h
  refine wpAny_isTrue_Compare1 (thn (ha pins s σ H _ I h) fun v s1 ⟨x, H1, I1, r1, q1⟩ => thn (hb pins s1 σ H1 _ I1 q1) fun u s2 ⟨y, H2, I2, r2, q2⟩ =>
    thn (ho pins s2 σ H2 x y v u _ I2 r1 r2 q2) fun c s3 ⟨z, H3, I3, r3, k, e, q3⟩ => ?_) hm
  subst e
  cases r3
  exact wpAny_truthy_bool ⟨H3, I3, q3⟩
def tChain (r r' : R2) (ta tb tc : TE) : TE := fun σ H Q => ta σ H fun x H1 => tb σ H1 fun y H2 => r x y H2 fun z H3 => ∃ k, z = .bl k ∧
  (if k = true then tc σ H3 fun w' H4 => r' y w' H4 Q else Q (.bl false) H3)
theorem line63 : (sizeLine : Nat) < 2 ^ 63 := by rw [sizeLine_eq]; decide
theorem vals1 {x : V} {us : List Value} (r : Vals [x] us) : ∃ u, us = [u] ∧ RelV x u := by
  cases r with
  | cons r1 r2 => cases r2; exact ⟨_, rfl, r1⟩
theorem vals2 {x y : V} {us : List Value} (r : Vals [x, y] us) : ∃ u w', us = [u, w'] ∧ RelV x u ∧ RelV y w' := by
  cases r with
  | cons r1 r2 =>
    cases r2 with
    | cons r3 r4 => cases r4; exact ⟨_, _, rfl, r1, r3⟩
theorem call_abs : CallR X (.builtin "abs") (fun xs H Q => ∃ i, xs = [.int i] ∧ Q (.int (if i < 0 then -i else i)) H) := by
  intro pins s σ H xs us Q I r h
  obtain ⟨i, rfl, q⟩ := h
  obtain ⟨u, rfl, t, rfl⟩ := vals1 r
  exact call_abs_int fun u tk => ⟨.int (if i < 0 then -i else i), H, I.tok _, ⟨_, rfl⟩, q⟩
end
end L2
namespace L2
open PySem PySem.Spec PyProof.Rows
structure ObjM (h : Heap) (x dx C : Addr) (mA : Str → Option Value) : Prop where
  obj : h.get? x = some (PySem.W.instObj C dx)
  ns : h.Ns1 dx mA
  ne : dx ≠ x
theorem lookIn_ns {h : Heap} {dx : Addr} {mA : Str → Option Value} (n : h.Ns1 dx mA) : ∃ od, h.get? dx = some od ∧ ∀ name, PySem.W.lookIn name od = some (mA name) := by
  obtain ⟨o, es, ep, ho, hd, hk, _, hm⟩ := n
  refine ⟨o, ho, fun name => ?_⟩
  have e := hm name
  unfold nsFind findBy at e
  rw [← Array.find?_toList] at e
  unfold PySem.W.lookIn
  rw [hd]
  dsimp only
  split
  · rename_i y q
    rw [q] at e
    exact congrArg some e
  · rename_i q
    rw [q] at e
    have a : es.toList.any (·.refKey) = false := by
      rw [List.any_eq_false]
      intro y hy
      obtain ⟨z, t, hkey⟩ := hk y (Array.mem_toList_iff.mp hy)
      simp [DictEntry.refKey, hkey]
    have a' : ¬ es.toList.any (·.refKey) = true := by rw [a]; exact Bool.false_ne_true
    rw [if_neg a']
    exact congrArg some e
theorem ObjM.look {h : Heap} {x dx C : Addr} {mA : Str → Option Value} (I : ObjM h x dx C mA) : ∃ od, PySem.W.InstAt h x (PySem.W.instObj C dx) C (some od) ∧ ∀ name, PySem.W.lookIn name od = some (mA name) :=
  let ⟨od, ho, hl⟩ := lookIn_ns I.ns
  ⟨od, ⟨I.obj, rfl, rfl, ho⟩, hl⟩
section
variable {prog : Program} {w : World} {A : Around} {E : Value → Shared → Prop} {s : Shared} {K : PySem.W.Frag} {x dx C f : Addr} {mA : Str → Option Value} {name : Str} {v : Value}
end
section
variable {P : Program} {w : World} {H H' : Hp} {h h' : Heap} {a C dx : Addr} {fs fs' : List (Str × V)}
theorem ins_get (hok : HOk P w H h) (e : H a = some (.ins C dx fs)) : ∃ mA, ObjM h a dx C mA ∧ (∀ f, RelO (fs.lookup f) (mA f)) ∧ PySem.Within mA (fs.map (·.1)) ∧ fs.length ≤ 1000 ∧ H dx = some (.own a) := by
  obtain ⟨d, z, ne, ob, mA, n, r, q⟩ := (show ObjOk P w H h a (.ins C dx fs) from hok a _ e)
  exact ⟨mA, ⟨ob, n, ne⟩, r, q, z, d⟩
end
structure Cls (K : PySem.W.Frag) (C : Addr) : Prop where
  pg : PySem.W.plainGet K C Str.empty = true
  hd : PySem.W.hasDictIn K C = true
  po : PySem.W.plainOver K C = true
  sa : PySem.W.findIn K (.ref C) "__setattr__" = some (some (.builtin "object.__setattr__"))
theorem Cls.get {K : PySem.W.Frag} {C : Addr} (c : Cls K C) (f : Str) : PySem.W.plainGet K C f = true := c.pg
structure Con (K : PySem.W.Frag) (C : Addr) (f : Str) (v : V) (u : Value) : Prop where
  at_ : PySem.W.findIn K (.ref C) f = some (some u)
  rel : RelV v u
  get : PySem.W.specialIn K u "__get__" = some none
  cp : PySem.W.copiedNames.contains f = false
structure Meth (K : PySem.W.Frag) (C : Addr) (m : Str) (f : Addr) : Prop where
  at_ : PySem.W.findIn K (.ref C) m = some (some (.ref f))
  fn : PySem.W.isFn K (.ref f) = true
  kp : PySem.W.keepIn K (.ref f) = true
section
variable {X : Cx} {pins : List (Addr × Obj)} {σ : St} {H : Hp} {s : Shared} {a C dx : Addr} {fs : List (Str × V)} {f : Str} {v : V} {A : Around} {E : Value → Shared → Prop}
end
section
variable {X : Cx} {o e value : Expr} {f : Str} {pos pos' tpos : Pos} {ta tv : TE}
end
section
variable {X : Cx} {pins : List (Addr × Obj)} {σ : St} {H : Hp} {s : Shared} {A : Around} {E : Value → Shared → Prop} {Q : Value → Shared → Prop} {c : Value} {b : Bool}
inductive TyOf (K : PySem.W.Frag) (H : Hp) : V → Value → Prop where
  | non : TyOf K H .non (.type "NoneType")
  | bl (x : Bool) : TyOf K H (.bl x) (.type "bool")
  | int (i : Int) : TyOf K H (.int i) (.type "int")
  | str (x : Str) : TyOf K H (.str x) (.type "str")
  | flt (x : UInt64) : TyOf K H (.flt x) (.type "float")
  | lst {a : Addr} {xs : List V} (e : H a = some (.lst xs)) : TyOf K H (.ref a) (.type "list")
  | frz {a : Addr} {o : Obj} {xs : List V} (e : H a = some (.frz o (.lst xs))) : TyOf K H (.ref a) (.type "list")
  | tup {a : Addr} {xs : List V} (e : H a = some (.tup xs)) : TyOf K H (.ref a) (.type "tuple")
  | dK {a : Addr} {kvs : List (Key × V)} (e : H a = some (.dK kvs)) : TyOf K H (.ref a) (.type "dict")
  | dT {a : Addr} {kvs : List (List Key × V)} (e : H a = some (.dT kvs)) : TyOf K H (.ref a) (.type "dict")
  | ins {a C dx : Addr} {fs : List (Str × V)} (e : H a = some (.ins C dx fs)) (cl : Cls K C) (ha : PySem.W.findIn K (.ref C) "__class__" = some (some (.builtin "object.__class__")))
      (hn : PySem.W.specialIn K (.builtin "object.__class__") "__get__" = some (some (.builtin "getset_descriptor.__get__"))) (htk : PySem.W.takesIn K (.builtin "object.__class__") = some true)
      (hm : PySem.W.mroIn K C (.type "object") = some true) : TyOf K H (.ref a) (.ref C)
theorem isinst_ok {x : V} {u t : Value} (I : Inv X pins σ H s) (rx : RelV x u) (ty : TyOf X.K H x t) (e : PySem.W.kitOne X.K t c = some b) (h : ∀ tk, Q (.bool b) { s with toks := tk }) :
    wpAny (model X.prog X.w) A (call (.builtin "isinstance") [u, c]) Q E s := by
  cases ty with
  | non => cases (show u = Value.none from rx); exact PySem.W.kia_one PySem.W.kitx_none I.kIn True.intro e (fun z => nomatch z) h
  | bl y => cases (show u = Value.bool y from rx); exact PySem.W.kia_one PySem.W.kitx_bool I.kIn True.intro e (fun z => nomatch z) h
  | int i => obtain ⟨t, q⟩ := (show ∃ t, u = Value.int i t from rx); cases q; exact PySem.W.kia_one PySem.W.kitx_int I.kIn True.intro e (fun z => nomatch z) h
  | str y => obtain ⟨t, q⟩ := (show ∃ t, u = Value.str y t from rx); cases q; exact PySem.W.kia_one PySem.W.kitx_str I.kIn True.intro e (fun z => nomatch z) h
  | flt y => obtain ⟨t, q⟩ := (show ∃ t, u = Value.float y t from rx); cases q; exact PySem.W.kia_one PySem.W.kitx_float I.kIn True.intro e (fun z => nomatch z) h
  | @lst a xs ea =>
    cases (show u = Value.ref a from rx)
    obtain ⟨_, _, n, _, h1⟩ := (show ObjOk X.prog X.w H s.heap a (.lst xs) from I.hok a _ ea)
    exact PySem.W.kia_one PySem.W.kitx_list I.kIn ⟨_, h1, rfl⟩ e (fun z => nomatch z) h
  | @frz a ob xs ea =>
    cases (show u = Value.ref a from rx)
    obtain ⟨_, _, _, n, _, h1⟩ := (show ObjOk X.prog X.w H s.heap a (.frz ob (.lst xs)) from I.hok a _ ea)
    exact PySem.W.kia_one PySem.W.kitx_list I.kIn ⟨_, h1, rfl⟩ e (fun z => nomatch z) h
  | @tup a xs ea =>
    cases (show u = Value.ref a from rx)
    obtain ⟨_, _, _, p⟩ := (show ObjOk X.prog X.w H s.heap a (.tup xs) from I.hok a _ ea)
    obtain ⟨o, h1, h2, _⟩ := p
    exact PySem.W.kia_one PySem.W.kitx_tuple I.kIn ⟨o, h1, h2⟩ e (fun z => nomatch z) h
  | @dK a kvs ea =>
    cases (show u = Value.ref a from rx)
    obtain ⟨_, _, vs, _, p⟩ := (show ObjOk X.prog X.w H s.heap a (.dK kvs) from I.hok a _ ea)
    obtain ⟨o, es, ep, h1, h2, _⟩ := p
    exact PySem.W.kia_one PySem.W.kitx_dict I.kIn ⟨o, h1, h2.1⟩ e (fun z => nomatch z) h
  | @dT a kvs ea =>
    cases (show u = Value.ref a from rx)
    obtain ⟨_, _, xs, _, o, es, ep, h1, h2, _⟩ := (show ObjOk X.prog X.w H s.heap a (.dT kvs) from I.hok a _ ea)
    exact PySem.W.kia_one PySem.W.kitx_dict I.kIn ⟨o, h1, h2.1⟩ e (fun z => nomatch z) h
  | @ins a C dx fs ea cl ha hn htk hm =>
    cases (show u = Value.ref a from rx)
    obtain ⟨mA, O, _⟩ := ins_get I.hok ea
    obtain ⟨od, J, _⟩ := O.look
    exact PySem.W.kia_one (PySem.W.kitx_own (cl.get _) cl.hd ha hn htk hm) I.kIn J e (fun z => nomatch z) h
end
end L2
namespace L2
open PySem PySem.Spec PyProof.Rows
structure Room (k : Nat) (A : Around) : Prop where
  hd : A.handled = none
  dp : A.depth + 3 * k + 105 < recursionLimit
  un : A.units + 16 * k + 200 < cLine
theorem Room.mono {j k : Nat} {A : Around} (r : Room k A) (h : j ≤ k) : Room j A := ⟨r.hd, by have := r.dp; omega, by have := r.un; omega⟩
theorem Room.deeper {k : Nat} {A : Around} (r : Room (k + 1) A) (env : Env) : Room k (A.deeper env) :=
  ⟨r.hd, by have := r.dp; show A.depth + 1 + 3 * k + 105 < _; omega, by have := r.un; show A.units + 3 + 16 * k + 200 < _; omega⟩
theorem Room.in1 {k : Nat} {A : Around} (r : Room (k + 1) A) : Room k A.in1 :=
  ⟨r.hd, by have := r.dp; show A.depth + 3 * k + 105 < _; omega, by have := r.un; show A.units + 1 + 16 * k + 200 < _; omega⟩
theorem Room.depth {k : Nat} {A : Around} (r : Room k A) : A.depth < recursionLimit := by have := r.dp; omega
theorem Room.units {k : Nat} {A : Around} (r : Room k A) : A.units + 64 < cLine := by have := r.un; omega
theorem Room.units0 {k : Nat} {A : Around} (r : Room k A) : A.units < cLine := by have := r.un; omega
def tNil : TA := fun _ H Q => Q [] H
def tCons (ta : TE) (tr : TA) : TA := fun σ H Q => ta σ H fun x H1 => tr σ H1 fun xs H2 => Q (x :: xs) H2
section
variable {X : Cx} {e : Expr} {es : List Expr} {te : TE} {t : TA} {pos : Pos}
theorem pa_nil : PA X [] tNil := fun _ _ _ _ H Q I h => Calls.spliced_nil ⟨[], H, I, .nil, h⟩
theorem pa_cons (ha : PE X e te) (hr : PA X es t) (hs : starEach (e :: es) X.env = (false, eval e X.env) :: starEach es X.env := by rfl) : PA X (e :: es) (tCons te t) := by
  intro pos pins s σ H Q I h
  rw [hs]
  show wpAny _ _ (spliced ((false, eval e X.env) :: backTo pos (starEach es X.env))) _ _ s
  refine Calls.spliced_cons (thn (ha pins s σ H _ I h) fun u s1 ⟨x, H1, I1, r1, q1⟩ => ?_)
  exact thn (hr pos pins s1 σ H1 _ I1 q1) fun us s2 ⟨xs, H2, I2, r2, q2⟩ => ⟨x :: xs, H2, I2, .cons r1 r2, q2⟩
def tTup (t : TA) : TE := fun σ H Q => t σ H fun xs H1 => xs.length ≤ sizeLine ∧ ∀ p, H1 p = none → Q (.ref p) (upd H1 p (.tup xs))
def tLst (t : TA) : TE := fun σ H Q => t σ H fun xs H1 => xs.length ≤ sizeLine ∧ ∀ p, H1 p = none → Q (.ref p) (upd H1 p (.lst xs))
theorem pe_tup {x1} (h : PA X es t) : PE X (.Tuple es x1 pos) (tTup t) := by
  intro pins s σ H Q I hq
  refine wpAny_Tuple_spliced (thn (h pos pins s σ H _ I hq) fun us s1 ⟨xs, H1, I1, r, z, q⟩ => ⟨by rw [← r.length]; exact z, ?_⟩)
  have hf : H1 s1.heap.objs.size = none := I1.hok.fresh (Nat.le_refl _)
  refine ⟨.ref s1.heap.objs.size, upd H1 s1.heap.objs.size (.tup xs), I1.laid (t' := s1.toks) (fun b u e => Heap.get?_push_of_some _ e) (Nat.le_refl _) ?_, rfl, q _ hf⟩
  exact ⟨z, us, r, ⟨_, Heap.get?_push_size _ rfl, rfl, _, rfl⟩⟩
theorem pe_lst (h : PA X es t) : PE X (.List es pos) (tLst t) := by
  intro pins s σ H Q I hq
  refine wpAny_List_spliced (thn (h pos pins s σ H _ I hq) fun us s1 ⟨xs, H1, I1, r, z, q⟩ => ⟨by rw [← r.length]; exact z, ?_⟩)
  have hf : H1 s1.heap.objs.size = none := I1.hok.fresh (Nat.le_refl _)
  refine ⟨.ref s1.heap.objs.size, upd H1 s1.heap.objs.size (.lst xs), I1.laid (t' := s1.toks) (fun b u e => Heap.get?_push_of_some _ e) (Nat.le_refl _) ?_, rfl, q _ hf⟩
  exact ⟨z, us, 0, r, Heap.get?_push_size _ rfl⟩
end
abbrev Sp := List V → Hp → VK → XK → Prop
abbrev CXT := List Env → Hp → Shared → XK → Value → Shared → Prop
structure Env0 (P : Program) (w : World) (K : PySem.W.Frag) (mg : Str → Option Value) (base : Heap) (A : Around) (outer : List Env) (s : Shared) (H : Hp) : Prop where
  frames : A.frames = some outer
  mod : Mod K mg base
  bs : ∀ b o, base.get? b = some o → s.heap.get? b = some o ∧ H b = none
  bsz : base.objs.size ≤ s.heap.objs.size
  funs : s.heap.FunFrames base outer
  frf : ∀ b ∈ frs outer, H b = none
  hok : HOk P w H s.heap
  bare : AllBare s.gens
  seer : base.NoSeer
  tree : (model P w).prog.given.tree = none
def CE (outer : List Env) (P : Program) (w : World) (H : Hp) (s : Shared) (Q : VK) (u : Value) (s' : Shared) : Prop :=
  ∃ v H', s'.os = s.os ∧ AllBare s'.gens ∧ Un (frs outer) [] H H' s.heap s'.heap ∧ HOk P w H' s'.heap ∧ RelV v u ∧ Q v H'
def CR (CX : CXT) (outer : List Env) (P : Program) (w : World) (H : Hp) (s : Shared) (Q : VK) (E : XK) (r : Result) (s' : Shared) : Prop :=
  match r with
  | .ok (.ret u) => CE outer P w H s Q u s'
  | .ok _ => False
  | .error e => CX outer H s E e s'
structure FnOk (P : Program) (w : World) (K : PySem.W.Frag) (mg : Str → Option Value) (base : Heap) (CX : CXT) (k : Nat) (f : Addr) (fd : FuncData) (ps : List Str) (sp : Sp) : Prop where
  len : ∀ vs H Q E, sp vs H Q E → vs.length = ps.length
  run : ∀ (A : Around) (outer : List Env) (s : Shared) (H : Hp) (args : Args) (us : List Value) (vs : List V) (Q : VK) (E : XK), Room k A → Env0 P w K mg base A outer s H → BindsTo s fd args (ps.zip us) → Vals vs us → sp vs H Q E →
    codeAny (model P w) A (.call (.ref f) args) (CR CX outer P w H s Q E) s
theorem FnOk.mono {P : Program} {w : World} {K : PySem.W.Frag} {mg : Str → Option Value} {base : Heap} {CX : CXT} {j k : Nat} {f : Addr} {fd : FuncData} {ps : List Str} {sp : Sp} (F : FnOk P w K mg base CX j f fd ps sp) (h : j ≤ k) :
    FnOk P w K mg base CX k f fd ps sp := ⟨F.len, fun A outer s H args us vs Q E hr => F.run A outer s H args us vs Q E (hr.mono h)⟩
theorem FnOk.imp {P : Program} {w : World} {K : PySem.W.Frag} {mg : Str → Option Value} {base : Heap} {CX : CXT} {k : Nat} {f : Addr} {fd : FuncData} {ps : List Str} {sp sp' : Sp} (F : FnOk P w K mg base CX k f fd ps sp)
    (h : ∀ vs H Q E, sp' vs H Q E → sp vs H Q E) : FnOk P w K mg base CX k f fd ps sp' :=
  ⟨fun vs H Q E q => F.len vs H Q E (h _ _ _ _ q), fun A outer s H args us vs Q E hr he hb hv hs => F.run A outer s H args us vs Q E hr he hb hv (h _ _ _ _ hs)⟩
theorem Env0.in1 {P : Program} {w : World} {K : PySem.W.Frag} {mg : Str → Option Value} {base : Heap} {A : Around} {outer : List Env} {s : Shared} {H : Hp} (e : Env0 P w K mg base A outer s H) :
    Env0 P w K mg base A.in1 outer s H := ⟨e.frames, e.mod, e.bs, e.bsz, e.funs, e.frf, e.hok, e.bare, e.seer, e.tree⟩
section
variable {X : Cx} {pins : List (Addr × Obj)} {σ : St} {H : Hp} {s s' : Shared}
theorem Inv.env0 (I : Inv X pins σ H s) : Env0 X.prog X.w X.K X.mg X.base X.A X.stack s H :=
  ⟨I.ok.frames, I.ok.mod, I.bs, Nat.le_trans I.ok.bsz I.sz, I.stack, I.stkFree, I.hok, I.bare, I.ok.seer, I.ok.tree⟩
theorem Inv.after {Q : VK} {u : Value} (I : Inv X pins σ H s) (h : CE X.stack X.prog X.w H s Q u s') : EP X pins σ Q u s' := by
  obtain ⟨v, H', os, bare, un, hok, r, q⟩ := h
  obtain ⟨hh, g, d, t, os'⟩ := s'
  obtain rfl : os' = s.os := os
  exact ⟨v, H', I.call (h' := hh) (g' := g) (d' := d) (t' := t) (ch := []) un hok bare (fun b z => absurd z (by simp)), r, q⟩
end
def tCall (sp : Sp) (dvs : List V) (E : XK) (t : TA) : TE := fun σ H Q => t σ H fun vs H1 => sp (vs ++ dvs) H1 Q E
def Binds (K : PySem.W.Frag) (fd : FuncData) (ps : List Str) (ds : List Value) : Prop :=
  ∀ (s : Shared) (us : List Value), K.In s.heap → (us ++ ds).length = ps.length → BindsTo s fd ⟨us, []⟩ (ps.zip (us ++ ds))
theorem Binds.all {K : PySem.W.Frag} {fd : FuncData} {ps : List Str} (h : ∀ us : List Value, us.length = ps.length → bindArgs fd ⟨us, []⟩ = pure (ps.zip us)) : Binds K fd ps [] := fun s us _ hl => by
  rw [List.append_nil] at hl ⊢
  exact .of_eq (h us hl)
def Passes (CX : CXT) (X : Cx) (E : XK) : Prop := ∀ (pins : List (Addr × Obj)) (σ : St) (H : Hp) (s : Shared) (e : Value) (s' : Shared), Inv X pins σ H s → CX X.stack H s E e s' → X.xe e s'
section
variable {X : Cx} {CX : CXT} {k : Nat} {f C : Addr} {fd : FuncData} {ps : List Str} {sp : Sp} {dvs : List V} {ds : List Value} {E : XK} {x m : Str} {p pos apos : Pos} {e o : Expr} {es : List Expr} {ta : TE} {t : TA}
theorem run_fn {pins : List (Addr × Obj)} {σ : St} {H : Hp} {s : Shared} {Q : VK} {us : List Value} {vs : List V} (F : FnOk X.prog X.w X.K X.mg X.base CX k f fd ps sp) (hr : Room k X.A) (hb : Binds X.K fd ps ds) (hd : Vals dvs ds) (hx : Passes CX X E)
    (I : Inv X pins σ H s) (r : Vals vs us) (h : sp (vs ++ dvs) H Q E) : wpAny (model X.prog X.w) X.A (call (.ref f) us) (EP X pins σ Q) X.xe s := by
  have r2 : Vals (vs ++ dvs) (us ++ ds) := r.append hd
  have hl : (us ++ ds).length = ps.length := by rw [← r2.length]; exact F.len _ _ _ _ h
  refine wpAny_call (codeAny_mono (F.run X.A X.stack s H ⟨us, []⟩ (us ++ ds) (vs ++ dvs) Q E hr I.env0 (hb s us I.kIn hl) r2 h) fun r s' hq => ?_)
  cases r with
  | error e => exact hx pins σ H s e s' I hq
  | ok fl =>
    cases fl with
    | ret u => exact I.after hq
    | next => exact False.elim hq
    | brk => exact False.elim hq
    | cont => exact False.elim hq
theorem pe_call (F : FnOk X.prog X.w X.K X.mg X.base CX k f fd ps sp) (hr : Room k X.A) (hg : Gl X x) (hm : X.mg x = some (.ref f)) (hk : PySem.W.keepIn X.K (.ref f) = true) (hb : Binds X.K fd ps ds) (hd : Vals dvs ds) (hx : Passes CX X E)
    (ha : PA X (e :: es) t) (hdb : (x == ("__debug__" : Str)) = false := by decide) (he : starEach (e :: es) X.env = (false, eval e X.env) :: starEach es X.env := by rfl) (hpl : (backTo pos (starEach es X.env)).any (·.1) = false := by rfl) :
    PE X (.Call (.Name x p) (e :: es) [] pos) (tCall sp dvs E t) := by
  intro pins s σ H Q I h
  refine wpAny_Call_Name_kw (ld_glob I hg hm ?_ hdb)
  refine PySem.W.callWith_K (h₀ := X.base) I.ok.mod.kin hk (thn (ha pos pins s σ H _ I h) fun us s1 ⟨vs, H1, I1, r, q⟩ => ⟨I1.kIn, ?_⟩) he hpl
  exact run_fn F hr hb hd hx I1 r q
structure Mk (K : PySem.W.Frag) (C f : Addr) : Prop where
  makes : PySem.W.makesIn K C = true
  init : PySem.W.findIn K (.ref C) "__init__" = some (some (.ref f))
  fn : PySem.W.isFn K (.ref f) = true
  kp : PySem.W.keepIn K (.ref C) = true
end
section
variable {X : Cx} {CX : CXT} {k : Nat} {f C : Addr} {fd : FuncData} {ps ks : List Str} {sp : Sp} {E : XK} {x m : Str} {p pos apos kpos : Pos} {e o : Expr} {es : List Expr} {kws : List Keyword} {te ta : TE} {t tk : TA} {nm : Option Str}
structure KBinds (K : PySem.W.Frag) (fd : FuncData) (ps ks : List Str) (g : List Value → List Value → List Value) (gV : List V → List V → List V) : Prop where
  to : ∀ (s : Shared) (us ws : List Value), K.In s.heap → (g us ws).length = ps.length → BindsTo s fd ⟨us, ks.zip ws⟩ (ps.zip (g us ws))
  rel : ∀ {vs : List V} {us : List Value} {zs : List V} {ws : List Value}, Vals vs us → Vals zs ws → Vals (gV vs zs) (g us ws)
variable {g : List Value → List Value → List Value} {gV : List V → List V → List V}
end
structure FnScope (N P : List Str) (sc : Scope) : Prop where
  kind : sc.kind = .function
  co : sc.isCoroutine = false
  gen : sc.isGenerator = false
  nd : N.Nodup
  pre : N.take P.length = P
  par : ∀ x ∈ P, sc.names.lookup x = some .local ∨ sc.names.lookup x = some .cell
  nofree : ∀ y ∈ sc.names, y.2 ≠ .free
theorem bindL_out {kindOf : Str → Option NameKind} {x : Str} : ∀ {binds : List (Str × Value)} {m : Str → Option Value}, (∀ v, (x, v) ∉ binds) → bindL kindOf binds m x = m x
  | [], _, _ => rfl
  | (n, v) :: r, m, h => by
    unfold bindL
    rw [bindL_out fun w hw => h w (List.mem_cons_of_mem _ hw)]
    split
    · have : x ≠ n := by rintro rfl; exact h v List.mem_cons_self
      simp [this]
    · rfl
theorem bindC_out {kindOf : Str → Option NameKind} {x : Str} : ∀ {binds : List (Str × Value)} {m : Str → Option Value}, (∀ v, (x, v) ∉ binds) → bindC kindOf binds m x = m x
  | [], _, _ => rfl
  | (n, v) :: r, m, h => by
    unfold bindC
    rw [bindC_out fun w hw => h w (List.mem_cons_of_mem _ hw)]
    split
    · rfl
    · have : x ≠ n := by rintro rfl; exact h v List.mem_cons_self
      simp [this]
theorem bindL_get {kindOf : Str → Option NameKind} {x : Str} {v : Value} : ∀ {P : List Str} {vs : List Value} {i : Nat} {m : Str → Option Value}, P.Nodup → P[i]? = some x → vs[i]? = some v → kindOf x = some .local →
    bindL kindOf (P.zip vs) m x = some v
  | [], _, _, _, _, h, _, _ => by simp at h
  | _ :: _, [], _, _, _, _, h, _ => by simp at h
  | p :: P, w :: vs, 0, m, nd, h1, h2, hk => by
    simp at h1 h2; subst h1; subst h2
    show bindL kindOf ((p, w) :: P.zip vs) m p = _
    unfold bindL
    rw [bindL_out fun v hv => (List.nodup_cons.mp nd).1 (List.of_mem_zip hv).1, if_pos hk]
    simp
  | p :: P, w :: vs, i + 1, m, nd, h1, h2, hk => by
    show bindL kindOf ((p, w) :: P.zip vs) m x = _
    unfold bindL
    exact bindL_get (i := i) (List.nodup_cons.mp nd).2 (by simpa using h1) (by simpa using h2) hk
theorem bindC_get {kindOf : Str → Option NameKind} {x : Str} {v : Value} : ∀ {P : List Str} {vs : List Value} {i : Nat} {m : Str → Option Value}, P.Nodup → P[i]? = some x → vs[i]? = some v → kindOf x ≠ some .local →
    bindC kindOf (P.zip vs) m x = some v
  | [], _, _, _, _, h, _, _ => by simp at h
  | _ :: _, [], _, _, _, _, h, _ => by simp at h
  | p :: P, w :: vs, 0, m, nd, h1, h2, hk => by
    simp at h1 h2; subst h1; subst h2
    show bindC kindOf ((p, w) :: P.zip vs) m p = _
    unfold bindC
    rw [bindC_out fun v hv => (List.nodup_cons.mp nd).1 (List.of_mem_zip hv).1, if_neg hk]
    simp
  | p :: P, w :: vs, i + 1, m, nd, h1, h2, hk => by
    show bindC kindOf ((p, w) :: P.zip vs) m x = _
    unfold bindC
    exact bindC_get (i := i) (List.nodup_cons.mp nd).2 (by simpa using h1) (by simpa using h2) hk
def start (N : List Str) (vs : List V) : St := vs.map some ++ List.replicate (N.length - vs.length) none
def cxOf (CX : CXT) (P : Program) (w : World) (K : PySem.W.Frag) (mg : Str → Option Value) (base : Heap) (N : List Str) (qual : Str) (scope : Scope) (f : Addr) (cd : Value) (A : Around) (outer : List Env) (s : Shared) (H : Hp) (E : XK) : Cx where
  prog := P
  w := w
  K := K
  mg := mg
  base := base
  A := A.deeper (envOfC qual scope s.heap.objs.size f cd)
  N := N
  s₀ := s
  H₀ := H
  env := envOfC qual scope s.heap.objs.size f cd
  outer := outer
  stack := envOfC qual scope s.heap.objs.size f cd :: outer
  ex := []
  calm := true
  fn := fun _ => true
  pn := []
  xe := fun e s' => wpAny (model P w) (A.deeper (envOfC qual scope s.heap.objs.size f cd)) (leaving (envOfC qual scope s.heap.objs.size f cd) e) (fun _ s'' => CX outer H s E e s'') (fun e' s'' => CX outer H s E e' s'') s'
theorem cell_has {sc : Scope} {n : Nat} {x : Str} (h : sc.names.lookup x = some .cell) : ∃ c, (cellsFrom n sc.names []).lookup x = some c := by
  have q := PySem.W.cellsFrom_some sc.names n [] (.inl h)
  exact Option.isSome_iff_exists.mp q
theorem inv_start {CX : CXT} {P : Program} {w : World} {K : PySem.W.Frag} {mg : Str → Option Value} {base : Heap} {N ps : List Str} {qual : Str} {scope : Scope} {f : Addr} {cd : Value} {A : Around} {outer : List Env} {s s1 : Shared} {H : Hp} {E : XK} {us : List Value} {vs : List V}
    (S : FnScope N ps scope) (hd : A.handled = none) (hdp : (A.deeper (envOfC qual scope s.heap.objs.size f cd)).depth + Builtin.pylongFrames < recursionLimit) (e0 : Env0 P w K mg base A outer s H) (hl : vs.length = ps.length) (r : Vals vs us)
    (x : InCallC s s.heap.objs.size (bindL (envOfC qual scope s.heap.objs.size f cd).kindOf (ps.zip us) fun _ => none) (cellsFrom (s.heap.objs.size + 1) scope.names []) (bindC (envOfC qual scope s.heap.objs.size f cd).kindOf (ps.zip us) fun _ => none) s1) :
    Inv (cxOf CX P w K mg base N qual scope f cd A outer s H E) [] (start N vs) H s1 := by
  have hpl : ps.length ≤ N.length := by have := congrArg List.length S.pre; rw [List.length_take] at this; omega
  obtain ⟨h1, tk, rfl, hk⟩ := x.done
  have noA : ∀ b : Addr, b ∉ (cxOf CX P w K mg base N qual scope f cd A outer s H E).ex := fun b z => absurd (show b ∈ ([] : List Addr) from z) (by simp)
  refine ⟨⟨e0.mod, S.kind, rfl, rfl, Nat.le_refl _, fun y z c h1 h2 => ?_, fun y hy => ?_, fun y c _ h => ?_, fun _ => hd, Around.frames_deeper e0.frames, .inr ⟨rfl, rfl⟩, fun b z => absurd z (noA b), e0.bs, e0.bsz, fun b _ _ => noA b, fun b z => absurd z (noA b), e0.funs, e0.frf, e0.seer, e0.tree, fun s' hk' => PySem.PylongRoom.of (e0.mod.nolimit.keeps hk') hdp (PySem.SeerAt.of (e0.seer.keeps hk') e0.tree (Around.frames_deeper e0.frames) S.gen S.co rfl rfl)⟩,
    rfl, e0.bare, Un.kept hk, ⟨_, x.toInCall.ns, fun i y v h1 h2 h3 => ?_⟩, fun y c h => ⟨_, x.cell y c h⟩, e0.hok.fresh (Nat.le_refl _), fun y c h => ?_, fun p hp => absurd (show p ∈ ([] : List (Addr × Obj)) from hp) (by simp), e0.hok.kept hk, ?_⟩
  · exact name_of_addr x.apart (PySem.mem_of_lookup h1) (PySem.mem_of_lookup h2)
  · have hy : scope.names.lookup y = some .cell ∨ scope.names.lookup y = some .free := hy
    rcases hy with hy | hy
    · exact cell_has hy
    · exact absurd rfl (S.nofree _ (PySem.mem_of_lookup hy))
  · exact Nat.le_of_lt (x.above y c (PySem.mem_of_lookup h))
  · have hi : i < vs.length := by
      unfold start at h2
      by_cases hi : i < vs.length
      · exact hi
      · rw [List.getElem?_append_right (by simpa using hi)] at h2
        rw [List.getElem?_replicate] at h2
        split at h2 <;> cases h2
    have ha : vs[i]? = some v := by
      unfold start at h2
      rw [List.getElem?_append_left (by simpa using hi), List.getElem?_map] at h2
      cases e : vs[i]? with
      | none => rw [e] at h2; cases h2
      | some a => rw [e] at h2; cases h2; rfl
    obtain ⟨u, hu, rv⟩ := r.get ha
    have hp : ps[i]? = some y := by
      rw [← S.pre, List.getElem?_take_of_lt (by omega)]; exact h1
    have ndP : ps.Nodup := by rw [← S.pre]; exact S.nd.sublist (List.take_sublist _ _)
    refine ⟨u, rv, ?_⟩
    rcases S.par y (List.mem_of_getElem? hp) with k | k
    · exact .inl ⟨k, bindL_get ndP hp hu k⟩
    · obtain ⟨c, e⟩ := cell_has (n := s.heap.objs.size + 1) k
      refine .inr ⟨.inl k, c, e, ?_⟩
      have q := x.cell y c e
      rw [bindC_get ndP hp hu (by show scope.names.lookup y ≠ _; rw [k]; decide)] at q
      exact q
  · exact e0.hok.fresh (Nat.le_of_lt (x.above y c (PySem.mem_of_lookup h)))
  · unfold start
    show _ = N.length
    rw [List.length_append, List.length_map, List.length_replicate]
    omega
theorem fn_of {CX : CXT} {P : Program} {w : World} {K : PySem.W.Frag} {mg : Str → Option Value} {base : Heap} {k : Nat} {f : Addr} {name qual : Str} {params : Arguments} {body : List Stmt} {scope : Scope} {dV kV doc pm cdv ct oc : Value} {an od : Option Addr}
    {osl : Array (Option Value)} {N ps : List Str} {sp : Sp} (lk : K.lookup f = some ⟨oc, od, .func (PySem.W.fnOf name qual params body scope dV kV doc pm an cdv ct), osl⟩) (hcd : PySem.W.codeIn K cdv qual = true) (S : FnScope N ps scope)
    (len : ∀ vs H Q E, sp vs H Q E → vs.length = ps.length)
    (hbody : ∀ (A : Around) (outer : List Env) (s : Shared) (H : Hp) (vs : List V) (Q : VK) (E : XK), Room k (A.deeper (envOfC qual scope s.heap.objs.size f cdv)) → sp vs H Q E →
      ∃ t, PSs (cxOf CX P w K mg base N qual scope f cdv A outer s H E) body t ∧ t { nx := fun _ H' => Q .non H', rt := Q } (start N vs) H) :
    FnOk P w K mg base CX (k + 1) f (PySem.W.fnOf name qual params body scope dV kV doc pm an cdv ct) ps sp := by
  refine ⟨len, fun A outer s H args us vs Q E hr e0 hb r hsp => ?_⟩
  have hl := len _ _ _ _ hsp
  have KX : K.In s.heap := e0.mod.kin.keeps fun b o e => (e0.bs b o e).1
  have lim : s.heap.NoLimit := e0.mod.nolimit.keeps fun b o e => (e0.bs b o e).1
  have hkind : ∀ y ∈ ps.zip us, scope.names.lookup y.1 = some .local ∨ (scope.names.lookup y.1 = some .cell ∧ ((cellsFrom (s.heap.objs.size + 1) scope.names []).lookup y.1).isSome = true) := fun ⟨n, v⟩ hy => by
    rcases S.par n (List.of_mem_zip hy).1 with q | q
    · exact .inl q
    · exact .inr ⟨q, PySem.W.cellsFrom_some _ _ _ (.inl q)⟩
  refine codeAny_call_function hr.depth (KX _ _ lk) rfl S.co S.gen rfl (PySem.W.codeRec_of KX hcd) (hb _ _ _ _ ?_)
  refine wpAny_newFunctionEnv_cells S.kind hkind fun env he s1 x => ?_
  subst he
  refine ⟨lim.keeps x.toInCall.keep, codeAny_func ?_⟩
  obtain ⟨t, ht, hq⟩ := hbody A outer s H vs Q E (hr.deeper _) hsp
  have I : Inv (cxOf CX P w K mg base N qual scope f cdv A outer s H E) [] (start N vs) H s1 := inv_start S hr.hd (by have := (hr.deeper (envOfC qual scope s.heap.objs.size f cdv)).dp; show _ + 100 < _; omega) e0 hl r x
  refine wpAny_mono (ht [] s1 (start N vs) H _ I hq) (fun fl s' hs => ?_) fun e s' hs => hs
  have fin : ∀ {σ' : St} {H' : Hp} {v : V} {u : Value}, Inv (cxOf CX P w K mg base N qual scope f cdv A outer s H E) [] σ' H' s' → RelV v u → Q v H' → CE outer P w H s Q u s' :=
    fun {σ' H' v u} J rv q => ⟨v, H', J.os, J.bare, J.base, J.hok, rv, q⟩
  cases fl with
  | ret u =>
    obtain ⟨v, σ', H', J, rv, q⟩ := hs
    exact fin J rv q
  | next =>
    obtain ⟨σ', H', J, q⟩ := hs
    exact fin (v := V.non) (u := Value.none) J rfl q
  | brk =>
    obtain ⟨_, _, _, q⟩ := hs
    exact False.elim q
  | cont =>
    obtain ⟨_, _, _, q⟩ := hs
    exact False.elim q
end L2
namespace L2
open PySem PySem.Spec PyProof.Rows
section
variable {X : Cx} {x : Str} {p pos : Pos} {e : Expr} {es : List Expr} {t : TA} {id T : String} {r : List V → Hp → VK → Prop}
def tCB (r : List V → Hp → VK → Prop) (t : TA) : TE := fun σ H Q => t σ H fun vs H1 => r vs H1 Q
theorem pe_callB (hc : CallR X (.builtin id) r) (hg : Gl X x) (hm : X.mg x = none) (hv : bootBuiltins x = some (.builtin id)) (ha : PA X (e :: es) t) (hn : x ≠ "__name__" := by decide) (hdb : (x == ("__debug__" : Str)) = false := by decide)
    (he : starEach (e :: es) X.env = (false, eval e X.env) :: starEach es X.env := by rfl) (hpl : (backTo pos (starEach es X.env)).any (·.1) = false := by rfl) : PE X (.Call (.Name x p) (e :: es) [] pos) (tCB r t) := by
  intro pins s σ H Q I h
  refine wpAny_Call_Name_kw (ld_blt I hg hm hv ?_ hn hdb)
  exact PyProof.Rows.callWith_builtin1 (thn (ha pos pins s σ H _ I h) fun us s1 ⟨vs, H1, I1, r1, q1⟩ => hc pins s1 σ H1 vs us Q I1 r1 q1) he hpl
theorem pe_callTy (hc : CallR X (.type T) r) (hg : Gl X x) (hm : X.mg x = none) (hv : bootBuiltins x = some (.type T)) (ha : PA X (e :: es) t) (hn : x ≠ "__name__" := by decide) (hdb : (x == ("__debug__" : Str)) = false := by decide)
    (he : starEach (e :: es) X.env = (false, eval e X.env) :: starEach es X.env := by rfl) (hpl : (backTo pos (starEach es X.env)).any (·.1) = false := by rfl) : PE X (.Call (.Name x p) (e :: es) [] pos) (tCB r t) := by
  intro pins s σ H Q I h
  refine wpAny_Call_Name_kw (ld_blt I hg hm hv ?_ hn hdb)
  exact PyProof.Rows.callWith_type1 (thn (ha pos pins s σ H _ I h) fun us s1 ⟨vs, H1, I1, r1, q1⟩ => hc pins s1 σ H1 vs us Q I1 r1 q1) he hpl
end
end L2
namespace HT
open PySem PyProof.Rows
section
open PySem.SeqAt
open PySem.AutoSeq1 (wpAny_loadPart')
open PySem.MeetsSeq PySem.MeetsSeq2 PySem.MeetsSeq3
end
section
variable {prog : Program} {w : World} {A : Around} {E : Value → Shared → Prop} {s : Shared}
theorem cat_tup {t b : Addr} {vs ws : List Value} {Q : Value → Shared → Prop} (ht : IsTup s.heap t vs.toArray) (hb : IsTup s.heap b ws.toArray) (hv : vs ≠ [])
    (h1 : ws = [] → Q (.ref t) s) (h2 : ws ≠ [] → Q (.ref s.heap.objs.size) { s with heap := s.heap.push { cls := .type "tuple", data := .seq (vs ++ ws).toArray } })
    (hsz : vs.length + ws.length ≤ sizeLine) : wpAny (model prog w) A (binaryOp .Add (.ref t) (.ref b)) Q E s := by
  obtain ⟨⟨cls, dd, data, sl⟩, ho, hc, n, hd⟩ := id ht
  obtain ⟨⟨cls2, dd2, data2, sl2⟩, ho2, hc2, n2, hd2⟩ := id hb
  simp only at hc hd hc2 hd2
  subst hc hd hc2 hd2
  have e : vs.toArray ++ ws.toArray = (vs ++ ws).toArray := by simp
  by_cases hw : ws = []
  · exact concat_meets ⟨_, ho, rfl⟩ ⟨_, ho2, rfl⟩ noFill_tuple_add seq_tuple_add PySem.F.slot_tuple_add PySem.F.entry_tuple_add (PySem.F.args_tuple_add_2 _ _)
      (tuple_addW1 t b vs.toArray ws.toArray n n2 dd dd2 sl sl2 (by simpa using hv) (by simp [hw])) ⟨ho, ho2, h1 hw⟩
  · refine concat_meets ⟨_, ho, rfl⟩ ⟨_, ho2, rfl⟩ noFill_tuple_add seq_tuple_add PySem.F.slot_tuple_add PySem.F.entry_tuple_add (PySem.F.args_tuple_add_2 _ _)
      (tuple_addW2 t b vs.toArray ws.toArray n n2 dd dd2 sl sl2 (by simpa using hv) (by simpa using hw) (by rw [List.size_toArray, List.size_toArray]; exact hsz)) ⟨ho, ho2, ?_⟩
    rw [e]
    exact h2 hw
def sIx (n d : Nat) : Option Int → Nat
  | none => d
  | some v => if v < 0 then (v + (n : Int)).toNat else min v.toNat n
end
end HT
namespace L2
open PySem PySem.Spec PyProof.Rows
abbrev TO := St → Hp → (Option Int → Hp → Prop) → Prop
def PO (X : Cx) (e : Option Expr) (t : TO) : Prop :=
  ∀ (pins : List (Addr × Obj)) (s : Shared) (σ : St) (H : Hp) (Q : Option Int → Hp → Prop), Inv X pins σ H s → t σ H Q →
    wpAny (model X.prog X.w) X.A (evalPart e X.env) (fun u s' => ∃ o H', Inv X pins σ H' s' ∧ IsPart u o ∧ Q o H') X.xe s
def tNoPart : TO := fun _ H Q => Q none H
def tPart (t : TE) : TO := fun σ H Q => t σ H fun x H1 => ∃ i, x = .int i ∧ Q (some i) H1
section
variable {X : Cx} {e : Expr} {te : TE} {lo hi : Option Expr} {tl th : TO} {pos p2 : Pos}
theorem po_none : PO X none tNoPart := by
  intro pins s σ H Q I h
  rw [evalPart_none]
  exact wpAny_pure ⟨none, H, I, .none, h⟩
theorem po_some (h : PE X e te) : PO X (some e) (tPart te) := by
  intro pins s σ H Q I hw
  rw [evalPart_some]
  refine thn (h pins s σ H _ I hw) fun u s1 ⟨x, H1, I1, r1, q1⟩ => ?_
  obtain ⟨i, rfl, q⟩ := q1
  obtain ⟨t, rfl⟩ := r1
  exact ⟨some i, H1, I1, .int i t, q⟩
def SlR (X : Cx) (r : V → Option Int → Option Int → Hp → VK → Prop) : Prop :=
  ∀ (pins : List (Addr × Obj)) (s : Shared) (σ : St) (H : Hp) (x : V) (v vl vu : Value) (lo hi : Option Int) (sl : Addr) (Q : VK), Inv X pins σ H s → RelV x v → s.heap.IsSliceOf sl vl vu .none → IsPart vl lo → IsPart vu hi → r x lo hi H Q →
    ∃ T id, typeLookup (.type T) "__getitem__" = pure (some (.builtin id)) ∧ s.TypeIs v T ∧ wpAny (model X.prog X.w) X.A (getItem v (.ref sl)) (EP X pins σ Q) X.xe s
def tSl (r : V → Option Int → Option Int → Hp → VK → Prop) (te : TE) (tl th : TO) : TE := fun σ H Q => te σ H fun x H1 => tl σ H1 fun l H2 => th σ H2 fun u H3 => r x l u H3 Q
theorem pe_slice {r : V → Option Int → Option Int → Hp → VK → Prop} (hr : SlR X r) (he : PE X e te) (hl : PO X lo tl) (hu : PO X hi th) : PE X (.Subscript e (.Slice lo hi none p2) pos) (tSl r te tl th) := by
  intro pins s σ H Q I h
  refine Subscript_ (thn (he pins s σ H _ I h) fun v s1 ⟨x, H1, I1, r1, q1⟩ => ?_)
  refine wpAny_Slice (thn (hl pins s1 σ H1 _ I1 q1) fun vl s2 ⟨l, H2, I2, pl, q2⟩ => thn (hu pins s2 σ H2 _ I2 q2) fun vu s3 ⟨u, H3, I3, pu, q3⟩ => ?_)
  rw [evalPart_none]
  refine wpAny_pure ?_
  have I4 : Inv X pins σ H3 { s3 with heap := s3.heap.push { cls := .type "slice", data := .fields #[vl, vu, .none] } } := I3.kept (t' := s3.toks) fun b ob q => Heap.get?_push_of_some _ q
  obtain ⟨T, id, hT, ht, hg⟩ := hr pins { s3 with heap := s3.heap.push { cls := .type "slice", data := .fields #[vl, vu, .none] } } σ H3 x v vl vu l u s3.heap.objs.size Q I4 r1 (Heap.IsSliceOf.new ..) pl pu q3
  show wpAny (model X.prog X.w) X.A (subscriptTail e (.Slice lo hi none p2) v (.ref s3.heap.objs.size)) (EP X pins σ Q) X.xe { s3 with heap := s3.heap.push { cls := .type "slice", data := .fields #[vl, vu, .none] } }
  exact tail_any (ops := [.ref s3.heap.objs.size, v]) ht hT hg (by with_unfolding_all rfl)
def cutV (xs : List V) (lo hi : Option Int) : List V := (xs.drop (HT.sIx xs.length 0 lo)).take (HT.sIx xs.length xs.length hi - HT.sIx xs.length 0 lo)
theorem cutV_length (xs : List V) (lo hi : Option Int) : (cutV xs lo hi).length ≤ xs.length := by
  unfold cutV
  rw [List.length_take, List.length_drop]
  omega
def rCatT (K : PySem.W.Frag) : R2 := fun x y H Q => ∃ a b xs ys, x = .ref a ∧ y = .ref b ∧ SqT K H a xs ∧ SqT K H b ys ∧ xs ≠ [] ∧ xs.length + ys.length ≤ sizeLine ∧
  (ys = [] → Q (.ref a) H) ∧ (ys ≠ [] → ∀ p, H p = none → Q (.ref p) (upd H p (.tup (xs ++ ys))))
theorem Vals.nil_iff {xs : List V} {us : List Value} (r : Vals xs us) : us = [] ↔ xs = [] := by
  cases r with
  | nil => simp
  | cons _ _ => simp
theorem op_catT : OpR X (binaryOp .Add) (rCatT X.K) := by
  intro pins s σ H x y v u Q I rx ry h
  obtain ⟨a, b, xs, ys, rfl, rfl, ha, hb, hx, hz, q1, q2⟩ := h
  cases rx
  cases ry
  obtain ⟨its, r1, p1, _⟩ := I.tuple ha
  obtain ⟨its2, r2, p2, _⟩ := I.tuple hb
  refine HT.cat_tup p1 p2 (fun z => hx (r1.nil_iff.mp z)) (fun z => ⟨.ref a, H, I, rfl, q1 (r2.nil_iff.mp z)⟩) (fun z => ?_) (by rw [← r1.length, ← r2.length]; exact hz)
  refine ⟨.ref s.heap.objs.size, _, I.laid (t' := s.toks) (o := .tup (xs ++ ys)) (fun b ob q => Heap.get?_push_of_some _ q) (Nat.le_refl _) ?_, rfl, q2 (fun w => z (r2.nil_iff.mpr w)) _ (I.hok.fresh (Nat.le_refl _))⟩
  exact ⟨by rw [List.length_append]; exact hz, _, r1.append r2, IsTup.new _ _⟩
end
end L2
namespace L2
open PySem PySem.Spec PyProof.Rows
def ixN (n : Nat) (i : Int) : Option Nat := if 0 ≤ i then (if i < n then some i.toNat else none) else if -(n : Int) ≤ i then some (i + n).toNat else none
def atI {α : Type} (xs : List α) (i : Int) : Option α := (ixN xs.length i).bind fun j => xs[j]?
theorem ixN_seq {n : Nat} {i : Int} {j : Nat} (h : ixN n i = some j) : seqIndex? i n = some j ∧ j < n ∧ -(n : Int) ≤ i ∧ i < n := by
  unfold ixN at h
  by_cases h0 : 0 ≤ i
  · rw [if_pos h0] at h
    by_cases h1 : i < n
    · rw [if_pos h1] at h
      have e : i.toNat = j := Option.some.inj h
      exact ⟨by rw [seqIndex_of h0 h1, e], by omega, by omega, h1⟩
    · rw [if_neg h1] at h; cases h
  · rw [if_neg h0] at h
    by_cases h1 : -(n : Int) ≤ i
    · rw [if_pos h1] at h
      have e : (i + n).toNat = j := Option.some.inj h
      exact ⟨by rw [seqIndex_neg (by omega) h1, e], by omega, h1, by omega⟩
    · rw [if_neg h1] at h; cases h
theorem atI_get {α : Type} {xs : List α} {i : Int} {v : α} (h : atI xs i = some v) : ∃ j, seqIndex? i xs.length = some j ∧ xs[j]? = some v ∧ j < xs.length ∧ -(xs.length : Int) ≤ i ∧ i < xs.length := by
  unfold atI at h
  cases e : ixN xs.length i with
  | none => rw [e] at h; cases h
  | some j =>
    rw [e] at h
    obtain ⟨h1, h2, h3, h4⟩ := ixN_seq e
    exact ⟨j, h1, h, h2, h3, h4⟩
theorem atI_nat {α : Type} {xs : List α} {j : Nat} {v : α} (h : xs[j]? = some v) : atI xs (j : Int) = some v := by
  have hj : j < xs.length := (List.getElem?_eq_some_iff.mp h).1
  have e : ixN xs.length (j : Int) = some j := by
    unfold ixN
    rw [if_pos (by omega), if_pos (by omega)]; simp
  unfold atI; rw [e]; exact h
theorem atI_last {α : Type} (xs : List α) (v : α) : atI (xs ++ [v]) (-1) = some v := by
  have hl : (xs ++ [v]).length = xs.length + 1 := by simp
  have e : ixN (xs ++ [v]).length (-1) = some xs.length := by
    unfold ixN
    rw [hl, if_neg (by decide), if_pos (by omega)]
    congr 1
    omega
  unfold atI
  rw [e]
  show (xs ++ [v])[xs.length]? = some v
  simp
def PlainIx (b : Expr) : Prop := ∀ o i, subscripted b false o i = operate [o, i] (getItem o i)
def IxR (X : Cx) (r : R2) : Prop :=
  ∀ (value slice : Expr) (pins : List (Addr × Obj)) (s : Shared) (σ : St) (H : Hp) (x y : V) (v u : Value) (Q : VK), Inv X pins σ H s → RelV x v → RelV y u → r x y H Q →
    subscripted slice false v u = operate [v, u] (getItem v u) → wpAny (model X.prog X.w) X.A (subscriptTail value slice v u) (EP X pins σ Q) X.xe s
def MtR (X : Cx) (id : String) (r : V → List V → Hp → VK → Prop) : Prop :=
  ∀ (pins : List (Addr × Obj)) (s : Shared) (σ : St) (H : Hp) (x : V) (xs : List V) (v : Value) (us : List Value) (Q : VK), Inv X pins σ H s → RelV x v → Vals xs us → r x xs H Q →
    wpAny (model X.prog X.w) X.A (call (.builtin id) (v :: us)) (EP X pins σ Q) X.xe s
section
variable {X : Cx} {a b : Expr} {ta tb : TE} {pos : Pos}
theorem pe_ix {r : R2} (hr : IxR X r) (ha : PE X a ta) (hb : PE X b tb) (hs : PlainIx b) : PE X (.Subscript a b pos) (tOp r ta tb) := by
  intro pins s σ H Q I h
  exact Subscript_ (binT ha hb I h fun v u s2 x y H2 I2 rx ry q => hr a b pins s2 σ H2 x y v u Q I2 rx ry q (hs _ _))
def rIxL (K : PySem.W.Frag) : R2 := fun x y H Q => ∃ p xs i v, x = .ref p ∧ y = .int i ∧ SqL K H p xs ∧ atI xs i = some v ∧ Q v H
def rIxT (K : PySem.W.Frag) : R2 := fun x y H Q => ∃ p xs i v, x = .ref p ∧ y = .int i ∧ SqT K H p xs ∧ atI xs i = some v ∧ Q v H
theorem ix_list : IxR X (rIxL X.K) := by
  intro value slice pins s σ H x y v u Q I rx ry h hs
  obtain ⟨p, xs, i, z, rfl, rfl, hq, he, q⟩ := h
  cases rx
  obtain ⟨t, rfl⟩ := ry
  obtain ⟨its, r, pl, hz⟩ := I.list hq
  obtain ⟨j, h1, h2, h3, h4, h5⟩ := atI_get he
  obtain ⟨w, ew, rw'⟩ := r.get h2
  have hl := r.length
  have hn := line63
  have fin : EP X pins σ Q w s := ⟨z, H, I, rw', q⟩
  by_cases h0 : 0 ≤ i
  · have hj : i.toNat = j := by
      rw [seqIndex_of h0 h5] at h1
      exact Option.some.inj h1
    exact item_listR pl.isList h0 (by omega) (by rw [hj]; simpa using ew) fin hs
  · have hj : (i + (its.toArray.size : Int)).toNat = j := by
      rw [seqIndex_neg (by omega) h4] at h1
      rw [List.size_toArray, ← hl]
      exact Option.some.inj h1
    exact subscriptTail_builtinR (x := w) pl.isList.typeIs slot_list_getitem.lookup
      (wpAny_getItem_list_neg (Q := fun r s' => r = w ∧ EP X pins σ Q r s') pl.isList (by omega) (by rw [List.size_toArray] <;> omega) (by omega) (by rw [hj]; simpa using ew) ⟨rfl, fin⟩) hs
theorem ix_tup : IxR X (rIxT X.K) := by
  intro value slice pins s σ H x y v u Q I rx ry h hs
  obtain ⟨p, xs, i, z, rfl, rfl, hq, he, q⟩ := h
  cases rx
  obtain ⟨t, rfl⟩ := ry
  obtain ⟨its, r, pl, hz⟩ := I.tuple hq
  obtain ⟨j, h1, h2, h3, h4, h5⟩ := atI_get he
  obtain ⟨w, ew, rw'⟩ := r.get h2
  have hl := r.length
  have hn := line63
  have fin : EP X pins σ Q w s := ⟨z, H, I, rw', q⟩
  exact subscriptTail_builtinR (x := w) pl.typeIs slot_tuple_getitem.lookup
    (getItem_tuple (j := j) (Q := fun r s' => r = w ∧ EP X pins σ Q r s') pl (by omega) (by omega) (by rw [List.size_toArray, ← hl]; exact h1) (by simpa using ew) ⟨rfl, fin⟩) hs
theorem mapSeq_set (its : List Value) (n j : Nat) (u : Value) : Obj.mapSeq (·.setIfInBounds j u) { cls := .type "list", data := .seq its.toArray n } = { cls := .type "list", data := .seq (its.set j u).toArray n } := by
  simp [Obj.mapSeq]
theorem Inv.lst {pins : List (Addr × Obj)} {σ : St} {H : Hp} {s : Shared} {p : Addr} {xs : List V} (I : Inv X pins σ H s) (h : H p = some (.lst xs)) :
    ∃ (its : List Value) (n : Nat), Vals xs its ∧ s.heap.get? p = some { cls := .type "list", data := .seq its.toArray n } ∧ xs.length ≤ sizeLine := by
  obtain ⟨z, its, n, r, e⟩ := I.hok p _ h
  exact ⟨its, n, r, e, z⟩
theorem Inv.lstUpd {pins : List (Addr × Obj)} {σ : St} {H : Hp} {s : Shared} {p : Addr} {xs ys : List V} {its its' : List Value} {n n' : Nat} {f : Obj → Obj} (I : Inv X pins σ H s) (h : H p = some (.lst xs))
    (ho : s.heap.get? p = some { cls := .type "list", data := .seq its.toArray n }) (hf : f { cls := .type "list", data := .seq its.toArray n } = { cls := .type "list", data := .seq its'.toArray n' }) (r : Vals ys its') (hz : ys.length ≤ sizeLine) (t : Nat) :
    Inv X pins σ (upd H p (.lst ys)) { s with heap := s.heap.update p f, toks := t } := by
  have e : (s.heap.update p f).get? p = some { cls := .type "list", data := .seq its'.toArray n' } := by
    rw [Heap.get?_update_self f ho (by rw [hf] <;> rfl), hf]
  refine I.write (x := p) (e := p) (by rw [h]; trivial) (.inl rfl) (fun b u hb q => (Heap.get?_update_other _ _ (Ne.symm hb)).trans q) ⟨_, e⟩ ?_
  exact ⟨hz, its', n', r, e⟩
def rSetL : V → V → V → Hp → (Hp → Prop) → Prop := fun o i v H Q => ∃ p xs k j, o = .ref p ∧ i = .int k ∧ H p = some (.lst xs) ∧ ixN xs.length k = some j ∧ Q (upd H p (.lst (xs.set j v)))
theorem set_list : PSet X rSetL := by
  intro pins s σ H o i v ov iv u Q I ro ri rv h
  obtain ⟨p, xs, k, j, rfl, rfl, hp, hj, q⟩ := h
  cases ro
  obtain ⟨t, rfl⟩ := ri
  obtain ⟨its, n, r, ho, hz⟩ := I.lst hp
  obtain ⟨h1, h2, h3, h4⟩ := ixN_seq hj
  have hl := r.length
  have hn := line63
  have I' : Inv X pins σ (upd H p (.lst (xs.set j v))) { s with heap := s.heap.update p (Obj.mapSeq (·.setIfInBounds j u)) } :=
    I.lstUpd hp ho (mapSeq_set its n j u) (r.set rv j) (by rw [List.length_set]; exact hz) s.toks
  by_cases h0 : 0 ≤ k
  · have hk : k.toNat = j := by
      rw [seqIndex_of h0 h4] at h1
      exact Option.some.inj h1
    exact PySem.W.ki_setAt ho h0 (by omega) (by rw [List.size_toArray, ← hl]; exact h4) (by rw [hk]; exact ⟨_, I', q⟩)
  · have hk : (k + (its.toArray.size : Int)).toNat = j := by
      rw [seqIndex_neg (by omega) h3] at h1
      rw [List.size_toArray, ← hl]
      exact Option.some.inj h1
    exact PySem.W.ki_setBack ho (by omega) (by rw [List.size_toArray, ← hl]; exact h3) (by omega) (by rw [hk]; exact ⟨_, I', q⟩)
theorem slice_bounds (lo hi : Option Int) (n : Nat) : (sliceBounds lo hi none n).1 = ((HT.sIx n 0 lo : Nat) : Int) ∧ (sliceBounds lo hi none n).2.1 = ((HT.sIx n n hi : Nat) : Int) ∧ (sliceBounds lo hi none n).2.2 = 1 := by
  refine ⟨?_, ?_, rfl⟩
  · cases lo with
    | none => simp [sliceBounds, HT.sIx]
    | some i =>
      simp only [sliceBounds, HT.sIx, Option.getD_none, show (1 : Int) > 0 by decide, if_true]
      by_cases h : i < 0
      · simp only [h, if_true] <;> omega
      · simp only [h, if_false] <;> omega
  · cases hi with
    | none => simp [sliceBounds, HT.sIx]
    | some i =>
      simp only [sliceBounds, HT.sIx, Option.getD_none, show (1 : Int) > 0 by decide, if_true]
      by_cases h : i < 0
      · simp only [h, if_true] <;> omega
      · simp only [h, if_false] <;> omega
theorem slicePick_cut (its : List Value) (lo hi : Option Int) : slicePick its.toArray lo hi none = ((its.drop (HT.sIx its.length 0 lo)).take (HT.sIx its.length its.length hi - HT.sIx its.length 0 lo)).toArray := by
  obtain ⟨h1, h2, h3⟩ := slice_bounds lo hi its.toArray.size
  unfold slicePick
  rw [h1, h2, h3]
  simp only [sliceRange_one, pick_run, List.size_toArray] <;> rfl
def rSlL (K : PySem.W.Frag) : V → Option Int → Option Int → Hp → VK → Prop := fun x lo hi H Q => ∃ a xs, x = .ref a ∧ SqL K H a xs ∧ ∀ p, H p = none → Q (.ref p) (upd H p (.lst (cutV xs lo hi)))
theorem sl_list : SlR X (rSlL X.K) := by
  intro pins s σ H x v vl vu lo hi sl Q I rx hs pl pu h
  obtain ⟨a, xs, rfl, hx, q⟩ := h
  cases rx
  obtain ⟨its, r, ht, hz⟩ := I.list hx
  have hlen := r.length
  refine ⟨"list", _, slot_list_getitem.lookup, ht.isList.typeIs, ?_⟩
  refine wpAny_getItem_list_slice ht.isList hs pl pu .none (by simp) ?_ (by rw [List.size_toArray] <;> omega)
  rw [slicePick_cut, ← hlen]
  refine ⟨.ref s.heap.objs.size, _, I.laid (t' := s.toks) (o := .lst (cutV xs lo hi)) (fun b ob q => Heap.get?_push_of_some _ q) (Nat.le_refl _) ?_, rfl, q _ (I.hok.fresh (Nat.le_refl _))⟩
  exact ⟨Nat.le_trans (cutV_length xs lo hi) hz, _, 0, (r.drop (HT.sIx xs.length 0 lo)).take (HT.sIx xs.length xs.length hi - HT.sIx xs.length 0 lo), Heap.get?_push_size _ rfl⟩
theorem call_len_seq : CallR X (.builtin "len") (fun xs H Q => ∃ p ys, xs = [.ref p] ∧ (SqL X.K H p ys ∨ SqT X.K H p ys) ∧ Q (.int ys.length) H) := by
  intro pins s σ H xs us Q I r h
  obtain ⟨p, ys, rfl, hq, q⟩ := h
  obtain ⟨u, rfl, rx⟩ := vals1 r
  cases rx
  have hn := line63
  rcases hq with hq | hq
  · obtain ⟨its, r', pl, hz⟩ := I.list hq
    have hlen := r'.length
    exact Calls.call_len_list pl.isList (by simp only [List.size_toArray] <;> omega) ⟨.int ys.length, H, I.tok _, ⟨s.toks + 1, by rw [List.size_toArray, hlen]⟩, q⟩
  · obtain ⟨its, r', pl, hz⟩ := I.tuple hq
    have hlen := r'.length
    exact len_tuple pl (by simp only [List.size_toArray] <;> omega) ⟨.int ys.length, H, I.tok _, ⟨s.toks + 1, by rw [List.size_toArray, hlen]⟩, q⟩
theorem call_list_of : CallR X (.type "list") (fun xs H Q => ∃ p ys, xs = [.ref p] ∧ (SqL X.K H p ys ∨ SqT X.K H p ys) ∧ ∀ l, H l = none → Q (.ref l) (upd H l (.lst ys))) := by
  intro pins s σ H xs us Q I r h
  obtain ⟨p, ys, rfl, hq, q⟩ := h
  obtain ⟨u, rfl, rx⟩ := vals1 r
  cases rx
  have fin : ∀ (its : List Value), Vals ys its → ys.length ≤ sizeLine → ∀ (h' : Heap) (c' : Nat), (∀ b o', s.heap.get? b = some o' → h'.get? b = some o') →
      h'.get? s.heap.objs.size = some { cls := .type "list", dict := none, data := .seq its.toArray c', slots := #[] } → EP X pins σ Q (.ref s.heap.objs.size) { s with heap := h' } := fun its r' hz h' c' kp e =>
    ⟨.ref s.heap.objs.size, _, I.laid (t' := s.toks) kp (Nat.le_refl _) (show ObjOk X.prog X.w _ h' _ (.lst ys) from ⟨hz, its, c', r', e⟩), rfl, q _ (I.hok.fresh (Nat.le_refl _))⟩
  rcases hq with hq | hq
  · obtain ⟨its, r', pl, hz⟩ := I.list hq
    have hlen := r'.length
    obtain ⟨o, ho, hc, n, hd⟩ := pl.isList
    exact call_list_seq p (.inl rfl) ho hc hd (fun h' c' kp e => fin its r' hz h' c' kp e) (by simp only [List.size_toArray] <;> omega)
  · obtain ⟨its, r', pl, hz⟩ := I.tuple hq
    have hlen := r'.length
    obtain ⟨o, ho, hc, n, hd⟩ := pl
    exact call_list_seq p (.inr rfl) ho hc hd (fun h' c' kp e => fin its r' hz h' c' kp e) (by simp only [List.size_toArray] <;> omega)
theorem call_tuple_of : CallR X (.type "tuple") (fun xs H Q => ∃ p ys, xs = [.ref p] ∧ ((SqL X.K H p ys ∧ ∀ l, H l = none → Q (.ref l) (upd H l (.tup ys))) ∨ (SqT X.K H p ys ∧ Q (.ref p) H))) := by
  intro pins s σ H xs us Q I r h
  obtain ⟨p, ys, rfl, h⟩ := h
  obtain ⟨u, rfl, rx⟩ := vals1 r
  cases rx
  rcases h with ⟨hq, q⟩ | ⟨hq, q⟩
  · obtain ⟨its, r', pl, hz⟩ := I.list hq
    have hlen := r'.length
    refine call_tuple_list pl.isList (fun h' kp => ?_) (by simp only [List.size_toArray] <;> omega)
    have I1 : Inv X pins σ H { s with heap := h' } := I.kept (t' := s.toks) kp
    have I2 : Inv X pins σ (upd H h'.objs.size (.tup ys)) { s with heap := h'.push { cls := .type "tuple", data := .seq its.toArray } } :=
      I1.laid (t' := s.toks) (fun b o e => Heap.get?_push_of_some _ e) (Nat.le_refl _) (show ObjOk X.prog X.w _ _ _ (.tup ys) from ⟨hz, its, r', IsTup.new _ _⟩)
    exact ⟨.ref h'.objs.size, _, I2, rfl, q _ (I1.hok.fresh (Nat.le_refl _))⟩
  · obtain ⟨its, r', pl, hz⟩ := I.tuple hq
    exact call_tuple_same pl ⟨.ref p, H, I, rfl, q⟩
def tyV (K : PySem.W.Frag) (T : String) (x : V) (H : Hp) : Prop := match x with
  | .str _ => T = "str"
  | .int _ => T = "int"
  | .ref p => (T = "list" ∧ ∃ xs, SqL K H p xs) ∨ (T = "tuple" ∧ ∃ o, K.lookup p = some o ∧ o.cls = .type "tuple" ∧ o.dict = none) ∨
      (T = "dict" ∧ ((∃ kvs, H p = some (.dK kvs)) ∨ ∃ kvs, H p = some (.dT kvs))) ∨ (T = "set" ∧ ∃ S n, H p = some (.set S n))
  | _ => False
theorem tyV_is {pins : List (Addr × Obj)} {σ : St} {H : Hp} {s : Shared} {T : String} {x : V} {v : Value} (I : Inv X pins σ H s) (r : RelV x v) (ty : tyV X.K T x H) :
    s.TypeIs v T ∧ ∀ a, v = .ref a → ∃ ob, s.heap.get? a = some ob ∧ ob.dict = none := by
  cases x with
  | str z =>
    obtain ⟨t, rfl⟩ := r
    cases (show T = "str" from ty)
    exact ⟨typeIs_str s z t, fun _ e => nomatch e⟩
  | int i =>
    obtain ⟨t, rfl⟩ := r
    cases (show T = "int" from ty)
    exact ⟨typeIs_int s i t, fun _ e => nomatch e⟩
  | ref p =>
    cases r
    rcases ty with ⟨rfl, xs, hq⟩ | ⟨rfl, o, hk, hc, hd⟩ | ⟨rfl, hk⟩ | ⟨rfl, S, n, hk⟩
    · obtain ⟨its, _, pl, _⟩ := I.list hq
      refine ⟨pl.isList.typeIs, fun a e => ?_⟩
      cases e
      obtain ⟨o, n, e, c, hd, _⟩ := pl
      exact ⟨o, e, hd⟩
    · refine ⟨⟨o, I.kIn p o hk, hc⟩, fun a e => ?_⟩
      cases e
      exact ⟨o, I.kIn _ o hk, hd⟩
    · have z : ∃ o, s.heap.get? p = some o ∧ o.ExactDict := by
        rcases hk with ⟨kvs, hk⟩ | ⟨kvs, hk⟩
        · obtain ⟨_, _, _, _, o, _, _, e, ex, _⟩ := I.hok p _ hk
          exact ⟨o, e, ex⟩
        · obtain ⟨_, _, _, _, o, _, _, e, ex, _⟩ := I.hok p _ hk
          exact ⟨o, e, ex⟩
      obtain ⟨o, e, ex⟩ := z
      refine ⟨⟨o, e, ex.1⟩, fun a e2 => ?_⟩
      cases e2
      exact ⟨o, e, ex.2.1⟩
    · obtain ⟨o, _, _, _, e, ex, _⟩ := I.hok p _ hk
      refine ⟨⟨o, e, ex.1⟩, fun a e2 => ?_⟩
      cases e2
      exact ⟨o, e, ex.2.1⟩
  | _ => exact False.elim ty
def tBM (K : PySem.W.Frag) (T : String) (r : V → List V → Hp → VK → Prop) (to : TE) (t : TA) : TE := fun σ H Q => to σ H fun x H1 => tyV K T x H1 ∧ t σ H1 fun xs H2 => r x xs H2 Q
variable {o e : Expr} {es : List Expr} {to : TE} {t : TA} {name : Str} {apos cpos : Pos} {T id : String} {r : V → List V → Hp → VK → Prop}
theorem pe_bm (pa : PlainAttrs T) (slot : Slot T name id) (hty : typeOf (.builtin id) = pure (.type "method_descriptor")) (hm : MtR X id r) (ho : PE X o to) (ha : PA X (e :: es) t)
    (hbase : attributeBase o name X.env (eval o X.env) = eval o X.env := by rfl)
    (hfew : ((backTo cpos (starEach (e :: es) X.env)).all (fun x => !x.1) && (backToKw cpos (keywordEach [] X.env)).all (fun x => x.1.isSome)
      && decide ((e :: es).length + ([] : List Keyword).length + (if ([] : List Keyword).isEmpty then 0 else 1) < 30)) = true := by rfl)
    (hline : (apos.endLine == cpos.line) = true := by rfl) (hs : starEach (e :: es) X.env = (false, eval e X.env) :: starEach es X.env := by rfl) (hplain : (backTo cpos (starEach es X.env)).any (·.1) = false := by rfl) :
    PE X (.Call (.Attribute o name apos) (e :: es) [] cpos) (tBM X.K T r to t) := by
  intro pins s σ H Q I h
  refine wpAny_Call_method_late hbase hfew hline rfl (thn (ho pins s σ H _ I h) fun v s1 ⟨x, H1, I1, r1, ty, q1⟩ => ?_)
  obtain ⟨h1, h2⟩ := tyV_is I1 r1 ty
  refine ⟨T, id, pa, slot, hty, h1, h2, ?_⟩
  have hA := ha cpos pins s1 σ H1 _ I1 q1
  rw [hs] at hA ⊢
  refine Calls.callWith_builtin (by show (false || (backTo cpos (starEach es X.env)).any (·.1)) = false; rw [hplain] <;> rfl) (Calls.evalArgs_plain ?_)
  exact thn hA fun us s2 ⟨vs, H2, I2, r2, q2⟩ => hm pins s2 σ H2 x vs v us Q I2 r1 r2 q2
end
end L2
namespace L2
open PySem PySem.Spec PyProof.Rows
def MtM (X : Cx) (id : String) (r : V → List V → Hp → VK → Prop) : Prop :=
  ∀ (pins : List (Addr × Obj)) (s : Shared) (σ : St) (H : Hp) (x : V) (xs : List V) (v : Value) (us : List Value) (Q : VK), Inv X pins σ H s → RelV x v → Vals xs us → r x xs H Q →
    wpAny (model X.prog X.w) X.A (call (.builtin id) (v :: us)) (EP X pins σ Q) X.xe s
theorem Vals.one : ∀ {x : V} {us : List Value}, Vals [x] us → ∃ u, us = [u] ∧ RelV x u
  | _, _, .cons r .nil => ⟨_, rfl, r⟩
theorem Vals.two : ∀ {x y : V} {us : List Value}, Vals [x, y] us → ∃ u v, us = [u, v] ∧ RelV x u ∧ RelV y v
  | _, _, _, .cons r (.cons q .nil) => ⟨_, _, rfl, r, q⟩
theorem Vals.zero : ∀ {us : List Value}, Vals [] us → us = []
  | _, .nil => rfl
theorem Vals.reverse {xs : List V} {us : List Value} (h : Vals xs us) : Vals xs.reverse us.reverse := by
  induction h with
  | nil => exact .nil
  | cons r t ih => rw [List.reverse_cons, List.reverse_cons]; exact Vals.append ih (.cons r .nil)
theorem Vals.rep {xs : List V} {us : List Value} (h : Vals xs us) : ∀ k : Nat, Vals (List.replicate k xs).flatten (List.replicate k us).flatten
  | 0 => .nil
  | k + 1 => by
    rw [List.replicate_succ, List.replicate_succ, List.flatten_cons, List.flatten_cons]
    exact Vals.append h (Vals.rep h k)
theorem foldl_rep (its : List Value) : ∀ (k : Nat) (acc : List Value),
    List.foldl (fun x1 x2 => x1 ++ x2) acc.toArray (List.replicate k its.toArray) = (acc ++ (List.replicate k its).flatten).toArray
  | 0, acc => by simp
  | k + 1, acc => by
    have e : acc.toArray ++ its.toArray = (acc ++ its).toArray := by simp
    have e2 : (acc ++ its) ++ (List.replicate k its).flatten = acc ++ (List.replicate (k + 1) its).flatten := by
      rw [List.replicate_succ, List.flatten_cons, List.append_assoc]
    rw [← e2, ← foldl_rep its k (acc ++ its), ← e, List.replicate_succ, List.foldl_cons]
section
variable {X : Cx} {pins : List (Addr × Obj)} {σ : St} {H : Hp} {s : Shared} {l b : Addr} {xs ys zs : List V}
theorem Inv.lset {its its' : List Value} {n : Nat} {f : Array Value → Array Value} {t' : Nat} (I : Inv X pins σ H s) (hH : H l = some (.lst xs))
    (e : s.heap.get? l = some { cls := .type "list", data := .seq its.toArray n }) (hf : f its.toArray = its'.toArray) (hv : Vals ys its') (hz : ys.length ≤ sizeLine) :
    Inv X pins σ (upd H l (.lst ys)) { s with heap := s.heap.update l (Obj.mapSeq f), toks := t' } := by
  have q := PySem.IsL.update e f
  rw [hf] at q
  refine I.write (x := l) (e := l) (by rw [hH]; exact trivial) (.inl rfl) (fun b' u hb hu => (Heap.get?_update_other s.heap (Obj.mapSeq f) (Ne.symm hb)).trans hu) ⟨_, q⟩ ?_
  exact ⟨hz, its', _, hv, q⟩
theorem Inv.lnew {its : List Value} {t' : Nat} (I : Inv X pins σ H s) (hv : Vals ys its) (hz : ys.length ≤ sizeLine) :
    Inv X pins σ (upd H s.heap.objs.size (.lst ys)) { s with heap := s.heap.push { cls := .type "list", data := .seq its.toArray }, toks := t' } :=
  I.laid (fun _ _ q => Heap.get?_push_of_some _ q) (Nat.le_refl _) ⟨hz, its, 0, hv, Heap.get?_push_size _ rfl⟩
theorem Inv.fresh (I : Inv X pins σ H s) : H s.heap.objs.size = none := I.hok.fresh (Nat.le_refl _)
theorem Inv.lstM (I : Inv X pins σ H s) (hH : H l = some (.lst xs)) : xs.length ≤ sizeLine ∧ ∃ (its : List Value) (n : Nat), Vals xs its ∧ xs.length = its.length ∧ s.heap.get? l = some { cls := .type "list", data := .seq its.toArray n } := by
  obtain ⟨z, its, n, r, e⟩ := I.hok l _ hH
  exact ⟨z, its, n, r, r.length, e⟩
theorem notLongL {n : Nat} (h : n ≤ sizeLine) : Builtin.List.listTooLong n = false := by
  unfold Builtin.List.listTooLong
  exact decide_eq_false (by omega)
end
section
variable {X : Cx}
def rAppend : V → List V → Hp → VK → Prop := fun x vs H Q => ∃ l xs y, x = .ref l ∧ vs = [y] ∧ H l = some (.lst xs) ∧ xs.length < sizeLine ∧ Q .non (upd H l (.lst (xs ++ [y])))
theorem mt_append : MtM X "list.append" rAppend := by
  intro pins s σ H x vs v us Q I rx rv h
  obtain ⟨l, xs, y, rfl, rfl, hH, hz, q⟩ := h
  cases rx
  obtain ⟨u, rfl, ru⟩ := rv.one
  obtain ⟨z, its, n, r, hl, e⟩ := I.lstM hH
  refine call_meets F.slot_list_append ⟨_, e, rfl⟩ F.entry_list_append (F.args_list_append_2 _ _) (PySem.list_append l its.toArray n u (by rw [List.size_toArray]; omega)) ⟨e, ?_⟩
  refine ⟨.non, _, I.lset (its' := its ++ [u]) hH e (by simp) (r.append (.cons ru .nil)) ?_, rfl, q⟩
  rw [List.length_append, List.length_singleton]
  omega
def rExtend : V → List V → Hp → VK → Prop := fun x vs H Q => ∃ l b xs zs, x = .ref l ∧ vs = [.ref b] ∧ H l = some (.lst xs) ∧ H b = some (.lst zs) ∧ xs.length + zs.length ≤ sizeLine ∧ Q .non (upd H l (.lst (xs ++ zs)))
theorem mt_extend : MtM X "list.extend" rExtend := by
  intro pins s σ H x vs v us Q I rx rv h
  obtain ⟨l, b, xs, zs, rfl, rfl, hH, hB, hz, q⟩ := h
  cases rx
  obtain ⟨u, rfl, ru⟩ := rv.one
  cases ru
  obtain ⟨z, its, n, r, hl, e⟩ := I.lstM hH
  obtain ⟨z2, its2, n2, r2, hl2, e2⟩ := I.lstM hB
  have hsz : its.toArray.size + its2.toArray.size ≤ sizeLine := by rw [List.size_toArray, List.size_toArray]; omega
  have hlong : ¬ (!its.toArray.isEmpty && Builtin.List.listTooLong (its.toArray.size + its2.toArray.size)) = true := by
    rw [notLongL hsz, Bool.and_false]
    exact Bool.false_ne_true
  refine call_meets F.slot_list_extend ⟨_, e, rfl⟩ F.entry_list_extend (F.args_list_extend_2 _ _)
    (AutoSeq1.list_extend_list_list_0 l its.toArray n b its2.toArray n2 hlong (by rw [List.size_toArray]; omega) (by omega)) ⟨e, e2, ?_⟩
  refine ⟨.non, _, I.lset (its' := its ++ its2) hH e (by simp) (r.append r2) ?_, rfl, q⟩
  rw [List.length_append]
  omega
def rCat : R2 := fun x y H Q => ∃ l b xs zs, x = .ref l ∧ y = .ref b ∧ H l = some (.lst xs) ∧ H b = some (.lst zs) ∧ xs.length + zs.length ≤ sizeLine ∧ ∀ p, H p = none → Q (.ref p) (upd H p (.lst (xs ++ zs)))
theorem op_cat : OpR X (binaryOp .Add) rCat := by
  intro pins s σ H x y v u Q I rx ry h
  obtain ⟨l, b, xs, zs, rfl, rfl, hH, hB, hz, q⟩ := h
  cases rx
  cases ry
  obtain ⟨z, its, n, r, hl, e⟩ := I.lstM hH
  obtain ⟨z2, its2, n2, r2, hl2, e2⟩ := I.lstM hB
  refine PySem.P.add_list e e2 ?_ (by rw [List.size_toArray, List.size_toArray]; omega)
  have ea : its.toArray ++ its2.toArray = (its ++ its2).toArray := by simp
  rw [ea]
  exact ⟨.ref _, _, I.lnew (t' := s.toks) (r.append r2) (by rw [List.length_append]; omega), rfl, q _ I.fresh⟩
def rRep : R2 := fun x y H Q => ∃ l k xs, x = .ref l ∧ y = .int k ∧ H l = some (.lst xs) ∧ -(2 ^ 63) ≤ k ∧ k < 2 ^ 63 ∧ xs.length * k.toNat ≤ sizeLine ∧
  ∀ p, H p = none → Q (.ref p) (upd H p (.lst (List.replicate k.toNat xs).flatten))
theorem len_rep {α : Type} (xs : List α) (k : Nat) : (List.replicate k xs).flatten.length = k * xs.length := by
  induction k with
  | zero => simp
  | succ k ih => rw [List.replicate_succ, List.flatten_cons, List.length_append, ih, Nat.succ_mul, Nat.add_comm]
theorem op_rep : OpR X (binaryOp .Mult) rRep := by
  intro pins s σ H x y v u Q I rx ry h
  obtain ⟨l, k, xs, rfl, rfl, hH, h1, h2, hz, q⟩ := h
  cases rx
  obtain ⟨t, rfl⟩ := ry
  obtain ⟨z, its, n, r, hl, e⟩ := I.lstM hH
  have hlen : its.toArray.size * k.toNat ≤ sizeLine := by rw [List.size_toArray, ← hl]; exact hz
  have hcap : ¬ its.toArray.size * k.toNat > (2 ^ 63 - 1) / 8 := by
    have : (sizeLine : Nat) ≤ (2 ^ 63 - 1) / 8 := by decide
    omega
  have hfit : ¬ (!Builtin.List.listFitsIndex k) = true := by
    rw [fitsIndex_both h1 h2]
    exact Bool.false_ne_true
  have hlong : ¬ Builtin.List.listTooLong (its.toArray.size * k.toNat) = true := by
    rw [notLongL hlen]
    exact Bool.false_ne_true
  have hnew : List.foldl (fun x1 x2 => x1 ++ x2) #[] (List.replicate (if its.toArray.isEmpty = true then 0 else k.toNat) its.toArray) = (List.replicate k.toNat its).flatten.toArray := by
    have f0 : ∀ m : Nat, List.foldl (fun x1 x2 => x1 ++ x2) #[] (List.replicate m its.toArray) = (List.replicate m its).flatten.toArray := fun m => by
      have := foldl_rep its m []
      rw [List.nil_append] at this
      exact this
    rw [f0]
    cases its with
    | nil => simp
    | cons a r' => rw [if_neg (by simp)]
  refine wpAny_binaryOp_repeat_ref (T := "list") (U := "int") (by decide) ⟨_, e, rfl⟩ (fun s' => typeIs_int s' k t) noFill_list_mul F.fills_int_mul F.slot_int_rmul repeat_list F.slot_int_index.lookup
    (call_meets F.slot_int_rmul (typeIs_int s k t) F.entry_int_rmul (F.args_int_rmul_2 _ _) (int___rmul___int_list k t l its.toArray n)
      ⟨e, rfl, ⟨_, e, rfl⟩, call_meets F.slot_list_mul ⟨_, e, rfl⟩ F.entry_list_mul (F.args_list_mul_2 _ _) (AutoListH.list___mul___list_int_3 l its.toArray n k t hfit hcap hlong) ⟨e, ?_⟩⟩)
  rw [hnew]
  exact ⟨.ref _, _, I.lnew (t' := s.toks) (r.rep k.toNat) (by rw [len_rep, Nat.mul_comm]; exact hz), rfl, q _ I.fresh⟩
end
section
variable {prog : Program} {w : World} {A : Around} {E : Value → Shared → Prop} {s : Shared}
end
section
variable {X : Cx}
end
end L2
namespace Att
open PySem PySem.W PySem.Calls PyProof.Rows
theorem ints_of_wellAll {P : Params} {h : Heap} : ∀ (ns : List Int) (vs : List Value), WellAll P h vs (ns.map WData.int) → IntsAre vs ns := by
  intro ns
  induction ns with
  | nil =>
    intro vs w
    rw [List.map_nil] at w
    cases w
    exact .nil
  | cons n ns ih =>
    intro vs w
    rw [List.map_cons] at w
    cases w with
    | cons a b =>
      cases a
      exact .cons _ _ (ih _ b)
theorem script_of {l : OpenLaw} {n : Nat} (hn : l.most = some n) {P : Params} {h : Heap} {args : List WData} {vals : List Value}
    (hpre : l.row.toRowW.claim.pre args = true) (hwl : WellAll P h vals args) :
    ∃ a vs ns, vals = [Value.ref a] ∧ args = [WData.list (ns.map WData.int)] ∧ h.get? a = some { cls := .type "list", data := .seq vs.toArray } ∧ IntsAre vs ns ∧ ns.length ≤ n := by
  have hsh : WShape.hasAll [] args [.list .int] = true := (pre_splitW hpre).1
  have hc : l.pre.holds [] { args := args } = true := (pre_splitW hpre).2
  obtain ⟨d, r, rfl, h1, h2⟩ := hasAllW_cons hsh
  obtain rfl := hasAllW_nil h2
  obtain ⟨xs, rfl, h3⟩ := hasW_list h1
  obtain ⟨ns, rfl⟩ := items_int h3
  have hlen : ns.length ≤ n := by
    unfold OpenLaw.pre at hc
    have h4 : (WTm.not (.lt (.lit (.int (n : Int))) (.len (.arg 0)))).holds [] { args := [.list (ns.map .int)] } = true := by
      have h4 := (holds_andW hc).1
      rw [hn] at h4
      exact h4
    have h5 := condW_of h4 (w_not (w_lt w_lit (w_len_list (w_arg rfl))))
    rw [List.length_map] at h5
    refine Nat.le_of_not_lt fun q => ?_
    have q' : (n : Int) < ((ns.length : Nat) : Int) := by omega
    first
      | (rw [decide_eq_true q'] at h5; exact absurd h5 (by decide))
      | (simp at h5; omega)
  cases hwl with
  | cons w1 w2 =>
    cases w2
    cases w1 with
    | list ho hall => exact ⟨_, _, ns, rfl, rfl, ho, ints_of_wellAll ns _ hall, hlen⟩
theorem post_true (l : OpenLaw) (args : List WData) : l.row.toRowW.claim.post args (.bool true) args = true :=
  postW_of (r := l.row.toRowW) (X := (true == true))
    (show WShape.has [] (.bool true) .bool = true by first | rfl | decide | simp [WShape.has, WShape.arms, WShape.armsAll])
    (show (WTm.eq .res (.lit (.bool true))).value [] { args := args, res := some (.bool true), after := args } = some (.bool (true == true)) from w_eq_bool (w_res rfl) w_lit) rfl
theorem attach_call {l : OpenLaw} {n : Nat} {q : Program} {loose : List Str} {XP : (Str → Option Value) → Heap → Prop} {YP : World → Heap → Prop} {d : DefRec}
    (hn : l.most = some n) (hdf : d.params.defaults = [])
    (call : ∀ (w : World) (s₀ s₁ : Shared) (mg mb : Str → Option Value) (fa : Addr) (o : Obj) (pm cd doc : Value) (a : Addr) (vs : List Value) (ns : List Int),
      Ground q loose [] XP w s₀ mg mb s₁.heap → YP w s₁.heap →
      s₁.heap.get? fa = some o → o.data = .func (docDef d.name d.params d.body d.scope pm cd doc) → s₁.heap.CodeRec cd d.name → mg d.name = some (.ref fa) →
      s₁.heap.get? a = some { cls := .type "list", data := .seq vs.toArray } → IntsAre vs ns → ns.length ≤ n → s₁.gens = #[] →
      codeAny (model l.prog w) callerA (.call (.ref fa) ⟨[.ref a], []⟩) (fun r s' => r = .ok (.ret (.bool true)) ∧ OldK s₁.heap s'.heap ∧ s'.os = s₁.os ∧ AllBare s'.gens) s₁) :
    WalkO q loose XP YP l.row.toRowW d [] (fun f vs => PySem.call f vs) := by
  intro w s₀ s₁ mg mb G Y fa o pm cd doc dV kV ho hd hcd hD hmg hg args vals as hpre hlay hrd hwl hlo
  obtain rfl : dV = .none := Dflts.none hD hdf
  obtain rfl : kV = .none := Dflts.noKw hD
  obtain ⟨a, vs, ns, rfl, rfl, hobj, hints, hlen⟩ := script_of hn hpre hwl
  refine enter_call (codeAny_mono (call w s₀ s₁ mg mb fa o pm cd doc a vs ns G Y ho (fd_plain hd) hcd hmg hobj hints hlen hg) fun r s' hq => ?_)
  obtain ⟨rfl, h2, h3, h4⟩ := hq
  exact ⟨.inl ⟨.bool true, .bool true, [], rfl, fun _ => rfl, .bool true, post_true l _, fun _ => ⟨List.Pairwise.nil, fun _ hm => (nomatch hm)⟩⟩, h2, h3, h4⟩
section
variable {prog : Program} {w : World} {A : Around} {E : Value → Shared → Prop} {s : Shared} {K : Frag}
end
end Att
namespace L2
open PySem PySem.Spec PyProof.Rows
theorem vals_ints : ∀ {vs : List Value} {ns : List Int}, IntsAre vs ns → Vals (ns.map V.int) vs
  | _, _, .nil => .nil
  | _, _, .cons n t h => .cons ⟨t, rfl⟩ (vals_ints h)
def Only (H : Hp) : Prop := ∀ b, H b = none ∨ ∃ o xs, H b = some (.frz o (.lst xs))
theorem law_call {P : Program} {w : World} {K : PySem.W.Frag} {mg mb : Str → Option Value} {CX : CXT} {k : Nat} {fa a : Addr} {fd : FuncData} {x : Str} {sp : Sp} {s₁ : Shared} {vs : List Value} {ns : List Int}
    (KX : K.In s₁.heap) (hns : s₁.heap.Ns mainGlobals mg) (hb : s₁.heap.Ns builtinsNs mb) (hbb : ∀ x : Str, x ≠ "__name__" → mb x = bootBuiltins x) (hlim : s₁.heap.NoLimit) (hseer : s₁.heap.NoSeer) (htree : (model P w).prog.given.tree = none) (hg : s₁.gens = #[])
    (ha : s₁.heap.get? a = some { cls := .type "list", data := .seq vs.toArray }) (hi : IntsAre vs ns) (hl : ns.length ≤ sizeLine) (hr : Room k callerA)
    (F : ∀ base : Heap, K.In base → base.Ns mainGlobals mg → FnOk P w K mg base CX k fa fd [x] sp) (hbind : ∀ (s : Shared) (u : Value), BindsTo s fd ⟨[u], []⟩ [(x, u)])
    (hsp : ∀ H : Hp, Only H → SqL K H a (ns.map V.int) → sp [.ref a] H (fun v _ => v = .bl true) fun _ _ _ => False)
    (hCX : ∀ H e s', CX [] H s₁ (fun _ _ _ => False) e s' → False) :
    codeAny (model P w) callerA (.call (.ref fa) ⟨[.ref a], []⟩) (fun r s' => r = .ok (.ret (.bool true)) ∧ OldK s₁.heap s'.heap ∧ s'.os = s₁.os ∧ AllBare s'.gens) s₁ := by
  have rv := vals_ints hi
  have lenV := hi.length
  have core : ∀ H : Hp, Only H → SqL K H a (ns.map V.int) → HOk P w H s₁.heap → (∀ b, H b ≠ none → b = a) → (H a ≠ none → K.lookup a = none) →
      codeAny (model P w) callerA (.call (.ref fa) ⟨[.ref a], []⟩) (fun r s' => r = .ok (.ret (.bool true)) ∧ OldK s₁.heap s'.heap ∧ s'.os = s₁.os ∧ AllBare s'.gens) s₁ := by
    intro H hO hS hok hA hK
    have base_of : ∀ {b : Addr} {o : Obj}, s₁.heap.get? b = some o → H b = none → (hidT s₁.heap H).get? b = some o := fun e n => hidT_get e n
    have noA : ∀ {b : Addr} {o : Obj} {es : Array DictEntry} {ep : Nat}, s₁.heap.get? b = some o → o.data = .dict es ep → H b = none := fun {b o es ep} e d => by
      cases q : H b with
      | none => rfl
      | some u =>
        have e' : b = a := hA b (by rw [q]; simp)
        subst e'
        rw [ha] at e; cases e
        have d' : Data.seq vs.toArray _ = Data.dict es ep := d
        cases d'
    have nsK : ∀ {b : Addr} {m : Str → Option Value}, s₁.heap.Ns b m → (hidT s₁.heap H).Ns b m := fun {b m} ⟨o, es, ep, e, d, r⟩ => ⟨o, es, ep, base_of e (noA e d), d, r⟩
    have hKb : K.In (hidT s₁.heap H) := fun b o e => base_of (KX b o e) (by
      cases q : H b with
      | none => rfl
      | some u =>
        have e' : b = a := hA b (by rw [q]; simp)
        subst e'
        rw [hK (by rw [q]; simp)] at e; cases e)
    have hM : Mod K mg (hidT s₁.heap H) := ⟨hKb, nsK hns, ⟨mb, nsK hb, hbb⟩, let ⟨mc, h1, h2⟩ := hlim; ⟨mc, nsK h1, h2⟩⟩
    have hSe : (hidT s₁.heap H).NoSeer := ⟨let ⟨mc, a, b⟩ := hseer.statics; ⟨mc, nsK a, b⟩, let ⟨mc, a, b⟩ := hseer.mods; ⟨mc, nsK a, b⟩, let ⟨mc, a, b⟩ := hseer.imp; ⟨mc, nsK a, b⟩,
      let ⟨mg', bm, ob, a', b', c', d', e'⟩ := hseer.main; ⟨mg', bm, ob, nsK a', b', base_of c' (by
        cases q : H bm with
        | none => rfl
        | some u =>
          have z : bm = a := hA bm (by rw [q]; simp)
          subst z
          rw [ha] at c'; cases c'
          simp at d'), d', e'⟩⟩
    have e0 : Env0 P w K mg (hidT s₁.heap H) callerA [] s₁ H := ⟨rfl, hM, fun b o e => of_hidT e, Nat.le_of_eq (hidT_size _ _), trivial, fun b hb => absurd (show b ∈ ([] : List Addr) from hb) (by simp), hok, .of_eq hg, hSe, htree⟩
    refine codeAny_mono ((F _ hKb (nsK hns)).run callerA [] s₁ H ⟨[.ref a], []⟩ [.ref a] [.ref a] _ _ hr e0 (hbind s₁ (.ref a)) (.cons rfl .nil) (hsp H hO hS)) fun r s' h => ?_
    cases r with
    | error e => exact (hCX H e s' h).elim
    | ok fl =>
      cases fl with
      | next => exact False.elim h
      | brk => exact False.elim h
      | cont => exact False.elim h
      | ret u =>
        obtain ⟨v, H', os, bare, un, hok', r', q⟩ := h
        have q' : v = .bl true := q
        subst q'
        obtain rfl : u = Value.bool true := r'
        refine ⟨rfl, OldK.of_keep fun b o e => ?_, os, bare⟩
        cases q : H b with
        | none => exact un.keep b o e q (by intro z; exact absurd (show b ∈ ([] : List Addr) from z) (by simp)) (by simp)
        | some u =>
          rcases hO b with z | ⟨ob, xs, z⟩
          · rw [q] at z; cases z
          · have z2 := un.frzs b ob _ z
            obtain ⟨e1, _⟩ := hok b _ z
            obtain ⟨e2, _⟩ := hok' b _ z2
            rw [e] at e1; cases e1
            exact e2
  cases hk : K.lookup a with
  | some o =>
    have e := KX a o hk
    rw [ha] at e
    cases e
    refine core (fun _ => none) (fun _ => .inl rfl) (.inr ⟨_, vs.toArray, _, hk, rfl, rfl, rfl, by rw [List.size_toArray, lenV]; exact hl, by simpa using rv⟩) (fun b u z => by have z' : (none : Option HO) = some u := z; cases z') (fun b z => absurd rfl z) fun z => absurd rfl z
  | none =>
    refine core (fun b => if b = a then some (.frz { cls := .type "list", data := .seq vs.toArray } (.lst (ns.map V.int))) else none) (fun b => ?_) (.inl (.inr ⟨{ cls := .type "list", data := .seq vs.toArray }, if_pos rfl⟩)) (fun b u z => ?_) (fun b z => ?_) fun _ => hk
    · by_cases hb : b = a
      · exact .inr ⟨_, _, if_pos hb⟩
      · exact .inl (if_neg hb)
    · by_cases hb : b = a
      · have z' := (if_pos hb).symm.trans z
        cases z'
        subst hb
        exact ⟨ha, by rw [List.length_map]; exact hl, vs, _, rv, ha⟩
      · have z' := (if_neg hb).symm.trans z
        cases z'
    · by_cases hb : b = a
      · exact hb
      · exact absurd (if_neg hb) z
end L2
namespace L2
open PySem PySem.Spec PyProof.Rows
theorem walk_of {l : PySem.W.OpenLaw} {n k : Nat} {q : Program} {loose : List Str} {XP : (Str → Option Value) → Heap → Prop} {YP : World → Heap → Prop} {d : DefRec} {K : Params → PySem.W.Frag} {CX : World → CXT} {sp : World → Sp} {x : Str}
    (hn : l.most = some n) (hn2 : n ≤ sizeLine) (hdf : d.params.defaults = []) (hq : importsNone q = true) (htree : ∀ w, (model l.prog w).prog.given.tree = none) (hr : Room k callerA)
    (hY : ∀ (w : World) (h : Heap), YP w h → (K w.params).In h)
    (F : ∀ (w : World) (mg : Str → Option Value) (fa : Addr) (h : Heap), (K w.params).In h → h.Ns mainGlobals mg → mg d.name = some (.ref fa) →
      ∃ fd : FuncData, (∀ (s : Shared) (u : Value), BindsTo s fd ⟨[u], []⟩ [(x, u)]) ∧
        ∀ base : Heap, (K w.params).In base → base.Ns mainGlobals mg → FnOk l.prog w (K w.params) mg base (CX w) k fa fd [x] (sp w))
    (hsp : ∀ (w : World) (H : Hp) (a : Addr) (ns : List Int), ns.length ≤ n → Only H → SqL (K w.params) H a (ns.map V.int) → sp w [.ref a] H (fun v _ => v = .bl true) fun _ _ _ => False)
    (hCX : ∀ (w : World) (H : Hp) (s : Shared) (e : Value) (s' : Shared), CX w [] H s (fun _ _ _ => False) e s' → False) :
    PySem.W.WalkO q loose XP YP l.row.toRowW d [] (fun f vs => PySem.call f vs) := by
  refine Att.attach_call hn hdf fun w s₀ s₁ mg mb fa o pm cd doc a vs ns G Y ho hd hcd hmg hobj hints hlen hg => ?_
  have KX := hY w _ Y
  obtain ⟨fd, hb, hF⟩ := F w mg fa _ KX G.T.g hmg
  exact law_call KX G.T.g G.T.b G.T.builtins G.T.nolimit (G.T.seer hq) (htree w) hg hobj hints (Nat.le_trans hlen hn2) hr hF hb (fun H hO hS => hsp w H a ns hlen hO hS) fun H e s' => hCX w H s₁ e s'
end L2
namespace L2
open PySem PySem.Spec PyProof.Rows
def defArgs (s : Stmt) : Arguments := match s with
  | .FunctionDef _ a _ _ _ _ _ _ _ _ => a
  | _ => { posonlyargs := [], args := [], vararg := none, kwonlyargs := [], kw_defaults := [], kwarg := none, defaults := [] }
def defBody (s : Stmt) : List Stmt := match s with
  | .FunctionDef _ _ b _ _ _ _ _ _ _ => b
  | _ => []
def defScope (s : Stmt) : Scope := match s with
  | .FunctionDef _ _ _ _ _ _ sc _ _ _ => sc
  | _ => { kind := .function, names := [], isGenerator := false, isCoroutine := false }
abbrev CX0 : CXT := fun _ _ _ _ _ _ => False
abbrev E0 : XK := fun _ _ _ => False
theorem pass0 {X : Cx} : Passes CX0 X E0 := fun _ _ _ _ _ _ _ h => h.elim
structure Fun (K : PySem.W.Frag) (x qual : Str) (st : Stmt) (f : Addr) (fd : FuncData) : Prop where
  ex : ∃ (oc : Value) (od : Option Addr) (kV doc pm : Value) (an : Option Addr) (cdv ct : Value) (osl : Array (Option Value)),
    fd = PySem.W.fnOf x qual (defArgs st) (defBody st) (defScope st) .none kV doc pm an cdv ct ∧ K.lookup f = some ⟨oc, od, .func fd, osl⟩ ∧ PySem.W.codeIn K cdv qual = true
  kp : PySem.W.keepIn K (.ref f) = true
section
variable {P : Program} {w : World} {K : PySem.W.Frag} {mg : Str → Option Value} {base : Heap}
theorem Fun.ok {x qual : Str} {st : Stmt} {f : Addr} {fd : FuncData} {N ps : List Str} {k : Nat} {sp : Sp} (F : Fun K x qual st f fd) (S : FnScope N ps (defScope st)) (len : ∀ vs H Q E, sp vs H Q E → vs.length = ps.length)
    (hbody : ∀ (cdv : Value) (A : Around) (outer : List Env) (s : Shared) (H : Hp) (vs : List V) (Q : VK) (E : XK), Room k (A.deeper (envOfC qual (defScope st) s.heap.objs.size f cdv)) → sp vs H Q E →
      ∃ t, PSs (cxOf CX0 P w K mg base N qual (defScope st) f cdv A outer s H E).nox (defBody st) t ∧ t { nx := fun _ H' => Q .non H', rt := Q } (start N vs) H) : FnOk P w K mg base CX0 (k + 1) f fd ps sp := by
  obtain ⟨oc, od, kV, doc, pm, an, cdv, ct, osl, rfl, lk, hcd⟩ := F.ex
  refine fn_of lk hcd S len fun A outer s H vs Q E hr hsp => ?_
  obtain ⟨t, h, q⟩ := hbody cdv A outer s H vs Q E hr hsp
  exact ⟨t, h.nox, q⟩
theorem Fun.binds {x qual : Str} {st : Stmt} {f : Addr} {fd : FuncData} {ps : List Str} (F : Fun K x qual st f fd)
    (h : ∀ (kV doc pm : Value) (an : Option Addr) (cdv ct : Value) (us : List Value), us.length = ps.length → bindArgs (PySem.W.fnOf x qual (defArgs st) (defBody st) (defScope st) .none kV doc pm an cdv ct) ⟨us, []⟩ = pure (ps.zip us)) : Binds K fd ps [] := by
  obtain ⟨oc, od, kV, doc, pm, an, cdv, ct, osl, rfl, lk, hcd⟩ := F.ex
  exact .all (h kV doc pm an cdv ct)
theorem fun_mk {x qual : Str} {st : Stmt} {f : Addr} {oc : Value} {od an : Option Addr} {osl : Array (Option Value)} {kV doc pm cdv ct : Value} (l : K.lookup f = some ⟨oc, od, .func (PySem.W.fnOf x qual (defArgs st) (defBody st) (defScope st) .none kV doc pm an cdv ct), osl⟩)
    (c : PySem.W.codeIn K cdv qual = true) (k : PySem.W.keepIn K (.ref f) = true) : Fun K x qual st f (PySem.W.fnOf x qual (defArgs st) (defBody st) (defScope st) .none kV doc pm an cdv ct) := ⟨⟨oc, od, kV, doc, pm, an, cdv, ct, osl, rfl, l, c⟩, k⟩
end
section
variable {X : Cx}
theorem pv (i : Nat) {x : Str} {pos : Pos} (hN : X.N[i]? = some x := by rfl) (hv : Vis X.env.scope x := by first | exact Or.inl rfl | exact Or.inr (Or.inl rfl) | exact Or.inr (Or.inr rfl)) (hd : (x == ("__debug__" : Str)) = false := by decide)
    (hcd : (x == ("__classdict__" : Str)) = false := by decide) : PE X (.Name x pos) (tVar i) := pe_var hN hv hd hcd
end
theorem ite2 {c A B : Prop} [Decidable c] (h1 : c → A) (h2 : ¬ c → B) : if c then A else B := by
  by_cases h : c
  · rw [if_pos h]
    exact h1 h
  · rw [if_neg h]
    exact h2 h
def Same (H H' : Hp) : Prop := ∀ b o, H b = some o → H' b = some o
theorem Same.refl (H : Hp) : Same H H := fun _ _ h => h
theorem Same.trans {H H1 H2 : Hp} (a : Same H H1) (b : Same H1 H2) : Same H H2 := fun c o h => b c o (a c o h)
theorem Same.free {H H' : Hp} (e : Same H H') {l : Addr} (h : H' l = Option.none) : H l = Option.none := by
  cases q : H l with
  | none => rfl
  | some o =>
    rw [e l o q] at h
    cases h
theorem Same.seq {K : PySem.W.Frag} {H H' : Hp} {a : Addr} {xs : List V} (e : Same H H') (h : SqL K H a xs) : SqL K H' a xs := by
  rcases h with (h | ⟨o, h⟩) | h
  · exact .inl (.inl (e _ _ h))
  · exact .inl (.inr ⟨o, e _ _ h⟩)
  · exact .inr h
end L2
local macro_rules | `(tactic| omega) => `(tactic| lia)
namespace Bs.Hd
open PySem PySem.Spec PyProof.Rows L2
set_option maxRecDepth 100000
set_option maxHeartbeats 4000000
def top (i : Nat) : Stmt := PySem.Challenge.pw_backslope_k41_x_by_the_root.main.body.getD i (.Pass ⟨0, 0, 0, 0⟩)
abbrev s_common_divisor : Stmt := top 1
abbrev s_raised : Stmt := top 2
abbrev s_row_moved : Stmt := top 3
abbrev s_ratio : Stmt := top 5
abbrev s_minus : Stmt := top 6
abbrev s_times : Stmt := top 7
abbrev s_over : Stmt := top 8
abbrev s_power : Stmt := top 9
abbrev s_poly : Stmt := top 11
abbrev s_cleared : Stmt := top 12
abbrev s_uncleared : Stmt := top 13
abbrev s_p_at : Stmt := top 14
abbrev s_p_moved : Stmt := top 15
abbrev s_f_poly : Stmt := top 17
abbrev s_f_at : Stmt := top 18
abbrev s_x_of : Stmt := top 21
abbrev s_in_root : Stmt := top 22
abbrev s_stretched : Stmt := top 23
abbrev s_spread : Stmt := top 24
abbrev s_l_source : Stmt := top 26
abbrev s_l_take : Stmt := top 27
abbrev s_l_number : Stmt := top 28
abbrev s_l_kind : Stmt := top 29
abbrev s_l_is_number : Stmt := top 30
abbrev s_l_is_fraction : Stmt := top 31
abbrev s_l_lowest : Stmt := top 32
abbrev s_l_tall : Stmt := top 33
abbrev s_l_right : Stmt := top 34
abbrev s_law : Stmt := top 35
abbrev N : Value := .none
abbrev S (x : Str) (t : Tok) : Value := .str x t
abbrev I (i : Int) : Value := .int i 0
abbrev R (a : Addr) : Value := .ref a
def en (P : Params) (k : Str) (t : Tok) (v : Value) : DictEntry := ⟨PyData.keyHash P k, .str k t, v⟩
def cdO (n : Str) (t : Tok) (l c u : Int) (a : Addr) (b g d e f : Value) (x : Int) (y : Tok) : Obj := ⟨.type "code", none, .fields #[S n t, S n (t + 1), S "/claim/cut.py" (t + 2), I l, I c, I 0, I 0, I u, R a, .bool true, I 181, b, g, d, e, f, I x, I l, S "/claim/cut.py" y], #[]⟩
def fnO (n : Str) (s : Stmt) (pm : Value) (c : Addr) : Obj := ⟨.type "function", none, .func (PySem.W.fnOf n n (defArgs s) (defBody s) (defScope s) .none .none .none pm none (.ref c) .none), #[]⟩
abbrev mo0 : Value := S "backslope.wholes" 187
abbrev mo1 : Value := S "backslope.numbers" 219
abbrev mo2 : Value := S "backslope.polys" 264
abbrev mo3 : Value := S "backslope.fractions" 304
abbrev mo4 : Value := S "backslope.roots" 329
abbrev mo5 : Value := S "law_backslope_k41_x_by_the_root" 362
def hp (P : Params) : W.Frag := [
  (3, ⟨.type "dict", none, .dict #[en P "__name__" 165 (S "law_backslope_k41_x_by_the_root" 362), en P "__doc__" 166 N, en P "__package__" 167 N, en P "__loader__" 168 (.builtin "__main__.__loader__#opaque"), en P "__spec__" 169 N, en P "__annotations__" 170 (R 6), en P "__builtins__" 171 (R 4), en P "__file__" 173 (S "/claim/cut.py" 172), en P "__cached__" 174 N, en P "common_divisor" 197 (R 21), en P "raised" 207 (R 28), en P "row_moved" 218 (R 35), en P "ratio" 229 (R 42), en P "minus" 237 (R 49), en P "times" 245 (R 56), en P "over" 253 (R 63), en P "power" 263 (R 70), en P "poly" 273 (R 77), en P "cleared" 279 (R 82), en P "uncleared" 285 (R 87), en P "p_at" 297 (R 94), en P "p_moved" 303 (R 99), en P "f_poly" 312 (R 106), en P "f_at" 321 (R 113), en P "X" 328 (R 119), en P "x_of" 337 (R 126), en P "in_root" 345 (R 133), en P "stretched" 351 (R 138), en P "spread" 361 (R 145), en P "_law_source" 376 (R 152), en P "_law_take" 385 (R 159), en P "_law_number" 393 (R 166), en P "_law_kind" 401 (R 173), en P "_law_is_number" 409 (R 180), en P "_law_is_fraction" 415 (R 185), en P "_law_lowest" 425 (R 192), en P "_law_tall" 435 (R 199), en P "_law_right" 453 (R 206), en P "law" 463 (R 213)] 39, #[]⟩),
  (119, ⟨.type "tuple", none, .seq #[(R 116), (R 118)] 0, #[]⟩),
  (116, ⟨.type "tuple", none, .seq #[(R 114), (R 115)] 0, #[]⟩),
  (118, ⟨.type "tuple", none, .seq #[(R 117)] 0, #[]⟩),
  (114, ⟨.type "tuple", none, .seq #[(.int 0 322), (.int 1 323)] 0, #[]⟩),
  (115, ⟨.type "tuple", none, .seq #[(.int 1 324), (.int 1 325)] 0, #[]⟩),
  (117, ⟨.type "tuple", none, .seq #[(.int 1 326), (.int 1 327)] 0, #[]⟩),
  (20, cdO "common_divisor" 189 2 2 3 15 (R 16) N (R 17) (R 18) (R 19) 195 196),
  (21, fnO "common_divisor" (top 1) mo0 20),
  (27, cdO "raised" 198 8 2 3 22 (R 23) N (R 24) (R 25) (R 26) 205 206),
  (28, fnO "raised" (top 2) mo0 27),
  (34, cdO "row_moved" 208 18 2 3 29 (R 30) N (R 31) (R 32) (R 33) 216 217),
  (35, fnO "row_moved" (top 3) mo0 34),
  (41, cdO "ratio" 221 25 2 3 36 (R 37) N (R 38) (R 39) (R 40) 227 228),
  (42, fnO "ratio" (top 5) mo1 41),
  (48, cdO "minus" 230 30 2 3 43 (R 44) N (R 45) (R 46) (R 47) 235 236),
  (49, fnO "minus" (top 6) mo1 48),
  (55, cdO "times" 238 32 2 3 50 (R 51) N (R 52) (R 53) (R 54) 243 244),
  (56, fnO "times" (top 7) mo1 55),
  (62, cdO "over" 246 34 2 3 57 (R 58) N (R 59) (R 60) (R 61) 251 252),
  (63, fnO "over" (top 8) mo1 62),
  (69, cdO "power" 254 36 2 3 64 (R 65) N (R 66) (R 67) (R 68) 261 262),
  (70, fnO "power" (top 9) mo1 69),
  (76, cdO "poly" 266 45 1 3 71 (R 72) N (R 73) (R 74) (R 75) 271 272),
  (77, fnO "poly" (top 11) mo2 76),
  (81, cdO "cleared" 274 50 1 3 78 (R 79) N N N (R 80) 277 278),
  (82, fnO "cleared" (top 12) mo2 81),
  (86, cdO "uncleared" 280 55 2 3 83 (R 84) N N N (R 85) 283 284),
  (87, fnO "uncleared" (top 13) mo2 86),
  (93, cdO "p_at" 286 57 2 3 88 (R 89) N (R 90) (R 91) (R 92) 295 296),
  (94, fnO "p_at" (top 14) mo2 93),
  (98, cdO "p_moved" 298 65 2 3 95 (R 96) N N N (R 97) 301 302),
  (99, fnO "p_moved" (top 15) mo2 98),
  (105, cdO "f_poly" 306 75 1 3 100 (R 101) N (R 102) (R 103) (R 104) 310 311),
  (106, fnO "f_poly" (top 17) mo3 105),
  (112, cdO "f_at" 313 77 2 3 107 (R 108) N (R 109) (R 110) (R 111) 319 320),
  (113, fnO "f_at" (top 18) mo3 112),
  (125, cdO "x_of" 331 82 1 3 120 (R 121) N (R 122) (R 123) (R 124) 335 336),
  (126, fnO "x_of" (top 21) mo4 125),
  (132, cdO "in_root" 338 84 2 3 127 (R 128) N (R 129) (R 130) (R 131) 343 344),
  (133, fnO "in_root" (top 22) mo4 132),
  (137, cdO "stretched" 346 86 2 3 134 (R 135) N N N (R 136) 349 350),
  (138, fnO "stretched" (top 23) mo4 137),
  (144, cdO "spread" 352 88 2 3 139 (R 140) N (R 141) (R 142) (R 143) 359 360),
  (145, fnO "spread" (top 24) mo4 144),
  (151, cdO "_law_source" 364 94 2 3 146 (R 147) N (R 148) (R 149) (R 150) 374 375),
  (152, fnO "_law_source" (top 26) mo5 151),
  (158, cdO "_law_take" 377 107 2 3 153 (R 154) N (R 155) (R 156) (R 157) 383 384),
  (159, fnO "_law_take" (top 27) mo5 158),
  (165, cdO "_law_number" 386 113 1 3 160 (R 161) N (R 162) (R 163) (R 164) 391 392),
  (166, fnO "_law_number" (top 28) mo5 165),
  (172, cdO "_law_kind" 394 120 1 3 167 (R 168) N (R 169) (R 170) (R 171) 399 400),
  (173, fnO "_law_kind" (top 29) mo5 172),
  (179, cdO "_law_is_number" 402 125 1 3 174 (R 175) N (R 176) (R 177) (R 178) 407 408),
  (180, fnO "_law_is_number" (top 30) mo5 179),
  (184, cdO "_law_is_fraction" 410 132 1 3 181 (R 182) N N N (R 183) 413 414),
  (185, fnO "_law_is_fraction" (top 31) mo5 184),
  (191, cdO "_law_lowest" 416 139 2 3 186 (R 187) N (R 188) (R 189) (R 190) 423 424),
  (192, fnO "_law_lowest" (top 32) mo5 191),
  (198, cdO "_law_tall" 426 146 2 3 193 (R 194) N (R 195) (R 196) (R 197) 433 434),
  (199, fnO "_law_tall" (top 33) mo5 198),
  (205, cdO "_law_right" 436 151 2 3 200 (R 201) N (R 202) (R 203) (R 204) 451 452),
  (206, fnO "_law_right" (top 34) mo5 205),
  (212, cdO "law" 454 167 1 3 207 (R 208) N (R 209) (R 210) (R 211) 461 462),
  (213, fnO "law" (top 35) mo5 212)]
def as : List Addr := [3, 119, 116, 118, 114, 115, 117, 20, 21, 27, 28, 34, 35, 41, 42, 48, 49, 55, 56, 62, 63, 69, 70, 76, 77, 81, 82, 86, 87, 93, 94, 98, 99, 105, 106, 112, 113, 125, 126, 132, 133, 137, 138, 144, 145, 151, 152, 158, 159, 165, 166, 172, 173, 179, 180, 184, 185, 191, 192, 198, 199, 205, 206, 212, 213]
def vw : Program := PySem.W.view PySem.Challenge.pw_backslope_k41_x_by_the_root [1, 2, 3, 5, 6, 7, 8, 9, 11, 12, 13, 14, 15, 17, 18, 19, 21, 22, 23, 24, 26, 27, 28, 29, 30, 31, 32, 33, 34, 35]
def hk : PySem.W.Hook := PySem.W.kHook hp as (fun _ => by kernel_rfl)
theorem left : PySem.W.LeftO PySem.Challenge.pw_backslope_k41_x_by_the_root vw [] (fun s => PySem.W.xlAt vw [] s && PySem.W.recOk (PySem.W.RowW.records (PySem.W.OpenRow.toRowW (PySem.W.OpenLaw.row PySem.Challenge.rw_backslope_k41_x_by_the_root))) s) hk.obs hk.val 2058 := fun w => by kernel_rfl
end Bs.Hd
namespace Bs
def Bd (n : Nat) (x : Int) : Prop := x.natAbs < 2 ^ n
theorem Bd.mono {m n : Nat} {x : Int} (h : Bd m x) (hn : m ≤ n) : Bd n x := Nat.lt_of_lt_of_le h (Nat.pow_le_pow_right (by decide) hn)
theorem Bd.le {n : Nat} {x y : Int} (h : Bd n x) (hy : y.natAbs ≤ x.natAbs) : Bd n y := Nat.lt_of_le_of_lt hy h
theorem Bd.neg {n : Nat} {x : Int} (h : Bd n x) : Bd n (-x) := by unfold Bd at *; rw [Int.natAbs_neg]; exact h
theorem Bd.add {n : Nat} {x y : Int} (h : Bd n x) (h' : Bd n y) : Bd (n + 1) (x + y) := by
  unfold Bd at *
  have := Int.natAbs_add_le x y
  rw [Nat.pow_succ]
  omega
theorem Bd.mul {m n : Nat} {x y : Int} (h : Bd m x) (h' : Bd n y) : Bd (m + n) (x * y) := by
  unfold Bd at *
  rw [Int.natAbs_mul, Nat.pow_add]
  exact Nat.mul_lt_mul'' h h'
theorem bd64 {x : Int} (h1 : -18446744073709551616 < x) (h2 : x < 18446744073709551616) : Bd 64 x := by
  unfold Bd
  have : (2 : Nat) ^ 64 = 18446744073709551616 := by decide
  rw [this]; omega
theorem Bd.log2 {n : Nat} {x : Int} (h : Bd n x) (hn : 0 < n) : x.natAbs.log2 < n := by
  unfold Bd at h
  rcases Nat.eq_zero_or_pos x.natAbs with h0 | hp
  · rw [h0]; simpa using hn
  · exact (Nat.log2_lt (Nat.ne_of_gt hp)).mpr h
structure Low (t d : Int) : Prop where
  pos : 0 < d
  one : Int.gcd t d = 1
theorem gcd_fmod (a b : Int) : Int.gcd b (a.fmod b) = Int.gcd a b := by
  have e : a.fmod b = a - b * a.fdiv b := Int.fmod_def a b
  rw [e]
  apply Nat.dvd_antisymm
  · apply Int.dvd_gcd
    · have h1 := Int.gcd_dvd_left b (a - b * a.fdiv b)
      have h2 := Int.gcd_dvd_right b (a - b * a.fdiv b)
      have h3 := Int.dvd_add h2 (Int.dvd_mul_of_dvd_left (c := a.fdiv b) h1)
      rw [Int.sub_add_cancel] at h3
      exact h3
    · exact Int.gcd_dvd_left b _
  · apply Int.dvd_gcd
    · exact Int.gcd_dvd_right a b
    · exact Int.dvd_sub (Int.gcd_dvd_left a b) (Int.dvd_mul_of_dvd_left (Int.gcd_dvd_right a b))
theorem gcd_emod (a : Int) {b : Int} (h : 0 ≤ b) : Int.gcd b (a % b) = Int.gcd a b := by
  rw [← Int.fmod_eq_emod_of_nonneg a h, gcd_fmod]
theorem fmod_less (a : Int) {b : Int} (h : b ≠ 0) : (a.fmod b).natAbs < b.natAbs := by
  rcases Int.lt_or_gt_of_ne h with hb | hb
  · rw [Int.fmod_eq_emod]
    have h1 := Int.emod_nonneg a h
    have h2 := Int.emod_lt a h
    split
    · rename_i h'
      rcases h' with h' | h'
      · omega
      · have : a % b = 0 := Int.emod_eq_zero_of_dvd h'
        omega
    · rename_i h'
      have : a % b ≠ 0 := fun z => h' (.inr (Int.dvd_of_emod_eq_zero z))
      omega
  · rw [Int.fmod_eq_emod_of_nonneg a (Int.le_of_lt hb)]
    have h1 := Int.emod_nonneg a h
    have h2 := Int.emod_lt_of_pos a hb
    omega
theorem ratio_math {a b s : Int} (hb : b ≠ 0) (hs : s = if b < 0 then -((Int.gcd a b : Nat) : Int) else ((Int.gcd a b : Nat) : Int)) :
    s ≠ 0 ∧ s.natAbs ≤ b.natAbs ∧ Low (a.fdiv s) (b.fdiv s) ∧ a.fdiv s * b = a * b.fdiv s ∧ (a.fdiv s).natAbs ≤ a.natAbs ∧ (b.fdiv s).natAbs ≤ b.natAbs := by
  have g0 : 0 < Int.gcd a b := Int.gcd_pos_of_ne_zero_right a hb
  have sn : s.natAbs = Int.gcd a b := by rw [hs]; split <;> simp
  have s0 : s ≠ 0 := by intro z; rw [z] at sn; simp at sn; omega
  have da : s ∣ a := by
    rw [← Int.natAbs_dvd, sn]; exact Int.gcd_dvd_left a b
  have db : s ∣ b := by
    rw [← Int.natAbs_dvd, sn]; exact Int.gcd_dvd_right a b
  obtain ⟨t, rfl⟩ := da
  obtain ⟨d, rfl⟩ := db
  rw [Int.mul_fdiv_cancel_left _ s0, Int.mul_fdiv_cancel_left _ s0]
  have d0 : d ≠ 0 := by rintro rfl; simp at hb
  have sp : 1 ≤ s.natAbs := by omega
  have gd : Int.gcd t d = 1 := by
    rw [Int.gcd_mul_left] at sn
    have h2 : s.natAbs * Int.gcd t d = s.natAbs * 1 := by omega
    exact Nat.eq_of_mul_eq_mul_left sp h2
  have dp : 0 < d := by
    by_cases h : s * d < 0
    · rw [if_pos h] at hs
      have sneg : s < 0 := by omega
      rcases Int.lt_or_gt_of_ne d0 with h' | h'
      · have := Int.mul_pos_of_neg_of_neg sneg h'; omega
      · exact h'
    · rw [if_neg h] at hs
      have spos : 0 < s := by omega
      rcases Int.lt_or_gt_of_ne d0 with h' | h'
      · have := Int.mul_neg_of_pos_of_neg spos h'; omega
      · exact h'
  have le1 : ∀ y : Int, y.natAbs ≤ (s * y).natAbs := fun y => by
    rw [Int.natAbs_mul]; exact Nat.le_mul_of_pos_left _ sp
  refine ⟨s0, ?_, ⟨dp, gd⟩, ?_, le1 t, le1 d⟩
  · rw [Int.natAbs_mul]; exact Nat.le_mul_of_pos_right _ (by omega)
  · grind
theorem lowest_math {a b : Int} (hb : 0 < b) : Low (a / ((Int.gcd a b : Nat) : Int)) (b / ((Int.gcd a b : Nat) : Int)) ∧ (a / ((Int.gcd a b : Nat) : Int)).natAbs ≤ a.natAbs ∧ (b / ((Int.gcd a b : Nat) : Int)).natAbs ≤ b.natAbs ∧ 0 < ((Int.gcd a b : Nat) : Int) ∧ ((Int.gcd a b : Nat) : Int) ≤ b := by
  have g0 : 0 < Int.gcd a b := Int.gcd_pos_of_ne_zero_right a (by omega)
  obtain ⟨_, h1, h2, h3, h4, h5⟩ := ratio_math (a := a) (b := b) (s := ((Int.gcd a b : Nat) : Int)) (by omega) (by rw [if_neg (by omega)])
  rw [Int.fdiv_eq_ediv_of_nonneg _ (by omega), Int.fdiv_eq_ediv_of_nonneg _ (by omega)] at h2
  rw [Int.fdiv_eq_ediv_of_nonneg _ (by omega)] at h4 h5
  exact ⟨h2, h4, h5, by omega, by omega⟩
end Bs
namespace Bs
open PySem L2
def DivP (_ j : Int) : Prop := 0 < j ∧ Bd 9000 j
def DivN (_ j : Int) : Prop := j ≠ 0 ∧ Bd 9000 j
def PowOk (i j : Int) : Prop := 0 ≤ j ∧ j ≤ 1000000 ∧ i.natAbs < 2 ^ 64
abbrev iAdd : R2 := rI0 fun i j => .int (i + j)
abbrev iSub : R2 := rI0 fun i j => .int (i - j)
abbrev iMul : R2 := rI IntMulOk fun i j => .int (i * j)
abbrev iDivP : R2 := rI DivP fun i j => .int (i / j)
abbrev iDivN : R2 := rI DivN fun i j => .int (i.fdiv j)
abbrev iMod : R2 := rI (fun _ j => 0 < j) fun i j => .int (i % j)
abbrev iModN : R2 := rI (fun _ j => j ≠ 0) fun i j => .int (i.fmod j)
abbrev iPow : R2 := rI PowOk fun i j => .int (i ^ j.toNat)
abbrev iLt : R2 := rI0 fun i j => .bl (decide (i < j))
abbrev iLe : R2 := rI0 fun i j => .bl (decide (i ≤ j))
abbrev iGt : R2 := rI0 fun i j => .bl (decide (j < i))
abbrev iGe : R2 := rI0 fun i j => .bl (decide (j ≤ i))
abbrev uNeg : V → Hp → VK → Prop := rU fun i => .int (-i)
def gT : R2 := fun x y H Q => ∃ p i xs v, x = .ref p ∧ y = .int i ∧ H p = some (.tup xs) ∧ atI xs i = some v ∧ Q v H
def gL : R2 := fun x y H Q => ∃ p i xs v, x = .ref p ∧ y = .int i ∧ H p = some (.lst xs) ∧ atI xs i = some v ∧ Q v H
def gS (K : W.Frag) : R2 := fun x y H Q => ∃ p i xs v, x = .ref p ∧ y = .int i ∧ SqL K H p xs ∧ atI xs i = some v ∧ Q v H
def bAbs : List V → Hp → VK → Prop := fun xs H Q => ∃ i, xs = [.int i] ∧ Q (.int (if i < 0 then -i else i)) H
def bMax : List V → Hp → VK → Prop := fun xs H Q => ∃ i j, xs = [.int i, .int j] ∧ Q (.int (if j > i then j else i)) H
def bMin : List V → Hp → VK → Prop := fun xs H Q => ∃ i j, xs = [.int i, .int j] ∧ Q (.int (if j < i then j else i)) H
def bIntB : List V → Hp → VK → Prop := fun xs H Q => ∃ k, xs = [.bl k] ∧ Q (.int (if k = true then 1 else 0)) H
def bLenT : List V → Hp → VK → Prop := fun xs H Q => ∃ p ys, xs = [.ref p] ∧ H p = some (.tup ys) ∧ Q (.int ys.length) H
def bLenL : List V → Hp → VK → Prop := fun xs H Q => ∃ p ys, xs = [.ref p] ∧ H p = some (.lst ys) ∧ Q (.int ys.length) H
def bLenS (K : W.Frag) : List V → Hp → VK → Prop := fun xs H Q => ∃ p ys, xs = [.ref p] ∧ SqL K H p ys ∧ Q (.int ys.length) H
def isiO : Option HO → String → Option Bool
  | some (.tup _), n => if n = "tuple" then some true else if n = "bool" ∨ n = "int" ∨ n = "list" then some false else none
  | some (.lst _), n => if n = "list" then some true else if n = "bool" ∨ n = "int" ∨ n = "tuple" then some false else none
  | _, _ => none
def isiV (H : Hp) : V → String → Option Bool
  | .int _, n => if n = "int" then some true else if n = "bool" ∨ n = "tuple" ∨ n = "list" then some false else none
  | .bl _, n => if n = "int" ∨ n = "bool" then some true else if n = "tuple" ∨ n = "list" then some false else none
  | .ref p, n => isiO (H p) n
  | _, _ => none
def bIsi : List V → Hp → VK → Prop := fun xs H Q => ∃ x n b, xs = [x, .ty n] ∧ isiV H x n = some b ∧ Q (.bl b) H
theorem isi_int (H : Hp) (i : Int) : isiV H (.int i) "int" = some true := rfl
theorem isi_int_bool (H : Hp) (i : Int) : isiV H (.int i) "bool" = some false := rfl
theorem isi_bl (H : Hp) (b : Bool) : isiV H (.bl b) "bool" = some true := rfl
theorem isi_tup {H : Hp} {p : Addr} {xs : List V} (h : H p = some (.tup xs)) : isiV H (.ref p) "tuple" = some true := by
  show isiO (H p) "tuple" = _
  rw [h]; rfl
def intV : V → Bool
  | .int _ => true
  | _ => false
def eqT : R2 := fun x y H Q => ∃ a b xs ys, x = .ref a ∧ y = .ref b ∧ H a = some (.tup xs) ∧ H b = some (.tup ys) ∧ xs.all intV = true ∧ ys.all intV = true ∧ Q (.bl (decide (xs = ys))) H
def ForR (lo : Int) (n : Nat) (g : TG) (tb : TS) (D : Ends) (σ : St) (H : Hp) : Prop := ∃ W : Nat → Nat → St → Hp → Prop, (∃ m, W 0 m σ H) ∧ ∀ i m σ H, W i m σ H →
  ((Itr lo n).stop i H ∧ D.nx σ H) ∨ ((Itr lo n).go i H ∧ ∃ N : St → Hp → Prop, (∀ σ' H', N σ' H' → ∃ m', m' < m ∧ W (i + 1) m' σ' H') ∧ ∀ x H', (Itr lo n).yld i H x H' → g x σ H' fun σ2 H2 => tb { D with nx := N, ct := N, bk := D.nx } σ2 H2)
theorem tFor_r1 {ta : TA} {g : TG} {tb : TS} {D : Ends} {σ : St} {H : Hp} : tFor (iRng1 ta) g tb D σ H = ta σ H (fun vs H1 => ∃ j : Int, vs = [.int j] ∧ -(2 ^ 62) ≤ j ∧ j < 2 ^ 62 ∧ ForR 0 j.toNat g tb D σ H1) := rfl
theorem tFor_r2 {ta : TA} {g : TG} {tb : TS} {D : Ends} {σ : St} {H : Hp} : tFor (iRng2 ta) g tb D σ H = ta σ H (fun vs H1 => ∃ i j : Int, vs = [.int i, .int j] ∧ (-(2 ^ 62) ≤ i ∧ i < 2 ^ 62 ∧ -(2 ^ 62) ≤ j ∧ j < 2 ^ 62) ∧ ForR i (j - i).toNat g tb D σ H1) := rfl
theorem ForR.by {lo : Int} {n : Nat} {g : TG} {tb : TS} {D : Ends} {σ : St} {H : Hp} (Pv : Nat → St → Hp → Prop) (h0 : Pv 0 σ H)
    (hs : ∀ i σ H, i < n → Pv i σ H → g (.int (lo + i)) σ H fun σ2 H2 => tb { D with nx := Pv (i + 1), ct := Pv (i + 1), bk := D.nx } σ2 H2) (hd : ∀ σ H, Pv n σ H → D.nx σ H) : ForR lo n g tb D σ H := for_range Pv h0 hs hd
def ForT (K : W.Frag) (a : Addr) (g : TG) (tb : TS) (D : Ends) (σ : St) (H : Hp) : Prop := ∃ W : Nat → Nat → St → Hp → Prop, (∃ m, W 0 m σ H) ∧ ∀ i m σ H, W i m σ H →
  ((Itt K a).stop i H ∧ D.nx σ H) ∨ ((Itt K a).go i H ∧ ∃ N : St → Hp → Prop, (∀ σ' H', N σ' H' → ∃ m', m' < m ∧ W (i + 1) m' σ' H') ∧ ∀ x H', (Itt K a).yld i H x H' → g x σ H' fun σ2 H2 => tb { D with nx := N, ct := N, bk := D.nx } σ2 H2)
def ForL (K : W.Frag) (a : Addr) (g : TG) (tb : TS) (D : Ends) (σ : St) (H : Hp) : Prop := ∃ W : Nat → Nat → St → Hp → Prop, (∃ m, W 0 m σ H) ∧ ∀ i m σ H, W i m σ H →
  ((Itl K a).stop i H ∧ D.nx σ H) ∨ ((Itl K a).go i H ∧ ∃ N : St → Hp → Prop, (∀ σ' H', N σ' H' → ∃ m', m' < m ∧ W (i + 1) m' σ' H') ∧ ∀ x H', (Itl K a).yld i H x H' → g x σ H' fun σ2 H2 => tb { D with nx := N, ct := N, bk := D.nx } σ2 H2)
theorem tFor_t {K : W.Frag} {tl : TE} {g : TG} {tb : TS} {D : Ends} {σ : St} {H : Hp} : tFor (iTup K tl) g tb D σ H = tl σ H (fun x H1 => ∃ a, x = .ref a ∧ (∃ xs, SqT K H1 a xs) ∧ ForT K a g tb D σ H1) := rfl
theorem tFor_l {K : W.Frag} {tl : TE} {g : TG} {tb : TS} {D : Ends} {σ : St} {H : Hp} : tFor (iList K tl) g tb D σ H = tl σ H (fun x H1 => ∃ a, x = .ref a ∧ (∃ xs, SqL K H1 a xs) ∧ ForL K a g tb D σ H1) := rfl
theorem ForT.by {K : W.Frag} {a : Addr} {xs : List V} {g : TG} {tb : TS} {D : Ends} {σ : St} {H : Hp} (Pv : Nat → St → Hp → Prop) (h0 : Pv 0 σ H) (hl : ∀ i σ H, i ≤ xs.length → Pv i σ H → H a = some (.tup xs))
    (hs : ∀ i x σ H, xs[i]? = some x → Pv i σ H → g x σ H fun σ2 H2 => tb { D with nx := Pv (i + 1), ct := Pv (i + 1), bk := D.nx } σ2 H2) (hd : ∀ σ H, Pv xs.length σ H → D.nx σ H) : ForT K a g tb D σ H :=
  for_tup Pv h0 (fun i σ H h p => SqT.of (hl i σ H h p)) hs hd
theorem ForL.by {K : W.Frag} {a : Addr} {xs : List V} {g : TG} {tb : TS} {D : Ends} {σ : St} {H : Hp} (Pv : Nat → St → Hp → Prop) (h0 : Pv 0 σ H) (hl : ∀ i σ H, i ≤ xs.length → Pv i σ H → SqL K H a xs)
    (hs : ∀ i x σ H, xs[i]? = some x → Pv i σ H → g x σ H fun σ2 H2 => tb { D with nx := Pv (i + 1), ct := Pv (i + 1), bk := D.nx } σ2 H2) (hd : ∀ σ H, Pv xs.length σ H → D.nx σ H) : ForL K a g tb D σ H :=
  for_list Pv h0 hl hs hd
theorem while_by {c : TT} {tb : TS} {D : Ends} {σ : St} {H : Hp} (W : Nat → St → Hp → Prop) (m : Nat) (h0 : W m σ H)
    (hs : ∀ m σ H, W m σ H → c σ H fun b H1 => if b = true then ∃ N : St → Hp → Prop, (∀ σ' H', N σ' H' → ∃ m', m' < m ∧ W m' σ' H') ∧ tb { D with nx := N, ct := N, bk := D.nx } σ H1 else D.nx σ H1) : tWhile c tb D σ H := ⟨W, ⟨m, h0⟩, hs⟩
def Kp (p : Addr) (H H' : Hp) : Prop := ∀ b o, b ≠ p → H b = some o → H' b = some o
theorem Kp.trans {p : Addr} {H H1 H2 : Hp} (a : Kp p H H1) (b : Kp p H1 H2) : Kp p H H2 := fun c o n h => b c o n (a c o n h)
theorem Kp.same {p : Addr} {H H1 H2 : Hp} (a : Kp p H H1) (b : Same H1 H2) : Kp p H H2 := fun c o n h => b c o (a c o n h)
theorem Kp.of_same {p : Addr} {H H1 : Hp} (b : Same H H1) : Kp p H H1 := fun c o _ h => b c o h
theorem Kp.upd {p : Addr} {H : Hp} {o : HO} : Kp p H (upd H p o) := fun b u n h => by rw [upd_ne n]; exact h
theorem same_new {H : Hp} {p : Addr} (h : H p = none) (o : HO) : Same H (upd H p o) := fun b u q => by rw [upd_ne (ne_of_none q h)]; exact q
theorem Kp.new {p : Addr} {H H1 : Hp} (a : Kp p H H1) (h : H p = none) : Same H H1 := fun b o q => a b o (ne_of_none q h) q
theorem Kp.seq {K : W.Frag} {p : Addr} {H H' : Hp} {a : Addr} {xs : List V} (e : Kp p H H') (n : a ≠ p) (h : SqL K H a xs) : SqL K H' a xs := by
  rcases h with (h | ⟨o, h⟩) | h
  · exact .inl (.inl (e _ _ n h))
  · exact .inl (.inr ⟨o, e _ _ n h⟩)
  · exact .inr h
theorem sz {n : Nat} (h : n ≤ 1000000) : n ≤ sizeLine := by rw [sizeLine_eq]; omega
end Bs
namespace Bs
open PySem L2
theorem atI_two0 {α : Type} (a b : α) : atI [a, b] 0 = some a := rfl
theorem atI_two1 {α : Type} (a b : α) : atI [a, b] 1 = some b := rfl
theorem atI_three0 {α : Type} (a b c : α) : atI [a, b, c] 0 = some a := rfl
theorem atI_three1 {α : Type} (a b c : α) : atI [a, b, c] 1 = some b := rfl
theorem atI_three2 {α : Type} (a b c : α) : atI [a, b, c] 2 = some c := rfl
theorem scal_ii (a b : Int) : scal (.int a) (.int b) = true := rfl
theorem scal_bb (a b : Bool) : scal (.bl a) (.bl b) = true := rfl
theorem ixN_three0 : ixN 3 0 = some 0 := rfl
theorem ixN_three2 : ixN 3 2 = some 2 := rfl
end Bs
namespace Bs
open PySem PySem.Spec PyProof.Rows L2
theorem bt_abs : bootBuiltins "abs" = some (.builtin "abs") := by decide +kernel
theorem bt_len : bootBuiltins "len" = some (.builtin "len") := by decide +kernel
theorem bt_isinstance : bootBuiltins "isinstance" = some (.builtin "isinstance") := by decide +kernel
theorem bt_all : bootBuiltins "all" = some (.builtin "all") := by decide +kernel
theorem bt_sum : bootBuiltins "sum" = some (.builtin "sum") := by decide +kernel
theorem bt_int : bootBuiltins "int" = some (.type "int") := by decide +kernel
theorem bt_bool : bootBuiltins "bool" = some (.type "bool") := by decide +kernel
theorem bt_tuple : bootBuiltins "tuple" = some (.type "tuple") := by decide +kernel
theorem bt_list : bootBuiltins "list" = some (.type "list") := by decide +kernel
theorem bt_enumerate : bootBuiltins "enumerate" = some (.type "enumerate") := by decide +kernel
theorem bt_reversed : bootBuiltins "reversed" = some (.type "reversed") := by decide +kernel
section
variable {X : Cx}
theorem bits_le {n : Nat} {x : Int} (h : Bd n x) : Builtin.Int.intBits x ≤ n := by
  unfold Builtin.Int.intBits
  split
  · exact Nat.zero_le _
  · rename_i h0
    have hn : x.natAbs ≠ 0 := fun z => h0 (by have e : x = 0 := by omega
                                              subst e; rfl)
    have := (Nat.log2_lt hn).mpr h
    omega
theorem mulOkB {m n : Nat} {a b : Int} (ha : Bd m a) (hb : Bd n b) (hm : m ≤ 2 ^ 20) (hn : n ≤ 2 ^ 20) : IntMulOk a b := IntMulOk.of_bits (Nat.le_trans (bits_le ha) hm) (Nat.le_trans (bits_le hb) hn)
theorem op_mulB : OpR X (binaryOp .Mult) iMul := opI fun _ _ _ _ _ _ _ hc q => mul_int q hc
theorem iop_mulB : OpR X (inplaceOp .Mult) iMul := opI fun _ _ _ _ _ _ _ hc q => imul_int q hc
theorem op_fdivP : OpR X (binaryOp .FloorDiv) iDivP := opI fun i j _ _ _ _ _ hc q => by
  refine floordiv_int (Int.ne_of_gt hc.1) ?_ (.inl (PyProof.noPylong_of_log2 (hc.2.log2 (by decide))))
  rw [Int.fdiv_eq_ediv_of_nonneg i (Int.le_of_lt hc.1)]
  exact q
theorem op_fdivM : OpR X (binaryOp .FloorDiv) iDivN := opI fun _ _ _ _ _ _ _ hc q => floordiv_int hc.1 q (.inl (PyProof.noPylong_of_log2 (hc.2.log2 (by decide))))
theorem op_powB : OpR X (binaryOp .Pow) iPow := opI fun _ _ _ _ _ _ _ hc q => pow_int_small hc.1 hc.2.1 hc.2.2 q
theorem ix_tupH : IxR X gT := by
  intro value slice pins s σ H x y v u Q I rx ry h hs
  obtain ⟨p, i, xs, w, e1, e2, hp, ha, q⟩ := h
  exact ix_tup value slice pins s σ H x y v u Q I rx ry ⟨p, xs, i, w, e1, e2, SqT.of hp, ha, q⟩ hs
theorem ix_lstH : IxR X gL := by
  intro value slice pins s σ H x y v u Q I rx ry h hs
  obtain ⟨p, i, xs, w, e1, e2, hp, ha, q⟩ := h
  exact ix_list value slice pins s σ H x y v u Q I rx ry ⟨p, xs, i, w, e1, e2, SqL.of hp, ha, q⟩ hs
theorem ix_script : IxR X (gS X.K) := by
  intro value slice pins s σ H x y v u Q I rx ry h hs
  obtain ⟨p, i, xs, w, e1, e2, hp, ha, q⟩ := h
  exact ix_list value slice pins s σ H x y v u Q I rx ry ⟨p, xs, i, w, e1, e2, hp, ha, q⟩ hs
theorem call_absB : CallR X (.builtin "abs") bAbs := call_abs
theorem call_lenT : CallR X (.builtin "len") bLenT := fun pins s σ H xs us Q I r h => by
  obtain ⟨p, ys, e, hp, q⟩ := h
  exact call_len_seq pins s σ H xs us Q I r ⟨p, ys, e, .inr (SqT.of hp), q⟩
theorem call_lenL : CallR X (.builtin "len") bLenL := fun pins s σ H xs us Q I r h => by
  obtain ⟨p, ys, e, hp, q⟩ := h
  exact call_len_seq pins s σ H xs us Q I r ⟨p, ys, e, .inl (SqL.of hp), q⟩
theorem call_lenS : CallR X (.builtin "len") (bLenS X.K) := fun pins s σ H xs us Q I r h => by
  obtain ⟨p, ys, e, hp, q⟩ := h
  exact call_len_seq pins s σ H xs us Q I r ⟨p, ys, e, .inl hp, q⟩
theorem kit_ib (K : W.Frag) : PySem.W.kitOne K (.type "int") (.type "bool") = some false := by kernel_rfl
theorem kit_it (K : W.Frag) : PySem.W.kitOne K (.type "int") (.type "tuple") = some false := by kernel_rfl
theorem kit_il (K : W.Frag) : PySem.W.kitOne K (.type "int") (.type "list") = some false := by kernel_rfl
theorem kit_bi (K : W.Frag) : PySem.W.kitOne K (.type "bool") (.type "int") = some true := by kernel_rfl
theorem kit_bt (K : W.Frag) : PySem.W.kitOne K (.type "bool") (.type "tuple") = some false := by kernel_rfl
theorem kit_bl (K : W.Frag) : PySem.W.kitOne K (.type "bool") (.type "list") = some false := by kernel_rfl
theorem kit_tb (K : W.Frag) : PySem.W.kitOne K (.type "tuple") (.type "bool") = some false := by kernel_rfl
theorem kit_ti (K : W.Frag) : PySem.W.kitOne K (.type "tuple") (.type "int") = some false := by kernel_rfl
theorem kit_tl (K : W.Frag) : PySem.W.kitOne K (.type "tuple") (.type "list") = some false := by kernel_rfl
theorem kit_lb (K : W.Frag) : PySem.W.kitOne K (.type "list") (.type "bool") = some false := by kernel_rfl
theorem kit_li (K : W.Frag) : PySem.W.kitOne K (.type "list") (.type "int") = some false := by kernel_rfl
theorem kit_lt (K : W.Frag) : PySem.W.kitOne K (.type "list") (.type "tuple") = some false := by kernel_rfl
theorem kit_same (K : W.Frag) (n : String) : PySem.W.kitOne K (.type n) (.type n) = some true := by
  unfold PySem.W.kitOne
  rw [if_pos (beq_self_eq_true _)]
theorem isiV_ok {H : Hp} {x : V} {n : String} {b : Bool} (K : W.Frag) (h : isiV H x n = some b) : ∃ t, TyOf K H x t ∧ PySem.W.kitOne K t (.type n) = some b := by
  cases x with
  | int i =>
    refine ⟨_, .int i, ?_⟩
    unfold isiV at h
    dsimp only at h
    split at h
    · rename_i e; cases h; subst e; exact kit_same K _
    · split at h
      · rename_i e; cases h
        rcases e with rfl | rfl | rfl
        · exact kit_ib K
        · exact kit_it K
        · exact kit_il K
      · cases h
  | bl i =>
    refine ⟨_, .bl i, ?_⟩
    unfold isiV at h
    dsimp only at h
    split at h
    · rename_i e; cases h
      rcases e with rfl | rfl
      · exact kit_bi K
      · exact kit_same K _
    · split at h
      · rename_i e; cases h
        rcases e with rfl | rfl
        · exact kit_bt K
        · exact kit_bl K
      · cases h
  | ref p =>
    have h' : isiO (H p) n = some b := h
    cases e : H p with
    | none => rw [e] at h'; cases h'
    | some o =>
      rw [e] at h'
      cases o with
      | tup xs =>
        refine ⟨_, .tup e, ?_⟩
        unfold isiO at h'
        dsimp only at h'
        split at h'
        · rename_i e; cases h'; subst e; exact kit_same K _
        · split at h'
          · rename_i e; cases h'
            rcases e with rfl | rfl | rfl
            · exact kit_tb K
            · exact kit_ti K
            · exact kit_tl K
          · cases h'
      | lst xs =>
        refine ⟨_, .lst e, ?_⟩
        unfold isiO at h'
        dsimp only at h'
        split at h'
        · rename_i e; cases h'; subst e; exact kit_same K _
        · split at h'
          · rename_i e; cases h'
            rcases e with rfl | rfl | rfl
            · exact kit_lb K
            · exact kit_li K
            · exact kit_lt K
          · cases h'
      | _ => cases h'
  | _ => cases h
theorem call_isi : CallR X (.builtin "isinstance") bIsi := fun pins s σ H xs us Q I r h => by
  obtain ⟨x, n, b, rfl, e, q⟩ := h
  obtain ⟨u, w', rfl, rx, rn⟩ := vals2 r
  have rn' : w' = Value.type n := rn
  subst rn'
  obtain ⟨t, ty, k⟩ := isiV_ok X.K e
  exact isinst_ok I rx ty k fun tk => ⟨.bl b, H, I.tok tk, rfl, q⟩
end
structure Cal (P : Program) (w : World) (K : W.Frag) (mg : Str → Option Value) (base : Heap) (n : Nat) (x : Str) (ps : List Str) (sp : Sp) : Prop where
  ex : ∃ (f : Addr) (fd : FuncData), FnOk P w K mg base CX0 n f fd ps sp ∧ Binds K fd ps [] ∧ PySem.W.keepIn K (.ref f) = true ∧ mg x = some (.ref f)
theorem Cal.pe {X : Cx} {n m : Nat} {x : Str} {ps : List Str} {sp : Sp} {e : Expr} {es : List Expr} {t : TA} {p pos : Pos} (C : Cal X.prog X.w X.K X.mg X.base n x ps sp) (hr : Room m X.A) (hn : n ≤ m) (hg : Gl X x) (ha : PA X (e :: es) t)
    (hdb : (x == ("__debug__" : Str)) = false := by decide) (he : starEach (e :: es) X.env = (false, eval e X.env) :: starEach es X.env := by rfl) (hpl : (backTo pos (starEach es X.env)).any (·.1) = false := by rfl) :
    PE X (.Call (.Name x p) (e :: es) [] pos) (tCall sp [] E0 t) := by
  obtain ⟨f, fd, F, b, k, m⟩ := C.ex
  exact pe_call F (hr.mono hn) hg m k b .nil pass0 ha hdb he hpl
end Bs
namespace Bs
open PySem L2
def blkSt (capt : List (Option Nat)) (σ : L2.St) : L2.St := capt.map fun o => o.bind fun j => (σ[j]?).join
def tComp (wi : TI) (capt : List (Option Nat)) (g : TG) (te : TE) : TE := fun σ H Q => wi σ H fun J H1 => ∃ (n : Nat) (W : Nat → List V → Hp → Prop), W 0 [] H1 ∧ ∀ i ys H, W i ys H → i ≤ n ∧ ys.length ≤ sizeLine ∧
  ((J.stop i H ∧ ∀ p, H p = none → Q (.ref p) (upd H p (.lst ys))) ∨ (i < n ∧ J.go i H ∧ ∀ x H', J.yld i H x H' → g x (blkSt capt σ) H' fun σ2 H2 => te σ2 H2 fun y H3 => W (i + 1) (ys ++ [y]) H3))
def CompJ (J : It) (capt : List (Option Nat)) (g : TG) (te : TE) (σ : L2.St) (Q : VK) (H1 : Hp) : Prop := ∃ (n : Nat) (W : Nat → List V → Hp → Prop), W 0 [] H1 ∧ ∀ i ys H, W i ys H → i ≤ n ∧ ys.length ≤ sizeLine ∧
  ((J.stop i H ∧ ∀ p, H p = none → Q (.ref p) (upd H p (.lst ys))) ∨ (i < n ∧ J.go i H ∧ ∀ x H', J.yld i H x H' → g x (blkSt capt σ) H' fun σ2 H2 => te σ2 H2 fun y H3 => W (i + 1) (ys ++ [y]) H3))
section
variable {K : W.Frag} {ta : TA} {tl : TE} {capt : List (Option Nat)} {g : TG} {te : TE} {σ : L2.St} {H : Hp} {Q : VK}
theorem tComp_r1 : tComp (iRng1 ta) capt g te σ H Q = ta σ H (fun vs H1 => ∃ j : Int, vs = [.int j] ∧ -(2 ^ 62) ≤ j ∧ j < 2 ^ 62 ∧ CompJ (Itr 0 j.toNat) capt g te σ Q H1) := rfl
theorem tComp_r2 : tComp (iRng2 ta) capt g te σ H Q = ta σ H (fun vs H1 => ∃ i j : Int, vs = [.int i, .int j] ∧ (-(2 ^ 62) ≤ i ∧ i < 2 ^ 62 ∧ -(2 ^ 62) ≤ j ∧ j < 2 ^ 62) ∧ CompJ (Itr i (j - i).toNat) capt g te σ Q H1) := rfl
theorem tComp_t : tComp (iTup K tl) capt g te σ H Q = tl σ H (fun x H1 => ∃ a, x = .ref a ∧ (∃ xs, SqT K H1 a xs) ∧ CompJ (Itt K a) capt g te σ Q H1) := rfl
theorem tComp_l : tComp (iList K tl) capt g te σ H Q = tl σ H (fun x H1 => ∃ a, x = .ref a ∧ (∃ xs, SqL K H1 a xs) ∧ CompJ (Itl K a) capt g te σ Q H1) := rfl
theorem CompJ.range {lo : Int} {n : Nat} (W : Nat → List V → Hp → Prop) (h0 : W 0 [] H) (hb : ∀ i ys H, W i ys H → i ≤ n ∧ ys.length ≤ sizeLine)
    (hs : ∀ i ys H, i < n → W i ys H → g (.int (lo + i)) (blkSt capt σ) H fun σ2 H2 => te σ2 H2 fun y H3 => W (i + 1) (ys ++ [y]) H3) (hd : ∀ ys H, W n ys H → ∀ p, H p = none → Q (.ref p) (upd H p (.lst ys))) : CompJ (Itr lo n) capt g te σ Q H := by
  refine ⟨n, W, h0, fun i ys H w => ⟨(hb i ys H w).1, (hb i ys H w).2, ?_⟩⟩
  by_cases h : i < n
  · refine .inr ⟨h, h, fun x H' y => ?_⟩
    obtain ⟨e, y⟩ := y
    subst e y
    exact hs i ys _ h w
  · have e : i = n := Nat.le_antisymm (hb i ys H w).1 (Nat.not_lt.mp h)
    subst e
    exact .inl ⟨Nat.le_refl _, hd ys H w⟩
theorem CompJ.tup {a : Addr} {xs : List V} (W : Nat → List V → Hp → Prop) (h0 : W 0 [] H) (hb : ∀ i ys H, W i ys H → i ≤ xs.length ∧ ys.length ≤ sizeLine ∧ H a = some (.tup xs))
    (hs : ∀ i x ys H, xs[i]? = some x → W i ys H → g x (blkSt capt σ) H fun σ2 H2 => te σ2 H2 fun y H3 => W (i + 1) (ys ++ [y]) H3) (hd : ∀ ys H, W xs.length ys H → ∀ p, H p = none → Q (.ref p) (upd H p (.lst ys))) : CompJ (Itt K a) capt g te σ Q H := by
  refine ⟨xs.length, W, h0, fun i ys H w => ⟨(hb i ys H w).1, (hb i ys H w).2.1, ?_⟩⟩
  have q : SqT K H a xs := SqT.of (hb i ys H w).2.2
  by_cases h : i < xs.length
  · refine .inr ⟨h, ⟨xs, xs[i], q, by simp [h]⟩, fun x H' y => ?_⟩
    obtain ⟨e, y⟩ := y
    subst e
    exact hs i x ys _ (y xs q) w
  · have e : i = xs.length := Nat.le_antisymm (hb i ys H w).1 (Nat.not_lt.mp h)
    subst e
    exact .inl ⟨⟨xs, q, Nat.le_refl _⟩, hd ys H w⟩
theorem CompJ.lst {a : Addr} {xs : List V} (W : Nat → List V → Hp → Prop) (h0 : W 0 [] H) (hb : ∀ i ys H, W i ys H → i ≤ xs.length ∧ ys.length ≤ sizeLine ∧ SqL K H a xs)
    (hs : ∀ i x ys H, xs[i]? = some x → W i ys H → g x (blkSt capt σ) H fun σ2 H2 => te σ2 H2 fun y H3 => W (i + 1) (ys ++ [y]) H3) (hd : ∀ ys H, W xs.length ys H → ∀ p, H p = none → Q (.ref p) (upd H p (.lst ys))) : CompJ (Itl K a) capt g te σ Q H := by
  refine ⟨xs.length, W, h0, fun i ys H w => ⟨(hb i ys H w).1, (hb i ys H w).2.1, ?_⟩⟩
  have q : SqL K H a xs := (hb i ys H w).2.2
  by_cases h : i < xs.length
  · refine .inr ⟨h, ⟨xs, xs[i], q, by simp [h]⟩, fun x H' y => ?_⟩
    obtain ⟨e, y⟩ := y
    subst e
    exact hs i x ys _ (y xs q) w
  · have e : i = xs.length := Nat.le_antisymm (hb i ys H w).1 (Nat.not_lt.mp h)
    subst e
    exact .inl ⟨⟨xs, q, Nat.le_refl _⟩, hd ys H w⟩
end
def IteL (K : W.Frag) (a : Addr) : It :=
  ⟨fun i H => ∃ xs x, SqL K H a xs ∧ xs[i]? = some x, fun i H v H' => ∃ p x, H p = none ∧ v = .ref p ∧ H' = upd H p (.tup [.int i, x]) ∧ ∀ xs, SqL K H a xs → xs[i]? = some x, fun i H => ∃ xs, SqL K H a xs ∧ xs.length ≤ i⟩
def IteT (K : W.Frag) (a : Addr) : It :=
  ⟨fun i H => ∃ xs x, SqT K H a xs ∧ xs[i]? = some x, fun i H v H' => ∃ p x, H p = none ∧ v = .ref p ∧ H' = upd H p (.tup [.int i, x]) ∧ ∀ xs, SqT K H a xs → xs[i]? = some x, fun i H => ∃ xs, SqT K H a xs ∧ xs.length ≤ i⟩
def iEnumL (K : W.Frag) (ta : TA) : TI := fun σ H R => ta σ H fun vs H1 => ∃ a, vs = [.ref a] ∧ (∃ xs, SqL K H1 a xs) ∧ R (IteL K a) H1
def iEnumT (K : W.Frag) (ta : TA) : TI := fun σ H R => ta σ H fun vs H1 => ∃ a, vs = [.ref a] ∧ (∃ xs, SqT K H1 a xs) ∧ R (IteT K a) H1
def ForJ (J : It) (g : TG) (tb : TS) (D : Ends) (σ : L2.St) (H : Hp) : Prop := ∃ W : Nat → Nat → L2.St → Hp → Prop, (∃ m, W 0 m σ H) ∧ ∀ i m σ H, W i m σ H →
  (J.stop i H ∧ D.nx σ H) ∨ (J.go i H ∧ ∃ N : L2.St → Hp → Prop, (∀ σ' H', N σ' H' → ∃ m', m' < m ∧ W (i + 1) m' σ' H') ∧ ∀ x H', J.yld i H x H' → g x σ H' fun σ2 H2 => tb { D with nx := N, ct := N, bk := D.nx } σ2 H2)
section
variable {K : W.Frag} {ta : TA} {g : TG} {tb : TS} {D : Ends} {σ : L2.St} {H : Hp} {a : Addr} {xs : List V}
theorem tFor_el : tFor (iEnumL K ta) g tb D σ H = ta σ H (fun vs H1 => ∃ a, vs = [.ref a] ∧ (∃ xs, SqL K H1 a xs) ∧ ForJ (IteL K a) g tb D σ H1) := rfl
theorem tFor_et : tFor (iEnumT K ta) g tb D σ H = ta σ H (fun vs H1 => ∃ a, vs = [.ref a] ∧ (∃ xs, SqT K H1 a xs) ∧ ForJ (IteT K a) g tb D σ H1) := rfl
theorem tComp_el {capt : List (Option Nat)} {te : TE} {Q : VK} : tComp (iEnumL K ta) capt g te σ H Q = ta σ H (fun vs H1 => ∃ a, vs = [.ref a] ∧ (∃ xs, SqL K H1 a xs) ∧ CompJ (IteL K a) capt g te σ Q H1) := rfl
theorem ForJ.enumL (Pv : Nat → L2.St → Hp → Prop) (h0 : Pv 0 σ H) (hl : ∀ i σ H, i ≤ xs.length → Pv i σ H → SqL K H a xs)
    (hs : ∀ i x p σ H, xs[i]? = some x → Pv i σ H → H p = none → g (.ref p) σ (upd H p (.tup [.int i, x])) fun σ2 H2 => tb { D with nx := Pv (i + 1), ct := Pv (i + 1), bk := D.nx } σ2 H2) (hd : ∀ σ H, Pv xs.length σ H → D.nx σ H) : ForJ (IteL K a) g tb D σ H := by
  refine ⟨fun i m σ H => m = xs.length - i ∧ i ≤ xs.length ∧ Pv i σ H, ⟨xs.length, by simp, Nat.zero_le _, h0⟩, ?_⟩
  rintro i m σ H ⟨rfl, hi, pv⟩
  have q := hl i σ H hi pv
  by_cases lt : i < xs.length
  · refine .inr ⟨⟨xs, xs[i], q, by simp [lt]⟩, Pv (i + 1), fun σ' H' p' => ⟨xs.length - (i + 1), by omega, rfl, lt, p'⟩, fun x H' y => ?_⟩
    obtain ⟨p, x', hp, rfl, rfl, y⟩ := y
    exact hs i x' p σ _ (y xs q) pv hp
  · have e : i = xs.length := by omega
    subst e
    exact .inl ⟨⟨xs, q, Nat.le_refl _⟩, hd σ H pv⟩
theorem ForJ.enumT (Pv : Nat → L2.St → Hp → Prop) (h0 : Pv 0 σ H) (hl : ∀ i σ H, i ≤ xs.length → Pv i σ H → H a = some (.tup xs))
    (hs : ∀ i x p σ H, xs[i]? = some x → Pv i σ H → H p = none → g (.ref p) σ (upd H p (.tup [.int i, x])) fun σ2 H2 => tb { D with nx := Pv (i + 1), ct := Pv (i + 1), bk := D.nx } σ2 H2) (hd : ∀ σ H, Pv xs.length σ H → D.nx σ H) : ForJ (IteT K a) g tb D σ H := by
  refine ⟨fun i m σ H => m = xs.length - i ∧ i ≤ xs.length ∧ Pv i σ H, ⟨xs.length, by simp, Nat.zero_le _, h0⟩, ?_⟩
  rintro i m σ H ⟨rfl, hi, pv⟩
  have q : SqT K H a xs := SqT.of (hl i σ H hi pv)
  by_cases lt : i < xs.length
  · refine .inr ⟨⟨xs, xs[i], q, by simp [lt]⟩, Pv (i + 1), fun σ' H' p' => ⟨xs.length - (i + 1), by omega, rfl, lt, p'⟩, fun x H' y => ?_⟩
    obtain ⟨p, x', hp, rfl, rfl, y⟩ := y
    exact hs i x' p σ _ (y xs q) pv hp
  · have e : i = xs.length := by omega
    subst e
    exact .inl ⟨⟨xs, q, Nat.le_refl _⟩, hd σ H pv⟩
end
end Bs
namespace Bs
open PySem PySem.Spec PyProof.Rows L2
def blk (X : Cx) (N : List Str) (scope : Scope) (cl : List (Str × Addr)) (C : Addr) (s : Shared) (H : Hp) (fp : List Addr) : Cx :=
  { X with N := N, s₀ := s, H₀ := H, env := compEnvC scope cl C X.env, outer := X.stack, stack := X.stack, ex := fp, fn := fun _ => false, pn := [], xe := fun _ _ => False }
structure BlkOk (X : Cx) (N : List Str) (capt : List (Option Nat)) (scope : Scope) (cl : List (Str × Addr)) : Prop where
  kind : scope.kind = .function
  clos : closureFor scope X.env = pure cl
  nocell : ∀ y ∈ scope.names, y.2 ≠ .cell
  names : ∀ y ∈ scope.names, y.2 = .local → scope.names.lookup y.1 = some .local
  cells : ∀ y c, cl.lookup y = some c → X.env.cells.lookup y = some c
  has : ∀ y, ((relabel scope X.env).names.lookup y = some .cell ∨ (relabel scope X.env).names.lookup y = some .free) → ∃ c, cl.lookup y = some c
  cap : ∀ (i : Nat) (x : Str) (j : Nat), N[i]? = some x → capt[i]? = some (some j) → X.N[j]? = some x ∧ Vis X.env.scope x ∧ X.env.kindOf x ≠ some .local ∧ ((relabel scope X.env).names.lookup x = some .cell ∨ (relabel scope X.env).names.lookup x = some .free)
  len : capt.length = N.length
section
variable {X : Cx} {pins : List (Addr × Obj)} {σ : L2.St} {H : Hp} {s : Shared} {N : List Str} {capt : List (Option Nat)} {scope : Scope} {cl : List (Str × Addr)} {C : Addr} {fp : List Addr}
theorem blk_ok (B : BlkOk X N capt scope cl) (I : Inv X pins σ H s) (fo : ∀ b ∈ fp, FpOk X pins H b) (fl : ∀ b ∈ fp, b < s.heap.objs.size) (hC : s.heap.objs.size ≤ C) : (blk X N scope cl C s H fp).Ok where
  mod := I.ok.mod
  kind := B.kind
  glob := I.ok.glob
  blt := I.ok.blt
  above := hC
  inj := fun x y c h1 h2 => I.ok.inj x y c (B.cells x c h1) (B.cells y c h2)
  has := fun x h => B.has x h
  cab := fun _ _ h => nomatch h
  hd := I.ok.hd
  frames := I.ok.frames
  stk := .inl rfl
  exf := fun b hb => ⟨fun e => absurd (Nat.lt_of_lt_of_le (fl b hb) hC) (by rw [show b = C from e]; exact Nat.lt_irrefl _), fun x c e => (fo b hb).2.2.2.2.1 x c (B.cells x c e)⟩
  bs := I.bs
  bsz := Nat.le_trans I.ok.bsz I.sz
  noex := fun b o e hb => by
    rcases (fo b hb).2.2.2.1 with z | z
    · exact I.ok.noex b o e z
    · exact absurd (Nat.lt_of_lt_of_le (Heap.lt_size e) (Nat.le_trans I.ok.bsz z)) (Nat.lt_irrefl _)
  exfs := fun b hb hf => by
    rcases List.mem_cons.mp (I.stkSub b hf) with z | z
    · exact (fo b hb).2.1 z
    · exact (fo b hb).2.2.1 z
  funs := I.stack
  frf := I.stkFree
  seer := I.ok.seer
  tree := I.ok.tree
  plr := I.ok.plr
theorem blk_inv (B : BlkOk X N capt scope cl) (I : Inv X pins σ H s) (fo : ∀ b ∈ fp, FpOk X pins H b) (fl : ∀ b ∈ fp, b < s.heap.objs.size) (hC : s.heap.objs.size ≤ C) {h1 : Heap} {m : Str → Option Value} {tk : Nat}
    (hn : h1.Ns C m) (hk : ∀ b o, s.heap.get? b = some o → h1.get? b = some o) : Inv (blk X N scope cl C s H fp) [] (blkSt capt σ) H { s with heap := h1, toks := tk } where
  ok := blk_ok B I fo fl hC
  os := rfl
  bare := I.bare
  base := Un.kept hk
  loc := by
    refine ⟨m, hn, fun i x v e1 e2 e3 => ?_⟩
    have e2' : (capt.map fun o => o.bind fun j => (σ[j]?).join)[i]? = some (some v) := e2
    rw [List.getElem?_map] at e2'
    cases ec : capt[i]? with
    | none => rw [ec] at e2'; cases e2'
    | some o =>
      rw [ec] at e2'
      cases o with
      | none => cases e2'
      | some j =>
        have e4 : (σ[j]?).join = some v := Option.some.inj e2'
        obtain ⟨c1, c2, c3, c4⟩ := B.cap i x j e1 ec
        have e5 : σ[j]? = some (some v) := by
          cases q : σ[j]? with
          | none => rw [q] at e4; cases e4
          | some w => rw [q] at e4; exact congrArg some e4
        obtain ⟨m', _, hl⟩ := I.loc
        obtain ⟨u, r, l⟩ := hl j x v c1 e5 c2
        refine ⟨u, r, .inr ⟨c4, ?_⟩⟩
        rcases l with ⟨l, _⟩ | ⟨_, c, lc, ic⟩
        · exact absurd l c3
        · obtain ⟨c', hc'⟩ := B.has x c4
          have := B.cells x c' hc'
          rw [lc] at this
          cases this
          obtain ⟨o, ho, hd⟩ := ic
          exact ⟨c, hc', o, hk c o ho, hd⟩
  cell := fun x c e => by
    obtain ⟨v, o, ho, hd⟩ := I.cell x c (B.cells x c e)
    exact ⟨v, o, hk c o ho, hd⟩
  free := I.hok.fresh hC
  freeC := fun x c e => I.freeC x c (B.cells x c e)
  pin := fun p hp => nomatch hp
  hok := I.hok.kept hk
  len := by show (capt.map _).length = N.length; rw [List.length_map]; exact B.len
theorem blk_again {σ6 : L2.St} {H7 : Hp} {s7 : Shared} {pins' : List (Addr × Obj)} (B : BlkOk X N capt scope cl) (I : Inv X pins σ H s) (fo : ∀ b ∈ fp, FpOk X pins H b) (I7 : Inv (blk X N scope cl C s H fp) pins' σ6 H7 s7) : Inv (blk X N scope cl C s H fp) pins' (blkSt capt σ) H7 s7 :=
  ⟨I7.ok, I7.os, I7.bare, I7.base, by
    obtain ⟨m, hn, _⟩ := I7.loc
    refine ⟨m, hn, fun i x v e1 e2 e3 => ?_⟩
    have e2' : (capt.map fun o => o.bind fun j => (σ[j]?).join)[i]? = some (some v) := e2
    rw [List.getElem?_map] at e2'
    cases ec : capt[i]? with
    | none => rw [ec] at e2'; cases e2'
    | some o =>
      rw [ec] at e2'
      cases o with
      | none => cases e2'
      | some j =>
        have e4 : (σ[j]?).join = some v := Option.some.inj e2'
        obtain ⟨c1, c2, c3, c4⟩ := B.cap i x j e1 ec
        have e5 : σ[j]? = some (some v) := by
          cases q : σ[j]? with
          | none => rw [q] at e4; cases e4
          | some w => rw [q] at e4; exact congrArg some e4
        obtain ⟨m', _, hl⟩ := I.loc
        obtain ⟨u, r, l⟩ := hl j x v c1 e5 c2
        refine ⟨u, r, .inr ⟨c4, ?_⟩⟩
        rcases l with ⟨l, _⟩ | ⟨_, c, lc, ic⟩
        · exact absurd l c3
        · obtain ⟨c', hc'⟩ := B.has x c4
          have := B.cells x c' hc'
          rw [lc] at this
          cases this
          obtain ⟨o, ho, hd⟩ := ic
          obtain ⟨sl, hk⟩ := I7.base.any ho (I.freeC x c lc) fun hb => (fo c hb).2.2.2.2.1 x c lc rfl
          exact ⟨c, hc', _, hk, hd⟩, I7.cell, I7.free, I7.freeC, I7.pin, I7.hok, by show (capt.map _).length = N.length; rw [List.length_map]; exact B.len⟩
theorem lookup_mem {κ β : Type} [BEq κ] [LawfulBEq κ] : ∀ {l : List (κ × β)} {y : κ} {c : β}, l.lookup y = some c → (y, c) ∈ l
  | (k, v) :: l, y, c, h => by
    rw [List.lookup_cons] at h
    cases e : y == k with
    | true =>
      rw [e] at h
      cases h
      rw [eq_of_beq e]
      exact List.mem_cons_self ..
    | false =>
      rw [e] at h
      exact List.mem_cons_of_mem _ (lookup_mem h)
theorem BlkOk.of (k : scope.kind = .function) (c : closureFor scope X.env = pure cl) (n1 : (scope.names.all fun y => y.2 != .cell) = true) (n2 : (scope.names.all fun y => y.2 != .local || scope.names.lookup y.1 == some .local) = true)
    (cs : ∀ pr ∈ cl, X.env.cells.lookup pr.1 = some pr.2) (hs : ((relabel scope X.env).names.all fun pr => (pr.2 != .cell && pr.2 != .free) || (cl.lookup pr.1).isSome) = true)
    (cp : ((List.range N.length).all fun i => match N[i]?, capt[i]? with
      | some x, some (some j) => X.N[j]? == some x && (X.env.scope.names.lookup x == some .cell || X.env.scope.names.lookup x == some .free) && ((relabel scope X.env).names.lookup x == some .cell || (relabel scope X.env).names.lookup x == some .free)
      | _, _ => true) = true) (ln : capt.length = N.length) : BlkOk X N capt scope cl where
  kind := k
  clos := c
  nocell := fun y hy e => by
    have z := List.all_eq_true.mp n1 y hy
    rw [e] at z
    exact absurd z (by decide)
  names := fun y hy e => by
    have z := List.all_eq_true.mp n2 y hy
    rw [e] at z
    simpa using z
  cells := fun y c h => cs (y, c) (lookup_mem h)
  has := fun y h => by
    have m : ∃ kd, (y, kd) ∈ (relabel scope X.env).names ∧ (kd = .cell ∨ kd = .free) := by
      rcases h with h | h
      · exact ⟨_, lookup_mem h, .inl rfl⟩
      · exact ⟨_, lookup_mem h, .inr rfl⟩
    obtain ⟨kd, m, e⟩ := m
    have z := List.all_eq_true.mp hs _ m
    have z2 : (cl.lookup y).isSome = true := by
      rcases e with rfl | rfl
      · simpa using z
      · simpa using z
    exact Option.isSome_iff_exists.mp z2
  cap := fun i x j e1 e2 => by
    have li : i < N.length := (List.getElem?_eq_some_iff.mp e1).1
    have z := List.all_eq_true.mp cp i (List.mem_range.mpr li)
    rw [e1, e2] at z
    simp only [Bool.and_eq_true, Bool.or_eq_true, beq_iff_eq] at z
    obtain ⟨⟨z1, z2⟩, z3⟩ := z
    refine ⟨z1, .inr z2, fun q => ?_, z3⟩
    have q' : X.env.scope.names.lookup x = some .local := q
    rcases z2 with z2 | z2 <;> (rw [z2] at q'; cases q')
  len := ln
theorem compLoop_go {prog : Program} {w : World} {A : Around} {R : Result → Shared → Prop} {s : Shared} {elt target iter : Expr} {scope : Scope} {pos : Pos} {it acc : Value} {env : Env} (I : Nat → Shared → Prop)
    (turn : ∀ n s, I n s → wpAny (model prog w) A (pyNext it) (fun r s₁ => match r with
      | none => R (.ok .next) s₁
      | some v => wpAny (model prog w) A (letOwnedTupleGo target it v) (fun _ s₂ => wpAny (model prog w) A (assign target env v) (fun _ s₃ => wpAny (model prog w) A (eval elt env) (fun x s₄ =>
          wpAny (model prog w) A (call (.builtin "list.append") [acc, x]) (fun _ s₅ => ∃ m, m < n ∧ I m s₅) (fun _ _ => False) s₄) (fun _ _ => False) s₃) (fun _ _ => False) s₂) (fun _ _ => False) s₁) (fun _ _ => False) s)
    (n : Nat) (h : I n s) : codeAny (model prog w) A (.compLoop (.ListComp elt [⟨target, iter, [], 0⟩] scope pos) 0 it acc env) R s := by
  refine codeAny_loop rfl I (fun n s hI => ?_) n h
  show wpAny _ A ((compTurn (.ListComp elt [⟨target, iter, [], 0⟩] scope pos) 0 it acc env).onRaise (fun x => do noteFrame x env; theTreesLotGoes x)) _ _ s
  refine wpAny_noted ?_
  rw [compTurn_list]
  have no : ∀ {E' : Value → Shared → Prop} (e : Value) (s' : Shared), (fun (_ : Value) (_ : Shared) => False) e s' → E' e s' := fun _ _ f => f.elim
  refine wpAny_bind (wpAny_standAt (wpAny_bind (wpAny_mono (turn n s hI) (fun r s₁ h₁ => ?_) no)))
  cases r with
  | none => exact wpAny_pure h₁
  | some v =>
    refine wpAny_bind (wpAny_mono h₁ (fun _ s₂ h₂ => ?_) no)
    refine wpAny_bind (wpAny_mono h₂ (fun _ s₃ h₃ => wpAny_bind (wpAny_tests_nil ?_)) no)
    exact wpAny_bind (wpAny_bind (wpAny_mono h₃ (fun x s₄ h₄ => wpAny_bind (wpAny_mono h₄ (fun _ s₅ h₅ => wpAny_pure (wpAny_pure ⟨rfl, h₅⟩)) no)) no))
theorem comp_core {elt iter tg : Expr} {pos : Pos} {wi : TI} {g : TG} {te : TE} {pins : List (Addr × Obj)} {s : Shared} {σ : L2.St} {H : Hp} {Q : VK} (RR : Value → Addr → Result → Shared → Prop) (hc : X.calm = true) (B : BlkOk X N capt scope cl) (hi : PI X tg iter wi)
    (hg : ∀ C s H fp, PG (blk X N scope cl C s H fp) tg g) (he : ∀ C s H fp, PE (blk X N scope cl C s H fp) elt te) (I : Inv X pins σ H s) (h : tComp wi capt g te σ H Q)
    (fin : ∀ (D C : Addr) (s4 : Shared) (Hq : Hp) (m : Str → Option Value), Inv X pins σ Hq s4 → Q (.ref D) Hq → s4.heap.Ns C m → Hq C = none → C ≠ X.env.locals → X.s₀.heap.objs.size ≤ C → (∀ x c, X.env.cells.lookup x = some c → c ≠ C) → (∀ p ∈ X.pn ++ pins, p.1 ≠ C) → RR (.ref D) C (.ok .next) s4) :
    wpAny (model X.prog X.w) X.A (eval iter X.env) (fun x s₁ => wpAny (model X.prog X.w) X.A (pyIter x) (fun it s₂ => wpAny (model X.prog X.w) X.A (newList []) (fun acc s₃ =>
      wpAny (model X.prog X.w) X.A (newFunctionEnv scope X.env.globals cl [] X.env.qual none .none (some X.env)) (fun cenv s₄ =>
        codeAny (model X.prog X.w) X.A (.compStart (.ListComp elt [⟨tg, iter, [], 0⟩] scope pos) 0 it acc { cenv with scope := relabel scope X.env }) (RR acc cenv.locals) s₄) X.xe s₃) X.xe s₂) X.xe s₁) X.xe s := by
  refine thn (hi pins s σ H _ I h) fun v s1 h1 => thn h1 fun itv s2 h2 => ?_
  obtain ⟨it, fp, tn, J, H2, e, I2, T, st2, f2, n0, W, w0, turn⟩ := h2
  subst e
  have fl : ∀ b ∈ fp, b < s2.heap.objs.size := fun b hb => by obtain ⟨o, e, _⟩ := T.obj _ _ st2 b hb; exact Heap.lt_size e
  refine wpAny_newObj_type (wpAny_newFunctionEnv B.nocell (by intro y hy; simp at hy) (fun h₁ hns₁ hsb₁ => ?_) B.kind)
  dsimp only at hns₁ hsb₁ ⊢
  generalize hG : s2.heap.push { cls := .type "list", dict := none, data := .seq ([] : List Value).toArray } = G at hns₁ hsb₁ ⊢
  have hC : G.objs.size = s2.heap.objs.size + 1 := by rw [← hG, Heap.size_push]
  have hCle : s2.heap.objs.size ≤ G.objs.size := by rw [hC]; exact Nat.le_succ _
  have hDC : s2.heap.objs.size ≠ G.objs.size := by rw [hC]; exact Nat.ne_of_lt (Nat.lt_succ_self _)
  have old : ∀ b o, s2.heap.get? b = some o → h₁.get? b = some o := fun b o e => hsb₁.extBut b o (by rw [hC]; exact Nat.ne_of_lt (Nat.lt_succ_of_lt (Heap.lt_size e))) (Heap.get?_push_of_some _ (hG ▸ Heap.get?_push_of_some _ e))
  have hacc : h₁.get? s2.heap.objs.size = some { cls := .type "list", data := .seq ([] : List Value).toArray } := hsb₁.extBut _ _ hDC (Heap.get?_push_of_some _ (hG ▸ Heap.get?_push_size _ rfl))
  have ok' := blk_ok B I2 f2 fl hCle
  have nsD : s2.heap.objs.size ∉ frs X.stack := fun hb => by
    rcases List.mem_cons.mp (I2.stkSub _ hb) with z | z
    · exact absurd I2.lt (by rw [← z]; exact Nat.lt_irrefl _)
    · exact I2.nofs (Nat.le_refl _) z
  have ncD : ∀ x c, cl.lookup x = some c → c ≠ s2.heap.objs.size := fun x c e z => by
    obtain ⟨v, q⟩ := I2.cell x c (B.cells x c e)
    exact absurd q.lt (by rw [z]; exact Nat.lt_irrefl _)
  have nfD : ∀ b ∈ fp, s2.heap.objs.size ≠ b := fun b hb z => absurd (fl b hb) (by rw [← z]; exact Nat.lt_irrefl _)
  have I₁ : Inv (blk X N scope cl G.objs.size s2 H2 fp) [] (blkSt capt σ) H2 { s2 with heap := h₁, toks := s2.toks + ([] : List (Str × Value)).length } := blk_inv B I2 f2 fl hCle hns₁ old
  have loop : codeAny (model X.prog X.w) X.A (.compLoop (.ListComp elt [⟨tg, iter, [], 0⟩] scope pos) 0 (.ref it) (.ref s2.heap.objs.size) (compEnvC scope cl G.objs.size X.env))
      (RR (.ref s2.heap.objs.size) G.objs.size) { s2 with heap := h₁, toks := s2.toks + ([] : List (Str × Value)).length } := by
    refine compLoop_go (fun n s' => ∃ (i : Nat) (ys : List V) (its : List Value) (k : Nat) (Hc : Hp), Inv (blk X N scope cl G.objs.size s2 H2 fp) [] (blkSt capt σ) Hc s' ∧ s'.heap.get? s2.heap.objs.size = some { cls := .type "list", data := .seq its.toArray k } ∧ Vals ys its ∧
      Hc s2.heap.objs.size = none ∧ tn i s'.heap ∧ (∀ b ∈ fp, Hc b = none) ∧ W i ys Hc ∧ n = n0 - i) ?_ n0 ⟨0, [], [], 0, H2, I₁, hacc, .nil, I2.hok.fresh (Nat.le_refl _), T.keep _ _ _ st2 (fun b _ o e => old b o e), fun b hb => (f2 b hb).1, w0, rfl⟩
    rintro n s3 ⟨i, ys, its, k, Hc, I3, hD, hv, nD, st3, fr3, w3, en⟩
    obtain ⟨_, hl, step⟩ := turn i ys Hc w3
    have hz : its.toArray.size ≤ sizeLine := by rw [List.size_toArray, ← hv.length]; exact hl
    have I3p : Inv (blk X N scope cl G.objs.size s2 H2 fp) [(s2.heap.objs.size, { cls := .type "list", data := .seq its.toArray k })] (blkSt capt σ) Hc s3 := I3.pins_of fun p hp => by
      rw [List.mem_singleton] at hp
      subst hp
      exact ⟨hD, nD, hDC, nsD, fun v z => nomatch z⟩
    have fo3 : ∀ {Hx : Hp} (_ : ∀ b ∈ fp, Hx b = none), ∀ b ∈ fp, FpOk (blk X N scope cl G.objs.size s2 H2 fp) [(s2.heap.objs.size, { cls := .type "list", data := .seq its.toArray k })] Hx b := fun hx b hb =>
      ⟨hx b hb, (ok'.exf b hb).1, ok'.exfs b hb, .inl hb, (ok'.exf b hb).2, fun p hp => by
        have hp' : p ∈ [((s2.heap.objs.size, { cls := .type "list", data := .seq its.toArray k }) : Addr × Obj)] := hp
        rw [List.mem_singleton] at hp'
        subst hp'
        exact nfD b hb⟩
    rcases step with ⟨stop, q⟩ | ⟨ltn, go, nxt⟩
    · refine thn (T.done (blk X N scope cl G.objs.size s2 H2 fp) rfl rfl rfl hc i _ s3 _ Hc _ I3p (fo3 fr3) st3 stop) fun r s4 ⟨hr, I4⟩ => ?_
      subst hr
      have hD4 := (I4.pin (s2.heap.objs.size, { cls := .type "list", data := .seq its.toArray k }) (List.mem_append_right _ (List.mem_singleton.mpr rfl))).1
      obtain ⟨m, hn, _⟩ := I4.loc
      have nDt : ∀ b u, Hc b = some u → b ≠ s2.heap.objs.size := fun b u e z => by rw [z, nD] at e; cases e
      have oldC : ∀ b o, s2.heap.get? b = some o → b ≠ s2.heap.objs.size := fun b o e => Nat.ne_of_lt (Heap.lt_size e)
      have ub : Un (frs X.stack) fp H2 Hc s2.heap s4.heap := I4.base
      have cC : ∀ b, b < s2.heap.objs.size → b ≠ G.objs.size := fun b hb z => absurd (Nat.lt_of_lt_of_le hb hCle) (by rw [z]; exact Nat.lt_irrefl _)
      refine fin _ G.objs.size s4 (upd Hc s2.heap.objs.size (.lst ys)) m ?_ (q _ nD) hn (by rw [upd_ne (fun z => hDC z.symm)]; exact I4.free) (fun z => cC _ I2.lt z.symm) (Nat.le_trans I2.sz hCle)
        (fun x c e => by obtain ⟨v, q⟩ := I2.cell x c e; exact cC _ q.lt) fun p hp => cC _ (Heap.lt_size (I2.pin p hp).1)
      refine I2.call' (ch := fp) (s' := s4) I4.os ?_ ?_ I4.bare fun b hb => ⟨(f2 b hb).2.2.2.1, (f2 b hb).2.1, (f2 b hb).2.2.2.2.1, (f2 b hb).2.2.2.2.2⟩
      · refine ⟨ub.keep, ub.slot, fun b o e n hx => ?_, ub.there, fun b xs e => ?_, fun b o u e => ?_, fun b ps e => ?_⟩
        · rw [upd_ne (oldC b o e)]; exact ub.free b o e n hx
        · have z := ub.tups b xs e
          rw [upd_ne (nDt b _ z)]; exact z
        · have z := ub.frzs b o u e
          rw [upd_ne (nDt b _ z)]; exact z
        · obtain ⟨more, z⟩ := ub.tbls b ps e
          exact ⟨more, by rw [upd_ne (nDt b _ z)]; exact z⟩
      · intro b u e
        by_cases hb : b = s2.heap.objs.size
        · subst hb
          rw [upd_same] at e
          cases e
          exact ⟨hl, its, k, hv, hD4⟩
        · rw [upd_ne hb] at e
          exact (I4.hok b u e).stay (fun c v _ q => q) (fun c q => by rw [upd_ne (nDt c _ q)]; exact q) fun c xs q => by rw [upd_ne (nDt c _ q)]; exact q
    · refine thn (T.item (blk X N scope cl G.objs.size s2 H2 fp) rfl rfl rfl hc i _ s3 _ Hc _ I3p (fo3 fr3) st3 go) fun r s4 ⟨u, hr, h4⟩ => ?_
      subst hr
      refine thn h4 fun _ s5 ⟨x, H5, I5, r5, y5, st5, fr5⟩ => ?_
      have I5' := I5.pinned (fo3 fr5) (T.obj _ _ st5)
      refine thn (hg _ _ _ _ _ s5 _ H5 x u _ I5' r5 (nxt x H5 y5)) fun _ s6 ⟨σ6, H6, I6, q6⟩ => ?_
      refine thn (he _ _ _ _ _ s6 σ6 H6 _ I6 q6) fun uy s7 ⟨y, H7, I7, r7, w7⟩ => ?_
      have pD := I7.pin (s2.heap.objs.size, { cls := .type "list", data := .seq its.toArray k }) (List.mem_append_right _ (List.mem_append_left _ (List.mem_singleton.mpr rfl)))
      have pF : ∀ b ∈ fp, ∀ o, s5.heap.get? b = some o → s7.heap.get? b = some o ∧ H7 b = none := fun b hb o e => by
        have z := I7.pin (b, o) (List.mem_append_right _ (List.mem_append_right _ (mem_pinsAt hb e)))
        exact ⟨z.1, z.2.1⟩
      refine append_at (hsz := hz) pD.1 fun h8 sb8 hD8 => ?_
      have I7n : Inv (blk X N scope cl G.objs.size s2 H2 fp) [] σ6 H7 s7 := I7.pins_of fun p hp => nomatch hp
      have I8 : Inv (blk X N scope cl G.objs.size s2 H2 fp) [] σ6 H7 { s7 with heap := h8, toks := s7.toks } := I7n.turned (fun b o hb e => sb8.extBut b o hb e) pD.2.1 hDC (.inr (Nat.le_refl _)) ncD (fun p hp => nomatch hp)
      refine ⟨n0 - (i + 1), by omega, i + 1, ys ++ [y], its ++ [uy], k + 1, H7, blk_again B I2 f2 I8, ?_, Paired.snoc hv r7, pD.2.1, T.keep _ _ _ st5 (fun b hb o e => sb8.extBut b o (nfD b hb).symm (pF b hb o e).1), fun b hb => ?_, w7, rfl⟩
      · show h8.get? _ = _
        rw [hD8, List.push_toArray]
      · obtain ⟨o, e, _⟩ := T.obj _ _ st5 b hb
        exact (pF b hb o e).2
  exact codeAny_compStart_list loop (T.self X.A 0 _ _ _ (T.keep _ _ _ st2 (fun b _ o e => old b o e)) loop)
theorem pe_comp {elt iter tg : Expr} {pos : Pos} {wi : TI} {g : TG} {te : TE} (hc : X.calm = true) (B : BlkOk X N capt scope cl) (hi : PI X tg iter wi)
    (hg : ∀ C s H fp, PG (blk X N scope cl C s H fp) tg g) (he : ∀ C s H fp, PE (blk X N scope cl C s H fp) elt te)
    (hs : ∀ x, foldedSetIterable iter X.env x = pure x := by intro _; rfl) : PE X (.ListComp elt [⟨tg, iter, [], 0⟩] scope pos) (tComp wi capt g te) := by
  intro pins s σ H Q I h
  rw [eval_ListComp]
  refine wpAny_comprehension_free (use := none) rfl hs B.clos B.kind B.names (comp_core (fun acc C => compPost (model X.prog X.w) X.A X.xe none (EP X pins σ Q) acc C) hc B hi hg he I h fun D C s4 Hq m I4 q hn hf h1 h2 h3 h4 => ?_)
  exact ⟨m, hn, fun h' sb => ⟨.ref D, Hq, I4.turned (fun b o hb e => sb.extBut b o hb e) hf h1 (.inr h2) h3 h4, rfl, q⟩⟩
theorem ps_setC {i : Nat} {x : Str} {pos' spos : Pos} {elt iter tg : Expr} {pos : Pos} {wi : TI} {g : TG} {te : TE} (hN : X.N.Nodup) (hi' : X.N[i]? = some x) (hx : Loc X.env.scope x) (hc : X.calm = true) (B : BlkOk X N capt scope cl) (hi : PI X tg iter wi)
    (hg : ∀ C s H fp, PG (blk X N scope cl C s H fp) tg g) (he : ∀ C s H fp, PE (blk X N scope cl C s H fp) elt te)
    (hsw : swapsWith (.ListComp elt [⟨tg, iter, [], 0⟩] scope pos) (some (.Name x pos')) spos.line X.env = pure true := by rfl)
    (hs : ∀ x, foldedSetIterable iter X.env x = pure x := by intro _; rfl) (hf : X.fn x = true ∨ X.env.scope.names.lookup x = some .local := by first | exact .inl rfl | exact .inr rfl | assumption) :
    PS X (.Assign [.Name x pos'] (.ListComp elt [⟨tg, iter, [], 0⟩] scope pos) spos) (tAsg (tComp wi capt g te) (gName i)) := by
  intro pins s σ H D I h
  rw [exec_Assign_Name_used _ _ _ _ hsw]
  refine wpAny_bind (wpAny_standAt (wpAny_bind ?_))
  show wpAny _ X.A (do let _ ← comprehension (.ListComp elt [⟨tg, iter, [], 0⟩] scope pos) scope X.env _ (newList []) false (eval iter X.env) (some (assign (.Name x pos') X.env))) _ _ s
  refine wpAny_bind (wpAny_mono (wpAny_comprehension_free (use := some (assign (.Name x pos') X.env)) (Q := fun _ s' => SP X pins D .next s') rfl hs B.clos B.kind B.names
    (comp_core (fun acc C => compPost (model X.prog X.w) X.A X.xe (some (assign (.Name x pos') X.env)) (fun _ s' => SP X pins D .next s') acc C) hc B hi hg he I h fun Da C s4 Hq m I4 q hn hfr h1 h2 h3 h4 => ?_)) (fun _ s' hq => wpAny_pure (wpAny_pure hq)) fun _ _ e => e)
  show wpAny _ X.A (assign (.Name x pos') X.env (.ref Da)) _ _ _
  refine wpAny_assign_Name (store_ok2 I4 hN hi' hx (v := .ref Da) rfl (fun s5 I5 ⟨a, sb5, ha⟩ => ⟨m, hn.sameBut sb5 ?_, fun h' sb => ⟨_, _, I5.turned (fun b o hb e => sb.extBut b o hb e) hfr h1 (.inr h2) h3 h4, q⟩⟩) hf)
  rcases ha with z | z
  · rw [z]; exact h1
  · exact fun e => h3 x a z e.symm
end
end Bs
namespace Bs
open PySem PySem.Spec PyProof.Rows L2
open PySem.AutoSeq1 (wpAny_loadPart')
section
variable {prog : Program} {w : World} {A : Around} {E : Value → Shared → Prop} {s : Shared} {e it t : Addr} {i : Nat} {zs : Array Value}
theorem nextT_item {x : Value} {Q : Value → Shared → Prop} (si : s.heap.IsTupleIter it t i) (st : s.heap.IsTuple t zs) (hx : zs[i]? = some x)
    (hQ : ∀ g, g.IsTupleIter it t (i + 1) → Heap.SameBut it s.heap g → Q x { s with heap := g }) : wpAny (model prog w) A (Builtin.SmallTypes.nextOf (.ref it)) Q E s := by
  obtain ⟨oi, gi, ci, di⟩ := id si
  obtain ⟨ot, gt, _, kt, dt⟩ := st
  unfold Builtin.SmallTypes.nextOf
  refine wpAny_bind (wpAny_callSpecial?_slot (name := Str.ofString "__next__") si.typeIs F.slot_tuple_iterator_next (wpAny_call_entry F.slot_tuple_iterator_next si.typeIs F.entry_tuple_iterator_next ?_ (F.args_tuple_iterator_next_1 _)))
  show wpAny _ _ (field (.ref it) 0 >>= _) _ _ s
  refine wpAny_bind (wpAny_field gi di (x := .ref t) rfl ?_)
  show wpAny _ _ (if (Value.ref t == Value.none) = true then _ else _) _ _ s
  rw [if_neg (fun q : (Value.ref t == Value.none) = true => Bool.false_ne_true q)]
  show wpAny _ _ (field (.ref it) 1 >>= _) _ _ s
  refine wpAny_bind (wpAny_field gi di (x := .int i 0) rfl ?_)
  show wpAny _ _ (seqItems? (.ref t) >>= _) _ _ s
  refine wpAny_bind (wpAny_seqItems gt dt ?_)
  simp only [Int.toNat_natCast, hx]
  refine wpAny_bind (wpAny_setField gi di (by simp) (wpAny_pure ⟨x, rfl, wpAny_pure (hQ _ ⟨_, Heap.get?_update_self _ gi (Obj.isFreed_of_fields (Obj.data_mapFields di _)), (Obj.cls_mapFields ..).trans ci, ?_⟩ (Heap.SameBut.update ..))⟩))
  rw [Obj.data_mapFields di]
  simp [rawInt]
theorem nextT_end {Q : Value → Shared → Prop} (hh : A.handled = none) (si : s.heap.IsTupleIter it t i) (st : s.heap.IsTuple t zs) (hx : zs[i]? = none)
    (hE : ∀ g x, Heap.ExtBut it s.heap g → (∃ o, g.get? x = some o ∧ o.cls = .type "StopIteration") → E (.ref x) { s with heap := g }) : wpAny (model prog w) A (Builtin.SmallTypes.nextOf (.ref it)) Q E s := by
  obtain ⟨oi, gi, ci, di⟩ := id si
  obtain ⟨ot, gt, _, kt, dt⟩ := st
  unfold Builtin.SmallTypes.nextOf
  refine wpAny_bind (wpAny_callSpecial?_slot (name := Str.ofString "__next__") si.typeIs F.slot_tuple_iterator_next (wpAny_call_entry F.slot_tuple_iterator_next si.typeIs F.entry_tuple_iterator_next ?_ (F.args_tuple_iterator_next_1 _)))
  show wpAny _ _ (field (.ref it) 0 >>= _) _ _ s
  refine wpAny_bind (wpAny_field gi di (x := .ref t) rfl ?_)
  show wpAny _ _ (if (Value.ref t == Value.none) = true then _ else _) _ _ s
  rw [if_neg (fun q : (Value.ref t == Value.none) = true => Bool.false_ne_true q)]
  show wpAny _ _ (field (.ref it) 1 >>= _) _ _ s
  refine wpAny_bind (wpAny_field gi di (x := .int i 0) rfl ?_)
  show wpAny _ _ (seqItems? (.ref t) >>= _) _ _ s
  refine wpAny_bind (wpAny_seqItems gt dt ?_)
  simp only [Int.toNat_natCast, hx]
  refine wpAny_bind (wpAny_rule (wpAny_bind (wpAny_setField gi di (by simp) (wpAny_bind ?_))))
  simp only [newExc, newTuple]
  refine wpAny_bind (wpAny_newObj_type (wpAny_bind (m := firstArgMember _ _) (wpAny_of_eq (a := Value.none) (by first | rfl | (simp only [firstArgMember]; rfl)) (wpAny_newObj_type ?_ (by size_fits)))) (by size_fits))
  simp only [raiseNew]
  refine wpAny_bind (wpAny_handled ?_)
  first
    | rw [show A.in1.handled = none from hh]
    | rw [hh]
  exact wpAny_bind (wpAny_pure (wpAny_throw (hE _ _ (((Heap.SameBut.update ..).extBut.push _).push _) ⟨_, Heap.get?_push_size _ rfl, rfl⟩)))
theorem enumT_item {x old : Value} {Q : Value → Shared → Prop} (se : IsEnum s.heap e it i old) (si : s.heap.IsTupleIter it t i) (st : s.heap.IsTuple t zs) (hx : zs[i]? = some x) (ne : e ≠ it)
    (hQ : ∀ g, IsEnumOut g e it ((i : Int) + 1) x s.heap.objs.size → g.IsTupleIter it t (i + 1) → g.get? s.heap.objs.size = some { cls := .type "tuple", data := .seq #[.int i s.toks, x] } →
      (∀ b o, b ≠ e → b ≠ it → s.heap.get? b = some o → g.get? b = some o) → Q (.ref s.heap.objs.size) { s with heap := g, toks := s.toks + 1 }) :
    wpAny (model prog w) A (Builtin.«enumerate.__next__» ⟨[.ref e], []⟩) (fun fin s' => ∃ v, fin = .done (.ret v) ∧ Q v s') E s := by
  obtain ⟨g0, gn, dr, tk, os⟩ := s
  show wpAny _ _ (field (.ref e) 2 >>= _) _ _ _
  refine wpAny_bind (wpAny_field se rfl (x := .ref it) rfl ?_)
  refine wpAny_bind (nextT_item si st hx fun g1 i1 b1 => ?_)
  replace b1 : Heap.SameBut it g0 g1 := b1
  have e1 : IsEnum g1 e it i old := (b1.2 e ne).trans se
  show wpAny _ _ (field (.ref e) 3 >>= _) _ _ ⟨g1, gn, dr, tk, os⟩
  refine wpAny_bind (wpAny_field e1 rfl (x := rawInt i) rfl ?_)
  show wpAny _ _ (field (.ref e) 4 >>= _) _ _ ⟨g1, gn, dr, tk, os⟩
  refine wpAny_bind (wpAny_field e1 rfl (x := .none) rfl ?_)
  show wpAny _ _ (mkInt i >>= _) _ _ ⟨g1, gn, dr, tk, os⟩
  refine wpAny_bind (wpAny_mkInt ?_)
  show wpAny _ _ (setField (.ref e) 3 (rawInt ((i : Int) + 1)) >>= _) _ _ ⟨g1, gn, dr, tk + 1, os⟩
  refine wpAny_bind (wpAny_setField_rec e1 (by simp) fun g2 e2 b2 => ?_)
  replace b2 : Heap.SameBut e g1 g2 := b2
  replace e2 : IsEnum g2 e it ((i : Int) + 1) old := e2
  show wpAny _ _ (setField (.ref e) 4 .none >>= _) _ _ ⟨g2, gn, dr, tk + 1, os⟩
  refine wpAny_bind (wpAny_setField_rec e2 (by simp) fun g3 e3 b3 => ?_)
  replace b3 : Heap.SameBut e g2 g3 := b3
  replace e3 : IsEnum g3 e it ((i : Int) + 1) old := e3
  show wpAny _ _ (newTuple [.int i tk, x] >>= _) _ _ ⟨g3, gn, dr, tk + 1, os⟩
  refine wpAny_bind (wpAny_newTuple ?_)
  have e4 : IsEnum (g3.push { cls := .type "tuple", data := .seq #[.int i tk, x] }) e it ((i : Int) + 1) old := Heap.get?_push_of_some _ e3
  generalize q4 : g3.push { cls := .type "tuple", data := .seq #[.int i tk, x] } = g4 at e4
  have z3 : g3.objs.size = g0.objs.size := by rw [b3.1, b2.1, b1.1]
  have le : e < g0.objs.size := Heap.lt_size se
  have t4 : g4.get? g0.objs.size = some { cls := .type "tuple", data := .seq #[.int i tk, x] } := by rw [← q4, ← z3]; exact Heap.get?_push_size _ rfl
  have k4 : ∀ b o, b ≠ e → b ≠ it → g0.get? b = some o → g4.get? b = some o := fun b o h1 h2 h3 => by
    rw [← q4]; exact Heap.get?_push_of_some _ (b3.extBut b o h1 (b2.extBut b o h1 (b1.extBut b o h2 h3)))
  have i4 : g4.IsTupleIter it t (i + 1) := by
    obtain ⟨o, ho, hr⟩ := i1
    exact ⟨o, by rw [← q4]; exact Heap.get?_push_of_some _ (b3.extBut it o ne.symm (b2.extBut it o ne.symm ho)), hr⟩
  show wpAny _ _ (Builtin.SmallTypes.ownedTupleIsFree (.ref e) >>= _) _ _ ⟨g4, gn, dr, tk + 1, os⟩
  rw [z3]
  clear q4 e3 b3 e2 b2 e1 b1 i1 z3 g3 g2 g1
  refine wpAny_bind ?_
  unfold Builtin.SmallTypes.ownedTupleIsFree
  refine wpAny_bind (wpAny_field e4 rfl (x := .none) rfl (wpAny_pure ?_))
  simp only [if_true]
  refine wpAny_bind (wpAny_rule (wpAny_bind (wpAny_field e4 rfl (x := old) rfl (wpAny_bind (wpAny_setField_rec e4 (by simp) fun g5 e5 b5 => ?_)))))
  replace b5 : Heap.SameBut e g4 g5 := b5
  replace e5 : IsEnum g5 e it ((i : Int) + 1) x := e5
  show wpAny _ _ (Builtin.SmallTypes.ownedTupleHandOut (.ref e) (.ref g0.objs.size) >>= _) _ _ ⟨g5, gn, dr, tk + 1, os⟩
  refine wpAny_bind ?_
  unfold Builtin.SmallTypes.ownedTupleHandOut
  refine wpAny_bind (wpAny_setField_rec e5 (by simp) fun g6 e6 b6 => ?_)
  replace b6 : Heap.SameBut e g5 g6 := b6
  replace e6 : IsEnumOut g6 e it ((i : Int) + 1) x g0.objs.size := e6
  refine wpAny_setField_rec e6 (by simp) fun g7 e7 b7 => ?_
  replace b7 : Heap.SameBut e g6 g7 := b7
  replace e7 : IsEnumOut g7 e it ((i : Int) + 1) x g0.objs.size := e7
  have up : ∀ b o, b ≠ e → g4.get? b = some o → g7.get? b = some o := fun b o h1 h2 => b7.extBut b o h1 (b6.extBut b o h1 (b5.extBut b o h1 h2))
  refine wpAny_bind (wpAny_letGo (wpAny_pure ⟨_, rfl, hQ g7 e7 ?_ (up _ _ (Nat.ne_of_gt le) t4) fun b o h1 h2 h3 => up b o h1 (k4 b o h1 h2 h3)⟩))
  obtain ⟨o, ho, hr⟩ := i4
  exact ⟨o, up it o ne.symm ho, hr⟩
theorem enumT_next {x old : Value} {Q : Option Value → Shared → Prop} (se : IsEnum s.heap e it i old) (si : s.heap.IsTupleIter it t i) (st : s.heap.IsTuple t zs) (hx : zs[i]? = some x) (ne : e ≠ it)
    (hQ : ∀ g, IsEnumOut g e it ((i : Int) + 1) x s.heap.objs.size → g.IsTupleIter it t (i + 1) → g.get? s.heap.objs.size = some { cls := .type "tuple", data := .seq #[.int i s.toks, x] } →
      (∀ b o, b ≠ e → b ≠ it → s.heap.get? b = some o → g.get? b = some o) → Q (some (.ref s.heap.objs.size)) { s with heap := g, toks := s.toks + 1 }) : wpAny (model prog w) A (pyNext (.ref e)) Q E s := by
  have ty : s.TypeIs (.ref e) "enumerate" := ⟨_, se, rfl⟩
  unfold pyNext
  exact wpAny_bind (wpAny_attempt (wpAny_callSpecial?_slot (name := Str.ofString "__next__") ty F.slot_enumerate_next (wpAny_call_entry F.slot_enumerate_next ty F.entry_enumerate_next (enumT_item se si st hx ne fun g a b c k => wpAny_pure (hQ g a b c k)) (F.args_enumerate_next_1 _))))
theorem enumT_end {old : Value} {Q : Option Value → Shared → Prop} (hh : A.handled = none) (se : IsEnum s.heap e it i old) (si : s.heap.IsTupleIter it t i) (st : s.heap.IsTuple t zs) (hx : zs[i]? = none)
    (hQ : ∀ g, Heap.ExtBut it s.heap g → Q none { s with heap := g }) : wpAny (model prog w) A (pyNext (.ref e)) Q E s := by
  have ty : s.TypeIs (.ref e) "enumerate" := ⟨_, se, rfl⟩
  unfold pyNext
  refine wpAny_bind (wpAny_attempt (wpAny_callSpecial?_slot (name := Str.ofString "__next__") ty F.slot_enumerate_next (wpAny_call_entry F.slot_enumerate_next ty F.entry_enumerate_next ?_ (F.args_enumerate_next_1 _))))
  show wpAny _ _ (field (.ref e) 2 >>= _) _ _ _
  refine wpAny_bind (wpAny_field se rfl (x := .ref it) rfl (wpAny_bind (nextT_end hh si st hx fun g x eb ⟨o, ho, hc⟩ => ?_)))
  exact wpAny_bind (wpAny_isInstance (T := "StopIteration") (b := true) ⟨o, ho, hc⟩ isSubtype_stop (wpAny_pure (hQ _ eb)))
theorem meets_enumT (n : Nat) (dct : Option Addr) (sl : Array (Option Value)) :
    Meets (Builtin.«enumerate.__new__» ⟨[.type "enumerate", .ref t], []⟩) (fun _ R s => s.heap.get? t = some { cls := .type "tuple", dict := dct, data := .seq zs n, slots := sl } ∧
      R (.ok (.ret (.ref (s.heap.push { cls := .type "tuple_iterator", data := .fields #[.ref t, .int 0 0] }).objs.size)))
        { s with heap := (s.heap.push { cls := .type "tuple_iterator", data := .fields #[.ref t, .int 0 0] }).push { cls := .type "enumerate", data := .fields #[.none, .bool false, .ref s.heap.objs.size, rawInt 0, .none, .none] } }) :=
  .of_wp fun prog w A R s h => by
    obtain ⟨g0, gn, dr, tk, os⟩ := s
    obtain ⟨ht, h⟩ := h
    have hsub := sub_enumerate
    have hT : Heap.IsTuple (Shared.heap ⟨g0, gn, dr, tk, os⟩) t zs := ⟨_, ht, rfl, n, rfl⟩
    wp_walk using wpAny_loadPart' ht
    refine wpAny_stack_any fun st => wpAny_pure ?_
    split
    · rename_i c _ _ _ _ _
      cases (c == Value.type "enumerate") <;> (wp_walk using wpAny_loadPart' ht, wpAny_pyIter_tuple hT; exact ⟨_, rfl, h⟩)
    · wp_walk using wpAny_loadPart' ht, wpAny_pyIter_tuple hT
      exact ⟨_, rfl, h⟩
theorem call_enumT {Q : Value → Shared → Prop} (hT : s.heap.IsTuple t zs)
    (h : ∀ g, IsEnum g (s.heap.objs.size + 1) s.heap.objs.size 0 .none → g.IsTupleIter s.heap.objs.size t 0 → (∀ b o, s.heap.get? b = some o → g.get? b = some o) → Q (.ref (s.heap.objs.size + 1)) { s with heap := g }) :
    wpAny (model prog w) A (call (.type "enumerate") [.ref t]) Q E s := by
  obtain ⟨⟨c, dct, da, sl⟩, ht, hc, n, hd⟩ := hT
  replace hc : c = .type "tuple" := hc
  replace hd : da = .seq zs n := hd
  subst hc hd
  refine callType_new F.called_enumerate (by decide) (F.typeCall_enumerate_1 _) (F.newCall_enumerate_1 _) (fun obj => F.args_object_init_2 obj _) F.entry_enumerate_new (meets_enumT n dct sl) ⟨ht, ?_⟩
  have z1 : (s.heap.push { cls := .type "tuple_iterator", data := .fields #[.ref t, .int 0 0] }).objs.size = s.heap.objs.size + 1 := Heap.size_push ..
  show _ ∧ _
  rw [z1]
  have se : IsEnum ((s.heap.push { cls := .type "tuple_iterator", data := .fields #[.ref t, .int 0 0] }).push { cls := .type "enumerate", data := .fields #[.none, .bool false, .ref s.heap.objs.size, rawInt 0, .none, .none] }) (s.heap.objs.size + 1) s.heap.objs.size 0 .none := by
    have z := Heap.get?_push_size (s.heap.push { cls := .type "tuple_iterator", data := .fields #[.ref t, .int 0 0] }) (o := { cls := .type "enumerate", data := .fields #[.none, .bool false, .ref s.heap.objs.size, rawInt 0, .none, .none] }) rfl
    rw [z1] at z
    exact z
  exact ⟨⟨_, se, rfl⟩, h _ se ⟨_, Heap.get?_push_of_some _ (Heap.get?_push_size _ rfl), rfl, rfl⟩ fun b o x => Heap.get?_push_of_some _ (Heap.get?_push_of_some _ x)⟩
end
section
variable {X : Cx} {pins : List (Addr × Obj)} {σ : L2.St} {H : Hp} {s : Shared}
theorem inv_pair {e it : Addr} {g : Heap} {tk : Nat} {xs : List V} {its : List Value} (I : Inv X pins σ H s) (fe : FpOk X pins H e) (fi : FpOk X pins H it) (k : ∀ b o, b ≠ e → b ≠ it → s.heap.get? b = some o → g.get? b = some o)
    (hz : xs.length ≤ sizeLine) (rv : Vals xs its) (ht : g.get? s.heap.objs.size = some { cls := .type "tuple", data := .seq its.toArray }) : Inv X pins σ (upd H s.heap.objs.size (.tup xs)) { s with heap := g, toks := tk } := by
  have nT : H s.heap.objs.size = none := I.hok.fresh (Nat.le_refl _)
  have old : ∀ b o, s.heap.get? b = some o → b ≠ s.heap.objs.size := fun b o q => Nat.ne_of_lt (Heap.lt_size q)
  have tr : ∀ b u, H b = some u → b ≠ s.heap.objs.size ∧ b ≠ e ∧ b ≠ it := fun b u q => ⟨ne_of_none q nT, ne_of_none q fe.1, ne_of_none q fi.1⟩
  have off : ∀ b, b ∉ [e, it] → b ≠ e ∧ b ≠ it := fun b hb => ⟨fun z => hb (by simp [z]), fun z => hb (by simp [z])⟩
  refine I.step (g' := s.gens) (d' := s.drawn) (ch := [e, it]) (fun b hb => ?_) (fun b o _ _ hc q _ => k b o (off b hc).1 (off b hc).2 q) (fun b o _ _ hc q _ => ⟨o.slots, k b o (off b hc).1 (off b hc).2 q⟩) (fun b o _ q n => ?_) (fun b o hc q => ⟨o, k b o (off b hc).1 (off b hc).2 q⟩)
    (fun b ys q => ?_) (fun b o u q => ?_) (fun b ps q => ⟨#[], ?_⟩) (fun m hm => ?_) (fun b u q => ?_) I.bare
  · have z : b = e ∨ b = it := by simpa using hb
    rcases z with rfl | rfl
    · exact ⟨fe.2.2.2.1, fe.2.1, fe.2.2.2.2.1, fe.2.2.2.2.2⟩
    · exact ⟨fi.2.2.2.1, fi.2.1, fi.2.2.2.2.1, fi.2.2.2.2.2⟩
  · rw [upd_ne (old b o q)]; exact n
  · rw [upd_ne (tr b _ q).1]; exact q
  · rw [upd_ne (tr b _ q).1]; exact q
  · rw [upd_ne (tr b _ q).1, q]; simp
  · obtain ⟨o, es, ep, ho, hr⟩ := hm
    exact ⟨o, es, ep, k _ o fe.2.1.symm fi.2.1.symm ho, hr⟩
  · by_cases hb : b = s.heap.objs.size
    · subst hb
      rw [upd_same] at q
      cases q
      exact ⟨hz, its, rv, ⟨_, ht, rfl, _, rfl⟩⟩
    · rw [upd_ne hb] at q
      refine (I.hok b u q).stay (fun c v hc z => ?_) (fun c z => by rw [upd_ne (tr c _ z).1]; exact z) fun c ys z => by rw [upd_ne (tr c _ z).1]; exact z
      rcases hc with y | y
      · subst y; exact k _ v (tr _ u q).2.1 (tr _ u q).2.2 z
      · exact k c v (tr c _ y).2.1 (tr c _ y).2.2 z
end
theorem turn_enumL {P : Program} {w : World} {K : W.Frag} {elts : List Expr} {k : Nat} {pos : Pos} (a e it : Addr) (ne : e ≠ it) : Turn P w K (.Tuple elts k pos) (IteL K a) [e, it] e (fun i h => (∃ old, IsEnum h e it i old) ∧ h.IsListIter it a i) where
  mem := by simp
  obj := fun i h st b hb => by
    obtain ⟨⟨old, se⟩, o, ho, c, d⟩ := st
    have z : b = e ∨ b = it := by simpa using hb
    rcases z with rfl | rfl
    · exact ⟨_, se, fun v z => nomatch z⟩
    · exact ⟨o, ho, fun v z => by rw [d] at z; cases z⟩
  keep := fun i h h' st kk => ⟨let ⟨old, se⟩ := st.1; ⟨old, kk e (by simp) _ se⟩, st.2.at fun o q => kk it (by simp) o q⟩
  item := by
    intro X hP hw hK hc i pins s σ H E I hf st hg
    subst hP hw hK
    obtain ⟨xs, x, hq, hx⟩ := hg
    obtain ⟨⟨old, se⟩, si⟩ := st
    obtain ⟨its, rv, p, hz⟩ := I.list hq
    obtain ⟨u, hu, ru⟩ := rv.get hx
    refine wpAny_pyNext_enum_item se si p.isList (x := u) (by simpa using hu) ne fun g eo gi gt _ gk => ?_
    refine ⟨_, rfl, wpAny_letOwnedTupleGo_enum eo fun g' se' sb => ?_⟩
    have I1 := inv_pair (g := g') (tk := s.toks + 1) (xs := [.int i, x]) (its := [.int i s.toks, u]) I (hf e (by simp)) (hf it (by simp)) (fun b o h1 h2 q => sb.extBut b o h1 (gk b o h1 h2 q)) (sz (by simp)) (.cons ⟨_, rfl⟩ (.cons ru .nil)) (sb.extBut _ _ (Nat.ne_of_gt (Heap.lt_size se)) gt)
    refine ⟨.ref s.heap.objs.size, _, I1, rfl, ⟨_, x, I.hok.fresh (Nat.le_refl _), rfl, rfl, fun ys hy => by rw [I.list_inj hy hq]; exact hx⟩, ⟨⟨_, by simpa using se'⟩, gi.at fun o q => sb.extBut it o ne.symm q⟩, fun b hb => ?_⟩
    rw [upd_ne]
    · exact (hf b hb).1
    · have z : b = e ∨ b = it := by simpa using hb
      rcases z with rfl | rfl
      · exact Nat.ne_of_lt (Heap.lt_size se)
      · obtain ⟨o, ho, _⟩ := si; exact Nat.ne_of_lt (Heap.lt_size ho)
  done := by
    intro X hP hw hK hc i pins s σ H E I hf st hg
    subst hP hw hK
    obtain ⟨xs, hq, hx⟩ := hg
    obtain ⟨⟨old, se⟩, si⟩ := st
    obtain ⟨its, rv, p, hz⟩ := I.list hq
    obtain ⟨f0, f1, f2, f3, f4, f5⟩ := hf it (by simp)
    have hl := rv.length
    exact wpAny_pyNext_enum_end (I.ok.hd hc) se si p.isList (by simp; omega) fun g eb => ⟨rfl, I.turned (t' := s.toks) (fun b o hb q => eb b o hb q) f0 f1 f3 f4 f5⟩
  self := fun _ _ _ _ _ st h => let ⟨_, se⟩ := st.1; wpAny_pyIter_enum se h
theorem turn_enumT {P : Program} {w : World} {K : W.Frag} {elts : List Expr} {k : Nat} {pos : Pos} (a e it : Addr) (ne : e ≠ it) : Turn P w K (.Tuple elts k pos) (IteT K a) [e, it] e (fun i h => (∃ old, IsEnum h e it i old) ∧ h.IsTupleIter it a i) where
  mem := by simp
  obj := fun i h st b hb => by
    obtain ⟨⟨old, se⟩, o, ho, c, d⟩ := st
    have z : b = e ∨ b = it := by simpa using hb
    rcases z with rfl | rfl
    · exact ⟨_, se, fun v z => nomatch z⟩
    · exact ⟨o, ho, fun v z => by rw [d] at z; cases z⟩
  keep := fun i h h' st kk => ⟨let ⟨old, se⟩ := st.1; ⟨old, kk e (by simp) _ se⟩, st.2.at fun o q => kk it (by simp) o q⟩
  item := by
    intro X hP hw hK hc i pins s σ H E I hf st hg
    subst hP hw hK
    obtain ⟨xs, x, hq, hx⟩ := hg
    obtain ⟨⟨old, se⟩, si⟩ := st
    obtain ⟨its, rv, p, hz⟩ := I.tuple hq
    obtain ⟨u, hu, ru⟩ := rv.get hx
    refine enumT_next se si (show s.heap.IsTuple a its.toArray from p) (x := u) (by simpa using hu) ne fun g eo gi gt gk => ?_
    refine ⟨_, rfl, wpAny_letOwnedTupleGo_enum eo fun g' se' sb => ?_⟩
    have I1 := inv_pair (g := g') (tk := s.toks + 1) (xs := [.int i, x]) (its := [.int i s.toks, u]) I (hf e (by simp)) (hf it (by simp)) (fun b o h1 h2 q => sb.extBut b o h1 (gk b o h1 h2 q)) (sz (by simp)) (.cons ⟨_, rfl⟩ (.cons ru .nil)) (sb.extBut _ _ (Nat.ne_of_gt (Heap.lt_size se)) gt)
    refine ⟨.ref s.heap.objs.size, _, I1, rfl, ⟨_, x, I.hok.fresh (Nat.le_refl _), rfl, rfl, fun ys hy => by rw [I.tuple_inj hy hq]; exact hx⟩, ⟨⟨_, by simpa using se'⟩, gi.at fun o q => sb.extBut it o ne.symm q⟩, fun b hb => ?_⟩
    rw [upd_ne]
    · exact (hf b hb).1
    · have z : b = e ∨ b = it := by simpa using hb
      rcases z with rfl | rfl
      · exact Nat.ne_of_lt (Heap.lt_size se)
      · obtain ⟨o, ho, _⟩ := si; exact Nat.ne_of_lt (Heap.lt_size ho)
  done := by
    intro X hP hw hK hc i pins s σ H E I hf st hg
    subst hP hw hK
    obtain ⟨xs, hq, hx⟩ := hg
    obtain ⟨⟨old, se⟩, si⟩ := st
    obtain ⟨its, rv, p, hz⟩ := I.tuple hq
    obtain ⟨f0, f1, f2, f3, f4, f5⟩ := hf it (by simp)
    have hl := rv.length
    exact enumT_end (I.ok.hd hc) se si (show s.heap.IsTuple a its.toArray from p) (by simp; omega) fun g eb => ⟨rfl, I.turned (t' := s.toks) (fun b o hb q => eb b o hb q) f0 f1 f3 f4 f5⟩
  self := fun _ _ _ _ _ st h => let ⟨_, se⟩ := st.1; wpAny_pyIter_enum se h
section
variable {X : Cx} {elts : List Expr} {k : Nat} {tpos : Pos} {a : Expr} {ta : TA} {p pos : Pos}
theorem pi_enumL (hg : Gl X "enumerate") (hm : X.mg "enumerate" = none) (ha : PA X [a] ta) (hs : starEach [a] X.env = [(false, eval a X.env)] := by rfl) : PI X (.Tuple elts k tpos) (.Call (.Name "enumerate" p) [a] [] pos) (iEnumL X.K ta) := by
  intro pins s σ H R I h
  refine Call_ (ld_blt I hg hm bt_enumerate (PyProof.Rows.callWith_type1 (thn (ha pos pins s σ H _ I h) fun us s1 ⟨vs, H1, I1, r1, q1⟩ => ?_) hs rfl))
  obtain ⟨b, rfl, ⟨xs, hq⟩, q⟩ := q1
  obtain ⟨u, rfl, ru⟩ := vals1 r1
  cases ru
  obtain ⟨its, rv, pl, hz⟩ := I1.list hq
  refine call_enumerate_list pl.isList fun g se si _ gk => ?_
  have I2 : Inv X pins σ H1 { s1 with heap := g } := I1.kept (t' := s1.toks) gk
  refine wpAny_pyIter_enum se ⟨_, [s1.heap.objs.size + 1, s1.heap.objs.size], _, _, H1, rfl, I2, turn_enumL b _ _ (Nat.succ_ne_self _), ⟨⟨_, se⟩, si⟩, fun c hc => ?_, q⟩
  have z : c = s1.heap.objs.size + 1 ∨ c = s1.heap.objs.size := by simpa using hc
  rcases z with rfl | rfl
  · exact I1.fpOk (Nat.le_succ _) (I1.hok.fresh (Nat.le_succ _))
  · exact I1.fpOk (Nat.le_refl _) (I1.hok.fresh (Nat.le_refl _))
theorem pi_enumT (hg : Gl X "enumerate") (hm : X.mg "enumerate" = none) (ha : PA X [a] ta) (hs : starEach [a] X.env = [(false, eval a X.env)] := by rfl) : PI X (.Tuple elts k tpos) (.Call (.Name "enumerate" p) [a] [] pos) (iEnumT X.K ta) := by
  intro pins s σ H R I h
  refine Call_ (ld_blt I hg hm bt_enumerate (PyProof.Rows.callWith_type1 (thn (ha pos pins s σ H _ I h) fun us s1 ⟨vs, H1, I1, r1, q1⟩ => ?_) hs rfl))
  obtain ⟨b, rfl, ⟨xs, hq⟩, q⟩ := q1
  obtain ⟨u, rfl, ru⟩ := vals1 r1
  cases ru
  obtain ⟨its, rv, pl, hz⟩ := I1.tuple hq
  refine call_enumT (show s1.heap.IsTuple b its.toArray from pl) fun g se si gk => ?_
  have I2 : Inv X pins σ H1 { s1 with heap := g } := I1.kept (t' := s1.toks) gk
  refine wpAny_pyIter_enum se ⟨_, [s1.heap.objs.size + 1, s1.heap.objs.size], _, _, H1, rfl, I2, turn_enumT b _ _ (Nat.succ_ne_self _), ⟨⟨_, se⟩, si⟩, fun c hc => ?_, q⟩
  have z : c = s1.heap.objs.size + 1 ∨ c = s1.heap.objs.size := by simpa using hc
  rcases z with rfl | rfl
  · exact I1.fpOk (Nat.le_succ _) (I1.hok.fresh (Nat.le_succ _))
  · exact I1.fpOk (Nat.le_refl _) (I1.hok.fresh (Nat.le_refl _))
end
end Bs
namespace Bs
open PySem L2
mutual
inductive RepD (H : Hp) : V → PySem.W.Dat → Prop
  | non : RepD H .non .none
  | int (i : Int) : RepD H (.int i) (.int i)
  | tup {p : Addr} {xs : List V} {ds : List PySem.W.Dat} (h : H p = some (.tup xs)) (r : RepA H xs ds) : RepD H (.ref p) (.tuple ds)
  | lst {p : Addr} {xs : List V} {ds : List PySem.W.Dat} (h : H p = some (.lst xs)) (r : RepA H xs ds) : RepD H (.ref p) (.list ds)
inductive RepA (H : Hp) : List V → List PySem.W.Dat → Prop
  | nil : RepA H [] []
  | cons {x : V} {xs : List V} {d : PySem.W.Dat} {ds : List PySem.W.Dat} (h : RepD H x d) (r : RepA H xs ds) : RepA H (x :: xs) (d :: ds)
end
def eqD : R2 := fun x y H Q => ∃ (d e : PySem.W.Dat) (b : Bool), RepD H x d ∧ RepD H y e ∧ PySem.W.kqdOk 8 d = true ∧ PySem.W.kqdOk 8 e = true ∧ (b = true ↔ d = e) ∧ Q (.bl b) H
def neD : R2 := fun x y H Q => ∃ (d e : PySem.W.Dat) (b : Bool), RepD H x d ∧ RepD H y e ∧ PySem.W.kqdOk 8 d = true ∧ PySem.W.kqdOk 8 e = true ∧ (b = true ↔ d = e) ∧ Q (.bl (!b)) H
def tTruL (te : TE) : TT := fun σ H Q => te σ H fun x H' => ∃ p xs, x = .ref p ∧ H' p = some (.lst xs) ∧ Q (!xs.isEmpty) H'
def tTruT (te : TE) : TT := fun σ H Q => te σ H fun x H' => ∃ p xs, x = .ref p ∧ H' p = some (.tup xs) ∧ Q (!xs.isEmpty) H'
def sL : V → Option Int → Option Int → Hp → VK → Prop := fun x lo hi H Q => ∃ a xs, x = .ref a ∧ H a = some (.lst xs) ∧ ∀ p, H p = none → Q (.ref p) (upd H p (.lst (cutV xs lo hi)))
def bTupL : List V → Hp → VK → Prop := fun xs H Q => ∃ p ys, xs = [.ref p] ∧ H p = some (.lst ys) ∧ ∀ l, H l = none → Q (.ref l) (upd H l (.tup ys))
def bListT : List V → Hp → VK → Prop := fun xs H Q => ∃ p ys, xs = [.ref p] ∧ H p = some (.tup ys) ∧ ∀ l, H l = none → Q (.ref l) (upd H l (.lst ys))
def bListL : List V → Hp → VK → Prop := fun xs H Q => ∃ p ys, xs = [.ref p] ∧ H p = some (.lst ys) ∧ ∀ l, H l = none → Q (.ref l) (upd H l (.lst ys))
def bAllL : List V → Hp → VK → Prop := fun xs H Q => ∃ (p : Addr) (bs : List Bool), xs = [.ref p] ∧ H p = some (.lst (bs.map V.bl)) ∧ Q (.bl (bs.all id)) H
end Bs
namespace Bs
open PySem PySem.Spec PyProof.Rows L2
section
variable {X : Cx} {pins : List (Addr × Obj)} {σ : L2.St} {H : Hp} {s : Shared}
mutual
theorem rep_reads (I : Inv X pins σ H s) : ∀ {x : V} {d : PySem.W.Dat} {u : Value}, RepD H x d → RelV x u → ∃ as, Reads s.heap u (PySem.W.kqdP d) as
  | _, _, _, .non, e => by cases e; rw [PySem.W.kqdP]; exact ⟨_, Reads.none⟩
  | _, _, _, .int i, ⟨t, e⟩ => by subst e; rw [PySem.W.kqdP]; exact ⟨_, Reads.int i t⟩
  | _, _, _, .tup h r, e => by
    cases e
    obtain ⟨its, rv, p, _⟩ := I.tuple (SqT.of h)
    obtain ⟨as, q⟩ := rep_all I r rv
    obtain ⟨o, ho, hc, n, hd⟩ := p
    rw [PySem.W.kqdP]
    exact ⟨as, reads_tuple_at ho hc hd (by simpa using q)⟩
  | _, _, _, .lst h r, e => by
    cases e
    obtain ⟨its, rv, p, _⟩ := I.list (SqL.of h)
    obtain ⟨as, q⟩ := rep_all I r rv
    obtain ⟨o, n, ho, hc, _, hd⟩ := p
    rw [PySem.W.kqdP]
    exact ⟨_, reads_list_at ho hc hd (by simpa using q)⟩
theorem rep_all (I : Inv X pins σ H s) : ∀ {xs : List V} {ds : List PySem.W.Dat} {us : List Value}, RepA H xs ds → Vals xs us → ∃ as, ReadsAll s.heap us (PySem.W.kqdPs ds) as
  | _, _, _, .nil, .nil => by rw [PySem.W.kqdPs]; exact ⟨_, ReadsAll.nil⟩
  | _, _, _, .cons h r, .cons e es => by
    obtain ⟨as, q⟩ := rep_reads I h e
    obtain ⟨bs, q2⟩ := rep_all I r es
    rw [PySem.W.kqdPs]
    exact ⟨_, ReadsAll.cons q q2⟩
end
theorem shaped_of {d : PySem.W.Dat} (h : PySem.W.kqdOk 8 d = true) : SeqAt.shaped (PySem.W.kqdP d) = true := by
  have z := PySem.W.kqd_lay 8 d h
  unfold SeqAt.shaped
  rw [z.1, Bool.true_and]
  exact decide_eq_true (Nat.le_trans z.2 (by decide))
theorem eqv_of {d e : PySem.W.Dat} {b : Bool} (h1 : PySem.W.kqdOk 8 d = true) (h2 : PySem.W.kqdOk 8 e = true) (hb : b = true ↔ d = e) : PyData.eqv (PySem.W.kqdP d) (PySem.W.kqdP e) = b := by
  rw [Bool.eq_iff_iff, hb]
  exact PySem.W.kqd_eqv 8 d e 8 h1 h2
theorem op_eqD (hu : X.A.units + 64 < cLine) : OpR X (compareOp .Eq) eqD := by
  intro pins s σ H x y v u Q I rx ry h
  obtain ⟨d, e, b, r1, r2, k1, k2, hb, q⟩ := h
  obtain ⟨as, q1⟩ := rep_reads I r1 rx
  obtain ⟨bs, q2⟩ := rep_reads I r2 ry
  exact eq_dataH q1 q2 (shaped_of k1) (shaped_of k2) hu (by rw [eqv_of k1 k2 hb]; exact ⟨.bl b, H, I, rfl, q⟩)
theorem op_neD (hu : X.A.units + 64 < cLine) : OpR X (compareOp .NotEq) neD := by
  intro pins s σ H x y v u Q I rx ry h
  obtain ⟨d, e, b, r1, r2, k1, k2, hb, q⟩ := h
  obtain ⟨as, q1⟩ := rep_reads I r1 rx
  obtain ⟨bs, q2⟩ := rep_reads I r2 ry
  exact ne_dataH q1 q2 (shaped_of k1) (shaped_of k2) hu (by rw [eqv_of k1 k2 hb]; exact ⟨.bl (!b), H, I, rfl, q⟩)
theorem sl_lstH : SlR X sL := by
  intro pins s σ H x v vl vu lo hi sl Q I rx hs pl pu h
  obtain ⟨a, xs, e, ha, q⟩ := h
  exact sl_list pins s σ H x v vl vu lo hi sl Q I rx hs pl pu ⟨a, xs, e, SqL.of ha, q⟩
theorem call_tupL : CallR X (.type "tuple") bTupL := fun pins s σ H xs us Q I r h => by
  obtain ⟨p, ys, e, hp, q⟩ := h
  exact call_tuple_of pins s σ H xs us Q I r ⟨p, ys, e, .inl ⟨SqL.of hp, q⟩⟩
theorem call_listL : CallR X (.type "list") bListL := fun pins s σ H xs us Q I r h => by
  obtain ⟨p, ys, e, hp, q⟩ := h
  exact call_list_of pins s σ H xs us Q I r ⟨p, ys, e, .inl (SqL.of hp), q⟩
theorem bool_vals : ∀ {bs : List Bool} {us : List Value}, Vals (bs.map V.bl) us → us = bs.map Value.bool
  | [], _, .nil => rfl
  | b :: bs, _, .cons e r => by rw [show _ = Value.bool b from e, bool_vals r]; rfl
theorem call_allL (hc : X.calm = true) : CallR X (.builtin "all") bAllL := fun pins s σ H xs us Q I r h => by
  obtain ⟨p, bs, rfl, hp, q⟩ := h
  obtain ⟨u, rfl, ru⟩ := vals1 r
  cases ru
  obtain ⟨its, rv, pl, hz⟩ := I.list (SqL.of hp)
  have eb := bool_vals rv
  subst eb
  refine call_all_walk (wpAny_pyIter_list pl.isList ⟨s.heap.objs.size, [s.heap.objs.size, p], [s.heap.objs.size], (bs.map Value.bool).toArray.size, _, _, fun i => bs.getD i false, rfl, Walks.list (A := X.A.in1) (show X.A.in1.handled = none from I.ok.hd hc) s.heap.objs.size p (Nat.ne_of_lt pl.lt) _, ⟨⟨_, Heap.get?_push_size _ rfl, rfl, rfl⟩, pl.isList.push _⟩, ?_, fun g tk gk => ?_⟩)
  · intro i v s' Q' E' hP hQ
    have e : v = Value.bool (bs.getD i false) := by
      have z : (bs.map Value.bool)[i]? = some v := by simpa using hP
      rw [List.getElem?_map] at z
      cases w : bs[i]? with
      | none => rw [w] at z; cases z
      | some c =>
        rw [w] at z
        rw [List.getD_eq_getElem?_getD, w]
        exact (Option.some.inj z).symm
    subst e
    exact wpAny_truthy_bool hQ
  · have kk : ∀ b o, s.heap.get? b = some o → g.get? b = some o := fun b o e => gk b o (fun z => absurd (Heap.lt_size e) (by rw [List.mem_singleton.mp z]; exact Nat.lt_irrefl _)) (Heap.get?_push_of_some _ e)
    refine ⟨.bl (bs.all id), H, I.kept kk, ?_, q⟩
    show Value.bool _ = Value.bool _
    congr 1
    rw [Bool.eq_iff_iff]
    simp only [List.all_eq_true, List.mem_range, List.size_toArray, List.length_map, id]
    constructor
    · intro h x hx
      obtain ⟨i, hi, e⟩ := List.getElem_of_mem hx
      have z := h i hi
      rw [List.getD_eq_getElem?_getD, List.getElem?_eq_getElem hi] at z
      rw [← e]; exact z
    · intro h i hi
      rw [List.getD_eq_getElem?_getD, List.getElem?_eq_getElem hi]
      exact h _ (List.getElem_mem hi)
theorem get_lstH : PGet X gL := by
  intro pins s σ H o i ov iv Q I ro ri h
  obtain ⟨p, k, xs, v, rfl, rfl, hp, ha, q⟩ := h
  cases ro
  obtain ⟨t, rfl⟩ := ri
  obtain ⟨its, r, pl, hz⟩ := I.list (SqL.of hp)
  obtain ⟨j, h1, h2, h3, h4, h5⟩ := atI_get ha
  obtain ⟨w, ew, rw'⟩ := r.get h2
  have hl := r.length
  have hn := line63
  have fin : EP X pins σ Q w s := ⟨v, H, I, rw', q⟩
  by_cases h0 : 0 ≤ k
  · have hj : k.toNat = j := by
      rw [seqIndex_of h0 h5] at h1
      exact Option.some.inj h1
    exact wpAny_getItem_list pl.isList h0 (by omega) (by rw [hj]; simpa using ew) fin
  · have hj : (k + (its.toArray.size : Int)).toNat = j := by
      rw [seqIndex_neg (by omega) h4] at h1
      rw [List.size_toArray, ← hl]
      exact Option.some.inj h1
    exact wpAny_getItem_list_neg pl.isList (by omega) (by rw [List.size_toArray] <;> omega) (by omega) (by rw [hj]; simpa using ew) fin
theorem tyV_lst {K : W.Frag} {p : Addr} {xs : List V} (h : H p = some (.lst xs)) : tyV K "list" (.ref p) H := .inl ⟨rfl, xs, SqL.of h⟩
end
end Bs
namespace Bs
open PySem L2
def gTupH (n : Nat) (t : TGs) : TG := fun v σ H Q => ∃ a xs, v = .ref a ∧ H a = some (.tup xs) ∧ xs.length = n ∧ t xs σ H Q
end Bs
namespace Bs
open PySem PySem.Spec PyProof.Rows L2
theorem pg_tupH {X : Cx} {es : List Expr} {k : Nat} {pos : Pos} {t : TGs} {n : Nat} (hc : X.calm = true) (h : PGs X es t)
    (hn : (assignEach es X.env).length = n := by rfl) (hst : (assignEach es X.env).findIdx? (·.1) = none := by rfl) : PG X (.Tuple es k pos) (gTupH n t) := fun pins s σ H v u Q I r q => by
  obtain ⟨a, xs, e, ha, hl, q⟩ := q
  exact pg_tup hc h hn hst pins s σ H v u Q I r ⟨a, xs, e, SqT.of ha, hl, q⟩
theorem iop_fdivP {X : Cx} : OpR X (inplaceOp .FloorDiv) iDivP := opI fun i j _ _ _ _ _ hc q => by
  refine ifloordiv_int (Int.ne_of_gt hc.1) ?_ (.inl (PyProof.noPylong_of_log2 (hc.2.log2 (by decide))))
  rw [Int.fdiv_eq_ediv_of_nonneg i (Int.le_of_lt hc.1)]
  exact q
end Bs
namespace Bs
open PySem L2
def sT : V → Option Int → Option Int → Hp → VK → Prop := fun x lo hi H Q => ∃ a xs, x = .ref a ∧ H a = some (.tup xs) ∧ ∀ p H', (H' = H ∧ p = a ∧ cutV xs lo hi = xs) ∨ (H p = none ∧ H' = upd H p (.tup (cutV xs lo hi))) → Q (.ref p) H'
end Bs
namespace HT
open PySem PySem.Spec PyProof.Rows
end HT
namespace Bs
open PySem PySem.Spec PyProof.Rows L2
end Bs
namespace Bs
open PySem L2
def Itd (lo : Int) (n : Nat) : It := ⟨fun i _ => i < n, fun i H x H' => H' = H ∧ x = .int (lo - i), fun i _ => n ≤ i⟩
def Itv (K : W.Frag) (a : Addr) (n : Nat) : It := ⟨fun i H => i < n ∧ ∃ xs, SqL K H a xs ∧ xs.length = n, fun i H x H' => H' = H ∧ ∀ xs, SqL K H a xs → xs[n - 1 - i]? = some x, fun i _ => n = i⟩
def iRngD (ta : TA) : TI := fun σ H R => ta σ H fun vs H1 => ∃ i j : Int, vs = [.int i, .int j, .int (-1)] ∧ (-(2 ^ 62) ≤ i ∧ i < 2 ^ 62 ∧ -(2 ^ 62) ≤ j ∧ j < 2 ^ 62) ∧ R (Itd i (i - j).toNat) H1
def iRev (K : W.Frag) (ta : TA) : TI := fun σ H R => ta σ H fun vs H1 => ∃ a xs, vs = [.ref a] ∧ SqL K H1 a xs ∧ R (Itv K a xs.length) H1
section
variable {K : W.Frag} {ta : TA} {g : TG} {tb : TS} {D : Ends} {σ : L2.St} {H : Hp} {a : Addr} {xs : List V}
theorem tFor_rd : tFor (iRngD ta) g tb D σ H = ta σ H (fun vs H1 => ∃ i j : Int, vs = [.int i, .int j, .int (-1)] ∧ (-(2 ^ 62) ≤ i ∧ i < 2 ^ 62 ∧ -(2 ^ 62) ≤ j ∧ j < 2 ^ 62) ∧ ForJ (Itd i (i - j).toNat) g tb D σ H1) := rfl
theorem tFor_rv : tFor (iRev K ta) g tb D σ H = ta σ H (fun vs H1 => ∃ a xs, vs = [.ref a] ∧ SqL K H1 a xs ∧ ForJ (Itv K a xs.length) g tb D σ H1) := rfl
theorem ForJ.down {lo : Int} {n : Nat} (Pv : Nat → L2.St → Hp → Prop) (h0 : Pv 0 σ H)
    (hs : ∀ i σ H, i < n → Pv i σ H → g (.int (lo - i)) σ H fun σ2 H2 => tb { D with nx := Pv (i + 1), ct := Pv (i + 1), bk := D.nx } σ2 H2) (hd : ∀ σ H, Pv n σ H → D.nx σ H) : ForJ (Itd lo n) g tb D σ H := by
  refine ⟨fun i m σ H => m = n - i ∧ i ≤ n ∧ Pv i σ H, ⟨n, by simp, Nat.zero_le _, h0⟩, ?_⟩
  rintro i m σ H ⟨rfl, hi, pv⟩
  by_cases lt : i < n
  · refine .inr ⟨lt, Pv (i + 1), fun σ' H' p' => ⟨n - (i + 1), by omega, rfl, lt, p'⟩, fun x H' y => ?_⟩
    obtain ⟨e, y⟩ := y
    subst e y
    exact hs i σ _ lt pv
  · have e : i = n := by omega
    subst e
    exact .inl ⟨Nat.le_refl _, hd σ H pv⟩
theorem ForJ.rev (Pv : Nat → L2.St → Hp → Prop) (h0 : Pv 0 σ H) (hl : ∀ i σ H, i ≤ xs.length → Pv i σ H → SqL K H a xs)
    (hs : ∀ i x σ H, i < xs.length → xs[xs.length - 1 - i]? = some x → Pv i σ H → g x σ H fun σ2 H2 => tb { D with nx := Pv (i + 1), ct := Pv (i + 1), bk := D.nx } σ2 H2) (hd : ∀ σ H, Pv xs.length σ H → D.nx σ H) : ForJ (Itv K a xs.length) g tb D σ H := by
  refine ⟨fun i m σ H => m = xs.length - i ∧ i ≤ xs.length ∧ Pv i σ H, ⟨xs.length, by simp, Nat.zero_le _, h0⟩, ?_⟩
  rintro i m σ H ⟨rfl, hi, pv⟩
  have q := hl i σ H hi pv
  by_cases lt : i < xs.length
  · refine .inr ⟨⟨lt, xs, q, rfl⟩, Pv (i + 1), fun σ' H' p' => ⟨xs.length - (i + 1), by omega, rfl, lt, p'⟩, fun x H' y => ?_⟩
    obtain ⟨e, y⟩ := y
    subst e
    exact hs i x σ _ lt (y xs q) pv
  · have e : i = xs.length := by omega
    subst e
    exact .inl ⟨rfl, hd σ H pv⟩
end
end Bs
namespace Bs
open PySem PySem.Spec PyProof.Rows L2
theorem turn_down {P : Program} {w : World} {K : W.Frag} {tg : Expr} (it : Addr) (lo : Int) (n : Nat) : Turn P w K tg (Itd lo n) [it] it (fun i h => IsRangeIter h it (lo + (i : Nat) * (-1)) ((n : Int) - (i : Nat)) (-1)) where
  mem := by simp
  obj := fun i h st b hb => by
    have e : b = it := by simpa using hb
    subst e
    exact ⟨_, st, fun v z => by
      have z' : Data.fields _ = Data.cell v := z
      cases z'⟩
  keep := fun i h h' st k => k it (by simp) _ st
  item := by
    intro X hP hw hK hc i pins s σ H E I hf st hg
    subst hP hw hK
    obtain ⟨f0, f1, f2, f3, f4, f5⟩ := hf it (by simp)
    have W := Walks.range (prog := X.prog) (w := X.w) (I.ok.hd hc) it lo (-1) n
    refine W.item i s _ _ hg st fun v h' tk hv st' kk => ?_
    obtain ⟨t, rfl⟩ := hv
    have I1 : Inv X pins σ H { s with heap := h', toks := tk } := I.turned (fun b o hb e => kk b o (by simpa using hb) e) f0 f1 f3 f4 f5
    refine ⟨_, rfl, go_of (s := { s with heap := h', toks := tk }) (n := "range_iterator") st' rfl rfl (by decide) ⟨.int (lo - i), H, I1, ⟨t, ?_⟩, ⟨rfl, rfl⟩, st', fun b hb => (hf b hb).1⟩⟩
    rw [show lo + (i : Int) * (-1) = lo - i by omega]
  done := by
    intro X hP hw hK hc i pins s σ H E I hf st hg
    subst hP hw hK
    obtain ⟨f0, f1, f2, f3, f4, f5⟩ := hf it (by simp)
    exact wpAny_pyNext_range_end (I.ok.hd hc) st (by have : n ≤ i := hg; omega) fun h' eb => ⟨rfl, I.turned (t' := s.toks) (fun b o hb e => eb b o hb e) f0 f1 f3 f4 f5⟩
  self := fun _ _ _ _ _ st h => wpAny_pyIter_rangeiter st h
theorem size_down (a b : Int) : Builtin.Range.rangeSize a b (-1) = if b < a then a - b else 0 := by
  unfold Builtin.Range.rangeSize
  simp only [show ¬ ((-1 : Int) > 0) by decide, if_false, Int.neg_neg, Int.ediv_one]
  split <;> omega
theorem small_down {a b : Int} (ha : -(2 ^ 62) ≤ a) (ha' : a < 2 ^ 62) (hb : -(2 ^ 62) ≤ b) (hb' : b < 2 ^ 62) : Builtin.Range.small a b (-1) = true := by
  unfold Builtin.Range.small
  rw [size_down]
  simp only [Builtin.Range.rangeFitsLong, Bool.and_eq_true, Bool.or_eq_true, decide_eq_true_eq, beq_iff_eq, show ¬ ((-1 : Int) > 0) by decide, if_false]
  split <;> omega
theorem pi_range3 {X : Cx} {tg : Expr} {a b c : Expr} {ta : TA} {p pos : Pos} (hg : Gl X "range") (hm : X.mg "range" = none) (ha : PA X [a, b, c] ta) (hs : starEach [a, b, c] X.env = [(false, eval a X.env), (false, eval b X.env), (false, eval c X.env)] := by rfl) (hs2 : starEach [b, c] X.env = [(false, eval b X.env), (false, eval c X.env)] := by rfl) :
    PI X tg (.Call (.Name "range" p) [a, b, c] [] pos) (iRngD ta) := by
  intro pins s σ H R I h
  refine Call_ (ld_blt I hg hm boot_range (PyProof.Rows.callWith_type1 (thn (ha pos pins s σ H _ I h) fun us s1 ⟨vs, H1, I1, r1, q1⟩ => ?_) (by rw [hs, hs2]) (by rw [hs2]; rfl)))
  obtain ⟨i, j, e, ⟨q1, q2, q3, q4⟩, q⟩ := q1
  subst e
  cases r1 with
  | cons r rr =>
    cases rr with
    | cons r' rr =>
      cases rr with
      | cons r'' rr =>
        cases rr
        obtain ⟨t, rfl⟩ := r
        obtain ⟨t', rfl⟩ := r'
        obtain ⟨t'', rfl⟩ := r''
        refine call_range_3 (by decide) ?_ (.inl (PyProof.noPylong_small (by decide)))
        refine wpAny_pyIter_range (IsRange.new ..) (small_down q1 q2 q3 q4) ?_
        have I2 : Inv X pins σ H1 { s1 with heap := s1.heap.push { cls := .type "range", data := .fields #[.int i t, .int j t', .int (-1) t''] }, toks := s1.toks } := I1.kept fun b o e => Heap.get?_push_of_some _ e
        refine ⟨(s1.heap.push { cls := .type "range", data := .fields #[.int i t, .int j t', .int (-1) t''] }).objs.size, [(s1.heap.push { cls := .type "range", data := .fields #[.int i t, .int j t', .int (-1) t''] }).objs.size], _, _, H1, rfl,
          I2.kept (t' := s1.toks) fun b o e => Heap.get?_push_of_some _ e, turn_down _ i (i - j).toNat, ?_, fun b hb => ?_, q⟩
        · have e1 : i + ((0 : Nat) : Int) * (-1) = i := by simp
          have e2 : (((i - j).toNat : Nat) : Int) - ((0 : Nat) : Int) = Builtin.Range.rangeSize i j (-1) := by rw [size_down]; split <;> omega
          show IsRangeIter _ _ (i + ((0 : Nat) : Int) * (-1)) ((((i - j).toNat : Nat) : Int) - ((0 : Nat) : Int)) (-1)
          rw [e1, e2]
          exact Heap.get?_push_size _ rfl
        · have e : b = (s1.heap.push { cls := .type "range", data := .fields #[.int i t, .int j t', .int (-1) t''] }).objs.size := by simpa using hb
          subst e
          exact I2.fpOk (Nat.le_refl _) (I2.hok.fresh (Nat.le_refl _))
theorem turn_rev {P : Program} {w : World} {K : W.Frag} {tg : Expr} (a it : Addr) (n : Nat) : Turn P w K tg (Itv K a n) [it] it (fun i h => h.IsRevIter it a ((n : Int) - 1 - (i : Int))) where
  mem := by simp
  obj := fun i h st b hb => by
    have e : b = it := by simpa using hb
    subst e
    obtain ⟨o, e, c, d⟩ := st
    exact ⟨o, e, fun v z => by rw [d] at z; cases z⟩
  keep := fun i h h' st k => st.at fun o e => k it (by simp) o e
  item := by
    intro X hP hw hK hc i pins s σ H E I hf st hg
    subst hP hw hK
    obtain ⟨hi, xs, hq, hn⟩ := hg
    obtain ⟨its, rv, p, hz⟩ := I.list hq
    have hx : xs[n - 1 - i]? = some (xs[n - 1 - i]'(by omega)) := List.getElem?_eq_getElem (by omega)
    obtain ⟨u, hu, ru⟩ := rv.get hx
    obtain ⟨f0, f1, f2, f3, f4, f5⟩ := hf it (by simp)
    have st2 : s.heap.IsRevIter it a ((n - 1 - i : Nat) : Int) := by rw [show ((n - 1 - i : Nat) : Int) = (n : Int) - 1 - (i : Int) by omega]; exact st
    refine wpAny_pyNext_rev_item st2 p.isList (x := u) (by simpa using hu) fun h' st' sb => ?_
    have I1 : Inv X pins σ H { s with heap := h' } := I.turned (t' := s.toks) (fun b o hb e => (sb.2 b hb).trans e) f0 f1 f3 f4 f5
    obtain ⟨o, e, c, d⟩ := id st'
    have st3 : h'.IsRevIter it a ((n : Int) - 1 - ((i + 1 : Nat) : Int)) := by rw [show (n : Int) - 1 - ((i + 1 : Nat) : Int) = ((n - 1 - i : Nat) : Int) - 1 by omega]; exact st'
    exact ⟨u, rfl, go_of (s := { s with heap := h' }) e c d (by decide) ⟨_, H, I1, ru, ⟨rfl, fun ys hy => by rw [I.list_inj hy hq]; exact hx⟩, st3, fun b hb => (hf b hb).1⟩⟩
  done := by
    intro X hP hw hK hc i pins s σ H E I hf st hg
    subst hP hw hK
    have hg' : n = i := hg
    subst hg'
    obtain ⟨f0, f1, f2, f3, f4, f5⟩ := hf it (by simp)
    have st2 : s.heap.IsRevIter it a (-1) := by rw [show (-1 : Int) = (n : Int) - 1 - (n : Int) by omega]; exact st
    exact wpAny_pyNext_rev_end (I.ok.hd hc) st2 fun h' eb => ⟨rfl, I.turned (t' := s.toks) (fun b o hb e => eb b o hb e) f0 f1 f3 f4 f5⟩
  self := fun _ _ _ _ _ st h => wpAny_pyIter_revIter st h
theorem pi_rev {X : Cx} {tg : Expr} {a : Expr} {ta : TA} {p pos : Pos} (hg : Gl X "reversed") (hm : X.mg "reversed" = none) (ha : PA X [a] ta) (hs : starEach [a] X.env = [(false, eval a X.env)] := by rfl) : PI X tg (.Call (.Name "reversed" p) [a] [] pos) (iRev X.K ta) := by
  intro pins s σ H R I h
  refine Call_ (ld_blt I hg hm bt_reversed (PyProof.Rows.callWith_type1 (thn (ha pos pins s σ H _ I h) fun us s1 ⟨vs, H1, I1, r1, q1⟩ => ?_) hs rfl))
  obtain ⟨b, xs, rfl, hq, q⟩ := q1
  obtain ⟨u, rfl, ru⟩ := vals1 r1
  cases ru
  obtain ⟨its, rv, pl, hz⟩ := I1.list hq
  refine call_reversed_list pl.isList ?_
  have I2 : Inv X pins σ H1 { s1 with heap := s1.heap.push (revObj b ((its.toArray.size : Int) - 1)) } := I1.kept (t' := s1.toks) fun b o e => Heap.get?_push_of_some _ e
  have hl := rv.length
  have si : (s1.heap.push (revObj b ((its.toArray.size : Int) - 1))).IsRevIter s1.heap.objs.size b ((xs.length : Int) - 1 - ((0 : Nat) : Int)) := by
    rw [show (xs.length : Int) - 1 - ((0 : Nat) : Int) = (its.toArray.size : Int) - 1 by rw [List.size_toArray]; omega]
    exact ⟨_, Heap.get?_push_size _ rfl, rfl, rfl⟩
  refine wpAny_pyIter_revIter si ⟨_, [s1.heap.objs.size], _, _, H1, rfl, I2, turn_rev b _ xs.length, si, fun c hc => ?_, q⟩
  have z : c = s1.heap.objs.size := by simpa using hc
  subst z
  exact I1.fpOk (Nat.le_refl _) (I1.hok.fresh (Nat.le_refl _))
end Bs
namespace Bs
open PySem L2
def rIsN : R2 := fun x y H Q => y = .non ∧ Q (.bl (decide (x = .non))) H
def rNotN : R2 := fun x y H Q => y = .non ∧ Q (.bl (!decide (x = .non))) H
def DivR (_ j : Int) : Prop := 0 < j
def DivS (_ j : Int) : Prop := j ≠ 0
abbrev iDivR : R2 := rI DivR fun i j => .int (i / j)
abbrev iDivS : R2 := rI DivS fun i j => .int (i.fdiv j)
def Itz (K : W.Frag) (a b : Addr) : It :=
  ⟨fun i H => ∃ xs ys x y, SqL K H a xs ∧ SqL K H b ys ∧ xs[i]? = some x ∧ ys[i]? = some y, fun i H v H' => ∃ p x y, H p = none ∧ v = .ref p ∧ H' = upd H p (.tup [x, y]) ∧ (∀ xs, SqL K H a xs → xs[i]? = some x) ∧ ∀ ys, SqL K H b ys → ys[i]? = some y, fun i H => ∃ xs ys, SqL K H a xs ∧ SqL K H b ys ∧ xs.length ≤ i⟩
def CompF (J : It) (capt : List (Option Nat)) (g : TG) (tc : TT) (te : TE) (σ : L2.St) (Q : VK) (H1 : Hp) : Prop := ∃ (n : Nat) (W : Nat → List V → Hp → Prop), W 0 [] H1 ∧ ∀ i ys H, W i ys H → i ≤ n ∧ ys.length ≤ sizeLine ∧
  ((J.stop i H ∧ ∀ p, H p = none → Q (.ref p) (upd H p (.lst ys))) ∨ (i < n ∧ J.go i H ∧ ∀ x H', J.yld i H x H' → g x (blkSt capt σ) H' fun σ2 H2 => tc σ2 H2 fun b H3 => if b = true then te σ2 H3 fun y H4 => W (i + 1) (ys ++ [y]) H4 else W (i + 1) ys H3))
section
variable {K : W.Frag} {ta : TA} {tl : TE} {capt : List (Option Nat)} {g : TG} {tc : TT} {te : TE} {tb : TS} {D : Ends} {σ : L2.St} {H : Hp} {Q : VK} {a b : Addr} {xs ys : List V}
theorem CompF.lst (W : Nat → List V → Hp → Prop) (h0 : W 0 [] H) (hb : ∀ i ys H, W i ys H → i ≤ xs.length ∧ ys.length ≤ sizeLine ∧ SqL K H a xs)
    (hs : ∀ i x ys H, xs[i]? = some x → W i ys H → g x (blkSt capt σ) H fun σ2 H2 => tc σ2 H2 fun b H3 => if b = true then te σ2 H3 fun y H4 => W (i + 1) (ys ++ [y]) H4 else W (i + 1) ys H3) (hd : ∀ ys H, W xs.length ys H → ∀ p, H p = none → Q (.ref p) (upd H p (.lst ys))) : CompF (Itl K a) capt g tc te σ Q H := by
  refine ⟨xs.length, W, h0, fun i ys H w => ⟨(hb i ys H w).1, (hb i ys H w).2.1, ?_⟩⟩
  have q : SqL K H a xs := (hb i ys H w).2.2
  by_cases h : i < xs.length
  · refine .inr ⟨h, ⟨xs, xs[i], q, by simp [h]⟩, fun x H' y => ?_⟩
    obtain ⟨e, y⟩ := y
    subst e
    exact hs i x ys _ (y xs q) w
  · have e : i = xs.length := Nat.le_antisymm (hb i ys H w).1 (Nat.not_lt.mp h)
    subst e
    exact .inl ⟨⟨xs, q, Nat.le_refl _⟩, hd ys H w⟩
theorem CompJ.zip (hl : xs.length = ys.length) (W : Nat → List V → Hp → Prop) (h0 : W 0 [] H) (hb : ∀ i zs H, W i zs H → i ≤ xs.length ∧ zs.length ≤ sizeLine ∧ SqL K H a xs ∧ SqL K H b ys)
    (hs : ∀ i x y zs H p, xs[i]? = some x → ys[i]? = some y → W i zs H → H p = none → g (.ref p) (blkSt capt σ) (upd H p (.tup [x, y])) fun σ2 H2 => te σ2 H2 fun z H3 => W (i + 1) (zs ++ [z]) H3) (hd : ∀ zs H, W xs.length zs H → ∀ p, H p = none → Q (.ref p) (upd H p (.lst zs))) : CompJ (Itz K a b) capt g te σ Q H := by
  refine ⟨xs.length, W, h0, fun i zs H w => ⟨(hb i zs H w).1, (hb i zs H w).2.1, ?_⟩⟩
  obtain ⟨_, _, q, q2⟩ := hb i zs H w
  by_cases h : i < xs.length
  · refine .inr ⟨h, ⟨xs, ys, xs[i], ys[i], q, q2, by simp [h], by simp [hl ▸ h]⟩, fun v H' y => ?_⟩
    obtain ⟨p, x, y, hp, e1, e2, h1, h2⟩ := y
    subst e1 e2
    exact hs i x y zs _ p (h1 xs q) (h2 ys q2) w hp
  · have e : i = xs.length := Nat.le_antisymm (hb i zs H w).1 (Nat.not_lt.mp h)
    subst e
    exact .inl ⟨⟨xs, ys, q, q2, Nat.le_refl _⟩, hd zs H w⟩
end
end Bs
namespace Bs
open PySem PySem.Spec PyProof.Rows L2
section
variable {X : Cx} {pins : List (Addr × Obj)} {σ : L2.St} {H : Hp} {s : Shared}
theorem op_fdivS : OpR X (binaryOp .FloorDiv) iDivS := by
  intro pins s σ H x y v u Q I rx ry ⟨i, j, ex, ey, hc, q⟩
  subst ex ey
  obtain ⟨t, rfl⟩ := rx
  obtain ⟨t2, rfl⟩ := ry
  exact floordiv_int hc ⟨.int (i.fdiv j), H, I.tok _, ⟨_, rfl⟩, q⟩ (Or.inr (I.ok.plr s I.bk))
theorem op_fdivR : OpR X (binaryOp .FloorDiv) iDivR := by
  intro pins s σ H x y v u Q I rx ry ⟨i, j, ex, ey, hc, q⟩
  have hc' : 0 < j := hc
  replace q : Q (.int (i / j)) H := q
  rw [← Int.fdiv_eq_ediv_of_nonneg i (Int.le_of_lt hc')] at q
  exact op_fdivS pins s σ H x y v u Q I rx ry ⟨i, j, ex, ey, Int.ne_of_gt hc', q⟩
end
section
variable {X : Cx} {elts : List Expr} {k : Nat} {tpos : Pos} {a b : Expr} {ta : TA} {p pos : Pos}
theorem vals2 {x y : V} {us : List Value} (r : Vals [x, y] us) : ∃ u v, us = [u, v] ∧ RelV x u ∧ RelV y v := r.two
end
theorem int_vals : ∀ {ns : List Int} {us : List Value} {i : Nat} {u : Value}, Vals (ns.map V.int) us → us[i]? = some u → ∃ n t, ns[i]? = some n ∧ u = Value.int n t
  | [], _, _, _, .nil, e => by simp at e
  | n :: ns, _, 0, _, .cons r _, e => by
    simp at e; subst e
    obtain ⟨t, rfl⟩ := r
    exact ⟨n, t, rfl, rfl⟩
  | _ :: ns, _, i + 1, u, .cons _ r, e => by
    obtain ⟨n, t, h1, h2⟩ := int_vals (i := i) (u := u) r (by simpa using e)
    exact ⟨n, t, by simpa using h1, h2⟩
section
variable {X : Cx}
end
section
variable {prog : Program} {w : World} {A : Around} {R : Result → Shared → Prop} {I : Addr} {fp wr : List Addr} {n : Nat} {P : Nat → Value → Prop} {St : Nat → Heap → Prop} {d : Value}
end
section
variable {X : Cx} {e : Expr} {te : TE} {p pos kp1 kp2 : Pos} {kk : Nat}
end
end Bs
namespace Bs
open PySem PySem.Spec PyProof.Rows L2
section
variable {X : Cx} {pins : List (Addr × Obj)} {σ : L2.St} {H : Hp} {s : Shared} {N : List Str} {capt : List (Option Nat)} {scope : Scope} {cl : List (Str × Addr)} {C : Addr} {fp : List Addr}
end
end Bs
namespace Bs
open PySem L2
def sS (K : W.Frag) : V → Option Int → Option Int → Hp → VK → Prop := fun x lo hi H Q => ∃ a xs, x = .ref a ∧ SqL K H a xs ∧ ∀ p, H p = none → Q (.ref p) (upd H p (.lst (cutV xs lo hi)))
def bSumL : List V → Hp → VK → Prop := fun xs H Q => ∃ (p : Addr) (ns : List Int), xs = [.ref p] ∧ H p = some (.lst (ns.map V.int)) ∧ Q (.int ns.sum) H
end Bs
namespace Bs
open PySem PySem.Spec PyProof.Rows L2
section
variable {X : Cx}
theorem sl_script : SlR X (sS X.K) := sl_list
theorem preSum_take (ns : List Int) : ∀ k, k ≤ ns.length → preSum (fun i => ns.getD i 0) k = (ns.take k).sum
  | 0, _ => rfl
  | k + 1, h => by
    have e : ns.take (k + 1) = ns.take k ++ [ns.getD k 0] := by
      rw [List.take_add_one, List.getD_eq_getElem?_getD, List.getElem?_eq_getElem (by omega)]; rfl
    show preSum _ k + _ = _
    rw [e, preSum_take ns k (by omega), List.sum_append]
    simp
theorem call_sumL (hc : X.calm = true) : CallR X (.builtin "sum") bSumL := fun pins s σ H xs us Q I r ⟨p, ns, e, hp, q⟩ => by
  subst e
  obtain ⟨u, rfl, ru⟩ := vals1 r
  cases ru
  obtain ⟨its, rv, pl, hz⟩ := I.list (SqL.of hp)
  have hl : ns.length = its.length := by have := rv.length; simpa using this
  refine call_sum_walkG (wpAny_pyIter_list pl.isList ⟨s.heap.objs.size, [s.heap.objs.size, p], [s.heap.objs.size], its.toArray.size, _, _, fun i => ns.getD i 0, rfl, Walks.list (A := X.A.in1) (show X.A.in1.handled = none from I.ok.hd hc) s.heap.objs.size p (Nat.ne_of_lt pl.lt) _, ⟨⟨_, Heap.get?_push_size _ rfl, rfl, rfl⟩, pl.isList.push _⟩, ?_, ?_, fun g tk t gk => ?_⟩)
  · intro b hb
    have z : b = s.heap.objs.size ∨ b = p := by simpa using hb
    rcases z with z | z
    · rw [z]; exact Heap.lt_size (Heap.get?_push_size _ rfl)
    · obtain ⟨o, _, ho, _⟩ := pl
      rw [z]; exact Heap.lt_size (Heap.get?_push_of_some _ ho)
  · intro i v hP
    obtain ⟨n, t, h1, rfl⟩ := int_vals rv (show its[i]? = some v by simpa using hP)
    have e : ns.getD i 0 = n := by rw [List.getD_eq_getElem?_getD, h1]; rfl
    exact ⟨t, by show Value.int n t = Value.int (ns.getD i 0) t; rw [e]⟩
  · have kk : ∀ b o, s.heap.get? b = some o → g.get? b = some o := fun b o e => gk b o (fun z => absurd (Heap.lt_size e) (by rw [List.mem_singleton.mp z]; exact Nat.lt_irrefl _)) (Heap.get?_push_of_some _ e)
    refine ⟨.int ns.sum, H, I.kept kk, ⟨t, ?_⟩, q⟩
    have e := preSum_take ns ns.length (Nat.le_refl _)
    rw [List.take_length] at e
    rw [List.size_toArray, ← hl, e]
end
end Bs
namespace Bs
open PySem L2
end Bs
namespace Bs
open PySem PySem.Spec PyProof.Rows L2
end Bs
namespace Bs
open PySem L2
def gTK (K : W.Frag) : R2 := fun x y H Q => ∃ p i xs v, x = .ref p ∧ y = .int i ∧ SqT K H p xs ∧ atI xs i = some v ∧ Q v H
def rRepT (K : W.Frag) : R2 := fun x y H Q => ∃ a k xs, x = .ref a ∧ y = .int k ∧ SqT K H a xs ∧ xs ≠ [] ∧ 1 ≤ k ∧ k < 2 ^ 62 ∧ xs.length * k.toNat ≤ sizeLine ∧
  (k = 1 → Q (.ref a) H) ∧ (2 ≤ k → ∀ p, H p = none → Q (.ref p) (upd H p (.tup (List.replicate k.toNat xs).flatten)))
end Bs
namespace Bs
open PySem PySem.Spec PyProof.Rows L2
open Builtin
theorem noFill_tuple_mul : fillsNumberSlot (.type "tuple") "mul" = pure false :=
  PySem.fillsNumberSlot_seq (id := "tuple.__mul__") (r := some (.builtin "tuple.__rmul__")) F.slot_tuple_mul.lookup (by decide +kernel) F.slot_tuple_rmul.lookup (by decide +kernel)
theorem repeat_tuple : seqRepeat? (.type "tuple") = pure (some (.builtin "tuple.__mul__")) := by
  unfold seqRepeat?
  rw [PySem.seqSlot_of (T := "tuple") (name := "__mul__") (id := "tuple.__mul__") F.slot_tuple_mul.lookup (by decide +kernel), PySem.seqSlot_of (T := "tuple") (name := "__rmul__") (id := "tuple.__rmul__") F.slot_tuple_rmul.lookup (by decide +kernel)]
  rfl
theorem int_rmul_tuple (a : Int) (t : Tok) (l : Addr) (items : Array Value) (n : Nat) (dc : Option Addr) (sl : Array (Option Value)) :
    Meets (Builtin.«int.__rmul__» ⟨[.int a t, .ref l], []⟩) (fun _ R s => s.heap.get? l = some ⟨.type "tuple", dc, .seq items n, sl⟩ ∧ R (.ok (.ret Value.notImplemented)) s) :=
  .of_wp fun prog w A R s h => by obtain ⟨hp, g, d, tk, os⟩ := s; obtain ⟨hl, h⟩ := h; wp_walk; exact ⟨_, rfl, h⟩
theorem tuple_mul1 (t : Tok) (l : Addr) (dc : Option Addr) (sl : Array (Option Value)) (items : Array Value) (n : Nat) :
    Meets (Builtin.«tuple.__mul__» ⟨[.ref l, .int 1 t], []⟩) (fun _ R s => s.heap.get? l = some ⟨.type "tuple", dc, .seq items n, sl⟩ ∧ R (.ok (.ret (.ref l))) s) :=
  .of_wp fun prog w A R s h => by
    obtain ⟨hp, g, d, tk, os⟩ := s; obtain ⟨hl, h⟩ := h
    wp_walk
    exact ⟨_, rfl, h⟩
theorem tuple_mul2 (a : Int) (t : Tok) (l : Addr) (dc : Option Addr) (sl : Array (Option Value)) (items : Array Value) (n : Nat) (h1 : 2 ≤ a) (h2 : a < 2 ^ 62) (hi : items.isEmpty = false) (hz : ¬ ((items.size : Int) * a > (2 ^ 63 - 1) / 8)) (hm : ¬ Tuple.tupleTooMany (items.size * a) = true) (hs : ¬ (List.foldl (fun x1 x2 => x1 ++ x2) #[] (List.replicate a.toNat items)).size > sizeLine) :
    Meets (Builtin.«tuple.__mul__» ⟨[.ref l, .int a t], []⟩) (fun _ R s => s.heap.get? l = some ⟨.type "tuple", dc, .seq items n, sl⟩ ∧ R (.ok (.ret (.ref s.heap.objs.size))) { s with heap := s.heap.push ⟨.type "tuple", none, .seq (List.foldl (fun x1 x2 => x1 ++ x2) #[] (List.replicate a.toNat items)) 0, #[]⟩ }) :=
  .of_wp fun prog w A R s h => by
    obtain ⟨hp, g, d, tk, os⟩ := s; obtain ⟨hl, h⟩ := h
    have e1 : (decide (a < -2 ^ 63) || decide (a ≥ 2 ^ 63)) = false := by simp; omega
    have e2 : (items.isEmpty || a == 1) = false := by rw [hi]; simp; omega
    have e3 : (decide (a ≤ 0) || items.isEmpty) = false := by rw [hi]; simp; omega
    wp_walk
    rw [if_neg (by rw [e1]; decide)]
    wp_walk
    rw [if_neg (by rw [e2]; decide)]
    wp_walk
    rw [if_neg (by rw [e3]; decide)]
    wp_walk
    rw [if_neg hz]
    wp_walk
    exact ⟨_, rfl, h⟩
section
variable {X : Cx}
theorem ix_tupK : IxR X (gTK X.K) := by
  intro value slice pins s σ H x y v u Q I rx ry h hs
  obtain ⟨p, i, xs, w, e1, e2, hp, ha, q⟩ := h
  exact ix_tup value slice pins s σ H x y v u Q I rx ry ⟨p, xs, i, w, e1, e2, hp, ha, q⟩ hs
theorem op_repT : OpR X (binaryOp .Mult) (rRepT X.K) := by
  intro pins s σ H x y v u Q I rx ry h
  obtain ⟨a, k, xs, rfl, rfl, ha, hx, k1, k2, hz, q1, q2⟩ := h
  cases rx
  obtain ⟨t, rfl⟩ := ry
  obtain ⟨its, r, p, _⟩ := I.tuple ha
  have hl := r.length
  have hne : its ≠ [] := fun z => hx (r.nil_iff.mp z)
  obtain ⟨⟨c, dc, dt, sl⟩, e, hc, n, hd⟩ := p
  simp only at hc hd
  subst hc hd
  by_cases c1 : k = 1
  · subst c1
    exact wpAny_binaryOp_repeat_ref (T := "tuple") (U := "int") (by decide) ⟨_, e, rfl⟩ (fun s' => typeIs_int s' 1 t) noFill_tuple_mul F.fills_int_mul F.slot_int_rmul repeat_tuple F.slot_int_index.lookup
      (call_meets F.slot_int_rmul (typeIs_int s 1 t) F.entry_int_rmul (F.args_int_rmul_2 _ _) (int_rmul_tuple 1 t a its.toArray n dc sl)
        ⟨e, rfl, ⟨_, e, rfl⟩, call_meets F.slot_tuple_mul ⟨_, e, rfl⟩ F.entry_tuple_mul (F.args_tuple_mul_2 _ _) (tuple_mul1 t a dc sl its.toArray n) ⟨e, ⟨.ref a, H, I, rfl, q1 rfl⟩⟩⟩)
  have k2' : 2 ≤ k := by omega
  have hlen : its.toArray.size * k.toNat ≤ sizeLine := by rw [List.size_toArray, ← hl]; exact hz
  have hf : List.foldl (fun x1 x2 => x1 ++ x2) #[] (List.replicate k.toNat its.toArray) = (List.replicate k.toNat its).flatten.toArray := by
    have := foldl_rep its k.toNat []
    rw [List.nil_append] at this
    exact this
  have hflat : ((List.replicate k.toNat its).flatten).length = k.toNat * its.length := len_rep ..
  have hint : ((its.toArray.size : Nat) : Int) * k = ((its.toArray.size * k.toNat : Nat) : Int) := by rw [Int.natCast_mul, Int.toNat_of_nonneg (by omega)]
  have hi : its.toArray.isEmpty = false := by
    cases its with
    | nil => exact absurd rfl hne
    | cons _ _ => rfl
  have cap : (sizeLine : Nat) ≤ (2 ^ 63 - 1) / 8 := by decide
  refine wpAny_binaryOp_repeat_ref (T := "tuple") (U := "int") (by decide) ⟨_, e, rfl⟩ (fun s' => typeIs_int s' k t) noFill_tuple_mul F.fills_int_mul F.slot_int_rmul repeat_tuple F.slot_int_index.lookup
    (call_meets F.slot_int_rmul (typeIs_int s k t) F.entry_int_rmul (F.args_int_rmul_2 _ _) (int_rmul_tuple k t a its.toArray n dc sl)
      ⟨e, rfl, ⟨_, e, rfl⟩, call_meets F.slot_tuple_mul ⟨_, e, rfl⟩ F.entry_tuple_mul (F.args_tuple_mul_2 _ _) (tuple_mul2 k t a dc sl its.toArray n k2' k2 hi (by rw [hint]; omega) (fun z => Nat.not_lt.mpr hlen (Int.ofNat_lt.mp (show ((sizeLine : Nat) : Int) < ((its.toArray.size * k.toNat : Nat) : Int) by rw [← hint]; exact of_decide_eq_true z))) (by rw [hf, List.size_toArray, hflat, Nat.mul_comm]; exact Nat.not_lt.mpr hlen)) ⟨e, ?_⟩⟩)
  rw [hf]
  refine ⟨.ref s.heap.objs.size, _, I.laid (t' := s.toks) (o := .tup (List.replicate k.toNat xs).flatten) (fun b ob q => Heap.get?_push_of_some _ q) (Nat.le_refl _) ?_, rfl, q2 k2' _ (I.hok.fresh (Nat.le_refl _))⟩
  exact ⟨by rw [len_rep, Nat.mul_comm]; exact hz, _, r.rep k.toNat, IsTup.new _ _⟩
end
end Bs
namespace Bs
theorem Bd.one : Bd 1 1 := by unfold Bd; decide
theorem Bd.pow {b : Nat} {x : Int} (h : Bd b x) (k : Nat) : Bd (b * k + 1) (x ^ k) := by
  induction k with
  | zero => rw [Int.pow_zero, Nat.mul_zero]; exact Bd.one
  | succ k ih =>
    have e : b * (k + 1) + 1 = (b * k + 1) + b := by rw [Nat.mul_add, Nat.mul_one]; omega
    rw [Int.pow_succ, e]
    exact ih.mul h
end Bs
namespace Bs
abbrev Nu := Int × Int
def red (n m : Int) : Nu := (n / ((Int.gcd n m : Nat) : Int), m / ((Int.gcd n m : Nat) : Int))
def nsub (q r : Nu) : Nu := red (q.1 * r.2 - r.1 * q.2) (q.2 * r.2)
def nmul (q r : Nu) : Nu := red (q.1 * r.1) (q.2 * r.2)
def Wo (q : Nu) (n m : Int) : Prop := q.1 * m = n * q.2
theorem red_low {n m : Int} (hm : 0 < m) : Low (red n m).1 (red n m).2 := (lowest_math (a := n) hm).1
theorem red_wo {n m : Int} (hm : 0 < m) : Wo (red n m) n m := by
  have h := (ratio_math (a := n) (b := m) (s := ((Int.gcd n m : Nat) : Int)) (by omega) (by rw [if_neg (by omega)])).2.2.2.1
  rw [Int.fdiv_eq_ediv_of_nonneg _ (by omega), Int.fdiv_eq_ediv_of_nonneg _ (by omega)] at h
  exact h
theorem dvd_of_low {a b d : Int} (h : Low a b) (hd : b ∣ a * d) : b ∣ d := by
  have c : Nat.Coprime b.natAbs a.natAbs := by
    have : Nat.Coprime a.natAbs b.natAbs := h.one
    exact this.symm
  have z := Int.natAbs_dvd_natAbs.mpr hd
  rw [Int.natAbs_mul] at z
  exact Int.natAbs_dvd_natAbs.mp (c.dvd_of_dvd_mul_left z)
theorem low_unique {a b c d : Int} (h1 : Low a b) (h2 : Low c d) (h : a * d = c * b) : a = c ∧ b = d := by
  have d1 : b ∣ d := dvd_of_low h1 ⟨c, by rw [h, Int.mul_comm]⟩
  have d2 : d ∣ b := dvd_of_low h2 ⟨a, by rw [← h, Int.mul_comm]⟩
  have e : b = d := Int.dvd_antisymm (Int.le_of_lt h1.pos) (Int.le_of_lt h2.pos) d1 d2
  subst e
  exact ⟨Int.eq_of_mul_eq_mul_right (Int.ne_of_gt h1.pos) h, rfl⟩
theorem wo_unique {q r : Nu} {n m : Int} (h1 : Low q.1 q.2) (h2 : Low r.1 r.2) (hm : m ≠ 0) (w1 : Wo q n m) (w2 : Wo r n m) : q = r := by
  unfold Wo at w1 w2
  have e : q.1 * r.2 = r.1 * q.2 := by
    have z : m * (q.1 * r.2) = m * (r.1 * q.2) := by grind
    exact Int.eq_of_mul_eq_mul_left hm z
  obtain ⟨a, b⟩ := low_unique h1 h2 e
  exact Prod.ext a b
theorem wo_le {q : Nu} {n m : Int} (h1 : Low q.1 q.2) (hm : 0 < m) (w : Wo q n m) : q.1.natAbs ≤ n.natAbs ∧ q.2.natAbs ≤ m.natAbs := by
  have e : q = red n m := wo_unique h1 (red_low hm) (Int.ne_of_gt hm) w (red_wo hm)
  subst e
  exact ⟨(lowest_math (a := n) hm).2.1, (lowest_math (a := n) hm).2.2.1⟩
theorem nsub_low {q r : Nu} (h1 : 0 < q.2) (h2 : 0 < r.2) : Low (nsub q r).1 (nsub q r).2 := red_low (Int.mul_pos h1 h2)
theorem nmul_low {q r : Nu} (h1 : 0 < q.2) (h2 : 0 < r.2) : Low (nmul q r).1 (nmul q r).2 := red_low (Int.mul_pos h1 h2)
def trimN (l : List Nu) : Nat → Nat
  | 0 => 0
  | m + 1 => if (l.getD m (1, 1)).1 = 0 then trimN l m else m + 1
def trim (l : List Nu) : List Nu := l.take (trimN l l.length)
def Nz (l : List Nu) : Prop := ∀ q, l.getLast? = some q → q.1 ≠ 0
theorem trim_id {l : List Nu} (h : Nz l) : trim l = l := by
  unfold trim
  have e : trimN l l.length = l.length := by
    cases hl : l.length with
    | zero => rfl
    | succ m =>
      unfold trimN
      have hm : m < l.length := by omega
      have z : (l.getD m (1, 1)).1 ≠ 0 := by
        have q := h l[m] (by rw [List.getLast?_eq_getElem?, hl]; simp [hm])
        rw [List.getD_eq_getElem?_getD, List.getElem?_eq_getElem hm]
        exact q
      rw [if_neg z]
  rw [e, List.take_length]
def AllLow (l : List Nu) : Prop := ∀ q ∈ l, Low q.1 q.2
def AllBd (n : Nat) (l : List Nu) : Prop := ∀ q ∈ l, Bd n q.1 ∧ Bd n q.2
def getN (l : List Nu) (i : Nat) : Nu := l.getD i (0, 1)
theorem low01 : Low 0 1 := ⟨by decide, by decide⟩
theorem getN_low {l : List Nu} (h : AllLow l) (i : Nat) : Low (getN l i).1 (getN l i).2 := by
  unfold getN
  rw [List.getD_eq_getElem?_getD]
  cases e : l[i]? with
  | none => exact low01
  | some q => exact h q (List.mem_of_getElem? e)
end Bs
namespace Bs
def clrB (l : List Nu) : Int := l.foldl (fun B q => B * (q.2 / ((Int.gcd B q.2 : Nat) : Int))) 1
def clrN (l : List Nu) : List Int := l.map fun q => q.1 * (clrB l / q.2)
theorem lcm_step {B d : Int} (hB : 0 < B) (hd : 0 < d) : 0 < B * (d / ((Int.gcd B d : Nat) : Int)) ∧ B ∣ B * (d / ((Int.gcd B d : Nat) : Int)) ∧ d ∣ B * (d / ((Int.gcd B d : Nat) : Int)) ∧ (d / ((Int.gcd B d : Nat) : Int)).natAbs ≤ d.natAbs ∧ 0 < ((Int.gcd B d : Nat) : Int) ∧ ((Int.gcd B d : Nat) : Int) ≤ d := by
  have g0 : 0 < Int.gcd B d := Int.gcd_pos_of_ne_zero_right B (by omega)
  obtain ⟨k, hk⟩ : ((Int.gcd B d : Nat) : Int) ∣ d := Int.gcd_dvd_right B d
  obtain ⟨m, hm⟩ : ((Int.gcd B d : Nat) : Int) ∣ B := Int.gcd_dvd_left B d
  have gp : (0 : Int) < ((Int.gcd B d : Nat) : Int) := by omega
  have e : d / ((Int.gcd B d : Nat) : Int) = k := by
    have z : d / ((Int.gcd B d : Nat) : Int) = (((Int.gcd B d : Nat) : Int) * k) / ((Int.gcd B d : Nat) : Int) := by rw [← hk]
    rw [z, Int.mul_ediv_cancel_left _ (Int.ne_of_gt gp)]
  have kp : 0 < k := by
    rcases Int.lt_or_le 0 k with h | h
    · exact h
    · exfalso
      have := Int.mul_nonneg (Int.le_of_lt gp) (show 0 ≤ -k by omega)
      rw [Int.mul_neg] at this
      omega
  have le : ((Int.gcd B d : Nat) : Int) ≤ d := Int.le_of_dvd hd (Int.gcd_dvd_right B d)
  refine ⟨by rw [e]; exact Int.mul_pos hB kp, Int.dvd_mul_right .., ?_, ?_, gp, le⟩
  · rw [e]
    refine ⟨m, ?_⟩
    have z : d * m = ((Int.gcd B d : Nat) : Int) * k * m := by rw [← hk]
    have z2 : B * k = ((Int.gcd B d : Nat) : Int) * m * k := by rw [← hm]
    rw [z, z2]; grind
  · rw [e]
    have z : d.natAbs = (Int.gcd B d) * k.natAbs := by
      have : d.natAbs = (((Int.gcd B d : Nat) : Int) * k).natAbs := by rw [← hk]
      rw [this, Int.natAbs_mul]; simp
    rw [z]
    exact Nat.le_mul_of_pos_left _ g0
theorem clrB_fold {b : Nat} : ∀ (l : List Nu) (B : Int) (c : Nat), (∀ q ∈ l, 0 < q.2 ∧ Bd b q.2) → 0 < B → Bd c B →
    0 < l.foldl (fun B q => B * (q.2 / ((Int.gcd B q.2 : Nat) : Int))) B ∧ B ∣ l.foldl (fun B q => B * (q.2 / ((Int.gcd B q.2 : Nat) : Int))) B ∧ (∀ q ∈ l, q.2 ∣ l.foldl (fun B q => B * (q.2 / ((Int.gcd B q.2 : Nat) : Int))) B) ∧ Bd (c + b * l.length) (l.foldl (fun B q => B * (q.2 / ((Int.gcd B q.2 : Nat) : Int))) B)
  | [], B, c, _, hB, bB => ⟨hB, Int.dvd_refl B, (fun _ h => nomatch h), by simpa using bB⟩
  | q :: l, B, c, h, hB, bB => by
    obtain ⟨q0, qb⟩ := h q (List.mem_cons_self ..)
    obtain ⟨s1, s2, s3, s4, _, _⟩ := lcm_step hB q0
    obtain ⟨r1, r2, r3, r4⟩ := clrB_fold l (B * (q.2 / ((Int.gcd B q.2 : Nat) : Int))) (c + b) (fun r hr => h r (List.mem_cons_of_mem _ hr)) s1 (bB.mul (qb.le s4))
    rw [List.foldl_cons]
    refine ⟨r1, Int.dvd_trans s2 r2, fun r hr => ?_, r4.mono (by rw [List.length_cons, Nat.mul_add, Nat.mul_one]; omega)⟩
    rcases List.mem_cons.mp hr with rfl | hr
    · exact Int.dvd_trans s3 r2
    · exact r3 r hr
theorem clrB_ok {b : Nat} {l : List Nu} (h1 : AllLow l) (h2 : AllBd b l) : 0 < clrB l ∧ (∀ q ∈ l, q.2 ∣ clrB l) ∧ Bd (1 + b * l.length) (clrB l) := by
  obtain ⟨r1, _, r3, r4⟩ := clrB_fold (b := b) l 1 1 (fun q hq => ⟨(h1 q hq).pos, (h2 q hq).2⟩) (by decide) Bd.one
  exact ⟨r1, r3, r4⟩
theorem natAbs_ediv_le {B d : Int} (hB : 0 < B) (hd : 0 < d) : (B / d).natAbs ≤ B.natAbs := by
  have h1 : 0 ≤ B / d := Int.ediv_nonneg (Int.le_of_lt hB) (Int.le_of_lt hd)
  have h2 : B / d ≤ B := Int.ediv_le_self d (Int.le_of_lt hB)
  omega
theorem clr_wo {q : Nu} {B : Int} (hd : q.2 ∣ B) : Wo q (q.1 * (B / q.2)) B := by
  unfold Wo
  rw [Int.mul_assoc, Int.ediv_mul_cancel hd]
theorem clrN_bd {b : Nat} {l : List Nu} (h1 : AllLow l) (h2 : AllBd b l) : ∀ z ∈ clrN l, Bd (b + (1 + b * l.length)) z := by
  intro z hz
  obtain ⟨q, hq, e⟩ := List.mem_map.mp hz
  subst e
  exact (h2 q hq).1.mul ((clrB_ok h1 h2).2.2.le (natAbs_ediv_le (clrB_ok h1 h2).1 (h1 q hq).pos))
def ps (ns ms : List Int) : Nat → Nat → Int
  | 0, _ => 0
  | i + 1, k => ps ns ms i k + (if i ≤ k ∧ k - i < ms.length then ns.getD i 0 * ms.getD (k - i) 0 else 0)
theorem getD_bd {c : Nat} {ns : List Int} (h : ∀ z ∈ ns, Bd c z) (i : Nat) : Bd c (ns.getD i 0) := by
  rw [List.getD_eq_getElem?_getD]
  cases e : ns[i]? with
  | none => exact Nat.pow_pos (by decide)
  | some z => exact h z (List.mem_of_getElem? e)
theorem bd_zero (c : Nat) : Bd c 0 := Nat.pow_pos (by decide)
end Bs
namespace Bs
def val (q : Nu) : Rat := (q.1 : Rat) / (q.2 : Rat)
theorem zdiv (x : Rat) : 0 / x = 0 := by rw [Rat.div_def, Rat.zero_mul]
theorem castNe {z : Int} (h : z ≠ 0) : (z : Rat) ≠ 0 := by exact_mod_cast h
theorem val_of_wo {q : Nu} {n m : Int} (hq : q.2 ≠ 0) (hm : m ≠ 0) (w : Wo q n m) : val q = (n : Rat) / (m : Rat) := by
  have h1 := castNe hq
  have h2 := castNe hm
  have w' : (q.1 : Rat) * m = n * q.2 := by unfold Wo at w; exact_mod_cast w
  unfold val
  grind
theorem val_inj {q r : Nu} (h1 : Low q.1 q.2) (h2 : Low r.1 r.2) (h : val q = val r) : q = r := by
  have a := castNe (Int.ne_of_gt h1.pos)
  have b := castNe (Int.ne_of_gt h2.pos)
  unfold val at h
  have z : (q.1 : Rat) * r.2 = r.1 * q.2 := by grind
  have z' : q.1 * r.2 = r.1 * q.2 := by exact_mod_cast z
  obtain ⟨x, y⟩ := low_unique h1 h2 z'
  exact Prod.ext x y
theorem val_red {n m : Int} (hm : 0 < m) : val (red n m) = (n : Rat) / (m : Rat) := val_of_wo (Int.ne_of_gt (red_low hm).pos) (Int.ne_of_gt hm) (red_wo hm)
theorem val_nmul {q r : Nu} (h1 : 0 < q.2) (h2 : 0 < r.2) : val (nmul q r) = val q * val r := by
  unfold nmul
  rw [val_red (Int.mul_pos h1 h2)]
  have a := castNe (Int.ne_of_gt h1)
  have b := castNe (Int.ne_of_gt h2)
  unfold val
  push_cast
  grind
def redG (n m : Int) : Nu := if m < 0 then red (-n) (-m) else red n m
theorem redG_low {n m : Int} (hm : m ≠ 0) : Low (redG n m).1 (redG n m).2 := by
  unfold redG
  split
  · exact red_low (by omega)
  · exact red_low (by omega)
theorem val_redG {n m : Int} (hm : m ≠ 0) : val (redG n m) = (n : Rat) / (m : Rat) := by
  unfold redG
  split
  · rw [val_red (by omega)]
    have := castNe hm
    push_cast
    grind
  · exact val_red (by omega)
theorem redG_dvd {n m N : Int} (hm : m ≠ 0) (h : m ∣ N) : (redG n m).2 ∣ N := by
  have aux : ∀ {n m : Int}, 0 < m → (red n m).2 ∣ m := fun {n m} h0 => by
    unfold red
    exact Int.ediv_dvd_of_dvd (Int.gcd_dvd_right n m)
  unfold redG
  split
  · exact Int.dvd_trans (aux (by omega)) (Int.dvd_trans (Int.neg_dvd.mpr (Int.dvd_refl m)) h)
  · exact Int.dvd_trans (aux (by omega)) h
theorem redG_bd {c d : Nat} {n m : Int} (hm : m ≠ 0) (h1 : Bd c n) (h2 : Bd d m) : Bd c (redG n m).1 ∧ Bd d (redG n m).2 := by
  have aux : ∀ {n m : Int}, 0 < m → Bd c n → Bd d m → Bd c (red n m).1 ∧ Bd d (red n m).2 := fun {n m} h0 h1 h2 => by
    have w := wo_le (red_low h0) h0 (red_wo (n := n) h0)
    exact ⟨h1.le w.1, h2.le w.2⟩
  unfold redG
  split
  · exact aux (by omega) h1.neg h2.neg
  · exact aux (by omega) h1 h2
def pwo (l : List Nu) (k : Nat) : Rat := val (getN l k)
def ovN (l : List Nu) (M : Int) : List Int := l.map fun q => q.1 * (M / q.2)
def Ov (l : List Nu) (M : Int) : Prop := 0 < M ∧ ∀ q ∈ l, q.2 ∣ M
theorem ovN_get {l : List Nu} {M : Int} (i : Nat) : (ovN l M).getD i 0 = (getN l i).1 * (M / (getN l i).2) := by
  unfold ovN getN
  rw [List.getD_eq_getElem?_getD, List.getD_eq_getElem?_getD, List.getElem?_map]
  cases l[i]? with
  | none => simp
  | some q => rfl
theorem Ov.get {l : List Nu} {M : Int} (h : Ov l M) (i : Nat) : (getN l i).2 ∣ M := by
  unfold getN
  rw [List.getD_eq_getElem?_getD]
  cases e : l[i]? with
  | none => exact Int.one_dvd M
  | some q => exact h.2 q (List.mem_of_getElem? e)
theorem ovN_wo {l : List Nu} {M : Int} (h : Ov l M) (i : Nat) : Wo (getN l i) ((ovN l M).getD i 0) M := by
  rw [ovN_get]
  exact clr_wo (h.get i)
theorem pv_ov {l : List Nu} {M : Int} (hl : AllLow l) (h : Ov l M) (i : Nat) : pwo l i = ((ovN l M).getD i 0 : Rat) / (M : Rat) := val_of_wo (Int.ne_of_gt (getN_low hl i).pos) (Int.ne_of_gt h.1) (ovN_wo h i)
theorem lcm_dvd {B d M : Int} (hB : 0 < B) (hd : 0 < d) (h1 : B ∣ M) (h2 : d ∣ M) : B * (d / ((Int.gcd B d : Nat) : Int)) ∣ M := by
  have z : ((Nat.lcm B.natAbs d.natAbs : Nat) : Int) ∣ M := Int.natAbs_dvd_natAbs.mp (by rw [Int.natAbs_natCast]; exact Nat.lcm_dvd (Int.natAbs_dvd_natAbs.mpr h1) (Int.natAbs_dvd_natAbs.mpr h2))
  have e : ((Nat.lcm B.natAbs d.natAbs : Nat) : Int) = B * (d / ((Int.gcd B d : Nat) : Int)) := by
    unfold Nat.lcm
    rw [Nat.mul_div_assoc _ (Nat.gcd_dvd_right _ _)]
    push_cast
    rw [show ((B.natAbs : Nat) : Int) = B by omega, show ((d.natAbs : Nat) : Int) = d by omega]
    rfl
  rw [← e]
  exact z
theorem fold_dvd {M : Int} : ∀ (l : List Nu) (B : Int), (∀ q ∈ l, 0 < q.2 ∧ q.2 ∣ M) → 0 < B → B ∣ M → 0 < l.foldl (fun B q => B * (q.2 / ((Int.gcd B q.2 : Nat) : Int))) B ∧ l.foldl (fun B q => B * (q.2 / ((Int.gcd B q.2 : Nat) : Int))) B ∣ M
  | [], B, _, hB, h => ⟨hB, h⟩
  | q :: l, B, hq, hB, h => by
    obtain ⟨q0, qd⟩ := hq q (List.mem_cons_self ..)
    obtain ⟨s1, _⟩ := lcm_step hB q0
    exact fold_dvd l _ (fun r hr => hq r (List.mem_cons_of_mem _ hr)) s1 (lcm_dvd hB q0 h qd)
theorem dvd_bd {n : Nat} {a b : Int} (hb : b ≠ 0) (h : a ∣ b) (bd : Bd n b) : Bd n a := bd.le (Nat.le_of_dvd (by omega) (Int.natAbs_dvd_natAbs.mpr h))
theorem clrB_ov {l : List Nu} (hl : AllLow l) : Ov l (clrB l) := by
  obtain ⟨a, b, _⟩ := clrB_ok (b := (l.foldl (fun n q => n + q.1.natAbs + q.2.natAbs) 1)) hl (fun q hq => by
    have big : ∀ (l : List Nu) (n : Nat), n ≤ l.foldl (fun n q => n + q.1.natAbs + q.2.natAbs) n ∧ ∀ q ∈ l, q.1.natAbs + q.2.natAbs ≤ l.foldl (fun n q => n + q.1.natAbs + q.2.natAbs) n := by
      intro l
      induction l with
      | nil => intro n; exact ⟨Nat.le_refl _, fun _ h => nomatch h⟩
      | cons r l ih =>
        intro n
        obtain ⟨i1, i2⟩ := ih (n + r.1.natAbs + r.2.natAbs)
        rw [List.foldl_cons]
        refine ⟨by omega, fun q hq => ?_⟩
        rcases List.mem_cons.mp hq with rfl | hq
        · omega
        · exact i2 q hq
    have z := (big l 1).2 q hq
    exact ⟨Nat.lt_of_le_of_lt (by omega) (Nat.lt_two_pow_self), Nat.lt_of_le_of_lt (by omega) (Nat.lt_two_pow_self)⟩)
  exact ⟨a, b⟩
theorem clrB_dvd {l : List Nu} {M : Int} (hl : AllLow l) (h : Ov l M) : clrB l ∣ M := (fold_dvd l 1 (fun q hq => ⟨(hl q hq).pos, h.2 q hq⟩) (by decide) (Int.one_dvd M)).2
theorem clrN_ov (l : List Nu) : clrN l = ovN l (clrB l) := rfl
end Bs
namespace Bs
open PySem L2
def isN (H : Hp) (v : V) (q : Nu) : Prop := ∃ p, v = .ref p ∧ H p = some (.tup [.int q.1, .int q.2])
def Nums (H : Hp) : List V → List Nu → Prop
  | [], [] => True
  | x :: xs, q :: l => isN H x q ∧ Nums H xs l
  | _, _ => False
def Tp (H H' : Hp) : Prop := ∀ b xs, H b = some (.tup xs) → H' b = some (.tup xs)
theorem tpS {H H' : Hp} (s : Same H H') : Tp H H' := fun b xs h => s b _ h
theorem Tp.trans {H H1 H2 : Hp} (a : Tp H H1) (b : Tp H1 H2) : Tp H H2 := fun c xs h => b c xs (a c xs h)
theorem Kp.tp {p : Addr} {H H' : Hp} {xs : List V} (k : Kp p H H') (h : H p = some (.lst xs)) : Tp H H' := fun b ys q => k b _ (ne_of q h (by intro z; cases z)) q
theorem isN.tp {H H' : Hp} {v : V} {q : Nu} (h : isN H v q) (t : Tp H H') : isN H' v q := let ⟨p, e, z⟩ := h; ⟨p, e, t _ _ z⟩
theorem Nums.tp {H H' : Hp} (t : Tp H H') : ∀ {xs : List V} {l : List Nu}, Nums H xs l → Nums H' xs l
  | [], [], _ => trivial
  | _ :: _, _ :: _, h => ⟨h.1.tp t, Nums.tp t h.2⟩
  | [], _ :: _, h => h.elim
  | _ :: _, [], h => h.elim
theorem Nums.length {H : Hp} : ∀ {xs : List V} {l : List Nu}, Nums H xs l → xs.length = l.length
  | [], [], _ => rfl
  | _ :: _, _ :: _, h => congrArg (· + 1) (Nums.length h.2)
  | [], _ :: _, h => h.elim
  | _ :: _, [], h => h.elim
theorem Nums.get {H : Hp} : ∀ {xs : List V} {l : List Nu} {i : Nat} {v : V}, Nums H xs l → xs[i]? = some v → ∃ q, l[i]? = some q ∧ isN H v q
  | [], [], _, _, _, e => by simp at e
  | _ :: _, q :: _, 0, _, h, e => by simp at e; subst e; exact ⟨q, rfl, h.1⟩
  | _ :: _, _ :: _, i + 1, _, h, e => by
    obtain ⟨q, h1, h2⟩ := Nums.get (i := i) h.2 (by simpa using e)
    exact ⟨q, by simpa using h1, h2⟩
  | [], _ :: _, _, _, h, _ => h.elim
  | _ :: _, [], _, _, h, _ => h.elim
theorem Nums.at {H : Hp} {xs : List V} {l : List Nu} {i : Nat} (h : Nums H xs l) (hi : i < l.length) (d : Nu) : ∃ v, xs[i]? = some v ∧ isN H v (l.getD i d) := by
  have hx : i < xs.length := by rw [h.length]; exact hi
  obtain ⟨q, h1, h2⟩ := h.get (List.getElem?_eq_getElem hx)
  refine ⟨_, List.getElem?_eq_getElem hx, ?_⟩
  rw [List.getD_eq_getElem?_getD, h1]
  exact h2
theorem Nums.append {H : Hp} : ∀ {xs ys : List V} {l m : List Nu}, Nums H xs l → Nums H ys m → Nums H (xs ++ ys) (l ++ m)
  | [], _, [], _, _, h => h
  | _ :: _, _, _ :: _, _, h, h2 => ⟨h.1, Nums.append h.2 h2⟩
  | [], _, _ :: _, _, h, _ => h.elim
  | _ :: _, _, [], _, h, _ => h.elim
theorem Nums.one {H : Hp} {v : V} {q : Nu} (h : isN H v q) : Nums H [v] [q] := ⟨h, trivial⟩
theorem Nums.take {H : Hp} : ∀ {xs : List V} {l : List Nu} (n : Nat), Nums H xs l → Nums H (xs.take n) (l.take n)
  | [], [], n, _ => by simp [Nums]
  | _ :: _, _ :: _, 0, _ => trivial
  | _ :: _, _ :: _, n + 1, h => ⟨h.1, Nums.take n h.2⟩
  | [], _ :: _, _, h => h.elim
  | _ :: _, [], _, h => h.elim
theorem Nums.set {H : Hp} {v : V} {q : Nu} (hv : isN H v q) : ∀ {xs : List V} {l : List Nu} (i : Nat), Nums H xs l → Nums H (xs.set i v) (l.set i q)
  | [], [], _, _ => trivial
  | _ :: _, _ :: _, 0, h => ⟨hv, h.2⟩
  | _ :: _, _ :: _, i + 1, h => ⟨h.1, Nums.set hv i h.2⟩
  | [], _ :: _, _, h => h.elim
  | _ :: _, [], _, h => h.elim
theorem Nums.rep {H : Hp} {v : V} {q : Nu} (hv : isN H v q) : ∀ n : Nat, Nums H (List.replicate n v) (List.replicate n q)
  | 0 => trivial
  | n + 1 => ⟨hv, Nums.rep hv n⟩
theorem flat_rep {α : Type} (v : α) : ∀ n : Nat, (List.replicate n [v]).flatten = List.replicate n v
  | 0 => rfl
  | n + 1 => by rw [List.replicate_succ, List.flatten_cons, flat_rep v n]; rfl
theorem atI_of {α : Type} {xs : List α} {i : Int} {j : Nat} {v : α} (e : i = (j : Int)) (h : xs[j]? = some v) : atI xs i = some v := by subst e; exact atI_nat h
theorem isN_new {H : Hp} {p : Addr} {q : Nu} : isN (upd H p (.tup [.int q.1, .int q.2])) (.ref p) q := ⟨p, rfl, upd_same⟩
theorem cutV_take {xs : List V} {m : Nat} (h : m ≤ xs.length) : cutV xs none (some (m : Int)) = xs.take m := by
  unfold cutV HT.sIx
  simp only [List.drop_zero, Nat.sub_zero, Int.toNat_natCast]
  rw [if_neg (by omega), Nat.min_eq_left h]
def OutP (H : Hp) (Q : VK) (l : List Nu) : Prop := ∀ (r : Addr) (zs : List V) (H' : Hp), Same H H' → H' r = some (.tup zs) → Nums H' zs l → Q (.ref r) H'
def datN (q : Nu) : PySem.W.Dat := .tuple [.int q.1, .int q.2]
def datP (l : List Nu) : PySem.W.Dat := .tuple (l.map datN)
theorem repN {H : Hp} {v : V} {q : Nu} (h : isN H v q) : RepD H v (datN q) := by
  obtain ⟨p, rfl, hp⟩ := h
  exact .tup hp (.cons (.int _) (.cons (.int _) .nil))
theorem repNs {H : Hp} : ∀ {xs : List V} {l : List Nu}, Nums H xs l → RepA H xs (l.map datN)
  | [], [], _ => .nil
  | _ :: _, _ :: _, h => .cons (repN h.1) (repNs h.2)
  | [], _ :: _, h => h.elim
  | _ :: _, [], h => h.elim
theorem repP {H : Hp} {p : Addr} {xs : List V} {l : List Nu} (hp : H p = some (.tup xs)) (h : Nums H xs l) : RepD H (.ref p) (datP l) := .tup hp (repNs h)
theorem okN (q : Nu) (n : Nat) : PySem.W.kqdOk (n + 1) (datN q) = true := by simp [datN, PySem.W.kqdOk]
theorem okP (l : List Nu) (n : Nat) : PySem.W.kqdOk (n + 2) (datP l) = true := by
  simp only [datP, PySem.W.kqdOk, List.all_map, List.all_eq_true, Function.comp]
  intro q _
  exact okN q n
end Bs
set_option maxHeartbeats 4000000
namespace Bs
def evF (f : Nat → Rat) (n : Nat) (x : Rat) : Nat → Rat
  | 0 => 0
  | d + 1 => f (n - 1 - d) + x * evF f n x d
theorem evF_congr {f g : Nat → Rat} {n : Nat} {x : Rat} : ∀ d, d ≤ n → (∀ i, n - d ≤ i → i < n → f i = g i) → evF f n x d = evF g n x d
  | 0, _, _ => rfl
  | d + 1, hd, h => by
    show f (n - 1 - d) + x * evF f n x d = g (n - 1 - d) + x * evF g n x d
    rw [evF_congr d (by omega) (fun i h1 h2 => h i (by omega) h2), h (n - 1 - d) (by omega) (by omega)]
theorem evF_over {f : Nat → Rat} {n : Nat} {x B : Rat} : ∀ d, evF (fun i => f i / B) n x d = evF f n x d / B
  | 0 => (zdiv B).symm
  | d + 1 => by
    show f (n - 1 - d) / B + x * evF (fun i => f i / B) n x d = (f (n - 1 - d) + x * evF f n x d) / B
    rw [evF_over d]
    grind
def sy (c : Int) (R : Nat → Int) (n : Nat) : Nat → Int
  | 0 => R (n - 1)
  | d + 1 => R (n - 1 - (d + 1)) + c * sy c R n d
def rnd (c : Int) (R : Nat → Int) (n first : Nat) (j : Nat) : Int := if j < first then R j else sy c R n (n - 1 - j)
def rnds (c : Int) (R : Nat → Int) (n : Nat) : Nat → Nat → Int
  | 0 => R
  | i + 1 => rnd c (rnds c R n i) n i
theorem sy_last {c : Int} {R : Nat → Int} {n first : Nat} (h : first < n) : rnd c R n first (n - 1) = R (n - 1) := by
  unfold rnd
  rw [if_neg (by omega), show n - 1 - (n - 1) = 0 by omega]
  rfl
theorem rnds_last {c : Int} {R : Nat → Int} {n : Nat} : ∀ i, i < n → rnds c R n i (n - 1) = R (n - 1)
  | 0, _ => rfl
  | i + 1, h => by
    show rnd c (rnds c R n i) n i (n - 1) = _
    rw [sy_last (by omega), rnds_last i (by omega)]
end Bs
namespace Bs
open PySem
def aX (K : W.Frag) : Addr := match PySem.W.nsIn K PySem.mainGlobals "X" with | some (some (.ref a)) => a | _ => 0
end Bs
namespace Bs
open PySem L2
abbrev Nm (H : Hp) (p : Addr) (t d : Int) : Prop := H p = some (.tup [.int t, .int d])
def sp_common_divisor (_ : W.Frag) : Sp := fun vs H Q _ => ∃ a b : Int, vs = [.int a, .int b] ∧ Q (.int ((Int.gcd a b : Nat) : Int)) H
def sp_law (K : W.Frag) : Sp := fun vs H Q _ => ∃ (a : Addr) (ns : List Int), vs = [.ref a] ∧ SqL K H a (ns.map V.int) ∧ ns.length ≤ 63 ∧ ∀ H', Q (.bl true) H'
def sp_raised (_ : W.Frag) : Sp := fun vs H Q _ => ∃ (x n : Int) (b : Nat), vs = [.int x, .int n] ∧ 0 ≤ n ∧ Bd b x ∧ b * n.toNat + 1 ≤ 8000 ∧ Q (.int (x ^ n.toNat)) H
def Pl (H : Hp) (r : Addr) (L : List Nu) : Prop := ∃ zs, H r = some (.tup zs) ∧ Nums H zs L
def sp_ratio (_ : W.Frag) : Sp := fun vs H Q _ => ∃ a b : Int, vs = [.int a, .int b] ∧ b ≠ 0 ∧ Bd 8000 b ∧ ∀ (p : Addr), H p = none → Q (.ref p) (upd H p (.tup [.int (redG a b).1, .int (redG a b).2]))
def sp_over (_ : W.Frag) : Sp := fun vs H Q _ => ∃ (p q : Addr) (a b c d : Int), vs = [.ref p, .ref q] ∧ Nm H p a b ∧ Nm H q c d ∧ 0 < b ∧ c ≠ 0 ∧ Bd 300000 a ∧ Bd 4000 b ∧ Bd 4000 c ∧ Bd 300000 d ∧
  ∀ (r : Addr), H r = none → Q (.ref r) (upd H r (.tup [.int (redG (a * d) (b * c)).1, .int (redG (a * d) (b * c)).2]))
def sp_two (f : Nu → Nu → Nu) (_ : W.Frag) : Sp := fun vs H Q _ => ∃ (p q : Addr) (a b c d : Int), vs = [.ref p, .ref q] ∧ Nm H p a b ∧ Nm H q c d ∧ 0 < b ∧ 0 < d ∧ Bd 300000 a ∧ Bd 4000 b ∧ Bd 300000 c ∧ Bd 4000 d ∧
  ∀ (r : Addr), H r = none → Q (.ref r) (upd H r (.tup [.int (f (a, b) (c, d)).1, .int (f (a, b) (c, d)).2]))
def sp_poly (_ : W.Frag) : Sp := fun vs H Q _ => ∃ (p : Addr) (xs : List V) (l : List Nu), vs = [.ref p] ∧ H p = some (.lst xs) ∧ Nums H xs l ∧ l.length ≤ 1000 ∧ OutP H Q (trim l)
def sp_cleared (_ : W.Frag) : Sp := fun vs H Q _ => ∃ (p : Addr) (xs : List V) (l : List Nu) (M : Int), vs = [.ref p] ∧ H p = some (.tup xs) ∧ Nums H xs l ∧ AllLow l ∧ Ov l M ∧ Bd 4000 M ∧ (∀ q ∈ l, Bd 50000 q.1) ∧ l.length ≤ 1000 ∧
  ∀ (r a : Addr) (H' : Hp), Same H H' → H' r = some (.tup [.ref a, .int (clrB l)]) → H' a = some (.lst ((clrN l).map V.int)) → Q (.ref r) H'
def sp_uncleared (_ : W.Frag) : Sp := fun vs H Q _ => ∃ (p : Addr) (ns : List Int) (B : Int), vs = [.ref p, .int B] ∧ H p = some (.lst (ns.map V.int)) ∧ B ≠ 0 ∧ Bd 8000 B ∧ ns.length ≤ 1000 ∧ OutP H Q (trim (ns.map fun n => redG n B))
def rowF (n : Nat) (f : Nat → Int) : List V := ((List.range n).map f).map V.int
def sp_row_moved (_ : W.Frag) : Sp := fun vs H Q _ => ∃ (p : Addr) (ns : List Int) (c : Int), vs = [.ref p, .int c] ∧ H p = some (.lst (ns.map V.int)) ∧ ns.length ≤ 9 ∧ (∀ z ∈ ns, Bd 2000 z) ∧ Bd 40 c ∧
  ∀ (r : Addr) (H' : Hp), Same H H' → H' r = some (.lst (rowF ns.length (rnds c (fun k => ns.getD k 0) ns.length (ns.length - 1)))) → Q (.ref r) H'
theorem tComp_et {K : W.Frag} {ta : TA} {g : TG} {σ : L2.St} {H : Hp} {capt : List (Option Nat)} {te : TE} {Q : VK} : tComp (iEnumT K ta) capt g te σ H Q = ta σ H (fun vs H1 => ∃ a, vs = [.ref a] ∧ (∃ xs, SqT K H1 a xs) ∧ CompJ (IteT K a) capt g te σ Q H1) := rfl
end Bs
namespace Bs
open PySem L2
def XOk (K : W.Frag) : Prop := ∃ x0 x1 n0 n1 : Addr, ∀ H : Hp, SqT K H (aX K) [.ref x0, .ref x1] ∧ SqT K H x0 [.ref n0, .ref n1] ∧ SqT K H n0 [.int 0, .int 1] ∧ SqT K H n1 [.int 1, .int 1]
structure KindAt (H : Hp) (p q1 q2 : Addr) (n : Nat) (a b : Nu) : Prop where
  at' : H p = some (.tup [.int (n : Int), .ref q1, .ref q2])
  at1 : H q1 = some (.tup [.int a.1, .int a.2])
  at2 : H q2 = some (.tup [.int b.1, .int b.2])
  la : Low a.1 a.2
  lb : Low b.1 b.2
  a0 : a.1 ≠ 0
  ba : Bd 40 a.1 ∧ Bd 40 a.2
  bb : Bd 40 b.1 ∧ Bd 40 b.2
  n2 : 2 ≤ n
  n4 : n ≤ 4
def xL (n : Nat) (a b : Nu) : List Nu := redG (-b.1 * a.2) (b.2 * a.1) :: (List.replicate (n - 1) (0, 1) ++ [redG a.2 a.1])
def Src (H : Hp) (s : Addr) : Prop := ∃ x y : Int, H s = some (.lst [.int x, .int y]) ∧ 0 ≤ x ∧ 0 ≤ y
abbrev sp_minus := sp_two nsub
def sp_times (K : W.Frag) : Sp := fun vs H Q _ => ∃ (p q : Addr) (a b c d : Int), vs = [.ref p, .ref q] ∧ SqT K H p [.int a, .int b] ∧ Nm H q c d ∧ 0 < b ∧ 0 < d ∧ Bd 300000 a ∧ Bd 4000 b ∧ Bd 300000 c ∧ Bd 4000 d ∧
  ∀ (r : Addr), H r = none → Q (.ref r) (upd H r (.tup [.int (nmul (a, b) (c, d)).1, .int (nmul (a, b) (c, d)).2]))
def sp_power (_ : W.Frag) : Sp := fun vs H Q _ => ∃ (p : Addr) (t d : Int) (n b : Nat), vs = [.ref p, .int (n : Int)] ∧ Nm H p t d ∧ Bd b t ∧ Bd b d ∧ b * n + 1 ≤ 8000 ∧
  ∀ (r : Addr), H r = none → Q (.ref r) (upd H r (.tup [.int (t ^ n), .int (d ^ n)]))
def sp_p_moved (_ : W.Frag) : Sp := fun vs H Q _ => ∃ (p q : Addr) (xs : List V) (l : List Nu) (a b : Int), vs = [.ref p, .ref q] ∧ H p = some (.tup xs) ∧ Nm H q a b ∧ Nums H xs l ∧ AllLow l ∧ Nz l ∧ AllBd 40 l ∧ Low a b ∧ Bd 40 a ∧ Bd 40 b ∧ l.length ≤ 9 ∧
  ∀ (r : Addr) (H' : Hp) (L : List Nu) (M : Int), Same H H' → Pl H' r L → AllLow L → Nz L → L.length = l.length → Ov L M → Bd 1500 M → (∀ q ∈ L, Bd 20000 q.1) → (∀ k, l.length = k + 1 → pwo L k = pwo l k) → (∀ k, l.length = k + 2 → pwo L k = pwo l k + ((k + 1 : Nat) : Rat) * val (a, b) * pwo l (k + 1)) → Q (.ref r) H'
def sp_p_at (_ : W.Frag) : Sp := fun vs H Q _ => ∃ (p q : Addr) (xs : List V) (l : List Nu) (a b : Int), vs = [.ref p, .ref q] ∧ H p = some (.tup xs) ∧ Nm H q a b ∧ Nums H xs l ∧ AllLow l ∧ AllBd 100 l ∧ Low a b ∧ Bd 40 a ∧ Bd 40 b ∧ l.length ≤ 9 ∧
  ∀ (r : Addr) (H' : Hp) (z : Nu), Same H H' → isN H' (.ref r) z → Low z.1 z.2 → Bd 100000 z.1 → Bd 2000 z.2 → val z = evF (pwo l) l.length (val (a, b)) l.length → Q (.ref r) H'
def sp_f_poly (_ : W.Frag) : Sp := fun vs H Q _ => ∃ (p : Addr), vs = [.ref p] ∧ ∀ (t v : Addr) (H' : Hp), Same H H' → H' t = some (.tup [.ref p, .ref v]) → Pl H' v [(1, 1)] → Q (.ref t) H'
def sp_f_at (_ : W.Frag) : Sp := fun vs H Q _ => ∃ (p q u v : Addr) (L : List Nu) (a b : Int), vs = [.ref p, .ref q] ∧ H p = some (.tup [.ref u, .ref v]) ∧ Pl H u L ∧ Pl H v [(1, 1)] ∧ Nm H q a b ∧ AllLow L ∧ AllBd 100 L ∧ Low a b ∧ Bd 40 a ∧ Bd 40 b ∧ L.length ≤ 9 ∧
  ∀ (r : Addr) (z : Nu) (H' : Hp), Same H H' → isN H' (.ref r) z → Low z.1 z.2 → Bd 100000 z.1 → Bd 2000 z.2 → val z = evF (pwo L) L.length (val (a, b)) L.length → Q (.ref r) H'
def sp_stretched (K : W.Frag) : Sp := fun vs H Q _ => ∃ (p q n0 n1 : Addr) (a b : Int), vs = [.ref p, .ref q] ∧ (∀ H : Hp, SqT K H p [.ref n0, .ref n1] ∧ SqT K H n0 [.int 0, .int 1] ∧ SqT K H n1 [.int 1, .int 1]) ∧ Nm H q a b ∧ Low a b ∧ a ≠ 0 ∧ Bd 40 a ∧ Bd 40 b ∧ OutP H Q [(0, 1), (a, b)]
def sp_spread (_ : W.Frag) : Sp := fun vs H Q _ => ∃ (p : Addr) (xs : List V) (n : Nat) (l0 l1 : Nu), vs = [.ref p, .int (n : Int)] ∧ H p = some (.tup xs) ∧ Nums H xs [l0, l1] ∧ l1.1 ≠ 0 ∧ 2 ≤ n ∧ n ≤ 4 ∧ OutP H Q (l0 :: (List.replicate (n - 1) (0, 1) ++ [l1]))
def sp_in_root (K : W.Frag) : Sp := fun vs H Q _ => ∃ (p x q1 q2 n0 n1 : Addr) (n : Nat) (a b : Nu), vs = [.ref p, .ref x] ∧ (∀ H : Hp, SqT K H x [.ref n0, .ref n1] ∧ SqT K H n0 [.int 0, .int 1] ∧ SqT K H n1 [.int 1, .int 1]) ∧ KindAt H p q1 q2 n a b ∧ OutP H Q (xL n a b)
def sp_x_of (_ : W.Frag) : Sp := fun vs H Q _ => ∃ (p q1 q2 : Addr) (n : Nat) (a b : Nu), vs = [.ref p] ∧ KindAt H p q1 q2 n a b ∧ ∀ (t u v : Addr) (H' : Hp), Same H H' → H' t = some (.tup [.ref u, .ref v]) → Pl H' u (xL n a b) → Pl H' v [(1, 1)] → Q (.ref t) H'
abbrev sp_l_lowest := sp_ratio
def sp_l_tall (_ : W.Frag) : Sp := fun vs H Q _ => ∃ (x : Int) (n : Nat), vs = [.int x, .int (n : Int)] ∧ n ≤ 4 ∧ Bd 40 x ∧ Q (.int (x ^ n)) H
def sp_l_source (K : W.Frag) : Sp := fun vs H Q _ => ∃ (s : Addr) (ns : List Int) (k : Int), vs = [.ref s, .int k] ∧ SqL K H s (ns.map V.int) ∧ 0 ≤ k ∧ k ≤ 1000 ∧ ns.length ≤ 63 ∧ ∀ (r : Addr) (H' : Hp), H r = none → Same H H' → Src H' r → Q (.ref r) H'
def sp_l_take (_ : W.Frag) : Sp := fun vs H Q _ => ∃ (s : Addr) (m : Int), vs = [.ref s, .int m] ∧ Src H s ∧ 0 < m ∧ ∀ (d : Int) (H' : Hp), 0 ≤ d → d < m → Src H' s → Kp s H H' → Q (.int d) H'
def sp_l_number (_ : W.Frag) : Sp := fun vs H Q _ => ∃ (s : Addr), vs = [.ref s] ∧ Src H s ∧ ∀ (r : Addr) (q : Nu) (H' : Hp), isN H' (.ref r) q → Low q.1 q.2 → Bd 40 q.1 → Bd 40 q.2 → Src H' s → Kp s H H' → Q (.ref r) H'
def sp_l_kind (_ : W.Frag) : Sp := fun vs H Q _ => ∃ (s : Addr), vs = [.ref s] ∧ Src H s ∧ ∀ (t q1 q2 : Addr) (n : Nat) (a b : Nu) (H' : Hp), KindAt H' t q1 q2 n a b → Src H' s → Kp s H H' → Q (.ref t) H'
def sp_l_is_number (_ : W.Frag) : Sp := fun vs H Q _ => ∃ (p : Addr) (t d : Int), vs = [.ref p] ∧ Nm H p t d ∧ Low t d ∧ ∀ H', Same H H' → Q (.bl true) H'
def sp_l_is_fraction (_ : W.Frag) : Sp := fun vs H Q _ => ∃ (p u v : Addr) (L M : List Nu), vs = [.ref p] ∧ H p = some (.tup [.ref u, .ref v]) ∧ Pl H u L ∧ Pl H v M ∧ AllLow L ∧ AllLow M ∧ L.length ≤ 100 ∧ M.length ≤ 100 ∧ ∀ H', Same H H' → Q (.bl true) H'
def sp_l_right (_ : W.Frag) : Sp := fun vs H Q _ => ∃ (p s q1 q2 : Addr) (n : Nat) (a b : Nu), vs = [.ref p, .ref s] ∧ KindAt H p q1 q2 n a b ∧ Src H s ∧ ∀ H', Src H' s → Kp s H H' → Q (.bl true) H'
end Bs
namespace Bs
open PySem L2
set_option linter.unusedVariables false
def T_common_divisor (K : W.Frag) : TS :=
  (tSeq (tWhile (tTest (tOp rNe (tVar 1) (tC (.int 0)))) (tSeq (tAsg (tOp iModN (tVar 0) (tVar 1)) (gName 2))
    (tSeq (tAsg (tVar 1) (gName 0))
    (tAsg (tVar 2) (gName 1)))))
    (tRet (tCB bAbs (tCons (tVar 0) tNil))))
def T_raised (K : W.Frag) : TS :=
  (tSeq (tAsg (tC (.int 1)) (gName 2))
    (tSeq (tAsg (tVar 0) (gName 3))
    (tSeq (tWhile (tTest (tOp iGt (tVar 1) (tC (.int 0)))) (tSeq (tIfS (tTest (tOp rEq (tOp iMod (tVar 1) (tC (.int 2))) (tC (.int 1)))) (tAug 2 (tVar 3) iMul) tNext)
    (tSeq (tAug 1 (tC (.int 2)) iDivP)
    (tIfS (tTest (tOp iGt (tVar 1) (tC (.int 0)))) (tAug 3 (tVar 3) iMul) tNext))))
    (tRet (tVar 2)))))
def T_row_moved (K : W.Frag) : TS :=
  (tSeq (tAsg (tCB bListL (tCons (tVar 0) tNil)) (gName 2))
    (tSeq (tFor (iRng1 (tCons (tOp iSub (tCB bLenL (tCons (tVar 0) tNil)) (tC (.int 1))) tNil)) (gName 3) (tFor (iRngD (tCons (tOp iSub (tCB bLenL (tCons (tVar 0) tNil)) (tC (.int 2))) (tCons (tOp iSub (tVar 3) (tC (.int 1))) (tCons (tUn uNeg (tC (.int 1))) tNil)))) (gName 4) (tAugS (tVar 2) (tVar 4) (tOp iMul (tVar 1) (tOp gL (tVar 2) (tOp iAdd (tVar 4) (tC (.int 1))))) gL iAdd rSetL)))
    (tRet (tVar 2))))
def T_ratio (K : W.Frag) : TS :=
  (tSeq (tAsg (tCall (sp_common_divisor K) [] E0 (tCons (tVar 0) (tCons (tVar 1) tNil))) (gName 2))
    (tSeq (tIfS (tTest (tOp iLt (tVar 1) (tC (.int 0)))) (tAsg (tUn uNeg (tVar 2)) (gName 2)) tNext)
    (tRet (tTup (tCons (tOp iDivN (tVar 0) (tVar 2)) (tCons (tOp iDivN (tVar 1) (tVar 2)) tNil))))))
def T_minus (K : W.Frag) : TS :=
  (tRet (tCall (sp_ratio K) [] E0 (tCons (tOp iSub (tOp iMul (tOp gT (tVar 0) (tC (.int 0))) (tOp gT (tVar 1) (tC (.int 1)))) (tOp iMul (tOp gT (tVar 1) (tC (.int 0))) (tOp gT (tVar 0) (tC (.int 1))))) (tCons (tOp iMul (tOp gT (tVar 0) (tC (.int 1))) (tOp gT (tVar 1) (tC (.int 1)))) tNil))))
def T_times (K : W.Frag) : TS :=
  (tRet (tCall (sp_ratio K) [] E0 (tCons (tOp iMul (tOp (gTK K) (tVar 0) (tC (.int 0))) (tOp gT (tVar 1) (tC (.int 0)))) (tCons (tOp iMul (tOp (gTK K) (tVar 0) (tC (.int 1))) (tOp gT (tVar 1) (tC (.int 1)))) tNil))))
def T_over (K : W.Frag) : TS :=
  (tRet (tCall (sp_ratio K) [] E0 (tCons (tOp iMul (tOp gT (tVar 0) (tC (.int 0))) (tOp gT (tVar 1) (tC (.int 1)))) (tCons (tOp iMul (tOp gT (tVar 0) (tC (.int 1))) (tOp gT (tVar 1) (tC (.int 0)))) tNil))))
def T_power (K : W.Frag) : TS :=
  (tSeq (tAsg (tCall (sp_raised K) [] E0 (tCons (tOp gT (tVar 0) (tC (.int 0))) (tCons (tCB bAbs (tCons (tVar 1) tNil)) tNil))) (gName 2))
    (tSeq (tAsg (tCall (sp_raised K) [] E0 (tCons (tOp gT (tVar 0) (tC (.int 1))) (tCons (tCB bAbs (tCons (tVar 1) tNil)) tNil))) (gName 3))
    (tSeq (tIfS (tTest (tOp iGe (tVar 1) (tC (.int 0)))) (tRet (tTup (tCons (tVar 2) (tCons (tVar 3) tNil)))) tNext)
    (tSeq (tIfS (tTest (tOp iLt (tVar 2) (tC (.int 0)))) (tRet (tTup (tCons (tUn uNeg (tVar 3)) (tCons (tUn uNeg (tVar 2)) tNil)))) tNext)
    (tRet (tTup (tCons (tVar 3) (tCons (tVar 2) tNil))))))))
def T_poly (K : W.Frag) : TS :=
  (tSeq (tAsg (tCB bLenL (tCons (tVar 0) tNil)) (gName 1))
    (tSeq (tWhile (tAnd (tTest (tOp iGt (tVar 1) (tC (.int 0)))) (tTest (tOp rEq (tOp gT (tOp gL (tVar 0) (tOp iSub (tVar 1) (tC (.int 1)))) (tC (.int 0))) (tC (.int 0))))) (tAug 1 (tC (.int 1)) iSub))
    (tRet (tCB bTupL (tCons (tSl sL (tVar 0) tNoPart (tPart (tVar 1))) tNil)))))
def T_cleared (K : W.Frag) : TS :=
  (tSeq (tAsg (tC (.int 1)) (gName 1))
    (tSeq (tFor (iTup K (tVar 0)) (gName 2) (tAug 1 (tOp iDivP (tOp gT (tVar 2) (tC (.int 1))) (tCall (sp_common_divisor K) [] E0 (tCons (tVar 1) (tCons (tOp gT (tVar 2) (tC (.int 1))) tNil)))) iMul))
    (tRet (tTup (tCons (tComp (iTup K (tVar 0)) [none, some 1] (gName 0) (tOp iMul (tOp gT (tVar 0) (tC (.int 0))) (tOp iDivP (tVar 1) (tOp gT (tVar 0) (tC (.int 1)))))) (tCons (tVar 1) tNil))))))
def T_uncleared (K : W.Frag) : TS :=
  (tRet (tCall (sp_poly K) [] E0 (tCons (tComp (iList K (tVar 0)) [none, some 1] (gName 0) (tCall (sp_ratio K) [] E0 (tCons (tVar 0) (tCons (tVar 1) tNil)))) tNil)))
def T_p_at (K : W.Frag) : TS :=
  (tSeq (tAsg (tCall (sp_cleared K) [] E0 (tCons (tVar 0) tNil)) (gName 2))
    (tSeq (tAsg (tC (.int 0)) (gName 3))
    (tSeq (tAsg (tC (.int 1)) (gName 4))
    (tSeq (tFor (iRev K (tCons (tOp gT (tVar 2) (tC (.int 0))) tNil)) (gName 5) (tSeq (tAsg (tOp iAdd (tOp iMul (tVar 3) (tOp gT (tVar 1) (tC (.int 0)))) (tOp iMul (tVar 5) (tVar 4))) (gName 3))
    (tAug 4 (tOp gT (tVar 1) (tC (.int 1))) iMul)))
    (tRet (tCall (sp_ratio K) [] E0 (tCons (tOp iMul (tVar 3) (tOp gT (tVar 1) (tC (.int 1)))) (tCons (tOp iMul (tOp gT (tVar 2) (tC (.int 1))) (tVar 4)) tNil))))))))
def T_p_moved_6 (K : W.Frag) : TS :=
  (tRet (tCall (sp_uncleared K) [] E0 (tCons (tComp (iEnumL K (tCons (tVar 7) tNil)) [none, none, some 3] (gTupH 2 (gCons (gName 0) (gCons (gName 1) gNil))) (tOp iMul (tVar 1) (tOp gL (tVar 2) (tVar 0)))) (tCons (tOp iMul (tOp gT (tVar 2) (tC (.int 1))) (tOp gL (tVar 3) (tVar 5))) tNil))))
def T_p_moved_5 (K : W.Frag) : TS :=
  (tSeq (tAsg (tCall (sp_row_moved K) [] E0 (tCons (tVar 6) (tCons (tOp gT (tVar 1) (tC (.int 0))) tNil))) (gName 7))
    (T_p_moved_6 K))
def T_p_moved_4 (K : W.Frag) : TS :=
  (tSeq (tAsg (tComp (iEnumL K (tCons (tOp gT (tVar 2) (tC (.int 0))) tNil)) [none, none, some 3, some 5] (gTupH 2 (gCons (gName 0) (gCons (gName 1) gNil))) (tOp iMul (tVar 1) (tOp gL (tVar 2) (tOp iSub (tVar 3) (tVar 0))))) (gName 6))
    (T_p_moved_5 K))
def T_p_moved_3 (K : W.Frag) : TS :=
  (tSeq (tAsg (tOp iSub (tCB bLenT (tCons (tVar 0) tNil)) (tC (.int 1))) (gName 5))
    (T_p_moved_4 K))
def T_p_moved_2 (K : W.Frag) : TS :=
  (tSeq (tFor (iTup K (tVar 0)) (gName 4) (tDrop (tBM K "list" rAppend (tVar 3) (tCons (tOp iMul (tOp gL (tVar 3) (tUn uNeg (tC (.int 1)))) (tOp gT (tVar 1) (tC (.int 1)))) tNil))))
    (T_p_moved_3 K))
def T_p_moved_1 (K : W.Frag) : TS :=
  (tSeq (tAsg (tLst (tCons (tC (.int 1)) tNil)) (gName 3))
    (T_p_moved_2 K))
def T_p_moved (K : W.Frag) : TS :=
  (tSeq (tAsg (tCall (sp_cleared K) [] E0 (tCons (tVar 0) tNil)) (gName 2))
    (T_p_moved_1 K))
def T_f_poly (K : W.Frag) : TS :=
  (tRet (tTup (tCons (tVar 0) (tCons (tTup (tCons (tTup (tCons (tC (.int 1)) (tCons (tC (.int 1)) tNil))) tNil)) tNil))))
def T_f_at (K : W.Frag) : TS :=
  (tSeq (tAsg (tCall (sp_p_at K) [] E0 (tCons (tOp gT (tVar 0) (tC (.int 1))) (tCons (tVar 1) tNil))) (gName 2))
    (tRet (tIf (tTest (tOp eqD (tVar 2) (tTup (tCons (tC (.int 0)) (tCons (tC (.int 1)) tNil))))) (tC .non) (tCall (sp_over K) [] E0 (tCons (tCall (sp_p_at K) [] E0 (tCons (tOp gT (tVar 0) (tC (.int 0))) (tCons (tVar 1) tNil))) (tCons (tVar 2) tNil))))))
def T_x_of (K : W.Frag) : TS :=
  (tRet (tCall (sp_f_poly K) [] E0 (tCons (tCall (sp_in_root K) [] E0 (tCons (tVar 0) (tCons (tOp (gTK K) (tC (.ref (aX K))) (tC (.int 0))) tNil))) tNil)))
def T_in_root (K : W.Frag) : TS :=
  (tRet (tCall (sp_spread K) [] E0 (tCons (tCall (sp_p_moved K) [] E0 (tCons (tCall (sp_stretched K) [] E0 (tCons (tVar 1) (tCons (tCall (sp_over K) [] E0 (tCons (tTup (tCons (tC (.int 1)) (tCons (tC (.int 1)) tNil))) (tCons (tOp gT (tVar 0) (tC (.int 1))) tNil))) tNil))) (tCons (tCall (sp_minus K) [] E0 (tCons (tTup (tCons (tC (.int 0)) (tCons (tC (.int 1)) tNil))) (tCons (tOp gT (tVar 0) (tC (.int 2))) tNil))) tNil))) (tCons (tOp gT (tVar 0) (tC (.int 0))) tNil))))
def T_stretched (K : W.Frag) : TS :=
  (tRet (tCall (sp_poly K) [] E0 (tCons (tComp (iEnumT K (tCons (tVar 0) tNil)) [none, none, some 1] (gTupH 2 (gCons (gName 0) (gCons (gName 1) gNil))) (tCall (sp_times K) [] E0 (tCons (tVar 1) (tCons (tCall (sp_power K) [] E0 (tCons (tVar 2) (tCons (tVar 0) tNil))) tNil)))) tNil)))
def T_spread (K : W.Frag) : TS :=
  (tSeq (tAsg (tLst tNil) (gName 2))
    (tSeq (tFor (iTup K (tVar 0)) (gName 3) (tDrop (tBM K "list" rExtend (tVar 2) (tCons (tOp rCat (tLst (tCons (tVar 3) tNil)) (tOp rRep (tLst (tCons (tTup (tCons (tC (.int 0)) (tCons (tC (.int 1)) tNil))) tNil)) (tOp iSub (tVar 1) (tC (.int 1))))) tNil))))
    (tRet (tCall (sp_poly K) [] E0 (tCons (tVar 2) tNil)))))
def T_l_source_b1_1 (K : W.Frag) : TS :=
  (tAsg (tOp iAdd (tOp iMul (tVar 5) (tC (.int 1999999973))) (tVar 4)) (gName 5))
def T_l_source_b1_0 (K : W.Frag) : TS :=
  (tSeq (tAsg (tOp iMod (tOp iAdd (tOp iAdd (tOp iMul (tVar 4) (tC (.int 99991))) (tVar 3)) (tOp iMul (tC (.int 39373)) (tVar 6))) (tC (.int 1999999973))) (gName 4))
    (T_l_source_b1_1 K))
def T_l_source_7 (K : W.Frag) : TS :=
  (tRet (tLst (tCons (tVar 5) (tCons (tC (.int 0)) tNil))))
def T_l_source_6 (K : W.Frag) : TS :=
  (tSeq (tIfS (tAnd (tTest (tOp iGt (tCB (bLenS K) (tCons (tVar 0) tNil)) (tC (.int 0)))) (tTest (tOp rEq (tOp iMod (tOp (gS K) (tVar 0) (tC (.int 0))) (tC (.int 2))) (tC (.int 0))))) (tRet (tLst (tCons (tCB bAbs (tCons (tVar 2) tNil)) (tCons (tVar 5) tNil)))) tNext)
    (T_l_source_7 K))
def T_l_source_5 (K : W.Frag) : TS :=
  (tSeq (tFor (iRng1 (tCons (tC (.int 9)) tNil)) (gName 6) (T_l_source_b1_0 K))
    (T_l_source_6 K))
def T_l_source_4 (K : W.Frag) : TS :=
  (tSeq (tAsg (tC (.int 0)) (gName 5))
    (T_l_source_5 K))
def T_l_source_3 (K : W.Frag) : TS :=
  (tSeq (tAsg (tOp iMod (tOp iMul (tVar 3) (tVar 3)) (tC (.int 1999999973))) (gName 4))
    (T_l_source_4 K))
def T_l_source_2 (K : W.Frag) : TS :=
  (tSeq (tAsg (tOp iMod (tOp iMul (tOp iAdd (tOp iAdd (tOp iAdd (tOp iMod (tVar 2) (tC (.int 2147483647))) (tOp iMul (tC (.int 7919)) (tVar 1))) (tOp iMod (tCB bSumL (tCons (tSl (sS K) (tVar 0) tNoPart (tPart (tC (.int 1)))) tNil)) (tC (.int 99991)))) (tC (.int 11))) (tC (.int 48271))) (tC (.int 2147483629))) (gName 3))
    (T_l_source_3 K))
def T_l_source_1 (K : W.Frag) : TS :=
  (tSeq (tIfS (tTest (tOp iGt (tCB (bLenS K) (tCons (tVar 0) tNil)) (tC (.int 1)))) (tAsg (tOp (gS K) (tVar 0) (tOp iAdd (tC (.int 1)) (tOp iMod (tVar 1) (tOp iSub (tCB (bLenS K) (tCons (tVar 0) tNil)) (tC (.int 1)))))) (gName 2)) tNext)
    (T_l_source_2 K))
def T_l_source (K : W.Frag) : TS :=
  (tSeq (tAsg (tC (.int 0)) (gName 2))
    (T_l_source_1 K))
def T_l_take_3 (K : W.Frag) : TS :=
  (tRet (tVar 2))
def T_l_take_2 (K : W.Frag) : TS :=
  (tSeq (tAsg (tOp iDivR (tOp gL (tVar 0) (tC (.int 0))) (tVar 1)) (gSub (tVar 0) (tC (.int 0)) rSetL))
    (T_l_take_3 K))
def T_l_take_1 (K : W.Frag) : TS :=
  (tSeq (tAsg (tOp iMod (tOp gL (tVar 0) (tC (.int 0))) (tVar 1)) (gName 2))
    (T_l_take_2 K))
def T_l_take (K : W.Frag) : TS :=
  (tSeq (tIfS (tTest (tOp rEq (tOp gL (tVar 0) (tC (.int 0))) (tC (.int 0)))) (tAsg (tTup (tCons (tOp gL (tVar 0) (tC (.int 1))) (tCons (tC (.int 0)) tNil))) (gTupH 2 (gCons (gSub (tVar 0) (tC (.int 0)) rSetL) (gCons (gSub (tVar 0) (tC (.int 1)) rSetL) gNil)))) tNext)
    (T_l_take_1 K))
def T_l_number_3 (K : W.Frag) : TS :=
  (tRet (tCall (sp_ratio K) [] E0 (tCons (tOp iAdd (tOp iSub (tCall (sp_l_take K) [] E0 (tCons (tVar 0) (tCons (tOp iSub (tOp iMul (tC (.int 2)) (tOp iPow (tC (.int 10)) (tC (.int 12)))) (tC (.int 1))) tNil))) (tOp iPow (tC (.int 10)) (tC (.int 12)))) (tC (.int 1))) (tCons (tOp iAdd (tC (.int 1)) (tCall (sp_l_take K) [] E0 (tCons (tVar 0) (tCons (tOp iPow (tC (.int 10)) (tC (.int 6))) tNil)))) tNil))))
def T_l_number_2 (K : W.Frag) : TS :=
  (tSeq (tIfS (tTest (tOp iLt (tVar 1) (tC (.int 98)))) (tRet (tCall (sp_ratio K) [] E0 (tCons (tOp iSub (tCall (sp_l_take K) [] E0 (tCons (tVar 0) (tCons (tC (.int 19)) tNil))) (tC (.int 9))) (tCons (tOp iAdd (tC (.int 1)) (tCall (sp_l_take K) [] E0 (tCons (tVar 0) (tCons (tC (.int 6)) tNil)))) tNil)))) tNext)
    (T_l_number_3 K))
def T_l_number_1 (K : W.Frag) : TS :=
  (tSeq (tIfS (tTest (tOp iLt (tVar 1) (tC (.int 70)))) (tRet (tCall (sp_ratio K) [] E0 (tCons (tOp iSub (tCall (sp_l_take K) [] E0 (tCons (tVar 0) (tCons (tC (.int 7)) tNil))) (tC (.int 3))) (tCons (tC (.int 1)) tNil)))) tNext)
    (T_l_number_2 K))
def T_l_number (K : W.Frag) : TS :=
  (tSeq (tAsg (tCall (sp_l_take K) [] E0 (tCons (tVar 0) (tCons (tC (.int 99)) tNil))) (gName 1))
    (T_l_number_1 K))
def T_l_kind_2 (K : W.Frag) : TS :=
  (tRet (tTup (tCons (tOp iAdd (tC (.int 2)) (tCall (sp_l_take K) [] E0 (tCons (tVar 0) (tCons (tC (.int 3)) tNil)))) (tCons (tVar 1) (tCons (tCall (sp_l_number K) [] E0 (tCons (tVar 0) tNil)) tNil)))))
def T_l_kind_1 (K : W.Frag) : TS :=
  (tSeq (tIfS (tTest (tOp eqD (tVar 1) (tTup (tCons (tC (.int 0)) (tCons (tC (.int 1)) tNil))))) (tAsg (tTup (tCons (tOp iAdd (tC (.int 1)) (tCall (sp_l_take K) [] E0 (tCons (tVar 0) (tCons (tC (.int 3)) tNil)))) (tCons (tC (.int 1)) tNil))) (gName 1)) tNext)
    (T_l_kind_2 K))
def T_l_kind (K : W.Frag) : TS :=
  (tSeq (tAsg (tCall (sp_l_number K) [] E0 (tCons (tVar 0) tNil)) (gName 1))
    (T_l_kind_1 K))
def T_l_is_number (K : W.Frag) : TS :=
  (tSeq (tIfS (tOr (tNot (tB (tCB bIsi (tCons (tVar 0) (tCons (tC (.ty "tuple")) tNil))))) (tTest (tOp rNe (tCB bLenT (tCons (tVar 0) tNil)) (tC (.int 2))))) (tRet (tC (.bl false))) tNext)
    (tSeq (tFor (iTup K (tVar 0)) (gName 1) (tIfS (tOr (tNot (tB (tCB bIsi (tCons (tVar 1) (tCons (tC (.ty "int")) tNil))))) (tB (tCB bIsi (tCons (tVar 1) (tCons (tC (.ty "bool")) tNil))))) (tRet (tC (.bl false))) tNext))
    (tRet (tOp iGt (tOp gT (tVar 0) (tC (.int 1))) (tC (.int 0))))))
def T_l_is_fraction (K : W.Frag) : TS :=
  (tSeq (tIfS (tOr (tNot (tB (tCB bIsi (tCons (tVar 0) (tCons (tC (.ty "tuple")) tNil))))) (tTest (tOp rNe (tCB bLenT (tCons (tVar 0) tNil)) (tC (.int 2))))) (tRet (tC (.bl false))) tNext)
    (tSeq (tFor (iTup K (tVar 0)) (gName 1) (tIfS (tOr (tNot (tB (tCB bIsi (tCons (tVar 1) (tCons (tC (.ty "tuple")) tNil))))) (tNot (tB (tCB bAllL (tCons (tComp (iTup K (tVar 1)) [none] (gName 0) (tCall (sp_l_is_number K) [] E0 (tCons (tVar 0) tNil))) tNil))))) (tRet (tC (.bl false))) tNext))
    (tRet (tC (.bl true)))))
def T_l_lowest (K : W.Frag) : TS :=
  (tSeq (tPar 2 3 (tCons (tCB bAbs (tCons (tVar 0) tNil)) (tCons (tCB bAbs (tCons (tVar 1) tNil)) tNil)))
    (tSeq (tWhile (tTest (tOp iGt (tVar 3) (tC (.int 0)))) (tPar 2 3 (tCons (tVar 3) (tCons (tOp iMod (tVar 2) (tVar 3)) tNil))))
    (tSeq (tIfS (tTest (tOp iLt (tVar 1) (tC (.int 0)))) (tAsg (tUn uNeg (tVar 2)) (gName 2)) tNext)
    (tRet (tTup (tCons (tOp iDivS (tVar 0) (tVar 2)) (tCons (tOp iDivS (tVar 1) (tVar 2)) tNil)))))))
def T_l_tall (K : W.Frag) : TS :=
  (tSeq (tAsg (tC (.int 1)) (gName 2))
    (tSeq (tFor (iRng1 (tCons (tVar 1) tNil)) (gName 3) (tAsg (tOp iMul (tVar 2) (tVar 0)) (gName 2)))
    (tRet (tVar 2))))
def T_l_right_b1_4 (K : W.Frag) : TS :=
  (tIfS (tTest (tOp rNe (tOp iMul (tVar 11) (tCall (sp_l_tall K) [] E0 (tCons (tOp gT (tVar 9) (tC (.int 1))) (tCons (tVar 2) tNil)))) (tOp iMul (tOp iMul (tOp iMul (tCall (sp_l_tall K) [] E0 (tCons (tOp gT (tVar 9) (tC (.int 0))) (tCons (tVar 2) tNil))) (tOp gT (tVar 3) (tC (.int 1)))) (tOp gT (tVar 10) (tC (.int 1)))) (tOp gT (tVar 4) (tC (.int 1)))))) (tRet (tC (.bl false))) tNext)
def T_l_right_b1_3 (K : W.Frag) : TS :=
  (tSeq (tAsg (tOp iAdd (tOp iMul (tOp iMul (tOp gT (tVar 3) (tC (.int 0))) (tOp gT (tVar 10) (tC (.int 0)))) (tOp gT (tVar 4) (tC (.int 1)))) (tOp iMul (tOp iMul (tOp gT (tVar 4) (tC (.int 0))) (tOp gT (tVar 3) (tC (.int 1)))) (tOp gT (tVar 10) (tC (.int 1))))) (gName 11))
    (T_l_right_b1_4 K))
def T_l_right_b1_2 (K : W.Frag) : TS :=
  (tSeq (tIfS (tNot (tB (tCall (sp_l_is_number K) [] E0 (tCons (tVar 10) tNil)))) (tRet (tC (.bl false))) tNext)
    (T_l_right_b1_3 K))
def T_l_right_b1_1 (K : W.Frag) : TS :=
  (tSeq (tAsg (tCall (sp_f_at K) [] E0 (tCons (tVar 5) (tCons (tVar 9) tNil))) (gName 10))
    (T_l_right_b1_2 K))
def T_l_right_b1_0 (K : W.Frag) : TS :=
  (tSeq (tAsg (tOp gL (tLst (tCons (tTup (tCons (tOp iSub (tVar 8) (tC (.int 2))) (tCons (tC (.int 1)) tNil))) (tCons (tTup (tCons (tVar 8) (tCons (tC (.int 3)) tNil))) (tCons (tCall (sp_l_number K) [] E0 (tCons (tVar 1) tNil)) tNil)))) (tOp iMod (tVar 8) (tC (.int 3)))) (gName 9))
    (T_l_right_b1_1 K))
def T_l_right_6 (K : W.Frag) : TS :=
  (tRet (tC (.bl true)))
def T_l_right_5 (K : W.Frag) : TS :=
  (tSeq (tFor (iRng1 (tCons (tC (.int 6)) tNil)) (gName 8) (T_l_right_b1_0 K))
    (T_l_right_6 K))
def T_l_right_4 (K : W.Frag) : TS :=
  (tSeq (tIfS (tOr (tNot (tB (tCall (sp_l_is_fraction K) [] E0 (tCons (tVar 5) tNil)))) (tTest (tOp neD (tVar 5) (tTup (tCons (tVar 7) (tCons (tTup (tCons (tTup (tCons (tC (.int 1)) (tCons (tC (.int 1)) tNil))) tNil)) tNil)))))) (tRet (tC (.bl false))) tNext)
    (T_l_right_5 K))
def T_l_right_3 (K : W.Frag) : TS :=
  (tSeq (tAsg (tOp (rCatT K) (tOp (rCatT K) (tTup (tCons (tVar 6) tNil)) (tOp (rRepT K) (tTup (tCons (tTup (tCons (tC (.int 0)) (tCons (tC (.int 1)) tNil))) tNil)) (tOp iSub (tVar 2) (tC (.int 1))))) (tTup (tCons (tCall (sp_l_lowest K) [] E0 (tCons (tOp gT (tVar 3) (tC (.int 1))) (tCons (tOp gT (tVar 3) (tC (.int 0))) tNil))) tNil))) (gName 7))
    (T_l_right_4 K))
def T_l_right_2 (K : W.Frag) : TS :=
  (tSeq (tAsg (tCall (sp_l_lowest K) [] E0 (tCons (tOp iMul (tUn uNeg (tOp gT (tVar 4) (tC (.int 0)))) (tOp gT (tVar 3) (tC (.int 1)))) (tCons (tOp iMul (tOp gT (tVar 4) (tC (.int 1))) (tOp gT (tVar 3) (tC (.int 0)))) tNil))) (gName 6))
    (T_l_right_3 K))
def T_l_right_1 (K : W.Frag) : TS :=
  (tSeq (tAsg (tCall (sp_x_of K) [] E0 (tCons (tVar 0) tNil)) (gName 5))
    (T_l_right_2 K))
def T_l_right (K : W.Frag) : TS :=
  (tSeq (tAsg (tVar 0) (gTupH 3 (gCons (gName 2) (gCons (gName 3) (gCons (gName 4) gNil)))))
    (T_l_right_1 K))
def T_law_b1_2 (K : W.Frag) : TS :=
  (tIfS (tOr (tNot (tB (tCall (sp_l_right K) [] E0 (tCons (tVar 3) (tCons (tVar 2) tNil))))) (tTest (tOp neD (tCall (sp_x_of K) [] E0 (tCons (tVar 3) tNil)) (tCall (sp_x_of K) [] E0 (tCons (tVar 3) tNil))))) (tRet (tC (.bl false))) tNext)
def T_law_b1_1 (K : W.Frag) : TS :=
  (tSeq (tAsg (tCall (sp_l_kind K) [] E0 (tCons (tVar 2) tNil)) (gName 3))
    (T_law_b1_2 K))
def T_law_b1_0 (K : W.Frag) : TS :=
  (tSeq (tAsg (tCall (sp_l_source K) [] E0 (tCons (tVar 0) (tCons (tVar 1) tNil))) (gName 2))
    (T_law_b1_1 K))
def T_law_1 (K : W.Frag) : TS :=
  (tRet (tC (.bl true)))
def T_law (K : W.Frag) : TS :=
  (tSeq (tFor (iRng1 (tCons (tC (.int 4)) tNil)) (gName 1) (T_law_b1_0 K))
    (T_law_1 K))
end Bs
namespace Bs
open PySem L2
variable {K : W.Frag} {vs : List V} {H : Hp} {Q : VK} {E : XK}
local macro_rules | `(tactic| rwa [$[$t:term],*]) => `(tactic| simp only [tSeq, tAsg, tCall, tCons, tVar, tNil, gName, gSub, L2.start, tIfS, tIf, tTest, tB, tOp, rI0, rI, tC, tUn, rU, tNext, tRet, tTup, tLst, tPar, tAug, tDrop, tCB, tChain, tAnd, tOr, tNot, tAndV, tOrV, tNotV, rEq, rNe, rSetL, iAdd, iSub, iMul, iDivP, iDivN, iMod, iModN, iPow, iLt, iLe, iGt, iGe, uNeg, gT, gL, gS, bAbs, bMax, bMin, bIntB, bLenT, bLenL, bLenS, bIsi, isi_int, isi_int_bool, isi_bl, eqT, tFor_r1, tFor_r2, tFor_t, tFor_l, List.map_cons, List.map_nil, List.length_cons, List.length_nil, List.replicate, List.cons_append, List.nil_append, List.append_nil, List.getElem?_cons_zero, List.getElem?_cons_succ, Option.some.injEq, exists_eq_left', exists_eq_left, V.int.injEq, V.bl.injEq, V.ref.injEq, V.ty.injEq, HO.tup.injEq, HO.lst.injEq, List.cons.injEq, and_true, true_and, and_assoc, exists_and_left, List.set_cons_zero, List.set_cons_succ, decide_eq_true_eq, decide_eq_false_iff_not, Bool.not_eq_true', Bool.true_eq_false, Bool.false_eq_true, Bool.not_true, Bool.not_false, if_true, if_false, ite_true, ite_false, scal_ii, scal_bb, atI_two0, atI_two1, atI_three0, atI_three1, atI_three2, ixN_three0, ixN_three2, Nat.zero_add, Nat.reduceAdd, Nat.reduceSub, upd_same, Int.cast_ofNat_Int, decide_true, decide_false, eq_self, not_true_eq_false, not_false_eq_true, Int.natCast_add, Int.natCast_zero, reduceCtorEq, Nm, gTupH, gCons, gNil, tAugS, tSl, tNoPart, tPart, sL, sT, bTupL, bListT, bListL, tTruL, tTruT, rRep, rCat, rAppend, rExtend, tBM, tComp_r1, tComp_r2, tComp_t, tComp_l, tComp_el, tFor_el, tFor_et, blkSt, Option.bind_some, Option.bind_none, Option.bind, Option.join, id_eq, tFor_rd, tFor_rv, tComp_et, iDivR, iDivS, bSumL, sS, rIsN, rNotN, bIsi, gTK, sp_common_divisor, sp_raised, sp_row_moved, sp_ratio, sp_two, sp_times, sp_over, sp_power, sp_poly, sp_cleared, sp_uncleared, sp_p_at, sp_p_moved, sp_f_poly, sp_f_at, sp_x_of, sp_in_root, sp_stretched, sp_spread, sp_l_source, sp_l_take, sp_l_number, sp_l_kind, sp_l_is_number, sp_l_is_fraction, sp_l_tall, sp_l_right, $[$t:term],*])
theorem bd40 {x : Int} (h1 : -1099511627776 < x) (h2 : x < 1099511627776) : Bd 40 x := by
  show x.natAbs < 1099511627776
  omega
theorem mulOk {a b : Int} (ha : Bd 1000000 a) (hb : Bd 1000000 b) : IntMulOk a b := mulOkB ha hb (by decide) (by decide)
theorem mulR {a b : Int} (h1 : -18446744073709551616 < b) (h2 : b < 18446744073709551616) : IntMulOk a b := IntMulOk.of_right (intBits_le_64 (by omega) (by omega))
theorem mulL {a b : Int} (h1 : -18446744073709551616 < a) (h2 : a < 18446744073709551616) : IntMulOk a b := IntMulOk.of_left (intBits_le_64 (by omega) (by omega))
theorem vc_common_divisor (h : sp_common_divisor K vs H Q E) : T_common_divisor K { nx := fun _ H' => Q .non H', rt := Q } (L2.start ["one", "other", "rest"] vs) H := by
  obtain ⟨a, b, rfl, q⟩ := h
  unfold T_common_divisor
  rwa []
  refine while_by (fun m σ H' => ∃ (x y : Int) (r : Option V), σ = [some (.int x), some (.int y), r] ∧ H' = H ∧ Int.gcd x y = Int.gcd a b ∧ m = y.natAbs) b.natAbs ⟨a, b, none, rfl, rfl, rfl, rfl⟩ ?_
  rintro m σ H' ⟨x, y, r, rfl, rfl, hg, rfl⟩
  rwa []
  refine ite2 (fun c => ?_) (fun c => ?_)
  · refine ⟨fun σ' H'' => ∃ m', m' < y.natAbs ∧ _, fun _ _ h => h, ?_⟩
    refine ⟨c, _, fmod_less x c, y, x.fmod y, _, rfl, rfl, ?_, rfl⟩
    rw [gcd_fmod]; exact hg
  · have y0 : y = 0 := Decidable.not_not.mp c
    subst y0
    have e : (if x < 0 then -x else x) = ((Int.gcd a b : Nat) : Int) := by
      rw [← hg, Int.gcd_zero_right]; split <;> omega
    rw [e]; exact q
theorem atI_ints {ns : List Int} {k : Int} (h0 : 0 ≤ k) (h : k < (ns.length : Int)) : ∃ v : Int, atI (ns.map V.int) k = some (.int v) := by
  have hk : k.toNat < ns.length := by omega
  have ek : k = ((k.toNat : Nat) : Int) := by omega
  have q : atI (ns.map V.int) ((k.toNat : Nat) : Int) = some (.int ns[k.toNat]) := atI_nat (by rw [List.getElem?_map, List.getElem?_eq_getElem hk] <;> rfl)
  rw [← ek] at q
  exact ⟨_, q⟩
theorem poly_end {H : Hp} {Q : VK} {xs : List V} {l : List Nu} {m : Nat} (hN : Nums H xs l) (hm : m ≤ l.length) (e : trimN l l.length = m) (q : OutP H Q (trim l)) :
    ∀ (p : Addr), H p = none → ∀ (r : Addr), upd H p (HO.lst (cutV xs none (some (m : Int)))) r = none → Q (V.ref r) (upd (upd H p (HO.lst (cutV xs none (some (m : Int))))) r (HO.tup (cutV xs none (some (m : Int))))) := fun p hp r hr => by
  have s := (same_new hp (HO.lst (cutV xs none (some (m : Int))))).trans (same_new hr (HO.tup (cutV xs none (some (m : Int)))))
  refine q r _ _ s upd_same ?_
  rw [cutV_take (by rw [hN.length]; exact hm)]
  rw [cutV_take (by rw [hN.length]; exact hm)] at s
  unfold trim
  rw [e]
  exact (hN.take m).tp (tpS s)
theorem trimN_succ (l : List Nu) (m : Nat) : trimN l (m + 1) = if (l.getD m (1, 1)).1 = 0 then trimN l m else m + 1 := rfl
theorem vc_poly (h : sp_poly K vs H Q E) : T_poly K { nx := fun _ H' => Q .non H', rt := Q } (L2.start ["row", "many"] vs) H := by
  obtain ⟨p, xs, l, rfl, hp, hN, hl, q⟩ := h
  unfold T_poly
  rwa [hp]
  have lx := hN.length
  refine while_by (fun m σ H' => σ = [some (.ref p), some (.int (m : Int))] ∧ H' = H ∧ trimN l m = trimN l l.length ∧ m ≤ l.length) xs.length ⟨rfl, rfl, by rw [lx], by omega⟩ ?_
  rintro m σ H' ⟨rfl, rfl, ht, hm⟩
  rwa [hp]
  refine ite2 (fun c => ?_) (fun c => ?_)
  · obtain ⟨k, rfl⟩ : ∃ k, m = k + 1 := ⟨m - 1, by omega⟩
    obtain ⟨v, hv, p1, rfl, hp1⟩ := hN.at (i := k) (by omega) (1, 1)
    rw [trimN_succ] at ht
    refine ⟨_, atI_of (by omega) hv, p1, rfl, _, hp1, _, rfl, rfl, ite2 (fun c2 => ?_) (fun c2 => ?_)⟩
    · have z : (l.getD k (1, 1)).1 = 0 := by injection c2
      rw [if_pos z] at ht
      exact ⟨fun σ' H'' => ∃ m', m' < k + 1 ∧ _, fun _ _ h => h, k, by omega, by rw [show ((k + 1 : Nat) : Int) - 1 = (k : Int) by omega], rfl, ht, by omega⟩
    · have z : (l.getD k (1, 1)).1 ≠ 0 := fun z => c2 (by rw [z])
      rw [if_neg z] at ht
      exact poly_end hN hm ht.symm q
  · have z : m = 0 := by omega
    subst z
    exact poly_end hN hm ht.symm q
theorem clr_take {l : List Nu} {i : Nat} {q : Nu} (h : l[i]? = some q) : (l.take (i + 1)).foldl (fun B q => B * (q.2 / ((Int.gcd B q.2 : Nat) : Int))) 1 = (l.take i).foldl (fun B q => B * (q.2 / ((Int.gcd B q.2 : Nat) : Int))) 1 * (q.2 / ((Int.gcd ((l.take i).foldl (fun B q => B * (q.2 / ((Int.gcd B q.2 : Nat) : Int))) 1) q.2 : Nat) : Int)) := by
  rw [List.take_add_one, h, List.foldl_append]
  rfl
theorem map_take_succ {α β : Type} {l : List α} {i : Nat} {q : α} (f : α → β) (h : l[i]? = some q) : (l.take (i + 1)).map f = (l.take i).map f ++ [f q] := by
  rw [List.take_add_one, h, List.map_append]
  rfl
theorem rowF_len (n : Nat) (f : Nat → Int) : (rowF n f).length = n := by unfold rowF; rw [List.length_map, List.length_map, List.length_range]
theorem rowF_get {n k : Nat} (f : Nat → Int) (h : k < n) : (rowF n f)[k]? = some (.int (f k)) := by
  unfold rowF
  rw [List.getElem?_map, List.getElem?_map, List.getElem?_range h]
  rfl
theorem rowF_set {n k : Nat} {f g : Nat → Int} {z : Int} (h : k < n) (h1 : g k = z) (h2 : ∀ i, i < n → i ≠ k → g i = f i) : (rowF n f).set k (.int z) = rowF n g := by
  apply List.ext_getElem?
  intro i
  by_cases hi : i < n
  · by_cases e : i = k
    · subst e
      rw [List.getElem?_set_self (by rw [rowF_len]; exact hi), rowF_get g hi, h1]
    · rw [List.getElem?_set_ne (fun z => e z.symm), rowF_get f hi, rowF_get g hi, h2 i hi e]
  · rw [List.getElem?_eq_none (by rw [List.length_set, rowF_len]; omega), List.getElem?_eq_none (by rw [rowF_len]; omega)]
theorem rowF_congr {n : Nat} {f g : Nat → Int} (h : ∀ i, i < n → g i = f i) : rowF n f = rowF n g := by
  apply List.ext_getElem?
  intro i
  by_cases hi : i < n
  · rw [rowF_get f hi, rowF_get g hi, h i hi]
  · rw [List.getElem?_eq_none (by rw [rowF_len]; omega), List.getElem?_eq_none (by rw [rowF_len]; omega)]
theorem ixN_of {n k : Nat} {i : Int} (e : i = (k : Int)) (h : k < n) : ixN n i = some k := by
  subst e
  unfold ixN
  rw [if_pos (by omega), if_pos (by omega)]
  simp
theorem rep_snoc : ∀ i : Nat, List.map V.bl (List.replicate i true) ++ [V.bl true] = V.bl true :: List.map V.bl (List.replicate i true)
  | 0 => rfl
  | i + 1 => by rw [List.replicate_succ, List.map_cons, List.cons_append, rep_snoc i]
theorem rangeF_get {α : Type} {n k : Nat} (f : Nat → α) (h : k < n) : ((List.range n).map f)[k]? = some (f k) := by
  rw [List.getElem?_map, List.getElem?_range h]; rfl
theorem Pl.same {H H' : Hp} {r : Addr} {L : List Nu} (h : Pl H r L) (s : Same H H') : Pl H' r L := let ⟨zs, a, b⟩ := h; ⟨zs, s _ _ a, b.tp (tpS s)⟩
theorem Pl.tp {H H' : Hp} {r : Addr} {L : List Nu} (h : Pl H r L) (s : Tp H H') : Pl H' r L := let ⟨zs, a, b⟩ := h; ⟨zs, s _ _ a, b.tp s⟩
theorem mul4 {m n : Nat} {x y : Int} (hx : Bd m x) (hy : Bd n y) (hm : m ≤ 1000000 := by decide) (hn : n ≤ 1000000 := by decide) : IntMulOk x y := mulOk (hx.mono hm) (hy.mono hn)
theorem redG_of_pos {n m : Int} (h : 0 < m) : redG n m = red n m := by unfold redG; rw [if_neg (by omega)]
theorem vc_minus (h : sp_minus K vs H Q E) : T_minus K { nx := fun _ H' => Q .non H', rt := Q } (L2.start ["one", "other"] vs) H := by
  obtain ⟨p, q, a, b, c, d, rfl, hp, hq, b0, d0, ba, bb, bc, bd, k⟩ := h
  unfold T_minus
  rwa [hp, hq]
  exact ⟨mul4 ba bd, mul4 bc bb, mul4 bb bd, Int.ne_of_gt (Int.mul_pos b0 d0), (Bd.mul bb bd).mono (by decide), fun r hr => by rw [redG_of_pos (Int.mul_pos b0 d0)]; exact k r hr⟩
theorem vc_times (h : sp_times K vs H Q E) : T_times K { nx := fun _ H' => Q .non H', rt := Q } (L2.start ["one", "other"] vs) H := by
  obtain ⟨p, q, a, b, c, d, rfl, hp, hq, b0, d0, ba, bb, bc, bd, k⟩ := h
  unfold T_times
  rwa [hq]
  refine ⟨_, hp, _, rfl, a, rfl, mul4 ba bc, _, hp, _, rfl, b, rfl, mul4 bb bd, Int.ne_of_gt (Int.mul_pos b0 d0), (Bd.mul bb bd).mono (by decide), fun r hr => by rw [redG_of_pos (Int.mul_pos b0 d0)]; exact k r hr⟩
theorem vc_ratio (h : sp_ratio K vs H Q E) : T_ratio K { nx := fun _ H' => Q .non H', rt := Q } (L2.start ["top", "bottom", "shared"] vs) H := by
  obtain ⟨a, b, rfl, hb, hbd, q⟩ := h
  unfold T_ratio
  rwa []
  have go : ∀ s : Int, (s = if b < 0 then -((Int.gcd a b : Nat) : Int) else ((Int.gcd a b : Nat) : Int)) → DivN a s ∧ DivN b s ∧ 2 ≤ sizeLine ∧ ∀ (p : Addr), H p = none → Q (V.ref p) (upd H p (HO.tup [V.int (a.fdiv s), V.int (b.fdiv s)])) := fun s hs => by
    obtain ⟨h1, h2, h3, h4, h5, h6⟩ := ratio_math hb hs
    have hbs : Bd 9000 s := (hbd.le h2).mono (by decide)
    have e : redG a b = (a.fdiv s, b.fdiv s) := by
      refine val_inj (redG_low hb) h3 ?_
      rw [val_redG hb, val_of_wo (q := (a.fdiv s, b.fdiv s)) (Int.ne_of_gt h3.pos) hb h4]
    rw [e] at q
    exact ⟨⟨h1, hbs⟩, ⟨h1, hbs⟩, sz (by decide), q⟩
  refine ite2 (fun c => ?_) (fun c => ?_)
  · exact go _ (by rw [if_pos c])
  · exact go _ (by rw [if_neg c])
theorem vc_over (h : sp_over K vs H Q E) : T_over K { nx := fun _ H' => Q .non H', rt := Q } (L2.start ["one", "other"] vs) H := by
  obtain ⟨p, q, a, b, c, d, rfl, hp, hq, b0, c0, ba, bb, bc, bd, k⟩ := h
  unfold T_over
  rwa [hp, hq]
  exact ⟨mul4 ba bd, mul4 bb bc, Int.mul_ne_zero (Int.ne_of_gt b0) c0, (Bd.mul bb bc).mono (by decide), k⟩
theorem vc_cleared (h : sp_cleared K vs H Q E) : T_cleared K { nx := fun _ H' => Q .non H', rt := Q } (L2.start ["P", "bottom", "number"] vs) H := by
  obtain ⟨p, xs, l, M, rfl, hp, hN, hL, hO, bM, hB, hl, q⟩ := h
  unfold T_cleared
  rwa [hp]
  have lx := hN.length
  have B0 := (clrB_ov hL).1
  have BB := dvd_bd (Int.ne_of_gt hO.1) (clrB_dvd hL hO) bM
  have qb : ∀ q ∈ l, Bd 4000 q.2 := fun q hq => dvd_bd (Int.ne_of_gt hO.1) (hO.2 q hq) bM
  refine ⟨⟨_, SqT.of hp⟩, ForT.by (xs := xs) (fun i σ H' => ∃ x, σ = [some (.ref p), some (.int ((l.take i).foldl (fun B q => B * (q.2 / ((Int.gcd B q.2 : Nat) : Int))) 1)), x] ∧ H' = H) ⟨none, rfl, rfl⟩ ?_ ?_ ?_⟩
  · rintro i σ H' _ ⟨x, rfl, rfl⟩
    exact hp
  · rintro i x σ H' hi ⟨y, rfl, rfl⟩
    obtain ⟨z, hz, p1, rfl, hp1⟩ := hN.get hi
    have zl := hL z (List.mem_of_getElem? hz)
    have zb := qb z (List.mem_of_getElem? hz)
    obtain ⟨f1, f3⟩ := fold_dvd (M := M) (l.take i) 1 (fun q hq => ⟨(hL q (List.mem_of_mem_take hq)).pos, hO.2 q (List.mem_of_mem_take hq)⟩) (by decide) (Int.one_dvd M)
    have f4 := dvd_bd (Int.ne_of_gt hO.1) f3 bM
    obtain ⟨s1, _, _, s4, s5, s6⟩ := lcm_step f1 zl.pos
    rwa [hp1]
    refine ⟨⟨s5, (zb.le (by omega)).mono (by decide)⟩, mul4 f4 (zb.le s4), ?_, _, rfl⟩
    rw [clr_take hz]
  · rintro σ H' ⟨x, rfl, rfl⟩
    rw [lx, List.take_length]
    rwa [hp]
    refine ⟨⟨_, SqT.of hp⟩, CompJ.tup (xs := xs) (fun i ys H'' => i ≤ xs.length ∧ ys = ((clrN l).take i).map V.int ∧ H'' = H') ⟨Nat.zero_le _, rfl, rfl⟩ ?_ ?_ ?_⟩
    · rintro i ys H'' ⟨h1, rfl, rfl⟩
      refine ⟨h1, sz ?_, hp⟩
      rw [List.length_map, List.length_take]; omega
    · rintro i x ys H'' hi ⟨h1, rfl, rfl⟩
      obtain ⟨z, hz, p1, rfl, hp1⟩ := hN.get hi
      have zl := hL z (List.mem_of_getElem? hz)
      have zb := qb z (List.mem_of_getElem? hz)
      have zn := hB z (List.mem_of_getElem? hz)
      have hi2 : i < xs.length := (List.getElem?_eq_some_iff.mp hi).1
      rwa [hp1]
      have eB : l.foldl (fun B q => B * (q.2 / ((Int.gcd B q.2 : Nat) : Int))) 1 = clrB l := rfl
      rw [eB]
      have cz : (clrN l)[i]? = some (z.1 * (clrB l / z.2)) := by unfold clrN; rw [List.getElem?_map, hz]; rfl
      refine ⟨⟨zl.pos, zb.mono (by decide)⟩, mul4 zn (BB.le (natAbs_ediv_le B0 zl.pos)), by omega, ?_⟩
      rw [map_take_succ V.int cz]
    · rintro ys H'' ⟨_, rfl, rfl⟩ a ha
      refine ⟨sz (by decide), fun r hr => ?_⟩
      have e : (clrN l).take xs.length = clrN l := by
        rw [lx, show l.length = (clrN l).length by unfold clrN; rw [List.length_map], List.take_length]
      rw [e] at hr ⊢
      have s := (same_new ha (HO.lst ((clrN l).map V.int))).trans (same_new hr (HO.tup [V.ref a, V.int (clrB l)]))
      exact q r a _ s upd_same (same_new hr _ _ _ upd_same)
theorem vc_uncleared (h : sp_uncleared K vs H Q E) : T_uncleared K { nx := fun _ H' => Q .non H', rt := Q } (L2.start ["row", "bottom"] vs) H := by
  obtain ⟨p, ns, B, rfl, hp, hB, bB, hl, q⟩ := h
  unfold T_uncleared
  rwa [hp]
  refine ⟨⟨_, SqL.of hp⟩, CompJ.lst (xs := ns.map V.int) (fun i ys H' => i ≤ ns.length ∧ Same H H' ∧ Nums H' ys ((ns.take i).map fun n => redG n B)) ⟨Nat.zero_le _, Same.refl H, trivial⟩ ?_ ?_ ?_⟩
  · rintro i ys H' ⟨h1, s1, hN⟩
    refine ⟨by rw [List.length_map]; exact h1, sz ?_, SqL.of (s1 _ _ hp)⟩
    rw [hN.length, List.length_map, List.length_take]; omega
  · rintro i x ys H' hi ⟨h1, s1, hN⟩
    rw [List.getElem?_map] at hi
    cases e : ns[i]? with
    | none => rw [e] at hi; cases hi
    | some n =>
      rw [e] at hi
      obtain rfl : V.int n = x := Option.some.inj hi
      have hi2 : i < ns.length := (List.getElem?_eq_some_iff.mp e).1
      rwa []
      refine ⟨hB, bB, fun r hr => ⟨by omega, s1.trans (same_new hr _), ?_⟩⟩
      rw [map_take_succ _ e]
      exact (hN.tp (tpS (same_new hr _))).append (Nums.one isN_new)
  · rintro ys H' ⟨_, s1, hN⟩ a ha
    rw [List.length_map, List.take_length] at hN
    have s2 := same_new ha (HO.lst ys)
    rwa []
    refine ⟨_, hN.tp (tpS s2), by rw [List.length_map]; exact hl, fun r zs H'' s3 hr hz => q r zs H'' ((s1.trans s2).trans s3) hr hz⟩
theorem rowI (ns : List Int) (f : Int) : List.map V.int (ns.map (f * ·)) = rowF ns.length fun k => f * ns.getD k 0 := by
  unfold rowF
  congr 1
  apply List.ext_getElem?
  intro i
  rw [List.getElem?_map, List.getElem?_map]
  by_cases h : i < ns.length
  · rw [List.getElem?_range h, List.getElem?_eq_getElem h]
    show _ = some (f * ns.getD i 0)
    rw [List.getD_eq_getElem?_getD, List.getElem?_eq_getElem h]
    rfl
  · rw [List.getElem?_eq_none (by omega), List.getElem?_eq_none (by rw [List.length_range]; omega)]
    rfl
theorem atI_last {xs : List V} {v : V} (h : 1 ≤ xs.length) (e : xs[xs.length - 1]? = some v) : atI xs (-1) = some v := by
  unfold atI ixN
  rw [if_neg (by decide), if_pos (by omega), show (-1 + (xs.length : Int)).toNat = xs.length - 1 by omega]
  exact e
theorem lead_ne {m : List Nu} (hm : AllLow m) (nm : Nz m) (h1 : 1 ≤ m.length) : (clrN m).getD (m.length - 1) 0 ≠ 0 := by
  rw [clrN_ov, ovN_get]
  have hb : m.length - 1 < m.length := by omega
  have q := nm m[m.length - 1] (by rw [List.getLast?_eq_getElem?]; exact List.getElem?_eq_getElem hb)
  have e : getN m (m.length - 1) = m[m.length - 1] := by unfold getN; rw [List.getD_eq_getElem?_getD, List.getElem?_eq_getElem hb]; rfl
  rw [e]
  refine Int.mul_ne_zero q ?_
  have o := clrB_ov hm
  have d := o.2 m[m.length - 1] (List.getElem_mem hb)
  obtain ⟨y, hy⟩ := d
  have p0 := (hm m[m.length - 1] (List.getElem_mem hb)).pos
  rw [hy, Int.mul_ediv_cancel_left _ (Int.ne_of_gt p0)]
  intro z
  rw [z, Int.mul_zero] at hy
  have := o.1
  omega
theorem vc_raised (h : sp_raised K vs H Q E) : T_raised K { nx := fun _ H' => Q .non H', rt := Q } (L2.start ["whole", "n", "result", "square"] vs) H := by
  obtain ⟨x, n, b, rfl, n0, bx, hb, q⟩ := h
  unfold T_raised
  rwa []
  have BP : ∀ k : Nat, k ≤ n.toNat → Bd 1000000 (x ^ k) := fun k hk => (bx.pow k).mono (by
    have := Nat.mul_le_mul_left b hk
    omega)
  refine while_by (fun m σ H' => ∃ r s : Nat, σ = [some (.int x), some (.int (m : Int)), some (.int (x ^ r)), some (.int (x ^ s))] ∧ H' = H ∧ r + s * m = n.toNat) n.toNat ⟨0, 1, ?_, rfl, by omega⟩ ?_
  · have e : ((n.toNat : Nat) : Int) = n := by omega
    rw [e, Int.pow_zero, show x ^ 1 = x by rw [Int.pow_succ, Int.pow_zero, Int.one_mul]]
  rintro m σ H' ⟨r, s, rfl, rfl, hm⟩
  rwa []
  refine ite2 (fun c => ?_) (fun c => ?_)
  · have m1 : 1 ≤ m := by omega
    have sl : s ≤ s * m := Nat.le_mul_of_pos_right s m1
    have d2 : DivP (m : Int) 2 := ⟨by decide, (bd64 (by decide) (by decide)).mono (by decide)⟩
    have hm2 : s * m = (s + s) * (m / 2) + s * (m % 2) := by
      have e : m = 2 * (m / 2) + m % 2 := (Nat.div_add_mod m 2).symm
      generalize m / 2 = u at e ⊢
      generalize m % 2 = v at e ⊢
      subst e
      rw [Nat.mul_add]
      congr 1
      rw [← Nat.mul_assoc, Nat.mul_comm s 2]
      congr 1
      omega
    have ed : ((m : Int) / 2) = ((m / 2 : Nat) : Int) := by omega
    rw [ed]
    refine ⟨fun σ' H'' => ∃ m', m' < m ∧ _, fun _ _ h => h, ?_⟩
    have fin : ∀ r' : Nat, r' + (s + s) * (m / 2) = n.toNat → DivP (m : Int) 2 ∧ if 0 < ((m / 2 : Nat) : Int) then IntMulOk (x ^ s) (x ^ s) ∧ ∃ m', m' < m ∧ ∃ r s_1, [some (V.int x), some (V.int ((m / 2 : Nat) : Int)), some (V.int (x ^ r')), some (V.int (x ^ s * x ^ s))] = [some (V.int x), some (V.int (m' : Int)), some (V.int (x ^ r)), some (V.int (x ^ s_1))] ∧ H' = H' ∧ r + s_1 * m' = n.toNat
        else ∃ m', m' < m ∧ ∃ r s_1, [some (V.int x), some (V.int ((m / 2 : Nat) : Int)), some (V.int (x ^ r')), some (V.int (x ^ s))] = [some (V.int x), some (V.int (m' : Int)), some (V.int (x ^ r)), some (V.int (x ^ s_1))] ∧ H' = H' ∧ r + s_1 * m' = n.toNat := fun r' hr' => by
      refine ⟨d2, ite2 (fun c2 => ?_) (fun c2 => ?_)⟩
      · exact ⟨mulOk (BP s (by omega)) (BP s (by omega)), m / 2, by omega, r', s + s, by rw [Int.pow_add], rfl, hr'⟩
      · have z : m / 2 = 0 := by omega
        rw [z] at hr' ⊢
        exact ⟨0, by omega, r', s, rfl, rfl, by omega⟩
    refine ⟨by decide, ite2 (fun c2 => ⟨mulOk (BP r (by omega)) (BP s (by omega)), ?_⟩) (fun c2 => ?_)⟩
    · rw [← Int.pow_add]
      have e1 : m % 2 = 1 := by omega
      rw [e1] at hm2
      exact fin (r + s) (by omega)
    · have e1 : m % 2 = 0 := by omega
      rw [e1] at hm2
      exact fin r (by omega)
  · have z : m = 0 := by omega
    subst z
    have e : r = n.toNat := by omega
    subst e
    exact q
theorem rowF_succ (m : Nat) (f : Nat → Int) : rowF (m + 1) f = rowF m f ++ [V.int (f m)] := by
  unfold rowF
  rw [List.range_succ, List.map_append, List.map_append]
  rfl
theorem sy_bd {b : Nat} {c : Int} {R : Nat → Int} {n : Nat} (hc : Bd 40 c) (h : ∀ j, Bd b (R j)) : ∀ d, Bd (b + 41 * d) (sy c R n d)
  | 0 => h _
  | d + 1 => by
    have a1 := (hc.mul (sy_bd (n := n) hc h d)).mono (show 40 + (b + 41 * d) ≤ b + 41 * d + 40 by omega)
    exact (((h (n - 1 - (d + 1))).mono (show b ≤ b + 41 * d + 40 by omega)).add a1).mono (by omega)
theorem rnd_bd {b : Nat} {c : Int} {R : Nat → Int} {n first : Nat} (hc : Bd 40 c) (h : ∀ j, Bd b (R j)) (hn : n ≤ 9) (j : Nat) : Bd (b + 369) (rnd c R n first j) := by
  unfold rnd
  split
  · exact (h j).mono (by omega)
  · exact (sy_bd hc h _).mono (by omega)
theorem rnds_bd {b : Nat} {c : Int} {R : Nat → Int} {n : Nat} (hc : Bd 40 c) (h : ∀ j, Bd b (R j)) (hn : n ≤ 9) : ∀ i j, Bd (b + 369 * i) (rnds c R n i j)
  | 0, j => h j
  | i + 1, j => (rnd_bd hc (rnds_bd hc h hn i) hn j).mono (by omega)
theorem sy_step {c : Int} {R : Nat → Int} {n p : Nat} (h : p + 1 < n) : sy c R n (n - 1 - p) = R p + c * sy c R n (n - 1 - (p + 1)) := by
  rw [show n - 1 - p = (n - 1 - (p + 1)) + 1 by omega]
  show R (n - 1 - (n - 1 - (p + 1) + 1)) + _ = _
  rw [show n - 1 - (n - 1 - (p + 1) + 1) = p by omega]
theorem rowF_self (ns : List Int) : ns.map V.int = rowF ns.length fun k => ns.getD k 0 := by
  have h := rowI ns 1
  have e : ns.map (1 * ·) = ns := by
    have e2 : (fun x : Int => 1 * x) = id := funext fun x => Int.one_mul x
    rw [e2, List.map_id]
  rw [e] at h
  rw [h]
  exact rowF_congr fun i _ => by rw [Int.one_mul]
theorem vc_row_moved (h : sp_row_moved K vs H Q E) : T_row_moved K { nx := fun _ H' => Q .non H', rt := Q } (L2.start ["row", "whole", "result", "first", "place"] vs) H := by
  obtain ⟨p, ns, c, rfl, hp, n9, bn, bc, k⟩ := h
  unfold T_row_moved
  rwa [hp]
  intro w hw
  rw [rowF_self]
  have sw := same_new hw (HO.lst (rowF ns.length fun k => ns.getD k 0))
  have hp1 := sw _ _ hp
  rwa [hp1]
  rw [List.length_map]
  have bR : ∀ i j, Bd (2000 + 369 * i) (rnds c (fun k => ns.getD k 0) ns.length i j) := rnds_bd bc (fun j => getD_bd bn j) n9
  refine ⟨by omega, by omega, ForR.by (fun i σ H' => ∃ x3 x4 : Option V, σ = [some (.ref p), some (.int c), some (.ref w), x3, x4] ∧ Same H H' ∧ H' w = some (.lst (rowF ns.length (rnds c (fun k => ns.getD k 0) ns.length i)))) ⟨none, none, rfl, sw, upd_same⟩ ?_ ?_⟩
  · rintro i σ H1 hi ⟨x3, x4, rfl, s1, hw1⟩
    have hp2 := s1 _ _ hp
    rwa [hp2]
    rw [List.length_map]
    refine ⟨by omega, by omega, by omega, by omega, ?_⟩
    have en : ((ns.length : Int) - 2 - (0 + (i : Int) - 1)).toNat = ns.length - 1 - i := by omega
    rw [en]
    refine ForJ.down (fun j σ H' => ∃ x4 : Option V, σ = [some (.ref p), some (.int c), some (.ref w), some (.int (0 + (i : Int))), x4] ∧ Same H H' ∧ H' w = some (.lst (rowF ns.length fun q => if q + j + 1 < ns.length then rnds c (fun k => ns.getD k 0) ns.length i q else sy c (rnds c (fun k => ns.getD k 0) ns.length i) ns.length (ns.length - 1 - q)))) ⟨_, rfl, s1, ?_⟩ ?_ ?_
    · rw [hw1]
      refine congrArg (fun l => some (HO.lst l)) (rowF_congr fun q hq => ?_)
      by_cases h : q + 0 + 1 < ns.length
      · rw [if_pos h]
      · rw [if_neg h, show ns.length - 1 - q = 0 by omega, show q = ns.length - 1 by omega]
        rfl
    · rintro j σ H2 hj ⟨y, rfl, s2, hw2⟩
      have e1 : ((ns.length : Int) - 2 - (j : Int)) = ((ns.length - 2 - j : Nat) : Int) := by omega
      rw [e1]
      have bS := fun q => ((sy_bd (n := ns.length) bc (bR i) (ns.length - 1 - q)).mono (show _ ≤ 10000 by omega))
      generalize rnds c (fun k => ns.getD k 0) ns.length i = R at hw2 bS ⊢
      have g1 : atI (rowF ns.length fun q => if q + j + 1 < ns.length then R q else sy c R ns.length (ns.length - 1 - q)) ((ns.length - 2 - j : Nat) : Int) = some (V.int (R (ns.length - 2 - j))) := by
        rw [atI_nat (rowF_get _ (by omega)), if_pos (by omega)]
      have g2 : atI (rowF ns.length fun q => if q + j + 1 < ns.length then R q else sy c R ns.length (ns.length - 1 - q)) (((ns.length - 2 - j : Nat) : Int) + 1) = some (V.int (sy c R ns.length (ns.length - 1 - (ns.length - 2 - j + 1)))) := by
        rw [atI_of (j := ns.length - 2 - j + 1) (by omega) (rowF_get _ (by omega)), if_neg (by omega)]
      rwa [hw2, g1, g2]
      refine ⟨mul4 bc (bS _), ns.length - 2 - j, ?_, fun b o h => Kp.upd b o (ne_of_none h hw) (s2 b o h), ?_⟩
      · rw [rowF_len]; exact ixN_of rfl (by omega)
      · refine rowF_set (by omega) ?_ fun q hq hne => ?_
        · rw [if_neg (by omega)]
          exact sy_step (by omega)
        · by_cases h : q + j + 1 < ns.length
          · rw [if_pos h, if_pos (by omega)]
          · rw [if_neg h, if_neg (by omega)]
    · rintro σ H2 ⟨y, rfl, s2, hw2⟩
      refine ⟨_, _, rfl, s2, ?_⟩
      rw [hw2]
      refine congrArg (fun l => some (HO.lst l)) (rowF_congr fun q hq => ?_)
      show rnd c (rnds c (fun k => ns.getD k 0) ns.length i) ns.length i q = _
      unfold rnd
      by_cases h : q < i
      · rw [if_pos h, if_pos (by omega)]
      · rw [if_neg h, if_neg (by omega)]
  · rintro σ H1 ⟨x3, x4, rfl, s1, hw1⟩
    rwa []
    have en : ((ns.length : Int) - 1).toNat = ns.length - 1 := by omega
    rw [en] at hw1
    exact k w H1 s1 hw1
theorem CompJ.enumL {K : W.Frag} {capt : List (Option Nat)} {g : TG} {te : TE} {σ : L2.St} {H : Hp} {Q : VK} {a : Addr} {xs : List V} (W : Nat → List V → Hp → Prop) (h0 : W 0 [] H) (hb : ∀ i ys H, W i ys H → i ≤ xs.length ∧ ys.length ≤ sizeLine ∧ SqL K H a xs)
    (hs : ∀ i x p ys H, xs[i]? = some x → W i ys H → H p = none → g (.ref p) (blkSt capt σ) (upd H p (.tup [.int i, x])) fun σ2 H2 => te σ2 H2 fun y H3 => W (i + 1) (ys ++ [y]) H3) (hd : ∀ ys H, W xs.length ys H → ∀ p, H p = none → Q (.ref p) (upd H p (.lst ys))) : CompJ (IteL K a) capt g te σ Q H := by
  refine ⟨xs.length, W, h0, fun i ys H w => ⟨(hb i ys H w).1, (hb i ys H w).2.1, ?_⟩⟩
  have q : SqL K H a xs := (hb i ys H w).2.2
  by_cases h : i < xs.length
  · refine .inr ⟨h, ⟨xs, xs[i], q, by simp [h]⟩, fun x H' y => ?_⟩
    obtain ⟨p, x', hp, rfl, rfl, y⟩ := y
    exact hs i x' p ys _ (y xs q) w hp
  · have e : i = xs.length := Nat.le_antisymm (hb i ys H w).1 (Nat.not_lt.mp h)
    subst e
    exact .inl ⟨⟨xs, q, Nat.le_refl _⟩, hd ys H w⟩
theorem rowF_at {n k : Nat} {f : Nat → Int} {v : V} (h : (rowF n f)[k]? = some v) : k < n ∧ v = .int (f k) := by
  have hk : k < n := by have := (List.getElem?_eq_some_iff.mp h).1; rw [rowF_len] at this; exact this
  rw [rowF_get f hk] at h
  exact ⟨hk, (Option.some.inj h).symm⟩
theorem sy_last2 {c : Int} {R : Nat → Int} {n first : Nat} (h : first + 1 < n) : rnd c R n first (n - 2) = R (n - 2) + c * R (n - 1) := by
  unfold rnd
  rw [if_neg (by omega), show n - 1 - (n - 2) = 0 + 1 by omega]
  show R (n - 1 - (0 + 1)) + c * R (n - 1) = _
  rw [show n - 1 - (0 + 1) = n - 2 by omega]
theorem rnds_last2 {c : Int} {R : Nat → Int} {n : Nat} : ∀ i, i + 1 ≤ n → rnds c R n i (n - 2) = R (n - 2) + (i : Int) * c * R (n - 1)
  | 0, _ => by
    show R (n - 2) = _
    simp
  | i + 1, h => by
    show rnd c (rnds c R n i) n i (n - 2) = _
    rw [sy_last2 (by omega), rnds_last2 i (by omega), rnds_last i (by omega)]
    push_cast
    grind
theorem vc_p_moved (h : sp_p_moved K vs H Q E) : T_p_moved K { nx := fun _ H' => Q .non H', rt := Q } (L2.start ["P", "c", "row", "scales", "number", "last", "stretched", "moved"] vs) H := by
  obtain ⟨p, q, xs, l, a, b, rfl, hp, hq, hN, hl, nl, bl, lo, ba, bb, l9, k⟩ := h
  have OL := clrB_ov hl
  have bL : Bd 361 (clrB l) := (clrB_ok hl bl).2.2.mono (by omega)
  have cll : (clrN l).length = l.length := by unfold clrN; rw [List.length_map]
  have lx := hN.length
  have b0 : 0 < b := lo.pos
  have bp : ∀ i, i ≤ 9 → Bd 361 (b ^ i) := fun i hi => (bb.pow i).mono (by omega)
  unfold T_p_moved
  unfold Nm at hq
  rwa [hp]
  refine ⟨l, hN, hl, clrB l, OL, bL.mono (by decide), fun q hq => (bl q hq).1.mono (by decide), by omega, fun r c H1 s1 hr hc => ?_⟩
  unfold T_p_moved_1 T_p_moved_2
  rwa []
  refine ⟨sz (by decide), fun w hw => ?_⟩
  have sw := same_new hw (HO.lst [V.int 1])
  have hp1 := sw _ _ (s1 _ _ hp)
  refine ⟨⟨_, SqT.of hp1⟩, ForT.by (xs := xs) (fun i σ H' => ∃ x4 : Option V, σ = [some (.ref p), some (.ref q), some (.ref r), some (.ref w), x4, none, none, none] ∧ Same H1 H' ∧ H' w = some (.lst (rowF (i + 1) fun k => b ^ k))) ⟨none, rfl, sw, ?_⟩ ?_ ?_ ?_⟩
  · rw [upd_same]
    show some (HO.lst [V.int 1]) = some (HO.lst [V.int (b ^ 0)])
    rw [Int.pow_zero]
  · rintro i σ H' _ ⟨_, _, s2, _⟩
    exact s2 _ _ (s1 _ _ hp)
  · rintro i x σ H' hi ⟨x4, rfl, s2, hw2⟩
    have hi2 : i < xs.length := (List.getElem?_eq_some_iff.mp hi).1
    have hq2 := s2 _ _ (s1 _ _ hq)
    have g1 : atI (rowF (i + 1) fun k => b ^ k) (-1) = some (V.int (b ^ i)) := atI_last (by rw [rowF_len]; omega) (by rw [rowF_len]; exact rowF_get _ (by omega))
    rwa [hw2, g1, hq2]
    refine ⟨tyV_lst hw2, mul4 (bp i (by omega)) bb, Nat.lt_of_le_of_lt (show _ ≤ 1000 by rw [rowF_len]; omega) (by rw [sizeLine_eq]; omega), fun b o h => Kp.upd b o (ne_of_none h hw) (s2 b o h), ?_⟩
    rw [rowF_succ (i + 1), Int.pow_succ]
  · rintro σ H2 ⟨x4, rfl, s2, hw2⟩
    rw [lx] at hw2
    have hp2 := s2 _ _ (s1 _ _ hp)
    have hr2 := s2 _ _ hr
    have hc2 := s2 _ _ hc
    unfold T_p_moved_3 T_p_moved_4
    rwa [hp2, hr2]
    refine ⟨⟨_, SqL.of hc2⟩, CompJ.enumL (xs := (clrN l).map V.int) (fun i ys H' => i ≤ l.length ∧ Same H2 H' ∧ ys = rowF i fun k => (clrN l).getD k 0 * b ^ (l.length - 1 - k)) ⟨Nat.zero_le _, Same.refl H2, rfl⟩ ?_ ?_ ?_⟩
    · rintro i ys H' ⟨h1, s3, rfl⟩
      exact ⟨by rw [List.length_map, cll]; exact h1, sz (by rw [rowF_len]; omega), SqL.of (s3 _ _ hc2)⟩
    · rintro i x e ys H' hx ⟨h1, s3, rfl⟩ he
      rw [rowF_self, cll] at hx
      obtain ⟨hi, rfl⟩ := rowF_at hx
      have se := same_new he (HO.tup [V.int (i : Int), V.int ((clrN l).getD i 0)])
      have hw3 := se _ _ (s3 _ _ hw2)
      have g1 : atI (rowF (l.length + 1) fun k => b ^ k) ((xs.length : Int) - 1 - (i : Int)) = some (V.int (b ^ (l.length - 1 - i))) := atI_of (j := l.length - 1 - i) (by omega) (rowF_get _ (by omega))
      rwa [hw3, g1]
      refine ⟨mul4 ((getD_bd (clrN_bd hl bl) i).mono (show _ ≤ 401 by omega)) (bp _ (by omega)), by omega, s3.trans se, ?_⟩
      rw [rowF_succ i]
    · rintro ys H3 ⟨_, s3, rfl⟩ d hd
      rw [List.length_map, cll] at *
      have sd := same_new hd (HO.lst (rowF l.length fun k => (clrN l).getD k 0 * b ^ (l.length - 1 - k)))
      have u3 := s3.trans sd
      have hq3 := u3 _ _ (s2 _ _ (s1 _ _ hq))
      have hd3 : upd H3 d (HO.lst (rowF l.length fun k => (clrN l).getD k 0 * b ^ (l.length - 1 - k))) d = some (HO.lst (rowF l.length fun k => (clrN l).getD k 0 * b ^ (l.length - 1 - k))) := upd_same
      unfold T_p_moved_5
      rwa [hq3, hd3]
      have sl : ((List.range l.length).map fun k => (clrN l).getD k 0 * b ^ (l.length - 1 - k)).length = l.length := by rw [List.length_map, List.length_range]
      have sg : ∀ k, k < l.length → ((List.range l.length).map fun k => (clrN l).getD k 0 * b ^ (l.length - 1 - k)).getD k 0 = (clrN l).getD k 0 * b ^ (l.length - 1 - k) := fun k hk => by
        rw [show ∀ t : List Int, t.getD k 0 = (t[k]?).getD 0 from fun t => List.getD_eq_getElem?_getD .., rangeF_get _ hk]; rfl
      refine ⟨(List.range l.length).map fun k => (clrN l).getD k 0 * b ^ (l.length - 1 - k), rfl, by omega, fun z hz => ?_, ba, fun m H4 s4 hm => ?_⟩
      · obtain ⟨i, hi, rfl⟩ := List.mem_map.mp hz
        exact (((getD_bd (clrN_bd hl bl) i).mono (show _ ≤ 401 by omega)).mul (bp (l.length - 1 - i) (by omega))).mono (by decide)
      rw [sl] at hm
      generalize hR : (fun k => ((List.range l.length).map fun k => (clrN l).getD k 0 * b ^ (l.length - 1 - k)).getD k 0) = R at hm
      have hRk : ∀ k, k < l.length → R k = (clrN l).getD k 0 * b ^ (l.length - 1 - k) := fun k hk => by rw [← hR]; exact sg k hk
      have bR : ∀ j, Bd 2000 (R j) := fun j => by
        rw [← hR]
        refine getD_bd (fun z hz => ?_) j
        obtain ⟨i, hi, rfl⟩ := List.mem_map.mp hz
        exact (((getD_bd (clrN_bd hl bl) i).mono (show _ ≤ 401 by omega)).mul (bp (l.length - 1 - i) (by omega))).mono (by decide)
      have bmv := fun j => (rnds_bd ba bR l9 (l.length - 1) j).mono (show _ ≤ 6000 by omega)
      generalize hmv : rnds a R l.length (l.length - 1) = mv at hm bmv
      have mlast : 1 ≤ l.length → mv (l.length - 1) = (clrN l).getD (l.length - 1) 0 := fun h => by
        rw [← hmv, rnds_last _ (by omega), hRk _ (by omega), Nat.sub_self, Int.pow_zero, Int.mul_one]
      have u4 := u3.trans s4
      have hw4 := u4 _ _ hw2
      have hr4 := u4 _ _ hr2
      unfold T_p_moved_6
      rwa []
      refine ⟨⟨_, SqL.of hm⟩, CompJ.enumL (xs := rowF l.length mv) (fun i ys H' => i ≤ l.length ∧ Same H4 H' ∧ ys = rowF i fun k => mv k * b ^ k) ⟨Nat.zero_le _, Same.refl H4, rfl⟩ ?_ ?_ ?_⟩
      · rintro i ys H' ⟨h1, s5, rfl⟩
        exact ⟨by rw [rowF_len]; exact h1, sz (by rw [rowF_len]; omega), SqL.of (s5 _ _ hm)⟩
      · rintro i x e ys H' hx ⟨h1, s5, rfl⟩ he
        obtain ⟨hi, rfl⟩ := rowF_at hx
        have se := same_new he (HO.tup [V.int (i : Int), V.int (mv i)])
        have hw5 := se _ _ (s5 _ _ hw4)
        have g1 : atI (rowF (l.length + 1) fun k => b ^ k) (i : Int) = some (V.int (b ^ i)) := atI_nat (rowF_get _ (by omega))
        rwa [hw5, g1]
        refine ⟨mul4 (bmv i) (bp _ (by omega)), by omega, s5.trans se, ?_⟩
        rw [rowF_succ i]
      · rintro ys H5 ⟨_, s5, rfl⟩ d5 hd5
        rw [rowF_len]
        have sd5 := same_new hd5 (HO.lst (rowF l.length fun k => mv k * b ^ k))
        have u5 := s5.trans sd5
        have hr5 := u5 _ _ hr4
        have hw5 := u5 _ _ hw4
        have hd6 : upd H5 d5 (HO.lst (rowF l.length fun k => mv k * b ^ k)) d5 = some (HO.lst (rowF l.length fun k => mv k * b ^ k)) := upd_same
        have g1 : atI (rowF (l.length + 1) fun k => b ^ k) ((xs.length : Int) - 1) = some (V.int (b ^ (l.length - 1))) := by
          rcases Nat.eq_zero_or_pos l.length with h | h
          · rw [lx, h]; show some (V.int (b ^ 0)) = some (V.int (b ^ 0)); rfl
          · exact atI_of (j := l.length - 1) (by omega) (rowF_get _ (by omega))
        have Bp : 0 < clrB l * b ^ (l.length - 1) := Int.mul_pos OL.1 (Int.pow_pos b0)
        have bBp : Bd 722 (clrB l * b ^ (l.length - 1)) := bL.mul (bp _ (by omega))
        rwa [hr5, hw5, hd6, g1]
        refine ⟨mul4 bL (bp _ (by omega)), (List.range l.length).map fun k => mv k * b ^ k, rfl, Int.ne_of_gt Bp, bBp.mono (by decide), by rw [List.length_map, List.length_range]; omega, fun t zs H6 s6 h6 n6 => ?_⟩
        generalize hL : ((List.range l.length).map fun k => mv k * b ^ k).map (fun n => redG n (clrB l * b ^ (l.length - 1))) = L at n6
        have Ll : L.length = l.length := by rw [← hL, List.length_map, List.length_map, List.length_range]
        have Lg : ∀ i, i < l.length → L[i]? = some (redG (mv i * b ^ i) (clrB l * b ^ (l.length - 1))) := fun i hi => by rw [← hL, List.getElem?_map, rangeF_get _ hi]; rfl
        have Lm : ∀ q ∈ L, ∃ i, q = redG (mv i * b ^ i) (clrB l * b ^ (l.length - 1)) ∧ i < l.length := fun q hq => by
          rw [← hL] at hq
          obtain ⟨z, hz, rfl⟩ := List.mem_map.mp hq
          obtain ⟨i, hi, rfl⟩ := List.mem_map.mp hz
          exact ⟨i, rfl, List.mem_range.mp hi⟩
        have Llow : AllLow L := fun q hq => by obtain ⟨i, rfl, _⟩ := Lm q hq; exact redG_low (Int.ne_of_gt Bp)
        have Lnz : Nz L := fun q hq => by
          rw [List.getLast?_eq_getElem?, Ll] at hq
          rcases Nat.eq_zero_or_pos l.length with h | h
          · rw [List.getElem?_eq_none (by omega)] at hq; cases hq
          · rw [Lg _ (by omega)] at hq
            obtain rfl := Option.some.inj hq
            intro z
            have z2 := val_redG (n := mv (l.length - 1) * b ^ (l.length - 1)) (Int.ne_of_gt Bp)
            unfold val at z2
            rw [z] at z2
            have n1 : mv (l.length - 1) * b ^ (l.length - 1) ≠ 0 := Int.mul_ne_zero (by rw [mlast h]; exact lead_ne hl nl h) (Int.ne_of_gt (Int.pow_pos b0))
            have c1 := castNe n1
            have c2 := castNe (Int.ne_of_gt Bp)
            push_cast at z2 c1 c2
            grind
        rw [trim_id Lnz] at n6
        refine k t H6 L (clrB l * b ^ (l.length - 1)) ((((((s1.trans s2).trans u3).trans s4).trans u5)).trans s6) ⟨zs, h6, n6⟩ Llow Lnz Ll ⟨Bp, fun q hq => ?_⟩ (bBp.mono (by decide)) (fun q hq => ?_) (fun j hj => ?_) (fun j hj => ?_)
        · obtain ⟨i, rfl, _⟩ := Lm q hq
          exact redG_dvd (Int.ne_of_gt Bp) (Int.dvd_refl _)
        · obtain ⟨i, rfl, hi⟩ := Lm q hq
          exact (redG_bd (Int.ne_of_gt Bp) ((bmv i).mul (bp i (by omega))) bBp).1.mono (by decide)
        · have hL1 : pwo L j = ((mv j * b ^ j : Int) : Rat) / ((clrB l * b ^ (l.length - 1) : Int) : Rat) := by
            unfold pwo getN
            rw [List.getD_eq_getElem?_getD, Lg j (by omega)]
            exact val_redG (Int.ne_of_gt Bp)
          obtain rfl : j = l.length - 1 := by omega
          rw [hL1, mlast (by omega), pv_ov hl OL]
          have c1 : ((b ^ (l.length - 1) : Int) : Rat) ≠ 0 := castNe (Int.ne_of_gt (Int.pow_pos b0))
          have c2 := castNe (Int.ne_of_gt OL.1)
          rw [Rat.intCast_mul, Rat.intCast_mul]
          generalize ((b ^ (l.length - 1) : Int) : Rat) = X at *
          generalize (clrB l : Rat) = Y at *
          show _ = (((clrN l).getD (l.length - 1) 0 : Int) : Rat) / Y
          generalize (((clrN l).getD (l.length - 1) 0 : Int) : Rat) = Z
          grind
        · have hL1 : pwo L j = ((mv j * b ^ j : Int) : Rat) / ((clrB l * b ^ (l.length - 1) : Int) : Rat) := by
            unfold pwo getN
            rw [List.getD_eq_getElem?_getD, Lg j (by omega)]
            exact val_redG (Int.ne_of_gt Bp)
          have m2 : mv j = R j + ((l.length - 1 : Nat) : Int) * a * R (l.length - 1) := by
            rw [← hmv, show j = l.length - 2 by omega]
            exact rnds_last2 _ (by omega)
          rw [hL1, m2, hRk j (by omega), hRk (l.length - 1) (by omega), Nat.sub_self, Int.pow_zero, pv_ov hl OL j, pv_ov hl OL (j + 1), show l.length - 1 - j = 1 by omega, show l.length - 1 = j + 1 by omega]
          have c1 : ((b ^ j : Int) : Rat) ≠ 0 := castNe (Int.ne_of_gt (Int.pow_pos b0))
          have c2 := castNe (Int.ne_of_gt OL.1)
          have c3 := castNe (Int.ne_of_gt b0)
          rw [Int.pow_succ b j, show b ^ 1 = b from Int.pow_one b]
          show _ = (((clrN l).getD j 0 : Int) : Rat) / (clrB l : Rat) + ((j + 1 : Nat) : Rat) * ((a : Rat) / (b : Rat)) * ((((clrN l).getD (j + 1) 0 : Int) : Rat) / (clrB l : Rat))
          rw [show (((j + 1 : Nat) : Rat)) = (((j + 1 : Nat) : Int) : Rat) from rfl]
          generalize (clrN l).getD j 0 = A
          generalize (clrN l).getD (j + 1) 0 = B
          generalize ((j + 1 : Nat) : Int) = N
          simp only [Rat.intCast_mul, Rat.intCast_add]
          generalize ((b ^ j : Int) : Rat) = X at *
          grind
theorem evF_step (f : Nat → Rat) (n : Nat) (x : Rat) (d : Nat) : evF f n x (d + 1) = f (n - 1 - d) + x * evF f n x d := rfl
theorem vc_p_at (h : sp_p_at K vs H Q E) : T_p_at K { nx := fun _ H' => Q .non H', rt := Q } (L2.start ["P", "c", "row", "value", "scale", "whole"] vs) H := by
  obtain ⟨p, q, xs, l, a, b, rfl, hp, hq, hN, hl, bl, lo, ba, bb, l9, k⟩ := h
  have OL := clrB_ov hl
  have bL : Bd 901 (clrB l) := (clrB_ok hl bl).2.2.mono (by omega)
  have cll : (clrN l).length = l.length := by unfold clrN; rw [List.length_map]
  have b0 : 0 < b := lo.pos
  unfold T_p_at
  unfold Nm at hq
  rwa [hp]
  refine ⟨l, hN, hl, clrB l, OL, bL.mono (by decide), fun q hq => (bl q hq).1.mono (by decide), by omega, fun r c H1 s1 hr hc => ?_⟩
  have hq1 := s1 _ _ hq
  rwa [hr]
  refine ⟨_, SqL.of hc, ForJ.rev (fun i σ H' => ∃ (v : Int) (x5 : Option V), σ = [some (.ref p), some (.ref q), some (.ref r), some (.int v), some (.int (b ^ i)), x5] ∧ H' = H1 ∧ Bd (5000 + 5000 * i) v ∧ (v : Rat) * b = ((b ^ i : Int) : Rat) * evF (fun j => ((clrN l).getD j 0 : Rat)) l.length (val (a, b)) i) ⟨0, none, by rw [Int.pow_zero], rfl, bd_zero _, ?_⟩ ?_ ?_ ?_⟩
  · show ((0 : Int) : Rat) * b = _ * 0
    push_cast
    grind
  · rintro i σ H' _ ⟨_, _, _, rfl, _⟩
    exact SqL.of hc
  · rintro i x σ H' hi hx ⟨v, y, rfl, rfl, bv, id⟩
    rw [List.length_map, cll] at hi hx
    rw [List.getElem?_map, List.getElem?_eq_getElem (by omega)] at hx
    have ew : (clrN l).getD (l.length - 1 - i) 0 = (clrN l)[l.length - 1 - i]'(by omega) := by rw [List.getD_eq_getElem?_getD, List.getElem?_eq_getElem (by omega)]; rfl
    obtain rfl : V.int _ = x := Option.some.inj hx
    rw [← ew]
    have bw : Bd 1001 ((clrN l).getD (l.length - 1 - i) 0) := (getD_bd (clrN_bd hl bl) _).mono (by omega)
    have bp : Bd 361 (b ^ i) := (bb.pow i).mono (by omega)
    rwa [hq1]
    refine ⟨mul4 (bv.mono (show _ ≤ 60000 by omega)) ba, mul4 bw bp, mul4 bp bb, ?_⟩
    refine ⟨by rw [Int.pow_succ], ?_, ?_⟩
    · exact (((bv.mul ba).mono (show _ ≤ 5100 + 5000 * i by omega)).add ((bw.mul bp).mono (by omega))).mono (by omega)
    · rw [evF_step]
      have hb := castNe (Int.ne_of_gt b0)
      have hv : val (a, b) = (a : Rat) / b := rfl
      rw [Int.pow_succ]
      push_cast at id ⊢
      grind
  · rintro σ H' ⟨v, y, rfl, rfl, bv, id⟩
    rw [List.length_map, cll] at *
    have bp : Bd 361 (b ^ l.length) := (bb.pow l.length).mono (by omega)
    have bpos : 0 < b ^ l.length := Int.pow_pos b0
    have B0 := Int.mul_pos OL.1 bpos
    rwa [hq1, hr]
    refine ⟨mul4 (bv.mono (show _ ≤ 60000 by omega)) bb, mul4 bL bp, Int.ne_of_gt B0, (bL.mul bp).mono (by decide), fun t ht => ?_⟩
    refine k t _ (redG (v * b) (clrB l * b ^ l.length)) (s1.trans (same_new ht _)) isN_new (redG_low (Int.ne_of_gt B0)) ((redG_bd (Int.ne_of_gt B0) ((bv.mul bb).mono (show _ ≤ 100000 by omega)) (bL.mul bp)).1) ((redG_bd (Int.ne_of_gt B0) ((bv.mul bb).mono (show _ ≤ 100000 by omega)) (bL.mul bp)).2.mono (by decide)) ?_
    rw [val_redG (Int.ne_of_gt B0)]
    have e : evF (pwo l) l.length (val (a, b)) l.length = evF (fun j => ((clrN l).getD j 0 : Rat)) l.length (val (a, b)) l.length / (clrB l : Rat) := by
      rw [← evF_over]
      exact evF_congr _ (Nat.le_refl _) fun i _ _ => pv_ov hl OL i
    rw [e]
    have h1 := castNe (Int.ne_of_gt OL.1)
    have h2 := castNe (Int.ne_of_gt bpos)
    push_cast at *
    grind
theorem datN_inj {a b : Nu} (h : datN a = datN b) : a = b := by
  unfold datN at h
  injection h with h
  injection h with h1 h2
  injection h1 with h1
  injection h2 with h2
  injection h2 with h2
  exact Prod.ext h1 h2
theorem val_nsub' {q r : Nu} (h1 : 0 < q.2) (h2 : 0 < r.2) : val (nsub q r) = val q - val r := by
  unfold nsub
  rw [← redG_of_pos (Int.mul_pos h1 h2), val_redG (Int.ne_of_gt (Int.mul_pos h1 h2))]
  have a := castNe (Int.ne_of_gt h1)
  have b := castNe (Int.ne_of_gt h2)
  unfold val
  simp only [Rat.intCast_mul, Rat.intCast_sub]
  grind
theorem Kp.over {H0 H H1 : Hp} {p : Addr} (s : Same H0 H) (k : Kp p H H1) (n : H0 p = none) : Same H0 H1 := fun b o h => k b o (ne_of_none h n) (s b o h)
theorem cutV_map (ns : List Int) (lo hi : Option Int) : ∃ ms : List Int, cutV (ns.map V.int) lo hi = ms.map V.int ∧ ms.length ≤ ns.length := by
  unfold cutV
  rw [← List.map_drop, ← List.map_take]
  exact ⟨_, rfl, by rw [List.length_take, List.length_drop]; omega⟩
theorem vc_l_lowest (h : sp_l_lowest K vs H Q E) : T_l_lowest K { nx := fun _ H' => Q .non H', rt := Q } (L2.start ["_law_top", "_law_bottom", "_law_one", "_law_other"] vs) H := by
  obtain ⟨a, b, rfl, hb, _, q⟩ := h
  unfold T_l_lowest
  rwa []
  have go : ∀ s : Int, (s = if b < 0 then -((Int.gcd a b : Nat) : Int) else ((Int.gcd a b : Nat) : Int)) → DivS a s ∧ DivS b s ∧ 2 ≤ sizeLine ∧ ∀ (p : Addr), H p = none → Q (V.ref p) (upd H p (HO.tup [V.int (a.fdiv s), V.int (b.fdiv s)])) := fun s hs => by
    obtain ⟨h1, h2, h3, h4, h5, h6⟩ := ratio_math hb hs
    have e : redG a b = (a.fdiv s, b.fdiv s) := by
      refine val_inj (redG_low hb) h3 ?_
      rw [val_redG hb, val_of_wo (q := (a.fdiv s, b.fdiv s)) (Int.ne_of_gt h3.pos) hb h4]
    rw [e] at q
    exact ⟨h1, h1, sz (by decide), q⟩
  refine while_by (fun m σ H' => ∃ x y : Int, σ = [some (.int a), some (.int b), some (.int x), some (.int y)] ∧ H' = H ∧ 0 ≤ x ∧ 0 ≤ y ∧ Int.gcd x y = Int.gcd a b ∧ m = y.natAbs) b.natAbs ⟨_, _, rfl, rfl, by split <;> omega, by split <;> omega, ?_, by split <;> omega⟩ ?_
  · split <;> split <;> simp [Int.neg_gcd, Int.gcd_neg]
  rintro m σ H' ⟨x, y, rfl, rfl, x0, y0, hg, rfl⟩
  rwa []
  refine ite2 (fun c => ?_) (fun c => ?_)
  · refine ⟨fun σ' H'' => ∃ m', m' < y.natAbs ∧ _, fun _ _ h => h, ?_⟩
    have z1 := Int.emod_nonneg x (show y ≠ 0 by omega)
    have z2 := Int.emod_lt_of_pos x c
    refine ⟨c, (x % y).natAbs, by omega, y, x % y, rfl, rfl, y0, z1, ?_, rfl⟩
    rw [gcd_emod x y0]; exact hg
  · have e : y = 0 := by omega
    subst e
    have ex : x = ((Int.gcd a b : Nat) : Int) := by rw [← hg, Int.gcd_zero_right]; omega
    refine ite2 (fun c2 => ?_) (fun c2 => ?_)
    · exact go _ (by rw [if_pos c2, ex])
    · exact go _ (by rw [if_neg c2, ex])
theorem isN11 {H : Hp} {p : Addr} (h : H p = some (.tup [.int 1, .int 1])) : isN H (.ref p) (1, 1) := ⟨p, rfl, h⟩
theorem KindAt.same {H H' : Hp} {p q1 q2 : Addr} {n : Nat} {a b : Nu} (h : KindAt H p q1 q2 n a b) (s : Same H H') : KindAt H' p q1 q2 n a b :=
  { h with at' := s _ _ h.at', at1 := s _ _ h.at1, at2 := s _ _ h.at2 }
theorem KindAt.tp {H H' : Hp} {p q1 q2 : Addr} {n : Nat} {a b : Nu} (h : KindAt H p q1 q2 n a b) (s : Tp H H') : KindAt H' p q1 q2 n a b :=
  { h with at' := s _ _ h.at', at1 := s _ _ h.at1, at2 := s _ _ h.at2 }
theorem vc_power (h : sp_power K vs H Q E) : T_power K { nx := fun _ H' => Q .non H', rt := Q } (L2.start ["one", "n", "top", "bottom"] vs) H := by
  obtain ⟨p, t, d, n, b, rfl, hp, bt, bd, hb, q⟩ := h
  unfold T_power
  have ea : (if (n : Int) < 0 then -(n : Int) else (n : Int)) = (n : Int) := if_neg (by omega)
  rwa [hp, ea]
  rw [Int.toNat_natCast]
  have n0 : (0 : Int) ≤ (n : Int) := by omega
  refine ⟨n0, ⟨b, bt, hb, n0, b, bd, hb, ?_⟩⟩
  refine ite2 (fun c => ⟨sz (by decide), fun r hr => q r hr⟩) (fun c => absurd n0 (by omega))
theorem vc_f_poly (h : sp_f_poly K vs H Q E) : T_f_poly K { nx := fun _ H' => Q .non H', rt := Q } (L2.start ["P"] vs) H := by
  obtain ⟨p, rfl, k⟩ := h
  unfold T_f_poly
  rwa []
  refine ⟨sz (by decide), fun a ha => ⟨sz (by decide), fun b hb => ⟨sz (by decide), fun c hc => ?_⟩⟩⟩
  have s2 := same_new hb (HO.tup [V.ref a])
  have s3 := same_new hc (HO.tup [V.ref p, V.ref b])
  exact k c b _ (((same_new ha _).trans s2).trans s3) upd_same ⟨_, s3 _ _ upd_same, Nums.one (isN11 (s3 _ _ (s2 _ _ upd_same)))⟩
theorem low11 : Low 1 1 := ⟨by decide, by decide⟩
theorem one40 : Bd 40 1 := bd40 (by decide) (by decide)
theorem val11 : val (1, 1) = 1 := by unfold val; show ((1 : Int) : Rat) / ((1 : Int) : Rat) = 1; grind
theorem vc_f_at (h : sp_f_at K vs H Q E) : T_f_at K { nx := fun _ H' => Q .non H', rt := Q } (L2.start ["F", "c", "bottom"] vs) H := by
  obtain ⟨p, q, u, v, L, a, b, rfl, hp, ⟨zu, hu, nu⟩, ⟨zv, hv, nv⟩, hq, lowL, bdL, lo, ba, bb, l9, k⟩ := h
  unfold T_f_at
  unfold Nm at hq
  rwa [hp, hv, hq]
  refine ⟨[(1, 1)], nv, ?_, ?_, lo, ba, bb, by simp, fun r1 H1 z s1 hz lz b1 b2 ez => ?_⟩
  · intro q hq; rw [List.mem_singleton.mp hq]; exact low11
  · intro q hq; rw [List.mem_singleton.mp hq]; exact ⟨one40.mono (by decide), one40.mono (by decide)⟩
  have z1 : z = (1, 1) := by
    refine val_inj lz low11 ?_
    rw [ez, val11]
    show pwo [(1, 1)] 0 + val (a, b) * 0 = 1
    rw [show pwo [(1, 1)] 0 = val (1, 1) from rfl, val11]
    grind
  subst z1
  obtain ⟨_, e1, hr1⟩ := hz
  injection e1 with e1
  subst e1
  have hp1 := s1 _ _ hp
  have hq1 := s1 _ _ hq
  have hu1 := s1 _ _ hu
  refine ⟨sz (by decide), fun w hw => ?_⟩
  have sw := same_new hw (HO.tup [V.int 0, V.int 1])
  refine ⟨_, _, false, repN ⟨r1, rfl, sw _ _ hr1⟩, repN (q := (0, 1)) ⟨w, rfl, upd_same⟩, rfl, rfl, ⟨(fun z => nomatch z), (fun z => absurd (datN_inj z) (by decide))⟩, _, rfl, ?_⟩
  have hp2 := sw _ _ hp1
  have hq2 := sw _ _ hq1
  have hu2 := sw _ _ hu1
  have hr2 := sw _ _ hr1
  have s02 := s1.trans sw
  generalize upd H1 w (HO.tup [V.int 0, V.int 1]) = H2 at hp2 hq2 hu2 hr2 s02 ⊢
  refine ite2 (fun c => by cases c) (fun _ => ?_)
  rwa [hp2, hu2, hq2]
  refine ⟨L, nu.tp (tpS s02), lowL, bdL, lo, ba, bb, l9, fun r3 H3 y s3 hy ly b3 b4 ey => ?_⟩
  obtain ⟨_, e3, hr3⟩ := hy
  injection e3 with e3
  subst e3
  have hr23 := s3 _ _ hr2
  rwa [hr3, hr23]
  refine ⟨ly.pos, by decide, b3.mono (by decide), b4.mono (by decide), one40.mono (by decide), one40.mono (by decide), fun t ht => ?_⟩
  have e : redG (y.1 * 1) (y.2 * 1) = y := by
    rw [Int.mul_one, Int.mul_one]
    exact val_inj (redG_low (Int.ne_of_gt ly.pos)) ly (val_redG (Int.ne_of_gt ly.pos))
  rw [e]
  exact k t y _ ((s02.trans s3).trans (same_new ht _)) ⟨t, rfl, upd_same⟩ ly b3 b4 ey
theorem CompJ.enumT {K : W.Frag} {capt : List (Option Nat)} {g : TG} {te : TE} {σ : L2.St} {H : Hp} {Q : VK} {a : Addr} {xs : List V} (W : Nat → List V → Hp → Prop) (h0 : W 0 [] H) (hb : ∀ i ys H, W i ys H → i ≤ xs.length ∧ ys.length ≤ sizeLine ∧ SqT K H a xs)
    (hs : ∀ i x p ys H, xs[i]? = some x → W i ys H → H p = none → g (.ref p) (blkSt capt σ) (upd H p (.tup [.int i, x])) fun σ2 H2 => te σ2 H2 fun y H3 => W (i + 1) (ys ++ [y]) H3) (hd : ∀ ys H, W xs.length ys H → ∀ p, H p = none → Q (.ref p) (upd H p (.lst ys))) : CompJ (IteT K a) capt g te σ Q H := by
  refine ⟨xs.length, W, h0, fun i ys H w => ⟨(hb i ys H w).1, (hb i ys H w).2.1, ?_⟩⟩
  have q : SqT K H a xs := (hb i ys H w).2.2
  by_cases h : i < xs.length
  · refine .inr ⟨h, ⟨xs, xs[i], q, by simp [h]⟩, fun x H' y => ?_⟩
    obtain ⟨p, x', hp, rfl, rfl, y⟩ := y
    exact hs i x' p ys _ (y xs q) w hp
  · have e : i = xs.length := Nat.le_antisymm (hb i ys H w).1 (Nat.not_lt.mp h)
    subst e
    exact .inl ⟨⟨xs, q, Nat.le_refl _⟩, hd ys H w⟩
theorem vc_stretched (h : sp_stretched K vs H Q E) : T_stretched K { nx := fun _ H' => Q .non H', rt := Q } (L2.start ["P", "c"] vs) H := by
  obtain ⟨p, q, n0, n1, a, b, rfl, hX, hq, lo, a0, ba, bb, k⟩ := h
  unfold T_stretched
  unfold Nm at hq
  rwa []
  refine ⟨⟨_, (hX H).1⟩, CompJ.enumT (xs := [.ref n0, .ref n1]) (fun i ys H' => i ≤ 2 ∧ Same H H' ∧ Nums H' ys (([(0, 1), (a, b)] : List Nu).take i)) ⟨by decide, Same.refl H, trivial⟩ ?_ ?_ ?_⟩
  · rintro i ys H' ⟨h1, _, hZ⟩
    refine ⟨h1, sz ?_, (hX H').1⟩
    rw [hZ.length, List.length_take]
    have : ([(0, 1), (a, b)] : List Nu).length = 2 := rfl
    omega
  · rintro i x e ys H' hx ⟨h1, s1, hZ⟩ he
    have se := same_new he (HO.tup [V.int (i : Int), x])
    have s2 := s1.trans se
    have hq2 := s2 _ _ hq
    have hi2 : i < 2 := (List.getElem?_eq_some_iff.mp hx).1
    have fin : ∀ (m : Nu) (c d : Int) (nn : Addr), x = .ref nn → ([(0, 1), (a, b)] : List Nu)[i]? = some m → SqT K H' nn [.int c, .int d] → (∀ H'', SqT K H'' nn [.int c, .int d]) → 0 < d → Bd 40 c → Bd 40 d → nmul (c, d) (a ^ i, b ^ i) = m →
        (gTupH 2 (gCons (gName 0) (gCons (gName 1) gNil))) (.ref e) (blkSt [none, none, some 1] [some (V.ref p), some (V.ref q)]) (upd H' e (HO.tup [V.int (i : Int), x])) (fun σ2 H2 => (tCall (sp_times K) [] E0 (tCons (tVar 1) (tCons (tCall (sp_power K) [] E0 (tCons (tVar 2) (tCons (tVar 0) tNil))) tNil))) σ2 H2 fun y H3 => i + 1 ≤ 2 ∧ Same H H3 ∧ Nums H3 (ys ++ [y]) (([(0, 1), (a, b)] : List Nu).take (i + 1))) := fun m c d nn ex em _ hn d0 bc bd en => by
      subst ex
      rwa [hq2]
      refine ⟨a, b, i, rfl, rfl, rfl, 40, ba, bb, by omega, fun r hr => ⟨_, _, hn _, d0, Int.pow_pos lo.pos, bc.mono (by decide), bd.mono (by decide), (ba.pow i).mono (by omega), (bb.pow i).mono (by omega), fun t ht => ⟨by omega, ?_, ?_⟩⟩⟩
      · exact (s2.trans (same_new hr _)).trans (same_new ht _)
      · rw [List.take_add_one, em]
        refine ((hZ.tp (tpS ((se.trans (same_new hr _)).trans (same_new ht _))))).append (Nums.one ⟨t, rfl, ?_⟩)
        rw [← en]
        exact upd_same
    match i, hx, hi2 with
    | 0, hx, _ =>
      obtain rfl : V.ref n0 = x := Option.some.inj hx
      refine fin (0, 1) 0 1 n0 rfl rfl (hX H').2.1 (fun H'' => (hX H'').2.1) (by decide) (bd40 (by decide) (by decide)) one40 ?_
      exact val_inj (nmul_low (show (0 : Int) < 1 by decide) (Int.pow_pos lo.pos)) low01 (by rw [val_nmul (show (0 : Int) < 1 by decide) (Int.pow_pos lo.pos), show val (0, 1) = 0 from zdiv _]; grind)
    | 1, hx, _ =>
      obtain rfl : V.ref n1 = x := Option.some.inj hx
      refine fin (a, b) 1 1 n1 rfl rfl (hX H').2.2 (fun H'' => (hX H'').2.2) (by decide) one40 one40 ?_
      rw [Int.pow_succ, Int.pow_zero, Int.one_mul, Int.pow_succ, Int.pow_zero, Int.one_mul]
      exact val_inj (nmul_low (show (0 : Int) < 1 by decide) lo.pos) lo (by rw [val_nmul (show (0 : Int) < 1 by decide) lo.pos, val11]; grind)
  · rintro ys H' ⟨_, s1, hZ⟩ d hd
    have sd := same_new hd (HO.lst ys)
    rwa []
    refine ⟨[(0, 1), (a, b)], hZ.tp (tpS sd), by simp, fun r zs H3 s3 hr hz => ?_⟩
    rw [trim_id (l := [(0, 1), (a, b)]) (fun q hq => by obtain rfl : (a, b) = q := Option.some.inj hq; exact a0)] at hz
    exact k r zs H3 ((s1.trans sd).trans s3) hr hz
theorem trim_tail {A : List Nu} {q : Nu} (hq : q.1 ≠ 0) (m : Nat) : trim (A ++ [q] ++ List.replicate m (0, 1)) = A ++ [q] := by
  have key : ∀ j, j ≤ m → trimN (A ++ [q] ++ List.replicate m (0, 1)) (A.length + 1 + j) = A.length + 1 := fun j => by
    induction j with
    | zero =>
      intro _
      show trimN _ (A.length + 1) = _
      rw [trimN_succ]
      have e : (A ++ [q] ++ List.replicate m (0, 1)).getD A.length (1, 1) = q := by
        rw [List.getD_eq_getElem?_getD, List.append_assoc, List.getElem?_append_right (Nat.le_refl _), Nat.sub_self]
        rfl
      rw [e, if_neg hq]
    | succ j ih =>
      intro hj
      show trimN _ ((A.length + 1 + j) + 1) = _
      rw [trimN_succ]
      have e : (A ++ [q] ++ List.replicate m (0, 1)).getD (A.length + 1 + j) (1, 1) = (0, 1) := by
        rw [List.getD_eq_getElem?_getD, List.getElem?_append_right (by first | (simp; done) | (simp; omega))]
        rw [List.getElem?_replicate, if_pos (by first | (simp; done) | (simp; omega))]
        rfl
      rw [e, if_pos rfl]
      exact ih (by omega)
  unfold trim
  have l : (A ++ [q] ++ List.replicate m (0, 1)).length = A.length + 1 + m := by first | (simp; done) | (simp; omega)
  rw [l, key m (Nat.le_refl m), List.take_append_of_le_length (by simp), List.take_of_length_le (by simp)]
theorem vc_spread (h : sp_spread K vs H Q E) : T_spread K { nx := fun _ H' => Q .non H', rt := Q } (L2.start ["P", "n", "row", "number"] vs) H := by
  obtain ⟨p, xs, n, l0, l1, rfl, hp, hN, l10, n2, n4, k⟩ := h
  have lx : xs.length = 2 := hN.length
  unfold T_spread
  rwa []
  refine ⟨sz (by decide), fun w hw => ?_⟩
  have sw := same_new hw (HO.lst [])
  refine ⟨⟨_, SqT.of (sw _ _ hp)⟩, ForT.by (xs := xs) (fun i σ H' => ∃ (x3 : Option V) (zs : List V), σ = [some (.ref p), some (.int (n : Int)), some (.ref w), x3] ∧ Same H H' ∧ H' w = some (.lst zs) ∧ Nums H' zs ((([l0, l1] : List Nu).take i).flatMap fun q => q :: List.replicate (n - 1) (0, 1))) ⟨none, [], rfl, sw, upd_same, trivial⟩ ?_ ?_ ?_⟩
  · rintro i σ H' _ ⟨_, _, _, s1, _⟩
    exact s1 _ _ hp
  · rintro i x σ H1 hi ⟨x3, zs, rfl, s1, hw1, nz⟩
    have hi2 : i < 2 := by have := (List.getElem?_eq_some_iff.mp hi).1; omega
    obtain ⟨o, ho, hx⟩ := hN.get hi
    have hx1 := hx
    obtain ⟨xa, rfl, hxa⟩ := hx
    rwa []
    simp only [flat_rep]
    have en : ((n : Int) - 1).toNat = n - 1 := by omega
    rw [en]
    refine ⟨tyV_lst hw1, sz (by decide), fun c1 h1 => ⟨sz (by decide), fun c2 h2 => ⟨sz (by decide), fun c3 h3 => ⟨by omega, by omega, sz (by omega), fun c4 h4 => ?_⟩⟩⟩⟩
    have t1 := same_new h1 (HO.lst [V.ref xa])
    have t2 := same_new h2 (HO.tup [V.int 0, V.int 1])
    have t3 := same_new h3 (HO.lst [V.ref c2])
    have t4 := same_new h4 (HO.lst (List.replicate (n - 1) (V.ref c2)))
    have z2 : upd (upd (upd (upd H1 c1 (HO.lst [V.ref xa])) c2 (HO.tup [V.int 0, V.int 1])) c3 (HO.lst [V.ref c2])) c4 (HO.lst (List.replicate (n - 1) (V.ref c2))) c2 = some (HO.tup [V.int 0, V.int 1]) := t4 _ _ (t3 _ _ upd_same)
    have z1 : upd (upd (upd (upd H1 c1 (HO.lst [V.ref xa])) c2 (HO.tup [V.int 0, V.int 1])) c3 (HO.lst [V.ref c2])) c4 (HO.lst (List.replicate (n - 1) (V.ref c2))) c1 = some (HO.lst [V.ref xa]) := t4 _ _ (t3 _ _ (t2 _ _ upd_same))
    have t14 := ((t1.trans t2).trans t3).trans t4
    generalize upd (upd (upd (upd H1 c1 (HO.lst [V.ref xa])) c2 (HO.tup [V.int 0, V.int 1])) c3 (HO.lst [V.ref c2])) c4 (HO.lst (List.replicate (n - 1) (V.ref c2))) = H2 at z1 z2 t14 ⊢
    refine ⟨_, z1, sz (by simp; omega), fun c5 h5 => ?_⟩
    have t5 := same_new h5 (HO.lst ([V.ref xa] ++ List.replicate (n - 1) (V.ref c2)))
    have s5 := (s1.trans t14).trans t5
    have hw5 := (t14.trans t5) _ _ hw1
    have zl : zs.length ≤ 8 := by
      rw [nz.length]
      match i, hi2 with
      | 0, _ => simp
      | 1, _ => simp; omega
    refine ⟨zs, hw5, sz (by simp; omega), fun b o h => by rw [upd_ne (ne_of_none h hw)]; exact s5 b o h, ?_⟩
    have tp6 := (tpS (t14.trans t5)).trans (Kp.tp (Kp.upd (p := w) (o := HO.lst (zs ++ ([V.ref xa] ++ List.replicate (n - 1) (V.ref c2))))) hw5)
    rw [List.take_add_one, ho, Option.toList_some, List.flatMap_append, List.flatMap_singleton]
    refine (nz.tp tp6).append ?_
    refine ⟨(⟨xa, rfl, tp6 _ _ (s1 _ _ hxa)⟩ : isN _ (V.ref xa) o), Nums.rep ⟨c2, rfl, ?_⟩ _⟩
    exact (Kp.tp Kp.upd hw5) _ _ (t5 _ _ z2)
  · rintro σ H1 ⟨x3, zs, rfl, s1, hw1, nz⟩
    rw [lx] at nz
    rwa [hw1]
    refine ⟨_, nz, ?_, fun r ys H2 s2 hr hz => ?_⟩
    · simp; omega
    refine k r ys H2 (s1.trans s2) hr ?_
    have e : (([l0, l1] : List Nu).take 2).flatMap (fun q => q :: List.replicate (n - 1) (0, 1)) = (l0 :: List.replicate (n - 1) (0, 1)) ++ [l1] ++ List.replicate (n - 1) (0, 1) := by simp
    rw [e, trim_tail l10] at hz
    exact hz
theorem vc_in_root (h : sp_in_root K vs H Q E) : T_in_root K { nx := fun _ H' => Q .non H', rt := Q } (L2.start ["kind", "P"] vs) H := by
  obtain ⟨p, x, q1, q2, n0, n1, n, a, b, rfl, hX, kd, k⟩ := h
  have hp := kd.at'
  have h1 := kd.at1
  have h2 := kd.at2
  unfold T_in_root
  have A0 : ∀ x y z : V, atI [x, y, z] 0 = some x := fun _ _ _ => rfl
  have A1 : ∀ x y z : V, atI [x, y, z] 1 = some y := fun _ _ _ => rfl
  have A2 : ∀ x y z : V, atI [x, y, z] 2 = some z := fun _ _ _ => rfl
  rwa []
  refine ⟨sz (by decide), fun c1 g1 => ?_⟩
  have t1 := same_new g1 (HO.tup [V.int 1, V.int 1])
  have hp1 := t1 _ _ hp
  have h11 := t1 _ _ h1
  rwa [hp1, A1, h11]
  refine ⟨by decide, kd.a0, one40.mono (by decide), one40.mono (by decide), kd.ba.1.mono (by decide), kd.ba.2.mono (by decide), fun c2 g2 => ?_⟩
  have t2 := same_new g2 (HO.tup [V.int (redG (1 * a.2) (1 * a.1)).1, V.int (redG (1 * a.2) (1 * a.1)).2])
  rw [Int.one_mul, Int.one_mul] at t2 ⊢
  have lc := redG_low (n := a.2) kd.a0
  have vc := val_redG (n := a.2) kd.a0
  have bc := redG_bd kd.a0 kd.ba.2 kd.ba.1
  have hc0 : (redG a.2 a.1).1 ≠ 0 := fun z => by
    have e : val (redG a.2 a.1) = 0 := by unfold val; rw [z]; exact zdiv _
    rw [e] at vc
    have y1 := castNe kd.a0
    have y2 := castNe (Int.ne_of_gt kd.la.pos)
    grind
  have hxL : xL n a b = redG (-b.1 * a.2) (b.2 * a.1) :: (List.replicate (n - 1) (0, 1) ++ [redG a.2 a.1]) := rfl
  rw [hxL] at k
  generalize redG a.2 a.1 = c at lc vc bc hc0 t2 k ⊢
  refine ⟨n0, n1, hX, lc, hc0, bc.1, bc.2, fun r3 zs H3 s3 h3 nz3 => ⟨sz (by decide), fun c4 g4 => ?_⟩⟩
  have t4 := same_new g4 (HO.tup [V.int 0, V.int 1])
  have s24 := (t2.trans s3).trans t4
  have s14 := t1.trans s24
  have hp4 := s14 _ _ hp
  have h24 := s14 _ _ h2
  refine ⟨_, hp4, _, A2 _ _ _, q2, rfl, _, _, h24, by decide, kd.lb.pos, bd_zero _, one40.mono (by decide), kd.bb.1.mono (by decide), kd.bb.2.mono (by decide), fun c5 g5 => ?_⟩
  have t5 := same_new g5 (HO.tup [V.int (nsub (0, 1) (b.1, b.2)).1, V.int (nsub (0, 1) (b.1, b.2)).2])
  have dl : Low (nsub (0, 1) b).1 (nsub (0, 1) b).2 := nsub_low (show (0 : Int) < 1 by decide) kd.lb.pos
  have dv : val (nsub (0, 1) b) = val (0, 1) - val b := val_nsub' (show (0 : Int) < 1 by decide) kd.lb.pos
  have dB : nsub (0, 1) b = (-b.1, b.2) := val_inj dl ⟨kd.lb.pos, by show Int.gcd (-b.1) b.2 = 1; rw [Int.neg_gcd]; exact kd.lb.one⟩ (by rw [dv, show val (0, 1) = 0 from zdiv _]; unfold val; push_cast; grind)
  rw [show nsub (0, 1) (b.1, b.2) = (-b.1, b.2) from dB] at t5 ⊢
  have dB0 : Low (-b.1) b.2 := ⟨kd.lb.pos, by rw [Int.neg_gcd]; exact kd.lb.one⟩
  have s35 := t4.trans t5
  refine ⟨r3, rfl, zs, s35 _ _ h3, [(0, 1), (c.1, c.2)], nz3.tp (tpS s35), ?_, ?_, ?_, dB0, kd.bb.1.neg, kd.bb.2, by simp, fun r6 H6 L M s6 ⟨ws, h6, n6⟩ lowL nzL ll OL bM bL top1 top2 => ?_⟩
  · intro q hq
    rcases List.mem_cons.mp hq with rfl | hq
    · exact low01
    · rw [List.mem_singleton.mp hq]; exact lc
  · intro q hq
    obtain rfl : (c.1, c.2) = q := Option.some.inj hq
    exact hc0
  · intro q hq
    rcases List.mem_cons.mp hq with rfl | hq
    · exact ⟨bd_zero _, one40⟩
    · rw [List.mem_singleton.mp hq]; exact bc
  match L, ll with
  | [u, v], _ =>
    have hv : v = c := val_inj (lowL v (by simp)) lc (top1 1 rfl)
    have hu : u = redG (-b.1 * a.2) (b.2 * a.1) := by
      have ne := Int.mul_ne_zero (Int.ne_of_gt kd.lb.pos) kd.a0
      refine val_inj (lowL u (by simp)) (redG_low ne) ?_
      have z : val u = val (0, 1) + ((0 + 1 : Nat) : Rat) * val (-b.1, b.2) * val c := top2 0 rfl
      rw [z, val_redG ne, vc, show val (0, 1) = 0 from zdiv _]
      have y1 := castNe kd.a0
      have y2 := castNe (Int.ne_of_gt kd.lb.pos)
      unfold val
      simp only [Rat.intCast_mul, Rat.intCast_neg]
      show 0 + (1 : Rat) * (-(b.1 : Rat) / (b.2 : Rat)) * ((a.2 : Rat) / (a.1 : Rat)) = _
      grind
    subst hv hu
    have hp6 := (s14.trans (t5.trans s6)) _ _ hp
    rwa [hp6, A0]
    refine ⟨ws, n, rfl, h6, _, _, n6, hc0, kd.n2, kd.n4, fun r7 ys H7 s7 h7 n7 => ?_⟩
    exact k r7 ys H7 ((s14.trans (t5.trans s6)).trans s7) h7 n7
theorem vc_x_of {K : W.Frag} {vs : List V} {H : Hp} {Q : VK} {E : XK} (hX : XOk K) (h : sp_x_of K vs H Q E) : T_x_of K { nx := fun _ H' => Q .non H', rt := Q } (L2.start ["kind"] vs) H := by
  obtain ⟨p, q1, q2, n, a, b, rfl, kd, k⟩ := h
  obtain ⟨x0, x1, n0, n1, hX⟩ := hX
  unfold T_x_of
  rwa []
  exact ⟨_, (hX H).1, _, rfl, x0, rfl, q1, q2, n0, n1, fun H => (hX H).2, n, a, b, kd, fun r zs H1 s1 h1 nz => ⟨r, rfl, fun t v H' s' ht hv => k t r v H' (s1.trans s') ht ⟨zs, s' _ _ h1, nz.tp (tpS s')⟩ hv⟩⟩
theorem Src.same {H H' : Hp} {s : Addr} (h : Src H s) (k : Same H H') : Src H' s := by
  obtain ⟨x, y, e, r⟩ := h
  exact ⟨x, y, k _ _ e, r⟩
theorem Src.tp {H H' : Hp} {s : Addr} (h : Src H s) (k : Kp s H H') : Tp H H' := by
  obtain ⟨x, y, e, r⟩ := h
  exact k.tp e
theorem vc_l_take (h : sp_l_take K vs H Q E) : T_l_take K { nx := fun _ H' => Q .non H', rt := Q } (L2.start ["_law_source_here", "_law_many", "_law_digit"] vs) H := by
  obtain ⟨s, m, rfl, ⟨x, y, hs, x0, y0⟩, m0, k⟩ := h
  have A0 : ∀ x y : V, atI [x, y] 0 = some x := fun _ _ => rfl
  have A1 : ∀ x y : V, atI [x, y] 1 = some y := fun _ _ => rfl
  have I0 : ixN 2 0 = some 0 := rfl
  have I1 : ixN 2 1 = some 1 := rfl
  have go : ∀ (x y : Int) (H1 : Hp), H1 s = some (.lst [.int x, .int y]) → 0 ≤ x → 0 ≤ y → Kp s H H1 → T_l_take_1 K { nx := fun _ H' => Q V.non H', rt := Q } [some (.ref s), some (.int m), none] H1 := fun x y H1 hs x0 y0 k1 => by
    unfold T_l_take_1
    rwa [hs, A0]
    refine ⟨m0, ?_⟩
    unfold T_l_take_2 T_l_take_3
    rwa [hs, A0, I0]
    exact ⟨m0, k _ _ (Int.emod_nonneg _ (by omega)) (Int.emod_lt_of_pos _ m0) ⟨_, _, upd_same, Int.ediv_nonneg x0 (by omega), y0⟩ (k1.trans Kp.upd)⟩
  unfold T_l_take
  rwa [hs, A0]
  refine ite2 (fun c => ?_) (fun c => go x y H hs x0 y0 (Kp.of_same (Same.refl H)))
  refine ⟨sz (by decide), fun t ht => ⟨_, (same_new ht _) _ _ hs, 0, rfl, 1, rfl, ?_⟩⟩
  exact go y 0 _ upd_same y0 (by decide) (((Kp.of_same (same_new ht _)).trans Kp.upd).trans Kp.upd)
theorem vc_l_number (h : sp_l_number K vs H Q E) : T_l_number K { nx := fun _ H' => Q .non H', rt := Q } (L2.start ["_law_source_here", "_law_how"] vs) H := by
  obtain ⟨p, rfl, hp, k⟩ := h
  have fin : ∀ {x y : Int} {H1 : Hp}, Bd 40 x → Bd 40 y → y ≠ 0 → Src H1 p → Kp p H H1 → y ≠ 0 ∧ Bd 8000 y ∧ ∀ r, H1 r = none → Q (V.ref r) (upd H1 r (HO.tup [V.int (redG x y).1, V.int (redG x y).2])) := fun {x y H1} bx by' y0 x1 k1 => ⟨y0, by'.mono (by decide), fun r hr => by
    have bd := redG_bd y0 bx by'
    have s := same_new hr (HO.tup [V.int (redG x y).1, V.int (redG x y).2])
    exact k r (redG x y) _ ⟨r, rfl, upd_same⟩ (redG_low y0) bd.1 bd.2 (x1.same s) (k1.same s)⟩
  unfold T_l_number
  rwa []
  refine ⟨hp, by decide, fun how H1 h0 h1 x1 k1 => ?_⟩
  unfold T_l_number_1
  rwa []
  refine ite2 (fun _ => ?_) (fun _ => ?_)
  · refine ⟨x1, by decide, fun e H3 e0 e1 x3 k3 => ?_⟩
    exact fin (bd40 (by omega) (by omega)) one40 (by decide) x3 (k1.trans k3)
  unfold T_l_number_2
  rwa []
  refine ite2 (fun _ => ?_) (fun _ => ?_)
  · refine ⟨x1, by decide, fun e H3 e0 e1 x3 k3 => ⟨x3, by decide, fun f H4 f0 f1 x4 k4 => ?_⟩⟩
    exact fin (bd40 (by omega) (by omega)) (bd40 (by omega) (by omega)) (by omega) x4 ((k1.trans k3).trans k4)
  unfold T_l_number_3
  rwa []
  have P : PowOk 10 6 := ⟨by decide, by decide, by decide⟩
  have P2 : PowOk 10 12 := ⟨by decide, by decide, by decide⟩
  have c1 : (10 : Int) ^ Int.toNat 6 = 1000000 := by decide
  have c2 : (10 : Int) ^ Int.toNat 12 = 1000000000000 := by decide
  rw [c1, c2]
  refine ⟨P2, mulL (by decide) (by decide), x1, by decide, fun e H3 e0 e1 x3 k3 => ⟨P2, P, x3, by decide, fun f H4 f0 f1 x4 k4 => ?_⟩⟩
  exact fin (bd40 (by omega) (by omega)) (bd40 (by omega) (by omega)) (by omega) x4 ((k1.trans k3).trans k4)
theorem vc_l_kind (h : sp_l_kind K vs H Q E) : T_l_kind K { nx := fun _ H' => Q .non H', rt := Q } (L2.start ["_law_source_here", "_law_a"] vs) H := by
  obtain ⟨s, rfl, hs, k⟩ := h
  have go : ∀ (q1 : Addr) (a : Nu) (H1 : Hp), H1 q1 = some (.tup [.int a.1, .int a.2]) → Low a.1 a.2 → a.1 ≠ 0 → Bd 40 a.1 → Bd 40 a.2 → Src H1 s → Kp s H H1 → T_l_kind_2 K { nx := fun _ H' => Q V.non H', rt := Q } [some (.ref s), some (.ref q1)] H1 := fun q1 a H1 h1 la a0 b1 b2 x1 k1 => by
    unfold T_l_kind_2
    rwa []
    refine ⟨x1, by decide, fun d H2 d0 d1 x2 k2 => ⟨x2, fun q2 b H3 hb lb bb1 bb2 x3 k3 => ⟨sz (by decide), fun t ht => ?_⟩⟩⟩
    obtain ⟨_, e2, hb⟩ := hb
    injection e2 with e2
    subst e2
    have st := same_new ht (HO.tup [V.int (2 + d), V.ref q1, V.ref q2])
    have en : ((d.toNat + 2 : Nat) : Int) = 2 + d := by omega
    refine k t q1 q2 (d.toNat + 2) a b _ { at' := by rw [en]; exact upd_same, at1 := st _ _ (x2.tp k3 _ _ (x1.tp k2 _ _ h1)), at2 := st _ _ hb, la := la, lb := lb, a0 := a0, ba := ⟨b1, b2⟩, bb := ⟨bb1, bb2⟩, n2 := by omega, n4 := by omega } (x3.same st) (((k1.trans k2).trans k3).same st)
  unfold T_l_kind
  rwa []
  refine ⟨hs, fun q1 a H1 ha la b1 b2 x1 k1 => ?_⟩
  obtain ⟨_, e1, ha⟩ := ha
  injection e1 with e1
  subst e1
  unfold T_l_kind_1
  rwa []
  refine ⟨sz (by decide), fun w hw => ?_⟩
  have sw := same_new hw (HO.tup [V.int 0, V.int 1])
  refine ⟨_, _, decide (a = (0, 1)), repN (q := a) ⟨q1, rfl, sw _ _ ha⟩, repN (q := (0, 1)) ⟨w, rfl, upd_same⟩, rfl, rfl, ⟨fun z => by rw [of_decide_eq_true z], fun z => decide_eq_true (datN_inj z)⟩, _, rfl, ite2 (fun c => ?_) (fun c => ?_)⟩
  · refine ⟨x1.same sw, by decide, fun d H2 d0 d1 x2 k2 => ⟨sz (by decide), fun t ht => ?_⟩⟩
    have st := same_new ht (HO.tup [V.int (1 + d), V.int 1])
    exact go t (1 + d, 1) _ upd_same ⟨show (0 : Int) < 1 by decide, Int.gcd_one_right _⟩ (show 1 + d ≠ 0 by omega) (bd40 (by omega) (by omega)) one40 (x2.same st) (((k1.same sw).trans k2).same st)
  · refine go q1 a _ (sw _ _ ha) la (fun z => ?_) b1 b2 (x1.same sw) (k1.same sw)
    have e : a = (0, 1) := val_inj la low01 (by unfold val; rw [z]; exact (zdiv _).trans (zdiv _).symm)
    simp [e] at c
theorem vc_l_tall (h : sp_l_tall K vs H Q E) : T_l_tall K { nx := fun _ H' => Q .non H', rt := Q } (L2.start ["_law_number_here", "_law_many", "_law_made", "_law_k"] vs) H := by
  obtain ⟨x, n, rfl, n4, bx, k⟩ := h
  unfold T_l_tall
  rwa []
  refine ⟨by omega, by omega, ForR.by (fun i σ H' => i ≤ n ∧ ∃ x3 : Option V, σ = [some (.int x), some (.int (n : Int)), some (.int (x ^ i)), x3] ∧ H' = H) ⟨by omega, none, by rw [Int.pow_zero], rfl⟩ ?_ ?_⟩
  · rintro i σ H' hi ⟨_, x3, rfl, rfl⟩
    have hi' : i < n := by omega
    rwa []
    exact ⟨mul4 ((bx.pow i).mono (show _ ≤ 1000 by omega)) bx, by omega, (Int.pow_succ x i).symm, _, rfl⟩
  · rintro σ H' ⟨_, x3, rfl, rfl⟩
    rwa []
    exact k
theorem vc_l_is_number (h : sp_l_is_number K vs H Q E) : T_l_is_number K { nx := fun _ H' => Q .non H', rt := Q } (L2.start ["_law_found", "_law_part"] vs) H := by
  obtain ⟨p, t, d, rfl, hp, hl, k⟩ := h
  unfold T_l_is_number
  unfold Nm at hp
  rwa [hp, isi_tup hp]
  refine ⟨⟨_, SqT.of hp⟩, ForT.by (xs := [.int t, .int d]) (fun i σ H' => ∃ x1 : Option V, σ = [some (.ref p), x1] ∧ H' = H) ⟨none, rfl, rfl⟩ ?_ ?_ ?_⟩
  · rintro i σ H' _ ⟨_, _, rfl⟩
    exact hp
  · rintro i x σ H' hi ⟨x1, rfl, rfl⟩
    have hi2 : i < 2 := (List.getElem?_eq_some_iff.mp hi).1
    obtain ⟨z, rfl⟩ : ∃ z, x = V.int z := by
      match i, hi with
      | 0, hi => exact ⟨_, (Option.some.inj hi).symm⟩
      | 1, hi => exact ⟨_, (Option.some.inj hi).symm⟩
    rwa []
    exact ⟨_, rfl⟩
  · rintro σ H' ⟨x1, rfl, rfl⟩
    rwa [hp]
    have := k H' (Same.refl H')
    simp only [hl.pos, decide_true]
    exact this
theorem vc_l_is_fraction (h : sp_l_is_fraction K vs H Q E) : T_l_is_fraction K { nx := fun _ H' => Q .non H', rt := Q } (L2.start ["_law_found", "_law_row"] vs) H := by
  obtain ⟨p, u, v, L, M, rfl, hp, hu, hv, lowL, lowM, L9, M9, k⟩ := h
  unfold T_l_is_fraction
  rwa [hp, isi_tup hp]
  refine ⟨⟨_, SqT.of hp⟩, ForT.by (xs := [.ref u, .ref v]) (fun i σ H' => ∃ x1 : Option V, σ = [some (.ref p), x1] ∧ Same H H') ⟨none, rfl, Same.refl H⟩ ?_ ?_ ?_⟩
  · rintro i σ H' _ ⟨_, _, s1⟩
    exact s1 _ _ hp
  · rintro i x σ H1 hi ⟨x1, rfl, s1⟩
    have hi2 : i < 2 := (List.getElem?_eq_some_iff.mp hi).1
    obtain ⟨w, l, zs, rfl, hw, nz, low, l9⟩ : ∃ w l zs, x = V.ref w ∧ H1 w = some (.tup zs) ∧ Nums H1 zs l ∧ AllLow l ∧ l.length ≤ 100 := by
      match i, hi with
      | 0, hi => obtain ⟨zs, a, b⟩ := hu; exact ⟨u, L, zs, (Option.some.inj hi).symm, s1 _ _ a, b.tp (tpS s1), lowL, L9⟩
      | 1, hi => obtain ⟨zs, a, b⟩ := hv; exact ⟨v, M, zs, (Option.some.inj hi).symm, s1 _ _ a, b.tp (tpS s1), lowM, M9⟩
    rwa [isi_tup hw]
    refine ⟨⟨_, SqT.of hw⟩, CompJ.tup (xs := zs) (fun i ys H' => i ≤ l.length ∧ Same H1 H' ∧ ys = (List.replicate i true).map V.bl) ⟨Nat.zero_le _, Same.refl H1, rfl⟩ ?_ ?_ ?_⟩
    · rintro j ys H' ⟨h1, s2, rfl⟩
      exact ⟨by rw [nz.length]; exact h1, sz (by rw [List.length_map, List.length_replicate]; omega), s2 _ _ hw⟩
    · rintro j x ys H' hj ⟨h1, s2, rfl⟩
      have hj2 : j < zs.length := (List.getElem?_eq_some_iff.mp hj).1
      have lz := nz.length
      obtain ⟨o, ho, oa, rfl, hoa⟩ := nz.get hj
      rwa []
      refine ⟨_, _, s2 _ _ hoa, low o (List.mem_of_getElem? ho), fun H3 s3 => ⟨by omega, s2.trans s3, rep_snoc j⟩⟩
    · rintro ys H' ⟨_, s2, rfl⟩ a ha
      have s3 := same_new ha (HO.lst ((List.replicate zs.length true).map V.bl))
      refine ⟨a, List.replicate zs.length true, rfl, upd_same, ?_⟩
      have al : (List.replicate zs.length true).all id = true := by simp
      refine ⟨_, rfl, ?_⟩
      rw [al, if_neg (by decide)]
      exact (s1.trans s2).trans s3
  · rintro σ H' ⟨x1, rfl, s1⟩
    rwa []
    exact k H' s1
theorem vc_l_source (h : sp_l_source K vs H Q E) : T_l_source K { nx := fun _ H' => Q .non H', rt := Q } (L2.start ["_law_script", "_law_k", "_law_cell", "_law_some", "_law_more", "_law_number_here", "_law_j"] vs) H := by
  obtain ⟨s, ns, k, rfl, hs, k0, k9, n63, q⟩ := h
  have R : ∀ {x y : Int}, 0 ≤ y → y < 4611686018427387904 → IntMulOk x y := fun h1 h2 => mulR (by omega) (by omega)
  have Lm : ∀ {x y : Int}, 0 ≤ x → x < 4611686018427387904 → IntMulOk x y := fun h1 h2 => mulL (by omega) (by omega)
  have go : ∀ cell : Int, T_l_source_2 K { nx := fun _ H' => Q V.non H', rt := Q } [some (.ref s), some (.int k), some (.int cell), none, none, none, none] H := fun cell => by
    unfold T_l_source_2
    rwa []
    obtain ⟨c1, e1, _⟩ := cutV_map ns none (some 1)
    refine ⟨by decide, Lm (by decide) (by decide), _, hs, fun p hp => ⟨c1, e1, by decide, R (by decide) (by decide), by decide, ?_⟩⟩
    have sp := same_new hp (HO.lst (cutV (ns.map V.int) none (some 1)))
    have hs1 := Same.seq sp hs
    generalize upd H p (HO.lst (cutV (ns.map V.int) none (some 1))) = H1 at sp hs1 ⊢
    have o0 := Int.emod_nonneg ((cell % 2147483647 + 7919 * k + c1.sum % 99991 + 11) * 48271) (show (2147483629 : Int) ≠ 0 by decide)
    have o1 := Int.emod_lt_of_pos ((cell % 2147483647 + 7919 * k + c1.sum % 99991 + 11) * 48271) (show (0 : Int) < 2147483629 by decide)
    generalize (cell % 2147483647 + 7919 * k + c1.sum % 99991 + 11) * 48271 % 2147483629 = z at o0 o1 ⊢
    unfold T_l_source_3
    rwa []
    refine ⟨R o0 (by omega), by decide, ?_⟩
    generalize z * z % 1999999973 = m0
    unfold T_l_source_4 T_l_source_5
    rwa []
    refine ⟨by decide, by decide, ForR.by (fun i σ H' => i ≤ 9 ∧ ∃ (m nn : Int) (x6 : Option V), σ = [some (.ref s), some (.int k), some (.int cell), some (.int z), some (.int m), some (.int nn), x6] ∧ 0 ≤ nn ∧ H' = H1) ⟨by decide, m0, 0, none, rfl, by decide, rfl⟩ ?_ ?_⟩
    · rintro i σ H' hi ⟨_, m, nn, x6, rfl, nn0, rfl⟩
      have hi' : i < 9 := hi
      unfold T_l_source_b1_0
      rwa []
      refine ⟨R (by decide) (by decide), Lm (by decide) (by decide), by decide, ?_⟩
      have m1 := Int.emod_nonneg (m * 99991 + z + 39373 * (0 + (i : Int))) (show (1999999973 : Int) ≠ 0 by decide)
      generalize (m * 99991 + z + 39373 * (0 + (i : Int))) % 1999999973 = m' at m1 ⊢
      unfold T_l_source_b1_1
      rwa []
      exact ⟨R (by decide) (by decide), by omega, by omega⟩
    · rintro σ H' ⟨_, m, nn, x6, rfl, nn0, rfl⟩
      have fin : ∀ x y : Int, 0 ≤ x → 0 ≤ y → ∀ r, H' r = none → Q (.ref r) (upd H' r (.lst [.int x, .int y])) := fun x y x0 y0 r hr => by
        have r0 : H r = none := by
          cases e : H r with
          | none => rfl
          | some o => have z := sp _ _ e; rw [hr] at z; cases z
        exact q r _ r0 (sp.trans (same_new hr _)) ⟨x, y, upd_same, x0, y0⟩
      unfold T_l_source_6 T_l_source_7
      rwa []
      have no : 2 ≤ sizeLine ∧ ∀ (p : Addr), H' p = none → Q (V.ref p) (upd H' p (HO.lst [V.int nn, V.int 0])) := ⟨sz (by decide), fin nn 0 nn0 (by decide)⟩
      refine ⟨_, hs1, ite2 (fun c => ?_) (fun c => no)⟩
      rw [List.length_map] at c
      obtain ⟨v, hv⟩ := atI_ints (ns := ns) (k := 0) (by decide) (by omega)
      refine ⟨_, hs1, _, hv, v, rfl, by decide, ite2 (fun _ => ⟨sz (by decide), fin _ nn (by split <;> omega) nn0⟩) (fun _ => no)⟩
  unfold T_l_source T_l_source_1
  rwa []
  refine ⟨_, hs, ite2 (fun c => ?_) (fun c => go 0)⟩
  rw [List.length_map] at c
  have m0 := Int.emod_nonneg k (show (ns.length : Int) - 1 ≠ 0 by omega)
  have m1 := Int.emod_lt_of_pos k (show (0 : Int) < (ns.length : Int) - 1 by omega)
  obtain ⟨v, hv⟩ := atI_ints (ns := ns) (k := 1 + k % ((ns.length : Int) - 1)) (by omega) (by omega)
  refine ⟨_, hs, by rw [List.length_map]; omega, _, hs, V.int v, by rw [List.length_map]; exact hv, go v⟩
theorem xL_low {n : Nat} {a b : Nu} (a0 : a.1 ≠ 0) (b0 : 0 < b.2) : AllLow (xL n a b) := fun q hq => by
  unfold xL at hq
  rcases List.mem_cons.mp hq with rfl | hq
  · exact redG_low (Int.mul_ne_zero (Int.ne_of_gt b0) a0)
  · rcases List.mem_append.mp hq with hq | hq
    · rw [(List.mem_replicate.mp hq).2]; exact low01
    · rw [List.mem_singleton.mp hq]; exact redG_low a0
theorem xL_bd {H : Hp} {p q1 q2 : Addr} {n : Nat} {a b : Nu} (k : KindAt H p q1 q2 n a b) : AllBd 100 (xL n a b) := fun q hq => by
  unfold xL at hq
  rcases List.mem_cons.mp hq with rfl | hq
  · have z := redG_bd (Int.mul_ne_zero (Int.ne_of_gt k.lb.pos) k.a0) (k.bb.1.neg.mul k.ba.2) (k.bb.2.mul k.ba.1)
    exact ⟨z.1.mono (by decide), z.2.mono (by decide)⟩
  · rcases List.mem_append.mp hq with hq | hq
    · rw [(List.mem_replicate.mp hq).2]; exact ⟨bd_zero _, one40.mono (by decide)⟩
    · have z := redG_bd k.a0 k.ba.2 k.ba.1
      rw [List.mem_singleton.mp hq]; exact ⟨z.1.mono (by decide), z.2.mono (by decide)⟩
theorem xL_len (n : Nat) (a b : Nu) (h : 1 ≤ n) : (xL n a b).length = n + 1 := by
  unfold xL
  simp
  omega
theorem xL_ev {n : Nat} {a b : Nu} (a0 : a.1 ≠ 0) (a2 : 0 < a.2) (b0 : 0 < b.2) (n2 : 2 ≤ n) (n4 : n ≤ 4) (y : Rat) : val a * evF (pwo (xL n a b)) (xL n a b).length y (xL n a b).length + val b = y ^ n := by
  rw [xL_len n a b (by omega)]
  have e0 : val (redG (-b.1 * a.2) (b.2 * a.1)) = -(val b) / val a := by
    rw [val_redG (Int.mul_ne_zero (Int.ne_of_gt b0) a0)]
    have h1 := castNe a0
    have h2 := castNe (Int.ne_of_gt a2)
    have h3 := castNe (Int.ne_of_gt b0)
    unfold val
    simp only [Rat.intCast_mul, Rat.intCast_neg]
    grind
  have e1 : val (redG a.2 a.1) = 1 / val a := by
    rw [val_redG a0]
    have h1 := castNe a0
    have h2 := castNe (Int.ne_of_gt a2)
    unfold val
    grind
  have va : val a ≠ 0 := fun z => by
    have h1 := castNe a0
    have h2 := castNe (Int.ne_of_gt a2)
    unfold val at z
    grind
  have z0 : val (0, 1) = 0 := zdiv _
  have hn : n = 2 ∨ n = 3 ∨ n = 4 := by omega
  rcases hn with rfl | rfl | rfl
  · show val a * (val (redG (-b.1 * a.2) (b.2 * a.1)) + y * (val (0, 1) + y * (val (redG a.2 a.1) + y * 0))) + val b = y ^ 2
    rw [e0, e1, z0]
    grind
  · show val a * (val (redG (-b.1 * a.2) (b.2 * a.1)) + y * (val (0, 1) + y * (val (0, 1) + y * (val (redG a.2 a.1) + y * 0)))) + val b = y ^ 3
    rw [e0, e1, z0]
    grind
  · show val a * (val (redG (-b.1 * a.2) (b.2 * a.1)) + y * (val (0, 1) + y * (val (0, 1) + y * (val (0, 1) + y * (val (redG a.2 a.1) + y * 0))))) + val b = y ^ 4
    rw [e0, e1, z0]
    grind
theorem rdiv_pow (x y : Rat) : ∀ n : Nat, (x / y) ^ n = x ^ n / y ^ n
  | 0 => by rw [Rat.pow_zero, Rat.pow_zero, Rat.pow_zero]; grind
  | n + 1 => by rw [Rat.pow_succ, Rat.pow_succ, Rat.pow_succ, rdiv_pow x y n]; grind
theorem right_id {a b c z : Nu} {n : Nat} (a2 : 0 < a.2) (b0 : 0 < b.2) (c0 : 0 < c.2) (z0 : 0 < z.2) (h : val a * val z + val b = val c ^ n) : (a.1 * z.1 * b.2 + b.1 * a.2 * z.2) * c.2 ^ n = c.1 ^ n * a.2 * z.2 * b.2 := by
  have h1 := castNe (Int.ne_of_gt a2)
  have h2 := castNe (Int.ne_of_gt b0)
  have h3 := castNe (Int.ne_of_gt c0)
  have h4 := castNe (Int.ne_of_gt z0)
  have e : val c ^ n = ((c.1 ^ n : Int) : Rat) / ((c.2 ^ n : Int) : Rat) := by
    unfold val
    rw [rdiv_pow]
    push_cast
    rfl
  rw [e] at h
  have h5 : ((c.2 ^ n : Int) : Rat) ≠ 0 := castNe (Int.ne_of_gt (Int.pow_pos c0))
  have key : (((a.1 * z.1 * b.2 + b.1 * a.2 * z.2) * c.2 ^ n : Int) : Rat) = ((c.1 ^ n * a.2 * z.2 * b.2 : Int) : Rat) := by
    unfold val at h
    simp only [Rat.intCast_mul, Rat.intCast_add]
    generalize ((c.1 ^ n : Int) : Rat) = C at *
    generalize ((c.2 ^ n : Int) : Rat) = D at *
    grind
  exact_mod_cast key
theorem okF (T B : List Nu) : PySem.W.kqdOk 8 (PySem.W.Dat.tuple [datP T, datP B]) = true := by
  have h1 := okP T 5
  have h2 := okP B 5
  show ([datP T, datP B].all (PySem.W.kqdOk 7)) = true
  rw [List.all_cons, List.all_cons, List.all_nil]
  rw [h1, h2]; rfl
theorem neF {H : Hp} {p q u v u' v' : Addr} {T B T' B' : List Nu} {Q : VK} (hp : H p = some (.tup [.ref u, .ref v])) (hu : Pl H u T) (hv : Pl H v B) (hq : H q = some (.tup [.ref u', .ref v'])) (hu' : Pl H u' T') (hv' : Pl H v' B') (e : T = T' ∧ B = B') (h : Q (.bl false) H) : neD (.ref p) (.ref q) H Q := by
  obtain ⟨us, a, na⟩ := hu
  obtain ⟨vs, b, nb⟩ := hv
  obtain ⟨us', a', na'⟩ := hu'
  obtain ⟨vs', b', nb'⟩ := hv'
  exact ⟨_, _, true, .tup hp (.cons (repP a na) (.cons (repP b nb) .nil)), .tup hq (.cons (repP a' na') (.cons (repP b' nb') .nil)), okF _ _, okF _ _, ⟨fun _ => by rw [e.1, e.2], fun _ => rfl⟩, h⟩
theorem rRepT.of {K : W.Frag} {a : Addr} {k : Int} {xs : List V} {H : Hp} {Q : VK} (ha : H a = some (.tup xs)) (hx : xs ≠ []) (h1 : 1 ≤ k) (h2 : k < 2 ^ 62) (hz : xs.length * k.toNat ≤ sizeLine) (q : ∀ p H', Same H H' → H' p = some (.tup (List.replicate k.toNat xs).flatten) → Q (.ref p) H') : rRepT K (.ref a) (.int k) H Q :=
  ⟨a, k, xs, rfl, rfl, SqT.of ha, hx, h1, h2, hz, fun e => q a H (Same.refl H) (by rw [ha, e]; show _ = some (HO.tup ([xs].flatten)); simp), fun _ p hp => q p _ (same_new hp _) upd_same⟩
theorem rCatT.of {K : W.Frag} {a b : Addr} {xs ys : List V} {H : Hp} {Q : VK} (ha : H a = some (.tup xs)) (hb : H b = some (.tup ys)) (hx : xs ≠ []) (hz : xs.length + ys.length ≤ sizeLine) (q : ∀ p H', Same H H' → H' p = some (.tup (xs ++ ys)) → Q (.ref p) H') : rCatT K (.ref a) (.ref b) H Q :=
  ⟨a, b, xs, ys, rfl, rfl, SqT.of ha, SqT.of hb, hx, hz, fun e => q a H (Same.refl H) (by rw [ha, e, List.append_nil]), fun _ p hp => q p _ (same_new hp _) upd_same⟩
theorem vc_l_right (h : sp_l_right K vs H Q E) : T_l_right K { nx := fun _ H' => Q .non H', rt := Q } (L2.start ["_law_kind_here", "_law_source_here", "_law_n", "_law_a", "_law_b", "_law_found", "_law_first", "_law_due", "_law_k", "_law_c", "_law_told", "_law_top"] vs) H := by
  obtain ⟨p, s, q1, q2, n, a, b, rfl, kd, hs, k⟩ := h
  have n2 := kd.n2
  have n4 := kd.n4
  have hp := kd.at'
  have A0 : ∀ x y : V, atI [x, y] 0 = some x := fun _ _ => rfl
  have A1 : ∀ x y : V, atI [x, y] 1 = some y := fun _ _ => rfl
  have bne := Int.mul_ne_zero (Int.ne_of_gt kd.lb.pos) kd.a0
  unfold T_l_right
  rwa [hp]
  unfold T_l_right_1
  rwa []
  refine ⟨q1, q2, n, a, b, kd, fun t u v H1 s1 ht hu hv => ?_⟩
  have kd1 := kd.same s1
  have h1 := kd1.at1
  have h2 := kd1.at2
  unfold T_l_right_2
  rwa [h1, h2]
  refine ⟨mul4 kd.bb.1.neg kd.ba.2, mul4 kd.bb.2 kd.ba.1, bne, (kd.bb.2.mul kd.ba.1).mono (by decide), fun r6 g6 => ?_⟩
  have t6 := same_new g6 (HO.tup [V.int (redG (-b.1 * a.2) (b.2 * a.1)).1, V.int (redG (-b.1 * a.2) (b.2 * a.1)).2])
  unfold T_l_right_3
  rwa []
  refine ⟨sz (by decide), fun c1 g1 => ⟨sz (by decide), fun c2 g2 => ⟨sz (by decide), fun c3 g3 => ?_⟩⟩⟩
  have t1 := same_new g1 (HO.tup [V.ref r6])
  have t2 := same_new g2 (HO.tup [V.int 0, V.int 1])
  have t3 := same_new g3 (HO.tup [V.ref c2])
  have z6 := t3 _ _ (t2 _ _ (t1 _ _ (upd_same (H := H1) (a := r6) (o := HO.tup [V.int (redG (-b.1 * a.2) (b.2 * a.1)).1, V.int (redG (-b.1 * a.2) (b.2 * a.1)).2]))))
  have z1 := t3 _ _ (t2 _ _ (upd_same (H := upd H1 r6 (HO.tup [V.int (redG (-b.1 * a.2) (b.2 * a.1)).1, V.int (redG (-b.1 * a.2) (b.2 * a.1)).2])) (a := c1) (o := HO.tup [V.ref r6])))
  have z2 := t3 _ _ (upd_same (H := upd (upd H1 r6 (HO.tup [V.int (redG (-b.1 * a.2) (b.2 * a.1)).1, V.int (redG (-b.1 * a.2) (b.2 * a.1)).2])) c1 (HO.tup [V.ref r6])) (a := c2) (o := HO.tup [V.int 0, V.int 1]))
  have s3 := ((t6.trans t1).trans t2).trans t3
  refine rRepT.of upd_same (by simp) (by omega) (by omega) (sz (by simp; omega)) (fun rp H4 s4 h4 => ?_)
  rw [flat_rep, show ((n : Int) - 1).toNat = n - 1 by omega] at h4
  have z64 := s4 _ _ z6
  have z14 := s4 _ _ z1
  have z24 := s4 _ _ z2
  have s14 := s3.trans s4
  refine rCatT.of z14 h4 (by simp) (sz (by simp; omega)) (fun r8 H5 s5 h5 => ?_)
  have s15 := s14.trans s5
  have h15 := s15 _ _ h1
  rwa [h15]
  refine ⟨kd.a0, kd.ba.1.mono (by decide), fun r9 g9 => ⟨sz (by decide), fun r10 g10 => ?_⟩⟩
  have t9 := same_new g9 (HO.tup [V.int (redG a.2 a.1).1, V.int (redG a.2 a.1).2])
  have t10 := same_new g10 (HO.tup [V.ref r9])
  have s910 := t9.trans t10
  refine rCatT.of (s910 _ _ h5) upd_same (by simp) (sz (by simp; omega)) (fun due H6 s6 h6 => ?_)
  have s56 := s910.trans s6
  have s46 := s5.trans s56
  have s16 := s14.trans s46
  have hd : Pl H6 due (xL n a b) := ⟨_, h6, by
    unfold xL
    rw [List.append_assoc]
    refine ⟨⟨r6, rfl, s46 _ _ z64⟩, (Nums.rep ⟨c2, rfl, s46 _ _ z24⟩ _).append (Nums.one ⟨r9, rfl, ?_⟩)⟩
    exact s6 _ _ (t10 _ _ upd_same)⟩
  have ht6 := s16 _ _ ht
  have hu6 := hu.same s16
  have hv6 := hv.same s16
  have S6 := s1.trans s16
  have hs6 := hs.same S6
  have kd6 := kd.same S6
  unfold T_l_right_4
  rwa []
  refine ⟨u, v, ht6, xL n a b, hu6, [(1, 1)], hv6, xL_low kd.a0 kd.lb.pos, ?_, by rw [xL_len _ _ _ (by omega)]; omega, by simp, fun H7 s7 => ?_⟩
  · intro q hq; rw [List.mem_singleton.mp hq]; exact low11
  refine ⟨sz (by decide), fun w1 f1 => ⟨sz (by decide), fun w2 f2 => ⟨sz (by decide), fun w3 f3 => ?_⟩⟩⟩
  have y1 := same_new f1 (HO.tup [V.int 1, V.int 1])
  have y2 := same_new f2 (HO.tup [V.ref w1])
  have y3 := same_new f3 (HO.tup [V.ref due, V.ref w2])
  have y7 := ((s7.trans y1).trans y2).trans y3
  refine neF (y7 _ _ ht6) (hu6.same y7) (hv6.same y7) upd_same (hd.same y7) ⟨_, y3 _ _ upd_same, Nums.one (isN11 (y3 _ _ (y2 _ _ upd_same)))⟩ ⟨rfl, rfl⟩ ?_
  have S8 := S6.trans y7
  have ht8 := y7 _ _ ht6
  have hu8 := hu6.same y7
  have hv8 := hv6.same y7
  have hs8 := hs6.same y7
  have kd8 := kd6.same y7
  generalize upd (upd (upd H7 w1 (HO.tup [V.int 1, V.int 1])) w2 (HO.tup [V.ref w1])) w3 (HO.tup [V.ref due, V.ref w2]) = H8 at S8 ht8 hu8 hv8 hs8 kd8 ⊢
  clear y7 y3 y2 y1 f3 f2 f1 s7 kd6 hs6 S6 hv6 hu6 ht6 hd s16 s46 s56 h6 s6 s910 t10 t9 g10 g9 h15 s15 h5 s5 s14 z24 z14 z64 h4 s4 s3 z2 z1 z6 t3 t2 t1 g3 g2 g1 t6 g6 h1 h2 kd1 ht hu hv s1
  refine ⟨_, rfl, ite2 (fun c => by cases c) (fun _ => ?_)⟩
  unfold T_l_right_5
  rwa []
  refine ⟨by decide, by decide, ForR.by (fun i σ H' => i ≤ 6 ∧ ∃ x8 x9 x10 x11 : Option V, σ = [some (.ref p), some (.ref s), some (.int (n : Int)), some (.ref q1), some (.ref q2), some (.ref t), some (.ref r6), some (.ref due), x8, x9, x10, x11] ∧ Tp H8 H' ∧ Src H' s ∧ Kp s H H') ⟨by decide, none, none, none, none, rfl, fun _ _ h => h, hs8, Kp.of_same S8⟩ ?_ ?_⟩
  · rintro i σ H9 hi ⟨_, x8, x9, x10, x11, rfl, tp9, hs9, k9⟩
    have hi6 : i < 6 := hi
    unfold T_l_right_b1_0
    rwa []
    refine ⟨sz (by decide), fun c1 g1 => ⟨sz (by decide), fun c2 g2 => ?_⟩⟩
    have t1 := same_new g1 (HO.tup [V.int (0 + (i : Int) - 2), V.int 1])
    have t2 := same_new g2 (HO.tup [V.int (0 + (i : Int)), V.int 3])
    have hs2 := hs9.same (t1.trans t2)
    refine ⟨hs2, fun r q H10 hr lq bq1 bq2 hs10 k10 => ⟨sz (by decide), fun c3 g3 => ⟨by decide, ?_⟩⟩⟩
    have tp10 := hs2.tp k10
    have t3 := same_new g3 (HO.lst [V.ref c1, V.ref c2, V.ref r])
    have T10 : Tp H8 (upd H10 c3 (HO.lst [V.ref c1, V.ref c2, V.ref r])) := fun b xs h => t3 _ _ (tp10 _ _ (t2 _ _ (t1 _ _ (tp9 _ _ h))))
    have K10 : Kp s H (upd H10 c3 (HO.lst [V.ref c1, V.ref c2, V.ref r])) := ((k9.same (t1.trans t2)).trans k10).same t3
    have S10 := hs10.same t3
    obtain ⟨w, c, hw, hc, lc, b1, b2⟩ : ∃ (w : Addr) (c : Nu), atI [V.ref c1, V.ref c2, V.ref r] ((0 + (i : Int)) % 3) = some (V.ref w) ∧ upd H10 c3 (HO.lst [V.ref c1, V.ref c2, V.ref r]) w = some (.tup [.int c.1, .int c.2]) ∧ Low c.1 c.2 ∧ Bd 40 c.1 ∧ Bd 40 c.2 := by
      have f1 := t3 _ _ (tp10 _ _ (t2 _ _ (upd_same (H := H9) (a := c1) (o := HO.tup [V.int (0 + (i : Int) - 2), V.int 1]))))
      have f2 := t3 _ _ (tp10 _ _ (upd_same (H := upd H9 c1 (HO.tup [V.int (0 + (i : Int) - 2), V.int 1])) (a := c2) (o := HO.tup [V.int (0 + (i : Int)), V.int 3])))
      obtain ⟨_, e3, f3⟩ := hr
      injection e3 with e3
      subst e3
      have f3 := t3 _ _ f3
      match i, hi6, f1, f2 with
      | 0, _, f1, f2 => exact ⟨c1, (-2, 1), rfl, by rw [f1]; simp, ⟨by decide, by decide⟩, bd40 (by decide) (by decide), one40⟩
      | 1, _, f1, f2 => exact ⟨c2, (1, 3), rfl, f2, ⟨by decide, by decide⟩, one40, bd40 (by decide) (by decide)⟩
      | 2, _, f1, f2 => exact ⟨r, q, rfl, f3, lq, bq1, bq2⟩
      | 3, _, f1, f2 => exact ⟨c1, (1, 1), rfl, f1, low11, one40, one40⟩
      | 4, _, f1, f2 => exact ⟨c2, (4, 3), rfl, f2, ⟨by decide, by decide⟩, bd40 (by decide) (by decide), bd40 (by decide) (by decide)⟩
      | 5, _, f1, f2 => exact ⟨r, q, rfl, f3, lq, bq1, bq2⟩
    refine ⟨_, hw, ?_⟩
    have kd10 := kd8.tp T10
    have ht10 := T10 _ _ ht8
    have hu10 := hu8.tp T10
    have hv10 := hv8.tp T10
    generalize upd H10 c3 (HO.lst [V.ref c1, V.ref c2, V.ref r]) = H11 at T10 K10 S10 hc kd10 ht10 hu10 hv10 ⊢
    unfold T_l_right_b1_1
    rwa []
    refine ⟨u, v, ht10, xL n a b, hu10, hv10, c.1, c.2, hc, xL_low kd.a0 kd.lb.pos, xL_bd kd, lc, b1, b2, by rw [xL_len _ _ _ (by omega)]; omega, fun r11 z H12 s12 hz lz bz1 bz2 ez => ?_⟩
    obtain ⟨_, e11, hz⟩ := hz
    injection e11 with e11
    subst e11
    unfold T_l_right_b1_2
    rwa []
    refine ⟨_, _, hz, lz, fun H13 s13 => ?_⟩
    have hz13 := s13 _ _ hz
    have S13 := s12.trans s13
    have kd13 := kd10.same S13
    have h1 := kd13.at1
    have h2 := kd13.at2
    have hc13 := S13 _ _ hc
    unfold T_l_right_b1_3
    rwa [h1, h2, hz13]
    have m1 := kd.ba.1.mul bz1
    have m2 := m1.mul kd.bb.2
    have m3 := kd.bb.1.mul kd.ba.2
    have m4 := m3.mul bz2
    refine ⟨mul4 kd.ba.1 bz1, mul4 m1 kd.bb.2, mul4 kd.bb.1 kd.ba.2, mul4 m3 bz2, ?_⟩
    unfold T_l_right_b1_4
    rwa [h1, h2, hz13, hc13]
    have p2 : Bd 200 (c.2 ^ n) := (b2.pow n).mono (by omega)
    have p1 : Bd 200 (c.1 ^ n) := (b1.pow n).mono (by omega)
    have m5 := ((m2.mono (show _ ≤ 200000 by decide)).add (m4.mono (show _ ≤ 200000 by decide)))
    have m6 := p1.mul kd.ba.2
    have m7 := m6.mul bz2
    refine ⟨n, rfl, n4, b2, mul4 m5 p2, n, rfl, n4, b1, mul4 p1 kd.ba.2, mul4 m6 bz2, mul4 m7 kd.bb.2, ?_⟩
    have id := right_id (c := c) (n := n) kd.la.pos kd.lb.pos lc.pos lz.pos (by rw [ez]; exact xL_ev kd.a0 kd.la.pos kd.lb.pos n2 n4 _)
    rw [if_neg (fun c => c id)]
    exact ⟨by omega, fun b xs h => S13 _ _ (T10 _ _ h), S10.same S13, K10.same S13⟩
  · rintro σ H9 ⟨_, x8, x9, x10, x11, rfl, tp9, hs9, k9⟩
    unfold T_l_right_6
    rwa []
    exact k H9 hs9 k9
theorem vc_law (h : sp_law K vs H Q E) : T_law K { nx := fun _ H' => Q .non H', rt := Q } (L2.start ["_law_script", "_law_k", "_law_source_here", "_law_kind_here"] vs) H := by
  obtain ⟨s, ns, rfl, hs, n63, k⟩ := h
  unfold T_law
  rwa []
  refine ⟨by decide, by decide, ForR.by (fun i σ H' => i ≤ 4 ∧ ∃ x1 x2 x3 : Option V, σ = [some (.ref s), x1, x2, x3] ∧ Same H H') ⟨by decide, none, none, none, rfl, Same.refl H⟩ ?_ ?_⟩
  · rintro i σ H1 hi ⟨_, x1, x2, x3, rfl, s1⟩
    have hi4 : i < 4 := hi
    unfold T_law_b1_0
    rwa []
    refine ⟨ns, s1.seq hs, by omega, by omega, n63, fun r H2 r0 s2 hr => ?_⟩
    unfold T_law_b1_1
    rwa []
    refine ⟨hr, fun t q1 q2 n a b H3 kd hr3 k3 => ?_⟩
    have s3 : Same H1 H3 := Kp.over s2 k3 r0
    unfold T_law_b1_2
    rwa []
    refine ⟨q1, q2, n, a, b, kd, hr3, fun H4 hr4 k4 => ?_⟩
    have s4 : Same H1 H4 := Kp.over s3 k4 r0
    have kd4 := kd.tp (hr3.tp k4)
    refine ⟨q1, q2, n, a, b, kd4, fun t1 u1 v1 H5 s5 h5 hu5 hv5 => ⟨q1, q2, n, a, b, kd4.same s5, fun t2 u2 v2 H6 s6 h6 hu6 hv6 => ?_⟩⟩
    refine neF (s6 _ _ h5) (hu5.same s6) (hv5.same s6) h6 hu6 hv6 ⟨rfl, rfl⟩ ?_
    refine ⟨_, rfl, ite2 (fun c => by cases c) (fun _ => ?_)⟩
    exact ⟨by omega, ((s1.trans s4).trans s5).trans s6⟩
  · rintro σ H1 ⟨_, x1, x2, x3, rfl, s1⟩
    unfold T_law_1
    rwa []
    exact k _
end Bs
namespace Bs
open PySem PySem.Spec PyProof.Rows L2
set_option maxHeartbeats 4000000
open Hd
structure Bl (K : W.Frag) (mg : Str → Option Value) : Prop where
  abs : mg "abs" = none
  list : mg "list" = none
  len : mg "len" = none
  range : mg "range" = none
  tuple : mg "tuple" = none
  reversed : mg "reversed" = none
  enumerate : mg "enumerate" = none
  X : mg "X" = some (.ref (aX K))
  sum : mg "sum" = none
  isinstance : mg "isinstance" = none
  int : mg "int" = none
  bool : mg "bool" = none
  all : mg "all" = none
  xX : XOk K
section
variable {P : Program} {w : World} {K : W.Frag} {mg : Str → Option Value} {base : Heap} {f : Addr} {fd : FuncData}
theorem sc_common_divisor : FnScope ["one", "other", "rest"] ["one", "other"] (defScope s_common_divisor) := ⟨rfl, rfl, rfl, by decide +kernel, rfl, by decide +kernel, by decide +kernel⟩
theorem ok_common_divisor (F : Fun K "common_divisor" "common_divisor" s_common_divisor f fd) (B : Bl K mg)  : FnOk P w K mg base CX0 1 f fd ["one", "other"] (sp_common_divisor K) := by
  refine F.ok sc_common_divisor (fun vs H Q E h => ?_) (fun cdv A outer s H vs Q E hr h => ?_)
  · obtain ⟨_, _, rfl, _⟩ := h
    rfl
  have nd := sc_common_divisor.nd
  have hu := hr.units0
  have hu64 := hr.units
  exact ⟨T_common_divisor K, (pss_cons (ps_while PassesOwn.never (pt_cmpR op_ne (pv 1) pe_int (nomark _)) (pss_cons (ps_set (i := 2) nd rfl (Or.inl rfl) (pe_op op_modN (pv 0) (pv 1)))
    (pss_cons (ps_set (i := 0) nd rfl (Or.inl rfl) (pv 1))
    (pss_one (ps_set (i := 1) nd rfl (Or.inl rfl) (pv 2))))))
    (pss_one (ps_ret (pe_callB call_absB rfl B.abs bt_abs (pa_cons (pv 0) pa_nil))))), vc_common_divisor h⟩
theorem sc_raised : FnScope ["whole", "n", "result", "square"] ["whole", "n"] (defScope s_raised) := ⟨rfl, rfl, rfl, by decide +kernel, rfl, by decide +kernel, by decide +kernel⟩
theorem ok_raised (F : Fun K "raised" "raised" s_raised f fd) (B : Bl K mg)  : FnOk P w K mg base CX0 1 f fd ["whole", "n"] (sp_raised K) := by
  refine F.ok sc_raised (fun vs H Q E h => ?_) (fun cdv A outer s H vs Q E hr h => ?_)
  · obtain ⟨_, _, _, rfl, _⟩ := h
    rfl
  have nd := sc_raised.nd
  have hu := hr.units0
  have hu64 := hr.units
  exact ⟨T_raised K, (pss_cons (ps_set (i := 2) nd rfl (Or.inl rfl) pe_int)
    (pss_cons (ps_set (i := 3) nd rfl (Or.inl rfl) (pv 0))
    (pss_cons (ps_while PassesOwn.never (pt_cmpR op_gt (pv 1) pe_int (nomark _)) (pss_cons (ps_if (pt_cmpR op_eq (pe_op op_mod (pv 1) pe_int) pe_int (nomark _)) (pss_one (ps_aug (i := 2) nd rfl (Or.inl rfl) (pv 3) iop_mulB)) pss_nil)
    (pss_cons (ps_aug (i := 1) nd rfl (Or.inl rfl) pe_int iop_fdivP)
    (pss_one (ps_if (pt_cmpR op_gt (pv 1) pe_int (nomark _)) (pss_one (ps_aug (i := 3) nd rfl (Or.inl rfl) (pv 3) iop_mulB)) pss_nil)))))
    (pss_one (ps_ret (pv 2)))))), vc_raised h⟩
theorem sc_row_moved : FnScope ["row", "whole", "result", "first", "place"] ["row", "whole"] (defScope s_row_moved) := ⟨rfl, rfl, rfl, by decide +kernel, rfl, by decide +kernel, by decide +kernel⟩
theorem ok_row_moved (F : Fun K "row_moved" "row_moved" s_row_moved f fd) (B : Bl K mg)  : FnOk P w K mg base CX0 1 f fd ["row", "whole"] (sp_row_moved K) := by
  refine F.ok sc_row_moved (fun vs H Q E h => ?_) (fun cdv A outer s H vs Q E hr h => ?_)
  · obtain ⟨_, _, _, rfl, _⟩ := h
    rfl
  have nd := sc_row_moved.nd
  have hu := hr.units0
  have hu64 := hr.units
  exact ⟨T_row_moved K, (pss_cons (ps_set (i := 2) nd rfl (Or.inl rfl) (pe_callTy call_listL rfl B.list bt_list (pa_cons (pv 0) pa_nil)))
    (pss_cons (ps_for PassesOwn.never rfl (pi_range1 rfl B.range (pa_cons (pe_op op_sub (pe_callB call_lenL rfl B.len bt_len (pa_cons (pv 0) pa_nil)) pe_int) pa_nil)) (pg_name (i := 3) nd rfl (Or.inl rfl)) (pss_one (ps_for PassesOwn.never rfl (pi_range3 rfl B.range (pa_cons (pe_op op_sub (pe_callB call_lenL rfl B.len bt_len (pa_cons (pv 0) pa_nil)) pe_int) (pa_cons (pe_op op_sub (pv 3) pe_int) (pa_cons (pe_un un_neg pe_int) pa_nil)))) (pg_name (i := 4) nd rfl (Or.inl rfl)) (pss_one (ps_augS (pv 2) (pv 4) get_lstH (pe_op op_mulB (pv 1) (pe_ix ix_lstH (pv 2) (pe_op op_add (pv 4) pe_int) (fun _ _ => rfl))) iop_add set_list)))))
    (pss_one (ps_ret (pv 2))))), vc_row_moved h⟩
theorem sc_ratio : FnScope ["top", "bottom", "shared"] ["top", "bottom"] (defScope s_ratio) := ⟨rfl, rfl, rfl, by decide +kernel, rfl, by decide +kernel, by decide +kernel⟩
theorem ok_ratio (F : Fun K "ratio" "ratio" s_ratio f fd) (B : Bl K mg) (c_common_divisor : Cal P w K mg base 1 "common_divisor" ["one", "other"] (sp_common_divisor K)) : FnOk P w K mg base CX0 2 f fd ["top", "bottom"] (sp_ratio K) := by
  refine F.ok sc_ratio (fun vs H Q E h => ?_) (fun cdv A outer s H vs Q E hr h => ?_)
  · obtain ⟨_, _, rfl, _⟩ := h
    rfl
  have nd := sc_ratio.nd
  have hu := hr.units0
  have hu64 := hr.units
  exact ⟨T_ratio K, (pss_cons (ps_set (i := 2) nd rfl (Or.inl rfl) (c_common_divisor.pe hr (by decide) rfl (pa_cons (pv 0) (pa_cons (pv 1) pa_nil))))
    (pss_cons (ps_if (pt_cmpR op_lt (pv 1) pe_int (nomark _)) (pss_one (ps_set (i := 2) nd rfl (Or.inl rfl) (pe_un un_neg (pv 2)))) pss_nil)
    (pss_one (ps_ret (pe_tup (pa_cons (pe_op op_fdivM (pv 0) (pv 2)) (pa_cons (pe_op op_fdivM (pv 1) (pv 2)) pa_nil))))))), vc_ratio h⟩
theorem sc_minus : FnScope ["one", "other"] ["one", "other"] (defScope s_minus) := ⟨rfl, rfl, rfl, by decide +kernel, rfl, by decide +kernel, by decide +kernel⟩
theorem ok_minus (F : Fun K "minus" "minus" s_minus f fd) (B : Bl K mg) (c_ratio : Cal P w K mg base 2 "ratio" ["top", "bottom"] (sp_ratio K)) : FnOk P w K mg base CX0 3 f fd ["one", "other"] (sp_minus K) := by
  refine F.ok sc_minus (fun vs H Q E h => ?_) (fun cdv A outer s H vs Q E hr h => ?_)
  · obtain ⟨_, _, _, _, _, _, rfl, _⟩ := h
    rfl
  have nd := sc_minus.nd
  have hu := hr.units0
  have hu64 := hr.units
  exact ⟨T_minus K, (pss_one (ps_ret (c_ratio.pe hr (by decide) rfl (pa_cons (pe_op op_sub (pe_op op_mulB (pe_ix ix_tupH (pv 0) pe_int (fun _ _ => rfl)) (pe_ix ix_tupH (pv 1) pe_int (fun _ _ => rfl))) (pe_op op_mulB (pe_ix ix_tupH (pv 1) pe_int (fun _ _ => rfl)) (pe_ix ix_tupH (pv 0) pe_int (fun _ _ => rfl)))) (pa_cons (pe_op op_mulB (pe_ix ix_tupH (pv 0) pe_int (fun _ _ => rfl)) (pe_ix ix_tupH (pv 1) pe_int (fun _ _ => rfl))) pa_nil))))), vc_minus h⟩
theorem sc_times : FnScope ["one", "other"] ["one", "other"] (defScope s_times) := ⟨rfl, rfl, rfl, by decide +kernel, rfl, by decide +kernel, by decide +kernel⟩
theorem ok_times (F : Fun K "times" "times" s_times f fd) (B : Bl K mg) (c_ratio : Cal P w K mg base 2 "ratio" ["top", "bottom"] (sp_ratio K)) : FnOk P w K mg base CX0 3 f fd ["one", "other"] (sp_times K) := by
  refine F.ok sc_times (fun vs H Q E h => ?_) (fun cdv A outer s H vs Q E hr h => ?_)
  · obtain ⟨_, _, _, _, _, _, rfl, _⟩ := h
    rfl
  have nd := sc_times.nd
  have hu := hr.units0
  have hu64 := hr.units
  exact ⟨T_times K, (pss_one (ps_ret (c_ratio.pe hr (by decide) rfl (pa_cons (pe_op op_mulB (pe_ix ix_tupK (pv 0) pe_int (fun _ _ => rfl)) (pe_ix ix_tupH (pv 1) pe_int (fun _ _ => rfl))) (pa_cons (pe_op op_mulB (pe_ix ix_tupK (pv 0) pe_int (fun _ _ => rfl)) (pe_ix ix_tupH (pv 1) pe_int (fun _ _ => rfl))) pa_nil))))), vc_times h⟩
theorem sc_over : FnScope ["one", "other"] ["one", "other"] (defScope s_over) := ⟨rfl, rfl, rfl, by decide +kernel, rfl, by decide +kernel, by decide +kernel⟩
theorem ok_over (F : Fun K "over" "over" s_over f fd) (B : Bl K mg) (c_ratio : Cal P w K mg base 2 "ratio" ["top", "bottom"] (sp_ratio K)) : FnOk P w K mg base CX0 3 f fd ["one", "other"] (sp_over K) := by
  refine F.ok sc_over (fun vs H Q E h => ?_) (fun cdv A outer s H vs Q E hr h => ?_)
  · obtain ⟨_, _, _, _, _, _, rfl, _⟩ := h
    rfl
  have nd := sc_over.nd
  have hu := hr.units0
  have hu64 := hr.units
  exact ⟨T_over K, (pss_one (ps_ret (c_ratio.pe hr (by decide) rfl (pa_cons (pe_op op_mulB (pe_ix ix_tupH (pv 0) pe_int (fun _ _ => rfl)) (pe_ix ix_tupH (pv 1) pe_int (fun _ _ => rfl))) (pa_cons (pe_op op_mulB (pe_ix ix_tupH (pv 0) pe_int (fun _ _ => rfl)) (pe_ix ix_tupH (pv 1) pe_int (fun _ _ => rfl))) pa_nil))))), vc_over h⟩
theorem sc_power : FnScope ["one", "n", "top", "bottom"] ["one", "n"] (defScope s_power) := ⟨rfl, rfl, rfl, by decide +kernel, rfl, by decide +kernel, by decide +kernel⟩
theorem ok_power (F : Fun K "power" "power" s_power f fd) (B : Bl K mg) (c_raised : Cal P w K mg base 1 "raised" ["whole", "n"] (sp_raised K)) : FnOk P w K mg base CX0 2 f fd ["one", "n"] (sp_power K) := by
  refine F.ok sc_power (fun vs H Q E h => ?_) (fun cdv A outer s H vs Q E hr h => ?_)
  · obtain ⟨_, _, _, _, _, rfl, _⟩ := h
    rfl
  have nd := sc_power.nd
  have hu := hr.units0
  have hu64 := hr.units
  exact ⟨T_power K, (pss_cons (ps_set (i := 2) nd rfl (Or.inl rfl) (c_raised.pe hr (by decide) rfl (pa_cons (pe_ix ix_tupH (pv 0) pe_int (fun _ _ => rfl)) (pa_cons (pe_callB call_absB rfl B.abs bt_abs (pa_cons (pv 1) pa_nil)) pa_nil))))
    (pss_cons (ps_set (i := 3) nd rfl (Or.inl rfl) (c_raised.pe hr (by decide) rfl (pa_cons (pe_ix ix_tupH (pv 0) pe_int (fun _ _ => rfl)) (pa_cons (pe_callB call_absB rfl B.abs bt_abs (pa_cons (pv 1) pa_nil)) pa_nil))))
    (pss_cons (ps_if (pt_cmpR op_ge (pv 1) pe_int (nomark _)) (pss_one (ps_ret (pe_tup (pa_cons (pv 2) (pa_cons (pv 3) pa_nil))))) pss_nil)
    (pss_cons (ps_if (pt_cmpR op_lt (pv 2) pe_int (nomark _)) (pss_one (ps_ret (pe_tup (pa_cons (pe_un un_neg (pv 3)) (pa_cons (pe_un un_neg (pv 2)) pa_nil))))) pss_nil)
    (pss_one (ps_ret (pe_tup (pa_cons (pv 3) (pa_cons (pv 2) pa_nil))))))))), vc_power h⟩
theorem sc_poly : FnScope ["row", "many"] ["row"] (defScope s_poly) := ⟨rfl, rfl, rfl, by decide +kernel, rfl, by decide +kernel, by decide +kernel⟩
theorem ok_poly (F : Fun K "poly" "poly" s_poly f fd) (B : Bl K mg)  : FnOk P w K mg base CX0 1 f fd ["row"] (sp_poly K) := by
  refine F.ok sc_poly (fun vs H Q E h => ?_) (fun cdv A outer s H vs Q E hr h => ?_)
  · obtain ⟨_, _, _, rfl, _⟩ := h
    rfl
  have nd := sc_poly.nd
  have hu := hr.units0
  have hu64 := hr.units
  exact ⟨T_poly K, (pss_cons (ps_set (i := 1) nd rfl (Or.inl rfl) (pe_callB call_lenL rfl B.len bt_len (pa_cons (pv 0) pa_nil)))
    (pss_cons (ps_while PassesOwn.never (PW.pt (pw_and (pt_cmpR op_gt (pv 1) pe_int (nomark _)) (pw_and1 (pt_cmpR op_eq (pe_ix ix_tupH (pe_ix ix_lstH (pv 0) (pe_op op_sub (pv 1) pe_int) (fun _ _ => rfl)) pe_int (fun _ _ => rfl)) pe_int (nomark _))))) (pss_one (ps_aug (i := 1) nd rfl (Or.inl rfl) pe_int iop_sub)))
    (pss_one (ps_ret (pe_callTy call_tupL rfl B.tuple bt_tuple (pa_cons (pe_slice sl_lstH (pv 0) po_none (po_some (pv 1))) pa_nil)))))), vc_poly h⟩
theorem sc_cleared : FnScope ["P", "bottom", "number"] ["P"] (defScope s_cleared) := ⟨rfl, rfl, rfl, by decide +kernel, rfl, by decide +kernel, by decide +kernel⟩
theorem ok_cleared (F : Fun K "cleared" "cleared" s_cleared f fd) (B : Bl K mg) (c_common_divisor : Cal P w K mg base 1 "common_divisor" ["one", "other"] (sp_common_divisor K)) : FnOk P w K mg base CX0 2 f fd ["P"] (sp_cleared K) := by
  refine F.ok sc_cleared (fun vs H Q E h => ?_) (fun cdv A outer s H vs Q E hr h => ?_)
  · obtain ⟨_, _, _, _, rfl, _⟩ := h
    rfl
  have nd := sc_cleared.nd
  have hu := hr.units0
  have hu64 := hr.units
  exact ⟨T_cleared K, (pss_cons (ps_set (i := 1) nd rfl (Or.inr rfl) pe_int)
    (pss_cons (ps_for PassesOwn.never rfl (pi_tup (pv 0)) (pg_name (i := 2) nd rfl (Or.inl rfl)) (pss_one (ps_aug (i := 1) nd rfl (Or.inr rfl) (pe_op op_fdivP (pe_ix ix_tupH (pv 2) pe_int (fun _ _ => rfl)) (c_common_divisor.pe hr (by decide) rfl (pa_cons (pv 1) (pa_cons (pe_ix ix_tupH (pv 2) pe_int (fun _ _ => rfl)) pa_nil)))) iop_mulB)))
    (pss_one (ps_ret (pe_tup (pa_cons (pe_comp (N := ["number", "bottom"]) (capt := [none, some 1]) rfl (BlkOk.of rfl rfl rfl rfl (List.forall_mem_singleton.mpr rfl) rfl rfl rfl) (pi_tup (pv 0)) (fun _ _ _ _ => (pg_name (i := 0) (show (["number", "bottom"] : List PySem.Str).Nodup by decide +kernel) rfl (Or.inl rfl))) (fun _ _ _ _ => (pe_op op_mulB (pe_ix ix_tupH (pv 0) pe_int (fun _ _ => rfl)) (pe_op op_fdivP (pv 1) (pe_ix ix_tupH (pv 0) pe_int (fun _ _ => rfl)))))) (pa_cons (pv 1) pa_nil))))))), vc_cleared h⟩
theorem sc_uncleared : FnScope ["row", "bottom"] ["row", "bottom"] (defScope s_uncleared) := ⟨rfl, rfl, rfl, by decide +kernel, rfl, by decide +kernel, by decide +kernel⟩
theorem ok_uncleared (F : Fun K "uncleared" "uncleared" s_uncleared f fd) (B : Bl K mg) (c_ratio : Cal P w K mg base 2 "ratio" ["top", "bottom"] (sp_ratio K)) (c_poly : Cal P w K mg base 1 "poly" ["row"] (sp_poly K)) : FnOk P w K mg base CX0 3 f fd ["row", "bottom"] (sp_uncleared K) := by
  refine F.ok sc_uncleared (fun vs H Q E h => ?_) (fun cdv A outer s H vs Q E hr h => ?_)
  · obtain ⟨_, _, _, rfl, _⟩ := h
    rfl
  have nd := sc_uncleared.nd
  have hu := hr.units0
  have hu64 := hr.units
  exact ⟨T_uncleared K, (pss_one (ps_ret (c_poly.pe hr (by decide) rfl (pa_cons (pe_comp (N := ["whole", "bottom"]) (capt := [none, some 1]) rfl (BlkOk.of rfl rfl rfl rfl (List.forall_mem_singleton.mpr rfl) rfl rfl rfl) (pi_list (pv 0)) (fun _ _ _ _ => (pg_name (i := 0) (show (["whole", "bottom"] : List PySem.Str).Nodup by decide +kernel) rfl (Or.inl rfl))) (fun _ _ _ _ => (c_ratio.pe hr (by decide) rfl (pa_cons (pv 0) (pa_cons (pv 1) pa_nil))))) pa_nil)))), vc_uncleared h⟩
theorem sc_p_at : FnScope ["P", "c", "row", "value", "scale", "whole"] ["P", "c"] (defScope s_p_at) := ⟨rfl, rfl, rfl, by decide +kernel, rfl, by decide +kernel, by decide +kernel⟩
theorem ok_p_at (F : Fun K "p_at" "p_at" s_p_at f fd) (B : Bl K mg) (c_cleared : Cal P w K mg base 2 "cleared" ["P"] (sp_cleared K)) (c_ratio : Cal P w K mg base 2 "ratio" ["top", "bottom"] (sp_ratio K)) : FnOk P w K mg base CX0 3 f fd ["P", "c"] (sp_p_at K) := by
  refine F.ok sc_p_at (fun vs H Q E h => ?_) (fun cdv A outer s H vs Q E hr h => ?_)
  · obtain ⟨_, _, _, _, _, _, rfl, _⟩ := h
    rfl
  have nd := sc_p_at.nd
  have hu := hr.units0
  have hu64 := hr.units
  exact ⟨T_p_at K, (pss_cons (ps_set (i := 2) nd rfl (Or.inl rfl) (c_cleared.pe hr (by decide) rfl (pa_cons (pv 0) pa_nil)))
    (pss_cons (ps_set (i := 3) nd rfl (Or.inl rfl) pe_int)
    (pss_cons (ps_set (i := 4) nd rfl (Or.inl rfl) pe_int)
    (pss_cons (ps_for PassesOwn.never rfl (pi_rev rfl B.reversed (pa_cons (pe_ix ix_tupH (pv 2) pe_int (fun _ _ => rfl)) pa_nil)) (pg_name (i := 5) nd rfl (Or.inl rfl)) (pss_cons (ps_set (i := 3) nd rfl (Or.inl rfl) (pe_op op_add (pe_op op_mulB (pv 3) (pe_ix ix_tupH (pv 1) pe_int (fun _ _ => rfl))) (pe_op op_mulB (pv 5) (pv 4))))
    (pss_one (ps_aug (i := 4) nd rfl (Or.inl rfl) (pe_ix ix_tupH (pv 1) pe_int (fun _ _ => rfl)) iop_mulB))))
    (pss_one (ps_ret (c_ratio.pe hr (by decide) rfl (pa_cons (pe_op op_mulB (pv 3) (pe_ix ix_tupH (pv 1) pe_int (fun _ _ => rfl))) (pa_cons (pe_op op_mulB (pe_ix ix_tupH (pv 2) pe_int (fun _ _ => rfl)) (pv 4)) pa_nil))))))))), vc_p_at h⟩
theorem sc_p_moved : FnScope ["P", "c", "row", "scales", "number", "last", "stretched", "moved"] ["P", "c"] (defScope s_p_moved) := ⟨rfl, rfl, rfl, by decide +kernel, rfl, by decide +kernel, by decide +kernel⟩
theorem ok_p_moved (F : Fun K "p_moved" "p_moved" s_p_moved f fd) (B : Bl K mg) (c_cleared : Cal P w K mg base 2 "cleared" ["P"] (sp_cleared K)) (c_row_moved : Cal P w K mg base 1 "row_moved" ["row", "whole"] (sp_row_moved K)) (c_uncleared : Cal P w K mg base 3 "uncleared" ["row", "bottom"] (sp_uncleared K)) : FnOk P w K mg base CX0 4 f fd ["P", "c"] (sp_p_moved K) := by
  refine F.ok sc_p_moved (fun vs H Q E h => ?_) (fun cdv A outer s H vs Q E hr h => ?_)
  · obtain ⟨_, _, _, _, _, _, rfl, _⟩ := h
    rfl
  have nd := sc_p_moved.nd
  have hu := hr.units0
  have hu64 := hr.units
  exact ⟨T_p_moved K, (pss_cons (ps_set (i := 2) nd rfl (Or.inl rfl) (c_cleared.pe hr (by decide) rfl (pa_cons (pv 0) pa_nil)))
    (pss_cons (ps_set (i := 3) nd rfl (Or.inr rfl) (pe_lst (pa_cons pe_int pa_nil)))
    (pss_cons (ps_for PassesOwn.never rfl (pi_tup (pv 0)) (pg_name (i := 4) nd rfl (Or.inl rfl)) (pss_one (ps_expr (pe_bm PySem.F.plainAttrs_list PySem.F.slot_list_append PySem.F.type_list_append mt_append (pv 3) (pa_cons (pe_op op_mulB (pe_ix ix_lstH (pv 3) (pe_un un_neg pe_int) (fun _ _ => rfl)) (pe_ix ix_tupH (pv 1) pe_int (fun _ _ => rfl))) pa_nil)))))
    (pss_cons (ps_set (i := 5) nd rfl (Or.inr rfl) (pe_op op_sub (pe_callB call_lenT rfl B.len bt_len (pa_cons (pv 0) pa_nil)) pe_int))
    (pss_cons (ps_setC (i := 6) (N := ["place", "whole", "scales", "last"]) (capt := [none, none, some 3, some 5]) nd rfl (Or.inl rfl) rfl (BlkOk.of rfl rfl rfl rfl (List.forall_mem_cons.mpr ⟨rfl, (List.forall_mem_singleton.mpr rfl)⟩) rfl rfl rfl) (pi_enumL rfl B.enumerate (pa_cons (pe_ix ix_tupH (pv 2) pe_int (fun _ _ => rfl)) pa_nil)) (fun _ _ _ _ => (pg_tupH rfl (pgs_cons (pg_name (i := 0) (show (["place", "whole", "scales", "last"] : List PySem.Str).Nodup by decide +kernel) rfl (Or.inl rfl)) (pgs_cons (pg_name (i := 1) (show (["place", "whole", "scales", "last"] : List PySem.Str).Nodup by decide +kernel) rfl (Or.inl rfl)) pgs_nil)))) (fun _ _ _ _ => (pe_op op_mulB (pv 1) (pe_ix ix_lstH (pv 2) (pe_op op_sub (pv 3) (pv 0)) (fun _ _ => rfl)))))
    (pss_cons (ps_set (i := 7) nd rfl (Or.inl rfl) (c_row_moved.pe hr (by decide) rfl (pa_cons (pv 6) (pa_cons (pe_ix ix_tupH (pv 1) pe_int (fun _ _ => rfl)) pa_nil))))
    (pss_one (ps_ret (c_uncleared.pe hr (by decide) rfl (pa_cons (pe_comp (N := ["place", "whole", "scales"]) (capt := [none, none, some 3]) rfl (BlkOk.of rfl rfl rfl rfl (List.forall_mem_singleton.mpr rfl) rfl rfl rfl) (pi_enumL rfl B.enumerate (pa_cons (pv 7) pa_nil)) (fun _ _ _ _ => (pg_tupH rfl (pgs_cons (pg_name (i := 0) (show (["place", "whole", "scales"] : List PySem.Str).Nodup by decide +kernel) rfl (Or.inl rfl)) (pgs_cons (pg_name (i := 1) (show (["place", "whole", "scales"] : List PySem.Str).Nodup by decide +kernel) rfl (Or.inl rfl)) pgs_nil)))) (fun _ _ _ _ => (pe_op op_mulB (pv 1) (pe_ix ix_lstH (pv 2) (pv 0) (fun _ _ => rfl))))) (pa_cons (pe_op op_mulB (pe_ix ix_tupH (pv 2) pe_int (fun _ _ => rfl)) (pe_ix ix_lstH (pv 3) (pv 5) (fun _ _ => rfl))) pa_nil))))))))))), vc_p_moved h⟩
theorem sc_f_poly : FnScope ["P"] ["P"] (defScope s_f_poly) := ⟨rfl, rfl, rfl, by decide +kernel, rfl, by decide +kernel, by decide +kernel⟩
theorem ok_f_poly (F : Fun K "f_poly" "f_poly" s_f_poly f fd) (B : Bl K mg)  : FnOk P w K mg base CX0 1 f fd ["P"] (sp_f_poly K) := by
  refine F.ok sc_f_poly (fun vs H Q E h => ?_) (fun cdv A outer s H vs Q E hr h => ?_)
  · obtain ⟨_, rfl, _⟩ := h
    rfl
  have nd := sc_f_poly.nd
  have hu := hr.units0
  have hu64 := hr.units
  exact ⟨T_f_poly K, (pss_one (ps_ret (pe_tup (pa_cons (pv 0) (pa_cons (pe_tup (pa_cons (pe_tup (pa_cons pe_int (pa_cons pe_int pa_nil))) pa_nil)) pa_nil))))), vc_f_poly h⟩
theorem sc_f_at : FnScope ["F", "c", "bottom"] ["F", "c"] (defScope s_f_at) := ⟨rfl, rfl, rfl, by decide +kernel, rfl, by decide +kernel, by decide +kernel⟩
theorem ok_f_at (F : Fun K "f_at" "f_at" s_f_at f fd) (B : Bl K mg) (c_p_at : Cal P w K mg base 3 "p_at" ["P", "c"] (sp_p_at K)) (c_over : Cal P w K mg base 3 "over" ["one", "other"] (sp_over K)) : FnOk P w K mg base CX0 4 f fd ["F", "c"] (sp_f_at K) := by
  refine F.ok sc_f_at (fun vs H Q E h => ?_) (fun cdv A outer s H vs Q E hr h => ?_)
  · obtain ⟨_, _, _, _, _, _, _, rfl, _⟩ := h
    rfl
  have nd := sc_f_at.nd
  have hu := hr.units0
  have hu64 := hr.units
  exact ⟨T_f_at K, (pss_cons (ps_set (i := 2) nd rfl (Or.inl rfl) (c_p_at.pe hr (by decide) rfl (pa_cons (pe_ix ix_tupH (pv 0) pe_int (fun _ _ => rfl)) (pa_cons (pv 1) pa_nil))))
    (pss_one (ps_ret (pe_ifExp (pt_cmpR (op_eqD hu64) (pv 2) (pe_tup (pa_cons pe_int (pa_cons pe_int pa_nil))) (nomark _)) pe_non (c_over.pe hr (by decide) rfl (pa_cons (c_p_at.pe hr (by decide) rfl (pa_cons (pe_ix ix_tupH (pv 0) pe_int (fun _ _ => rfl)) (pa_cons (pv 1) pa_nil))) (pa_cons (pv 2) pa_nil))))))), vc_f_at h⟩
theorem sc_x_of : FnScope ["kind"] ["kind"] (defScope s_x_of) := ⟨rfl, rfl, rfl, by decide +kernel, rfl, by decide +kernel, by decide +kernel⟩
theorem ok_x_of (F : Fun K "x_of" "x_of" s_x_of f fd) (B : Bl K mg) (c_in_root : Cal P w K mg base 5 "in_root" ["kind", "P"] (sp_in_root K)) (c_f_poly : Cal P w K mg base 1 "f_poly" ["P"] (sp_f_poly K)) : FnOk P w K mg base CX0 6 f fd ["kind"] (sp_x_of K) := by
  refine F.ok sc_x_of (fun vs H Q E h => ?_) (fun cdv A outer s H vs Q E hr h => ?_)
  · obtain ⟨_, _, _, _, _, _, rfl, _⟩ := h
    rfl
  have nd := sc_x_of.nd
  have hu := hr.units0
  have hu64 := hr.units
  exact ⟨T_x_of K, (pss_one (ps_ret (c_f_poly.pe hr (by decide) rfl (pa_cons (c_in_root.pe hr (by decide) rfl (pa_cons (pv 0) (pa_cons (pe_ix ix_tupK (pe_glob rfl B.X rfl) pe_int (fun _ _ => rfl)) pa_nil))) pa_nil)))), vc_x_of B.xX h⟩
theorem sc_in_root : FnScope ["kind", "P"] ["kind", "P"] (defScope s_in_root) := ⟨rfl, rfl, rfl, by decide +kernel, rfl, by decide +kernel, by decide +kernel⟩
theorem ok_in_root (F : Fun K "in_root" "in_root" s_in_root f fd) (B : Bl K mg) (c_over : Cal P w K mg base 3 "over" ["one", "other"] (sp_over K)) (c_stretched : Cal P w K mg base 4 "stretched" ["P", "c"] (sp_stretched K)) (c_minus : Cal P w K mg base 3 "minus" ["one", "other"] (sp_minus K)) (c_p_moved : Cal P w K mg base 4 "p_moved" ["P", "c"] (sp_p_moved K)) (c_spread : Cal P w K mg base 2 "spread" ["P", "n"] (sp_spread K)) : FnOk P w K mg base CX0 5 f fd ["kind", "P"] (sp_in_root K) := by
  refine F.ok sc_in_root (fun vs H Q E h => ?_) (fun cdv A outer s H vs Q E hr h => ?_)
  · obtain ⟨_, _, _, _, _, _, _, _, _, rfl, _⟩ := h
    rfl
  have nd := sc_in_root.nd
  have hu := hr.units0
  have hu64 := hr.units
  exact ⟨T_in_root K, (pss_one (ps_ret (c_spread.pe hr (by decide) rfl (pa_cons (c_p_moved.pe hr (by decide) rfl (pa_cons (c_stretched.pe hr (by decide) rfl (pa_cons (pv 1) (pa_cons (c_over.pe hr (by decide) rfl (pa_cons (pe_tup (pa_cons pe_int (pa_cons pe_int pa_nil))) (pa_cons (pe_ix ix_tupH (pv 0) pe_int (fun _ _ => rfl)) pa_nil))) pa_nil))) (pa_cons (c_minus.pe hr (by decide) rfl (pa_cons (pe_tup (pa_cons pe_int (pa_cons pe_int pa_nil))) (pa_cons (pe_ix ix_tupH (pv 0) pe_int (fun _ _ => rfl)) pa_nil))) pa_nil))) (pa_cons (pe_ix ix_tupH (pv 0) pe_int (fun _ _ => rfl)) pa_nil))))), vc_in_root h⟩
theorem sc_stretched : FnScope ["P", "c"] ["P", "c"] (defScope s_stretched) := ⟨rfl, rfl, rfl, by decide +kernel, rfl, by decide +kernel, by decide +kernel⟩
theorem ok_stretched (F : Fun K "stretched" "stretched" s_stretched f fd) (B : Bl K mg) (c_power : Cal P w K mg base 2 "power" ["one", "n"] (sp_power K)) (c_times : Cal P w K mg base 3 "times" ["one", "other"] (sp_times K)) (c_poly : Cal P w K mg base 1 "poly" ["row"] (sp_poly K)) : FnOk P w K mg base CX0 4 f fd ["P", "c"] (sp_stretched K) := by
  refine F.ok sc_stretched (fun vs H Q E h => ?_) (fun cdv A outer s H vs Q E hr h => ?_)
  · obtain ⟨_, _, _, _, _, _, rfl, _⟩ := h
    rfl
  have nd := sc_stretched.nd
  have hu := hr.units0
  have hu64 := hr.units
  exact ⟨T_stretched K, (pss_one (ps_ret (c_poly.pe hr (by decide) rfl (pa_cons (pe_comp (N := ["place", "number", "c"]) (capt := [none, none, some 1]) rfl (BlkOk.of rfl rfl rfl rfl (List.forall_mem_singleton.mpr rfl) rfl rfl rfl) (pi_enumT rfl B.enumerate (pa_cons (pv 0) pa_nil)) (fun _ _ _ _ => (pg_tupH rfl (pgs_cons (pg_name (i := 0) (show (["place", "number", "c"] : List PySem.Str).Nodup by decide +kernel) rfl (Or.inl rfl)) (pgs_cons (pg_name (i := 1) (show (["place", "number", "c"] : List PySem.Str).Nodup by decide +kernel) rfl (Or.inl rfl)) pgs_nil)))) (fun _ _ _ _ => (c_times.pe hr (by decide) rfl (pa_cons (pv 1) (pa_cons (c_power.pe hr (by decide) rfl (pa_cons (pv 2) (pa_cons (pv 0) pa_nil))) pa_nil))))) pa_nil)))), vc_stretched h⟩
theorem sc_spread : FnScope ["P", "n", "row", "number"] ["P", "n"] (defScope s_spread) := ⟨rfl, rfl, rfl, by decide +kernel, rfl, by decide +kernel, by decide +kernel⟩
theorem ok_spread (F : Fun K "spread" "spread" s_spread f fd) (B : Bl K mg) (c_poly : Cal P w K mg base 1 "poly" ["row"] (sp_poly K)) : FnOk P w K mg base CX0 2 f fd ["P", "n"] (sp_spread K) := by
  refine F.ok sc_spread (fun vs H Q E h => ?_) (fun cdv A outer s H vs Q E hr h => ?_)
  · obtain ⟨_, _, _, _, _, rfl, _⟩ := h
    rfl
  have nd := sc_spread.nd
  have hu := hr.units0
  have hu64 := hr.units
  exact ⟨T_spread K, (pss_cons (ps_set (i := 2) nd rfl (Or.inl rfl) (pe_lst pa_nil))
    (pss_cons (ps_for PassesOwn.never rfl (pi_tup (pv 0)) (pg_name (i := 3) nd rfl (Or.inl rfl)) (pss_one (ps_expr (pe_bm PySem.F.plainAttrs_list PySem.F.slot_list_extend PySem.F.type_list_extend mt_extend (pv 2) (pa_cons (pe_op op_cat (pe_lst (pa_cons (pv 3) pa_nil)) (pe_op op_rep (pe_lst (pa_cons (pe_tup (pa_cons pe_int (pa_cons pe_int pa_nil))) pa_nil)) (pe_op op_sub (pv 1) pe_int))) pa_nil)))))
    (pss_one (ps_ret (c_poly.pe hr (by decide) rfl (pa_cons (pv 2) pa_nil)))))), vc_spread h⟩
theorem sc_l_source : FnScope ["_law_script", "_law_k", "_law_cell", "_law_some", "_law_more", "_law_number_here", "_law_j"] ["_law_script", "_law_k"] (defScope s_l_source) := ⟨rfl, rfl, rfl, by decide +kernel, rfl, by decide +kernel, by decide +kernel⟩
theorem ok_l_source (F : Fun K "_law_source" "_law_source" s_l_source f fd) (B : Bl K mg)  : FnOk P w K mg base CX0 1 f fd ["_law_script", "_law_k"] (sp_l_source K) := by
  refine F.ok sc_l_source (fun vs H Q E h => ?_) (fun cdv A outer s H vs Q E hr h => ?_)
  · obtain ⟨_, _, _, rfl, _⟩ := h
    rfl
  have nd := sc_l_source.nd
  have hu := hr.units0
  have hu64 := hr.units
  exact ⟨T_l_source K, (pss_cons (ps_set (i := 2) nd rfl (Or.inl rfl) pe_int)
    (pss_cons (ps_if (pt_cmpR op_gt (pe_callB call_lenS rfl B.len bt_len (pa_cons (pv 0) pa_nil)) pe_int (nomark _)) (pss_one (ps_set (i := 2) nd rfl (Or.inl rfl) (pe_ix ix_script (pv 0) (pe_op op_add pe_int (pe_op op_mod (pv 1) (pe_op op_sub (pe_callB call_lenS rfl B.len bt_len (pa_cons (pv 0) pa_nil)) pe_int))) (fun _ _ => rfl)))) pss_nil)
    (pss_cons (ps_set (i := 3) nd rfl (Or.inl rfl) (pe_op op_mod (pe_op op_mulB (pe_op op_add (pe_op op_add (pe_op op_add (pe_op op_mod (pv 2) pe_int) (pe_op op_mulB pe_int (pv 1))) (pe_op op_mod (pe_callB (call_sumL rfl) rfl B.sum bt_sum (pa_cons (pe_slice sl_script (pv 0) po_none (po_some pe_int)) pa_nil)) pe_int)) pe_int) pe_int) pe_int))
    (pss_cons (ps_set (i := 4) nd rfl (Or.inl rfl) (pe_op op_mod (pe_op op_mulB (pv 3) (pv 3)) pe_int))
    (pss_cons (ps_set (i := 5) nd rfl (Or.inl rfl) pe_int)
    (pss_cons (ps_for PassesOwn.never rfl (pi_range1 rfl B.range (pa_cons pe_int pa_nil)) (pg_name (i := 6) nd rfl (Or.inl rfl)) (pss_cons (ps_set (i := 4) nd rfl (Or.inl rfl) (pe_op op_mod (pe_op op_add (pe_op op_add (pe_op op_mulB (pv 4) pe_int) (pv 3)) (pe_op op_mulB pe_int (pv 6))) pe_int))
    (pss_one (ps_set (i := 5) nd rfl (Or.inl rfl) (pe_op op_add (pe_op op_mulB (pv 5) pe_int) (pv 4))))))
    (pss_cons (ps_if (PW.pt (pw_and (pt_cmpR op_gt (pe_callB call_lenS rfl B.len bt_len (pa_cons (pv 0) pa_nil)) pe_int (nomark _)) (pw_and1 (pt_cmpR op_eq (pe_op op_mod (pe_ix ix_script (pv 0) pe_int (fun _ _ => rfl)) pe_int) pe_int (nomark _))))) (pss_one (ps_ret (pe_lst (pa_cons (pe_callB call_absB rfl B.abs bt_abs (pa_cons (pv 2) pa_nil)) (pa_cons (pv 5) pa_nil))))) pss_nil)
    (pss_one (ps_ret (pe_lst (pa_cons (pv 5) (pa_cons pe_int pa_nil)))))))))))), vc_l_source h⟩
theorem sc_l_take : FnScope ["_law_source_here", "_law_many", "_law_digit"] ["_law_source_here", "_law_many"] (defScope s_l_take) := ⟨rfl, rfl, rfl, by decide +kernel, rfl, by decide +kernel, by decide +kernel⟩
theorem ok_l_take (F : Fun K "_law_take" "_law_take" s_l_take f fd) (B : Bl K mg)  : FnOk P w K mg base CX0 1 f fd ["_law_source_here", "_law_many"] (sp_l_take K) := by
  refine F.ok sc_l_take (fun vs H Q E h => ?_) (fun cdv A outer s H vs Q E hr h => ?_)
  · obtain ⟨_, _, rfl, _⟩ := h
    rfl
  have nd := sc_l_take.nd
  have hu := hr.units0
  have hu64 := hr.units
  exact ⟨T_l_take K, (pss_cons (ps_if (pt_cmpR op_eq (pe_ix ix_lstH (pv 0) pe_int (fun _ _ => rfl)) pe_int (nomark _)) (pss_one (ps_asg (pe_tup (pa_cons (pe_ix ix_lstH (pv 0) pe_int (fun _ _ => rfl)) (pa_cons pe_int pa_nil))) (pg_tupH rfl (pgs_cons (pg_sub (pv 0) pe_int set_list) (pgs_cons (pg_sub (pv 0) pe_int set_list) pgs_nil))))) pss_nil)
    (pss_cons (ps_set (i := 2) nd rfl (Or.inl rfl) (pe_op op_mod (pe_ix ix_lstH (pv 0) pe_int (fun _ _ => rfl)) (pv 1)))
    (pss_cons (ps_asg (pe_op op_fdivR (pe_ix ix_lstH (pv 0) pe_int (fun _ _ => rfl)) (pv 1)) (pg_sub (pv 0) pe_int set_list))
    (pss_one (ps_ret (pv 2)))))), vc_l_take h⟩
theorem sc_l_number : FnScope ["_law_source_here", "_law_how"] ["_law_source_here"] (defScope s_l_number) := ⟨rfl, rfl, rfl, by decide +kernel, rfl, by decide +kernel, by decide +kernel⟩
theorem ok_l_number (F : Fun K "_law_number" "_law_number" s_l_number f fd) (B : Bl K mg) (c_l_take : Cal P w K mg base 1 "_law_take" ["_law_source_here", "_law_many"] (sp_l_take K)) (c_ratio : Cal P w K mg base 2 "ratio" ["top", "bottom"] (sp_ratio K)) : FnOk P w K mg base CX0 3 f fd ["_law_source_here"] (sp_l_number K) := by
  refine F.ok sc_l_number (fun vs H Q E h => ?_) (fun cdv A outer s H vs Q E hr h => ?_)
  · obtain ⟨_, rfl, _⟩ := h
    rfl
  have nd := sc_l_number.nd
  have hu := hr.units0
  have hu64 := hr.units
  exact ⟨T_l_number K, (pss_cons (ps_set (i := 1) nd rfl (Or.inl rfl) (c_l_take.pe hr (by decide) rfl (pa_cons (pv 0) (pa_cons pe_int pa_nil))))
    (pss_cons (ps_if (pt_cmpR op_lt (pv 1) pe_int (nomark _)) (pss_one (ps_ret (c_ratio.pe hr (by decide) rfl (pa_cons (pe_op op_sub (c_l_take.pe hr (by decide) rfl (pa_cons (pv 0) (pa_cons pe_int pa_nil))) pe_int) (pa_cons pe_int pa_nil))))) pss_nil)
    (pss_cons (ps_if (pt_cmpR op_lt (pv 1) pe_int (nomark _)) (pss_one (ps_ret (c_ratio.pe hr (by decide) rfl (pa_cons (pe_op op_sub (c_l_take.pe hr (by decide) rfl (pa_cons (pv 0) (pa_cons pe_int pa_nil))) pe_int) (pa_cons (pe_op op_add pe_int (c_l_take.pe hr (by decide) rfl (pa_cons (pv 0) (pa_cons pe_int pa_nil)))) pa_nil))))) pss_nil)
    (pss_one (ps_ret (c_ratio.pe hr (by decide) rfl (pa_cons (pe_op op_add (pe_op op_sub (c_l_take.pe hr (by decide) rfl (pa_cons (pv 0) (pa_cons (pe_op op_sub (pe_op op_mulB pe_int (pe_op op_powB pe_int pe_int)) pe_int) pa_nil))) (pe_op op_powB pe_int pe_int)) pe_int) (pa_cons (pe_op op_add pe_int (c_l_take.pe hr (by decide) rfl (pa_cons (pv 0) (pa_cons (pe_op op_powB pe_int pe_int) pa_nil)))) pa_nil)))))))), vc_l_number h⟩
theorem sc_l_kind : FnScope ["_law_source_here", "_law_a"] ["_law_source_here"] (defScope s_l_kind) := ⟨rfl, rfl, rfl, by decide +kernel, rfl, by decide +kernel, by decide +kernel⟩
theorem ok_l_kind (F : Fun K "_law_kind" "_law_kind" s_l_kind f fd) (B : Bl K mg) (c_l_number : Cal P w K mg base 3 "_law_number" ["_law_source_here"] (sp_l_number K)) (c_l_take : Cal P w K mg base 1 "_law_take" ["_law_source_here", "_law_many"] (sp_l_take K)) : FnOk P w K mg base CX0 4 f fd ["_law_source_here"] (sp_l_kind K) := by
  refine F.ok sc_l_kind (fun vs H Q E h => ?_) (fun cdv A outer s H vs Q E hr h => ?_)
  · obtain ⟨_, rfl, _⟩ := h
    rfl
  have nd := sc_l_kind.nd
  have hu := hr.units0
  have hu64 := hr.units
  exact ⟨T_l_kind K, (pss_cons (ps_set (i := 1) nd rfl (Or.inl rfl) (c_l_number.pe hr (by decide) rfl (pa_cons (pv 0) pa_nil)))
    (pss_cons (ps_if (pt_cmpR (op_eqD hu64) (pv 1) (pe_tup (pa_cons pe_int (pa_cons pe_int pa_nil))) (nomark _)) (pss_one (ps_set (i := 1) nd rfl (Or.inl rfl) (pe_tup (pa_cons (pe_op op_add pe_int (c_l_take.pe hr (by decide) rfl (pa_cons (pv 0) (pa_cons pe_int pa_nil)))) (pa_cons pe_int pa_nil))))) pss_nil)
    (pss_one (ps_ret (pe_tup (pa_cons (pe_op op_add pe_int (c_l_take.pe hr (by decide) rfl (pa_cons (pv 0) (pa_cons pe_int pa_nil)))) (pa_cons (pv 1) (pa_cons (c_l_number.pe hr (by decide) rfl (pa_cons (pv 0) pa_nil)) pa_nil)))))))), vc_l_kind h⟩
theorem sc_l_is_number : FnScope ["_law_found", "_law_part"] ["_law_found"] (defScope s_l_is_number) := ⟨rfl, rfl, rfl, by decide +kernel, rfl, by decide +kernel, by decide +kernel⟩
theorem ok_l_is_number (F : Fun K "_law_is_number" "_law_is_number" s_l_is_number f fd) (B : Bl K mg)  : FnOk P w K mg base CX0 1 f fd ["_law_found"] (sp_l_is_number K) := by
  refine F.ok sc_l_is_number (fun vs H Q E h => ?_) (fun cdv A outer s H vs Q E hr h => ?_)
  · obtain ⟨_, _, _, rfl, _⟩ := h
    rfl
  have nd := sc_l_is_number.nd
  have hu := hr.units0
  have hu64 := hr.units
  exact ⟨T_l_is_number K, (pss_cons (ps_if (PW.pt (pw_or (pt_not (pt_val (pe_callB call_isi rfl B.isinstance bt_isinstance (pa_cons (pv 0) (pa_cons (pe_bltn rfl B.tuple bt_tuple rfl) pa_nil))))) (pw_or1 (pt_cmpR op_ne (pe_callB call_lenT rfl B.len bt_len (pa_cons (pv 0) pa_nil)) pe_int (nomark _))))) (pss_one (ps_ret pe_bl)) pss_nil)
    (pss_cons (ps_for PassesOwn.never rfl (pi_tup (pv 0)) (pg_name (i := 1) nd rfl (Or.inl rfl)) (pss_one (ps_if (PW.pt (pw_or (pt_not (pt_val (pe_callB call_isi rfl B.isinstance bt_isinstance (pa_cons (pv 1) (pa_cons (pe_bltn rfl B.int bt_int rfl) pa_nil))))) (pw_or1 (pt_val (pe_callB call_isi rfl B.isinstance bt_isinstance (pa_cons (pv 1) (pa_cons (pe_bltn rfl B.bool bt_bool rfl) pa_nil))))))) (pss_one (ps_ret pe_bl)) pss_nil)))
    (pss_one (ps_ret (pe_cmpR op_gt (pe_ix ix_tupH (pv 0) pe_int (fun _ _ => rfl)) pe_int (nomark _)))))), vc_l_is_number h⟩
theorem sc_l_is_fraction : FnScope ["_law_found", "_law_row"] ["_law_found"] (defScope s_l_is_fraction) := ⟨rfl, rfl, rfl, by decide +kernel, rfl, by decide +kernel, by decide +kernel⟩
theorem ok_l_is_fraction (F : Fun K "_law_is_fraction" "_law_is_fraction" s_l_is_fraction f fd) (B : Bl K mg) (c_l_is_number : Cal P w K mg base 1 "_law_is_number" ["_law_found"] (sp_l_is_number K)) : FnOk P w K mg base CX0 2 f fd ["_law_found"] (sp_l_is_fraction K) := by
  refine F.ok sc_l_is_fraction (fun vs H Q E h => ?_) (fun cdv A outer s H vs Q E hr h => ?_)
  · obtain ⟨_, _, _, _, _, rfl, _⟩ := h
    rfl
  have nd := sc_l_is_fraction.nd
  have hu := hr.units0
  have hu64 := hr.units
  exact ⟨T_l_is_fraction K, (pss_cons (ps_if (PW.pt (pw_or (pt_not (pt_val (pe_callB call_isi rfl B.isinstance bt_isinstance (pa_cons (pv 0) (pa_cons (pe_bltn rfl B.tuple bt_tuple rfl) pa_nil))))) (pw_or1 (pt_cmpR op_ne (pe_callB call_lenT rfl B.len bt_len (pa_cons (pv 0) pa_nil)) pe_int (nomark _))))) (pss_one (ps_ret pe_bl)) pss_nil)
    (pss_cons (ps_for PassesOwn.never rfl (pi_tup (pv 0)) (pg_name (i := 1) nd rfl (Or.inl rfl)) (pss_one (ps_if (PW.pt (pw_or (pt_not (pt_val (pe_callB call_isi rfl B.isinstance bt_isinstance (pa_cons (pv 1) (pa_cons (pe_bltn rfl B.tuple bt_tuple rfl) pa_nil))))) (pw_or1 (pt_not (pt_val (pe_callB (call_allL rfl) rfl B.all bt_all (pa_cons (pe_comp (N := ["_law_one"]) (capt := [none]) rfl (BlkOk.of rfl rfl rfl rfl (fun _ h => nomatch h) rfl rfl rfl) (pi_tup (pv 1)) (fun _ _ _ _ => (pg_name (i := 0) (show (["_law_one"] : List PySem.Str).Nodup by decide +kernel) rfl (Or.inl rfl))) (fun _ _ _ _ => (c_l_is_number.pe hr (by decide) rfl (pa_cons (pv 0) pa_nil)))) pa_nil))))))) (pss_one (ps_ret pe_bl)) pss_nil)))
    (pss_one (ps_ret pe_bl)))), vc_l_is_fraction h⟩
theorem sc_l_lowest : FnScope ["_law_top", "_law_bottom", "_law_one", "_law_other"] ["_law_top", "_law_bottom"] (defScope s_l_lowest) := ⟨rfl, rfl, rfl, by decide +kernel, rfl, by decide +kernel, by decide +kernel⟩
theorem ok_l_lowest (F : Fun K "_law_lowest" "_law_lowest" s_l_lowest f fd) (B : Bl K mg)  : FnOk P w K mg base CX0 1 f fd ["_law_top", "_law_bottom"] (sp_l_lowest K) := by
  refine F.ok sc_l_lowest (fun vs H Q E h => ?_) (fun cdv A outer s H vs Q E hr h => ?_)
  · obtain ⟨_, _, rfl, _⟩ := h
    rfl
  have nd := sc_l_lowest.nd
  have hu := hr.units0
  have hu64 := hr.units
  exact ⟨T_l_lowest K, (pss_cons (ps_par (i := 2) (j := 3) rfl nd rfl rfl (by decide) rfl rfl (pa_cons (pe_callB call_absB rfl B.abs bt_abs (pa_cons (pv 0) pa_nil)) (pa_cons (pe_callB call_absB rfl B.abs bt_abs (pa_cons (pv 1) pa_nil)) pa_nil)) rfl)
    (pss_cons (ps_while PassesOwn.never (pt_cmpR op_gt (pv 3) pe_int (nomark _)) (pss_one (ps_par (i := 2) (j := 3) rfl nd rfl rfl (by decide) rfl rfl (pa_cons (pv 3) (pa_cons (pe_op op_mod (pv 2) (pv 3)) pa_nil)) rfl)))
    (pss_cons (ps_if (pt_cmpR op_lt (pv 1) pe_int (nomark _)) (pss_one (ps_set (i := 2) nd rfl (Or.inl rfl) (pe_un un_neg (pv 2)))) pss_nil)
    (pss_one (ps_ret (pe_tup (pa_cons (pe_op op_fdivS (pv 0) (pv 2)) (pa_cons (pe_op op_fdivS (pv 1) (pv 2)) pa_nil)))))))), vc_l_lowest h⟩
theorem sc_l_tall : FnScope ["_law_number_here", "_law_many", "_law_made", "_law_k"] ["_law_number_here", "_law_many"] (defScope s_l_tall) := ⟨rfl, rfl, rfl, by decide +kernel, rfl, by decide +kernel, by decide +kernel⟩
theorem ok_l_tall (F : Fun K "_law_tall" "_law_tall" s_l_tall f fd) (B : Bl K mg)  : FnOk P w K mg base CX0 1 f fd ["_law_number_here", "_law_many"] (sp_l_tall K) := by
  refine F.ok sc_l_tall (fun vs H Q E h => ?_) (fun cdv A outer s H vs Q E hr h => ?_)
  · obtain ⟨_, _, rfl, _⟩ := h
    rfl
  have nd := sc_l_tall.nd
  have hu := hr.units0
  have hu64 := hr.units
  exact ⟨T_l_tall K, (pss_cons (ps_set (i := 2) nd rfl (Or.inl rfl) pe_int)
    (pss_cons (ps_for PassesOwn.never rfl (pi_range1 rfl B.range (pa_cons (pv 1) pa_nil)) (pg_name (i := 3) nd rfl (Or.inl rfl)) (pss_one (ps_set (i := 2) nd rfl (Or.inl rfl) (pe_op op_mulB (pv 2) (pv 0)))))
    (pss_one (ps_ret (pv 2))))), vc_l_tall h⟩
theorem sc_l_right : FnScope ["_law_kind_here", "_law_source_here", "_law_n", "_law_a", "_law_b", "_law_found", "_law_first", "_law_due", "_law_k", "_law_c", "_law_told", "_law_top"] ["_law_kind_here", "_law_source_here"] (defScope s_l_right) := ⟨rfl, rfl, rfl, by decide +kernel, rfl, by decide +kernel, by decide +kernel⟩
theorem ok_l_right (F : Fun K "_law_right" "_law_right" s_l_right f fd) (B : Bl K mg) (c_x_of : Cal P w K mg base 6 "x_of" ["kind"] (sp_x_of K)) (c_l_lowest : Cal P w K mg base 1 "_law_lowest" ["_law_top", "_law_bottom"] (sp_l_lowest K)) (c_l_is_fraction : Cal P w K mg base 2 "_law_is_fraction" ["_law_found"] (sp_l_is_fraction K)) (c_l_number : Cal P w K mg base 3 "_law_number" ["_law_source_here"] (sp_l_number K)) (c_f_at : Cal P w K mg base 4 "f_at" ["F", "c"] (sp_f_at K)) (c_l_is_number : Cal P w K mg base 1 "_law_is_number" ["_law_found"] (sp_l_is_number K)) (c_l_tall : Cal P w K mg base 1 "_law_tall" ["_law_number_here", "_law_many"] (sp_l_tall K)) : FnOk P w K mg base CX0 7 f fd ["_law_kind_here", "_law_source_here"] (sp_l_right K) := by
  refine F.ok sc_l_right (fun vs H Q E h => ?_) (fun cdv A outer s H vs Q E hr h => ?_)
  · obtain ⟨_, _, _, _, _, _, _, rfl, _⟩ := h
    rfl
  have nd := sc_l_right.nd
  have hu := hr.units0
  have hu64 := hr.units
  exact ⟨T_l_right K, (pss_cons (ps_asg (pv 0) (pg_tupH rfl (pgs_cons (pg_name (i := 2) nd rfl (Or.inl rfl)) (pgs_cons (pg_name (i := 3) nd rfl (Or.inl rfl)) (pgs_cons (pg_name (i := 4) nd rfl (Or.inl rfl)) pgs_nil)))))
    (pss_cons (ps_set (i := 5) nd rfl (Or.inl rfl) (c_x_of.pe hr (by decide) rfl (pa_cons (pv 0) pa_nil)))
    (pss_cons (ps_set (i := 6) nd rfl (Or.inl rfl) (c_l_lowest.pe hr (by decide) rfl (pa_cons (pe_op op_mulB (pe_un un_neg (pe_ix ix_tupH (pv 4) pe_int (fun _ _ => rfl))) (pe_ix ix_tupH (pv 3) pe_int (fun _ _ => rfl))) (pa_cons (pe_op op_mulB (pe_ix ix_tupH (pv 4) pe_int (fun _ _ => rfl)) (pe_ix ix_tupH (pv 3) pe_int (fun _ _ => rfl))) pa_nil))))
    (pss_cons (ps_set (i := 7) nd rfl (Or.inl rfl) (pe_op op_catT (pe_op op_catT (pe_tup (pa_cons (pv 6) pa_nil)) (pe_op op_repT (pe_tup (pa_cons (pe_tup (pa_cons pe_int (pa_cons pe_int pa_nil))) pa_nil)) (pe_op op_sub (pv 2) pe_int))) (pe_tup (pa_cons (c_l_lowest.pe hr (by decide) rfl (pa_cons (pe_ix ix_tupH (pv 3) pe_int (fun _ _ => rfl)) (pa_cons (pe_ix ix_tupH (pv 3) pe_int (fun _ _ => rfl)) pa_nil))) pa_nil))))
    (pss_cons (ps_if (PW.pt (pw_or (pt_not (pt_val (c_l_is_fraction.pe hr (by decide) rfl (pa_cons (pv 5) pa_nil)))) (pw_or1 (pt_cmpR (op_neD hu64) (pv 5) (pe_tup (pa_cons (pv 7) (pa_cons (pe_tup (pa_cons (pe_tup (pa_cons pe_int (pa_cons pe_int pa_nil))) pa_nil)) pa_nil))) (nomark _))))) (pss_one (ps_ret pe_bl)) pss_nil)
    (pss_cons (ps_for PassesOwn.never rfl (pi_range1 rfl B.range (pa_cons pe_int pa_nil)) (pg_name (i := 8) nd rfl (Or.inl rfl)) (pss_cons (ps_set (i := 9) nd rfl (Or.inl rfl) (pe_ix ix_lstH (pe_lst (pa_cons (pe_tup (pa_cons (pe_op op_sub (pv 8) pe_int) (pa_cons pe_int pa_nil))) (pa_cons (pe_tup (pa_cons (pv 8) (pa_cons pe_int pa_nil))) (pa_cons (c_l_number.pe hr (by decide) rfl (pa_cons (pv 1) pa_nil)) pa_nil)))) (pe_op op_mod (pv 8) pe_int) (fun _ _ => rfl)))
    (pss_cons (ps_set (i := 10) nd rfl (Or.inl rfl) (c_f_at.pe hr (by decide) rfl (pa_cons (pv 5) (pa_cons (pv 9) pa_nil))))
    (pss_cons (ps_if (pt_not (pt_val (c_l_is_number.pe hr (by decide) rfl (pa_cons (pv 10) pa_nil)))) (pss_one (ps_ret pe_bl)) pss_nil)
    (pss_cons (ps_set (i := 11) nd rfl (Or.inl rfl) (pe_op op_add (pe_op op_mulB (pe_op op_mulB (pe_ix ix_tupH (pv 3) pe_int (fun _ _ => rfl)) (pe_ix ix_tupH (pv 10) pe_int (fun _ _ => rfl))) (pe_ix ix_tupH (pv 4) pe_int (fun _ _ => rfl))) (pe_op op_mulB (pe_op op_mulB (pe_ix ix_tupH (pv 4) pe_int (fun _ _ => rfl)) (pe_ix ix_tupH (pv 3) pe_int (fun _ _ => rfl))) (pe_ix ix_tupH (pv 10) pe_int (fun _ _ => rfl)))))
    (pss_one (ps_if (pt_cmpR op_ne (pe_op op_mulB (pv 11) (c_l_tall.pe hr (by decide) rfl (pa_cons (pe_ix ix_tupH (pv 9) pe_int (fun _ _ => rfl)) (pa_cons (pv 2) pa_nil)))) (pe_op op_mulB (pe_op op_mulB (pe_op op_mulB (c_l_tall.pe hr (by decide) rfl (pa_cons (pe_ix ix_tupH (pv 9) pe_int (fun _ _ => rfl)) (pa_cons (pv 2) pa_nil))) (pe_ix ix_tupH (pv 3) pe_int (fun _ _ => rfl))) (pe_ix ix_tupH (pv 10) pe_int (fun _ _ => rfl))) (pe_ix ix_tupH (pv 4) pe_int (fun _ _ => rfl))) (nomark _)) (pss_one (ps_ret pe_bl)) pss_nil)))))))
    (pss_one (ps_ret pe_bl)))))))), vc_l_right h⟩
theorem sc_law : FnScope ["_law_script", "_law_k", "_law_source_here", "_law_kind_here"] ["_law_script"] (defScope s_law) := ⟨rfl, rfl, rfl, by decide +kernel, rfl, by decide +kernel, by decide +kernel⟩
theorem ok_law (F : Fun K "law" "law" s_law f fd) (B : Bl K mg) (c_l_source : Cal P w K mg base 1 "_law_source" ["_law_script", "_law_k"] (sp_l_source K)) (c_l_kind : Cal P w K mg base 4 "_law_kind" ["_law_source_here"] (sp_l_kind K)) (c_l_right : Cal P w K mg base 7 "_law_right" ["_law_kind_here", "_law_source_here"] (sp_l_right K)) (c_x_of : Cal P w K mg base 6 "x_of" ["kind"] (sp_x_of K)) : FnOk P w K mg base CX0 8 f fd ["_law_script"] (sp_law K) := by
  refine F.ok sc_law (fun vs H Q E h => ?_) (fun cdv A outer s H vs Q E hr h => ?_)
  · obtain ⟨_, _, rfl, _⟩ := h
    rfl
  have nd := sc_law.nd
  have hu := hr.units0
  have hu64 := hr.units
  exact ⟨T_law K, (pss_cons (ps_for PassesOwn.never rfl (pi_range1 rfl B.range (pa_cons pe_int pa_nil)) (pg_name (i := 1) nd rfl (Or.inl rfl)) (pss_cons (ps_set (i := 2) nd rfl (Or.inl rfl) (c_l_source.pe hr (by decide) rfl (pa_cons (pv 0) (pa_cons (pv 1) pa_nil))))
    (pss_cons (ps_set (i := 3) nd rfl (Or.inl rfl) (c_l_kind.pe hr (by decide) rfl (pa_cons (pv 2) pa_nil)))
    (pss_one (ps_if (PW.pt (pw_or (pt_not (pt_val (c_l_right.pe hr (by decide) rfl (pa_cons (pv 3) (pa_cons (pv 2) pa_nil))))) (pw_or1 (pt_cmpR (op_neD hu64) (c_x_of.pe hr (by decide) rfl (pa_cons (pv 3) pa_nil)) (c_x_of.pe hr (by decide) rfl (pa_cons (pv 3) pa_nil)) (nomark _))))) (pss_one (ps_ret pe_bl)) pss_nil)))))
    (pss_one (ps_ret pe_bl))), vc_law h⟩
end
end Bs
namespace Bs
open PySem PySem.Spec PyProof.Rows L2
set_option maxHeartbeats 4000000
open Hd
theorem fn_mk {K : W.Frag} {st : Stmt} {f c : Addr} {n : Str} {pm : Value} (l : K.lookup f = some (fnO n st pm c)) (e : PySem.W.codeIn K (.ref c) n = true) (k : PySem.W.keepIn K (.ref f) = true) : Fun K n n st f (PySem.W.fnOf n n (defArgs st) (defBody st) (defScope st) .none .none .none pm none (.ref c) .none) := fun_mk (st := st) l e k
theorem cal_mk {P : Program} {K : W.Frag} {w : World} {h base : Heap} {mg : Str → Option Value} {k : Nat} {f : Addr} {fd : FuncData} {n : Str} {ps : List Str} {sp : Sp} (X : K.In h) (G : h.Ns mainGlobals mg) (ok : FnOk P w K mg base CX0 k f fd ps sp) (b : Binds K fd ps []) (e : PySem.W.keepIn K (.ref f) = true) (a : PySem.W.nsIn K mainGlobals n = some (some (.ref f))) : Cal P w K mg base k n ps sp := ⟨f, fd, ok, b, e, PySem.W.mg_of X G a⟩
section
variable {P : Program} {w : World} {mg : Str → Option Value} {base h : Heap}
theorem C_common_divisor (X : (hp w.params).In h) (G : h.Ns mainGlobals mg) (B : Bl (hp w.params) mg) : Cal P w (hp w.params) mg base 1 "common_divisor" ["one", "other"] (sp_common_divisor (hp w.params)) := by
  have F := fn_mk (K := hp w.params) (st := s_common_divisor) (f := 21) (c := 20) (n := "common_divisor") (pm := mo0) (by kernel_rfl) (by kernel_rfl) (by kernel_rfl)
  exact cal_mk X G (ok_common_divisor F B ) (F.binds fun _ _ _ _ _ _ us hl => match us, hl with | [_, _], _ => rfl) (by kernel_rfl) (by kernel_rfl)
theorem C_raised (X : (hp w.params).In h) (G : h.Ns mainGlobals mg) (B : Bl (hp w.params) mg) : Cal P w (hp w.params) mg base 1 "raised" ["whole", "n"] (sp_raised (hp w.params)) := by
  have F := fn_mk (K := hp w.params) (st := s_raised) (f := 28) (c := 27) (n := "raised") (pm := mo0) (by kernel_rfl) (by kernel_rfl) (by kernel_rfl)
  exact cal_mk X G (ok_raised F B ) (F.binds fun _ _ _ _ _ _ us hl => match us, hl with | [_, _], _ => rfl) (by kernel_rfl) (by kernel_rfl)
theorem C_row_moved (X : (hp w.params).In h) (G : h.Ns mainGlobals mg) (B : Bl (hp w.params) mg) : Cal P w (hp w.params) mg base 1 "row_moved" ["row", "whole"] (sp_row_moved (hp w.params)) := by
  have F := fn_mk (K := hp w.params) (st := s_row_moved) (f := 35) (c := 34) (n := "row_moved") (pm := mo0) (by kernel_rfl) (by kernel_rfl) (by kernel_rfl)
  exact cal_mk X G (ok_row_moved F B ) (F.binds fun _ _ _ _ _ _ us hl => match us, hl with | [_, _], _ => rfl) (by kernel_rfl) (by kernel_rfl)
theorem C_poly (X : (hp w.params).In h) (G : h.Ns mainGlobals mg) (B : Bl (hp w.params) mg) : Cal P w (hp w.params) mg base 1 "poly" ["row"] (sp_poly (hp w.params)) := by
  have F := fn_mk (K := hp w.params) (st := s_poly) (f := 77) (c := 76) (n := "poly") (pm := mo2) (by kernel_rfl) (by kernel_rfl) (by kernel_rfl)
  exact cal_mk X G (ok_poly F B ) (F.binds fun _ _ _ _ _ _ us hl => match us, hl with | [_], _ => rfl) (by kernel_rfl) (by kernel_rfl)
theorem C_f_poly (X : (hp w.params).In h) (G : h.Ns mainGlobals mg) (B : Bl (hp w.params) mg) : Cal P w (hp w.params) mg base 1 "f_poly" ["P"] (sp_f_poly (hp w.params)) := by
  have F := fn_mk (K := hp w.params) (st := s_f_poly) (f := 106) (c := 105) (n := "f_poly") (pm := mo3) (by kernel_rfl) (by kernel_rfl) (by kernel_rfl)
  exact cal_mk X G (ok_f_poly F B ) (F.binds fun _ _ _ _ _ _ us hl => match us, hl with | [_], _ => rfl) (by kernel_rfl) (by kernel_rfl)
theorem C_l_source (X : (hp w.params).In h) (G : h.Ns mainGlobals mg) (B : Bl (hp w.params) mg) : Cal P w (hp w.params) mg base 1 "_law_source" ["_law_script", "_law_k"] (sp_l_source (hp w.params)) := by
  have F := fn_mk (K := hp w.params) (st := s_l_source) (f := 152) (c := 151) (n := "_law_source") (pm := mo5) (by kernel_rfl) (by kernel_rfl) (by kernel_rfl)
  exact cal_mk X G (ok_l_source F B ) (F.binds fun _ _ _ _ _ _ us hl => match us, hl with | [_, _], _ => rfl) (by kernel_rfl) (by kernel_rfl)
theorem C_l_take (X : (hp w.params).In h) (G : h.Ns mainGlobals mg) (B : Bl (hp w.params) mg) : Cal P w (hp w.params) mg base 1 "_law_take" ["_law_source_here", "_law_many"] (sp_l_take (hp w.params)) := by
  have F := fn_mk (K := hp w.params) (st := s_l_take) (f := 159) (c := 158) (n := "_law_take") (pm := mo5) (by kernel_rfl) (by kernel_rfl) (by kernel_rfl)
  exact cal_mk X G (ok_l_take F B ) (F.binds fun _ _ _ _ _ _ us hl => match us, hl with | [_, _], _ => rfl) (by kernel_rfl) (by kernel_rfl)
theorem C_l_is_number (X : (hp w.params).In h) (G : h.Ns mainGlobals mg) (B : Bl (hp w.params) mg) : Cal P w (hp w.params) mg base 1 "_law_is_number" ["_law_found"] (sp_l_is_number (hp w.params)) := by
  have F := fn_mk (K := hp w.params) (st := s_l_is_number) (f := 180) (c := 179) (n := "_law_is_number") (pm := mo5) (by kernel_rfl) (by kernel_rfl) (by kernel_rfl)
  exact cal_mk X G (ok_l_is_number F B ) (F.binds fun _ _ _ _ _ _ us hl => match us, hl with | [_], _ => rfl) (by kernel_rfl) (by kernel_rfl)
theorem C_l_lowest (X : (hp w.params).In h) (G : h.Ns mainGlobals mg) (B : Bl (hp w.params) mg) : Cal P w (hp w.params) mg base 1 "_law_lowest" ["_law_top", "_law_bottom"] (sp_l_lowest (hp w.params)) := by
  have F := fn_mk (K := hp w.params) (st := s_l_lowest) (f := 192) (c := 191) (n := "_law_lowest") (pm := mo5) (by kernel_rfl) (by kernel_rfl) (by kernel_rfl)
  exact cal_mk X G (ok_l_lowest F B ) (F.binds fun _ _ _ _ _ _ us hl => match us, hl with | [_, _], _ => rfl) (by kernel_rfl) (by kernel_rfl)
theorem C_l_tall (X : (hp w.params).In h) (G : h.Ns mainGlobals mg) (B : Bl (hp w.params) mg) : Cal P w (hp w.params) mg base 1 "_law_tall" ["_law_number_here", "_law_many"] (sp_l_tall (hp w.params)) := by
  have F := fn_mk (K := hp w.params) (st := s_l_tall) (f := 199) (c := 198) (n := "_law_tall") (pm := mo5) (by kernel_rfl) (by kernel_rfl) (by kernel_rfl)
  exact cal_mk X G (ok_l_tall F B ) (F.binds fun _ _ _ _ _ _ us hl => match us, hl with | [_, _], _ => rfl) (by kernel_rfl) (by kernel_rfl)
theorem C_ratio (X : (hp w.params).In h) (G : h.Ns mainGlobals mg) (B : Bl (hp w.params) mg) : Cal P w (hp w.params) mg base 2 "ratio" ["top", "bottom"] (sp_ratio (hp w.params)) := by
  have F := fn_mk (K := hp w.params) (st := s_ratio) (f := 42) (c := 41) (n := "ratio") (pm := mo1) (by kernel_rfl) (by kernel_rfl) (by kernel_rfl)
  exact cal_mk X G (ok_ratio F B (C_common_divisor X G B)) (F.binds fun _ _ _ _ _ _ us hl => match us, hl with | [_, _], _ => rfl) (by kernel_rfl) (by kernel_rfl)
theorem C_power (X : (hp w.params).In h) (G : h.Ns mainGlobals mg) (B : Bl (hp w.params) mg) : Cal P w (hp w.params) mg base 2 "power" ["one", "n"] (sp_power (hp w.params)) := by
  have F := fn_mk (K := hp w.params) (st := s_power) (f := 70) (c := 69) (n := "power") (pm := mo1) (by kernel_rfl) (by kernel_rfl) (by kernel_rfl)
  exact cal_mk X G (ok_power F B (C_raised X G B)) (F.binds fun _ _ _ _ _ _ us hl => match us, hl with | [_, _], _ => rfl) (by kernel_rfl) (by kernel_rfl)
theorem C_cleared (X : (hp w.params).In h) (G : h.Ns mainGlobals mg) (B : Bl (hp w.params) mg) : Cal P w (hp w.params) mg base 2 "cleared" ["P"] (sp_cleared (hp w.params)) := by
  have F := fn_mk (K := hp w.params) (st := s_cleared) (f := 82) (c := 81) (n := "cleared") (pm := mo2) (by kernel_rfl) (by kernel_rfl) (by kernel_rfl)
  exact cal_mk X G (ok_cleared F B (C_common_divisor X G B)) (F.binds fun _ _ _ _ _ _ us hl => match us, hl with | [_], _ => rfl) (by kernel_rfl) (by kernel_rfl)
theorem C_spread (X : (hp w.params).In h) (G : h.Ns mainGlobals mg) (B : Bl (hp w.params) mg) : Cal P w (hp w.params) mg base 2 "spread" ["P", "n"] (sp_spread (hp w.params)) := by
  have F := fn_mk (K := hp w.params) (st := s_spread) (f := 145) (c := 144) (n := "spread") (pm := mo4) (by kernel_rfl) (by kernel_rfl) (by kernel_rfl)
  exact cal_mk X G (ok_spread F B (C_poly X G B)) (F.binds fun _ _ _ _ _ _ us hl => match us, hl with | [_, _], _ => rfl) (by kernel_rfl) (by kernel_rfl)
theorem C_l_is_fraction (X : (hp w.params).In h) (G : h.Ns mainGlobals mg) (B : Bl (hp w.params) mg) : Cal P w (hp w.params) mg base 2 "_law_is_fraction" ["_law_found"] (sp_l_is_fraction (hp w.params)) := by
  have F := fn_mk (K := hp w.params) (st := s_l_is_fraction) (f := 185) (c := 184) (n := "_law_is_fraction") (pm := mo5) (by kernel_rfl) (by kernel_rfl) (by kernel_rfl)
  exact cal_mk X G (ok_l_is_fraction F B (C_l_is_number X G B)) (F.binds fun _ _ _ _ _ _ us hl => match us, hl with | [_], _ => rfl) (by kernel_rfl) (by kernel_rfl)
theorem C_minus (X : (hp w.params).In h) (G : h.Ns mainGlobals mg) (B : Bl (hp w.params) mg) : Cal P w (hp w.params) mg base 3 "minus" ["one", "other"] (sp_minus (hp w.params)) := by
  have F := fn_mk (K := hp w.params) (st := s_minus) (f := 49) (c := 48) (n := "minus") (pm := mo1) (by kernel_rfl) (by kernel_rfl) (by kernel_rfl)
  exact cal_mk X G (ok_minus F B (C_ratio X G B)) (F.binds fun _ _ _ _ _ _ us hl => match us, hl with | [_, _], _ => rfl) (by kernel_rfl) (by kernel_rfl)
theorem C_times (X : (hp w.params).In h) (G : h.Ns mainGlobals mg) (B : Bl (hp w.params) mg) : Cal P w (hp w.params) mg base 3 "times" ["one", "other"] (sp_times (hp w.params)) := by
  have F := fn_mk (K := hp w.params) (st := s_times) (f := 56) (c := 55) (n := "times") (pm := mo1) (by kernel_rfl) (by kernel_rfl) (by kernel_rfl)
  exact cal_mk X G (ok_times F B (C_ratio X G B)) (F.binds fun _ _ _ _ _ _ us hl => match us, hl with | [_, _], _ => rfl) (by kernel_rfl) (by kernel_rfl)
theorem C_over (X : (hp w.params).In h) (G : h.Ns mainGlobals mg) (B : Bl (hp w.params) mg) : Cal P w (hp w.params) mg base 3 "over" ["one", "other"] (sp_over (hp w.params)) := by
  have F := fn_mk (K := hp w.params) (st := s_over) (f := 63) (c := 62) (n := "over") (pm := mo1) (by kernel_rfl) (by kernel_rfl) (by kernel_rfl)
  exact cal_mk X G (ok_over F B (C_ratio X G B)) (F.binds fun _ _ _ _ _ _ us hl => match us, hl with | [_, _], _ => rfl) (by kernel_rfl) (by kernel_rfl)
theorem C_uncleared (X : (hp w.params).In h) (G : h.Ns mainGlobals mg) (B : Bl (hp w.params) mg) : Cal P w (hp w.params) mg base 3 "uncleared" ["row", "bottom"] (sp_uncleared (hp w.params)) := by
  have F := fn_mk (K := hp w.params) (st := s_uncleared) (f := 87) (c := 86) (n := "uncleared") (pm := mo2) (by kernel_rfl) (by kernel_rfl) (by kernel_rfl)
  exact cal_mk X G (ok_uncleared F B (C_ratio X G B) (C_poly X G B)) (F.binds fun _ _ _ _ _ _ us hl => match us, hl with | [_, _], _ => rfl) (by kernel_rfl) (by kernel_rfl)
theorem C_p_at (X : (hp w.params).In h) (G : h.Ns mainGlobals mg) (B : Bl (hp w.params) mg) : Cal P w (hp w.params) mg base 3 "p_at" ["P", "c"] (sp_p_at (hp w.params)) := by
  have F := fn_mk (K := hp w.params) (st := s_p_at) (f := 94) (c := 93) (n := "p_at") (pm := mo2) (by kernel_rfl) (by kernel_rfl) (by kernel_rfl)
  exact cal_mk X G (ok_p_at F B (C_cleared X G B) (C_ratio X G B)) (F.binds fun _ _ _ _ _ _ us hl => match us, hl with | [_, _], _ => rfl) (by kernel_rfl) (by kernel_rfl)
theorem C_l_number (X : (hp w.params).In h) (G : h.Ns mainGlobals mg) (B : Bl (hp w.params) mg) : Cal P w (hp w.params) mg base 3 "_law_number" ["_law_source_here"] (sp_l_number (hp w.params)) := by
  have F := fn_mk (K := hp w.params) (st := s_l_number) (f := 166) (c := 165) (n := "_law_number") (pm := mo5) (by kernel_rfl) (by kernel_rfl) (by kernel_rfl)
  exact cal_mk X G (ok_l_number F B (C_l_take X G B) (C_ratio X G B)) (F.binds fun _ _ _ _ _ _ us hl => match us, hl with | [_], _ => rfl) (by kernel_rfl) (by kernel_rfl)
theorem C_p_moved (X : (hp w.params).In h) (G : h.Ns mainGlobals mg) (B : Bl (hp w.params) mg) : Cal P w (hp w.params) mg base 4 "p_moved" ["P", "c"] (sp_p_moved (hp w.params)) := by
  have F := fn_mk (K := hp w.params) (st := s_p_moved) (f := 99) (c := 98) (n := "p_moved") (pm := mo2) (by kernel_rfl) (by kernel_rfl) (by kernel_rfl)
  exact cal_mk X G (ok_p_moved F B (C_cleared X G B) (C_row_moved X G B) (C_uncleared X G B)) (F.binds fun _ _ _ _ _ _ us hl => match us, hl with | [_, _], _ => rfl) (by kernel_rfl) (by kernel_rfl)
theorem C_f_at (X : (hp w.params).In h) (G : h.Ns mainGlobals mg) (B : Bl (hp w.params) mg) : Cal P w (hp w.params) mg base 4 "f_at" ["F", "c"] (sp_f_at (hp w.params)) := by
  have F := fn_mk (K := hp w.params) (st := s_f_at) (f := 113) (c := 112) (n := "f_at") (pm := mo3) (by kernel_rfl) (by kernel_rfl) (by kernel_rfl)
  exact cal_mk X G (ok_f_at F B (C_p_at X G B) (C_over X G B)) (F.binds fun _ _ _ _ _ _ us hl => match us, hl with | [_, _], _ => rfl) (by kernel_rfl) (by kernel_rfl)
theorem C_stretched (X : (hp w.params).In h) (G : h.Ns mainGlobals mg) (B : Bl (hp w.params) mg) : Cal P w (hp w.params) mg base 4 "stretched" ["P", "c"] (sp_stretched (hp w.params)) := by
  have F := fn_mk (K := hp w.params) (st := s_stretched) (f := 138) (c := 137) (n := "stretched") (pm := mo4) (by kernel_rfl) (by kernel_rfl) (by kernel_rfl)
  exact cal_mk X G (ok_stretched F B (C_power X G B) (C_times X G B) (C_poly X G B)) (F.binds fun _ _ _ _ _ _ us hl => match us, hl with | [_, _], _ => rfl) (by kernel_rfl) (by kernel_rfl)
theorem C_l_kind (X : (hp w.params).In h) (G : h.Ns mainGlobals mg) (B : Bl (hp w.params) mg) : Cal P w (hp w.params) mg base 4 "_law_kind" ["_law_source_here"] (sp_l_kind (hp w.params)) := by
  have F := fn_mk (K := hp w.params) (st := s_l_kind) (f := 173) (c := 172) (n := "_law_kind") (pm := mo5) (by kernel_rfl) (by kernel_rfl) (by kernel_rfl)
  exact cal_mk X G (ok_l_kind F B (C_l_number X G B) (C_l_take X G B)) (F.binds fun _ _ _ _ _ _ us hl => match us, hl with | [_], _ => rfl) (by kernel_rfl) (by kernel_rfl)
theorem C_in_root (X : (hp w.params).In h) (G : h.Ns mainGlobals mg) (B : Bl (hp w.params) mg) : Cal P w (hp w.params) mg base 5 "in_root" ["kind", "P"] (sp_in_root (hp w.params)) := by
  have F := fn_mk (K := hp w.params) (st := s_in_root) (f := 133) (c := 132) (n := "in_root") (pm := mo4) (by kernel_rfl) (by kernel_rfl) (by kernel_rfl)
  exact cal_mk X G (ok_in_root F B (C_over X G B) (C_stretched X G B) (C_minus X G B) (C_p_moved X G B) (C_spread X G B)) (F.binds fun _ _ _ _ _ _ us hl => match us, hl with | [_, _], _ => rfl) (by kernel_rfl) (by kernel_rfl)
theorem C_x_of (X : (hp w.params).In h) (G : h.Ns mainGlobals mg) (B : Bl (hp w.params) mg) : Cal P w (hp w.params) mg base 6 "x_of" ["kind"] (sp_x_of (hp w.params)) := by
  have F := fn_mk (K := hp w.params) (st := s_x_of) (f := 126) (c := 125) (n := "x_of") (pm := mo4) (by kernel_rfl) (by kernel_rfl) (by kernel_rfl)
  exact cal_mk X G (ok_x_of F B (C_in_root X G B) (C_f_poly X G B)) (F.binds fun _ _ _ _ _ _ us hl => match us, hl with | [_], _ => rfl) (by kernel_rfl) (by kernel_rfl)
theorem C_l_right (X : (hp w.params).In h) (G : h.Ns mainGlobals mg) (B : Bl (hp w.params) mg) : Cal P w (hp w.params) mg base 7 "_law_right" ["_law_kind_here", "_law_source_here"] (sp_l_right (hp w.params)) := by
  have F := fn_mk (K := hp w.params) (st := s_l_right) (f := 206) (c := 205) (n := "_law_right") (pm := mo5) (by kernel_rfl) (by kernel_rfl) (by kernel_rfl)
  exact cal_mk X G (ok_l_right F B (C_x_of X G B) (C_l_lowest X G B) (C_l_is_fraction X G B) (C_l_number X G B) (C_f_at X G B) (C_l_is_number X G B) (C_l_tall X G B)) (F.binds fun _ _ _ _ _ _ us hl => match us, hl with | [_, _], _ => rfl) (by kernel_rfl) (by kernel_rfl)
end
theorem all_mk {l : PySem.W.OpenLaw} {w : World} {h : Heap} {mg : Str → Option Value} {fa : Addr} (X : (hp w.params).In h) (G : h.Ns mainGlobals mg) (hfa : mg "law" = some (.ref fa))
    : ∃ fd : FuncData, (∀ (s : Shared) (v : Value), BindsTo s fd ⟨[v], []⟩ [("_law_script", v)]) ∧ ∀ base : Heap, (hp w.params).In base → base.Ns mainGlobals mg → FnOk l.prog w (hp w.params) mg base CX0 8 fa fd ["_law_script"] (sp_law (hp w.params)) := by
  have e := hfa.symm.trans (PySem.W.mg_of X G (n := "law") (v := .ref 213) (by kernel_rfl))
  cases e
  have qX : aX (hp w.params) = 119 := by kernel_rfl
  have yX0 : ∀ H : Hp, SqT (hp w.params) H 119 [.ref 116, .ref 118] := fun H => .inr ⟨_, _, _, (show (hp w.params).lookup 119 = some ⟨.type "tuple", none, .seq #[(R 116), (R 118)] 0, #[]⟩ by kernel_rfl), rfl, rfl, by show 2 ≤ sizeLine; rw [sizeLine_eq]; decide, .cons rfl (.cons rfl (.nil))⟩
  have yX1 : ∀ H : Hp, SqT (hp w.params) H 116 [.ref 114, .ref 115] := fun H => .inr ⟨_, _, _, (show (hp w.params).lookup 116 = some ⟨.type "tuple", none, .seq #[(R 114), (R 115)] 0, #[]⟩ by kernel_rfl), rfl, rfl, by show 2 ≤ sizeLine; rw [sizeLine_eq]; decide, .cons rfl (.cons rfl (.nil))⟩
  have yX2 : ∀ H : Hp, SqT (hp w.params) H 118 [.ref 117] := fun H => .inr ⟨_, _, _, (show (hp w.params).lookup 118 = some ⟨.type "tuple", none, .seq #[(R 117)] 0, #[]⟩ by kernel_rfl), rfl, rfl, by show 1 ≤ sizeLine; rw [sizeLine_eq]; decide, .cons rfl (.nil)⟩
  have yX3 : ∀ H : Hp, SqT (hp w.params) H 114 [.int 0, .int 1] := fun H => .inr ⟨_, _, _, (show (hp w.params).lookup 114 = some ⟨.type "tuple", none, .seq #[(.int 0 322), (.int 1 323)] 0, #[]⟩ by kernel_rfl), rfl, rfl, by show 2 ≤ sizeLine; rw [sizeLine_eq]; decide, .cons ⟨_, rfl⟩ (.cons ⟨_, rfl⟩ (.nil))⟩
  have yX4 : ∀ H : Hp, SqT (hp w.params) H 115 [.int 1, .int 1] := fun H => .inr ⟨_, _, _, (show (hp w.params).lookup 115 = some ⟨.type "tuple", none, .seq #[(.int 1 324), (.int 1 325)] 0, #[]⟩ by kernel_rfl), rfl, rfl, by show 2 ≤ sizeLine; rw [sizeLine_eq]; decide, .cons ⟨_, rfl⟩ (.cons ⟨_, rfl⟩ (.nil))⟩
  have yX5 : ∀ H : Hp, SqT (hp w.params) H 117 [.int 1, .int 1] := fun H => .inr ⟨_, _, _, (show (hp w.params).lookup 117 = some ⟨.type "tuple", none, .seq #[(.int 1 326), (.int 1 327)] 0, #[]⟩ by kernel_rfl), rfl, rfl, by show 2 ≤ sizeLine; rw [sizeLine_eq]; decide, .cons ⟨_, rfl⟩ (.cons ⟨_, rfl⟩ (.nil))⟩
  have xX : XOk (hp w.params) := ⟨116, 118, 114, 115, fun H => ⟨by rw [qX]; exact yX0 H, yX1 H, yX3 H, yX4 H⟩⟩
  have B : Bl (hp w.params) mg := ⟨PySem.W.mg_none_of X G (by kernel_rfl), PySem.W.mg_none_of X G (by kernel_rfl), PySem.W.mg_none_of X G (by kernel_rfl), PySem.W.mg_none_of X G (by kernel_rfl), PySem.W.mg_none_of X G (by kernel_rfl), PySem.W.mg_none_of X G (by kernel_rfl), PySem.W.mg_none_of X G (by kernel_rfl), by rw [qX]; exact PySem.W.mg_of X G (by kernel_rfl), PySem.W.mg_none_of X G (by kernel_rfl), PySem.W.mg_none_of X G (by kernel_rfl), PySem.W.mg_none_of X G (by kernel_rfl), PySem.W.mg_none_of X G (by kernel_rfl), PySem.W.mg_none_of X G (by kernel_rfl), xX⟩
  have FL := fn_mk (K := hp w.params) (st := s_law) (f := 213) (c := 212) (n := "law") (pm := mo5) (by kernel_rfl) (by kernel_rfl) (by kernel_rfl)
  refine ⟨PySem.W.fnOf "law" "law" (defArgs s_law) (defBody s_law) (defScope s_law) .none .none .none mo5 none (.ref 212) .none, fun s v => .of_eq rfl, fun base _ _ => ?_⟩
  exact ok_law FL B (C_l_source X G B) (C_l_kind X G B) (C_l_right X G B) (C_x_of X G B)
theorem walk {l : PySem.W.OpenLaw} {q : Program} {loose : List Str} {XP : (Str → Option Value) → Heap → Prop} {YP : World → Heap → Prop} {d : DefRec} {K : Params → W.Frag} (hn : l.most = some 63) (hdf : d.params.defaults = []) (hq : importsNone q = true) (ht : ∀ w, (model l.prog w).prog.given.tree = none)
    (hY : ∀ (w : World) (h : Heap), YP w h → (K w.params).In h)
    (F : ∀ (w : World) (mg : Str → Option Value) (fa : Addr) (h : Heap), (K w.params).In h → h.Ns mainGlobals mg → mg d.name = some (.ref fa) →
      ∃ fd : FuncData, (∀ (s : Shared) (u : Value), BindsTo s fd ⟨[u], []⟩ [("_law_script", u)]) ∧ ∀ base : Heap, (K w.params).In base → base.Ns mainGlobals mg → FnOk l.prog w (K w.params) mg base CX0 8 fa fd ["_law_script"] (sp_law (K w.params))) :
    PySem.W.WalkO q loose XP YP l.row.toRowW d [] (fun f vs => PySem.call f vs) :=
  L2.walk_of (n := 63) (k := 8) (x := "_law_script") (CX := fun _ => CX0) (sp := fun w => sp_law (K w.params)) hn (by decide) hdf hq ht ⟨rfl, by decide, by decide⟩ hY F (fun _ _ a ns hl _ hS => ⟨a, ns, rfl, hS, hl, fun _ => rfl⟩) fun _ _ _ _ _ z => z
end Bs
open PySem PySem.W PyProof.Rows
set_option maxRecDepth 100000 in
set_option maxHeartbeats 0 in
theorem PySem.Challenge.cw_backslope_k41_x_by_the_root_holds : PySem.Challenge.rw_backslope_k41_x_by_the_root.Holds := by
  w_on; o_law
  refine PySem.W.holds_open (q := Bs.Hd.vw) (loose := []) (Xt := fun s => PySem.W.xlAt Bs.Hd.vw [] s && PySem.W.recOk (PySem.W.RowW.records (PySem.W.OpenRow.toRowW (PySem.W.OpenLaw.row PySem.Challenge.rw_backslope_k41_x_by_the_root))) s) (XP := PySem.W.XL Bs.Hd.vw []) (Yf := Bs.Hd.hk.obs) (Ya := Bs.Hd.hk.val) (YP := Bs.Hd.hk.says) (N := 2058) Bs.Hd.left Bs.Hd.hk.of Bs.Hd.hk.keeps (fun s e => PySem.W.xl_of s (Bool.and_eq_true_iff.mp e).1) PySem.W.XL.keeps (by rfl) (by rfl) (by rfl) (fun s e => PySem.W.recFacts_of (Bool.and_eq_true_iff.mp e).2) (by rfl) (by first | assumption | decide +kernel) (by decide +kernel) ⟨rfl, rfl, rfl, rfl, rfl, by decide +kernel⟩ ?hw ?hc
  case hw => w_witness2
  case hc => exact Bs.walk (l := PySem.Challenge.rw_backslope_k41_x_by_the_root) (K := Bs.Hd.hp) rfl rfl (by decide +kernel) (fun _ => rfl) (fun w h Y => Y) (fun w mg fa h KX G hmg => Bs.all_mk KX G hmg)
#print axioms PySem.Challenge.cw_backslope_k41_x_by_the_root_holds
