import PyProof.Rows.All
import Wide.All
import OpenK.AllK
import Wide.FinOn
import Lean
import PyProof.EqAt
import PyProof.EqKinds
import PyProof.TupleCall
import PySem.Challenge.RW_backslope_k64_tops
set_option Elab.async false
set_option linter.all false
set_option maxRecDepth 100000
namespace L2
open PySem PySem.Spec PyProof.Rows
abbrev Key := Sum Int Str
def keyIs : Key → Value → Bool
  | .inl k, v => Value.isInt k v
  | .inr x, v => Value.isStrOf x v
def keyH (w : World) : Key → Int
  | .inl k => hashInt k
  | .inr x => hashStr w x
theorem keyIs_shape : ∀ {k : Key} {v : Value}, keyIs k v = true → (∃ i t, k = Sum.inl i ∧ v = Value.int i t) ∨ (∃ x t, k = Sum.inr x ∧ v = Value.str x t)
  | .inl i, v, h => by
    obtain ⟨t, e⟩ := Value.isInt_shape (k := i) (v := v) h
    exact .inl ⟨i, t, rfl, e⟩
  | .inr x, v, h => by
    obtain ⟨t, e⟩ := Value.isStrOf_shape (x := x) (v := v) h
    exact .inr ⟨x, t, rfl, e⟩
theorem key_ll (a b : Int) : decide ((Sum.inl a : Key) = Sum.inl b) = (a == b) := by
  by_cases e : a = b
  · subst e; simp
  · have h : ¬ (Sum.inl a : Key) = Sum.inl b := fun q => e (Sum.inl.inj q)
    rw [decide_eq_false h]
    exact (beq_eq_false_iff_ne.mpr e).symm
theorem key_rr (a b : Str) : decide ((Sum.inr a : Key) = Sum.inr b) = decide (a = b) := by
  by_cases e : a = b
  · subst e; simp
  · have h : ¬ (Sum.inr a : Key) = Sum.inr b := fun q => e (Sum.inr.inj q)
    rw [decide_eq_false h, decide_eq_false e]
theorem key_lr (a : Int) (b : Str) : decide ((Sum.inl a : Key) = Sum.inr b) = false := decide_eq_false (fun q => nomatch q)
theorem key_rl (a : Str) (b : Int) : decide ((Sum.inr a : Key) = Sum.inl b) = false := decide_eq_false (fun q => nomatch q)
def mixKind (prog : Program) (w : World) : PySem.KeyKind prog w Key where
  is := keyIs
  hash := keyH w
  inj := fun v a b ha hb => by
    rcases keyIs_shape ha with ⟨i, t, rfl, rfl⟩ | ⟨x, t, rfl, rfl⟩
    · rcases keyIs_shape hb with ⟨j, u, rfl, e⟩ | ⟨y, u, rfl, e⟩
      · injection e with e1 _; rw [e1]
      · exact nomatch e
    · rcases keyIs_shape hb with ⟨j, u, rfl, e⟩ | ⟨y, u, rfl, e⟩
      · exact nomatch e
      · injection e with e1 _; rw [e1]
  byValue := fun k v h => by
    rcases keyIs_shape h with ⟨i, t, rfl, rfl⟩ | ⟨x, t, rfl, rfl⟩ <;> rfl
  pyHash := fun hv h => by
    rcases keyIs_shape hv with ⟨i, t, rfl, rfl⟩ | ⟨x, t, rfl, rfl⟩
    · exact wpAny_pyHash_int h
    · exact wpAny_pyHash_str h
  eqBool := fun hu hv h => by
    rcases keyIs_shape hu with ⟨i, t, rfl, rfl⟩ | ⟨x, t, rfl, rfl⟩
    · rcases keyIs_shape hv with ⟨j, u, rfl, rfl⟩ | ⟨y, u, rfl, rfl⟩
      · rw [key_ll] at h; exact wpAny_eqBool_int h
      · rw [key_lr] at h; exact SeqAt.EqAt.int_str i t y u _ _ _ _ h
    · rcases keyIs_shape hv with ⟨j, u, rfl, rfl⟩ | ⟨y, u, rfl, rfl⟩
      · rw [key_rl] at h; exact SeqAt.EqAt.str_int x t j u _ _ _ _ h
      · rw [key_rr] at h; exact wpAny_eqBool_str h
  «strs» := fun k x t v h => by
    rcases keyIs_shape h with ⟨i, u, rfl, e⟩ | ⟨y, u, rfl, e⟩
    · exact nomatch e
    · injection e with e1 _
      subst e1
      cases v <;> rfl
end L2
namespace L2
open PySem PySem.Spec PyProof.Rows
inductive V where
  | non | bl (b : Bool) | int (i : Int) | str (x : Str) | byt (b : Array UInt8) | flt (b : UInt64) | ref (a : Addr) | ty (n : String)
  deriving DecidableEq
def RelV : V → Value → Prop
  | .non, u => u = Value.none
  | .bl b, u => u = Value.bool b
  | .int i, u => ∃ t, u = Value.int i t
  | .str x, u => ∃ t, u = Value.str x t
  | .byt b, u => ∃ t, u = Value.bytes b t
  | .flt b, u => ∃ t, u = Value.float b t
  | .ref a, u => u = Value.ref a
  | .ty n, u => u = Value.type n
abbrev Vals : List V → List Value → Prop := Paired RelV
theorem Vals.length {xs : List V} {us : List Value} (r : Vals xs us) : xs.length = us.length := Paired.length r
theorem Vals.get : ∀ {xs : List V} {us : List Value} {i : Nat} {x : V}, Vals xs us → xs[i]? = some x → ∃ u, us[i]? = some u ∧ RelV x u
  | _, _, _, _, .nil, e => by simp at e
  | _, _, 0, _, .cons r _, e => by simp at e; subst e; exact ⟨_, rfl, r⟩
  | _, _, i + 1, x, .cons _ t, e => by
    obtain ⟨u, h1, h2⟩ := Vals.get (i := i) (x := x) t (by simpa using e)
    exact ⟨u, by simpa using h1, h2⟩
theorem Vals.set {x : V} {u : Value} (r : RelV x u) : ∀ {xs : List V} {us : List Value} (i : Nat), Vals xs us → Vals (xs.set i x) (us.set i u)
  | _, _, _, .nil => .nil
  | _, _, 0, .cons _ t => .cons r t
  | _, _, i + 1, .cons q t => .cons q (Vals.set r i t)
theorem Vals.append : ∀ {xs ys : List V} {us ws : List Value}, Vals xs us → Vals ys ws → Vals (xs ++ ys) (us ++ ws)
  | _, _, _, _, .nil, s => s
  | _, _, _, _, .cons r t, s => .cons r (Vals.append t s)
theorem Vals.take : ∀ {xs : List V} {us : List Value} (n : Nat), Vals xs us → Vals (xs.take n) (us.take n)
  | _, _, 0, _ => .nil
  | _, _, _ + 1, .nil => .nil
  | _, _, n + 1, .cons r t => .cons r (Vals.take n t)
theorem Vals.drop : ∀ {xs : List V} {us : List Value} (n : Nat), Vals xs us → Vals (xs.drop n) (us.drop n)
  | _, _, 0, r => r
  | _, _, _ + 1, .nil => .nil
  | _, _, n + 1, .cons _ t => Vals.drop n t
def RelO : Option V → Option Value → Prop
  | some v, some u => RelV v u
  | none, none => True
  | _, _ => False
def KV {κ : Type} : List (κ × V) → List (κ × Value) → Prop := Paired fun (p : κ × V) (q : κ × Value) => p.1 = q.1 ∧ RelV p.2 q.2
def kV : Key → V
  | .inl i => .int i
  | .inr x => .str x
inductive HO where

  | lst (xs : List V)

  | tup (xs : List V)

  | dK (kvs : List (Key × V)) | dT (kvs : List (List Key × V))

  | set (S : Int → Bool) (n : Nat)

  | ins (C dx : Addr) (fs : List (Str × V))

  | own (x : Addr)

  | xd (fs : List (Str × V))

  | met (f x : Addr)

  | rng (lo hi : Int)

  | frz (o : Obj) (u : HO)

  | tbl (ps : Array Value)

  | ext (φ : Heap → Prop)
abbrev Hp := Addr → Option HO
def upd (H : Hp) (a : Addr) (o : HO) : Hp := fun b => if b = a then some o else H b
theorem upd_same {H : Hp} {a : Addr} {o : HO} : upd H a o a = some o := by unfold upd; rw [if_pos rfl]
theorem upd_ne {H : Hp} {a b : Addr} {o : HO} (h : b ≠ a) : upd H a o b = H b := by unfold upd; rw [if_neg h]
theorem ne_of {H : Hp} {a b : Addr} {o u : HO} (h : H a = some o) (h' : H b = some u) (d : o ≠ u) : a ≠ b := by
  intro e; subst e; rw [h] at h'; exact d (Option.some.inj h')
theorem ne_of_none {H : Hp} {a b : Addr} {o : HO} (h : H a = some o) (h' : H b = none) : a ≠ b := by
  intro e; subst e; rw [h] at h'; cases h'
section
variable (P : Program) (w : World)
def ObjOk (H : Hp) (h : Heap) (a : Addr) : HO → Prop
  | .lst xs => xs.length ≤ sizeLine ∧ ∃ (its : List Value) (n : Nat), Vals xs its ∧ h.get? a = some { cls := .type "list", data := .seq its.toArray n }
  | .tup xs => xs.length ≤ sizeLine ∧ ∃ its : List Value, Vals xs its ∧ IsTup h a its.toArray
  | .dK kvs => kvs.length ≤ sizeLine ∧ (a == sysModules) = false ∧ ∃ vs, KV kvs vs ∧ h.DictOf (mixKind P w) a vs
  | .dT kvs => kvs.length ≤ sizeLine ∧ (a == sysModules) = false ∧ ∃ xs : List (List Key × Addr × Value),
      Paired (fun (p : List Key × V) (q : List Key × Addr × Value) => p.1 = q.1 ∧ H q.2.1 = some (.tup (p.1.map kV)) ∧ RelV p.2 q.2.2) kvs xs ∧
      ∃ o es ep, h.get? a = some o ∧ o.ExactDict ∧ o.data = .dict es ep ∧ es.toList = xs.map (entryOfKey (tupleKind (mixKind P w))) ∧ (xs.map (·.1)).Nodup
  | .set S n => h.SetOf (intKind P w) a S n
  | .ins C dx fs => H dx = some (.own a) ∧ fs.length ≤ 1000 ∧ dx ≠ a ∧ h.get? a = some (PySem.W.instObj C dx) ∧
      ∃ mA, h.Ns1 dx mA ∧ (∀ f, RelO (fs.lookup f) (mA f)) ∧ PySem.Within mA (fs.map (·.1))
  | .own _ => ∃ o, h.get? a = some o
  | .xd fs => ∃ mA, h.Ns1 a mA ∧ ∀ f, RelO (fs.lookup f) (mA f)
  | .rng lo hi => ∃ t u v, h.get? a = some { cls := .type "range", data := .fields #[.int lo t, .int hi u, .int 1 v] }
  | .frz o u => h.get? a = some o ∧ ObjOk H h a u
  | .tbl ps => h.get? a = some { cls := .none, data := .fields ps }
  | .met f x => h.get? a = some (PySem.W.methodObj (.ref f) (.ref x))
  | .ext φ => φ h ∧ (∃ o, h.get? a = some o) ∧ ∀ h1 h2 : Heap, φ h1 → (∀ o, h1.get? a = some o → h2.get? a = some o) → φ h2
def HOk (H : Hp) (h : Heap) : Prop := ∀ a o, H a = some o → ObjOk P w H h a o
end
section
variable {P : Program} {w : World} {H H' : Hp} {h h' : Heap} {a : Addr} {o : HO}
theorem ObjOk.lt (x : ObjOk P w H h a o) : a < h.objs.size := by
  cases o with
  | lst xs => obtain ⟨_, _, _, _, e⟩ := x; exact Heap.lt_size e
  | tup xs => obtain ⟨_, _, _, p⟩ := x; exact p.lt
  | dK kvs => obtain ⟨_, _, _, _, o, _, _, e, _⟩ := x; exact Heap.lt_size e
  | dT kvs => obtain ⟨_, _, _, _, o, _, _, e, _⟩ := x; exact Heap.lt_size e
  | set S n => obtain ⟨o, _, _, _, e, _⟩ := x; exact Heap.lt_size e
  | ins C dx fs => obtain ⟨_, _, _, e, _⟩ := x; exact Heap.lt_size e
  | own y => obtain ⟨_, e⟩ := x; exact Heap.lt_size e
  | xd fs => obtain ⟨_, ⟨_, _, _, e, _⟩, _⟩ := x; exact Heap.lt_size e
  | rng lo hi => obtain ⟨_, _, _, e⟩ := x; exact Heap.lt_size e
  | frz ob u => obtain ⟨e, _⟩ := x; exact Heap.lt_size e
  | tbl ps => exact Heap.lt_size (show h.get? a = some _ from x)
  | met f y => exact Heap.lt_size (show h.get? a = some _ from x)
  | ext φ => obtain ⟨_, ⟨_, e⟩, _⟩ := x; exact Heap.lt_size e
theorem Paired.mapP {α β : Type} {F G : α → β → Prop} : ∀ {l₁ : List α} {l₂ : List β}, Paired F l₁ l₂ → (∀ a b, F a b → G a b) → Paired G l₁ l₂
  | _, _, .nil, _ => .nil
  | _, _, .cons r t, f => .cons (f _ _ r) (Paired.mapP t f)
theorem ObjOk.stay (x : ObjOk P w H h a o) (k : ∀ b u, (b = a ∨ H b = some (.own a)) → h.get? b = some u → h'.get? b = some u)
    (ho : ∀ b, H b = some (.own a) → H' b = some (.own a)) (ht : ∀ b xs, H b = some (.tup xs) → H' b = some (.tup xs)) : ObjOk P w H' h' a o := by
  induction o with
  | lst xs => obtain ⟨z, its, n, r, e⟩ := x; exact ⟨z, its, n, r, k _ _ (.inl rfl) e⟩
  | tup xs => obtain ⟨z, its, r, ob, e, c⟩ := x; exact ⟨z, its, r, ob, k _ _ (.inl rfl) e, c⟩
  | dK kvs => obtain ⟨z, y, vs, r, ob, es, ep, e, c⟩ := x; exact ⟨z, y, vs, r, ob, es, ep, k _ _ (.inl rfl) e, c⟩
  | dT kvs =>
    obtain ⟨z, y, xs, r, ob, es, ep, e, c⟩ := x
    exact ⟨z, y, xs, Paired.mapP r fun p q z => ⟨z.1, ht _ _ z.2.1, z.2.2⟩, ob, es, ep, k _ _ (.inl rfl) e, c⟩
  | set S n => obtain ⟨ob, es, ep, t, e, c⟩ := x; exact ⟨ob, es, ep, t, k _ _ (.inl rfl) e, c⟩
  | ins C dx fs =>
    obtain ⟨d, z, ne, e, mA, ⟨od, es, ep, e2, c⟩, r⟩ := x
    exact ⟨ho _ d, z, ne, k _ _ (.inl rfl) e, mA, ⟨od, es, ep, k _ _ (.inr d) e2, c⟩, r⟩
  | own y => obtain ⟨ob, e⟩ := x; exact ⟨ob, k _ _ (.inl rfl) e⟩
  | xd fs => obtain ⟨mA, ⟨od, es, ep, e, c⟩, r⟩ := x; exact ⟨mA, ⟨od, es, ep, k _ _ (.inl rfl) e, c⟩, r⟩
  | rng lo hi => obtain ⟨t, u, v, e⟩ := x; exact ⟨t, u, v, k _ _ (.inl rfl) e⟩
  | frz ob u ih => obtain ⟨e, q⟩ := x; exact ⟨k _ _ (.inl rfl) e, ih q⟩
  | tbl ps =>
    have e : h.get? a = some { cls := .none, data := .fields ps } := x
    show h'.get? a = some { cls := .none, data := .fields ps }
    exact k a _ (.inl rfl) e
  | met f y =>
    have e : h.get? a = some (PySem.W.methodObj (.ref f) (.ref y)) := x
    show h'.get? a = some (PySem.W.methodObj (.ref f) (.ref y))
    exact k a _ (.inl rfl) e
  | ext φ => obtain ⟨p, ⟨o, e⟩, st⟩ := x; exact ⟨st _ _ p fun o q => k _ _ (.inl rfl) q, ⟨o, k _ _ (.inl rfl) e⟩, st⟩
theorem HOk.lt (x : HOk P w H h) (e : H a = some o) : a < h.objs.size := (x a o e).lt
theorem HOk.fresh (x : HOk P w H h) (e : h.objs.size ≤ a) : H a = none := by
  cases q : H a with
  | none => rfl
  | some u => exact absurd (Nat.lt_of_lt_of_le (x.lt q) e) (Nat.lt_irrefl _)
theorem HOk.kept (x : HOk P w H h) (k : ∀ b u, h.get? b = some u → h'.get? b = some u) : HOk P w H h' := fun a o e =>
  (x a o e).stay (fun b u _ q => k b u q) (fun _ q => q) fun _ _ q => q
theorem HOk.laid (x : HOk P w H h) (k : ∀ b u, h.get? b = some u → h'.get? b = some u) (hp : h.objs.size ≤ a) (new : ObjOk P w (upd H a o) h' a o) : HOk P w (upd H a o) h' := fun b u e => by
  have hn := x.fresh hp
  by_cases hb : b = a
  · subst hb; rw [upd_same] at e; cases e; exact new
  · rw [upd_ne hb] at e
    exact (x b u e).stay (fun c v _ q => k c v q) (fun c q => by rw [upd_ne (ne_of_none q hn)]; exact q) fun c xs q => by rw [upd_ne (ne_of_none q hn)]; exact q
end
def Rd (H : Hp) (a : Addr) (u : HO) : Prop := H a = some u ∨ ∃ o, H a = some (.frz o u)
theorem Rd.of {H : Hp} {a : Addr} {u : HO} (h : H a = some u) : Rd H a u := .inl h
theorem Rd.ok {P : Program} {w : World} {H : Hp} {h : Heap} {a : Addr} {u : HO} (r : Rd H a u) (x : HOk P w H h) : ObjOk P w H h a u := by
  rcases r with r | ⟨o, r⟩
  · exact x a u r
  · obtain ⟨_, q⟩ := x a _ r
    exact q
def Mut : Option HO → Prop
  | some (.lst _) => True
  | some (.dK _) => True
  | some (.dT _) => True
  | some (.set _ _) => True
  | some (.ins _ _ _) => True
  | some (.ext _) => True
  | _ => False
section
variable {P : Program} {w : World} {H : Hp} {h h' : Heap} {x e : Addr} {o' : HO}
theorem HOk.write (ok : HOk P w H h) (mu : Mut (H x)) (he : e = x ∨ H e = some (.own x)) (k : ∀ b u, b ≠ e → h.get? b = some u → h'.get? b = some u) (heo : ∃ u, h'.get? e = some u)
    (new : ObjOk P w (upd H x o') h' x o') : HOk P w (upd H x o') h' := fun b u q => by
  have nown : ∀ c y, H c = some (.own y) → c ≠ x := fun c y r z => by subst z; rw [r] at mu; exact mu
  have ntup : ∀ c xs, H c = some (.tup xs) → c ≠ x := fun c xs r z => by subst z; rw [r] at mu; exact mu
  by_cases hb : b = x
  · subst hb; rw [upd_same] at q; cases q; exact new
  · rw [upd_ne hb] at q
    by_cases hbe : b = e
    · have q' : H b = some (.own x) := by
        rcases he with z | z
        · exact absurd (hbe.trans z) hb
        · rw [hbe]; exact z
      rw [q] at q'; cases q'
      obtain ⟨v, hv⟩ := heo
      exact ⟨v, by rw [hbe]; exact hv⟩
    · refine (ok b u q).stay (fun c v hc r => k c v ?_ r) (fun c r => by rw [upd_ne (nown c b r)]; exact r) fun c xs r => by rw [upd_ne (ntup c xs r)]; exact r
      rcases hc with rfl | hc
      · exact hbe
      · rintro rfl
        rcases he with z | z
        · exact nown c b hc z
        · rw [hc] at z; cases z; exact hb rfl
end
structure Un (fs ex : List Addr) (H H' : Hp) (h h' : Heap) : Prop where
  keep : ∀ b o, h.get? b = some o → H b = none → b ∉ fs → b ∉ ex → h'.get? b = some o
  slot : ∀ b o, h.get? b = some o → H b = none → b ∈ fs → b ∉ ex → ∃ sl, h'.get? b = some { o with slots := sl }
  free : ∀ b o, h.get? b = some o → H b = none → b ∉ ex → H' b = none
  there : ∀ b o, h.get? b = some o → b ∉ ex → ∃ o', h'.get? b = some o'
  tups : ∀ b xs, H b = some (.tup xs) → H' b = some (.tup xs)
  frzs : ∀ b o u, H b = some (.frz o u) → H' b = some (.frz o u)
  tbls : ∀ b ps, H b = some (.tbl ps) → ∃ more, H' b = some (.tbl (ps ++ more))
section
variable {fs fs' ex ex' : List Addr} {H H1 H2 : Hp} {h h1 h2 h' : Heap} {a x e : Addr} {o : HO}
theorem Un.any (u : Un fs ex H H1 h h1) {b : Addr} {ob : Obj} (q : h.get? b = some ob) (n : H b = none) (hx : b ∉ ex) : ∃ sl, h1.get? b = some { ob with slots := sl } := by
  by_cases hb : b ∈ fs
  · exact u.slot b ob q n hb hx
  · exact ⟨ob.slots, u.keep b ob q n hb hx⟩
theorem Un.trans (a : Un fs ex H H1 h h1) (b : Un fs ex H1 H2 h1 h2) : Un fs ex H H2 h h2 where
  keep := fun c ob q n hc hx => b.keep c ob (a.keep c ob q n hc hx) (a.free c ob q n hx) hc hx
  slot := fun c ob q n hc hx => by
    obtain ⟨sl, e1⟩ := a.slot c ob q n hc hx
    obtain ⟨sl', e2⟩ := b.slot c _ e1 (a.free c ob q n hx) hc hx
    exact ⟨sl', e2⟩
  free := fun c ob q n hx => by
    obtain ⟨o', e1⟩ := a.there c ob q hx
    exact b.free c o' e1 (a.free c ob q n hx) hx
  there := fun c ob q hx => by
    obtain ⟨o', e1⟩ := a.there c ob q hx
    exact b.there c o' e1 hx
  tups := fun c xs q => b.tups c xs (a.tups c xs q)
  frzs := fun c ob xs q => b.frzs c ob xs (a.frzs c ob xs q)
  tbls := fun c ps q => by
    obtain ⟨m1, e1⟩ := a.tbls c ps q
    obtain ⟨m2, e2⟩ := b.tbls c _ e1
    exact ⟨m1 ++ m2, by rw [e2, Array.append_assoc]⟩
theorem Un.kept (k : ∀ b u, h.get? b = some u → h'.get? b = some u) : Un fs ex H H h h' :=
  ⟨fun b ob q _ _ _ => k b ob q, fun b ob q _ _ _ => ⟨ob.slots, k b ob q⟩, fun _ _ _ n _ => n, fun b ob q _ => ⟨ob, k b ob q⟩, fun _ _ q => q, fun _ _ _ q => q, fun _ ps q => ⟨#[], by rw [q]; simp⟩⟩
theorem Un.refl : Un fs ex H H h h := Un.kept fun _ _ q => q
theorem Un.laid (k : ∀ b u, h.get? b = some u → h'.get? b = some u) (hp : h.objs.size ≤ a) (hn : H a = none) : Un fs ex H (upd H a o) h h' where
  keep := fun b u q _ _ _ => k b u q
  slot := fun b u q _ _ _ => ⟨u.slots, k b u q⟩
  free := fun b u q n _ => by rw [upd_ne (Nat.ne_of_lt (Nat.lt_of_lt_of_le (Heap.lt_size q) hp))]; exact n
  there := fun b u q _ => ⟨u, k b u q⟩
  tups := fun b xs q => by rw [upd_ne (ne_of_none q hn)]; exact q
  frzs := fun b u xs q => by rw [upd_ne (ne_of_none q hn)]; exact q
  tbls := fun b ps q => ⟨#[], by rw [upd_ne (ne_of_none q hn), q]; simp⟩
theorem Un.write (mu : Mut (H x)) (he : e = x ∨ H e = some (.own x)) (k : ∀ b u, b ≠ e → h.get? b = some u → h'.get? b = some u) (heo : ∃ u, h'.get? e = some u) : Un fs ex H (upd H x o) h h' := by
  have hx : ∀ b, H b = none → b ≠ x := fun b n z => by subst z; rw [n] at mu; exact mu
  have hb : ∀ b, H b = none → b ≠ e := fun b n z => by
    subst z
    rcases he with r | r
    · exact hx b n r
    · rw [n] at r; cases r
  have hm : ∀ b u, H b = some u → ¬ Mut (some u) → b ≠ x := fun b u q nm z => by subst z; rw [q] at mu; exact nm mu
  refine ⟨fun b u q n _ _ => k b u (hb b n) q, fun b u q n _ _ => ⟨u.slots, k b u (hb b n) q⟩, fun b u q n _ => by rw [upd_ne (hx b n)]; exact n, fun b u q _ => ?_,
    fun b xs q => by rw [upd_ne (hm b _ q fun z => z)]; exact q, fun b u xs q => by rw [upd_ne (hm b _ q fun z => z)]; exact q, fun b ps q => ⟨#[], by rw [upd_ne (hm b _ q fun z => z), q]; simp⟩⟩
  by_cases hbe : b = e
  · subst hbe; exact heo
  · exact ⟨u, k b u hbe q⟩
theorem Un.mono (u : Un fs ex H H1 h h1) (hs : ∀ b ∈ fs, b ∈ fs') (hx : ∀ b ∈ ex, b ∈ ex') : Un fs' ex' H H1 h h1 :=
  ⟨fun b ob q n hb he => u.keep b ob q n (fun z => hb (hs b z)) fun z => he (hx b z), fun _ _ q n _ he => u.any q n fun z => he (hx _ z), fun b ob q n he => u.free b ob q n fun z => he (hx b z), fun b ob q he => u.there b ob q fun z => he (hx b z), u.tups, u.frzs, u.tbls⟩
end
def trk (h : Heap) (H : Hp) : List Addr := (List.range h.objs.size).filter fun a => (H a).isSome
def hidT (h : Heap) (H : Hp) : Heap := PySem.W.hideAll h (trk h H)
theorem hidT_size (h : Heap) (H : Hp) : (hidT h H).objs.size = h.objs.size := PySem.W.hideAll_size _ _
theorem hidT_get {h : Heap} {H : Hp} {b : Addr} {o : Obj} (e : h.get? b = some o) (n : H b = none) : (hidT h H).get? b = some o :=
  PySem.W.hideAll_get _ e fun hm => by
    have q : (H b).isSome = true := (List.mem_filter.mp hm).2
    rw [n] at q; simp at q
theorem of_hidT {h : Heap} {H : Hp} {b : Addr} {o : Obj} (e : (hidT h H).get? b = some o) : h.get? b = some o ∧ H b = none := by
  have e' : h.get? b = some o := PySem.W.of_hideAll (trk h H) e
  refine ⟨e', ?_⟩
  cases q : H b with
  | none => rfl
  | some x =>
    have hm : b ∈ trk h H := List.mem_filter.mpr ⟨List.mem_range.mpr (Heap.lt_size e'), by simp [q]⟩
    have z : (hidT h H).get? b = none := PySem.W.hideAll_none (trk h H) hm
    rw [z] at e; cases e
def allNews (g h : Heap) (L : Addr) : List (Addr × Obj) := (List.range h.objs.size).filterMap fun a => if a = L ∨ (g.get? a).isSome = true then none else (h.get? a).map fun o => (a, o)
def rest (g h : Heap) (L d : Addr) : List (Addr × Obj) := (allNews g h L).filter fun p => decide (p.1 ≠ d)
end L2
namespace L2
open PySem PySem.Spec PyProof.Rows
structure Mod (K : PySem.W.Frag) (mg : Str → Option Value) (base : Heap) : Prop where
  kin : K.In base
  glob : base.Ns mainGlobals mg
  blt : ∃ mb, base.Ns builtinsNs mb ∧ ∀ x : Str, x ≠ "__name__" → mb x = bootBuiltins x
  nolimit : base.NoLimit
structure Cx where
  prog : Program
  w : World
  K : PySem.W.Frag
  mg : Str → Option Value
  base : Heap
  A : Around
  N : List Str
  s₀ : Shared
  H₀ : Hp
  env : Env
  outer : List Env
  stack : List Env
  ex : List Addr
  fn : Str → Bool
  calm : Bool
  pn : List (Addr × Obj)
  xe : Value → Shared → Prop
def frs (l : List Env) : List Addr := l.filterMap (·.frame)
abbrev Cx.fs (X : Cx) : List Addr := frs X.outer
def Vis (sc : Scope) (x : Str) : Prop := sc.names.lookup x = some .local ∨ sc.names.lookup x = some .cell ∨ sc.names.lookup x = some .free
def Loc (sc : Scope) (x : Str) : Prop := sc.names.lookup x = some .local ∨ sc.names.lookup x = some .cell
def Look (env : Env) (h : Heap) (m : Str → Option Value) (x : Str) (u : Value) : Prop :=
  (env.kindOf x = some .local ∧ m x = some u) ∨ ((env.kindOf x = some .cell ∨ env.kindOf x = some .free) ∧ ∃ c, env.cells.lookup x = some c ∧ h.IsCell c (some u))
structure Cx.Ok (X : Cx) : Prop where
  mod : Mod X.K X.mg X.base
  kind : X.env.scope.kind = .function
  glob : X.env.globals = mainGlobals
  blt : X.env.builtins = builtinsNs
  above : X.s₀.heap.objs.size ≤ X.env.locals
  inj : ∀ x y c, X.env.cells.lookup x = some c → X.env.cells.lookup y = some c → x = y
  has : ∀ x, (X.env.kindOf x = some .cell ∨ X.env.kindOf x = some .free) → ∃ c, X.env.cells.lookup x = some c
  cab : ∀ x c, X.fn x = true → X.env.cells.lookup x = some c → X.s₀.heap.objs.size ≤ c
  hd : X.calm = true → X.A.handled = none
  frames : X.A.frames = some X.stack
  stk : X.stack = X.outer ∨ (X.stack = X.env :: X.outer ∧ X.env.frame = some X.env.locals)
  exf : ∀ b ∈ X.ex, b ≠ X.env.locals ∧ ∀ x c, X.env.cells.lookup x = some c → c ≠ b
  bs : ∀ b o, X.base.get? b = some o → X.s₀.heap.get? b = some o ∧ X.H₀ b = none
  bsz : X.base.objs.size ≤ X.s₀.heap.objs.size
  noex : ∀ b o, X.base.get? b = some o → b ∉ X.ex
  exfs : ∀ b ∈ X.ex, b ∉ X.fs
  funs : X.s₀.heap.FunFrames X.base X.outer
  frf : ∀ b ∈ X.fs, X.H₀ b = none
  seer : X.base.NoSeer
  tree : (model X.prog X.w).prog.given.tree = none
  plr : ∀ s : Shared, (∀ b o, X.base.get? b = some o → s.heap.get? b = some o) → PySem.PylongRoom (model X.prog X.w) X.A s
structure Inv (X : Cx) (pins : List (Addr × Obj)) (σ : List (Option V)) (H : Hp) (s : Shared) : Prop where
  ok : X.Ok
  os : s.os = X.s₀.os
  bare : AllBare s.gens
  base : Un X.fs X.ex X.H₀ H X.s₀.heap s.heap
  loc : ∃ m, s.heap.Ns X.env.locals m ∧ ∀ (i : Nat) (x : Str) (v : V), X.N[i]? = some x → σ[i]? = some (some v) → Vis X.env.scope x → ∃ u, RelV v u ∧ Look X.env s.heap m x u
  cell : ∀ x c, X.env.cells.lookup x = some c → ∃ v, s.heap.IsCell c v
  free : H X.env.locals = none
  freeC : ∀ x c, X.env.cells.lookup x = some c → H c = none
  pin : ∀ p ∈ X.pn ++ pins, s.heap.get? p.1 = some p.2 ∧ H p.1 = none ∧ p.1 ≠ X.env.locals ∧ p.1 ∉ X.fs ∧ ∀ v, p.2.data ≠ .cell v
  hok : HOk X.prog X.w H s.heap
  len : σ.length = X.N.length
section
variable {X : Cx} {pins : List (Addr × Obj)} {σ : List (Option V)} {H H' : Hp} {s : Shared} {h' : Heap}
theorem Cx.Ok.nofr (ok : X.Ok) {b : Addr} {o : Obj} (e : X.base.get? b = some o) : b ∉ X.fs := fun hb => by
  have := (ok.funs.mem hb).1
  rw [e] at this; cases this
theorem Inv.bs (I : Inv X pins σ H s) : ∀ b o, X.base.get? b = some o → s.heap.get? b = some o ∧ H b = none := fun b o e =>
  ⟨I.base.keep b o (I.ok.bs b o e).1 (I.ok.bs b o e).2 (I.ok.nofr e) (I.ok.noex b o e), I.base.free b o (I.ok.bs b o e).1 (I.ok.bs b o e).2 (I.ok.noex b o e)⟩
theorem Inv.bk (I : Inv X pins σ H s) : ∀ b o, X.base.get? b = some o → s.heap.get? b = some o := fun b o e => (I.bs b o e).1
theorem Inv.mod (I : Inv X pins σ H s) : Mod X.K X.mg X.base := I.ok.mod
theorem Inv.kIn (I : Inv X pins σ H s) : X.K.In s.heap := I.ok.mod.kin.keeps I.bk
theorem Inv.nolimit (I : Inv X pins σ H s) : s.heap.NoLimit := I.ok.mod.nolimit.keeps I.bk
theorem Inv.lt (I : Inv X pins σ H s) : X.env.locals < s.heap.objs.size := let ⟨_, hn, _⟩ := I.loc; hn.lt
theorem Inv.sz (I : Inv X pins σ H s) : X.s₀.heap.objs.size ≤ s.heap.objs.size := Nat.le_trans I.ok.above (Nat.le_of_lt I.lt)
theorem Inv.nofs (I : Inv X pins σ H s) {a : Addr} (h : s.heap.objs.size ≤ a) : a ∉ X.fs := fun hb => by
  obtain ⟨_, o, ho, _⟩ := I.ok.funs.mem hb
  exact absurd (Nat.lt_of_lt_of_le (Heap.lt_size ho) (Nat.le_trans I.sz h)) (Nat.lt_irrefl _)
theorem Inv.cne (I : Inv X pins σ H s) : ∀ x c, X.env.cells.lookup x = some c → c ≠ X.env.locals := fun x c e z => by
  obtain ⟨v, o, ho, hd⟩ := I.cell x c e
  obtain ⟨m, ⟨o', es, ep, ho', hd', _⟩, _⟩ := I.loc
  rw [z, ho'] at ho; cases ho; rw [hd'] at hd; cases hd
theorem Inv.funs (I : Inv X pins σ H s) : s.heap.FunFrames X.base X.outer := by
  have all : ∀ (l : List Env), (∀ b ∈ frs l, b ∈ X.fs) → X.s₀.heap.FunFrames X.base l → s.heap.FunFrames X.base l := by
    intro l
    induction l with
    | nil => intro _ _; trivial
    | cons env r ih =>
      intro hs hl
      obtain ⟨hk, ⟨L, o, hf, hn, ho, hd⟩, hr⟩ := hl
      have hL : L ∈ X.fs := hs L (by unfold frs; rw [List.filterMap_cons, hf]; exact List.mem_cons_self)
      obtain ⟨sl, e⟩ := I.base.slot L o ho (I.ok.frf L hL) hL fun z => I.ok.exfs L z hL
      exact ⟨hk, ⟨L, _, hf, hn, e, hd⟩, ih (fun b hb => hs b (by unfold frs; rw [List.filterMap_cons, hf]; exact List.mem_cons_of_mem _ hb)) hr⟩
  exact all X.outer (fun _ hb => hb) I.ok.funs
theorem Inv.stack (I : Inv X pins σ H s) : s.heap.FunFrames X.base X.stack := by
  rcases I.ok.stk with e | ⟨e, hf⟩
  · rw [e]; exact I.funs
  · rw [e]
    obtain ⟨m, hn, _⟩ := I.loc
    refine .cons (by rw [I.ok.kind]; decide) hf hn ?_ I.funs
    exact Heap.get?_none_of_le (Nat.le_trans I.ok.bsz I.ok.above)
theorem Inv.stkSub (I : Inv X pins σ H s) : ∀ b ∈ frs X.stack, b ∈ X.env.locals :: X.fs := fun b hb => by
  rcases I.ok.stk with e | ⟨e, hf⟩
  · rw [e] at hb; exact List.mem_cons_of_mem _ hb
  · rw [e] at hb
    unfold frs at hb
    rw [List.filterMap_cons, hf] at hb
    exact hb
theorem Inv.stkFree (I : Inv X pins σ H s) : ∀ b ∈ frs X.stack, H b = none := fun b hb => by
  rcases List.mem_cons.mp (I.stkSub b hb) with e | hb
  · rw [e]; exact I.free
  · obtain ⟨_, o, ho, _⟩ := I.ok.funs.mem hb
    exact I.base.free b o ho (I.ok.frf b hb) fun z => I.ok.exfs b z hb
theorem Inv.step {g' : Array GenState} {t' : Nat} {d' : Drawn} {ch : List Addr} (I : Inv X pins σ H s)
    (hch : ∀ b ∈ ch, (b ∈ X.ex ∨ X.s₀.heap.objs.size ≤ b) ∧ b ≠ X.env.locals ∧ (∀ x c, X.env.cells.lookup x = some c → c ≠ b) ∧ ∀ p ∈ X.pn ++ pins, p.1 ≠ b)
    (keep : ∀ b o, b ≠ X.env.locals → b ∉ X.fs → b ∉ ch → s.heap.get? b = some o → H b = none → h'.get? b = some o)
    (slot : ∀ b o, b ≠ X.env.locals → b ∈ X.fs → b ∉ ch → s.heap.get? b = some o → H b = none → ∃ sl, h'.get? b = some { o with slots := sl }) (free : ∀ b o, b ∉ ch → s.heap.get? b = some o → H b = none → H' b = none)
    (there : ∀ b o, b ∉ ch → s.heap.get? b = some o → ∃ o', h'.get? b = some o')
    (tups : ∀ b xs, H b = some (.tup xs) → H' b = some (.tup xs)) (frzs : ∀ b o u, H b = some (.frz o u) → H' b = some (.frz o u)) (tbls : ∀ b ps, H b = some (.tbl ps) → ∃ more, H' b = some (.tbl (ps ++ more)))
    (ns : ∀ m, s.heap.Ns X.env.locals m → h'.Ns X.env.locals m) (hok : HOk X.prog X.w H' h') (hg : AllBare g') :
    Inv X pins σ H' { s with heap := h', gens := g', drawn := d', toks := t' } := by
  have neL : ∀ b o, X.s₀.heap.get? b = some o → b ≠ X.env.locals := fun b o e => Nat.ne_of_lt (Nat.lt_of_lt_of_le (Heap.lt_size e) I.ok.above)
  have neC : ∀ b o, X.s₀.heap.get? b = some o → b ∉ X.ex → b ∉ ch := fun b o e hx hb => by
    rcases (hch b hb).1 with z | z
    · exact hx z
    · exact absurd (Nat.lt_of_lt_of_le (Heap.lt_size e) z) (Nat.lt_irrefl _)
  have cellK : ∀ x c, X.env.cells.lookup x = some c → ∀ v, s.heap.IsCell c v → h'.IsCell c v := fun x c e v ⟨o, ho, hd⟩ => by
    have nch : c ∉ ch := fun z => (hch c z).2.2.1 x c e rfl
    by_cases hc : c ∈ X.fs
    · obtain ⟨sl, q⟩ := slot c o (I.cne x c e) hc nch ho (I.freeC x c e)
      exact ⟨_, q, hd⟩
    · exact ⟨o, keep c o (I.cne x c e) hc nch ho (I.freeC x c e), hd⟩
  refine ⟨I.ok, I.os, hg, ⟨fun b o e n hb hx => ?_, fun b o e n hb hx => ?_, fun b o e n hx => ?_, fun b o e hx => ?_, fun b xs e => tups b xs (I.base.tups b xs e), fun b o xs e => frzs b o xs (I.base.frzs b o xs e), fun b ps e => ?_⟩, ?_, fun x c e => ?_, ?_, fun x c e => ?_, fun p hp => ?_, hok, I.len⟩
  · exact keep b o (neL b o e) hb (neC b o e hx) (I.base.keep b o e n hb hx) (I.base.free b o e n hx)
  · obtain ⟨sl, e1⟩ := I.base.slot b o e n hb hx
    obtain ⟨sl', e2⟩ := slot b _ (neL b o e) hb (neC b o e hx) e1 (I.base.free b o e n hx)
    exact ⟨sl', e2⟩
  · obtain ⟨o', e1⟩ := I.base.there b o e hx
    exact free b o' (neC b o e hx) e1 (I.base.free b o e n hx)
  · obtain ⟨o', e1⟩ := I.base.there b o e hx
    exact there b o' (neC b o e hx) e1
  · obtain ⟨m1, e1⟩ := I.base.tbls b ps e
    obtain ⟨m2, e2⟩ := tbls b _ e1
    exact ⟨m1 ++ m2, by rw [e2, Array.append_assoc]⟩
  · obtain ⟨m, hn, hl⟩ := I.loc
    refine ⟨m, ns m hn, fun i x v e1 e2 e3 => ?_⟩
    obtain ⟨u, r, l⟩ := hl i x v e1 e2 e3
    refine ⟨u, r, ?_⟩
    rcases l with l | ⟨k, c, e, z⟩
    · exact .inl l
    · exact .inr ⟨k, c, e, cellK x c e _ z⟩
  · obtain ⟨v, z⟩ := I.cell x c e
    exact ⟨v, cellK x c e v z⟩
  · obtain ⟨m, ⟨o, _, _, ho, _⟩, _⟩ := I.loc
    exact free _ o (fun z => (hch _ z).2.1 rfl) ho I.free
  · obtain ⟨v, o, ho, hd⟩ := I.cell x c e
    exact free c o (fun z => (hch c z).2.2.1 x c e rfl) ho (I.freeC x c e)
  · obtain ⟨e, n, ne, nf, d⟩ := I.pin p hp
    have nch : p.1 ∉ ch := fun z => (hch p.1 z).2.2.2 p hp rfl
    exact ⟨keep p.1 p.2 ne nf nch e n, free p.1 p.2 nch e n, ne, nf, d⟩
theorem Inv.un {t' : Nat} (I : Inv X pins σ H s) (u : Un X.fs [] H H' s.heap h') (hok : HOk X.prog X.w H' h') : Inv X pins σ H' { s with heap := h', toks := t' } := by
  obtain ⟨m, ⟨o, es, ep, ho, r⟩, _⟩ := id I.loc
  obtain ⟨sl, hL⟩ := u.any ho I.free (by simp)
  exact I.step (g' := s.gens) (d' := s.drawn) (ch := []) (fun _ z => nomatch z) (fun b o _ hb _ e n => u.keep b o e n hb (by simp)) (fun b o _ hb _ e n => u.slot b o e n hb (by simp)) (fun b o _ e n => u.free b o e n (by simp)) (fun b o _ e => u.there b o e (by simp)) u.tups u.frzs u.tbls (fun m' hm => by
    obtain ⟨o', es', ep', ho', r'⟩ := hm
    rw [ho] at ho'; cases ho'
    exact ⟨_, es', ep', hL, r'⟩) hok I.bare
theorem Inv.call {g' : Array GenState} {t' : Nat} {d' : Drawn} {ch : List Addr} (I : Inv X pins σ H s) (u : Un (frs X.stack) ch H H' s.heap h') (hok : HOk X.prog X.w H' h') (hg : AllBare g')
    (hch : ∀ b ∈ ch, (b ∈ X.ex ∨ X.s₀.heap.objs.size ≤ b) ∧ b ≠ X.env.locals ∧ (∀ x c, X.env.cells.lookup x = some c → c ≠ b) ∧ ∀ p ∈ X.pn ++ pins, p.1 ≠ b) :
    Inv X pins σ H' { s with heap := h', gens := g', drawn := d', toks := t' } := by
  obtain ⟨m, ⟨o, es, ep, ho, r⟩, _⟩ := id I.loc
  obtain ⟨sl, hL⟩ := u.any ho I.free fun z => (hch _ z).2.1 rfl
  exact I.step (ch := ch) hch (fun b o hL hb hc e n => u.keep b o e n (fun z => (List.mem_cons.mp (I.stkSub b z)).elim hL hb) hc) (fun b o _ _ hc e n => u.any e n hc) (fun b o hc e n => u.free b o e n hc) (fun b o hc e => u.there b o e hc) u.tups u.frzs u.tbls (fun m' hm => by
    obtain ⟨o', es', ep', ho', r'⟩ := hm
    rw [ho] at ho'; cases ho'
    exact ⟨_, es', ep', hL, r'⟩) hok hg
theorem Inv.turned {t' : Nat} {it : Addr} (I : Inv X pins σ H s) (k : ∀ b o, b ≠ it → s.heap.get? b = some o → h'.get? b = some o) (hn : H it = none) (hL : it ≠ X.env.locals)
    (h1 : it ∈ X.ex ∨ X.s₀.heap.objs.size ≤ it) (h2 : ∀ x c, X.env.cells.lookup x = some c → c ≠ it) (h3 : ∀ p ∈ X.pn ++ pins, p.1 ≠ it) : Inv X pins σ H { s with heap := h', toks := t' } := by
  have nit : ∀ b u, H b = some u → b ≠ it := fun b u e z => by rw [z, hn] at e; cases e
  refine I.step (g' := s.gens) (d' := s.drawn) (ch := [it]) (fun b hb => ?_) (fun b o _ _ hc e _ => k b o (fun z => hc (by simp [z])) e) (fun b o _ _ hc e _ => ⟨o.slots, k b o (fun z => hc (by simp [z])) e⟩) (fun _ _ _ _ n => n)
    (fun b o hc e => ⟨o, k b o (fun z => hc (by simp [z])) e⟩) (fun _ _ e => e) (fun _ _ _ e => e) (fun b ps e => ⟨#[], by rw [e]; simp⟩) (fun m hm => ?_) (fun b u e => ?_) I.bare
  · have e : b = it := by simpa using hb
    subst e
    exact ⟨h1, hL, h2, h3⟩
  · obtain ⟨o, es, ep, ho, r⟩ := hm
    exact ⟨o, es, ep, k _ o (Ne.symm hL) ho, r⟩
  · refine (I.hok b u e).stay (fun c v hc q => k c v ?_ q) (fun _ q => q) fun _ _ q => q
    rcases hc with z | z
    · rw [z]; exact nit b u e
    · exact nit c _ z
theorem Inv.tok (I : Inv X pins σ H s) (t : Nat) : Inv X pins σ H { s with toks := t } := I.un (h' := s.heap) (t' := t) Un.refl I.hok
theorem Inv.kept {t' : Nat} (I : Inv X pins σ H s) (k : ∀ b u, s.heap.get? b = some u → h'.get? b = some u) : Inv X pins σ H { s with heap := h', toks := t' } := I.un (Un.kept k) (I.hok.kept k)
theorem Inv.laid {a : Addr} {o : HO} {t' : Nat} (I : Inv X pins σ H s) (k : ∀ b u, s.heap.get? b = some u → h'.get? b = some u) (hp : s.heap.objs.size ≤ a) (new : ObjOk X.prog X.w (upd H a o) h' a o) :
    Inv X pins σ (upd H a o) { s with heap := h', toks := t' } := I.un (Un.laid k hp (I.hok.fresh hp)) (I.hok.laid k hp new)
theorem Inv.write {x e : Addr} {o : HO} {t' : Nat} (I : Inv X pins σ H s) (mu : Mut (H x)) (he : e = x ∨ H e = some (.own x)) (k : ∀ b u, b ≠ e → s.heap.get? b = some u → h'.get? b = some u) (heo : ∃ u, h'.get? e = some u)
    (new : ObjOk X.prog X.w (upd H x o) h' x o) : Inv X pins σ (upd H x o) { s with heap := h', toks := t' } := I.un (Un.write mu he k heo) (I.hok.write mu he k heo new)
theorem Inv.pins_of {pins' : List (Addr × Obj)} (I : Inv X pins σ H s) (h : ∀ p ∈ pins', s.heap.get? p.1 = some p.2 ∧ H p.1 = none ∧ p.1 ≠ X.env.locals ∧ p.1 ∉ X.fs ∧ ∀ v, p.2.data ≠ .cell v) : Inv X pins' σ H s :=
  ⟨I.ok, I.os, I.bare, I.base, I.loc, I.cell, I.free, I.freeC, fun p hp => (List.mem_append.mp hp).elim (fun z => I.pin p (List.mem_append_left _ z)) (h p), I.hok, I.len⟩
theorem nodup_ix {N : List Str} (hN : N.Nodup) {i j : Nat} {x : Str} (a : N[i]? = some x) (b : N[j]? = some x) : i = j := by
  obtain ⟨h1, e1⟩ := List.getElem?_eq_some_iff.mp a
  obtain ⟨h2, e2⟩ := List.getElem?_eq_some_iff.mp b
  exact (List.getElem_inj hN).mp (e1.trans e2.symm)
theorem store_ok2 {M : Model} {A : Around} {E : Value → Shared → Prop} {i : Nat} {x : Str} {v : V} {u : Value} {Q : Unit → Shared → Prop} (I : Inv X pins σ H s) (hN : X.N.Nodup) (hi : X.N[i]? = some x) (hx : Loc X.env.scope x) (r : RelV v u)
    (h : ∀ s', Inv X pins (σ.set i (some v)) H s' → (∃ a, Heap.SameBut a s.heap s'.heap ∧ (a = X.env.locals ∨ X.env.cells.lookup x = some a)) → Q () s') (hf : X.fn x = true ∨ X.env.scope.names.lookup x = some .local := by first | exact .inl rfl | exact .inr rfl | assumption) : wpAny M A (storeName X.env x u) Q E s := by
  obtain ⟨m, hn, hl⟩ := id I.loc
  have hcls : (X.env.scope.kind == .class || (X.env.scope.kind == .module && X.env.locals != X.env.globals)) = false := by rw [I.ok.kind]; rfl
  have hiσ : i < σ.length := by rw [I.len]; exact (List.getElem?_eq_some_iff.mp hi).1
  have cne := I.cne
  have tracked : ∀ {a : Addr} {h' : Heap}, (∃ o, s.heap.get? a = some o ∧ H a = none) → Heap.SameBut a s.heap h' → HOk X.prog X.w H h' := fun {a h'} ha hs b ob e => by
    obtain ⟨_, _, hfree⟩ := ha
    refine (I.hok b ob e).stay (fun c w' hc q => (hs.2 c ?_).trans q) (fun _ q => q) fun _ _ q => q
    rintro rfl
    rcases hc with rfl | hc
    · rw [hfree] at e; cases e
    · rw [hfree] at hc; cases hc
  rcases hx with hk | hk
  · refine wpAny_storeName_local hk hn (fun h' hn' hs => ?_) hcls
    obtain ⟨oL, _, _, hoL, _⟩ := id hn
    refine h _ ⟨I.ok, I.os, I.bare, ⟨fun b o e n hb hx => ?_, fun b o e n hb hx => ?_, I.base.free, fun b o e hx => ?_, I.base.tups, I.base.frzs, I.base.tbls⟩, ⟨_, hn', fun j y v' e1 e2 e3 => ?_⟩, fun y c e => ?_, I.free, I.freeC, fun p hp => ?_, tracked ⟨oL, hoL, I.free⟩ hs, by simpa using I.len⟩ ⟨_, hs, .inl rfl⟩
    · exact (hs.2 b (Nat.ne_of_lt (Nat.lt_of_lt_of_le (Heap.lt_size e) I.ok.above))).trans (I.base.keep b o e n hb hx)
    · obtain ⟨sl, e1⟩ := I.base.slot b o e n hb hx
      exact ⟨sl, (hs.2 b (Nat.ne_of_lt (Nat.lt_of_lt_of_le (Heap.lt_size e) I.ok.above))).trans e1⟩
    · obtain ⟨o', e1⟩ := I.base.there b o e hx
      exact ⟨o', (hs.2 b (Nat.ne_of_lt (Nat.lt_of_lt_of_le (Heap.lt_size e) I.ok.above))).trans e1⟩
    · by_cases hj : j = i
      · subst hj
        rw [hi] at e1; cases e1
        rw [List.getElem?_set_self hiσ] at e2
        cases e2
        exact ⟨u, r, .inl ⟨hk, by simp⟩⟩
      · rw [List.getElem?_set_ne (Ne.symm hj)] at e2
        obtain ⟨u', r', q⟩ := hl j y v' e1 e2 e3
        refine ⟨u', r', ?_⟩
        rcases q with ⟨k, e⟩ | ⟨k, c, e, z⟩
        · refine .inl ⟨k, ?_⟩
          have : y ≠ x := fun e => hj (nodup_ix hN e1 (e ▸ hi))
          simp [this, e]
        · exact .inr ⟨k, c, e, z.sameBut hs (cne y c e)⟩
    · obtain ⟨w', z⟩ := I.cell y c e
      exact ⟨w', z.sameBut hs (cne y c e)⟩
    · obtain ⟨e, n, ne, nf, d⟩ := I.pin p hp
      exact ⟨(hs.2 p.1 ne).trans e, n, ne, nf, d⟩
  · have hfn : X.fn x = true := by
      rcases hf with z | z
      · exact z
      · rw [z] at hk; cases hk
    obtain ⟨c, hc⟩ := I.ok.has x (.inl hk)
    obtain ⟨w', z⟩ := I.cell x c hc
    refine wpAny_storeName_cell I.ok.kind hk hc z (fun h' hc' hs => ?_)
    obtain ⟨oc, hoc, hocd⟩ := id z
    refine h { s with heap := h' } ⟨I.ok, I.os, I.bare, ⟨fun b o e n hb hx => ?_, fun b o e n hb hx => ?_, I.base.free, fun b o e hx => ?_, I.base.tups, I.base.frzs, I.base.tbls⟩, ⟨m, hn.sameBut hs (Ne.symm (cne x c hc)), fun j y v' e1 e2 e3 => ?_⟩, fun y c' e => ?_, I.free, I.freeC, fun p hp => ?_, tracked ⟨oc, hoc, I.freeC x c hc⟩ hs, by simpa using I.len⟩ ⟨c, hs, .inr hc⟩
    · exact (hs.2 b (Nat.ne_of_lt (Nat.lt_of_lt_of_le (Heap.lt_size e) (I.ok.cab x c hfn hc)))).trans (I.base.keep b o e n hb hx)
    · obtain ⟨sl, e1⟩ := I.base.slot b o e n hb hx
      exact ⟨sl, (hs.2 b (Nat.ne_of_lt (Nat.lt_of_lt_of_le (Heap.lt_size e) (I.ok.cab x c hfn hc)))).trans e1⟩
    · obtain ⟨o', e1⟩ := I.base.there b o e hx
      exact ⟨o', (hs.2 b (Nat.ne_of_lt (Nat.lt_of_lt_of_le (Heap.lt_size e) (I.ok.cab x c hfn hc)))).trans e1⟩
    · by_cases hj : j = i
      · subst hj
        rw [hi] at e1; cases e1
        rw [List.getElem?_set_self hiσ] at e2
        cases e2
        exact ⟨u, r, .inr ⟨.inl hk, c, hc, hc'⟩⟩
      · rw [List.getElem?_set_ne (Ne.symm hj)] at e2
        obtain ⟨u', r', q⟩ := hl j y v' e1 e2 e3
        refine ⟨u', r', ?_⟩
        rcases q with q | ⟨k, c', e, z'⟩
        · exact .inl q
        · refine .inr ⟨k, c', e, z'.sameBut hs ?_⟩
          rintro rfl
          exact hj (nodup_ix hN e1 (I.ok.inj _ _ _ e hc ▸ hi))
    · by_cases hcc : c' = c
      · subst hcc; exact ⟨_, hc'⟩
      · obtain ⟨w2, z2⟩ := I.cell y c' e
        exact ⟨w2, z2.sameBut hs hcc⟩
    · obtain ⟨e, n, ne, nf, d⟩ := I.pin p hp
      refine ⟨(hs.2 p.1 ?_).trans e, n, ne, nf, d⟩
      intro q
      rw [q, hoc] at e
      have q' : oc = p.2 := Option.some.inj e
      exact d w' (by rw [← q']; exact hocd)
theorem store_ok {M : Model} {A : Around} {E : Value → Shared → Prop} {i : Nat} {x : Str} {v : V} {u : Value} {Q : Unit → Shared → Prop} (I : Inv X pins σ H s) (hN : X.N.Nodup) (hi : X.N[i]? = some x) (hx : Loc X.env.scope x) (r : RelV v u)
    (h : ∀ s', Inv X pins (σ.set i (some v)) H s' → Q () s') (hf : X.fn x = true ∨ X.env.scope.names.lookup x = some .local := by first | exact .inl rfl | exact .inr rfl | assumption) : wpAny M A (storeName X.env x u) Q E s :=
  store_ok2 I hN hi hx r (fun s' I' _ => h s' I') hf
theorem Inv.call' {s' : Shared} {ch : List Addr} (I : Inv X pins σ H s) (ho : s'.os = s.os) (u : Un (frs X.stack) ch H H' s.heap s'.heap) (hok : HOk X.prog X.w H' s'.heap) (hg : AllBare s'.gens)
    (hch : ∀ b ∈ ch, (b ∈ X.ex ∨ X.s₀.heap.objs.size ≤ b) ∧ b ≠ X.env.locals ∧ (∀ x c, X.env.cells.lookup x = some c → c ≠ b) ∧ ∀ p ∈ X.pn ++ pins, p.1 ≠ b) : Inv X pins σ H' s' := by
  obtain ⟨h', g', d', t', o'⟩ := s'
  have e : o' = s.os := ho
  subst e
  exact I.call (g' := g') (t' := t') (d' := d') u hok hg hch
end
abbrev XK := Value → Option Addr → Hp → Prop
abbrev St := List (Option V)
abbrev VK := V → Hp → Prop
abbrev TE := St → Hp → VK → Prop
abbrev TT := St → Hp → (Bool → Hp → Prop) → Prop
abbrev TA := St → Hp → (List V → Hp → Prop) → Prop
structure Ends where
  nx : St → Hp → Prop
  rt : VK
  bk : St → Hp → Prop := fun _ _ => False
  ct : St → Hp → Prop := fun _ _ => False
abbrev TS := Ends → St → Hp → Prop
def EP (X : Cx) (pins : List (Addr × Obj)) (σ : St) (Q : VK) (u : Value) (s' : Shared) : Prop := ∃ v H', Inv X pins σ H' s' ∧ RelV v u ∧ Q v H'
def TP (X : Cx) (pins : List (Addr × Obj)) (σ : St) (Q : Bool → Hp → Prop) (b : Bool) (s' : Shared) : Prop := ∃ H', Inv X pins σ H' s' ∧ Q b H'
def AP (X : Cx) (pins : List (Addr × Obj)) (σ : St) (Q : List V → Hp → Prop) (us : List Value) (s' : Shared) : Prop := ∃ vs H', Inv X pins σ H' s' ∧ Vals vs us ∧ Q vs H'
def SP (X : Cx) (pins : List (Addr × Obj)) (D : Ends) (f : Flow) (s' : Shared) : Prop :=
  match f with
  | .next => ∃ σ' H', Inv X pins σ' H' s' ∧ D.nx σ' H'
  | .brk => ∃ σ' H', Inv X pins σ' H' s' ∧ D.bk σ' H'
  | .cont => ∃ σ' H', Inv X pins σ' H' s' ∧ D.ct σ' H'
  | .ret u => ∃ v σ' H', Inv X pins σ' H' s' ∧ RelV v u ∧ D.rt v H'
def PE (X : Cx) (e : Expr) (t : TE) : Prop :=
  ∀ (pins : List (Addr × Obj)) (s : Shared) (σ : St) (H : Hp) (Q : VK), Inv X pins σ H s → t σ H Q → wpAny (model X.prog X.w) X.A (eval e X.env) (EP X pins σ Q) X.xe s
def PT (X : Cx) (e : Expr) (t : TT) : Prop :=
  ∀ (pins : List (Addr × Obj)) (s : Shared) (σ : St) (H : Hp) (Q : Bool → Hp → Prop), Inv X pins σ H s → t σ H Q → wpAny (model X.prog X.w) X.A (isTrue e X.env (eval e X.env)) (TP X pins σ Q) X.xe s
def PW (X : Cx) (e : Expr) (t : TT) : Prop :=
  ∀ (whole : Sem Value) (pins : List (Addr × Obj)) (s : Shared) (σ : St) (H : Hp) (Q : Bool → Hp → Prop), Inv X pins σ H s → t σ H Q → wpAny (model X.prog X.w) X.A (isTrue e X.env whole) (TP X pins σ Q) X.xe s
theorem PW.pt {X : Cx} {e : Expr} {t : TT} (h : PW X e t) : PT X e t := h _
def PA (X : Cx) (es : List Expr) (t : TA) : Prop :=
  ∀ (pos : Pos) (pins : List (Addr × Obj)) (s : Shared) (σ : St) (H : Hp) (Q : List V → Hp → Prop), Inv X pins σ H s → t σ H Q → wpAny (model X.prog X.w) X.A (spliced (backTo pos (starEach es X.env))) (AP X pins σ Q) X.xe s
def PS (X : Cx) (st : Stmt) (t : TS) : Prop :=
  ∀ (pins : List (Addr × Obj)) (s : Shared) (σ : St) (H : Hp) (D : Ends), Inv X pins σ H s → t D σ H → wpAny (model X.prog X.w) X.A (exec st X.env) (SP X pins D) X.xe s
def PSs (X : Cx) (st : List Stmt) (t : TS) : Prop :=
  ∀ (pins : List (Addr × Obj)) (s : Shared) (σ : St) (H : Hp) (D : Ends), Inv X pins σ H s → t D σ H → wpAny (model X.prog X.w) X.A (execs st X.env) (SP X pins D) X.xe s
theorem thn {α : Type} {t : Sem α} {Q Q' : α → Shared → Prop} {M : Model} {A : Around} {E : Value → Shared → Prop} {s : Shared} (h : wpAny M A t Q E s) (hQ : ∀ a s, Q a s → Q' a s) : wpAny M A t Q' E s := wpAny_mono h hQ fun _ _ x => x
end L2
namespace L2
open PySem PySem.Spec PyProof.Rows
section
variable {X : Cx}
def tVar (i : Nat) : TE := fun σ H Q => ∃ v, σ[i]? = some (some v) ∧ Q v H
def tC (v : V) : TE := fun _ H Q => Q v H
theorem pe_var {i : Nat} {x : Str} {pos : Pos} (hN : X.N[i]? = some x) (hv : Vis X.env.scope x) (hd : (x == ("__debug__" : Str)) = false := by decide) (hcd : (x == ("__classdict__" : Str)) = false := by decide) : PE X (.Name x pos) (tVar i) := by
  intro pins s σ H Q I h
  obtain ⟨v, e, h⟩ := h
  obtain ⟨m, hn, hl⟩ := I.loc
  obtain ⟨u, r, l⟩ := hl i x v hN e hv
  have fin : EP X pins σ Q u s := ⟨v, H, I, r, h⟩
  rcases l with ⟨hk, hm⟩ | ⟨hk, c, hc, hcell⟩
  · exact wpAny_Name (wpAny_loadName_local I.ok.kind hk hn hm fin) hd
  · rcases hk with hk | hk
    · exact wpAny_Name (wpAny_loadName_cell I.ok.kind hk hc hcell fin) hd
    · exact wpAny_Name (wpAny_loadName_free I.ok.kind hk hc hcell fin hcd) hd
theorem pe_int {i j pos} : PE X (.Constant (.int i) j pos) (tC (.int i)) := fun _ _ _ H _ I h => wpAny_Constant_int ⟨.int i, H, I.tok _, ⟨_, rfl⟩, h⟩
theorem pe_bl {b j pos} : PE X (.Constant (.bool b) j pos) (tC (.bl b)) := fun _ _ _ H _ I h => Constant_bool ⟨.bl b, H, I, rfl, h⟩
theorem pe_non {j pos} : PE X (.Constant .none j pos) (tC .non) := fun _ _ _ H _ I h => Constant_none ⟨.non, H, I, rfl, h⟩
def Gl (X : Cx) (x : Str) : Prop := X.env.kindOf x = some .globalImplicit
theorem ld_glob {E : Value → Shared → Prop} {pins : List (Addr × Obj)} {s : Shared} {σ : St} {H : Hp} {x : Str} {u : Value} {pos : Pos} {Q : Value → Shared → Prop} (I : Inv X pins σ H s) (hg : Gl X x) (hm : X.mg x = some u) (h : Q u s)
    (hd : (x == ("__debug__" : Str)) = false := by decide) : wpAny (model X.prog X.w) X.A (eval (.Name x pos) X.env) Q E s :=
  Calls.Name_function_global I.ok.kind hg (Calls.loadGlobal_global (by rw [I.ok.glob]; exact I.mod.glob.keeps I.bk) hm h) hd
theorem ld_blt {E : Value → Shared → Prop} {pins : List (Addr × Obj)} {s : Shared} {σ : St} {H : Hp} {x : Str} {u : Value} {pos : Pos} {Q : Value → Shared → Prop} (I : Inv X pins σ H s) (hg : Gl X x) (hm : X.mg x = none) (hv : bootBuiltins x = some u) (h : Q u s)
    (hn : x ≠ "__name__" := by decide) (hd : (x == ("__debug__" : Str)) = false := by decide) : wpAny (model X.prog X.w) X.A (eval (.Name x pos) X.env) Q E s := by
  obtain ⟨mb, h1, h2⟩ := I.mod.blt
  exact Calls.Name_function_global I.ok.kind hg (Calls.loadGlobal_builtin (by rw [I.ok.glob]; exact I.mod.glob.keeps I.bk) hm (by rw [I.ok.blt]; exact h1.keeps I.bk) ((h2 x hn).trans hv) h) hd
theorem pe_bltn {x : Str} {v : V} {u : Value} {pos : Pos} (hg : Gl X x) (hm : X.mg x = none) (hv : bootBuiltins x = some u) (r : RelV v u) (hn : x ≠ "__name__" := by decide) (hd : (x == ("__debug__" : Str)) = false := by decide) : PE X (.Name x pos) (tC v) :=
  fun _ _ _ H _ I h => ld_blt I hg hm hv ⟨v, H, I, r, h⟩ hn hd
variable {a b : Expr} {ta tb : TE} {pos : Pos}
def tB (t : TE) : TT := fun σ H Q => t σ H fun x H1 => ∃ c, x = .bl c ∧ Q c H1
theorem pt_val {e : Expr} {t : TE} (h : PE X e t) (he : ∀ whole, isTrue e X.env whole = (do let v ← whole; standAt e.pos; holding [v] (truthy v)) := by intro _; rfl) : PT X e (tB t) := by
  intro pins s σ H Q I hw
  refine isTrue_plain (thn (h pins s σ H _ I hw) fun v s1 ⟨x, H1, I1, r1, q1⟩ => ?_) (he _)
  obtain ⟨d, rfl, q⟩ := q1
  cases r1
  exact wpAny_truthy_bool ⟨H1, I1, q⟩
variable {tA tB' : TT} {rest : List Expr}
def tAnd (t u : TT) : TT := fun σ H Q => t σ H fun c H1 => if c = true then u σ H1 Q else Q false H1
def tOr (t u : TT) : TT := fun σ H Q => t σ H fun c H1 => if c = true then Q true H1 else u σ H1 Q
def tNot (t : TT) : TT := fun σ H Q => t σ H fun c H1 => Q (!c) H1
theorem pw_and1 (ha : PT X a tA) : PW X (.BoolOp .And [a] pos) tA := by
  intro wh pins s σ H Q I h
  refine isTrue_and (thn (ha pins s σ H Q I h) fun c s1 e => ?_)
  cases c with
  | true => exact isTrue_and_nil e
  | false => exact e
theorem pw_or1 (ha : PT X a tA) : PW X (.BoolOp .Or [a] pos) tA := by
  intro wh pins s σ H Q I h
  refine isTrue_or (thn (ha pins s σ H Q I h) fun c s1 e => ?_)
  cases c with
  | false => exact isTrue_or_nil e
  | true => exact e
theorem pw_and (ha : PT X a tA) (hb : PW X (.BoolOp .And (b :: rest) pos) tB') : PW X (.BoolOp .And (a :: b :: rest) pos) (tAnd tA tB') := by
  intro wh pins s σ H Q I h
  refine isTrue_and (thn (ha pins s σ H _ I h) fun c s1 ⟨H1, I1, q1⟩ => ?_)
  cases c with
  | true => exact hb wh pins s1 σ H1 Q I1 q1
  | false => exact ⟨H1, I1, q1⟩
theorem pw_or (ha : PT X a tA) (hb : PW X (.BoolOp .Or (b :: rest) pos) tB') : PW X (.BoolOp .Or (a :: b :: rest) pos) (tOr tA tB') := by
  intro wh pins s σ H Q I h
  refine isTrue_or (thn (ha pins s σ H _ I h) fun c s1 ⟨H1, I1, q1⟩ => ?_)
  cases c with
  | true => exact ⟨H1, I1, q1⟩
  | false => exact hb wh pins s1 σ H1 Q I1 q1
theorem pt_not (ha : PT X a tA) : PT X (.UnaryOp .Not a pos) (tNot tA) := by
  intro pins s σ H Q I h
  exact isTrue_not (ha pins s σ H (fun c H1 => Q (!c) H1) I h)
def tAndV (ta tb : TE) : TE := fun σ H Q => ta σ H fun x H1 => ∃ c, x = .bl c ∧ if c = true then tb σ H1 Q else Q (.bl false) H1
def tOrV (ta tb : TE) : TE := fun σ H Q => ta σ H fun x H1 => ∃ c, x = .bl c ∧ if c = true then Q (.bl true) H1 else tb σ H1 Q
def tNotV (ta : TE) : TE := fun σ H Q => ta σ H fun x H1 => ∃ c, x = .bl c ∧ Q (.bl (!c)) H1
theorem pe_one {op} {t : TE} (h : PE X a t) : PE X (.BoolOp op [a] pos) t := fun pins s σ H Q I hw => BoolOp_one (h pins s σ H Q I hw)
theorem pe_and (ha : PE X a ta) (hb : PE X (.BoolOp .And (b :: rest) pos) tb) : PE X (.BoolOp .And (a :: b :: rest) pos) (tAndV ta tb) := by
  intro pins s σ H Q I h
  refine BoolOp_and (thn (ha pins s σ H _ I h) fun v s1 ⟨x, H1, I1, r1, q1⟩ => ?_)
  obtain ⟨c, rfl, q1⟩ := q1
  cases r1
  refine wpAny_truthy_bool ?_
  cases c with
  | true => exact hb pins s1 σ H1 Q I1 q1
  | false => exact ⟨.bl false, H1, I1, rfl, q1⟩
theorem pe_or (ha : PE X a ta) (hb : PE X (.BoolOp .Or (b :: rest) pos) tb) : PE X (.BoolOp .Or (a :: b :: rest) pos) (tOrV ta tb) := by
  intro pins s σ H Q I h
  refine BoolOp_or (thn (ha pins s σ H _ I h) fun v s1 ⟨x, H1, I1, r1, q1⟩ => ?_)
  obtain ⟨c, rfl, q1⟩ := q1
  cases r1
  refine wpAny_truthy_bool ?_
  cases c with
  | false => exact hb pins s1 σ H1 Q I1 q1
  | true => exact ⟨.bl true, H1, I1, rfl, q1⟩
theorem pe_not (ha : PE X a ta) : PE X (.UnaryOp .Not a pos) (tNotV ta) := by
  intro pins s σ H Q I h
  refine UnaryOp_ (thn (ha pins s σ H _ I h) fun v s1 ⟨x, H1, I1, r1, q1⟩ => ?_)
  obtain ⟨c, rfl, q1⟩ := q1
  cases r1
  exact not_of (wpAny_truthy_bool ⟨.bl (!c), H1, I1, rfl, q1⟩)
def tIf (t : TT) (ta tb : TE) : TE := fun σ H Q => t σ H fun c H1 => if c = true then ta σ H1 Q else tb σ H1 Q
theorem pe_ifExp {c : Expr} (hc : PT X c tA) (ha : PE X a ta) (hb : PE X b tb) : PE X (.IfExp c a b pos) (tIf tA ta tb) := by
  intro pins s σ H Q I h
  refine wpAny_IfExp (thn (hc pins s σ H _ I h) fun d s1 ⟨H1, I1, q1⟩ => ?_)
  cases d with
  | true => exact ha pins s1 σ H1 Q I1 q1
  | false => exact hb pins s1 σ H1 Q I1 q1
end
end L2
namespace L2
open PySem PySem.Spec PyProof.Rows
def SqL (K : PySem.W.Frag) (H : Hp) (a : Addr) (xs : List V) : Prop :=
  Rd H a (.lst xs) ∨
    ∃ (o : Obj) (its : Array Value) (n : Nat), K.lookup a = some o ∧ o.cls = .type "list" ∧ o.dict = none ∧ o.data = .seq its n ∧ its.size ≤ sizeLine ∧ Vals xs its.toList
def SqT (K : PySem.W.Frag) (H : Hp) (a : Addr) (xs : List V) : Prop :=
  Rd H a (.tup xs) ∨
    ∃ (o : Obj) (its : Array Value) (n : Nat), K.lookup a = some o ∧ o.cls = .type "tuple" ∧ o.data = .seq its n ∧ its.size ≤ sizeLine ∧ Vals xs its.toList
def absV : Value → Option V
  | .none => some .non
  | .bool b => some (.bl b)
  | .int i _ => some (.int i)
  | .str x _ => some (.str x)
  | .bytes b _ => some (.byt b)
  | .float b _ => some (.flt b)
  | .ref a => some (.ref a)
  | .type n => some (.ty n)
  | _ => none
theorem RelV.abs {x : V} {u : Value} (r : RelV x u) : absV u = some x := by
  cases x with
  | non => cases r; rfl
  | bl _ => cases r; rfl
  | int _ => obtain ⟨t, rfl⟩ := r; rfl
  | str _ => obtain ⟨t, rfl⟩ := r; rfl
  | byt _ => obtain ⟨t, rfl⟩ := r; rfl
  | flt _ => obtain ⟨t, rfl⟩ := r; rfl
  | ref _ => cases r; rfl
  | ty _ => cases r; rfl
theorem RelV.inj {x y : V} {u : Value} (r : RelV x u) (q : RelV y u) : x = y := Option.some.inj (r.abs.symm.trans q.abs)
theorem Vals.inj : ∀ {xs ys : List V} {us : List Value}, Vals xs us → Vals ys us → xs = ys
  | _, _, _, .nil, .nil => rfl
  | _, _, _, .cons r t, .cons r' t' => by rw [r.inj r', Vals.inj t t']
section
variable {X : Cx} {pins : List (Addr × Obj)} {σ : St} {H : Hp} {s : Shared} {a : Addr} {xs ys : List V}
theorem SqL.of {K : PySem.W.Frag} (h : H a = some (.lst xs)) : SqL K H a xs := .inl (.inl h)
theorem SqT.of {K : PySem.W.Frag} (h : H a = some (.tup xs)) : SqT K H a xs := .inl (.inl h)
theorem Inv.list (I : Inv X pins σ H s) (h : SqL X.K H a xs) : ∃ its : List Value, Vals xs its ∧ PlainL s.heap a its.toArray ∧ xs.length ≤ sizeLine := by
  rcases h with h | ⟨o, its, n, hk, hc, hd, hs, hz, r⟩
  · obtain ⟨z, its, n, r, e⟩ := h.ok I.hok
    exact ⟨its, r, ⟨_, n, e, rfl, rfl, rfl⟩, z⟩
  · refine ⟨its.toList, r, ⟨o, n, I.kIn a o hk, hc, hd, by simpa using hs⟩, ?_⟩
    have e := r.length
    simp only [Array.length_toList] at e
    omega
theorem Inv.tuple (I : Inv X pins σ H s) (h : SqT X.K H a xs) : ∃ its : List Value, Vals xs its ∧ IsTup s.heap a its.toArray ∧ xs.length ≤ sizeLine := by
  rcases h with h | ⟨o, its, n, hk, hc, hs, hz, r⟩
  · obtain ⟨z, its, r, p⟩ := h.ok I.hok
    exact ⟨its, r, p, z⟩
  · refine ⟨its.toList, r, ⟨o, I.kIn a o hk, hc, n, by simpa using hs⟩, ?_⟩
    have e := r.length
    simp only [Array.length_toList] at e
    omega
theorem Inv.list_inj (I : Inv X pins σ H s) (h : SqL X.K H a xs) (h' : SqL X.K H a ys) : xs = ys := by
  obtain ⟨its, r, ⟨o, n, e, _, _, d⟩, _⟩ := I.list h
  obtain ⟨its', r', ⟨o', n', e', _, _, d'⟩, _⟩ := I.list h'
  rw [e] at e'; cases e'
  rw [d] at d'
  injection d' with d1 _
  have : its = its' := by simpa using congrArg Array.toList d1
  subst this
  exact r.inj r'
theorem Inv.tuple_inj (I : Inv X pins σ H s) (h : SqT X.K H a xs) (h' : SqT X.K H a ys) : xs = ys := by
  obtain ⟨its, r, ⟨o, e, _, n, d⟩, _⟩ := I.tuple h
  obtain ⟨its', r', ⟨o', e', _, n', d'⟩, _⟩ := I.tuple h'
  rw [e] at e'; cases e'
  rw [d] at d'
  injection d' with d1 _
  have : its = its' := by simpa using congrArg Array.toList d1
  subst this
  exact r.inj r'
end
abbrev Cx.wish (X : Cx) (E : Value → Shared → Prop) : Cx := { X with xe := E }
abbrev Cx.nox (X : Cx) : Cx := X.wish fun _ _ => False
theorem Cx.Ok.wish {X : Cx} (ok : X.Ok) (E : Value → Shared → Prop) : (X.wish E).Ok :=
  ⟨ok.mod, ok.kind, ok.glob, ok.blt, ok.above, ok.inj, ok.has, ok.cab, ok.hd, ok.frames, ok.stk, ok.exf, ok.bs, ok.bsz, ok.noex, ok.exfs, ok.funs, ok.frf, ok.seer, ok.tree, ok.plr⟩
theorem Cx.Ok.unwish {X : Cx} {E : Value → Shared → Prop} (ok : (X.wish E).Ok) : X.Ok :=
  ⟨ok.mod, ok.kind, ok.glob, ok.blt, ok.above, ok.inj, ok.has, ok.cab, ok.hd, ok.frames, ok.stk, ok.exf, ok.bs, ok.bsz, ok.noex, ok.exfs, ok.funs, ok.frf, ok.seer, ok.tree, ok.plr⟩
section
variable {X : Cx} {pins : List (Addr × Obj)} {σ : St} {H : Hp} {s : Shared} {E : Value → Shared → Prop}
theorem Inv.wish (I : Inv X pins σ H s) (E : Value → Shared → Prop) : Inv (X.wish E) pins σ H s := ⟨I.ok.wish E, I.os, I.bare, I.base, I.loc, I.cell, I.free, I.freeC, I.pin, I.hok, I.len⟩
theorem Inv.unwish (I : Inv (X.wish E) pins σ H s) : Inv X pins σ H s := ⟨I.ok.unwish, I.os, I.bare, I.base, I.loc, I.cell, I.free, I.freeC, I.pin, I.hok, I.len⟩
theorem SP.unwish {D : Ends} {f : Flow} {s' : Shared} (h : SP (X.wish E) pins D f s') : SP X pins D f s' := by
  cases f with
  | next => obtain ⟨σ', H', I, q⟩ := h; exact ⟨σ', H', I.unwish, q⟩
  | brk => obtain ⟨σ', H', I, q⟩ := h; exact ⟨σ', H', I.unwish, q⟩
  | cont => obtain ⟨σ', H', I, q⟩ := h; exact ⟨σ', H', I.unwish, q⟩
  | ret u => obtain ⟨v, σ', H', I, r, q⟩ := h; exact ⟨v, σ', H', I.unwish, r, q⟩
theorem PE.nox {e : Expr} {t : TE} (h : PE X.nox e t) : PE X e t := fun pins s σ H Q I hw =>
  wpAny_mono (h pins s σ H Q (I.wish _) hw) (fun _ _ ⟨v, H', I', r, q⟩ => ⟨v, H', I'.unwish, r, q⟩) fun _ _ z => False.elim z
theorem PT.nox {e : Expr} {t : TT} (h : PT X.nox e t) : PT X e t := fun pins s σ H Q I hw =>
  wpAny_mono (h pins s σ H Q (I.wish _) hw) (fun _ _ ⟨H', I', q⟩ => ⟨H', I'.unwish, q⟩) fun _ _ z => False.elim z
theorem PSs.nox {st : List Stmt} {t : TS} (h : PSs X.nox st t) : PSs X st t := fun pins s σ H D I hw =>
  wpAny_mono (h pins s σ H D (I.wish _) hw) (fun _ _ q => q.unwish) fun _ _ z => False.elim z
end
section
variable {X : Cx} {st : Stmt} {rest : List Stmt} {t u : TS} {e : Expr} {te : TE} {pos : Pos}
def tNext : TS := fun D σ H => D.nx σ H
def tSeq (t u : TS) : TS := fun D σ H => t { D with nx := u D } σ H
theorem pss_nil : PSs X [] tNext := fun _ _ σ H _ I h => wpAny_execs_nil ⟨σ, H, I, h⟩
theorem pss_cons (h1 : PS X st t) (h2 : PSs X rest u) : PSs X (st :: rest) (tSeq t u) := by
  intro pins s σ H D I h
  refine wpAny_execs_cons (thn (h1 pins s σ H { D with nx := u D } I h) fun f s1 q => ?_)
  cases f with
  | next =>
    obtain ⟨σ', H', I', q⟩ := q
    exact h2 pins s1 σ' H' D I' q
  | ret v => exact q
  | brk => exact q
  | cont => exact q
theorem pss_one (h1 : PS X st t) : PSs X [st] t := by
  intro pins s σ H D I h
  refine wpAny_execs_cons (thn (h1 pins s σ H D I h) fun f s1 q => ?_)
  cases f with
  | next => exact wpAny_execs_nil q
  | ret v => exact q
  | brk => exact q
  | cont => exact q
theorem Inv.quiet {pins : List (Addr × Obj)} {σ : St} {H : Hp} {s : Shared} (I : Inv X pins σ H s) : interactive X.env = false := by simp [interactive, I.ok.kind]
def tDrop (te : TE) : TS := fun D σ H => te σ H fun _ H1 => D.nx σ H1
theorem ps_expr (he : PE X e te) (hs : swapsWith e none pos.line X.env = pure false := by rfl) : PS X (.Expr e pos) (tDrop te) := by
  intro pins s σ H D I h
  exact wpAny_Expr_any (thn (he pins s σ H _ I h) fun v s1 ⟨x, H1, I1, r1, q1⟩ => ⟨σ, H1, I1, q1⟩) I.quiet hs
def tRet (te : TE) : TS := fun D σ H => te σ H D.rt
theorem ps_ret (he : PE X e te) : PS X (.Return (some e) pos) (tRet te) := by
  intro pins s σ H D I h
  exact wpAny_Return_some (thn (he pins s σ H _ I h) fun v s1 ⟨x, H1, I1, r1, q1⟩ => ⟨x, σ, H1, I1, r1, q1⟩)
def tIfS (c : TT) (t u : TS) : TS := fun D σ H => c σ H fun b H1 => if b = true then t D σ H1 else u D σ H1
theorem ps_if {c : Expr} {a b : List Stmt} {tc : TT} (hc : PT X c tc) (ha : PSs X a t) (hb : PSs X b u) : PS X (.If c a b pos) (tIfS tc t u) := by
  intro pins s σ H D I h
  refine wpAny_If (thn (hc pins s σ H _ I h) fun d s1 ⟨H1, I1, q1⟩ => ?_)
  cases d with
  | true => exact ha pins s1 σ H1 D I1 q1
  | false => exact hb pins s1 σ H1 D I1 q1
end
abbrev TG := V → St → Hp → (St → Hp → Prop) → Prop
abbrev TGs := List V → St → Hp → (St → Hp → Prop) → Prop
def PG (X : Cx) (target : Expr) (t : TG) : Prop :=
  ∀ (pins : List (Addr × Obj)) (s : Shared) (σ : St) (H : Hp) (v : V) (u : Value) (Q : St → Hp → Prop), Inv X pins σ H s → RelV v u → t v σ H Q →
    wpAny (model X.prog X.w) X.A (assign target X.env u) (fun _ s' => ∃ σ' H', Inv X pins σ' H' s' ∧ Q σ' H') X.xe s
def PGs (X : Cx) (ts : List Expr) (t : TGs) : Prop :=
  ∀ (pins : List (Addr × Obj)) (s : Shared) (σ : St) (H : Hp) (vs : List V) (us : List Value) (Q : St → Hp → Prop), Inv X pins σ H s → Vals vs us → t vs σ H Q →
    wpAny (model X.prog X.w) X.A (assignInOrder ((assignEach ts X.env).map (·.2)) us) (fun _ s' => ∃ σ' H', Inv X pins σ' H' s' ∧ Q σ' H') X.xe s
abbrev TSet := V → V → V → Hp → (Hp → Prop) → Prop
def PSet (X : Cx) (t : TSet) : Prop :=
  ∀ (pins : List (Addr × Obj)) (s : Shared) (σ : St) (H : Hp) (o i v : V) (ov iv u : Value) (Q : Hp → Prop), Inv X pins σ H s → RelV o ov → RelV i iv → RelV v u → t o i v H Q →
    wpAny (model X.prog X.w) X.A (setItem ov iv u) (fun _ s' => ∃ H', Inv X pins σ H' s' ∧ Q H') X.xe s
abbrev TIp := V → V → Hp → VK → Prop
def PIp (X : Cx) (op : Operator) (t : TIp) : Prop :=
  ∀ (pins : List (Addr × Obj)) (s : Shared) (σ : St) (H : Hp) (x y : V) (v u : Value) (Q : VK), Inv X pins σ H s → RelV x v → RelV y u → t x y H Q →
    wpAny (model X.prog X.w) X.A (inplaceOp op v u) (EP X pins σ Q) X.xe s
section
variable {X : Cx} {pos : Pos}
def gName (i : Nat) : TG := fun v σ H Q => Q (σ.set i (some v)) H
theorem pg_name {i : Nat} {x : Str} (hN : X.N.Nodup) (hi : X.N[i]? = some x) (hx : Loc X.env.scope x) (hf : X.fn x = true ∨ X.env.scope.names.lookup x = some .local := by first | exact .inl rfl | exact .inr rfl | assumption) : PG X (.Name x pos) (gName i) := by
  intro pins s σ H v u Q I r h
  exact wpAny_assign_Name (store_ok I hN hi hx r (fun s' I' => ⟨_, H, I', h⟩) hf)
def gNil : TGs := fun vs σ H Q => vs = [] ∧ Q σ H
def gCons (t : TG) (u : TGs) : TGs := fun vs σ H Q => ∃ v r, vs = v :: r ∧ t v σ H fun σ' H' => u r σ' H' Q
theorem pgs_nil : PGs X [] gNil := by
  intro pins s σ H vs us Q I r h
  obtain ⟨e, h⟩ := h
  subst e
  cases r
  exact assignInOrder_nil ⟨σ, H, I, h⟩
theorem pgs_cons {e : Expr} {es : List Expr} {t : TG} {u : TGs} (h1 : PG X e t) (h2 : PGs X es u)
    (hs : (assignEach (e :: es) X.env).map (·.2) = assign e X.env :: (assignEach es X.env).map (·.2) := by rfl) : PGs X (e :: es) (gCons t u) := by
  intro pins s σ H vs us Q I r h
  obtain ⟨v, vr, e1, h⟩ := h
  subst e1
  cases r with
  | cons r rr =>
    rw [hs]
    refine assignInOrder_cons (thn (h1 pins s σ H _ _ _ I r h) fun _ s1 ⟨σ1, H1, I1, q1⟩ => ?_)
    exact h2 pins s1 σ1 H1 _ _ Q I1 rr q1
def gTup (K : PySem.W.Frag) (n : Nat) (t : TGs) : TG := fun v σ H Q => ∃ a xs, v = .ref a ∧ SqT K H a xs ∧ xs.length = n ∧ t xs σ H Q
theorem pg_tup {es : List Expr} {k : Nat} {t : TGs} {n : Nat} (hc : X.calm = true) (h : PGs X es t)
    (hn : (assignEach es X.env).length = n := by rfl) (hst : (assignEach es X.env).findIdx? (·.1) = none := by rfl) : PG X (.Tuple es k pos) (gTup X.K n t) := by
  intro pins s σ H v u Q I r hw
  obtain ⟨a, xs, e1, hq, hl, hw⟩ := hw
  subst e1
  cases r
  obtain ⟨its, rv, ht, hz⟩ := I.tuple hq
  refine assign_Tuple_tuple (I.ok.hd hc) ht (by simp [hn, ← hl, rv.length]) hst fun h' hx => ?_
  have I1 : Inv X pins σ H { s with heap := h' } := I.kept (t' := s.toks) fun b o e => hx b o (Nat.ne_of_lt (Heap.lt_size e)) e
  exact h pins _ σ H xs _ Q I1 (by simpa using rv) hw
def gSub (to ti : TE) (t : TSet) : TG := fun v σ H Q => to σ H fun o H1 => ti σ H1 fun i H2 => t o i v H2 fun H3 => Q σ H3
def tAsg (te : TE) (g : TG) : TS := fun D σ H => te σ H fun x H1 => g x σ H1 D.nx
theorem ps_asg {tg e : Expr} {te : TE} {g : TG} (he : PE X e te) (hg : PG X tg g) (hs : swapsWithSole [tg] e pos.line X.env = pure false := by rfl) (hw : swappedStores [tg] e X.env = pure none := by rfl)
    (h1 : (assignEach [tg] X.env).map (·.2) = [assign tg X.env] := by rfl) : PS X (.Assign [tg] e pos) (tAsg te g) := by
  intro pins s σ H D I h
  refine wpAny_Assign_stores (thn (he pins s σ H _ I h) fun v s1 ⟨x, H1, I1, r1, q1⟩ => ?_) hs hw
  rw [h1]
  exact thn (hg pins s1 σ H1 x v _ I1 r1 q1) fun _ s2 q => q
theorem ps_set {i : Nat} {x : Str} {e : Expr} {te : TE} {pos' : Pos} (hN : X.N.Nodup) (hi : X.N[i]? = some x) (hx : Loc X.env.scope x) (he : PE X e te) (hs : swapsWith e (some (.Name x pos')) pos.line X.env = pure false := by rfl) (hf : X.fn x = true ∨ X.env.scope.names.lookup x = some .local := by first | exact .inl rfl | exact .inr rfl | assumption) :
    PS X (.Assign [.Name x pos'] e pos) (tAsg te (gName i)) := by
  intro pins s σ H D I h
  refine wpAny_Assign_Name (thn (he pins s σ H _ I h) fun v s1 ⟨y, H1, I1, r1, q1⟩ => ?_) hs
  exact store_ok I1 hN hi hx r1 (fun s2 I2 => ⟨_, H1, I2, q1⟩) hf
def tPar (i j : Nat) (ta : TA) : TS := fun D σ H => ta σ H fun vs H1 => ∃ v w, vs = [v, w] ∧ D.nx ((σ.set i (some v)).set j (some w)) H1
def tAug (i : Nat) (te : TE) (ti : TIp) : TS := fun D σ H => ∃ x, σ[i]? = some (some x) ∧ te σ H fun y H1 => ti x y H1 fun z H2 => D.nx (σ.set i (some z)) H2
theorem ps_aug {i : Nat} {x : Str} {e : Expr} {te : TE} {op : Operator} {ti : TIp} {pos' : Pos} (hN : X.N.Nodup) (hi : X.N[i]? = some x) (hx : Loc X.env.scope x) (he : PE X e te) (ho : PIp X op ti) (hf : X.fn x = true ∨ X.env.scope.names.lookup x = some .local := by first | exact .inl rfl | exact .inr rfl | assumption) :
    PS X (.AugAssign (.Name x pos') op e pos) (tAug i te ti) := by
  intro pins s σ H D I h
  obtain ⟨v, e1, h⟩ := h
  obtain ⟨m, hn, hl⟩ := I.loc
  have vis : Vis X.env.scope x := by rcases hx with k | k; exact .inl k; exact .inr (.inl k)
  obtain ⟨u, r, l⟩ := hl i x v hi e1 vis
  refine wpAny_AugAssign_Name ?_
  have go : wpAny (model X.prog X.w) X.A (eval e X.env) (fun w s₂ => wpAny (model X.prog X.w) X.A (inplaceOp op u w) (fun r s₃ => wpAny (model X.prog X.w) X.A (storeName X.env x r) (fun _ => SP X pins D .next) X.xe s₃) X.xe s₂) X.xe s := by
    refine thn (he pins s σ H _ I h) fun w s1 ⟨y, H1, I1, r1, q1⟩ => ?_
    refine thn (ho pins s1 σ H1 v y u w _ I1 r r1 q1) fun z s2 ⟨zv, H2, I2, r2, q2⟩ => ?_
    exact store_ok I2 hN hi hx r2 (fun s3 I3 => ⟨_, H2, I3, q2⟩) hf
  rcases l with ⟨hk, hm⟩ | ⟨hk, c, hc, hcell⟩
  · exact wpAny_loadName_local I.ok.kind hk hn hm go
  · rcases hk with hk | hk
    · exact wpAny_loadName_cell I.ok.kind hk hc hcell go
    · rcases hx with k | k
      · have : X.env.scope.names.lookup x = some .free := hk
        rw [k] at this; cases this
      · have : X.env.scope.names.lookup x = some .free := hk
        rw [k] at this; cases this
def tAugS (to ti te : TE) (tget : V → V → Hp → VK → Prop) (tip : TIp) (tset : TSet) : TS := fun D σ H => to σ H fun o H1 => ti σ H1 fun i H2 => tget o i H2 fun x H3 => te σ H3 fun y H4 => tip x y H4 fun z H5 => tset o i z H5 fun H6 => D.nx σ H6
def PGet (X : Cx) (t : V → V → Hp → VK → Prop) : Prop :=
  ∀ (pins : List (Addr × Obj)) (s : Shared) (σ : St) (H : Hp) (o i : V) (ov iv : Value) (Q : VK), Inv X pins σ H s → RelV o ov → RelV i iv → t o i H Q →
    wpAny (model X.prog X.w) X.A (getItem ov iv) (EP X pins σ Q) X.xe s
theorem ps_augS {o i e : Expr} {to ti te : TE} {tget : V → V → Hp → VK → Prop} {tip : TIp} {tset : TSet} {op : Operator} {tpos : Pos} (ho : PE X o to) (hi : PE X i ti) (hg : PGet X tget) (he : PE X e te) (hp : PIp X op tip) (hs : PSet X tset)
    (ha : ∀ ov iv new, augStore i ov iv new = (do holding [new, ov, iv] (setItem ov iv new); release [new, ov, iv] []; pure .next) := by intros; rfl) : PS X (.AugAssign (.Subscript o i tpos) op e pos) (tAugS to ti te tget tip tset) := by
  intro pins s σ H D I h
  refine wpAny_AugAssign_SubscriptAny (thn (ho pins s σ H _ I h) fun ov s1 ⟨x1, H1, I1, r1, q1⟩ => ?_) ha
  refine thn (hi pins s1 σ H1 _ I1 q1) fun iv s2 ⟨x2, H2, I2, r2, q2⟩ => ?_
  refine thn (hg pins s2 σ H2 x1 x2 ov iv _ I2 r1 r2 q2) fun old s3 ⟨x3, H3, I3, r3, q3⟩ => ?_
  refine thn (he pins s3 σ H3 _ I3 q3) fun v s4 ⟨x4, H4, I4, r4, q4⟩ => ?_
  refine thn (hp pins s4 σ H4 x3 x4 old v _ I4 r3 r4 q4) fun new s5 ⟨x5, H5, I5, r5, q5⟩ => ?_
  exact thn (hs pins s5 σ H5 x1 x2 x5 ov iv new _ I5 r1 r2 r5 q5) fun _ s6 ⟨H6, I6, q6⟩ => ⟨σ, H6, I6, q6⟩
end
section
variable {X : Cx} {pos : Pos}
def tWhile (c : TT) (tb : TS) : TS := fun D σ H => ∃ W : Nat → St → Hp → Prop, (∃ m, W m σ H) ∧ ∀ m σ H, W m σ H →
  c σ H fun b H1 => if b = true then ∃ N : St → Hp → Prop, (∀ σ' H', N σ' H' → ∃ m', m' < m ∧ W m' σ' H') ∧ tb { D with nx := N, ct := N, bk := D.nx } σ H1 else D.nx σ H1
theorem ps_while {c : Expr} {body : List Stmt} {tc : TT} {tb : TS} (hp : PassesOwn (model X.prog X.w) X.A X.env X.xe) (hc : PT X c tc) (hb : PSs X body tb) : PS X (.While c body [] pos) (tWhile tc tb) := by
  intro pins s σ H D I h
  obtain ⟨W, ⟨m0, w0⟩, turn⟩ := h
  refine wpAny_While (codeAny_whileLoop (fun n s' => ∃ σ' H', Inv X pins σ' H' s' ∧ W n σ' H') ?_ m0 ⟨σ, H, I, w0⟩)
  rintro n s1 ⟨σ1, H1, I1, w1⟩
  refine wpAny_passesOwn hp (thn (hc pins s1 σ1 H1 _ I1 (turn n σ1 H1 w1)) fun b s2 ⟨H2, I2, q2⟩ => ?_)
  cases b with
  | true =>
    obtain ⟨N, hN, q2⟩ := q2
    rw [if_pos rfl]
    refine wpAny_passesOwn hp (thn (hb pins s2 σ1 H2 _ I2 q2) fun f s3 q3 => ?_)
    cases f with
    | next =>
      obtain ⟨σ3, H3, I3, n3⟩ := q3
      obtain ⟨m', hm, w3⟩ := hN σ3 H3 n3
      exact ⟨m', hm, σ3, H3, I3, w3⟩
    | cont =>
      obtain ⟨σ3, H3, I3, n3⟩ := q3
      obtain ⟨m', hm, w3⟩ := hN σ3 H3 n3
      exact ⟨m', hm, σ3, H3, I3, w3⟩
    | brk => exact q3
    | ret v => exact q3
  | false =>
    rw [if_neg Bool.false_ne_true]
    exact wpAny_execs_nil ⟨σ1, H2, I2, q2⟩
end
structure It where
  go : Nat → Hp → Prop
  yld : Nat → Hp → V → Hp → Prop
  stop : Nat → Hp → Prop
def FpOk (X : Cx) (pins : List (Addr × Obj)) (H : Hp) (b : Addr) : Prop :=
  H b = none ∧ b ≠ X.env.locals ∧ b ∉ X.fs ∧ (b ∈ X.ex ∨ X.s₀.heap.objs.size ≤ b) ∧ (∀ x c, X.env.cells.lookup x = some c → c ≠ b) ∧ ∀ p ∈ X.pn ++ pins, p.1 ≠ b
theorem Inv.fpOk {X : Cx} {pins : List (Addr × Obj)} {σ : St} {H H' : Hp} {s : Shared} {b : Addr} (I : Inv X pins σ H s) (hb : s.heap.objs.size ≤ b) (hn : H' b = none) : FpOk X pins H' b := by
  refine ⟨hn, Nat.ne_of_gt (Nat.lt_of_lt_of_le I.lt hb), I.nofs hb, .inr (Nat.le_trans I.sz hb), fun x c e z => ?_, fun p hp z => ?_⟩
  · obtain ⟨v, q⟩ := I.cell x c e
    exact absurd (Nat.lt_of_lt_of_le q.lt (by rw [z]; exact hb)) (Nat.lt_irrefl _)
  · exact absurd (Nat.lt_of_lt_of_le (Heap.lt_size (I.pin p hp).1) (by rw [z]; exact hb)) (Nat.lt_irrefl _)
structure Turn (P : Program) (w : World) (K : PySem.W.Frag) (tg : Expr) (J : It) (fp : List Addr) (it : Addr) (tn : Nat → Heap → Prop) : Prop where
  mem : it ∈ fp
  obj : ∀ i h, tn i h → ∀ b ∈ fp, ∃ o, h.get? b = some o ∧ ∀ v, o.data ≠ .cell v
  keep : ∀ i h h', tn i h → (∀ b ∈ fp, ∀ o, h.get? b = some o → h'.get? b = some o) → tn i h'
  item : ∀ (X : Cx), X.prog = P → X.w = w → X.K = K → X.calm = true → ∀ (i : Nat) (pins : List (Addr × Obj)) (s : Shared) (σ : St) (H : Hp) (E : Value → Shared → Prop), Inv X pins σ H s → (∀ b ∈ fp, FpOk X pins H b) → tn i s.heap → J.go i H →
    wpAny (model P w) X.A (pyNext (.ref it)) (fun r s1 => ∃ u, r = some u ∧
      wpAny (model P w) X.A (letOwnedTupleGo tg (.ref it) u) (fun _ s2 => ∃ x H', Inv X pins σ H' s2 ∧ RelV x u ∧ J.yld i H x H' ∧ tn (i + 1) s2.heap ∧ ∀ b ∈ fp, H' b = none) E s1) E s
  done : ∀ (X : Cx), X.prog = P → X.w = w → X.K = K → X.calm = true → ∀ (i : Nat) (pins : List (Addr × Obj)) (s : Shared) (σ : St) (H : Hp) (E : Value → Shared → Prop), Inv X pins σ H s → (∀ b ∈ fp, FpOk X pins H b) → tn i s.heap → J.stop i H →
    wpAny (model P w) X.A (pyNext (.ref it)) (fun r s1 => r = none ∧ Inv X pins σ H s1) E s
  self : ∀ (A : Around) (i : Nat) (s : Shared) (Q : Value → Shared → Prop) (E : Value → Shared → Prop), tn i s.heap → Q (.ref it) s → wpAny (model P w) A (pyIter (.ref it)) Q E s
abbrev TI := St → Hp → (It → Hp → Prop) → Prop
def PIE (X : Cx) (pins : List (Addr × Obj)) (σ : St) (tg : Expr) (R : It → Hp → Prop) (itv : Value) (s2 : Shared) : Prop :=
  ∃ (it : Addr) (fp : List Addr) (tn : Nat → Heap → Prop) (J : It) (H' : Hp), itv = .ref it ∧ Inv X pins σ H' s2 ∧ Turn X.prog X.w X.K tg J fp it tn ∧ tn 0 s2.heap ∧ (∀ b ∈ fp, FpOk X pins H' b) ∧ R J H'
def PI (X : Cx) (tg iter : Expr) (wi : TI) : Prop :=
  ∀ (pins : List (Addr × Obj)) (s : Shared) (σ : St) (H : Hp) (R : It → Hp → Prop), Inv X pins σ H s → wi σ H R →
    wpAny (model X.prog X.w) X.A (eval iter X.env) (fun v s1 => wpAny (model X.prog X.w) X.A (pyIter v) (PIE X pins σ tg R) X.xe s1) X.xe s
theorem go_of {M : Model} {A : Around} {E : Value → Shared → Prop} {s : Shared} {tg : Expr} {it : Addr} {u : Value} {o : Obj} {n : String} {vs : Array Value} {Q : Unit → Shared → Prop} (ho : s.heap.get? it = some o) (hc : o.cls = .type n) (hd : o.data = .fields vs)
    (hn : ["enumerate", "zip", "dict_itemiterator", "dict_reverseitemiterator", "odict_iterator", "itertools.zip_longest", "itertools.pairwise"].contains n = false) (hQ : Q () s) : wpAny M A (letOwnedTupleGo tg (.ref it) u) Q E s := by
  unfold letOwnedTupleGo
  cases tg <;> first
    | exact wpAny_pure hQ
    | (cases u <;> first
        | exact wpAny_pure hQ
        | (refine wpAny_bind (wpAny_load ho ?_)
           rw [hc, hd]
           show wpAny M A (if (["enumerate", "zip", "dict_itemiterator", "dict_reverseitemiterator", "odict_iterator", "itertools.zip_longest", "itertools.pairwise"].contains n && vs[0]? == some (rawInt _)) = true then _ else _) Q E s
           rw [if_neg (by intro h; rw [hn, Bool.false_and] at h; cases h)]
           exact wpAny_pure hQ))
def Itl (K : PySem.W.Frag) (a : Addr) : It :=
  ⟨fun i H => ∃ xs x, SqL K H a xs ∧ xs[i]? = some x, fun i H x H' => H' = H ∧ ∀ xs, SqL K H a xs → xs[i]? = some x, fun i H => ∃ xs, SqL K H a xs ∧ xs.length ≤ i⟩
def Itt (K : PySem.W.Frag) (a : Addr) : It :=
  ⟨fun i H => ∃ xs x, SqT K H a xs ∧ xs[i]? = some x, fun i H x H' => H' = H ∧ ∀ xs, SqT K H a xs → xs[i]? = some x, fun i H => ∃ xs, SqT K H a xs ∧ xs.length ≤ i⟩
def Itr (lo : Int) (n : Nat) : It := ⟨fun i _ => i < n, fun i H x H' => H' = H ∧ x = .int (lo + i), fun i _ => n ≤ i⟩
theorem turn_list {P : Program} {w : World} {K : PySem.W.Frag} {tg : Expr} (a it : Addr) : Turn P w K tg (Itl K a) [it] it (fun i h => h.IsListIter it a i) where
  mem := by simp
  obj := fun i h st b hb => by
    have e : b = it := by simpa using hb
    subst e
    obtain ⟨o, e, c, d⟩ := st
    exact ⟨o, e, fun v z => by rw [d] at z; cases z⟩
  keep := fun i h h' st k => st.at fun o e => k it (by simp) o e
  item := by
    intro X hP hw hK hc i pins s σ H E I hf st hg
    subst hP hw hK
    obtain ⟨xs, x, hq, hx⟩ := hg
    obtain ⟨its, rv, p, hz⟩ := I.list hq
    obtain ⟨u, hu, ru⟩ := rv.get hx
    obtain ⟨f0, f1, f2, f3, f4, f5⟩ := hf it (by simp)
    refine wpAny_pyNext_list_item st p.isList (x := u) (by simpa using hu) fun h' st' sb => ?_
    have I1 : Inv X pins σ H { s with heap := h' } := I.turned (t' := s.toks) (fun b o hb e => (sb.2 b hb).trans e) f0 f1 f3 f4 f5
    obtain ⟨o, e, c, d⟩ := id st'
    exact ⟨u, rfl, go_of (s := { s with heap := h' }) e c d (by decide) ⟨x, H, I1, ru, ⟨rfl, fun ys hy => by rw [I.list_inj hy hq]; exact hx⟩, st', fun b hb => (hf b hb).1⟩⟩
  done := by
    intro X hP hw hK hc i pins s σ H E I hf st hg
    subst hP hw hK
    obtain ⟨xs, hq, hx⟩ := hg
    obtain ⟨its, rv, p, hz⟩ := I.list hq
    obtain ⟨f0, f1, f2, f3, f4, f5⟩ := hf it (by simp)
    have hl := rv.length
    exact wpAny_pyNext_list_end (I.ok.hd hc) st p.isList (by simp; omega) fun h' eb => ⟨rfl, I.turned (t' := s.toks) (fun b o hb e => eb b o hb e) f0 f1 f3 f4 f5⟩
  self := fun _ _ _ _ _ st h => wpAny_pyIter_listiter st h
theorem turn_tuple {P : Program} {w : World} {K : PySem.W.Frag} {tg : Expr} (a it : Addr) : Turn P w K tg (Itt K a) [it] it (fun i h => h.IsTupleIter it a i) where
  mem := by simp
  obj := fun i h st b hb => by
    have e : b = it := by simpa using hb
    subst e
    obtain ⟨o, e, c, d⟩ := st
    exact ⟨o, e, fun v z => by rw [d] at z; cases z⟩
  keep := fun i h h' st k => st.at fun o e => k it (by simp) o e
  item := by
    intro X hP hw hK hc i pins s σ H E I hf st hg
    subst hP hw hK
    obtain ⟨xs, x, hq, hx⟩ := hg
    obtain ⟨its, rv, p, hz⟩ := I.tuple hq
    obtain ⟨u, hu, ru⟩ := rv.get hx
    obtain ⟨f0, f1, f2, f3, f4, f5⟩ := hf it (by simp)
    refine wpAny_pyNext_tuple_item st (show s.heap.IsTuple a its.toArray from p) (x := u) (by simpa using hu) fun h' st' sb => ?_
    have I1 : Inv X pins σ H { s with heap := h' } := I.turned (t' := s.toks) (fun b o hb e => (sb.2 b hb).trans e) f0 f1 f3 f4 f5
    obtain ⟨o, e, c, d⟩ := id st'
    exact ⟨u, rfl, go_of (s := { s with heap := h' }) e c d (by decide) ⟨x, H, I1, ru, ⟨rfl, fun ys hy => by rw [I.tuple_inj hy hq]; exact hx⟩, st', fun b hb => (hf b hb).1⟩⟩
  done := by
    intro X hP hw hK hc i pins s σ H E I hf st hg
    subst hP hw hK
    obtain ⟨xs, hq, hx⟩ := hg
    obtain ⟨its, rv, p, hz⟩ := I.tuple hq
    obtain ⟨f0, f1, f2, f3, f4, f5⟩ := hf it (by simp)
    have hl := rv.length
    exact wpAny_pyNext_tuple_end (I.ok.hd hc) st (show s.heap.IsTuple a its.toArray from p) (by simp; omega) fun h' eb => ⟨rfl, I.turned (t' := s.toks) (fun b o hb e => eb b o hb e) f0 f1 f3 f4 f5⟩
  self := fun _ _ _ _ _ st h => wpAny_pyIter_tupleiter st h
theorem turn_range {P : Program} {w : World} {K : PySem.W.Frag} {tg : Expr} (it : Addr) (lo : Int) (n : Nat) : Turn P w K tg (Itr lo n) [it] it (fun i h => IsRangeIter h it (lo + (i : Nat) * 1) ((n : Int) - (i : Nat)) 1) where
  mem := by simp
  obj := fun i h st b hb => by
    have e : b = it := by simpa using hb
    subst e
    exact ⟨_, st, fun v z => by
      have z' : Data.fields _ = Data.cell v := z
      cases z'⟩
  keep := fun i h h' st k => k it (by simp) _ st
  item := by
    intro X hP hw hK hc i pins s σ H E I hf st hg
    subst hP hw hK
    obtain ⟨f0, f1, f2, f3, f4, f5⟩ := hf it (by simp)
    have W := Walks.range (prog := X.prog) (w := X.w) (I.ok.hd hc) it lo 1 n
    refine W.item i s _ _ hg st fun v h' tk hv st' kk => ?_
    obtain ⟨t, rfl⟩ := hv
    have I1 : Inv X pins σ H { s with heap := h', toks := tk } := I.turned (fun b o hb e => kk b o (by simpa using hb) e) f0 f1 f3 f4 f5
    refine ⟨_, rfl, go_of (s := { s with heap := h', toks := tk }) (n := "range_iterator") st' rfl rfl (by decide) ⟨.int (lo + i), H, I1, ⟨t, ?_⟩, ⟨rfl, rfl⟩, st', fun b hb => (hf b hb).1⟩⟩
    rw [Int.mul_one]
  done := by
    intro X hP hw hK hc i pins s σ H E I hf st hg
    subst hP hw hK
    obtain ⟨f0, f1, f2, f3, f4, f5⟩ := hf it (by simp)
    exact wpAny_pyNext_range_end (I.ok.hd hc) st (by have : n ≤ i := hg; omega) fun h' eb => ⟨rfl, I.turned (t' := s.toks) (fun b o hb e => eb b o hb e) f0 f1 f3 f4 f5⟩
  self := fun _ _ _ _ _ st h => wpAny_pyIter_rangeiter st h
end L2
namespace L2
open PySem PySem.Spec PyProof.Rows
section
variable {X : Cx} {tg : Expr}
def iList (K : PySem.W.Frag) (tl : TE) : TI := fun σ H R => tl σ H fun x H1 => ∃ a, x = .ref a ∧ (∃ xs, SqL K H1 a xs) ∧ R (Itl K a) H1
def iTup (K : PySem.W.Frag) (tl : TE) : TI := fun σ H R => tl σ H fun x H1 => ∃ a, x = .ref a ∧ (∃ xs, SqT K H1 a xs) ∧ R (Itt K a) H1
theorem pi_list {l : Expr} {tl : TE} (hl : PE X l tl) : PI X tg l (iList X.K tl) := by
  intro pins s σ H R I h
  refine thn (hl pins s σ H _ I h) fun v s1 ⟨x, H1, I1, r1, q1⟩ => ?_
  obtain ⟨a, e, ⟨xs, hq⟩, q⟩ := q1
  subst e
  cases r1
  obtain ⟨its, rv, p, hz⟩ := I1.list hq
  refine wpAny_pyIter_list p.isList ?_
  refine ⟨s1.heap.objs.size, [s1.heap.objs.size], _, _, H1, rfl, I1.kept (t' := s1.toks) fun b o e => Heap.get?_push_of_some _ e, turn_list a _, ⟨_, Heap.get?_push_size _ rfl, rfl, rfl⟩, fun b hb => ?_, q⟩
  have e : b = s1.heap.objs.size := by simpa using hb
  subst e
  exact I1.fpOk (Nat.le_refl _) (I1.hok.fresh (Nat.le_refl _))
theorem pi_tup {l : Expr} {tl : TE} (hl : PE X l tl) : PI X tg l (iTup X.K tl) := by
  intro pins s σ H R I h
  refine thn (hl pins s σ H _ I h) fun v s1 ⟨x, H1, I1, r1, q1⟩ => ?_
  obtain ⟨a, e, ⟨xs, hq⟩, q⟩ := q1
  subst e
  cases r1
  obtain ⟨its, rv, p, hz⟩ := I1.tuple hq
  refine wpAny_pyIter_tuple (show s1.heap.IsTuple a its.toArray from p) ?_
  refine ⟨s1.heap.objs.size, [s1.heap.objs.size], _, _, H1, rfl, I1.kept (t' := s1.toks) fun b o e => Heap.get?_push_of_some _ e, turn_tuple a _, ⟨_, Heap.get?_push_size _ rfl, rfl, rfl⟩, fun b hb => ?_, q⟩
  have e : b = s1.heap.objs.size := by simpa using hb
  subst e
  exact I1.fpOk (Nat.le_refl _) (I1.hok.fresh (Nat.le_refl _))
theorem range_it {pins : List (Addr × Obj)} {σ : St} {H : Hp} {s : Shared} {R : It → Hp → Prop} {E : Value → Shared → Prop} {lo hi : Int} {t u v : Tok} {tk : Nat} (I : Inv X pins σ H s) (h1 : -(2 ^ 62) ≤ lo) (h2 : lo < 2 ^ 62) (h3 : -(2 ^ 62) ≤ hi) (h4 : hi < 2 ^ 62)
    (q : R (Itr lo (hi - lo).toNat) H) : wpAny (model X.prog X.w) X.A (pyIter (.ref s.heap.objs.size)) (PIE X pins σ tg R) E { s with heap := s.heap.push { cls := .type "range", data := .fields #[.int lo t, .int hi u, .int 1 v] }, toks := tk } := by
  refine wpAny_pyIter_range (IsRange.new ..) (small_one h1 h2 h3 h4) ?_
  have I1 : Inv X pins σ H { s with heap := s.heap.push { cls := .type "range", data := .fields #[.int lo t, .int hi u, .int 1 v] }, toks := tk } := I.kept fun b o e => Heap.get?_push_of_some _ e
  refine ⟨(s.heap.push { cls := .type "range", data := .fields #[.int lo t, .int hi u, .int 1 v] }).objs.size, [(s.heap.push { cls := .type "range", data := .fields #[.int lo t, .int hi u, .int 1 v] }).objs.size], _, _, H, rfl,
    I1.kept (t' := tk) fun b o e => Heap.get?_push_of_some _ e, turn_range _ lo (hi - lo).toNat, ?_, fun b hb => ?_, q⟩
  · have e1 : lo + ((0 : Nat) : Int) * 1 = lo := by simp
    have e2 : (((hi - lo).toNat : Nat) : Int) - ((0 : Nat) : Int) = Builtin.Range.rangeSize lo hi 1 := by rw [rangeSize_one]; split <;> omega
    show IsRangeIter _ _ (lo + ((0 : Nat) : Int) * 1) ((((hi - lo).toNat : Nat) : Int) - ((0 : Nat) : Int)) 1
    rw [e1, e2]
    exact Heap.get?_push_size _ rfl
  · have e : b = (s.heap.push { cls := .type "range", data := .fields #[.int lo t, .int hi u, .int 1 v] }).objs.size := by simpa using hb
    subst e
    exact I1.fpOk (Nat.le_refl _) (I1.hok.fresh (Nat.le_refl _))
def iRng1 (ta : TA) : TI := fun σ H R => ta σ H fun vs H1 => ∃ j : Int, vs = [.int j] ∧ -(2 ^ 62) ≤ j ∧ j < 2 ^ 62 ∧ R (Itr 0 j.toNat) H1
def iRng2 (ta : TA) : TI := fun σ H R => ta σ H fun vs H1 => ∃ i j : Int, vs = [.int i, .int j] ∧ (-(2 ^ 62) ≤ i ∧ i < 2 ^ 62 ∧ -(2 ^ 62) ≤ j ∧ j < 2 ^ 62) ∧ R (Itr i (j - i).toNat) H1
theorem pi_range1 {a : Expr} {ta : TA} {p pos : Pos} (hg : Gl X "range") (hm : X.mg "range" = none) (ha : PA X [a] ta) (hs : starEach [a] X.env = [(false, eval a X.env)] := by rfl) : PI X tg (.Call (.Name "range" p) [a] [] pos) (iRng1 ta) := by
  intro pins s σ H R I h
  refine Call_ (ld_blt I hg hm boot_range (PyProof.Rows.callWith_type1 (thn (ha pos pins s σ H _ I h) fun us s1 ⟨vs, H1, I1, r1, q1⟩ => ?_) hs rfl))
  obtain ⟨j, e, q1, q2, q⟩ := q1
  subst e
  cases r1 with
  | cons r rr =>
    cases rr
    obtain ⟨t, rfl⟩ := r
    exact call_range_1 (range_it I1 (by omega) (by omega) q1 q2 (by simpa using q))
theorem pi_range2 {a b : Expr} {ta : TA} {p pos : Pos} (hg : Gl X "range") (hm : X.mg "range" = none) (ha : PA X [a, b] ta) (hs : starEach [a, b] X.env = [(false, eval a X.env), (false, eval b X.env)] := by rfl) (hs2 : starEach [b] X.env = [(false, eval b X.env)] := by rfl) :
    PI X tg (.Call (.Name "range" p) [a, b] [] pos) (iRng2 ta) := by
  intro pins s σ H R I h
  refine Call_ (ld_blt I hg hm boot_range (PyProof.Rows.callWith_type1 (thn (ha pos pins s σ H _ I h) fun us s1 ⟨vs, H1, I1, r1, q1⟩ => ?_) (by rw [hs, hs2]) (by rw [hs2]; rfl)))
  obtain ⟨i, j, e, ⟨q1, q2, q3, q4⟩, q⟩ := q1
  subst e
  cases r1 with
  | cons r rr =>
    cases rr with
    | cons r' rr =>
      cases rr
      obtain ⟨t, rfl⟩ := r
      obtain ⟨t', rfl⟩ := r'
      exact call_range_2 (range_it I1 q1 q2 q3 q4 q)
def tFor (wi : TI) (g : TG) (tb : TS) : TS := fun D σ H => wi σ H fun J H1 => ∃ W : Nat → Nat → St → Hp → Prop, (∃ m, W 0 m σ H1) ∧ ∀ i m σ H, W i m σ H →
  (J.stop i H ∧ D.nx σ H) ∨ (J.go i H ∧ ∃ N : St → Hp → Prop, (∀ σ' H', N σ' H' → ∃ m', m' < m ∧ W (i + 1) m' σ' H') ∧ ∀ x H', J.yld i H x H' → g x σ H' fun σ2 H2 => tb { D with nx := N, ct := N, bk := D.nx } σ2 H2)
def pinsAt (fp : List Addr) (h : Heap) : List (Addr × Obj) := fp.filterMap fun b => (h.get? b).map fun o => (b, o)
theorem mem_pinsAt {fp : List Addr} {h : Heap} {b : Addr} {o : Obj} (hb : b ∈ fp) (e : h.get? b = some o) : (b, o) ∈ pinsAt fp h := List.mem_filterMap.mpr ⟨b, hb, by rw [e]; rfl⟩
theorem of_pinsAt {fp : List Addr} {h : Heap} {p : Addr × Obj} (hp : p ∈ pinsAt fp h) : p.1 ∈ fp ∧ h.get? p.1 = some p.2 := by
  obtain ⟨b, hb, e⟩ := List.mem_filterMap.mp hp
  cases q : h.get? b with
  | none => rw [q] at e; cases e
  | some o =>
    rw [q] at e
    have e' : (b, o) = p := Option.some.inj e
    subst e'
    exact ⟨hb, q⟩
theorem Inv.pinned {pins : List (Addr × Obj)} {σ : St} {H : Hp} {s : Shared} {fp : List Addr} (I : Inv X pins σ H s) (hf : ∀ b ∈ fp, FpOk X pins H b) (ho : ∀ b ∈ fp, ∃ o, s.heap.get? b = some o ∧ ∀ v, o.data ≠ .cell v) : Inv X (pins ++ pinsAt fp s.heap) σ H s :=
  I.pins_of fun p hp => (List.mem_append.mp hp).elim (fun z => I.pin p (List.mem_append_right _ z)) fun z => by
    obtain ⟨hb, e⟩ := of_pinsAt z
    obtain ⟨f0, f1, f2, _⟩ := hf p.1 hb
    obtain ⟨o, e', d⟩ := ho p.1 hb
    rw [e] at e'; cases e'
    exact ⟨e, f0, f1, f2, d⟩
theorem Inv.unpinned {pins pl : List (Addr × Obj)} {σ : St} {H : Hp} {s : Shared} (I : Inv X (pins ++ pl) σ H s) : Inv X pins σ H s := I.pins_of fun p hp => I.pin p (List.mem_append_right _ (List.mem_append_left _ hp))
theorem ps_for {iter : Expr} {body : List Stmt} {wi : TI} {g : TG} {tb : TS} {pos : Pos} (hp : PassesOwn (model X.prog X.w) X.A X.env X.xe) (hc : X.calm = true) (hi : PI X tg iter wi) (hg : PG X tg g) (hb : PSs X body tb)
    (hs : ∀ x, foldedSetIterable iter X.env x = pure x := by intro _; rfl) : PS X (.For tg iter body [] pos) (tFor wi g tb) := by
  intro pins s σ H D I h
  refine wpAny_For (thn (hi pins s σ H _ I h) fun v s1 h1 => thn h1 fun itv s2 h2 => ?_) hs
  obtain ⟨it, fp, tn, J, H2, e, I2, T, st2, f2, W, ⟨m0, w0⟩, turn⟩ := h2
  subst e
  have stat : ∀ {H' : Hp}, (∀ b ∈ fp, H' b = none) → ∀ b ∈ fp, FpOk X pins H' b := fun hn b hb => ⟨hn b hb, (f2 b hb).2⟩
  refine codeAny_forLoop_any (fun n s' => ∃ i σ' H', Inv X pins σ' H' s' ∧ tn i s'.heap ∧ (∀ b ∈ fp, H' b = none) ∧ W i n σ' H') ?_ m0 ⟨0, σ, H2, I2, st2, fun b hb => (f2 b hb).1, w0⟩
  rintro n s3 ⟨i, σ3, H3, I3, st3, fr3, w3⟩
  rcases turn i n σ3 H3 w3 with ⟨stop, qn⟩ | ⟨go, N, hN, step⟩
  · refine wpAny_passesOwn hp (thn (T.done X rfl rfl rfl hc i pins s3 σ3 H3 X.xe I3 (stat fr3) st3 stop) fun r s4 ⟨hr, I4⟩ => ?_)
    subst hr
    exact wpAny_execs_nil ⟨σ3, H3, I4, qn⟩
  · refine wpAny_passesOwn hp (thn (T.item X rfl rfl rfl hc i pins s3 σ3 H3 X.xe I3 (stat fr3) st3 go) fun r s4 ⟨u, hr, h4⟩ => ?_)
    subst hr
    refine wpAny_passesOwn hp (thn h4 fun _ s5 ⟨x, H5, I5, r5, y5, st5, fr5⟩ => ?_)
    have I5' := I5.pinned (stat fr5) (T.obj _ _ st5)
    refine wpAny_passesOwn hp (thn (hg _ s5 σ3 H5 x u _ I5' r5 (step x H5 y5)) fun _ s6 ⟨σ6, H6, I6, q6⟩ => ?_)
    refine wpAny_passesOwn hp (thn (hb _ s6 σ6 H6 _ I6 q6) fun f s7 q7 => ?_)
    have again : ∀ {σ7 : St} {H7 : Hp}, Inv X (pins ++ pinsAt fp s5.heap) σ7 H7 s7 → N σ7 H7 → ∃ m, m < n ∧ ∃ i σ' H', Inv X pins σ' H' s7 ∧ tn i s7.heap ∧ (∀ b ∈ fp, H' b = none) ∧ W i m σ' H' := fun {σ7 H7} I7 n7 => by
      obtain ⟨m', hm, w7⟩ := hN σ7 H7 n7
      refine ⟨m', hm, i + 1, σ7, H7, I7.unpinned, T.keep _ _ _ st5 fun b hb o e => (I7.pin (b, o) (List.mem_append_right _ (List.mem_append_right _ (mem_pinsAt hb e)))).1, fun b hb => ?_, w7⟩
      obtain ⟨o, e, d⟩ := T.obj _ _ st5 b hb
      exact (I7.pin (b, o) (List.mem_append_right _ (List.mem_append_right _ (mem_pinsAt hb e)))).2.1
    cases f with
    | next => obtain ⟨σ7, H7, I7, n7⟩ := q7; exact again I7 n7
    | cont => obtain ⟨σ7, H7, I7, n7⟩ := q7; exact again I7 n7
    | brk => obtain ⟨σ7, H7, I7, q7⟩ := q7; exact ⟨σ7, H7, I7.unpinned, q7⟩
    | ret v => obtain ⟨x7, σ7, H7, I7, r7, q7⟩ := q7; exact ⟨x7, σ7, H7, I7.unpinned, r7, q7⟩
end
theorem for_list {K : PySem.W.Frag} {a : Addr} {xs : List V} {g : TG} {tb : TS} {D : Ends} {σ : St} {H : Hp} (Pv : Nat → St → Hp → Prop) (h0 : Pv 0 σ H) (hl : ∀ i σ H, i ≤ xs.length → Pv i σ H → SqL K H a xs)
    (hs : ∀ i x σ H, xs[i]? = some x → Pv i σ H → g x σ H fun σ2 H2 => tb { D with nx := Pv (i + 1), ct := Pv (i + 1), bk := D.nx } σ2 H2) (hd : ∀ σ H, Pv xs.length σ H → D.nx σ H) :
    ∃ W : Nat → Nat → St → Hp → Prop, (∃ m, W 0 m σ H) ∧ ∀ i m σ H, W i m σ H →
      ((Itl K a).stop i H ∧ D.nx σ H) ∨ ((Itl K a).go i H ∧ ∃ N : St → Hp → Prop, (∀ σ' H', N σ' H' → ∃ m', m' < m ∧ W (i + 1) m' σ' H') ∧ ∀ x H', (Itl K a).yld i H x H' → g x σ H' fun σ2 H2 => tb { D with nx := N, ct := N, bk := D.nx } σ2 H2) := by
  refine ⟨fun i m σ H => m = xs.length - i ∧ i ≤ xs.length ∧ Pv i σ H, ⟨xs.length, by simp, Nat.zero_le _, h0⟩, ?_⟩
  rintro i m σ H ⟨rfl, hi, p⟩
  have q := hl i σ H hi p
  by_cases hlt : i < xs.length
  · refine .inr ⟨⟨xs, xs[i], q, by simp [hlt]⟩, Pv (i + 1), fun σ' H' p' => ⟨xs.length - (i + 1), by omega, rfl, hlt, p'⟩, fun x H' y => ?_⟩
    obtain ⟨e, y⟩ := y
    subst e
    exact hs i x σ _ (y xs q) p
  · have e : i = xs.length := by omega
    subst e
    exact .inl ⟨⟨xs, q, Nat.le_refl _⟩, hd σ H p⟩
theorem for_tup {K : PySem.W.Frag} {a : Addr} {xs : List V} {g : TG} {tb : TS} {D : Ends} {σ : St} {H : Hp} (Pv : Nat → St → Hp → Prop) (h0 : Pv 0 σ H) (hl : ∀ i σ H, i ≤ xs.length → Pv i σ H → SqT K H a xs)
    (hs : ∀ i x σ H, xs[i]? = some x → Pv i σ H → g x σ H fun σ2 H2 => tb { D with nx := Pv (i + 1), ct := Pv (i + 1), bk := D.nx } σ2 H2) (hd : ∀ σ H, Pv xs.length σ H → D.nx σ H) :
    ∃ W : Nat → Nat → St → Hp → Prop, (∃ m, W 0 m σ H) ∧ ∀ i m σ H, W i m σ H →
      ((Itt K a).stop i H ∧ D.nx σ H) ∨ ((Itt K a).go i H ∧ ∃ N : St → Hp → Prop, (∀ σ' H', N σ' H' → ∃ m', m' < m ∧ W (i + 1) m' σ' H') ∧ ∀ x H', (Itt K a).yld i H x H' → g x σ H' fun σ2 H2 => tb { D with nx := N, ct := N, bk := D.nx } σ2 H2) := by
  refine ⟨fun i m σ H => m = xs.length - i ∧ i ≤ xs.length ∧ Pv i σ H, ⟨xs.length, by simp, Nat.zero_le _, h0⟩, ?_⟩
  rintro i m σ H ⟨rfl, hi, p⟩
  have q := hl i σ H hi p
  by_cases hlt : i < xs.length
  · refine .inr ⟨⟨xs, xs[i], q, by simp [hlt]⟩, Pv (i + 1), fun σ' H' p' => ⟨xs.length - (i + 1), by omega, rfl, hlt, p'⟩, fun x H' y => ?_⟩
    obtain ⟨e, y⟩ := y
    subst e
    exact hs i x σ _ (y xs q) p
  · have e : i = xs.length := by omega
    subst e
    exact .inl ⟨⟨xs, q, Nat.le_refl _⟩, hd σ H p⟩
theorem for_range {lo : Int} {n : Nat} {g : TG} {tb : TS} {D : Ends} {σ : St} {H : Hp} (Pv : Nat → St → Hp → Prop) (h0 : Pv 0 σ H)
    (hs : ∀ i σ H, i < n → Pv i σ H → g (.int (lo + i)) σ H fun σ2 H2 => tb { D with nx := Pv (i + 1), ct := Pv (i + 1), bk := D.nx } σ2 H2) (hd : ∀ σ H, Pv n σ H → D.nx σ H) :
    ∃ W : Nat → Nat → St → Hp → Prop, (∃ m, W 0 m σ H) ∧ ∀ i m σ H, W i m σ H →
      ((Itr lo n).stop i H ∧ D.nx σ H) ∨ ((Itr lo n).go i H ∧ ∃ N : St → Hp → Prop, (∀ σ' H', N σ' H' → ∃ m', m' < m ∧ W (i + 1) m' σ' H') ∧ ∀ x H', (Itr lo n).yld i H x H' → g x σ H' fun σ2 H2 => tb { D with nx := N, ct := N, bk := D.nx } σ2 H2) := by
  refine ⟨fun i m σ H => m = n - i ∧ i ≤ n ∧ Pv i σ H, ⟨n, by simp, Nat.zero_le _, h0⟩, ?_⟩
  rintro i m σ H ⟨rfl, hi, p⟩
  by_cases hlt : i < n
  · refine .inr ⟨hlt, Pv (i + 1), fun σ' H' p' => ⟨n - (i + 1), by omega, rfl, hlt, p'⟩, fun x H' y => ?_⟩
    obtain ⟨e, y⟩ := y
    subst e y
    exact hs i σ _ hlt p
  · have e : i = n := by omega
    subst e
    exact .inl ⟨Nat.le_refl _, hd σ H p⟩
theorem while_by {c : TT} {tb : TS} {D : Ends} {σ : St} {H : Hp} (Pv : St → Hp → Prop) (μ : St → Hp → Nat) (h0 : Pv σ H)
    (hs : ∀ σ H, Pv σ H → c σ H fun b H1 => if b = true then tb { D with nx := fun σ' H' => Pv σ' H' ∧ μ σ' H' < μ σ H, ct := fun σ' H' => Pv σ' H' ∧ μ σ' H' < μ σ H, bk := D.nx } σ H1 else D.nx σ H1)
    (mono : ∀ σ H Q Q', (∀ b H1, Q b H1 → Q' b H1) → c σ H Q → c σ H Q') : tWhile c tb D σ H := by
  refine ⟨fun m σ H => m = μ σ H ∧ Pv σ H, ⟨_, rfl, h0⟩, ?_⟩
  rintro m σ H ⟨rfl, p⟩
  refine mono σ H _ _ (fun b H1 q => ?_) (hs σ H p)
  cases b with
  | true => exact ⟨_, fun σ' H' ⟨p', l⟩ => ⟨_, l, rfl, p'⟩, q⟩
  | false => exact q
end L2
namespace L2
open PySem PySem.Spec PyProof.Rows
abbrev R2 := V → V → Hp → VK → Prop
def OpR (X : Cx) (f : Value → Value → Sem Value) (r : R2) : Prop :=
  ∀ (pins : List (Addr × Obj)) (s : Shared) (σ : St) (H : Hp) (x y : V) (v u : Value) (Q : VK), Inv X pins σ H s → RelV x v → RelV y u → r x y H Q →
    wpAny (model X.prog X.w) X.A (f v u) (EP X pins σ Q) X.xe s
def UnR (X : Cx) (f : Value → Sem Value) (r : V → Hp → VK → Prop) : Prop :=
  ∀ (pins : List (Addr × Obj)) (s : Shared) (σ : St) (H : Hp) (x : V) (v : Value) (Q : VK), Inv X pins σ H s → RelV x v → r x H Q →
    wpAny (model X.prog X.w) X.A (f v) (EP X pins σ Q) X.xe s
def CallR (X : Cx) (f : Value) (r : List V → Hp → VK → Prop) : Prop :=
  ∀ (pins : List (Addr × Obj)) (s : Shared) (σ : St) (H : Hp) (xs : List V) (us : List Value) (Q : VK), Inv X pins σ H s → Vals xs us → r xs H Q →
    wpAny (model X.prog X.w) X.A (call f us) (EP X pins σ Q) X.xe s
def TruR (X : Cx) (r : V → Hp → (Bool → Hp → Prop) → Prop) : Prop :=
  ∀ (pins : List (Addr × Obj)) (s : Shared) (σ : St) (H : Hp) (x : V) (v : Value) (Q : Bool → Hp → Prop), Inv X pins σ H s → RelV x v → r x H Q →
    wpAny (model X.prog X.w) X.A (truthy v) (TP X pins σ Q) X.xe s
def tOp (r : R2) (ta tb : TE) : TE := fun σ H Q => ta σ H fun x H1 => tb σ H1 fun y H2 => r x y H2 Q
def tUn (r : V → Hp → VK → Prop) (ta : TE) : TE := fun σ H Q => ta σ H fun x H1 => r x H1 Q
def rI (C : Int → Int → Prop) (g : Int → Int → V) : R2 := fun x y H Q => ∃ i j, x = .int i ∧ y = .int j ∧ C i j ∧ Q (g i j) H
def rI0 (g : Int → Int → V) : R2 := fun x y H Q => ∃ i j, x = .int i ∧ y = .int j ∧ Q (g i j) H
def rU (g : Int → V) : V → Hp → VK → Prop := fun x H Q => ∃ i, x = .int i ∧ Q (g i) H
section
variable {X : Cx} {a b c : Expr} {ta tb tc : TE} {pos : Pos}
theorem binT (ha : PE X a ta) (hb : PE X b tb) {pins : List (Addr × Obj)} {s : Shared} {σ : St} {H : Hp} {R : V → V → Hp → Prop} (I : Inv X pins σ H s)
    (h : ta σ H fun x H1 => tb σ H1 fun y H2 => R x y H2) {Q : Value → Shared → Prop} {f : Value → Value → Sem Value}
    (hf : ∀ v u s2 x y H2, Inv X pins σ H2 s2 → RelV x v → RelV y u → R x y H2 → wpAny (model X.prog X.w) X.A (f v u) Q X.xe s2) :
    wpAny (model X.prog X.w) X.A (eval a X.env) (fun v s₁ => wpAny (model X.prog X.w) X.A (eval b X.env) (fun u s₂ => wpAny (model X.prog X.w) X.A (f v u) Q X.xe s₂) X.xe s₁) X.xe s := by
  refine thn (ha pins s σ H _ I h) fun v s1 ⟨x, H1, I1, r1, q1⟩ => ?_
  refine thn (hb pins s1 σ H1 _ I1 q1) fun u s2 ⟨y, H2, I2, r2, q2⟩ => ?_
  exact hf v u s2 x y H2 I2 r1 r2 q2
theorem pe_op {op : Operator} {r : R2} (ho : OpR X (binaryOp op) r) (ha : PE X a ta) (hb : PE X b tb) : PE X (.BinOp a op b pos) (tOp r ta tb) := by
  intro pins s σ H Q I h
  exact wpAny_BinOp (binT ha hb I h fun v u s2 x y H2 I2 rx ry q => ho pins s2 σ H2 x y v u Q I2 rx ry q)
theorem pe_un {op : UnaryOp} {r : V → Hp → VK → Prop} (ho : UnR X (unaryOp op) r) (ha : PE X a ta) : PE X (.UnaryOp op a pos) (tUn r ta) := by
  intro pins s σ H Q I h
  exact UnaryOp_ (thn (ha pins s σ H _ I h) fun v s1 ⟨x, H1, I1, r1, q1⟩ => ho pins s1 σ H1 x v Q I1 r1 q1)
theorem opI {f : Value → Value → Sem Value} {C : Int → Int → Prop} {g : Int → Int → Int}
    (rule : ∀ (i j : Int) (t u : Tok) (s : Shared) (Q : Value → Shared → Prop) (E : Value → Shared → Prop), C i j → Q (.int (g i j) s.toks) { s with toks := s.toks + 1 } → wpAny (model X.prog X.w) X.A (f (.int i t) (.int j u)) Q E s) :
    OpR X f (rI C fun i j => .int (g i j)) := by
  intro pins s σ H x y v u Q I rx ry h
  obtain ⟨i, j, rfl, rfl, hc, q⟩ := h
  obtain ⟨t, rfl⟩ := rx
  obtain ⟨t', rfl⟩ := ry
  exact rule i j t t' s _ _ hc ⟨.int (g i j), H, I.tok _, ⟨_, rfl⟩, q⟩
theorem opI0 {f : Value → Value → Sem Value} {g : Int → Int → Int}
    (rule : ∀ (i j : Int) (t u : Tok) (s : Shared) (Q : Value → Shared → Prop) (E : Value → Shared → Prop), Q (.int (g i j) s.toks) { s with toks := s.toks + 1 } → wpAny (model X.prog X.w) X.A (f (.int i t) (.int j u)) Q E s) :
    OpR X f (rI0 fun i j => .int (g i j)) := by
  intro pins s σ H x y v u Q I rx ry h
  obtain ⟨i, j, rfl, rfl, q⟩ := h
  obtain ⟨t, rfl⟩ := rx
  obtain ⟨t', rfl⟩ := ry
  exact rule i j t t' s _ _ ⟨.int (g i j), H, I.tok _, ⟨_, rfl⟩, q⟩
theorem opB0 {f : Value → Value → Sem Value} {g : Int → Int → Bool}
    (rule : ∀ (i j : Int) (t u : Tok) (s : Shared) (Q : Value → Shared → Prop) (E : Value → Shared → Prop), Q (.bool (g i j)) s → wpAny (model X.prog X.w) X.A (f (.int i t) (.int j u)) Q E s) :
    OpR X f (rI0 fun i j => .bl (g i j)) := by
  intro pins s σ H x y v u Q I rx ry h
  obtain ⟨i, j, rfl, rfl, q⟩ := h
  obtain ⟨t, rfl⟩ := rx
  obtain ⟨t', rfl⟩ := ry
  exact rule i j t t' s _ _ ⟨.bl (g i j), H, I, rfl, q⟩
def CMul (i j : Int) : Prop := (-(2 ^ 64) < i ∧ i < 2 ^ 64) ∨ (-(2 ^ 64) < j ∧ j < 2 ^ 64)
theorem CMul.ok {i j : Int} (h : CMul i j) : IntMulOk i j := by
  rcases h with ⟨h1, h2⟩ | ⟨h1, h2⟩
  · exact .of_left (intBits_le_64 h1 h2)
  · exact .of_right (intBits_le_64 h1 h2)
theorem op_add : OpR X (binaryOp .Add) (rI0 fun i j => .int (i + j)) := opI0 fun _ _ _ _ _ _ _ q => add_int q
theorem op_sub : OpR X (binaryOp .Sub) (rI0 fun i j => .int (i - j)) := opI0 fun _ _ _ _ _ _ _ q => sub_int q
theorem op_mod : OpR X (binaryOp .Mod) (rI (fun _ j => 0 < j) fun i j => .int (i % j)) := opI fun i j _ _ _ _ _ hc q => by
  have h1 : (0 : Int) < j := hc
  exact mod_int' (by omega) (by rw [Int.fmod_eq_emod_of_nonneg i (by omega)]; exact q)
theorem op_modN : OpR X (binaryOp .Mod) (rI (fun _ j => j ≠ 0) fun i j => .int (i.fmod j)) := opI fun _ _ _ _ _ _ _ hc q => mod_int' hc q
theorem iop_add : OpR X (inplaceOp .Add) (rI0 fun i j => .int (i + j)) := opI0 fun _ _ _ _ _ _ _ q => iadd_int q
theorem iop_sub : OpR X (inplaceOp .Sub) (rI0 fun i j => .int (i - j)) := opI0 fun _ _ _ _ _ _ _ q => isub_int q
theorem unI {f : Value → Sem Value} {g : Int → Int}
    (rule : ∀ (i : Int) (t : Tok) (s : Shared) (Q : Value → Shared → Prop) (E : Value → Shared → Prop), Q (.int (g i) s.toks) { s with toks := s.toks + 1 } → wpAny (model X.prog X.w) X.A (f (.int i t)) Q E s) :
    UnR X f (rU fun i => .int (g i)) := by
  intro pins s σ H x v Q I rx h
  obtain ⟨i, rfl, q⟩ := h
  obtain ⟨t, rfl⟩ := rx
  exact rule i t s _ _ ⟨.int (g i), H, I.tok _, ⟨_, rfl⟩, q⟩
theorem un_neg : UnR X (unaryOp .USub) (rU fun i => .int (-i)) := unI fun _ _ _ _ _ q => neg_int q
end
def scal : V → V → Bool
  | .non, .non => true | .non, .int _ => true | .int _, .non => true | .non, .bl _ => true | .bl _, .non => true | .non, .str _ => true | .str _, .non => true
  | .int _, .int _ => true | .bl _, .bl _ => true | .str _, .str _ => true | .byt _, .byt _ => true
  | .int _, .str _ => true | .str _, .int _ => true | .bl _, .str _ => true | .str _, .bl _ => true
  | _, _ => false
def rEq : R2 := fun x y H Q => scal x y = true ∧ Q (.bl (decide (x = y))) H
def rNe : R2 := fun x y H Q => scal x y = true ∧ Q (.bl (!decide (x = y))) H
theorem dec_int {i j : Int} : decide (V.int i = V.int j) = (i == j) := by
  rw [Bool.eq_iff_iff]
  simp
theorem dec_bl {i j : Bool} : decide (V.bl i = V.bl j) = (i == j) := by
  rw [Bool.eq_iff_iff]
  simp
theorem dec_str {i j : Str} : decide (V.str i = V.str j) = (i == j) := by
  rw [Bool.eq_iff_iff]
  simp
theorem dec_byt {i j : Array UInt8} : decide (V.byt i = V.byt j) = (i.toList == j.toList) := by
  rw [Bool.eq_iff_iff]
  cases i
  cases j
  simp
section
variable {X : Cx} {a b c : Expr} {ta tb tc : TE} {pos : Pos}
theorem fin_bl {pins : List (Addr × Obj)} {σ : St} {H : Hp} {s : Shared} {Q : VK} {k k' : Bool} (I : Inv X pins σ H s) (q : Q (.bl k) H) (e : k = k') : EP X pins σ Q (.bool k') s := by
  subst e
  exact ⟨.bl k, H, I, rfl, q⟩
theorem op_eq : OpR X (compareOp .Eq) rEq := by
  intro pins s σ H x y v u Q I rx ry h
  obtain ⟨hs, q⟩ := h
  cases x with
  | non =>
    cases rx
    cases y with
    | non => cases ry; exact PySem.EqNone.eq_none_none (fin_bl I q (by simp))
    | bl j => cases ry; exact PySem.EqNone.eq_none_bool (fin_bl I q (by simp))
    | int j => obtain ⟨t', rfl⟩ := ry; exact PySem.EqNone.eq_none_int (fin_bl I q (by simp))
    | str j => obtain ⟨t', rfl⟩ := ry; exact PySem.EqNone.eq_none_str (fin_bl I q (by simp))
    | _ => exact absurd (show false = true from hs) Bool.false_ne_true
  | bl i =>
    cases rx
    cases y with
    | non => cases ry; exact PySem.EqNone.eq_bool_none (fin_bl I q (by simp))
    | bl j => cases ry; exact eq_bool (fin_bl I q dec_bl)
    | str j => obtain ⟨t', rfl⟩ := ry; exact PySem.EqMixed.eq_bool_str (fin_bl I q (by simp))
    | _ => exact absurd (show false = true from hs) Bool.false_ne_true
  | int i =>
    obtain ⟨t, rfl⟩ := rx
    cases y with
    | non => cases ry; exact PySem.EqNone.eq_int_none (fin_bl I q (by simp))
    | int j => obtain ⟨t', rfl⟩ := ry; exact eq_int (fin_bl I q dec_int)
    | str j => obtain ⟨t', rfl⟩ := ry; exact PySem.EqMixed.eq_int_str (fin_bl I q (by simp))
    | _ => exact absurd (show false = true from hs) Bool.false_ne_true
  | str i =>
    obtain ⟨t, rfl⟩ := rx
    cases y with
    | non => cases ry; exact PySem.EqNone.eq_str_none (fin_bl I q (by simp))
    | bl j => cases ry; exact PySem.EqMixed.eq_str_bool (fin_bl I q (by simp))
    | int j => obtain ⟨t', rfl⟩ := ry; exact PySem.EqMixed.eq_str_int (fin_bl I q (by simp))
    | str j => obtain ⟨t', rfl⟩ := ry; exact eq_str (fin_bl I q dec_str)
    | _ => exact absurd (show false = true from hs) Bool.false_ne_true
  | byt i =>
    obtain ⟨t, rfl⟩ := rx
    cases y with
    | byt j => obtain ⟨t', rfl⟩ := ry; exact PySem.W.eq_bytes (fin_bl I q dec_byt)
    | _ => exact absurd (show false = true from hs) Bool.false_ne_true
  | _ => cases y <;> exact absurd (show false = true from hs) Bool.false_ne_true
theorem op_ne : OpR X (compareOp .NotEq) rNe := by
  intro pins s σ H x y v u Q I rx ry h
  obtain ⟨hs, q⟩ := h
  cases x with
  | non =>
    cases rx
    cases y with
    | non => cases ry; exact PySem.EqNone.ne_none_none (fin_bl I q (by simp))
    | bl j => cases ry; exact PySem.EqNone.ne_none_bool (fin_bl I q (by simp))
    | int j => obtain ⟨t', rfl⟩ := ry; exact PySem.EqNone.ne_none_int (fin_bl I q (by simp))
    | str j => obtain ⟨t', rfl⟩ := ry; exact PySem.EqNone.ne_none_str (fin_bl I q (by simp))
    | _ => exact absurd (show false = true from hs) Bool.false_ne_true
  | bl i =>
    cases rx
    cases y with
    | non => cases ry; exact PySem.EqNone.ne_bool_none (fin_bl I q (by simp))
    | bl j => cases ry; exact ne_bool (fin_bl I q (congrArg not dec_bl))
    | str j => obtain ⟨t', rfl⟩ := ry; exact PySem.EqMixed.ne_bool_str (fin_bl I q (by simp))
    | _ => exact absurd (show false = true from hs) Bool.false_ne_true
  | int i =>
    obtain ⟨t, rfl⟩ := rx
    cases y with
    | non => cases ry; exact PySem.EqNone.ne_int_none (fin_bl I q (by simp))
    | int j => obtain ⟨t', rfl⟩ := ry; exact ne_int (fin_bl I q (congrArg not dec_int))
    | str j => obtain ⟨t', rfl⟩ := ry; exact PySem.EqMixed.ne_int_str (fin_bl I q (by simp))
    | _ => exact absurd (show false = true from hs) Bool.false_ne_true
  | str i =>
    obtain ⟨t, rfl⟩ := rx
    cases y with
    | non => cases ry; exact PySem.EqNone.ne_str_none (fin_bl I q (by simp))
    | bl j => cases ry; exact PySem.EqMixed.ne_str_bool (fin_bl I q (by simp))
    | int j => obtain ⟨t', rfl⟩ := ry; exact PySem.EqMixed.ne_str_int (fin_bl I q (by simp))
    | str j => obtain ⟨t', rfl⟩ := ry; exact ne_str (fin_bl I q (congrArg not dec_str))
    | _ => exact absurd (show false = true from hs) Bool.false_ne_true
  | byt i =>
    obtain ⟨t, rfl⟩ := rx
    cases y with
    | byt j => obtain ⟨t', rfl⟩ := ry; exact PySem.W.ne_bytes (fin_bl I q (congrArg not dec_byt))
    | _ => exact absurd (show false = true from hs) Bool.false_ne_true
  | _ => cases y <;> exact absurd (show false = true from hs) Bool.false_ne_true
theorem op_lt : OpR X (compareOp .Lt) (rI0 fun i j => .bl (decide (i < j))) := opB0 fun _ _ _ _ _ _ _ q => lt_int q
theorem op_le : OpR X (compareOp .LtE) (rI0 fun i j => .bl (decide (i ≤ j))) := opB0 fun _ _ _ _ _ _ _ q => le_int q
theorem op_gt : OpR X (compareOp .Gt) (rI0 fun i j => .bl (decide (j < i))) := opB0 fun _ _ _ _ _ _ _ q => gt_int q
theorem op_ge : OpR X (compareOp .GtE) (rI0 fun i j => .bl (decide (j ≤ i))) := opB0 fun _ _ _ _ _ _ _ q => ge_int q
theorem op_isN : OpR X (compareOp .Is) (fun x y H Q => y = .non ∧ Q (.bl (decide (x = .non))) H) := by
  intro pins s σ H x y v u Q I rx ry h
  obtain ⟨rfl, q⟩ := h
  cases ry
  refine is_none_gen (fin_bl I q ?_)
  cases x <;> first
    | (cases rx; rfl)
    | (obtain ⟨t, rfl⟩ := rx; rfl)
theorem nomark (b : Expr) {op : CmpOp} (h : op ≠ .In := by decide) (h2 : op ≠ .NotIn := by decide) : behindInMarks op b = false := by
  have e1 : (op == CmpOp.In) = false := by cases op <;> first | rfl | exact absurd rfl h
  have e2 : (op == CmpOp.NotIn) = false := by cases op <;> first | rfl | exact absurd rfl h2
  cases b <;> simp [behindInMarks, e1, e2]
theorem pe_cmpR {op : CmpOp} {r : R2} (ho : OpR X (compareOp op) r) (ha : PE X a ta) (hb : PE X b tb) (hm : behindInMarks op b = false) : PE X (.Compare a [op] [b] pos) (tOp r ta tb) := by
  intro pins s σ H Q I h
  exact wpAny_Compare1 (binT ha hb I h fun v u s2 x y H2 I2 rx ry q => ho pins s2 σ H2 x y v u Q I2 rx ry q) hm
def tTest (t : TE) : TT := fun σ H Q => t σ H fun x H' => ∃ k, x = .bl k ∧ Q k H'
theorem pt_cmpR {op : CmpOp} {r : R2} (ho : OpR X (compareOp op) r) (ha : PE X a ta) (hb : PE X b tb) (hm : behindInMarks op b = false) : PT X (.Compare a [op] [b] pos) (tTest (tOp r ta tb)) := by
  intro pins s σ H Q I h
  refine wpAny_isTrue_Compare1 (thn (ha pins s σ H _ I h) fun v s1 ⟨x, H1, I1, r1, q1⟩ => thn (hb pins s1 σ H1 _ I1 q1) fun u s2 ⟨y, H2, I2, r2, q2⟩ =>
    thn (ho pins s2 σ H2 x y v u _ I2 r1 r2 q2) fun c s3 ⟨z, H3, I3, r3, k, e, q3⟩ => ?_) hm
  subst e
  cases r3
  exact wpAny_truthy_bool ⟨H3, I3, q3⟩
def tChain (r r' : R2) (ta tb tc : TE) : TE := fun σ H Q => ta σ H fun x H1 => tb σ H1 fun y H2 => r x y H2 fun z H3 => ∃ k, z = .bl k ∧
  (if k = true then tc σ H3 fun w' H4 => r' y w' H4 Q else Q (.bl false) H3)
def TruV (K : PySem.W.Frag) (x : V) (H : Hp) (k : Bool) : Prop :=
  match x with
  | .non => k = false
  | .bl b => k = b
  | .int i => k = (i != 0)
  | .str y => y.length ≤ sizeLine ∧ k = ((y.length : Int) != 0)
  | .byt y => y.size ≤ sizeLine ∧ k = ((y.size : Int) != 0)
  | .ref p => (∃ xs, SqL K H p xs ∧ k = !xs.isEmpty) ∨ (∃ xs, SqT K H p xs ∧ k = !xs.isEmpty) ∨ ∃ kvs, H p = some (.dK kvs) ∧ k = !kvs.isEmpty
  | _ => False
theorem isEmpty_kv {κ : Type} {kvs : List (κ × V)} {vs : List (κ × Value)} (r : KV kvs vs) : (!vs.isEmpty) = !kvs.isEmpty := by
  cases r <;> rfl
theorem isEmpty_of {xs : List V} {its : List Value} (r : Vals xs its) : (!its.toArray.isEmpty) = !xs.isEmpty := by
  cases r <;> simp
theorem line63 : (sizeLine : Nat) < 2 ^ 63 := by rw [sizeLine_eq]; decide
theorem tru_ok : TruR X (fun x H Q => ∃ k, TruV X.K x H k ∧ Q k H) := by
  intro pins s σ H x v Q I rx h
  obtain ⟨k, e, q⟩ := h
  have hl := line63
  have hs : sizeLine = 16777216 := sizeLine_eq
  cases x with
  | non =>
    cases rx
    have e' : k = false := e
    subst e'
    exact truthy_none ⟨H, I, q⟩
  | bl b =>
    cases rx
    have e' : k = b := e
    subst e'
    exact wpAny_truthy_bool ⟨H, I, q⟩
  | int i =>
    obtain ⟨t, rfl⟩ := rx
    have e' : k = (i != 0) := e
    subst e'
    exact PySem.P.truthy_int ⟨H, I, q⟩
  | str y =>
    obtain ⟨t, rfl⟩ := rx
    obtain ⟨hy, e'⟩ : y.length ≤ sizeLine ∧ k = ((y.length : Int) != 0) := e
    subst e'
    exact PySem.P.truthy_str (by omega) ⟨H, I.tok _, q⟩
  | byt y =>
    obtain ⟨t, rfl⟩ := rx
    obtain ⟨hy, e'⟩ : y.size ≤ sizeLine ∧ k = ((y.size : Int) != 0) := e
    subst e'
    exact PySem.W.truthy_bytes (by omega) ⟨H, I.tok _, q⟩
  | ref p =>
    cases rx
    have e' : (∃ xs, SqL X.K H p xs ∧ k = !xs.isEmpty) ∨ (∃ xs, SqT X.K H p xs ∧ k = !xs.isEmpty) ∨ ∃ kvs, H p = some (.dK kvs) ∧ k = !kvs.isEmpty := e
    rcases e' with ⟨xs, hx, e'⟩ | ⟨xs, hx, e'⟩ | ⟨kvs, hx, e'⟩
    · subst e'
      obtain ⟨its, r, pl, hz⟩ := I.list hx
      have hlen := r.length
      exact wpAny_truthy_list pl.isList (by simp only [List.size_toArray]; omega) ⟨H, I.tok _, by rw [isEmpty_of r]; exact q⟩
    · subst e'
      obtain ⟨its, r, pl, hz⟩ := I.tuple hx
      have hlen := r.length
      exact truthy_tuple pl (by simp only [List.size_toArray]; omega) ⟨H, I.tok _, by rw [isEmpty_of r]; exact q⟩
    · subst e'
      obtain ⟨hz, hS, vs, r, m⟩ : kvs.length ≤ sizeLine ∧ (p == sysModules) = false ∧ ∃ vs, KV kvs vs ∧ s.heap.DictOf (mixKind X.prog X.w) p vs := I.hok p _ hx
      have hlen : kvs.length = vs.length := Paired.length r
      exact wpAny_truthy_dict hS m (by omega) ⟨H, I.tok _, by rw [isEmpty_kv r]; exact q⟩
  | _ => exact (show False from e).elim
theorem vals1 {x : V} {us : List Value} (r : Vals [x] us) : ∃ u, us = [u] ∧ RelV x u := by
  cases r with
  | cons r1 r2 => cases r2; exact ⟨_, rfl, r1⟩
theorem vals2 {x y : V} {us : List Value} (r : Vals [x, y] us) : ∃ u w', us = [u, w'] ∧ RelV x u ∧ RelV y w' := by
  cases r with
  | cons r1 r2 =>
    cases r2 with
    | cons r3 r4 => cases r4; exact ⟨_, _, rfl, r1, r3⟩
theorem call_abs : CallR X (.builtin "abs") (fun xs H Q => ∃ i, xs = [.int i] ∧ Q (.int (if i < 0 then -i else i)) H) := by
  intro pins s σ H xs us Q I r h
  obtain ⟨i, rfl, q⟩ := h
  obtain ⟨u, rfl, t, rfl⟩ := vals1 r
  exact call_abs_int fun u tk => ⟨.int (if i < 0 then -i else i), H, I.tok _, ⟨_, rfl⟩, q⟩
theorem call_max2 (hc : X.calm = true) : CallR X (.builtin "max") (fun xs H Q => ∃ i j, xs = [.int i, .int j] ∧ Q (.int (if j > i then j else i)) H) := by
  intro pins s σ H xs us Q I r h
  obtain ⟨i, j, rfl, q⟩ := h
  obtain ⟨u, w', rfl, ⟨t, rfl⟩, ⟨t', rfl⟩⟩ := vals2 r
  refine max_two_ints (I.ok.hd hc) fun h' tk k => ⟨_, H, I.kept k, ?_, q⟩
  by_cases hj : j > i
  · rw [if_pos hj, if_pos hj]; exact ⟨_, rfl⟩
  · rw [if_neg hj, if_neg hj]; exact ⟨_, rfl⟩
end
end L2
namespace L2
open PySem PySem.Spec PyProof.Rows
structure ObjM (h : Heap) (x dx C : Addr) (mA : Str → Option Value) : Prop where
  obj : h.get? x = some (PySem.W.instObj C dx)
  ns : h.Ns1 dx mA
  ne : dx ≠ x
theorem lookIn_ns {h : Heap} {dx : Addr} {mA : Str → Option Value} (n : h.Ns1 dx mA) : ∃ od, h.get? dx = some od ∧ ∀ name, PySem.W.lookIn name od = some (mA name) := by
  obtain ⟨o, es, ep, ho, hd, hk, _, hm⟩ := n
  refine ⟨o, ho, fun name => ?_⟩
  have e := hm name
  unfold nsFind findBy at e
  rw [← Array.find?_toList] at e
  unfold PySem.W.lookIn
  rw [hd]
  dsimp only
  split
  · rename_i y q
    rw [q] at e
    exact congrArg some e
  · rename_i q
    rw [q] at e
    have a : es.toList.any (·.refKey) = false := by
      rw [List.any_eq_false]
      intro y hy
      obtain ⟨z, t, hkey⟩ := hk y (Array.mem_toList_iff.mp hy)
      simp [DictEntry.refKey, hkey]
    have a' : ¬ es.toList.any (·.refKey) = true := by rw [a]; exact Bool.false_ne_true
    rw [if_neg a']
    exact congrArg some e
theorem ObjM.look {h : Heap} {x dx C : Addr} {mA : Str → Option Value} (I : ObjM h x dx C mA) : ∃ od, PySem.W.InstAt h x (PySem.W.instObj C dx) C (some od) ∧ ∀ name, PySem.W.lookIn name od = some (mA name) :=
  let ⟨od, ho, hl⟩ := lookIn_ns I.ns
  ⟨od, ⟨I.obj, rfl, rfl, ho⟩, hl⟩
section
variable {prog : Program} {w : World} {A : Around} {E : Value → Shared → Prop} {s : Shared} {K : PySem.W.Frag} {x dx C f : Addr} {mA : Str → Option Value} {name : Str} {v : Value}
end
section
variable {P : Program} {w : World} {H H' : Hp} {h h' : Heap} {a C dx : Addr} {fs fs' : List (Str × V)}
theorem ins_get (hok : HOk P w H h) (e : H a = some (.ins C dx fs)) : ∃ mA, ObjM h a dx C mA ∧ (∀ f, RelO (fs.lookup f) (mA f)) ∧ PySem.Within mA (fs.map (·.1)) ∧ fs.length ≤ 1000 ∧ H dx = some (.own a) := by
  obtain ⟨d, z, ne, ob, mA, n, r, q⟩ := (show ObjOk P w H h a (.ins C dx fs) from hok a _ e)
  exact ⟨mA, ⟨ob, n, ne⟩, r, q, z, d⟩
end
structure Cls (K : PySem.W.Frag) (C : Addr) : Prop where
  pg : PySem.W.plainGet K C Str.empty = true
  hd : PySem.W.hasDictIn K C = true
  po : PySem.W.plainOver K C = true
  sa : PySem.W.findIn K (.ref C) "__setattr__" = some (some (.builtin "object.__setattr__"))
theorem Cls.get {K : PySem.W.Frag} {C : Addr} (c : Cls K C) (f : Str) : PySem.W.plainGet K C f = true := c.pg
structure Con (K : PySem.W.Frag) (C : Addr) (f : Str) (v : V) (u : Value) : Prop where
  at_ : PySem.W.findIn K (.ref C) f = some (some u)
  rel : RelV v u
  get : PySem.W.specialIn K u "__get__" = some none
  cp : PySem.W.copiedNames.contains f = false
structure Meth (K : PySem.W.Frag) (C : Addr) (m : Str) (f : Addr) : Prop where
  at_ : PySem.W.findIn K (.ref C) m = some (some (.ref f))
  fn : PySem.W.isFn K (.ref f) = true
  kp : PySem.W.keepIn K (.ref f) = true
section
variable {X : Cx} {pins : List (Addr × Obj)} {σ : St} {H : Hp} {s : Shared} {a C dx : Addr} {fs : List (Str × V)} {f : Str} {v : V} {A : Around} {E : Value → Shared → Prop}
theorem Inv.made (I : Inv X pins σ H s) : Inv X pins σ (upd (upd H s.heap.objs.size (.own (s.heap.objs.size + 1))) (s.heap.objs.size + 1) (.ins C s.heap.objs.size []))
    { s with heap := (s.heap.push PySem.W.emptyDict).push (PySem.W.instObj C s.heap.objs.size) } := by
  have e1 : (s.heap.push PySem.W.emptyDict).get? s.heap.objs.size = some PySem.W.emptyDict := Heap.get?_push_size s.heap rfl
  have e2 : ((s.heap.push PySem.W.emptyDict).push (PySem.W.instObj C s.heap.objs.size)).get? (s.heap.objs.size + 1) = some (PySem.W.instObj C s.heap.objs.size) := by
    have := Heap.get?_push_size (s.heap.push PySem.W.emptyDict) (o := PySem.W.instObj C s.heap.objs.size) rfl
    rwa [Heap.size_push] at this
  have e3 : (s.heap.push PySem.W.emptyDict).Ns s.heap.objs.size (fun _ => none) := ⟨PySem.W.emptyDict, #[], _, e1, rfl, (fun e he => absurd he (by simp)), fun _ => rfl⟩
  have I1 := I.laid (a := s.heap.objs.size) (o := .own (s.heap.objs.size + 1)) (h' := s.heap.push PySem.W.emptyDict) (t' := s.toks) (fun b u q => Heap.get?_push_of_some _ q) (Nat.le_refl _) ⟨_, e1⟩
  refine I1.laid (a := s.heap.objs.size + 1) (o := .ins C s.heap.objs.size []) (t' := s.toks) (fun b u q => Heap.get?_push_of_some _ q) (Nat.le_of_eq (Heap.size_push _ _)) ?_
  have ne : s.heap.objs.size ≠ s.heap.objs.size + 1 := Nat.ne_of_lt (Nat.lt_succ_self _)
  refine ⟨by rw [upd_ne ne, upd_same], Nat.zero_le _, ne, e2, fun _ => none, (Heap.Ns1.of_empty e3).at fun o q => Heap.get?_push_of_some _ q, fun _ => True.intro, fun y hy => absurd rfl hy⟩
end
section
variable {X : Cx} {o e value : Expr} {f : Str} {pos pos' tpos : Pos} {ta tv : TE}
end
section
variable {X : Cx} {pins : List (Addr × Obj)} {σ : St} {H : Hp} {s : Shared} {A : Around} {E : Value → Shared → Prop} {Q : Value → Shared → Prop} {c : Value} {b : Bool}
inductive TyOf (K : PySem.W.Frag) (H : Hp) : V → Value → Prop where
  | non : TyOf K H .non (.type "NoneType")
  | bl (x : Bool) : TyOf K H (.bl x) (.type "bool")
  | int (i : Int) : TyOf K H (.int i) (.type "int")
  | str (x : Str) : TyOf K H (.str x) (.type "str")
  | flt (x : UInt64) : TyOf K H (.flt x) (.type "float")
  | lst {a : Addr} {xs : List V} (e : H a = some (.lst xs)) : TyOf K H (.ref a) (.type "list")
  | frz {a : Addr} {o : Obj} {xs : List V} (e : H a = some (.frz o (.lst xs))) : TyOf K H (.ref a) (.type "list")
  | tup {a : Addr} {xs : List V} (e : H a = some (.tup xs)) : TyOf K H (.ref a) (.type "tuple")
  | dK {a : Addr} {kvs : List (Key × V)} (e : H a = some (.dK kvs)) : TyOf K H (.ref a) (.type "dict")
  | dT {a : Addr} {kvs : List (List Key × V)} (e : H a = some (.dT kvs)) : TyOf K H (.ref a) (.type "dict")
  | ins {a C dx : Addr} {fs : List (Str × V)} (e : H a = some (.ins C dx fs)) (cl : Cls K C) (ha : PySem.W.findIn K (.ref C) "__class__" = some (some (.builtin "object.__class__")))
      (hn : PySem.W.specialIn K (.builtin "object.__class__") "__get__" = some (some (.builtin "getset_descriptor.__get__"))) (htk : PySem.W.takesIn K (.builtin "object.__class__") = some true)
      (hm : PySem.W.mroIn K C (.type "object") = some true) : TyOf K H (.ref a) (.ref C)
theorem isinst_ok {x : V} {u t : Value} (I : Inv X pins σ H s) (rx : RelV x u) (ty : TyOf X.K H x t) (e : PySem.W.kitOne X.K t c = some b) (h : ∀ tk, Q (.bool b) { s with toks := tk }) :
    wpAny (model X.prog X.w) A (call (.builtin "isinstance") [u, c]) Q E s := by
  cases ty with
  | non => cases (show u = Value.none from rx); exact PySem.W.kia_one PySem.W.kitx_none I.kIn True.intro e (fun z => nomatch z) h
  | bl y => cases (show u = Value.bool y from rx); exact PySem.W.kia_one PySem.W.kitx_bool I.kIn True.intro e (fun z => nomatch z) h
  | int i => obtain ⟨t, q⟩ := (show ∃ t, u = Value.int i t from rx); cases q; exact PySem.W.kia_one PySem.W.kitx_int I.kIn True.intro e (fun z => nomatch z) h
  | str y => obtain ⟨t, q⟩ := (show ∃ t, u = Value.str y t from rx); cases q; exact PySem.W.kia_one PySem.W.kitx_str I.kIn True.intro e (fun z => nomatch z) h
  | flt y => obtain ⟨t, q⟩ := (show ∃ t, u = Value.float y t from rx); cases q; exact PySem.W.kia_one PySem.W.kitx_float I.kIn True.intro e (fun z => nomatch z) h
  | @lst a xs ea =>
    cases (show u = Value.ref a from rx)
    obtain ⟨_, _, n, _, h1⟩ := (show ObjOk X.prog X.w H s.heap a (.lst xs) from I.hok a _ ea)
    exact PySem.W.kia_one PySem.W.kitx_list I.kIn ⟨_, h1, rfl⟩ e (fun z => nomatch z) h
  | @frz a ob xs ea =>
    cases (show u = Value.ref a from rx)
    obtain ⟨_, _, _, n, _, h1⟩ := (show ObjOk X.prog X.w H s.heap a (.frz ob (.lst xs)) from I.hok a _ ea)
    exact PySem.W.kia_one PySem.W.kitx_list I.kIn ⟨_, h1, rfl⟩ e (fun z => nomatch z) h
  | @tup a xs ea =>
    cases (show u = Value.ref a from rx)
    obtain ⟨_, _, _, p⟩ := (show ObjOk X.prog X.w H s.heap a (.tup xs) from I.hok a _ ea)
    obtain ⟨o, h1, h2, _⟩ := p
    exact PySem.W.kia_one PySem.W.kitx_tuple I.kIn ⟨o, h1, h2⟩ e (fun z => nomatch z) h
  | @dK a kvs ea =>
    cases (show u = Value.ref a from rx)
    obtain ⟨_, _, vs, _, p⟩ := (show ObjOk X.prog X.w H s.heap a (.dK kvs) from I.hok a _ ea)
    obtain ⟨o, es, ep, h1, h2, _⟩ := p
    exact PySem.W.kia_one PySem.W.kitx_dict I.kIn ⟨o, h1, h2.1⟩ e (fun z => nomatch z) h
  | @dT a kvs ea =>
    cases (show u = Value.ref a from rx)
    obtain ⟨_, _, xs, _, o, es, ep, h1, h2, _⟩ := (show ObjOk X.prog X.w H s.heap a (.dT kvs) from I.hok a _ ea)
    exact PySem.W.kia_one PySem.W.kitx_dict I.kIn ⟨o, h1, h2.1⟩ e (fun z => nomatch z) h
  | @ins a C dx fs ea cl ha hn htk hm =>
    cases (show u = Value.ref a from rx)
    obtain ⟨mA, O, _⟩ := ins_get I.hok ea
    obtain ⟨od, J, _⟩ := O.look
    exact PySem.W.kia_one (PySem.W.kitx_own (cl.get _) cl.hd ha hn htk hm) I.kIn J e (fun z => nomatch z) h
end
end L2
namespace L2
open PySem PySem.Spec PyProof.Rows
structure Room (k : Nat) (A : Around) : Prop where
  hd : A.handled = none
  dp : A.depth + 3 * k + 105 < recursionLimit
  un : A.units + 16 * k + 200 < cLine
theorem Room.mono {j k : Nat} {A : Around} (r : Room k A) (h : j ≤ k) : Room j A := ⟨r.hd, by have := r.dp; omega, by have := r.un; omega⟩
theorem Room.deeper {k : Nat} {A : Around} (r : Room (k + 1) A) (env : Env) : Room k (A.deeper env) :=
  ⟨r.hd, by have := r.dp; show A.depth + 1 + 3 * k + 105 < _; omega, by have := r.un; show A.units + 3 + 16 * k + 200 < _; omega⟩
theorem Room.depth {k : Nat} {A : Around} (r : Room k A) : A.depth < recursionLimit := by have := r.dp; omega
theorem Room.units {k : Nat} {A : Around} (r : Room k A) : A.units + 64 < cLine := by have := r.un; omega
theorem Room.units0 {k : Nat} {A : Around} (r : Room k A) : A.units < cLine := by have := r.un; omega
def tNil : TA := fun _ H Q => Q [] H
def tCons (ta : TE) (tr : TA) : TA := fun σ H Q => ta σ H fun x H1 => tr σ H1 fun xs H2 => Q (x :: xs) H2
section
variable {X : Cx} {e : Expr} {es : List Expr} {te : TE} {t : TA} {pos : Pos}
theorem pa_nil : PA X [] tNil := fun _ _ _ _ H Q I h => Calls.spliced_nil ⟨[], H, I, .nil, h⟩
theorem pa_cons (ha : PE X e te) (hr : PA X es t) (hs : starEach (e :: es) X.env = (false, eval e X.env) :: starEach es X.env := by rfl) : PA X (e :: es) (tCons te t) := by
  intro pos pins s σ H Q I h
  rw [hs]
  show wpAny _ _ (spliced ((false, eval e X.env) :: backTo pos (starEach es X.env))) _ _ s
  refine Calls.spliced_cons (thn (ha pins s σ H _ I h) fun u s1 ⟨x, H1, I1, r1, q1⟩ => ?_)
  exact thn (hr pos pins s1 σ H1 _ I1 q1) fun us s2 ⟨xs, H2, I2, r2, q2⟩ => ⟨x :: xs, H2, I2, .cons r1 r2, q2⟩
def tTup (t : TA) : TE := fun σ H Q => t σ H fun xs H1 => xs.length ≤ sizeLine ∧ ∀ p, H1 p = none → Q (.ref p) (upd H1 p (.tup xs))
def tLst (t : TA) : TE := fun σ H Q => t σ H fun xs H1 => xs.length ≤ sizeLine ∧ ∀ p, H1 p = none → Q (.ref p) (upd H1 p (.lst xs))
theorem pe_tup {x1} (h : PA X es t) : PE X (.Tuple es x1 pos) (tTup t) := by
  intro pins s σ H Q I hq
  refine wpAny_Tuple_spliced (thn (h pos pins s σ H _ I hq) fun us s1 ⟨xs, H1, I1, r, z, q⟩ => ⟨by rw [← r.length]; exact z, ?_⟩)
  have hf : H1 s1.heap.objs.size = none := I1.hok.fresh (Nat.le_refl _)
  refine ⟨.ref s1.heap.objs.size, upd H1 s1.heap.objs.size (.tup xs), I1.laid (t' := s1.toks) (fun b u e => Heap.get?_push_of_some _ e) (Nat.le_refl _) ?_, rfl, q _ hf⟩
  exact ⟨z, us, r, ⟨_, Heap.get?_push_size _ rfl, rfl, _, rfl⟩⟩
theorem pe_lst (h : PA X es t) : PE X (.List es pos) (tLst t) := by
  intro pins s σ H Q I hq
  refine wpAny_List_spliced (thn (h pos pins s σ H _ I hq) fun us s1 ⟨xs, H1, I1, r, z, q⟩ => ⟨by rw [← r.length]; exact z, ?_⟩)
  have hf : H1 s1.heap.objs.size = none := I1.hok.fresh (Nat.le_refl _)
  refine ⟨.ref s1.heap.objs.size, upd H1 s1.heap.objs.size (.lst xs), I1.laid (t' := s1.toks) (fun b u e => Heap.get?_push_of_some _ e) (Nat.le_refl _) ?_, rfl, q _ hf⟩
  exact ⟨z, us, 0, r, Heap.get?_push_size _ rfl⟩
end
abbrev Sp := List V → Hp → VK → XK → Prop
abbrev CXT := List Env → Hp → Shared → XK → Value → Shared → Prop
structure Env0 (P : Program) (w : World) (K : PySem.W.Frag) (mg : Str → Option Value) (base : Heap) (A : Around) (outer : List Env) (s : Shared) (H : Hp) : Prop where
  frames : A.frames = some outer
  mod : Mod K mg base
  bs : ∀ b o, base.get? b = some o → s.heap.get? b = some o ∧ H b = none
  bsz : base.objs.size ≤ s.heap.objs.size
  funs : s.heap.FunFrames base outer
  frf : ∀ b ∈ frs outer, H b = none
  hok : HOk P w H s.heap
  bare : AllBare s.gens
  seer : base.NoSeer
  tree : (model P w).prog.given.tree = none
def CE (outer : List Env) (P : Program) (w : World) (H : Hp) (s : Shared) (Q : VK) (u : Value) (s' : Shared) : Prop :=
  ∃ v H', s'.os = s.os ∧ AllBare s'.gens ∧ Un (frs outer) [] H H' s.heap s'.heap ∧ HOk P w H' s'.heap ∧ RelV v u ∧ Q v H'
def CR (CX : CXT) (outer : List Env) (P : Program) (w : World) (H : Hp) (s : Shared) (Q : VK) (E : XK) (r : Result) (s' : Shared) : Prop :=
  match r with
  | .ok (.ret u) => CE outer P w H s Q u s'
  | .ok _ => False
  | .error e => CX outer H s E e s'
structure FnOk (P : Program) (w : World) (K : PySem.W.Frag) (mg : Str → Option Value) (base : Heap) (CX : CXT) (k : Nat) (f : Addr) (fd : FuncData) (ps : List Str) (sp : Sp) : Prop where
  len : ∀ vs H Q E, sp vs H Q E → vs.length = ps.length
  run : ∀ (A : Around) (outer : List Env) (s : Shared) (H : Hp) (args : Args) (us : List Value) (vs : List V) (Q : VK) (E : XK), Room k A → Env0 P w K mg base A outer s H → BindsTo s fd args (ps.zip us) → Vals vs us → sp vs H Q E →
    codeAny (model P w) A (.call (.ref f) args) (CR CX outer P w H s Q E) s
theorem FnOk.mono {P : Program} {w : World} {K : PySem.W.Frag} {mg : Str → Option Value} {base : Heap} {CX : CXT} {j k : Nat} {f : Addr} {fd : FuncData} {ps : List Str} {sp : Sp} (F : FnOk P w K mg base CX j f fd ps sp) (h : j ≤ k) :
    FnOk P w K mg base CX k f fd ps sp := ⟨F.len, fun A outer s H args us vs Q E hr => F.run A outer s H args us vs Q E (hr.mono h)⟩
theorem FnOk.imp {P : Program} {w : World} {K : PySem.W.Frag} {mg : Str → Option Value} {base : Heap} {CX : CXT} {k : Nat} {f : Addr} {fd : FuncData} {ps : List Str} {sp sp' : Sp} (F : FnOk P w K mg base CX k f fd ps sp)
    (h : ∀ vs H Q E, sp' vs H Q E → sp vs H Q E) : FnOk P w K mg base CX k f fd ps sp' :=
  ⟨fun vs H Q E q => F.len vs H Q E (h _ _ _ _ q), fun A outer s H args us vs Q E hr he hb hv hs => F.run A outer s H args us vs Q E hr he hb hv (h _ _ _ _ hs)⟩
section
variable {X : Cx} {pins : List (Addr × Obj)} {σ : St} {H : Hp} {s s' : Shared}
theorem Inv.env0 (I : Inv X pins σ H s) : Env0 X.prog X.w X.K X.mg X.base X.A X.stack s H :=
  ⟨I.ok.frames, I.ok.mod, I.bs, Nat.le_trans I.ok.bsz I.sz, I.stack, I.stkFree, I.hok, I.bare, I.ok.seer, I.ok.tree⟩
theorem Inv.after {Q : VK} {u : Value} (I : Inv X pins σ H s) (h : CE X.stack X.prog X.w H s Q u s') : EP X pins σ Q u s' := by
  obtain ⟨v, H', os, bare, un, hok, r, q⟩ := h
  obtain ⟨hh, g, d, t, os'⟩ := s'
  obtain rfl : os' = s.os := os
  exact ⟨v, H', I.call (h' := hh) (g' := g) (d' := d) (t' := t) (ch := []) un hok bare (fun b z => absurd z (by simp)), r, q⟩
end
def tCall (sp : Sp) (dvs : List V) (E : XK) (t : TA) : TE := fun σ H Q => t σ H fun vs H1 => sp (vs ++ dvs) H1 Q E
def Binds (K : PySem.W.Frag) (fd : FuncData) (ps : List Str) (ds : List Value) : Prop :=
  ∀ (s : Shared) (us : List Value), K.In s.heap → (us ++ ds).length = ps.length → BindsTo s fd ⟨us, []⟩ (ps.zip (us ++ ds))
theorem Binds.all {K : PySem.W.Frag} {fd : FuncData} {ps : List Str} (h : ∀ us : List Value, us.length = ps.length → bindArgs fd ⟨us, []⟩ = pure (ps.zip us)) : Binds K fd ps [] := fun s us _ hl => by
  rw [List.append_nil] at hl ⊢
  exact .of_eq (h us hl)
def Passes (CX : CXT) (X : Cx) (E : XK) : Prop := ∀ (pins : List (Addr × Obj)) (σ : St) (H : Hp) (s : Shared) (e : Value) (s' : Shared), Inv X pins σ H s → CX X.stack H s E e s' → X.xe e s'
section
variable {X : Cx} {CX : CXT} {k : Nat} {f C : Addr} {fd : FuncData} {ps : List Str} {sp : Sp} {dvs : List V} {ds : List Value} {E : XK} {x m : Str} {p pos apos : Pos} {e o : Expr} {es : List Expr} {ta : TE} {t : TA}
theorem run_fn {pins : List (Addr × Obj)} {σ : St} {H : Hp} {s : Shared} {Q : VK} {us : List Value} {vs : List V} (F : FnOk X.prog X.w X.K X.mg X.base CX k f fd ps sp) (hr : Room k X.A) (hb : Binds X.K fd ps ds) (hd : Vals dvs ds) (hx : Passes CX X E)
    (I : Inv X pins σ H s) (r : Vals vs us) (h : sp (vs ++ dvs) H Q E) : wpAny (model X.prog X.w) X.A (call (.ref f) us) (EP X pins σ Q) X.xe s := by
  have r2 : Vals (vs ++ dvs) (us ++ ds) := r.append hd
  have hl : (us ++ ds).length = ps.length := by rw [← r2.length]; exact F.len _ _ _ _ h
  refine wpAny_call (codeAny_mono (F.run X.A X.stack s H ⟨us, []⟩ (us ++ ds) (vs ++ dvs) Q E hr I.env0 (hb s us I.kIn hl) r2 h) fun r s' hq => ?_)
  cases r with
  | error e => exact hx pins σ H s e s' I hq
  | ok fl =>
    cases fl with
    | ret u => exact I.after hq
    | next => exact False.elim hq
    | brk => exact False.elim hq
    | cont => exact False.elim hq
theorem pe_call (F : FnOk X.prog X.w X.K X.mg X.base CX k f fd ps sp) (hr : Room k X.A) (hg : Gl X x) (hm : X.mg x = some (.ref f)) (hk : PySem.W.keepIn X.K (.ref f) = true) (hb : Binds X.K fd ps ds) (hd : Vals dvs ds) (hx : Passes CX X E)
    (ha : PA X (e :: es) t) (hdb : (x == ("__debug__" : Str)) = false := by decide) (he : starEach (e :: es) X.env = (false, eval e X.env) :: starEach es X.env := by rfl) (hpl : (backTo pos (starEach es X.env)).any (·.1) = false := by rfl) :
    PE X (.Call (.Name x p) (e :: es) [] pos) (tCall sp dvs E t) := by
  intro pins s σ H Q I h
  refine wpAny_Call_Name_kw (ld_glob I hg hm ?_ hdb)
  refine PySem.W.callWith_K (h₀ := X.base) I.ok.mod.kin hk (thn (ha pos pins s σ H _ I h) fun us s1 ⟨vs, H1, I1, r, q⟩ => ⟨I1.kIn, ?_⟩) he hpl
  exact run_fn F hr hb hd hx I1 r q
structure Mk (K : PySem.W.Frag) (C f : Addr) : Prop where
  makes : PySem.W.makesIn K C = true
  init : PySem.W.findIn K (.ref C) "__init__" = some (some (.ref f))
  fn : PySem.W.isFn K (.ref f) = true
  kp : PySem.W.keepIn K (.ref C) = true
end
section
variable {X : Cx} {CX : CXT} {k : Nat} {f C : Addr} {fd : FuncData} {ps ks : List Str} {sp : Sp} {E : XK} {x m : Str} {p pos apos kpos : Pos} {e o : Expr} {es : List Expr} {kws : List Keyword} {te ta : TE} {t tk : TA} {nm : Option Str}
structure KBinds (K : PySem.W.Frag) (fd : FuncData) (ps ks : List Str) (g : List Value → List Value → List Value) (gV : List V → List V → List V) : Prop where
  to : ∀ (s : Shared) (us ws : List Value), K.In s.heap → (g us ws).length = ps.length → BindsTo s fd ⟨us, ks.zip ws⟩ (ps.zip (g us ws))
  rel : ∀ {vs : List V} {us : List Value} {zs : List V} {ws : List Value}, Vals vs us → Vals zs ws → Vals (gV vs zs) (g us ws)
variable {g : List Value → List Value → List Value} {gV : List V → List V → List V}
end
structure FnScope (N P : List Str) (sc : Scope) : Prop where
  kind : sc.kind = .function
  co : sc.isCoroutine = false
  gen : sc.isGenerator = false
  nd : N.Nodup
  pre : N.take P.length = P
  par : ∀ x ∈ P, sc.names.lookup x = some .local ∨ sc.names.lookup x = some .cell
  nofree : ∀ y ∈ sc.names, y.2 ≠ .free
theorem bindL_out {kindOf : Str → Option NameKind} {x : Str} : ∀ {binds : List (Str × Value)} {m : Str → Option Value}, (∀ v, (x, v) ∉ binds) → bindL kindOf binds m x = m x
  | [], _, _ => rfl
  | (n, v) :: r, m, h => by
    unfold bindL
    rw [bindL_out fun w hw => h w (List.mem_cons_of_mem _ hw)]
    split
    · have : x ≠ n := by rintro rfl; exact h v List.mem_cons_self
      simp [this]
    · rfl
theorem bindC_out {kindOf : Str → Option NameKind} {x : Str} : ∀ {binds : List (Str × Value)} {m : Str → Option Value}, (∀ v, (x, v) ∉ binds) → bindC kindOf binds m x = m x
  | [], _, _ => rfl
  | (n, v) :: r, m, h => by
    unfold bindC
    rw [bindC_out fun w hw => h w (List.mem_cons_of_mem _ hw)]
    split
    · rfl
    · have : x ≠ n := by rintro rfl; exact h v List.mem_cons_self
      simp [this]
theorem bindL_get {kindOf : Str → Option NameKind} {x : Str} {v : Value} : ∀ {P : List Str} {vs : List Value} {i : Nat} {m : Str → Option Value}, P.Nodup → P[i]? = some x → vs[i]? = some v → kindOf x = some .local →
    bindL kindOf (P.zip vs) m x = some v
  | [], _, _, _, _, h, _, _ => by simp at h
  | _ :: _, [], _, _, _, _, h, _ => by simp at h
  | p :: P, w :: vs, 0, m, nd, h1, h2, hk => by
    simp at h1 h2; subst h1; subst h2
    show bindL kindOf ((p, w) :: P.zip vs) m p = _
    unfold bindL
    rw [bindL_out fun v hv => (List.nodup_cons.mp nd).1 (List.of_mem_zip hv).1, if_pos hk]
    simp
  | p :: P, w :: vs, i + 1, m, nd, h1, h2, hk => by
    show bindL kindOf ((p, w) :: P.zip vs) m x = _
    unfold bindL
    exact bindL_get (i := i) (List.nodup_cons.mp nd).2 (by simpa using h1) (by simpa using h2) hk
theorem bindC_get {kindOf : Str → Option NameKind} {x : Str} {v : Value} : ∀ {P : List Str} {vs : List Value} {i : Nat} {m : Str → Option Value}, P.Nodup → P[i]? = some x → vs[i]? = some v → kindOf x ≠ some .local →
    bindC kindOf (P.zip vs) m x = some v
  | [], _, _, _, _, h, _, _ => by simp at h
  | _ :: _, [], _, _, _, _, h, _ => by simp at h
  | p :: P, w :: vs, 0, m, nd, h1, h2, hk => by
    simp at h1 h2; subst h1; subst h2
    show bindC kindOf ((p, w) :: P.zip vs) m p = _
    unfold bindC
    rw [bindC_out fun v hv => (List.nodup_cons.mp nd).1 (List.of_mem_zip hv).1, if_neg hk]
    simp
  | p :: P, w :: vs, i + 1, m, nd, h1, h2, hk => by
    show bindC kindOf ((p, w) :: P.zip vs) m x = _
    unfold bindC
    exact bindC_get (i := i) (List.nodup_cons.mp nd).2 (by simpa using h1) (by simpa using h2) hk
def start (N : List Str) (vs : List V) : St := vs.map some ++ List.replicate (N.length - vs.length) none
def cxOf (CX : CXT) (P : Program) (w : World) (K : PySem.W.Frag) (mg : Str → Option Value) (base : Heap) (N : List Str) (qual : Str) (scope : Scope) (f : Addr) (cd : Value) (A : Around) (outer : List Env) (s : Shared) (H : Hp) (E : XK) : Cx where
  prog := P
  w := w
  K := K
  mg := mg
  base := base
  A := A.deeper (envOfC qual scope s.heap.objs.size f cd)
  N := N
  s₀ := s
  H₀ := H
  env := envOfC qual scope s.heap.objs.size f cd
  outer := outer
  stack := envOfC qual scope s.heap.objs.size f cd :: outer
  ex := []
  calm := true
  fn := fun _ => true
  pn := []
  xe := fun e s' => wpAny (model P w) (A.deeper (envOfC qual scope s.heap.objs.size f cd)) (leaving (envOfC qual scope s.heap.objs.size f cd) e) (fun _ s'' => CX outer H s E e s'') (fun e' s'' => CX outer H s E e' s'') s'
theorem cell_has {sc : Scope} {n : Nat} {x : Str} (h : sc.names.lookup x = some .cell) : ∃ c, (cellsFrom n sc.names []).lookup x = some c := by
  have q := PySem.W.cellsFrom_some sc.names n [] (.inl h)
  exact Option.isSome_iff_exists.mp q
theorem inv_start {CX : CXT} {P : Program} {w : World} {K : PySem.W.Frag} {mg : Str → Option Value} {base : Heap} {N ps : List Str} {qual : Str} {scope : Scope} {f : Addr} {cd : Value} {A : Around} {outer : List Env} {s s1 : Shared} {H : Hp} {E : XK} {us : List Value} {vs : List V}
    (S : FnScope N ps scope) (hd : A.handled = none) (hdp : (A.deeper (envOfC qual scope s.heap.objs.size f cd)).depth + Builtin.pylongFrames < recursionLimit) (e0 : Env0 P w K mg base A outer s H) (hl : vs.length = ps.length) (r : Vals vs us)
    (x : InCallC s s.heap.objs.size (bindL (envOfC qual scope s.heap.objs.size f cd).kindOf (ps.zip us) fun _ => none) (cellsFrom (s.heap.objs.size + 1) scope.names []) (bindC (envOfC qual scope s.heap.objs.size f cd).kindOf (ps.zip us) fun _ => none) s1) :
    Inv (cxOf CX P w K mg base N qual scope f cd A outer s H E) [] (start N vs) H s1 := by
  have hpl : ps.length ≤ N.length := by have := congrArg List.length S.pre; rw [List.length_take] at this; omega
  obtain ⟨h1, tk, rfl, hk⟩ := x.done
  have noA : ∀ b : Addr, b ∉ (cxOf CX P w K mg base N qual scope f cd A outer s H E).ex := fun b z => absurd (show b ∈ ([] : List Addr) from z) (by simp)
  refine ⟨⟨e0.mod, S.kind, rfl, rfl, Nat.le_refl _, fun y z c h1 h2 => ?_, fun y hy => ?_, fun y c _ h => ?_, fun _ => hd, Around.frames_deeper e0.frames, .inr ⟨rfl, rfl⟩, fun b z => absurd z (noA b), e0.bs, e0.bsz, fun b _ _ => noA b, fun b z => absurd z (noA b), e0.funs, e0.frf, e0.seer, e0.tree, fun s' hk' => PySem.PylongRoom.of (e0.mod.nolimit.keeps hk') hdp (PySem.SeerAt.of (e0.seer.keeps hk') e0.tree (Around.frames_deeper e0.frames) S.gen S.co rfl rfl)⟩,
    rfl, e0.bare, Un.kept hk, ⟨_, x.toInCall.ns, fun i y v h1 h2 h3 => ?_⟩, fun y c h => ⟨_, x.cell y c h⟩, e0.hok.fresh (Nat.le_refl _), fun y c h => ?_, fun p hp => absurd (show p ∈ ([] : List (Addr × Obj)) from hp) (by simp), e0.hok.kept hk, ?_⟩
  · exact name_of_addr x.apart (PySem.mem_of_lookup h1) (PySem.mem_of_lookup h2)
  · have hy : scope.names.lookup y = some .cell ∨ scope.names.lookup y = some .free := hy
    rcases hy with hy | hy
    · exact cell_has hy
    · exact absurd rfl (S.nofree _ (PySem.mem_of_lookup hy))
  · exact Nat.le_of_lt (x.above y c (PySem.mem_of_lookup h))
  · have hi : i < vs.length := by
      unfold start at h2
      by_cases hi : i < vs.length
      · exact hi
      · rw [List.getElem?_append_right (by simpa using hi)] at h2
        rw [List.getElem?_replicate] at h2
        split at h2 <;> cases h2
    have ha : vs[i]? = some v := by
      unfold start at h2
      rw [List.getElem?_append_left (by simpa using hi), List.getElem?_map] at h2
      cases e : vs[i]? with
      | none => rw [e] at h2; cases h2
      | some a => rw [e] at h2; cases h2; rfl
    obtain ⟨u, hu, rv⟩ := r.get ha
    have hp : ps[i]? = some y := by
      rw [← S.pre, List.getElem?_take_of_lt (by omega)]; exact h1
    have ndP : ps.Nodup := by rw [← S.pre]; exact S.nd.sublist (List.take_sublist _ _)
    refine ⟨u, rv, ?_⟩
    rcases S.par y (List.mem_of_getElem? hp) with k | k
    · exact .inl ⟨k, bindL_get ndP hp hu k⟩
    · obtain ⟨c, e⟩ := cell_has (n := s.heap.objs.size + 1) k
      refine .inr ⟨.inl k, c, e, ?_⟩
      have q := x.cell y c e
      rw [bindC_get ndP hp hu (by show scope.names.lookup y ≠ _; rw [k]; decide)] at q
      exact q
  · exact e0.hok.fresh (Nat.le_of_lt (x.above y c (PySem.mem_of_lookup h)))
  · unfold start
    show _ = N.length
    rw [List.length_append, List.length_map, List.length_replicate]
    omega
theorem fn_of {CX : CXT} {P : Program} {w : World} {K : PySem.W.Frag} {mg : Str → Option Value} {base : Heap} {k : Nat} {f : Addr} {name qual : Str} {params : Arguments} {body : List Stmt} {scope : Scope} {dV kV doc pm cdv ct oc : Value} {an od : Option Addr}
    {osl : Array (Option Value)} {N ps : List Str} {sp : Sp} (lk : K.lookup f = some ⟨oc, od, .func (PySem.W.fnOf name qual params body scope dV kV doc pm an cdv ct), osl⟩) (hcd : PySem.W.codeIn K cdv qual = true) (S : FnScope N ps scope)
    (len : ∀ vs H Q E, sp vs H Q E → vs.length = ps.length)
    (hbody : ∀ (A : Around) (outer : List Env) (s : Shared) (H : Hp) (vs : List V) (Q : VK) (E : XK), Room k (A.deeper (envOfC qual scope s.heap.objs.size f cdv)) → sp vs H Q E →
      ∃ t, PSs (cxOf CX P w K mg base N qual scope f cdv A outer s H E) body t ∧ t { nx := fun _ H' => Q .non H', rt := Q } (start N vs) H) :
    FnOk P w K mg base CX (k + 1) f (PySem.W.fnOf name qual params body scope dV kV doc pm an cdv ct) ps sp := by
  refine ⟨len, fun A outer s H args us vs Q E hr e0 hb r hsp => ?_⟩
  have hl := len _ _ _ _ hsp
  have KX : K.In s.heap := e0.mod.kin.keeps fun b o e => (e0.bs b o e).1
  have lim : s.heap.NoLimit := e0.mod.nolimit.keeps fun b o e => (e0.bs b o e).1
  have hkind : ∀ y ∈ ps.zip us, scope.names.lookup y.1 = some .local ∨ (scope.names.lookup y.1 = some .cell ∧ ((cellsFrom (s.heap.objs.size + 1) scope.names []).lookup y.1).isSome = true) := fun ⟨n, v⟩ hy => by
    rcases S.par n (List.of_mem_zip hy).1 with q | q
    · exact .inl q
    · exact .inr ⟨q, PySem.W.cellsFrom_some _ _ _ (.inl q)⟩
  refine codeAny_call_function hr.depth (KX _ _ lk) rfl S.co S.gen rfl (PySem.W.codeRec_of KX hcd) (hb _ _ _ _ ?_)
  refine wpAny_newFunctionEnv_cells S.kind hkind fun env he s1 x => ?_
  subst he
  refine ⟨lim.keeps x.toInCall.keep, codeAny_func ?_⟩
  obtain ⟨t, ht, hq⟩ := hbody A outer s H vs Q E (hr.deeper _) hsp
  have I : Inv (cxOf CX P w K mg base N qual scope f cdv A outer s H E) [] (start N vs) H s1 := inv_start S hr.hd (by have := (hr.deeper (envOfC qual scope s.heap.objs.size f cdv)).dp; show _ + 100 < _; omega) e0 hl r x
  refine wpAny_mono (ht [] s1 (start N vs) H _ I hq) (fun fl s' hs => ?_) fun e s' hs => hs
  have fin : ∀ {σ' : St} {H' : Hp} {v : V} {u : Value}, Inv (cxOf CX P w K mg base N qual scope f cdv A outer s H E) [] σ' H' s' → RelV v u → Q v H' → CE outer P w H s Q u s' :=
    fun {σ' H' v u} J rv q => ⟨v, H', J.os, J.bare, J.base, J.hok, rv, q⟩
  cases fl with
  | ret u =>
    obtain ⟨v, σ', H', J, rv, q⟩ := hs
    exact fin J rv q
  | next =>
    obtain ⟨σ', H', J, q⟩ := hs
    exact fin (v := V.non) (u := Value.none) J rfl q
  | brk =>
    obtain ⟨_, _, _, q⟩ := hs
    exact False.elim q
  | cont =>
    obtain ⟨_, _, _, q⟩ := hs
    exact False.elim q
end L2
namespace L2
open PySem PySem.Spec PyProof.Rows
section
variable {X : Cx} {x : Str} {p pos : Pos} {e : Expr} {es : List Expr} {t : TA} {id T : String} {r : List V → Hp → VK → Prop}
def tCB (r : List V → Hp → VK → Prop) (t : TA) : TE := fun σ H Q => t σ H fun vs H1 => r vs H1 Q
theorem pe_callB (hc : CallR X (.builtin id) r) (hg : Gl X x) (hm : X.mg x = none) (hv : bootBuiltins x = some (.builtin id)) (ha : PA X (e :: es) t) (hn : x ≠ "__name__" := by decide) (hdb : (x == ("__debug__" : Str)) = false := by decide)
    (he : starEach (e :: es) X.env = (false, eval e X.env) :: starEach es X.env := by rfl) (hpl : (backTo pos (starEach es X.env)).any (·.1) = false := by rfl) : PE X (.Call (.Name x p) (e :: es) [] pos) (tCB r t) := by
  intro pins s σ H Q I h
  refine wpAny_Call_Name_kw (ld_blt I hg hm hv ?_ hn hdb)
  exact PyProof.Rows.callWith_builtin1 (thn (ha pos pins s σ H _ I h) fun us s1 ⟨vs, H1, I1, r1, q1⟩ => hc pins s1 σ H1 vs us Q I1 r1 q1) he hpl
theorem pe_callTy (hc : CallR X (.type T) r) (hg : Gl X x) (hm : X.mg x = none) (hv : bootBuiltins x = some (.type T)) (ha : PA X (e :: es) t) (hn : x ≠ "__name__" := by decide) (hdb : (x == ("__debug__" : Str)) = false := by decide)
    (he : starEach (e :: es) X.env = (false, eval e X.env) :: starEach es X.env := by rfl) (hpl : (backTo pos (starEach es X.env)).any (·.1) = false := by rfl) : PE X (.Call (.Name x p) (e :: es) [] pos) (tCB r t) := by
  intro pins s σ H Q I h
  refine wpAny_Call_Name_kw (ld_blt I hg hm hv ?_ hn hdb)
  exact PyProof.Rows.callWith_type1 (thn (ha pos pins s σ H _ I h) fun us s1 ⟨vs, H1, I1, r1, q1⟩ => hc pins s1 σ H1 vs us Q I1 r1 q1) he hpl
end
end L2
namespace HT
open PySem PyProof.Rows
section
open PySem.SeqAt
open PySem.AutoSeq1 (wpAny_loadPart')
open PySem.MeetsSeq PySem.MeetsSeq2 PySem.MeetsSeq3
end
section
variable {prog : Program} {w : World} {A : Around} {E : Value → Shared → Prop} {s : Shared}
def sIx (n d : Nat) : Option Int → Nat
  | none => d
  | some v => if v < 0 then (v + (n : Int)).toNat else min v.toNat n
end
end HT
namespace L2
open PySem PySem.Spec PyProof.Rows
abbrev TO := St → Hp → (Option Int → Hp → Prop) → Prop
def PO (X : Cx) (e : Option Expr) (t : TO) : Prop :=
  ∀ (pins : List (Addr × Obj)) (s : Shared) (σ : St) (H : Hp) (Q : Option Int → Hp → Prop), Inv X pins σ H s → t σ H Q →
    wpAny (model X.prog X.w) X.A (evalPart e X.env) (fun u s' => ∃ o H', Inv X pins σ H' s' ∧ IsPart u o ∧ Q o H') X.xe s
def tNoPart : TO := fun _ H Q => Q none H
def tPart (t : TE) : TO := fun σ H Q => t σ H fun x H1 => ∃ i, x = .int i ∧ Q (some i) H1
section
variable {X : Cx} {e : Expr} {te : TE} {lo hi : Option Expr} {tl th : TO} {pos p2 : Pos}
theorem po_none : PO X none tNoPart := by
  intro pins s σ H Q I h
  rw [evalPart_none]
  exact wpAny_pure ⟨none, H, I, .none, h⟩
theorem po_some (h : PE X e te) : PO X (some e) (tPart te) := by
  intro pins s σ H Q I hw
  rw [evalPart_some]
  refine thn (h pins s σ H _ I hw) fun u s1 ⟨x, H1, I1, r1, q1⟩ => ?_
  obtain ⟨i, rfl, q⟩ := q1
  obtain ⟨t, rfl⟩ := r1
  exact ⟨some i, H1, I1, .int i t, q⟩
def SlR (X : Cx) (r : V → Option Int → Option Int → Hp → VK → Prop) : Prop :=
  ∀ (pins : List (Addr × Obj)) (s : Shared) (σ : St) (H : Hp) (x : V) (v vl vu : Value) (lo hi : Option Int) (sl : Addr) (Q : VK), Inv X pins σ H s → RelV x v → s.heap.IsSliceOf sl vl vu .none → IsPart vl lo → IsPart vu hi → r x lo hi H Q →
    ∃ T id, typeLookup (.type T) "__getitem__" = pure (some (.builtin id)) ∧ s.TypeIs v T ∧ wpAny (model X.prog X.w) X.A (getItem v (.ref sl)) (EP X pins σ Q) X.xe s
def tSl (r : V → Option Int → Option Int → Hp → VK → Prop) (te : TE) (tl th : TO) : TE := fun σ H Q => te σ H fun x H1 => tl σ H1 fun l H2 => th σ H2 fun u H3 => r x l u H3 Q
theorem pe_slice {r : V → Option Int → Option Int → Hp → VK → Prop} (hr : SlR X r) (he : PE X e te) (hl : PO X lo tl) (hu : PO X hi th) : PE X (.Subscript e (.Slice lo hi none p2) pos) (tSl r te tl th) := by
  intro pins s σ H Q I h
  refine Subscript_ (thn (he pins s σ H _ I h) fun v s1 ⟨x, H1, I1, r1, q1⟩ => ?_)
  refine wpAny_Slice (thn (hl pins s1 σ H1 _ I1 q1) fun vl s2 ⟨l, H2, I2, pl, q2⟩ => thn (hu pins s2 σ H2 _ I2 q2) fun vu s3 ⟨u, H3, I3, pu, q3⟩ => ?_)
  rw [evalPart_none]
  refine wpAny_pure ?_
  have I4 : Inv X pins σ H3 { s3 with heap := s3.heap.push { cls := .type "slice", data := .fields #[vl, vu, .none] } } := I3.kept (t' := s3.toks) fun b ob q => Heap.get?_push_of_some _ q
  obtain ⟨T, id, hT, ht, hg⟩ := hr pins { s3 with heap := s3.heap.push { cls := .type "slice", data := .fields #[vl, vu, .none] } } σ H3 x v vl vu l u s3.heap.objs.size Q I4 r1 (Heap.IsSliceOf.new ..) pl pu q3
  show wpAny (model X.prog X.w) X.A (subscriptTail e (.Slice lo hi none p2) v (.ref s3.heap.objs.size)) (EP X pins σ Q) X.xe { s3 with heap := s3.heap.push { cls := .type "slice", data := .fields #[vl, vu, .none] } }
  exact tail_any (ops := [.ref s3.heap.objs.size, v]) ht hT hg (by with_unfolding_all rfl)
def cutV (xs : List V) (lo hi : Option Int) : List V := (xs.drop (HT.sIx xs.length 0 lo)).take (HT.sIx xs.length xs.length hi - HT.sIx xs.length 0 lo)
theorem cutV_length (xs : List V) (lo hi : Option Int) : (cutV xs lo hi).length ≤ xs.length := by
  unfold cutV
  rw [List.length_take, List.length_drop]
  omega
end
end L2
namespace L2
open PySem PySem.Spec PyProof.Rows
def ixN (n : Nat) (i : Int) : Option Nat := if 0 ≤ i then (if i < n then some i.toNat else none) else if -(n : Int) ≤ i then some (i + n).toNat else none
def atI {α : Type} (xs : List α) (i : Int) : Option α := (ixN xs.length i).bind fun j => xs[j]?
theorem ixN_seq {n : Nat} {i : Int} {j : Nat} (h : ixN n i = some j) : seqIndex? i n = some j ∧ j < n ∧ -(n : Int) ≤ i ∧ i < n := by
  unfold ixN at h
  by_cases h0 : 0 ≤ i
  · rw [if_pos h0] at h
    by_cases h1 : i < n
    · rw [if_pos h1] at h
      have e : i.toNat = j := Option.some.inj h
      exact ⟨by rw [seqIndex_of h0 h1, e], by omega, by omega, h1⟩
    · rw [if_neg h1] at h; cases h
  · rw [if_neg h0] at h
    by_cases h1 : -(n : Int) ≤ i
    · rw [if_pos h1] at h
      have e : (i + n).toNat = j := Option.some.inj h
      exact ⟨by rw [seqIndex_neg (by omega) h1, e], by omega, h1, by omega⟩
    · rw [if_neg h1] at h; cases h
theorem atI_get {α : Type} {xs : List α} {i : Int} {v : α} (h : atI xs i = some v) : ∃ j, seqIndex? i xs.length = some j ∧ xs[j]? = some v ∧ j < xs.length ∧ -(xs.length : Int) ≤ i ∧ i < xs.length := by
  unfold atI at h
  cases e : ixN xs.length i with
  | none => rw [e] at h; cases h
  | some j =>
    rw [e] at h
    obtain ⟨h1, h2, h3, h4⟩ := ixN_seq e
    exact ⟨j, h1, h, h2, h3, h4⟩
theorem atI_nat {α : Type} {xs : List α} {j : Nat} {v : α} (h : xs[j]? = some v) : atI xs (j : Int) = some v := by
  have hj : j < xs.length := (List.getElem?_eq_some_iff.mp h).1
  have e : ixN xs.length (j : Int) = some j := by
    unfold ixN
    rw [if_pos (by omega), if_pos (by omega)]; simp
  unfold atI; rw [e]; exact h
theorem atI_last {α : Type} (xs : List α) (v : α) : atI (xs ++ [v]) (-1) = some v := by
  have hl : (xs ++ [v]).length = xs.length + 1 := by simp
  have e : ixN (xs ++ [v]).length (-1) = some xs.length := by
    unfold ixN
    rw [hl, if_neg (by decide), if_pos (by omega)]
    congr 1
    omega
  unfold atI
  rw [e]
  show (xs ++ [v])[xs.length]? = some v
  simp
def PlainIx (b : Expr) : Prop := ∀ o i, subscripted b false o i = operate [o, i] (getItem o i)
def IxR (X : Cx) (r : R2) : Prop :=
  ∀ (value slice : Expr) (pins : List (Addr × Obj)) (s : Shared) (σ : St) (H : Hp) (x y : V) (v u : Value) (Q : VK), Inv X pins σ H s → RelV x v → RelV y u → r x y H Q →
    subscripted slice false v u = operate [v, u] (getItem v u) → wpAny (model X.prog X.w) X.A (subscriptTail value slice v u) (EP X pins σ Q) X.xe s
def MtR (X : Cx) (id : String) (r : V → List V → Hp → VK → Prop) : Prop :=
  ∀ (pins : List (Addr × Obj)) (s : Shared) (σ : St) (H : Hp) (x : V) (xs : List V) (v : Value) (us : List Value) (Q : VK), Inv X pins σ H s → RelV x v → Vals xs us → r x xs H Q →
    wpAny (model X.prog X.w) X.A (call (.builtin id) (v :: us)) (EP X pins σ Q) X.xe s
section
variable {X : Cx} {a b : Expr} {ta tb : TE} {pos : Pos}
theorem pe_ix {r : R2} (hr : IxR X r) (ha : PE X a ta) (hb : PE X b tb) (hs : PlainIx b) : PE X (.Subscript a b pos) (tOp r ta tb) := by
  intro pins s σ H Q I h
  exact Subscript_ (binT ha hb I h fun v u s2 x y H2 I2 rx ry q => hr a b pins s2 σ H2 x y v u Q I2 rx ry q (hs _ _))
def rIxL (K : PySem.W.Frag) : R2 := fun x y H Q => ∃ p xs i v, x = .ref p ∧ y = .int i ∧ SqL K H p xs ∧ atI xs i = some v ∧ Q v H
def rIxT (K : PySem.W.Frag) : R2 := fun x y H Q => ∃ p xs i v, x = .ref p ∧ y = .int i ∧ SqT K H p xs ∧ atI xs i = some v ∧ Q v H
theorem ix_list : IxR X (rIxL X.K) := by
  intro value slice pins s σ H x y v u Q I rx ry h hs
  obtain ⟨p, xs, i, z, rfl, rfl, hq, he, q⟩ := h
  cases rx
  obtain ⟨t, rfl⟩ := ry
  obtain ⟨its, r, pl, hz⟩ := I.list hq
  obtain ⟨j, h1, h2, h3, h4, h5⟩ := atI_get he
  obtain ⟨w, ew, rw'⟩ := r.get h2
  have hl := r.length
  have hn := line63
  have fin : EP X pins σ Q w s := ⟨z, H, I, rw', q⟩
  by_cases h0 : 0 ≤ i
  · have hj : i.toNat = j := by
      rw [seqIndex_of h0 h5] at h1
      exact Option.some.inj h1
    exact item_listR pl.isList h0 (by omega) (by rw [hj]; simpa using ew) fin hs
  · have hj : (i + (its.toArray.size : Int)).toNat = j := by
      rw [seqIndex_neg (by omega) h4] at h1
      rw [List.size_toArray, ← hl]
      exact Option.some.inj h1
    exact subscriptTail_builtinR (x := w) pl.isList.typeIs slot_list_getitem.lookup
      (wpAny_getItem_list_neg (Q := fun r s' => r = w ∧ EP X pins σ Q r s') pl.isList (by omega) (by rw [List.size_toArray] <;> omega) (by omega) (by rw [hj]; simpa using ew) ⟨rfl, fin⟩) hs
theorem ix_tup : IxR X (rIxT X.K) := by
  intro value slice pins s σ H x y v u Q I rx ry h hs
  obtain ⟨p, xs, i, z, rfl, rfl, hq, he, q⟩ := h
  cases rx
  obtain ⟨t, rfl⟩ := ry
  obtain ⟨its, r, pl, hz⟩ := I.tuple hq
  obtain ⟨j, h1, h2, h3, h4, h5⟩ := atI_get he
  obtain ⟨w, ew, rw'⟩ := r.get h2
  have hl := r.length
  have hn := line63
  have fin : EP X pins σ Q w s := ⟨z, H, I, rw', q⟩
  exact subscriptTail_builtinR (x := w) pl.typeIs slot_tuple_getitem.lookup
    (getItem_tuple (j := j) (Q := fun r s' => r = w ∧ EP X pins σ Q r s') pl (by omega) (by omega) (by rw [List.size_toArray, ← hl]; exact h1) (by simpa using ew) ⟨rfl, fin⟩) hs
theorem mapSeq_set (its : List Value) (n j : Nat) (u : Value) : Obj.mapSeq (·.setIfInBounds j u) { cls := .type "list", data := .seq its.toArray n } = { cls := .type "list", data := .seq (its.set j u).toArray n } := by
  simp [Obj.mapSeq]
theorem Inv.lst {pins : List (Addr × Obj)} {σ : St} {H : Hp} {s : Shared} {p : Addr} {xs : List V} (I : Inv X pins σ H s) (h : H p = some (.lst xs)) :
    ∃ (its : List Value) (n : Nat), Vals xs its ∧ s.heap.get? p = some { cls := .type "list", data := .seq its.toArray n } ∧ xs.length ≤ sizeLine := by
  obtain ⟨z, its, n, r, e⟩ := I.hok p _ h
  exact ⟨its, n, r, e, z⟩
theorem Inv.lstUpd {pins : List (Addr × Obj)} {σ : St} {H : Hp} {s : Shared} {p : Addr} {xs ys : List V} {its its' : List Value} {n n' : Nat} {f : Obj → Obj} (I : Inv X pins σ H s) (h : H p = some (.lst xs))
    (ho : s.heap.get? p = some { cls := .type "list", data := .seq its.toArray n }) (hf : f { cls := .type "list", data := .seq its.toArray n } = { cls := .type "list", data := .seq its'.toArray n' }) (r : Vals ys its') (hz : ys.length ≤ sizeLine) (t : Nat) :
    Inv X pins σ (upd H p (.lst ys)) { s with heap := s.heap.update p f, toks := t } := by
  have e : (s.heap.update p f).get? p = some { cls := .type "list", data := .seq its'.toArray n' } := by
    rw [Heap.get?_update_self f ho (by rw [hf] <;> rfl), hf]
  refine I.write (x := p) (e := p) (by rw [h]; trivial) (.inl rfl) (fun b u hb q => (Heap.get?_update_other _ _ (Ne.symm hb)).trans q) ⟨_, e⟩ ?_
  exact ⟨hz, its', n', r, e⟩
def rSetL : V → V → V → Hp → (Hp → Prop) → Prop := fun o i v H Q => ∃ p xs k j, o = .ref p ∧ i = .int k ∧ H p = some (.lst xs) ∧ ixN xs.length k = some j ∧ Q (upd H p (.lst (xs.set j v)))
theorem set_list : PSet X rSetL := by
  intro pins s σ H o i v ov iv u Q I ro ri rv h
  obtain ⟨p, xs, k, j, rfl, rfl, hp, hj, q⟩ := h
  cases ro
  obtain ⟨t, rfl⟩ := ri
  obtain ⟨its, n, r, ho, hz⟩ := I.lst hp
  obtain ⟨h1, h2, h3, h4⟩ := ixN_seq hj
  have hl := r.length
  have hn := line63
  have I' : Inv X pins σ (upd H p (.lst (xs.set j v))) { s with heap := s.heap.update p (Obj.mapSeq (·.setIfInBounds j u)) } :=
    I.lstUpd hp ho (mapSeq_set its n j u) (r.set rv j) (by rw [List.length_set]; exact hz) s.toks
  by_cases h0 : 0 ≤ k
  · have hk : k.toNat = j := by
      rw [seqIndex_of h0 h4] at h1
      exact Option.some.inj h1
    exact PySem.W.ki_setAt ho h0 (by omega) (by rw [List.size_toArray, ← hl]; exact h4) (by rw [hk]; exact ⟨_, I', q⟩)
  · have hk : (k + (its.toArray.size : Int)).toNat = j := by
      rw [seqIndex_neg (by omega) h3] at h1
      rw [List.size_toArray, ← hl]
      exact Option.some.inj h1
    exact PySem.W.ki_setBack ho (by omega) (by rw [List.size_toArray, ← hl]; exact h3) (by omega) (by rw [hk]; exact ⟨_, I', q⟩)
theorem slice_bounds (lo hi : Option Int) (n : Nat) : (sliceBounds lo hi none n).1 = ((HT.sIx n 0 lo : Nat) : Int) ∧ (sliceBounds lo hi none n).2.1 = ((HT.sIx n n hi : Nat) : Int) ∧ (sliceBounds lo hi none n).2.2 = 1 := by
  refine ⟨?_, ?_, rfl⟩
  · cases lo with
    | none => simp [sliceBounds, HT.sIx]
    | some i =>
      simp only [sliceBounds, HT.sIx, Option.getD_none, show (1 : Int) > 0 by decide, if_true]
      by_cases h : i < 0
      · simp only [h, if_true] <;> omega
      · simp only [h, if_false] <;> omega
  · cases hi with
    | none => simp [sliceBounds, HT.sIx]
    | some i =>
      simp only [sliceBounds, HT.sIx, Option.getD_none, show (1 : Int) > 0 by decide, if_true]
      by_cases h : i < 0
      · simp only [h, if_true] <;> omega
      · simp only [h, if_false] <;> omega
theorem slicePick_cut (its : List Value) (lo hi : Option Int) : slicePick its.toArray lo hi none = ((its.drop (HT.sIx its.length 0 lo)).take (HT.sIx its.length its.length hi - HT.sIx its.length 0 lo)).toArray := by
  obtain ⟨h1, h2, h3⟩ := slice_bounds lo hi its.toArray.size
  unfold slicePick
  rw [h1, h2, h3]
  simp only [sliceRange_one, pick_run, List.size_toArray] <;> rfl
def rSlL (K : PySem.W.Frag) : V → Option Int → Option Int → Hp → VK → Prop := fun x lo hi H Q => ∃ a xs, x = .ref a ∧ SqL K H a xs ∧ ∀ p, H p = none → Q (.ref p) (upd H p (.lst (cutV xs lo hi)))
theorem sl_list : SlR X (rSlL X.K) := by
  intro pins s σ H x v vl vu lo hi sl Q I rx hs pl pu h
  obtain ⟨a, xs, rfl, hx, q⟩ := h
  cases rx
  obtain ⟨its, r, ht, hz⟩ := I.list hx
  have hlen := r.length
  refine ⟨"list", _, slot_list_getitem.lookup, ht.isList.typeIs, ?_⟩
  refine wpAny_getItem_list_slice ht.isList hs pl pu .none (by simp) ?_ (by rw [List.size_toArray] <;> omega)
  rw [slicePick_cut, ← hlen]
  refine ⟨.ref s.heap.objs.size, _, I.laid (t' := s.toks) (o := .lst (cutV xs lo hi)) (fun b ob q => Heap.get?_push_of_some _ q) (Nat.le_refl _) ?_, rfl, q _ (I.hok.fresh (Nat.le_refl _))⟩
  exact ⟨Nat.le_trans (cutV_length xs lo hi) hz, _, 0, (r.drop (HT.sIx xs.length 0 lo)).take (HT.sIx xs.length xs.length hi - HT.sIx xs.length 0 lo), Heap.get?_push_size _ rfl⟩
theorem call_len_seq : CallR X (.builtin "len") (fun xs H Q => ∃ p ys, xs = [.ref p] ∧ (SqL X.K H p ys ∨ SqT X.K H p ys) ∧ Q (.int ys.length) H) := by
  intro pins s σ H xs us Q I r h
  obtain ⟨p, ys, rfl, hq, q⟩ := h
  obtain ⟨u, rfl, rx⟩ := vals1 r
  cases rx
  have hn := line63
  rcases hq with hq | hq
  · obtain ⟨its, r', pl, hz⟩ := I.list hq
    have hlen := r'.length
    exact Calls.call_len_list pl.isList (by simp only [List.size_toArray] <;> omega) ⟨.int ys.length, H, I.tok _, ⟨s.toks + 1, by rw [List.size_toArray, hlen]⟩, q⟩
  · obtain ⟨its, r', pl, hz⟩ := I.tuple hq
    have hlen := r'.length
    exact len_tuple pl (by simp only [List.size_toArray] <;> omega) ⟨.int ys.length, H, I.tok _, ⟨s.toks + 1, by rw [List.size_toArray, hlen]⟩, q⟩
theorem call_tuple_of : CallR X (.type "tuple") (fun xs H Q => ∃ p ys, xs = [.ref p] ∧ ((SqL X.K H p ys ∧ ∀ l, H l = none → Q (.ref l) (upd H l (.tup ys))) ∨ (SqT X.K H p ys ∧ Q (.ref p) H))) := by
  intro pins s σ H xs us Q I r h
  obtain ⟨p, ys, rfl, h⟩ := h
  obtain ⟨u, rfl, rx⟩ := vals1 r
  cases rx
  rcases h with ⟨hq, q⟩ | ⟨hq, q⟩
  · obtain ⟨its, r', pl, hz⟩ := I.list hq
    have hlen := r'.length
    refine call_tuple_list pl.isList (fun h' kp => ?_) (by simp only [List.size_toArray] <;> omega)
    have I1 : Inv X pins σ H { s with heap := h' } := I.kept (t' := s.toks) kp
    have I2 : Inv X pins σ (upd H h'.objs.size (.tup ys)) { s with heap := h'.push { cls := .type "tuple", data := .seq its.toArray } } :=
      I1.laid (t' := s.toks) (fun b o e => Heap.get?_push_of_some _ e) (Nat.le_refl _) (show ObjOk X.prog X.w _ _ _ (.tup ys) from ⟨hz, its, r', IsTup.new _ _⟩)
    exact ⟨.ref h'.objs.size, _, I2, rfl, q _ (I1.hok.fresh (Nat.le_refl _))⟩
  · obtain ⟨its, r', pl, hz⟩ := I.tuple hq
    exact call_tuple_same pl ⟨.ref p, H, I, rfl, q⟩
def tyV (K : PySem.W.Frag) (T : String) (x : V) (H : Hp) : Prop := match x with
  | .str _ => T = "str"
  | .int _ => T = "int"
  | .ref p => (T = "list" ∧ ∃ xs, SqL K H p xs) ∨ (T = "tuple" ∧ ∃ o, K.lookup p = some o ∧ o.cls = .type "tuple" ∧ o.dict = none) ∨
      (T = "dict" ∧ ((∃ kvs, H p = some (.dK kvs)) ∨ ∃ kvs, H p = some (.dT kvs))) ∨ (T = "set" ∧ ∃ S n, H p = some (.set S n))
  | _ => False
theorem tyV_is {pins : List (Addr × Obj)} {σ : St} {H : Hp} {s : Shared} {T : String} {x : V} {v : Value} (I : Inv X pins σ H s) (r : RelV x v) (ty : tyV X.K T x H) :
    s.TypeIs v T ∧ ∀ a, v = .ref a → ∃ ob, s.heap.get? a = some ob ∧ ob.dict = none := by
  cases x with
  | str z =>
    obtain ⟨t, rfl⟩ := r
    cases (show T = "str" from ty)
    exact ⟨typeIs_str s z t, fun _ e => nomatch e⟩
  | int i =>
    obtain ⟨t, rfl⟩ := r
    cases (show T = "int" from ty)
    exact ⟨typeIs_int s i t, fun _ e => nomatch e⟩
  | ref p =>
    cases r
    rcases ty with ⟨rfl, xs, hq⟩ | ⟨rfl, o, hk, hc, hd⟩ | ⟨rfl, hk⟩ | ⟨rfl, S, n, hk⟩
    · obtain ⟨its, _, pl, _⟩ := I.list hq
      refine ⟨pl.isList.typeIs, fun a e => ?_⟩
      cases e
      obtain ⟨o, n, e, c, hd, _⟩ := pl
      exact ⟨o, e, hd⟩
    · refine ⟨⟨o, I.kIn p o hk, hc⟩, fun a e => ?_⟩
      cases e
      exact ⟨o, I.kIn _ o hk, hd⟩
    · have z : ∃ o, s.heap.get? p = some o ∧ o.ExactDict := by
        rcases hk with ⟨kvs, hk⟩ | ⟨kvs, hk⟩
        · obtain ⟨_, _, _, _, o, _, _, e, ex, _⟩ := I.hok p _ hk
          exact ⟨o, e, ex⟩
        · obtain ⟨_, _, _, _, o, _, _, e, ex, _⟩ := I.hok p _ hk
          exact ⟨o, e, ex⟩
      obtain ⟨o, e, ex⟩ := z
      refine ⟨⟨o, e, ex.1⟩, fun a e2 => ?_⟩
      cases e2
      exact ⟨o, e, ex.2.1⟩
    · obtain ⟨o, _, _, _, e, ex, _⟩ := I.hok p _ hk
      refine ⟨⟨o, e, ex.1⟩, fun a e2 => ?_⟩
      cases e2
      exact ⟨o, e, ex.2.1⟩
  | _ => exact False.elim ty
def tBM0 (K : PySem.W.Frag) (T : String) (r : V → List V → Hp → VK → Prop) (to : TE) : TE := fun σ H Q => to σ H fun x H1 => tyV K T x H1 ∧ r x [] H1 Q
def tBM (K : PySem.W.Frag) (T : String) (r : V → List V → Hp → VK → Prop) (to : TE) (t : TA) : TE := fun σ H Q => to σ H fun x H1 => tyV K T x H1 ∧ t σ H1 fun xs H2 => r x xs H2 Q
variable {o e : Expr} {es : List Expr} {to : TE} {t : TA} {name : Str} {apos cpos : Pos} {T id : String} {r : V → List V → Hp → VK → Prop}
theorem pe_bm (pa : PlainAttrs T) (slot : Slot T name id) (hty : typeOf (.builtin id) = pure (.type "method_descriptor")) (hm : MtR X id r) (ho : PE X o to) (ha : PA X (e :: es) t)
    (hbase : attributeBase o name X.env (eval o X.env) = eval o X.env := by rfl)
    (hfew : ((backTo cpos (starEach (e :: es) X.env)).all (fun x => !x.1) && (backToKw cpos (keywordEach [] X.env)).all (fun x => x.1.isSome)
      && decide ((e :: es).length + ([] : List Keyword).length + (if ([] : List Keyword).isEmpty then 0 else 1) < 30)) = true := by rfl)
    (hline : (apos.endLine == cpos.line) = true := by rfl) (hs : starEach (e :: es) X.env = (false, eval e X.env) :: starEach es X.env := by rfl) (hplain : (backTo cpos (starEach es X.env)).any (·.1) = false := by rfl) :
    PE X (.Call (.Attribute o name apos) (e :: es) [] cpos) (tBM X.K T r to t) := by
  intro pins s σ H Q I h
  refine wpAny_Call_method_late hbase hfew hline rfl (thn (ho pins s σ H _ I h) fun v s1 ⟨x, H1, I1, r1, ty, q1⟩ => ?_)
  obtain ⟨h1, h2⟩ := tyV_is I1 r1 ty
  refine ⟨T, id, pa, slot, hty, h1, h2, ?_⟩
  have hA := ha cpos pins s1 σ H1 _ I1 q1
  rw [hs] at hA ⊢
  refine Calls.callWith_builtin (by show (false || (backTo cpos (starEach es X.env)).any (·.1)) = false; rw [hplain] <;> rfl) (Calls.evalArgs_plain ?_)
  exact thn hA fun us s2 ⟨vs, H2, I2, r2, q2⟩ => hm pins s2 σ H2 x vs v us Q I2 r1 r2 q2
end
end L2
namespace L2
open PySem PySem.Spec PyProof.Rows
def MtM (X : Cx) (id : String) (r : V → List V → Hp → VK → Prop) : Prop :=
  ∀ (pins : List (Addr × Obj)) (s : Shared) (σ : St) (H : Hp) (x : V) (xs : List V) (v : Value) (us : List Value) (Q : VK), Inv X pins σ H s → RelV x v → Vals xs us → r x xs H Q →
    wpAny (model X.prog X.w) X.A (call (.builtin id) (v :: us)) (EP X pins σ Q) X.xe s
theorem Vals.one : ∀ {x : V} {us : List Value}, Vals [x] us → ∃ u, us = [u] ∧ RelV x u
  | _, _, .cons r .nil => ⟨_, rfl, r⟩
theorem Vals.two : ∀ {x y : V} {us : List Value}, Vals [x, y] us → ∃ u v, us = [u, v] ∧ RelV x u ∧ RelV y v
  | _, _, _, .cons r (.cons q .nil) => ⟨_, _, rfl, r, q⟩
theorem Vals.zero : ∀ {us : List Value}, Vals [] us → us = []
  | _, .nil => rfl
theorem Vals.dropLast {xs : List V} {us : List Value} (h : Vals xs us) : Vals xs.dropLast us.dropLast := by
  induction h with
  | nil => exact .nil
  | cons r t ih =>
    cases t with
    | nil => exact .nil
    | cons q t' => exact .cons r ih
theorem Vals.reverse {xs : List V} {us : List Value} (h : Vals xs us) : Vals xs.reverse us.reverse := by
  induction h with
  | nil => exact .nil
  | cons r t ih => rw [List.reverse_cons, List.reverse_cons]; exact Vals.append ih (.cons r .nil)
theorem Vals.rep {xs : List V} {us : List Value} (h : Vals xs us) : ∀ k : Nat, Vals (List.replicate k xs).flatten (List.replicate k us).flatten
  | 0 => .nil
  | k + 1 => by
    rw [List.replicate_succ, List.replicate_succ, List.flatten_cons, List.flatten_cons]
    exact Vals.append h (Vals.rep h k)
theorem foldl_rep (its : List Value) : ∀ (k : Nat) (acc : List Value),
    List.foldl (fun x1 x2 => x1 ++ x2) acc.toArray (List.replicate k its.toArray) = (acc ++ (List.replicate k its).flatten).toArray
  | 0, acc => by simp
  | k + 1, acc => by
    have e : acc.toArray ++ its.toArray = (acc ++ its).toArray := by simp
    have e2 : (acc ++ its) ++ (List.replicate k its).flatten = acc ++ (List.replicate (k + 1) its).flatten := by
      rw [List.replicate_succ, List.flatten_cons, List.append_assoc]
    rw [← e2, ← foldl_rep its k (acc ++ its), ← e, List.replicate_succ, List.foldl_cons]
section
variable {X : Cx} {pins : List (Addr × Obj)} {σ : St} {H : Hp} {s : Shared} {l b : Addr} {xs ys zs : List V}
theorem Inv.lset {its its' : List Value} {n : Nat} {f : Array Value → Array Value} {t' : Nat} (I : Inv X pins σ H s) (hH : H l = some (.lst xs))
    (e : s.heap.get? l = some { cls := .type "list", data := .seq its.toArray n }) (hf : f its.toArray = its'.toArray) (hv : Vals ys its') (hz : ys.length ≤ sizeLine) :
    Inv X pins σ (upd H l (.lst ys)) { s with heap := s.heap.update l (Obj.mapSeq f), toks := t' } := by
  have q := PySem.IsL.update e f
  rw [hf] at q
  refine I.write (x := l) (e := l) (by rw [hH]; exact trivial) (.inl rfl) (fun b' u hb hu => (Heap.get?_update_other s.heap (Obj.mapSeq f) (Ne.symm hb)).trans hu) ⟨_, q⟩ ?_
  exact ⟨hz, its', _, hv, q⟩
theorem Inv.lnew {its : List Value} {t' : Nat} (I : Inv X pins σ H s) (hv : Vals ys its) (hz : ys.length ≤ sizeLine) :
    Inv X pins σ (upd H s.heap.objs.size (.lst ys)) { s with heap := s.heap.push { cls := .type "list", data := .seq its.toArray }, toks := t' } :=
  I.laid (fun _ _ q => Heap.get?_push_of_some _ q) (Nat.le_refl _) ⟨hz, its, 0, hv, Heap.get?_push_size _ rfl⟩
theorem Inv.fresh (I : Inv X pins σ H s) : H s.heap.objs.size = none := I.hok.fresh (Nat.le_refl _)
theorem Inv.lstM (I : Inv X pins σ H s) (hH : H l = some (.lst xs)) : xs.length ≤ sizeLine ∧ ∃ (its : List Value) (n : Nat), Vals xs its ∧ xs.length = its.length ∧ s.heap.get? l = some { cls := .type "list", data := .seq its.toArray n } := by
  obtain ⟨z, its, n, r, e⟩ := I.hok l _ hH
  exact ⟨z, its, n, r, r.length, e⟩
theorem notLongL {n : Nat} (h : n ≤ sizeLine) : Builtin.List.listTooLong n = false := by
  unfold Builtin.List.listTooLong
  exact decide_eq_false (by omega)
end
section
variable {X : Cx}
def rAppend : V → List V → Hp → VK → Prop := fun x vs H Q => ∃ l xs y, x = .ref l ∧ vs = [y] ∧ H l = some (.lst xs) ∧ xs.length < sizeLine ∧ Q .non (upd H l (.lst (xs ++ [y])))
theorem mt_append : MtM X "list.append" rAppend := by
  intro pins s σ H x vs v us Q I rx rv h
  obtain ⟨l, xs, y, rfl, rfl, hH, hz, q⟩ := h
  cases rx
  obtain ⟨u, rfl, ru⟩ := rv.one
  obtain ⟨z, its, n, r, hl, e⟩ := I.lstM hH
  refine call_meets F.slot_list_append ⟨_, e, rfl⟩ F.entry_list_append (F.args_list_append_2 _ _) (PySem.list_append l its.toArray n u (by rw [List.size_toArray]; omega)) ⟨e, ?_⟩
  refine ⟨.non, _, I.lset (its' := its ++ [u]) hH e (by simp) (r.append (.cons ru .nil)) ?_, rfl, q⟩
  rw [List.length_append, List.length_singleton]
  omega
def rExtend : V → List V → Hp → VK → Prop := fun x vs H Q => ∃ l b xs zs, x = .ref l ∧ vs = [.ref b] ∧ H l = some (.lst xs) ∧ H b = some (.lst zs) ∧ xs.length + zs.length ≤ sizeLine ∧ Q .non (upd H l (.lst (xs ++ zs)))
def rPop : V → List V → Hp → VK → Prop := fun x vs H Q => ∃ l xs y, x = .ref l ∧ vs = [] ∧ H l = some (.lst xs) ∧ xs[xs.length - 1]? = some y ∧ Q y (upd H l (.lst xs.dropLast))
def rCat : R2 := fun x y H Q => ∃ l b xs zs, x = .ref l ∧ y = .ref b ∧ H l = some (.lst xs) ∧ H b = some (.lst zs) ∧ xs.length + zs.length ≤ sizeLine ∧ ∀ p, H p = none → Q (.ref p) (upd H p (.lst (xs ++ zs)))
theorem op_cat : OpR X (binaryOp .Add) rCat := by
  intro pins s σ H x y v u Q I rx ry h
  obtain ⟨l, b, xs, zs, rfl, rfl, hH, hB, hz, q⟩ := h
  cases rx
  cases ry
  obtain ⟨z, its, n, r, hl, e⟩ := I.lstM hH
  obtain ⟨z2, its2, n2, r2, hl2, e2⟩ := I.lstM hB
  refine PySem.P.add_list e e2 ?_ (by rw [List.size_toArray, List.size_toArray]; omega)
  have ea : its.toArray ++ its2.toArray = (its ++ its2).toArray := by simp
  rw [ea]
  exact ⟨.ref _, _, I.lnew (t' := s.toks) (r.append r2) (by rw [List.length_append]; omega), rfl, q _ I.fresh⟩
def rRep : R2 := fun x y H Q => ∃ l k xs, x = .ref l ∧ y = .int k ∧ H l = some (.lst xs) ∧ -(2 ^ 63) ≤ k ∧ k < 2 ^ 63 ∧ xs.length * k.toNat ≤ sizeLine ∧
  ∀ p, H p = none → Q (.ref p) (upd H p (.lst (List.replicate k.toNat xs).flatten))
theorem len_rep {α : Type} (xs : List α) (k : Nat) : (List.replicate k xs).flatten.length = k * xs.length := by
  induction k with
  | zero => simp
  | succ k ih => rw [List.replicate_succ, List.flatten_cons, List.length_append, ih, Nat.succ_mul, Nat.add_comm]
theorem op_rep : OpR X (binaryOp .Mult) rRep := by
  intro pins s σ H x y v u Q I rx ry h
  obtain ⟨l, k, xs, rfl, rfl, hH, h1, h2, hz, q⟩ := h
  cases rx
  obtain ⟨t, rfl⟩ := ry
  obtain ⟨z, its, n, r, hl, e⟩ := I.lstM hH
  have hlen : its.toArray.size * k.toNat ≤ sizeLine := by rw [List.size_toArray, ← hl]; exact hz
  have hcap : ¬ its.toArray.size * k.toNat > (2 ^ 63 - 1) / 8 := by
    have : (sizeLine : Nat) ≤ (2 ^ 63 - 1) / 8 := by decide
    omega
  have hfit : ¬ (!Builtin.List.listFitsIndex k) = true := by
    rw [fitsIndex_both h1 h2]
    exact Bool.false_ne_true
  have hlong : ¬ Builtin.List.listTooLong (its.toArray.size * k.toNat) = true := by
    rw [notLongL hlen]
    exact Bool.false_ne_true
  have hnew : List.foldl (fun x1 x2 => x1 ++ x2) #[] (List.replicate (if its.toArray.isEmpty = true then 0 else k.toNat) its.toArray) = (List.replicate k.toNat its).flatten.toArray := by
    have f0 : ∀ m : Nat, List.foldl (fun x1 x2 => x1 ++ x2) #[] (List.replicate m its.toArray) = (List.replicate m its).flatten.toArray := fun m => by
      have := foldl_rep its m []
      rw [List.nil_append] at this
      exact this
    rw [f0]
    cases its with
    | nil => simp
    | cons a r' => rw [if_neg (by simp)]
  refine wpAny_binaryOp_repeat_ref (T := "list") (U := "int") (by decide) ⟨_, e, rfl⟩ (fun s' => typeIs_int s' k t) noFill_list_mul F.fills_int_mul F.slot_int_rmul repeat_list F.slot_int_index.lookup
    (call_meets F.slot_int_rmul (typeIs_int s k t) F.entry_int_rmul (F.args_int_rmul_2 _ _) (int___rmul___int_list k t l its.toArray n)
      ⟨e, rfl, ⟨_, e, rfl⟩, call_meets F.slot_list_mul ⟨_, e, rfl⟩ F.entry_list_mul (F.args_list_mul_2 _ _) (AutoListH.list___mul___list_int_3 l its.toArray n k t hfit hcap hlong) ⟨e, ?_⟩⟩)
  rw [hnew]
  exact ⟨.ref _, _, I.lnew (t' := s.toks) (r.rep k.toNat) (by rw [len_rep, Nat.mul_comm]; exact hz), rfl, q _ I.fresh⟩
end
section
variable {prog : Program} {w : World} {A : Around} {E : Value → Shared → Prop} {s : Shared}
end
section
variable {X : Cx}
end
end L2
namespace Att
open PySem PySem.W PySem.Calls PyProof.Rows
theorem ints_of_wellAll {P : Params} {h : Heap} : ∀ (ns : List Int) (vs : List Value), WellAll P h vs (ns.map WData.int) → IntsAre vs ns := by
  intro ns
  induction ns with
  | nil =>
    intro vs w
    rw [List.map_nil] at w
    cases w
    exact .nil
  | cons n ns ih =>
    intro vs w
    rw [List.map_cons] at w
    cases w with
    | cons a b =>
      cases a
      exact .cons _ _ (ih _ b)
theorem script_of {l : OpenLaw} {n : Nat} (hn : l.most = some n) {P : Params} {h : Heap} {args : List WData} {vals : List Value}
    (hpre : l.row.toRowW.claim.pre args = true) (hwl : WellAll P h vals args) :
    ∃ a vs ns, vals = [Value.ref a] ∧ args = [WData.list (ns.map WData.int)] ∧ h.get? a = some { cls := .type "list", data := .seq vs.toArray } ∧ IntsAre vs ns ∧ ns.length ≤ n := by
  have hsh : WShape.hasAll [] args [.list .int] = true := (pre_splitW hpre).1
  have hc : l.pre.holds [] { args := args } = true := (pre_splitW hpre).2
  obtain ⟨d, r, rfl, h1, h2⟩ := hasAllW_cons hsh
  obtain rfl := hasAllW_nil h2
  obtain ⟨xs, rfl, h3⟩ := hasW_list h1
  obtain ⟨ns, rfl⟩ := items_int h3
  have hlen : ns.length ≤ n := by
    unfold OpenLaw.pre at hc
    have h4 : (WTm.not (.lt (.lit (.int (n : Int))) (.len (.arg 0)))).holds [] { args := [.list (ns.map .int)] } = true := by
      have h4 := (holds_andW hc).1
      rw [hn] at h4
      exact h4
    have h5 := condW_of h4 (w_not (w_lt w_lit (w_len_list (w_arg rfl))))
    rw [List.length_map] at h5
    refine Nat.le_of_not_lt fun q => ?_
    have q' : (n : Int) < ((ns.length : Nat) : Int) := by omega
    first
      | (rw [decide_eq_true q'] at h5; exact absurd h5 (by decide))
      | (simp at h5; omega)
  cases hwl with
  | cons w1 w2 =>
    cases w2
    cases w1 with
    | list ho hall => exact ⟨_, _, ns, rfl, rfl, ho, ints_of_wellAll ns _ hall, hlen⟩
theorem post_true (l : OpenLaw) (args : List WData) : l.row.toRowW.claim.post args (.bool true) args = true :=
  postW_of (r := l.row.toRowW) (X := (true == true))
    (show WShape.has [] (.bool true) .bool = true by first | rfl | decide | simp [WShape.has, WShape.arms, WShape.armsAll])
    (show (WTm.eq .res (.lit (.bool true))).value [] { args := args, res := some (.bool true), after := args } = some (.bool (true == true)) from w_eq_bool (w_res rfl) w_lit) rfl
theorem attach_call {l : OpenLaw} {n : Nat} {q : Program} {loose : List Str} {XP : (Str → Option Value) → Heap → Prop} {YP : World → Heap → Prop} {d : DefRec}
    (hn : l.most = some n) (hdf : d.params.defaults = [])
    (call : ∀ (w : World) (s₀ s₁ : Shared) (mg mb : Str → Option Value) (fa : Addr) (o : Obj) (pm cd doc : Value) (a : Addr) (vs : List Value) (ns : List Int),
      Ground q loose [] XP w s₀ mg mb s₁.heap → YP w s₁.heap →
      s₁.heap.get? fa = some o → o.data = .func (docDef d.name d.params d.body d.scope pm cd doc) → s₁.heap.CodeRec cd d.name → mg d.name = some (.ref fa) →
      s₁.heap.get? a = some { cls := .type "list", data := .seq vs.toArray } → IntsAre vs ns → ns.length ≤ n → s₁.gens = #[] →
      codeAny (model l.prog w) callerA (.call (.ref fa) ⟨[.ref a], []⟩) (fun r s' => r = .ok (.ret (.bool true)) ∧ OldK s₁.heap s'.heap ∧ s'.os = s₁.os ∧ AllBare s'.gens) s₁) :
    WalkO q loose XP YP l.row.toRowW d [] (fun f vs => PySem.call f vs) := by
  intro w s₀ s₁ mg mb G Y fa o pm cd doc dV kV ho hd hcd hD hmg hg args vals as hpre hlay hrd hwl hlo
  obtain rfl : dV = .none := Dflts.none hD hdf
  obtain rfl : kV = .none := Dflts.noKw hD
  obtain ⟨a, vs, ns, rfl, rfl, hobj, hints, hlen⟩ := script_of hn hpre hwl
  refine enter_call (codeAny_mono (call w s₀ s₁ mg mb fa o pm cd doc a vs ns G Y ho (fd_plain hd) hcd hmg hobj hints hlen hg) fun r s' hq => ?_)
  obtain ⟨rfl, h2, h3, h4⟩ := hq
  exact ⟨.inl ⟨.bool true, .bool true, [], rfl, fun _ => rfl, .bool true, post_true l _, fun _ => ⟨List.Pairwise.nil, fun _ hm => (nomatch hm)⟩⟩, h2, h3, h4⟩
section
variable {prog : Program} {w : World} {A : Around} {E : Value → Shared → Prop} {s : Shared} {K : Frag}
end
end Att
namespace L2
open PySem PySem.Spec PyProof.Rows
theorem vals_ints : ∀ {vs : List Value} {ns : List Int}, IntsAre vs ns → Vals (ns.map V.int) vs
  | _, _, .nil => .nil
  | _, _, .cons n t h => .cons ⟨t, rfl⟩ (vals_ints h)
def Only (H : Hp) : Prop := ∀ b, H b = none ∨ ∃ o xs, H b = some (.frz o (.lst xs))
theorem law_call {P : Program} {w : World} {K : PySem.W.Frag} {mg mb : Str → Option Value} {CX : CXT} {k : Nat} {fa a : Addr} {fd : FuncData} {x : Str} {sp : Sp} {s₁ : Shared} {vs : List Value} {ns : List Int}
    (KX : K.In s₁.heap) (hns : s₁.heap.Ns mainGlobals mg) (hb : s₁.heap.Ns builtinsNs mb) (hbb : ∀ x : Str, x ≠ "__name__" → mb x = bootBuiltins x) (hlim : s₁.heap.NoLimit) (hseer : s₁.heap.NoSeer) (htree : (model P w).prog.given.tree = none) (hg : s₁.gens = #[])
    (ha : s₁.heap.get? a = some { cls := .type "list", data := .seq vs.toArray }) (hi : IntsAre vs ns) (hl : ns.length ≤ sizeLine) (hr : Room k callerA)
    (F : ∀ base : Heap, K.In base → base.Ns mainGlobals mg → FnOk P w K mg base CX k fa fd [x] sp) (hbind : ∀ (s : Shared) (u : Value), BindsTo s fd ⟨[u], []⟩ [(x, u)])
    (hsp : ∀ H : Hp, Only H → SqL K H a (ns.map V.int) → sp [.ref a] H (fun v _ => v = .bl true) fun _ _ _ => False)
    (hCX : ∀ H e s', CX [] H s₁ (fun _ _ _ => False) e s' → False) :
    codeAny (model P w) callerA (.call (.ref fa) ⟨[.ref a], []⟩) (fun r s' => r = .ok (.ret (.bool true)) ∧ OldK s₁.heap s'.heap ∧ s'.os = s₁.os ∧ AllBare s'.gens) s₁ := by
  have rv := vals_ints hi
  have lenV := hi.length
  have core : ∀ H : Hp, Only H → SqL K H a (ns.map V.int) → HOk P w H s₁.heap → (∀ b, H b ≠ none → b = a) → (H a ≠ none → K.lookup a = none) →
      codeAny (model P w) callerA (.call (.ref fa) ⟨[.ref a], []⟩) (fun r s' => r = .ok (.ret (.bool true)) ∧ OldK s₁.heap s'.heap ∧ s'.os = s₁.os ∧ AllBare s'.gens) s₁ := by
    intro H hO hS hok hA hK
    have base_of : ∀ {b : Addr} {o : Obj}, s₁.heap.get? b = some o → H b = none → (hidT s₁.heap H).get? b = some o := fun e n => hidT_get e n
    have noA : ∀ {b : Addr} {o : Obj} {es : Array DictEntry} {ep : Nat}, s₁.heap.get? b = some o → o.data = .dict es ep → H b = none := fun {b o es ep} e d => by
      cases q : H b with
      | none => rfl
      | some u =>
        have e' : b = a := hA b (by rw [q]; simp)
        subst e'
        rw [ha] at e; cases e
        have d' : Data.seq vs.toArray _ = Data.dict es ep := d
        cases d'
    have nsK : ∀ {b : Addr} {m : Str → Option Value}, s₁.heap.Ns b m → (hidT s₁.heap H).Ns b m := fun {b m} ⟨o, es, ep, e, d, r⟩ => ⟨o, es, ep, base_of e (noA e d), d, r⟩
    have hKb : K.In (hidT s₁.heap H) := fun b o e => base_of (KX b o e) (by
      cases q : H b with
      | none => rfl
      | some u =>
        have e' : b = a := hA b (by rw [q]; simp)
        subst e'
        rw [hK (by rw [q]; simp)] at e; cases e)
    have hM : Mod K mg (hidT s₁.heap H) := ⟨hKb, nsK hns, ⟨mb, nsK hb, hbb⟩, let ⟨mc, h1, h2⟩ := hlim; ⟨mc, nsK h1, h2⟩⟩
    have hSe : (hidT s₁.heap H).NoSeer := ⟨let ⟨mc, a, b⟩ := hseer.statics; ⟨mc, nsK a, b⟩, let ⟨mc, a, b⟩ := hseer.mods; ⟨mc, nsK a, b⟩, let ⟨mc, a, b⟩ := hseer.imp; ⟨mc, nsK a, b⟩,
      let ⟨mg', bm, ob, a', b', c', d', e'⟩ := hseer.main; ⟨mg', bm, ob, nsK a', b', base_of c' (by
        cases q : H bm with
        | none => rfl
        | some u =>
          have z : bm = a := hA bm (by rw [q]; simp)
          subst z
          rw [ha] at c'; cases c'
          simp at d'), d', e'⟩⟩
    have e0 : Env0 P w K mg (hidT s₁.heap H) callerA [] s₁ H := ⟨rfl, hM, fun b o e => of_hidT e, Nat.le_of_eq (hidT_size _ _), trivial, fun b hb => absurd (show b ∈ ([] : List Addr) from hb) (by simp), hok, .of_eq hg, hSe, htree⟩
    refine codeAny_mono ((F _ hKb (nsK hns)).run callerA [] s₁ H ⟨[.ref a], []⟩ [.ref a] [.ref a] _ _ hr e0 (hbind s₁ (.ref a)) (.cons rfl .nil) (hsp H hO hS)) fun r s' h => ?_
    cases r with
    | error e => exact (hCX H e s' h).elim
    | ok fl =>
      cases fl with
      | next => exact False.elim h
      | brk => exact False.elim h
      | cont => exact False.elim h
      | ret u =>
        obtain ⟨v, H', os, bare, un, hok', r', q⟩ := h
        have q' : v = .bl true := q
        subst q'
        obtain rfl : u = Value.bool true := r'
        refine ⟨rfl, OldK.of_keep fun b o e => ?_, os, bare⟩
        cases q : H b with
        | none => exact un.keep b o e q (by intro z; exact absurd (show b ∈ ([] : List Addr) from z) (by simp)) (by simp)
        | some u =>
          rcases hO b with z | ⟨ob, xs, z⟩
          · rw [q] at z; cases z
          · have z2 := un.frzs b ob _ z
            obtain ⟨e1, _⟩ := hok b _ z
            obtain ⟨e2, _⟩ := hok' b _ z2
            rw [e] at e1; cases e1
            exact e2
  cases hk : K.lookup a with
  | some o =>
    have e := KX a o hk
    rw [ha] at e
    cases e
    refine core (fun _ => none) (fun _ => .inl rfl) (.inr ⟨_, vs.toArray, _, hk, rfl, rfl, rfl, by rw [List.size_toArray, lenV]; exact hl, by simpa using rv⟩) (fun b u z => by have z' : (none : Option HO) = some u := z; cases z') (fun b z => absurd rfl z) fun z => absurd rfl z
  | none =>
    refine core (fun b => if b = a then some (.frz { cls := .type "list", data := .seq vs.toArray } (.lst (ns.map V.int))) else none) (fun b => ?_) (.inl (.inr ⟨{ cls := .type "list", data := .seq vs.toArray }, if_pos rfl⟩)) (fun b u z => ?_) (fun b z => ?_) fun _ => hk
    · by_cases hb : b = a
      · exact .inr ⟨_, _, if_pos hb⟩
      · exact .inl (if_neg hb)
    · by_cases hb : b = a
      · have z' := (if_pos hb).symm.trans z
        cases z'
        subst hb
        exact ⟨ha, by rw [List.length_map]; exact hl, vs, _, rv, ha⟩
      · have z' := (if_neg hb).symm.trans z
        cases z'
    · by_cases hb : b = a
      · exact hb
      · exact absurd (if_neg hb) z
end L2
namespace L2
open PySem PySem.Spec PyProof.Rows
theorem walk_of {l : PySem.W.OpenLaw} {n k : Nat} {q : Program} {loose : List Str} {XP : (Str → Option Value) → Heap → Prop} {YP : World → Heap → Prop} {d : DefRec} {K : Params → PySem.W.Frag} {CX : World → CXT} {sp : World → Sp} {x : Str}
    (hn : l.most = some n) (hn2 : n ≤ sizeLine) (hdf : d.params.defaults = []) (hq : importsNone q = true) (htree : ∀ w, (model l.prog w).prog.given.tree = none) (hr : Room k callerA)
    (hY : ∀ (w : World) (h : Heap), YP w h → (K w.params).In h)
    (F : ∀ (w : World) (mg : Str → Option Value) (fa : Addr) (h : Heap), (K w.params).In h → h.Ns mainGlobals mg → mg d.name = some (.ref fa) →
      ∃ fd : FuncData, (∀ (s : Shared) (u : Value), BindsTo s fd ⟨[u], []⟩ [(x, u)]) ∧
        ∀ base : Heap, (K w.params).In base → base.Ns mainGlobals mg → FnOk l.prog w (K w.params) mg base (CX w) k fa fd [x] (sp w))
    (hsp : ∀ (w : World) (H : Hp) (a : Addr) (ns : List Int), ns.length ≤ n → Only H → SqL (K w.params) H a (ns.map V.int) → sp w [.ref a] H (fun v _ => v = .bl true) fun _ _ _ => False)
    (hCX : ∀ (w : World) (H : Hp) (s : Shared) (e : Value) (s' : Shared), CX w [] H s (fun _ _ _ => False) e s' → False) :
    PySem.W.WalkO q loose XP YP l.row.toRowW d [] (fun f vs => PySem.call f vs) := by
  refine Att.attach_call hn hdf fun w s₀ s₁ mg mb fa o pm cd doc a vs ns G Y ho hd hcd hmg hobj hints hlen hg => ?_
  have KX := hY w _ Y
  obtain ⟨fd, hb, hF⟩ := F w mg fa _ KX G.T.g hmg
  exact law_call KX G.T.g G.T.b G.T.builtins G.T.nolimit (G.T.seer hq) (htree w) hg hobj hints (Nat.le_trans hlen hn2) hr hF hb (fun H hO hS => hsp w H a ns hlen hO hS) fun H e s' => hCX w H s₁ e s'
end L2
namespace L2
open PySem PySem.Spec PyProof.Rows
def defArgs (s : Stmt) : Arguments := match s with
  | .FunctionDef _ a _ _ _ _ _ _ _ _ => a
  | _ => { posonlyargs := [], args := [], vararg := none, kwonlyargs := [], kw_defaults := [], kwarg := none, defaults := [] }
def defBody (s : Stmt) : List Stmt := match s with
  | .FunctionDef _ _ b _ _ _ _ _ _ _ => b
  | _ => []
def defScope (s : Stmt) : Scope := match s with
  | .FunctionDef _ _ _ _ _ _ sc _ _ _ => sc
  | _ => { kind := .function, names := [], isGenerator := false, isCoroutine := false }
abbrev CX0 : CXT := fun _ _ _ _ _ _ => False
abbrev E0 : XK := fun _ _ _ => False
theorem pass0 {X : Cx} : Passes CX0 X E0 := fun _ _ _ _ _ _ _ h => h.elim
structure Fun (K : PySem.W.Frag) (x qual : Str) (st : Stmt) (f : Addr) (fd : FuncData) : Prop where
  ex : ∃ (oc : Value) (od : Option Addr) (kV doc pm : Value) (an : Option Addr) (cdv ct : Value) (osl : Array (Option Value)),
    fd = PySem.W.fnOf x qual (defArgs st) (defBody st) (defScope st) .none kV doc pm an cdv ct ∧ K.lookup f = some ⟨oc, od, .func fd, osl⟩ ∧ PySem.W.codeIn K cdv qual = true
  kp : PySem.W.keepIn K (.ref f) = true
section
variable {P : Program} {w : World} {K : PySem.W.Frag} {mg : Str → Option Value} {base : Heap}
theorem Fun.ok {x qual : Str} {st : Stmt} {f : Addr} {fd : FuncData} {N ps : List Str} {k : Nat} {sp : Sp} (F : Fun K x qual st f fd) (S : FnScope N ps (defScope st)) (len : ∀ vs H Q E, sp vs H Q E → vs.length = ps.length)
    (hbody : ∀ (cdv : Value) (A : Around) (outer : List Env) (s : Shared) (H : Hp) (vs : List V) (Q : VK) (E : XK), Room k (A.deeper (envOfC qual (defScope st) s.heap.objs.size f cdv)) → sp vs H Q E →
      ∃ t, PSs (cxOf CX0 P w K mg base N qual (defScope st) f cdv A outer s H E).nox (defBody st) t ∧ t { nx := fun _ H' => Q .non H', rt := Q } (start N vs) H) : FnOk P w K mg base CX0 (k + 1) f fd ps sp := by
  obtain ⟨oc, od, kV, doc, pm, an, cdv, ct, osl, rfl, lk, hcd⟩ := F.ex
  refine fn_of lk hcd S len fun A outer s H vs Q E hr hsp => ?_
  obtain ⟨t, h, q⟩ := hbody cdv A outer s H vs Q E hr hsp
  exact ⟨t, h.nox, q⟩
theorem Fun.binds {x qual : Str} {st : Stmt} {f : Addr} {fd : FuncData} {ps : List Str} (F : Fun K x qual st f fd)
    (h : ∀ (kV doc pm : Value) (an : Option Addr) (cdv ct : Value) (us : List Value), us.length = ps.length → bindArgs (PySem.W.fnOf x qual (defArgs st) (defBody st) (defScope st) .none kV doc pm an cdv ct) ⟨us, []⟩ = pure (ps.zip us)) : Binds K fd ps [] := by
  obtain ⟨oc, od, kV, doc, pm, an, cdv, ct, osl, rfl, lk, hcd⟩ := F.ex
  exact .all (h kV doc pm an cdv ct)
theorem fun_mk {x qual : Str} {st : Stmt} {f : Addr} {oc : Value} {od an : Option Addr} {osl : Array (Option Value)} {kV doc pm cdv ct : Value} (l : K.lookup f = some ⟨oc, od, .func (PySem.W.fnOf x qual (defArgs st) (defBody st) (defScope st) .none kV doc pm an cdv ct), osl⟩)
    (c : PySem.W.codeIn K cdv qual = true) (k : PySem.W.keepIn K (.ref f) = true) : Fun K x qual st f (PySem.W.fnOf x qual (defArgs st) (defBody st) (defScope st) .none kV doc pm an cdv ct) := ⟨⟨oc, od, kV, doc, pm, an, cdv, ct, osl, rfl, l, c⟩, k⟩
end
section
variable {X : Cx}
theorem pv (i : Nat) {x : Str} {pos : Pos} (hN : X.N[i]? = some x := by rfl) (hv : Vis X.env.scope x := by first | exact Or.inl rfl | exact Or.inr (Or.inl rfl) | exact Or.inr (Or.inr rfl)) (hd : (x == ("__debug__" : Str)) = false := by decide)
    (hcd : (x == ("__classdict__" : Str)) = false := by decide) : PE X (.Name x pos) (tVar i) := pe_var hN hv hd hcd
end
theorem ite2 {c A B : Prop} [Decidable c] (h1 : c → A) (h2 : ¬ c → B) : if c then A else B := by
  by_cases h : c
  · rw [if_pos h]
    exact h1 h
  · rw [if_neg h]
    exact h2 h
def Same (H H' : Hp) : Prop := ∀ b o, H b = some o → H' b = some o
theorem Same.refl (H : Hp) : Same H H := fun _ _ h => h
theorem Same.trans {H H1 H2 : Hp} (a : Same H H1) (b : Same H1 H2) : Same H H2 := fun c o h => b c o (a c o h)
theorem Same.free {H H' : Hp} (e : Same H H') {l : Addr} (h : H' l = Option.none) : H l = Option.none := by
  cases q : H l with
  | none => rfl
  | some o =>
    rw [e l o q] at h
    cases h
theorem Same.seq {K : PySem.W.Frag} {H H' : Hp} {a : Addr} {xs : List V} (e : Same H H') (h : SqL K H a xs) : SqL K H' a xs := by
  rcases h with (h | ⟨o, h⟩) | h
  · exact .inl (.inl (e _ _ h))
  · exact .inl (.inr ⟨o, e _ _ h⟩)
  · exact .inr h
end L2
local macro_rules | `(tactic| omega) => `(tactic| lia)
namespace Bs.Hd
open PySem PySem.Spec PyProof.Rows L2
set_option maxRecDepth 100000
set_option maxHeartbeats 4000000
def top (i : Nat) : Stmt := PySem.Challenge.pw_backslope_k64_tops.main.body.getD i (.Pass ⟨0, 0, 0, 0⟩)
abbrev s_common_divisor : Stmt := top 1
abbrev s_row_times : Stmt := top 2
abbrev s_ratio : Stmt := top 4
abbrev s_plus : Stmt := top 5
abbrev s_minus : Stmt := top 6
abbrev s_times : Stmt := top 7
abbrev s_over : Stmt := top 8
abbrev s_poly : Stmt := top 10
abbrev s_degree : Stmt := top 11
abbrev s_cleared : Stmt := top 12
abbrev s_uncleared : Stmt := top 13
abbrev s_number_of : Stmt := top 14
abbrev s_p_plus : Stmt := top 15
abbrev s_p_times : Stmt := top 16
abbrev s_p_slope : Stmt := top 17
abbrev s_top_for : Stmt := top 19
abbrev s_top_by : Stmt := top 20
abbrev s_l_mixed : Stmt := top 22
abbrev s_l_draws : Stmt := top 23
abbrev s_l_number : Stmt := top 24
abbrev s_l_row : Stmt := top 25
abbrev s_l_due : Stmt := top 26
abbrev s_law : Stmt := top 27
abbrev N : Value := .none
abbrev S (x : Str) (t : Tok) : Value := .str x t
abbrev I (i : Int) : Value := .int i 0
abbrev R (a : Addr) : Value := .ref a
def en (P : Params) (k : Str) (t : Tok) (v : Value) : DictEntry := ⟨PyData.keyHash P k, .str k t, v⟩
def cdO (n : Str) (t : Tok) (l c u : Int) (a : Addr) (b g d e f : Value) (x : Int) (y : Tok) : Obj := ⟨.type "code", none, .fields #[S n t, S n (t + 1), S "/claim/cut.py" (t + 2), I l, I c, I 0, I 0, I u, R a, .bool true, I 181, b, g, d, e, f, I x, I l, S "/claim/cut.py" y], #[]⟩
def fnO (n : Str) (s : Stmt) (pm : Value) (c : Addr) : Obj := ⟨.type "function", none, .func (PySem.W.fnOf n n (defArgs s) (defBody s) (defScope s) .none .none .none pm none (.ref c) .none), #[]⟩
abbrev mo0 : Value := S "backslope.wholes" 187
abbrev mo1 : Value := S "backslope.numbers" 211
abbrev mo2 : Value := S "backslope.polys" 254
abbrev mo3 : Value := S "backslope.slopes" 313
abbrev mo4 : Value := S "law_backslope_k64_tops" 337
def hp (P : Params) : W.Frag := [
  (3, ⟨.type "dict", none, .dict #[en P "__name__" 165 (S "law_backslope_k64_tops" 337), en P "__doc__" 166 N, en P "__package__" 167 N, en P "__loader__" 168 (.builtin "__main__.__loader__#opaque"), en P "__spec__" 169 N, en P "__annotations__" 170 (R 6), en P "__builtins__" 171 (R 4), en P "__file__" 173 (S "/claim/cut.py" 172), en P "__cached__" 174 N, en P "common_divisor" 197 (R 21), en P "row_times" 210 (R 28), en P "ratio" 221 (R 35), en P "plus" 229 (R 42), en P "minus" 237 (R 49), en P "times" 245 (R 56), en P "over" 253 (R 63), en P "poly" 263 (R 70), en P "degree" 270 (R 77), en P "cleared" 276 (R 82), en P "uncleared" 282 (R 87), en P "number_of" 290 (R 94), en P "p_plus" 296 (R 99), en P "p_times" 306 (R 106), en P "p_slope" 312 (R 111), en P "top_for" 323 (R 118), en P "top_by" 336 (R 125), en P "_law_mixed" 347 (R 132), en P "_law_draws" 359 (R 139), en P "_law_number" 366 (R 146), en P "_law_row" 372 (R 151), en P "_law_due" 387 (R 158), en P "law" 393 (R 163)] 32, #[]⟩),
  (20, cdO "common_divisor" 189 2 2 3 15 (R 16) N (R 17) (R 18) (R 19) 195 196),
  (21, fnO "common_divisor" (top 1) mo0 20),
  (27, cdO "row_times" 198 8 2 3 22 (R 23) N (R 24) (R 25) (R 26) 208 209),
  (28, fnO "row_times" (top 2) mo0 27),
  (34, cdO "ratio" 213 18 2 3 29 (R 30) N (R 31) (R 32) (R 33) 219 220),
  (35, fnO "ratio" (top 4) mo1 34),
  (41, cdO "plus" 222 23 2 3 36 (R 37) N (R 38) (R 39) (R 40) 227 228),
  (42, fnO "plus" (top 5) mo1 41),
  (48, cdO "minus" 230 25 2 3 43 (R 44) N (R 45) (R 46) (R 47) 235 236),
  (49, fnO "minus" (top 6) mo1 48),
  (55, cdO "times" 238 27 2 3 50 (R 51) N (R 52) (R 53) (R 54) 243 244),
  (56, fnO "times" (top 7) mo1 55),
  (62, cdO "over" 246 29 2 3 57 (R 58) N (R 59) (R 60) (R 61) 251 252),
  (63, fnO "over" (top 8) mo1 62),
  (69, cdO "poly" 256 32 1 3 64 (R 65) N (R 66) (R 67) (R 68) 261 262),
  (70, fnO "poly" (top 10) mo2 69),
  (76, cdO "degree" 264 37 1 3 71 (R 72) N (R 73) (R 74) (R 75) 268 269),
  (77, fnO "degree" (top 11) mo2 76),
  (81, cdO "cleared" 271 39 1 3 78 (R 79) N N N (R 80) 274 275),
  (82, fnO "cleared" (top 12) mo2 81),
  (86, cdO "uncleared" 277 44 2 3 83 (R 84) N N N (R 85) 280 281),
  (87, fnO "uncleared" (top 13) mo2 86),
  (93, cdO "number_of" 283 46 2 3 88 (R 89) N (R 90) (R 91) (R 92) 288 289),
  (94, fnO "number_of" (top 14) mo2 93),
  (98, cdO "p_plus" 291 48 2 3 95 (R 96) N N N (R 97) 294 295),
  (99, fnO "p_plus" (top 15) mo2 98),
  (105, cdO "p_times" 297 50 2 3 100 (R 101) N (R 102) (R 103) (R 104) 304 305),
  (106, fnO "p_times" (top 16) mo2 105),
  (110, cdO "p_slope" 307 54 1 3 107 (R 108) N N N (R 109) 310 311),
  (111, fnO "p_slope" (top 17) mo2 110),
  (117, cdO "top_for" 315 57 3 3 112 (R 113) N (R 114) (R 115) (R 116) 321 322),
  (118, fnO "top_for" (top 19) mo3 117),
  (124, cdO "top_by" 324 59 3 3 119 (R 120) N (R 121) (R 122) (R 123) 334 335),
  (125, fnO "top_by" (top 20) mo3 124),
  (131, cdO "_law_mixed" 339 71 2 3 126 (R 127) N (R 128) (R 129) (R 130) 345 346),
  (132, fnO "_law_mixed" (top 22) mo4 131),
  (138, cdO "_law_draws" 348 74 2 3 133 (R 134) N (R 135) (R 136) (R 137) 357 358),
  (139, fnO "_law_draws" (top 23) mo4 138),
  (145, cdO "_law_number" 360 85 1 3 140 (R 141) N (R 142) (R 143) (R 144) 364 365),
  (146, fnO "_law_number" (top 24) mo4 145),
  (150, cdO "_law_row" 367 87 2 3 147 (R 148) N N N (R 149) 370 371),
  (151, fnO "_law_row" (top 25) mo4 150),
  (157, cdO "_law_due" 373 89 3 3 152 (R 153) N (R 154) (R 155) (R 156) 385 386),
  (158, fnO "_law_due" (top 26) mo4 157),
  (162, cdO "law" 388 103 1 3 159 (R 160) N N N (R 161) 391 392),
  (163, fnO "law" (top 27) mo4 162)]
def as : List Addr := [3, 20, 21, 27, 28, 34, 35, 41, 42, 48, 49, 55, 56, 62, 63, 69, 70, 76, 77, 81, 82, 86, 87, 93, 94, 98, 99, 105, 106, 110, 111, 117, 118, 124, 125, 131, 132, 138, 139, 145, 146, 150, 151, 157, 158, 162, 163]
def vw : Program := PySem.W.view PySem.Challenge.pw_backslope_k64_tops [1, 2, 4, 5, 6, 7, 8, 10, 11, 12, 13, 14, 15, 16, 17, 19, 20, 22, 23, 24, 25, 26, 27]
def hk : PySem.W.Hook := PySem.W.kHook hp as (fun _ => by kernel_rfl)
theorem left : PySem.W.LeftO PySem.Challenge.pw_backslope_k64_tops vw [] (fun s => PySem.W.xlAt vw [] s && PySem.W.recOk (PySem.W.RowW.records (PySem.W.OpenRow.toRowW (PySem.W.OpenLaw.row PySem.Challenge.rw_backslope_k64_tops))) s) hk.obs hk.val 1598 := fun w => by kernel_rfl
end Bs.Hd
namespace Bs
def Bd (n : Nat) (x : Int) : Prop := x.natAbs < 2 ^ n
theorem Bd.mono {m n : Nat} {x : Int} (h : Bd m x) (hn : m ≤ n) : Bd n x := Nat.lt_of_lt_of_le h (Nat.pow_le_pow_right (by decide) hn)
theorem Bd.le {n : Nat} {x y : Int} (h : Bd n x) (hy : y.natAbs ≤ x.natAbs) : Bd n y := Nat.lt_of_le_of_lt hy h
theorem Bd.neg {n : Nat} {x : Int} (h : Bd n x) : Bd n (-x) := by unfold Bd at *; rw [Int.natAbs_neg]; exact h
theorem Bd.add {n : Nat} {x y : Int} (h : Bd n x) (h' : Bd n y) : Bd (n + 1) (x + y) := by
  unfold Bd at *
  have := Int.natAbs_add_le x y
  rw [Nat.pow_succ]
  omega
theorem Bd.sub {n : Nat} {x y : Int} (h : Bd n x) (h' : Bd n y) : Bd (n + 1) (x - y) := by
  rw [Int.sub_eq_add_neg]; exact h.add h'.neg
theorem Bd.mul {m n : Nat} {x y : Int} (h : Bd m x) (h' : Bd n y) : Bd (m + n) (x * y) := by
  unfold Bd at *
  rw [Int.natAbs_mul, Nat.pow_add]
  exact Nat.mul_lt_mul'' h h'
structure Low (t d : Int) : Prop where
  pos : 0 < d
  one : Int.gcd t d = 1
theorem gcd_fmod (a b : Int) : Int.gcd b (a.fmod b) = Int.gcd a b := by
  have e : a.fmod b = a - b * a.fdiv b := Int.fmod_def a b
  rw [e]
  apply Nat.dvd_antisymm
  · apply Int.dvd_gcd
    · have h1 := Int.gcd_dvd_left b (a - b * a.fdiv b)
      have h2 := Int.gcd_dvd_right b (a - b * a.fdiv b)
      have h3 := Int.dvd_add h2 (Int.dvd_mul_of_dvd_left (c := a.fdiv b) h1)
      rw [Int.sub_add_cancel] at h3
      exact h3
    · exact Int.gcd_dvd_left b _
  · apply Int.dvd_gcd
    · exact Int.gcd_dvd_right a b
    · exact Int.dvd_sub (Int.gcd_dvd_left a b) (Int.dvd_mul_of_dvd_left (Int.gcd_dvd_right a b))
theorem fmod_less (a : Int) {b : Int} (h : b ≠ 0) : (a.fmod b).natAbs < b.natAbs := by
  rcases Int.lt_or_gt_of_ne h with hb | hb
  · rw [Int.fmod_eq_emod]
    have h1 := Int.emod_nonneg a h
    have h2 := Int.emod_lt a h
    split
    · rename_i h'
      rcases h' with h' | h'
      · omega
      · have : a % b = 0 := Int.emod_eq_zero_of_dvd h'
        omega
    · rename_i h'
      have : a % b ≠ 0 := fun z => h' (.inr (Int.dvd_of_emod_eq_zero z))
      omega
  · rw [Int.fmod_eq_emod_of_nonneg a (Int.le_of_lt hb)]
    have h1 := Int.emod_nonneg a h
    have h2 := Int.emod_lt_of_pos a hb
    omega
theorem ratio_math {a b s : Int} (hb : b ≠ 0) (hs : s = if b < 0 then -((Int.gcd a b : Nat) : Int) else ((Int.gcd a b : Nat) : Int)) :
    s ≠ 0 ∧ s.natAbs ≤ b.natAbs ∧ Low (a.fdiv s) (b.fdiv s) ∧ a.fdiv s * b = a * b.fdiv s ∧ (a.fdiv s).natAbs ≤ a.natAbs ∧ (b.fdiv s).natAbs ≤ b.natAbs := by
  have g0 : 0 < Int.gcd a b := Int.gcd_pos_of_ne_zero_right a hb
  have sn : s.natAbs = Int.gcd a b := by rw [hs]; split <;> simp
  have s0 : s ≠ 0 := by intro z; rw [z] at sn; simp at sn; omega
  have da : s ∣ a := by
    rw [← Int.natAbs_dvd, sn]; exact Int.gcd_dvd_left a b
  have db : s ∣ b := by
    rw [← Int.natAbs_dvd, sn]; exact Int.gcd_dvd_right a b
  obtain ⟨t, rfl⟩ := da
  obtain ⟨d, rfl⟩ := db
  rw [Int.mul_fdiv_cancel_left _ s0, Int.mul_fdiv_cancel_left _ s0]
  have d0 : d ≠ 0 := by rintro rfl; simp at hb
  have sp : 1 ≤ s.natAbs := by omega
  have gd : Int.gcd t d = 1 := by
    rw [Int.gcd_mul_left] at sn
    have h2 : s.natAbs * Int.gcd t d = s.natAbs * 1 := by omega
    exact Nat.eq_of_mul_eq_mul_left sp h2
  have dp : 0 < d := by
    by_cases h : s * d < 0
    · rw [if_pos h] at hs
      have sneg : s < 0 := by omega
      rcases Int.lt_or_gt_of_ne d0 with h' | h'
      · have := Int.mul_pos_of_neg_of_neg sneg h'; omega
      · exact h'
    · rw [if_neg h] at hs
      have spos : 0 < s := by omega
      rcases Int.lt_or_gt_of_ne d0 with h' | h'
      · have := Int.mul_neg_of_pos_of_neg spos h'; omega
      · exact h'
  have le1 : ∀ y : Int, y.natAbs ≤ (s * y).natAbs := fun y => by
    rw [Int.natAbs_mul]; exact Nat.le_mul_of_pos_left _ sp
  refine ⟨s0, ?_, ⟨dp, gd⟩, ?_, le1 t, le1 d⟩
  · rw [Int.natAbs_mul]; exact Nat.le_mul_of_pos_right _ (by omega)
  · grind
theorem lowest_math {a b : Int} (hb : 0 < b) : Low (a / ((Int.gcd a b : Nat) : Int)) (b / ((Int.gcd a b : Nat) : Int)) ∧ (a / ((Int.gcd a b : Nat) : Int)).natAbs ≤ a.natAbs ∧ (b / ((Int.gcd a b : Nat) : Int)).natAbs ≤ b.natAbs ∧ 0 < ((Int.gcd a b : Nat) : Int) ∧ ((Int.gcd a b : Nat) : Int) ≤ b := by
  have g0 : 0 < Int.gcd a b := Int.gcd_pos_of_ne_zero_right a (by omega)
  obtain ⟨_, h1, h2, h3, h4, h5⟩ := ratio_math (a := a) (b := b) (s := ((Int.gcd a b : Nat) : Int)) (by omega) (by rw [if_neg (by omega)])
  rw [Int.fdiv_eq_ediv_of_nonneg _ (by omega), Int.fdiv_eq_ediv_of_nonneg _ (by omega)] at h2
  rw [Int.fdiv_eq_ediv_of_nonneg _ (by omega)] at h4 h5
  exact ⟨h2, h4, h5, by omega, by omega⟩
end Bs
namespace Bs
open PySem L2
def DivP (_ j : Int) : Prop := 0 < j ∧ Bd 9000 j
def DivN (_ j : Int) : Prop := j ≠ 0 ∧ Bd 9000 j
def PowOk (i j : Int) : Prop := 0 ≤ j ∧ j ≤ 1000000 ∧ i.natAbs < 2 ^ 64
abbrev iAdd : R2 := rI0 fun i j => .int (i + j)
abbrev iSub : R2 := rI0 fun i j => .int (i - j)
abbrev iMul : R2 := rI IntMulOk fun i j => .int (i * j)
abbrev iDivP : R2 := rI DivP fun i j => .int (i / j)
abbrev iDivN : R2 := rI DivN fun i j => .int (i.fdiv j)
abbrev iMod : R2 := rI (fun _ j => 0 < j) fun i j => .int (i % j)
abbrev iModN : R2 := rI (fun _ j => j ≠ 0) fun i j => .int (i.fmod j)
abbrev iPow : R2 := rI PowOk fun i j => .int (i ^ j.toNat)
abbrev iLt : R2 := rI0 fun i j => .bl (decide (i < j))
abbrev iLe : R2 := rI0 fun i j => .bl (decide (i ≤ j))
abbrev iGt : R2 := rI0 fun i j => .bl (decide (j < i))
abbrev iGe : R2 := rI0 fun i j => .bl (decide (j ≤ i))
abbrev uNeg : V → Hp → VK → Prop := rU fun i => .int (-i)
def gT : R2 := fun x y H Q => ∃ p i xs v, x = .ref p ∧ y = .int i ∧ H p = some (.tup xs) ∧ atI xs i = some v ∧ Q v H
def gL : R2 := fun x y H Q => ∃ p i xs v, x = .ref p ∧ y = .int i ∧ H p = some (.lst xs) ∧ atI xs i = some v ∧ Q v H
def gS (K : W.Frag) : R2 := fun x y H Q => ∃ p i xs v, x = .ref p ∧ y = .int i ∧ SqL K H p xs ∧ atI xs i = some v ∧ Q v H
def bAbs : List V → Hp → VK → Prop := fun xs H Q => ∃ i, xs = [.int i] ∧ Q (.int (if i < 0 then -i else i)) H
def bMax : List V → Hp → VK → Prop := fun xs H Q => ∃ i j, xs = [.int i, .int j] ∧ Q (.int (if j > i then j else i)) H
def bMin : List V → Hp → VK → Prop := fun xs H Q => ∃ i j, xs = [.int i, .int j] ∧ Q (.int (if j < i then j else i)) H
def bIntB : List V → Hp → VK → Prop := fun xs H Q => ∃ k, xs = [.bl k] ∧ Q (.int (if k = true then 1 else 0)) H
def bLenT : List V → Hp → VK → Prop := fun xs H Q => ∃ p ys, xs = [.ref p] ∧ H p = some (.tup ys) ∧ Q (.int ys.length) H
def bLenL : List V → Hp → VK → Prop := fun xs H Q => ∃ p ys, xs = [.ref p] ∧ H p = some (.lst ys) ∧ Q (.int ys.length) H
def bLenS (K : W.Frag) : List V → Hp → VK → Prop := fun xs H Q => ∃ p ys, xs = [.ref p] ∧ SqL K H p ys ∧ Q (.int ys.length) H
def isiO : Option HO → String → Option Bool
  | some (.tup _), n => if n = "tuple" then some true else if n = "bool" ∨ n = "int" ∨ n = "list" then some false else none
  | some (.lst _), n => if n = "list" then some true else if n = "bool" ∨ n = "int" ∨ n = "tuple" then some false else none
  | _, _ => none
def isiV (H : Hp) : V → String → Option Bool
  | .int _, n => if n = "int" then some true else if n = "bool" ∨ n = "tuple" ∨ n = "list" then some false else none
  | .bl _, n => if n = "int" ∨ n = "bool" then some true else if n = "tuple" ∨ n = "list" then some false else none
  | .ref p, n => isiO (H p) n
  | _, _ => none
def bIsi : List V → Hp → VK → Prop := fun xs H Q => ∃ x n b, xs = [x, .ty n] ∧ isiV H x n = some b ∧ Q (.bl b) H
theorem isi_int (H : Hp) (i : Int) : isiV H (.int i) "int" = some true := rfl
theorem isi_int_bool (H : Hp) (i : Int) : isiV H (.int i) "bool" = some false := rfl
theorem isi_bl (H : Hp) (b : Bool) : isiV H (.bl b) "bool" = some true := rfl
def intV : V → Bool
  | .int _ => true
  | _ => false
def eqT : R2 := fun x y H Q => ∃ a b xs ys, x = .ref a ∧ y = .ref b ∧ H a = some (.tup xs) ∧ H b = some (.tup ys) ∧ xs.all intV = true ∧ ys.all intV = true ∧ Q (.bl (decide (xs = ys))) H
def ForR (lo : Int) (n : Nat) (g : TG) (tb : TS) (D : Ends) (σ : St) (H : Hp) : Prop := ∃ W : Nat → Nat → St → Hp → Prop, (∃ m, W 0 m σ H) ∧ ∀ i m σ H, W i m σ H →
  ((Itr lo n).stop i H ∧ D.nx σ H) ∨ ((Itr lo n).go i H ∧ ∃ N : St → Hp → Prop, (∀ σ' H', N σ' H' → ∃ m', m' < m ∧ W (i + 1) m' σ' H') ∧ ∀ x H', (Itr lo n).yld i H x H' → g x σ H' fun σ2 H2 => tb { D with nx := N, ct := N, bk := D.nx } σ2 H2)
theorem tFor_r1 {ta : TA} {g : TG} {tb : TS} {D : Ends} {σ : St} {H : Hp} : tFor (iRng1 ta) g tb D σ H = ta σ H (fun vs H1 => ∃ j : Int, vs = [.int j] ∧ -(2 ^ 62) ≤ j ∧ j < 2 ^ 62 ∧ ForR 0 j.toNat g tb D σ H1) := rfl
theorem tFor_r2 {ta : TA} {g : TG} {tb : TS} {D : Ends} {σ : St} {H : Hp} : tFor (iRng2 ta) g tb D σ H = ta σ H (fun vs H1 => ∃ i j : Int, vs = [.int i, .int j] ∧ (-(2 ^ 62) ≤ i ∧ i < 2 ^ 62 ∧ -(2 ^ 62) ≤ j ∧ j < 2 ^ 62) ∧ ForR i (j - i).toNat g tb D σ H1) := rfl
theorem ForR.by {lo : Int} {n : Nat} {g : TG} {tb : TS} {D : Ends} {σ : St} {H : Hp} (Pv : Nat → St → Hp → Prop) (h0 : Pv 0 σ H)
    (hs : ∀ i σ H, i < n → Pv i σ H → g (.int (lo + i)) σ H fun σ2 H2 => tb { D with nx := Pv (i + 1), ct := Pv (i + 1), bk := D.nx } σ2 H2) (hd : ∀ σ H, Pv n σ H → D.nx σ H) : ForR lo n g tb D σ H := for_range Pv h0 hs hd
def ForT (K : W.Frag) (a : Addr) (g : TG) (tb : TS) (D : Ends) (σ : St) (H : Hp) : Prop := ∃ W : Nat → Nat → St → Hp → Prop, (∃ m, W 0 m σ H) ∧ ∀ i m σ H, W i m σ H →
  ((Itt K a).stop i H ∧ D.nx σ H) ∨ ((Itt K a).go i H ∧ ∃ N : St → Hp → Prop, (∀ σ' H', N σ' H' → ∃ m', m' < m ∧ W (i + 1) m' σ' H') ∧ ∀ x H', (Itt K a).yld i H x H' → g x σ H' fun σ2 H2 => tb { D with nx := N, ct := N, bk := D.nx } σ2 H2)
def ForL (K : W.Frag) (a : Addr) (g : TG) (tb : TS) (D : Ends) (σ : St) (H : Hp) : Prop := ∃ W : Nat → Nat → St → Hp → Prop, (∃ m, W 0 m σ H) ∧ ∀ i m σ H, W i m σ H →
  ((Itl K a).stop i H ∧ D.nx σ H) ∨ ((Itl K a).go i H ∧ ∃ N : St → Hp → Prop, (∀ σ' H', N σ' H' → ∃ m', m' < m ∧ W (i + 1) m' σ' H') ∧ ∀ x H', (Itl K a).yld i H x H' → g x σ H' fun σ2 H2 => tb { D with nx := N, ct := N, bk := D.nx } σ2 H2)
theorem tFor_t {K : W.Frag} {tl : TE} {g : TG} {tb : TS} {D : Ends} {σ : St} {H : Hp} : tFor (iTup K tl) g tb D σ H = tl σ H (fun x H1 => ∃ a, x = .ref a ∧ (∃ xs, SqT K H1 a xs) ∧ ForT K a g tb D σ H1) := rfl
theorem tFor_l {K : W.Frag} {tl : TE} {g : TG} {tb : TS} {D : Ends} {σ : St} {H : Hp} : tFor (iList K tl) g tb D σ H = tl σ H (fun x H1 => ∃ a, x = .ref a ∧ (∃ xs, SqL K H1 a xs) ∧ ForL K a g tb D σ H1) := rfl
theorem ForT.by {K : W.Frag} {a : Addr} {xs : List V} {g : TG} {tb : TS} {D : Ends} {σ : St} {H : Hp} (Pv : Nat → St → Hp → Prop) (h0 : Pv 0 σ H) (hl : ∀ i σ H, i ≤ xs.length → Pv i σ H → H a = some (.tup xs))
    (hs : ∀ i x σ H, xs[i]? = some x → Pv i σ H → g x σ H fun σ2 H2 => tb { D with nx := Pv (i + 1), ct := Pv (i + 1), bk := D.nx } σ2 H2) (hd : ∀ σ H, Pv xs.length σ H → D.nx σ H) : ForT K a g tb D σ H :=
  for_tup Pv h0 (fun i σ H h p => SqT.of (hl i σ H h p)) hs hd
theorem ForL.by {K : W.Frag} {a : Addr} {xs : List V} {g : TG} {tb : TS} {D : Ends} {σ : St} {H : Hp} (Pv : Nat → St → Hp → Prop) (h0 : Pv 0 σ H) (hl : ∀ i σ H, i ≤ xs.length → Pv i σ H → SqL K H a xs)
    (hs : ∀ i x σ H, xs[i]? = some x → Pv i σ H → g x σ H fun σ2 H2 => tb { D with nx := Pv (i + 1), ct := Pv (i + 1), bk := D.nx } σ2 H2) (hd : ∀ σ H, Pv xs.length σ H → D.nx σ H) : ForL K a g tb D σ H :=
  for_list Pv h0 hl hs hd
theorem while_by {c : TT} {tb : TS} {D : Ends} {σ : St} {H : Hp} (W : Nat → St → Hp → Prop) (m : Nat) (h0 : W m σ H)
    (hs : ∀ m σ H, W m σ H → c σ H fun b H1 => if b = true then ∃ N : St → Hp → Prop, (∀ σ' H', N σ' H' → ∃ m', m' < m ∧ W m' σ' H') ∧ tb { D with nx := N, ct := N, bk := D.nx } σ H1 else D.nx σ H1) : tWhile c tb D σ H := ⟨W, ⟨m, h0⟩, hs⟩
def Kp (p : Addr) (H H' : Hp) : Prop := ∀ b o, b ≠ p → H b = some o → H' b = some o
theorem Kp.trans {p : Addr} {H H1 H2 : Hp} (a : Kp p H H1) (b : Kp p H1 H2) : Kp p H H2 := fun c o n h => b c o n (a c o n h)
theorem Kp.of_same {p : Addr} {H H1 : Hp} (b : Same H H1) : Kp p H H1 := fun c o _ h => b c o h
theorem Kp.upd {p : Addr} {H : Hp} {o : HO} : Kp p H (upd H p o) := fun b u n h => by rw [upd_ne n]; exact h
theorem same_new {H : Hp} {p : Addr} (h : H p = none) (o : HO) : Same H (upd H p o) := fun b u q => by rw [upd_ne (ne_of_none q h)]; exact q
theorem Kp.new {p : Addr} {H H1 : Hp} (a : Kp p H H1) (h : H p = none) : Same H H1 := fun b o q => a b o (ne_of_none q h) q
theorem Kp.seq {K : W.Frag} {p : Addr} {H H' : Hp} {a : Addr} {xs : List V} (e : Kp p H H') (n : a ≠ p) (h : SqL K H a xs) : SqL K H' a xs := by
  rcases h with (h | ⟨o, h⟩) | h
  · exact .inl (.inl (e _ _ n h))
  · exact .inl (.inr ⟨o, e _ _ n h⟩)
  · exact .inr h
theorem sz {n : Nat} (h : n ≤ 1000000) : n ≤ sizeLine := by rw [sizeLine_eq]; omega
end Bs
namespace Bs
open PySem L2
theorem atI_two0 {α : Type} (a b : α) : atI [a, b] 0 = some a := rfl
theorem atI_two1 {α : Type} (a b : α) : atI [a, b] 1 = some b := rfl
theorem atI_three0 {α : Type} (a b c : α) : atI [a, b, c] 0 = some a := rfl
theorem atI_three1 {α : Type} (a b c : α) : atI [a, b, c] 1 = some b := rfl
theorem atI_three2 {α : Type} (a b c : α) : atI [a, b, c] 2 = some c := rfl
theorem scal_ii (a b : Int) : scal (.int a) (.int b) = true := rfl
theorem scal_bb (a b : Bool) : scal (.bl a) (.bl b) = true := rfl
theorem ixN_three0 : ixN 3 0 = some 0 := rfl
theorem ixN_three2 : ixN 3 2 = some 2 := rfl
end Bs
namespace Bs
open PySem PySem.Spec PyProof.Rows L2
theorem bt_abs : bootBuiltins "abs" = some (.builtin "abs") := by decide +kernel
theorem bt_len : bootBuiltins "len" = some (.builtin "len") := by decide +kernel
theorem bt_max : bootBuiltins "max" = some (.builtin "max") := by decide +kernel
theorem bt_isinstance : bootBuiltins "isinstance" = some (.builtin "isinstance") := by decide +kernel
theorem bt_int : bootBuiltins "int" = some (.type "int") := by decide +kernel
theorem bt_bool : bootBuiltins "bool" = some (.type "bool") := by decide +kernel
theorem bt_tuple : bootBuiltins "tuple" = some (.type "tuple") := by decide +kernel
theorem bt_enumerate : bootBuiltins "enumerate" = some (.type "enumerate") := by decide +kernel
section
variable {X : Cx}
theorem bits_le {n : Nat} {x : Int} (h : Bd n x) : Builtin.Int.intBits x ≤ n := by
  unfold Builtin.Int.intBits
  split
  · exact Nat.zero_le _
  · rename_i h0
    have hn : x.natAbs ≠ 0 := fun z => h0 (by have e : x = 0 := by omega
                                              subst e; rfl)
    have := (Nat.log2_lt hn).mpr h
    omega
theorem op_mulB : OpR X (binaryOp .Mult) iMul := opI fun _ _ _ _ _ _ _ hc q => mul_int q hc
theorem iop_mulB : OpR X (inplaceOp .Mult) iMul := opI fun _ _ _ _ _ _ _ hc q => imul_int q hc
theorem ix_tupH : IxR X gT := by
  intro value slice pins s σ H x y v u Q I rx ry h hs
  obtain ⟨p, i, xs, w, e1, e2, hp, ha, q⟩ := h
  exact ix_tup value slice pins s σ H x y v u Q I rx ry ⟨p, xs, i, w, e1, e2, SqT.of hp, ha, q⟩ hs
theorem ix_lstH : IxR X gL := by
  intro value slice pins s σ H x y v u Q I rx ry h hs
  obtain ⟨p, i, xs, w, e1, e2, hp, ha, q⟩ := h
  exact ix_list value slice pins s σ H x y v u Q I rx ry ⟨p, xs, i, w, e1, e2, SqL.of hp, ha, q⟩ hs
theorem call_absB : CallR X (.builtin "abs") bAbs := call_abs
theorem call_maxB (hc : X.calm = true) : CallR X (.builtin "max") bMax := call_max2 hc
theorem call_lenT : CallR X (.builtin "len") bLenT := fun pins s σ H xs us Q I r h => by
  obtain ⟨p, ys, e, hp, q⟩ := h
  exact call_len_seq pins s σ H xs us Q I r ⟨p, ys, e, .inr (SqT.of hp), q⟩
theorem call_lenL : CallR X (.builtin "len") bLenL := fun pins s σ H xs us Q I r h => by
  obtain ⟨p, ys, e, hp, q⟩ := h
  exact call_len_seq pins s σ H xs us Q I r ⟨p, ys, e, .inl (SqL.of hp), q⟩
theorem kit_ib (K : W.Frag) : PySem.W.kitOne K (.type "int") (.type "bool") = some false := by kernel_rfl
theorem kit_it (K : W.Frag) : PySem.W.kitOne K (.type "int") (.type "tuple") = some false := by kernel_rfl
theorem kit_il (K : W.Frag) : PySem.W.kitOne K (.type "int") (.type "list") = some false := by kernel_rfl
theorem kit_bi (K : W.Frag) : PySem.W.kitOne K (.type "bool") (.type "int") = some true := by kernel_rfl
theorem kit_bt (K : W.Frag) : PySem.W.kitOne K (.type "bool") (.type "tuple") = some false := by kernel_rfl
theorem kit_bl (K : W.Frag) : PySem.W.kitOne K (.type "bool") (.type "list") = some false := by kernel_rfl
theorem kit_tb (K : W.Frag) : PySem.W.kitOne K (.type "tuple") (.type "bool") = some false := by kernel_rfl
theorem kit_ti (K : W.Frag) : PySem.W.kitOne K (.type "tuple") (.type "int") = some false := by kernel_rfl
theorem kit_tl (K : W.Frag) : PySem.W.kitOne K (.type "tuple") (.type "list") = some false := by kernel_rfl
theorem kit_lb (K : W.Frag) : PySem.W.kitOne K (.type "list") (.type "bool") = some false := by kernel_rfl
theorem kit_li (K : W.Frag) : PySem.W.kitOne K (.type "list") (.type "int") = some false := by kernel_rfl
theorem kit_lt (K : W.Frag) : PySem.W.kitOne K (.type "list") (.type "tuple") = some false := by kernel_rfl
theorem kit_same (K : W.Frag) (n : String) : PySem.W.kitOne K (.type n) (.type n) = some true := by
  unfold PySem.W.kitOne
  rw [if_pos (beq_self_eq_true _)]
theorem isiV_ok {H : Hp} {x : V} {n : String} {b : Bool} (K : W.Frag) (h : isiV H x n = some b) : ∃ t, TyOf K H x t ∧ PySem.W.kitOne K t (.type n) = some b := by
  cases x with
  | int i =>
    refine ⟨_, .int i, ?_⟩
    unfold isiV at h
    dsimp only at h
    split at h
    · rename_i e; cases h; subst e; exact kit_same K _
    · split at h
      · rename_i e; cases h
        rcases e with rfl | rfl | rfl
        · exact kit_ib K
        · exact kit_it K
        · exact kit_il K
      · cases h
  | bl i =>
    refine ⟨_, .bl i, ?_⟩
    unfold isiV at h
    dsimp only at h
    split at h
    · rename_i e; cases h
      rcases e with rfl | rfl
      · exact kit_bi K
      · exact kit_same K _
    · split at h
      · rename_i e; cases h
        rcases e with rfl | rfl
        · exact kit_bt K
        · exact kit_bl K
      · cases h
  | ref p =>
    have h' : isiO (H p) n = some b := h
    cases e : H p with
    | none => rw [e] at h'; cases h'
    | some o =>
      rw [e] at h'
      cases o with
      | tup xs =>
        refine ⟨_, .tup e, ?_⟩
        unfold isiO at h'
        dsimp only at h'
        split at h'
        · rename_i e; cases h'; subst e; exact kit_same K _
        · split at h'
          · rename_i e; cases h'
            rcases e with rfl | rfl | rfl
            · exact kit_tb K
            · exact kit_ti K
            · exact kit_tl K
          · cases h'
      | lst xs =>
        refine ⟨_, .lst e, ?_⟩
        unfold isiO at h'
        dsimp only at h'
        split at h'
        · rename_i e; cases h'; subst e; exact kit_same K _
        · split at h'
          · rename_i e; cases h'
            rcases e with rfl | rfl | rfl
            · exact kit_lb K
            · exact kit_li K
            · exact kit_lt K
          · cases h'
      | _ => cases h'
  | _ => cases h
theorem call_isi : CallR X (.builtin "isinstance") bIsi := fun pins s σ H xs us Q I r h => by
  obtain ⟨x, n, b, rfl, e, q⟩ := h
  obtain ⟨u, w', rfl, rx, rn⟩ := vals2 r
  have rn' : w' = Value.type n := rn
  subst rn'
  obtain ⟨t, ty, k⟩ := isiV_ok X.K e
  exact isinst_ok I rx ty k fun tk => ⟨.bl b, H, I.tok tk, rfl, q⟩
end
structure Cal (P : Program) (w : World) (K : W.Frag) (mg : Str → Option Value) (base : Heap) (n : Nat) (x : Str) (ps : List Str) (sp : Sp) : Prop where
  ex : ∃ (f : Addr) (fd : FuncData), FnOk P w K mg base CX0 n f fd ps sp ∧ Binds K fd ps [] ∧ PySem.W.keepIn K (.ref f) = true ∧ mg x = some (.ref f)
theorem Cal.pe {X : Cx} {n m : Nat} {x : Str} {ps : List Str} {sp : Sp} {e : Expr} {es : List Expr} {t : TA} {p pos : Pos} (C : Cal X.prog X.w X.K X.mg X.base n x ps sp) (hr : Room m X.A) (hn : n ≤ m) (hg : Gl X x) (ha : PA X (e :: es) t)
    (hdb : (x == ("__debug__" : Str)) = false := by decide) (he : starEach (e :: es) X.env = (false, eval e X.env) :: starEach es X.env := by rfl) (hpl : (backTo pos (starEach es X.env)).any (·.1) = false := by rfl) :
    PE X (.Call (.Name x p) (e :: es) [] pos) (tCall sp [] E0 t) := by
  obtain ⟨f, fd, F, b, k, m⟩ := C.ex
  exact pe_call F (hr.mono hn) hg m k b .nil pass0 ha hdb he hpl
end Bs
namespace Bs
open PySem L2
def blkSt (capt : List (Option Nat)) (σ : L2.St) : L2.St := capt.map fun o => o.bind fun j => (σ[j]?).join
def tComp (wi : TI) (capt : List (Option Nat)) (g : TG) (te : TE) : TE := fun σ H Q => wi σ H fun J H1 => ∃ (n : Nat) (W : Nat → List V → Hp → Prop), W 0 [] H1 ∧ ∀ i ys H, W i ys H → i ≤ n ∧ ys.length ≤ sizeLine ∧
  ((J.stop i H ∧ ∀ p, H p = none → Q (.ref p) (upd H p (.lst ys))) ∨ (i < n ∧ J.go i H ∧ ∀ x H', J.yld i H x H' → g x (blkSt capt σ) H' fun σ2 H2 => te σ2 H2 fun y H3 => W (i + 1) (ys ++ [y]) H3))
def CompJ (J : It) (capt : List (Option Nat)) (g : TG) (te : TE) (σ : L2.St) (Q : VK) (H1 : Hp) : Prop := ∃ (n : Nat) (W : Nat → List V → Hp → Prop), W 0 [] H1 ∧ ∀ i ys H, W i ys H → i ≤ n ∧ ys.length ≤ sizeLine ∧
  ((J.stop i H ∧ ∀ p, H p = none → Q (.ref p) (upd H p (.lst ys))) ∨ (i < n ∧ J.go i H ∧ ∀ x H', J.yld i H x H' → g x (blkSt capt σ) H' fun σ2 H2 => te σ2 H2 fun y H3 => W (i + 1) (ys ++ [y]) H3))
section
variable {K : W.Frag} {ta : TA} {tl : TE} {capt : List (Option Nat)} {g : TG} {te : TE} {σ : L2.St} {H : Hp} {Q : VK}
theorem tComp_r1 : tComp (iRng1 ta) capt g te σ H Q = ta σ H (fun vs H1 => ∃ j : Int, vs = [.int j] ∧ -(2 ^ 62) ≤ j ∧ j < 2 ^ 62 ∧ CompJ (Itr 0 j.toNat) capt g te σ Q H1) := rfl
theorem tComp_r2 : tComp (iRng2 ta) capt g te σ H Q = ta σ H (fun vs H1 => ∃ i j : Int, vs = [.int i, .int j] ∧ (-(2 ^ 62) ≤ i ∧ i < 2 ^ 62 ∧ -(2 ^ 62) ≤ j ∧ j < 2 ^ 62) ∧ CompJ (Itr i (j - i).toNat) capt g te σ Q H1) := rfl
theorem tComp_t : tComp (iTup K tl) capt g te σ H Q = tl σ H (fun x H1 => ∃ a, x = .ref a ∧ (∃ xs, SqT K H1 a xs) ∧ CompJ (Itt K a) capt g te σ Q H1) := rfl
theorem tComp_l : tComp (iList K tl) capt g te σ H Q = tl σ H (fun x H1 => ∃ a, x = .ref a ∧ (∃ xs, SqL K H1 a xs) ∧ CompJ (Itl K a) capt g te σ Q H1) := rfl
theorem CompJ.range {lo : Int} {n : Nat} (W : Nat → List V → Hp → Prop) (h0 : W 0 [] H) (hb : ∀ i ys H, W i ys H → i ≤ n ∧ ys.length ≤ sizeLine)
    (hs : ∀ i ys H, i < n → W i ys H → g (.int (lo + i)) (blkSt capt σ) H fun σ2 H2 => te σ2 H2 fun y H3 => W (i + 1) (ys ++ [y]) H3) (hd : ∀ ys H, W n ys H → ∀ p, H p = none → Q (.ref p) (upd H p (.lst ys))) : CompJ (Itr lo n) capt g te σ Q H := by
  refine ⟨n, W, h0, fun i ys H w => ⟨(hb i ys H w).1, (hb i ys H w).2, ?_⟩⟩
  by_cases h : i < n
  · refine .inr ⟨h, h, fun x H' y => ?_⟩
    obtain ⟨e, y⟩ := y
    subst e y
    exact hs i ys _ h w
  · have e : i = n := Nat.le_antisymm (hb i ys H w).1 (Nat.not_lt.mp h)
    subst e
    exact .inl ⟨Nat.le_refl _, hd ys H w⟩
theorem CompJ.tup {a : Addr} {xs : List V} (W : Nat → List V → Hp → Prop) (h0 : W 0 [] H) (hb : ∀ i ys H, W i ys H → i ≤ xs.length ∧ ys.length ≤ sizeLine ∧ H a = some (.tup xs))
    (hs : ∀ i x ys H, xs[i]? = some x → W i ys H → g x (blkSt capt σ) H fun σ2 H2 => te σ2 H2 fun y H3 => W (i + 1) (ys ++ [y]) H3) (hd : ∀ ys H, W xs.length ys H → ∀ p, H p = none → Q (.ref p) (upd H p (.lst ys))) : CompJ (Itt K a) capt g te σ Q H := by
  refine ⟨xs.length, W, h0, fun i ys H w => ⟨(hb i ys H w).1, (hb i ys H w).2.1, ?_⟩⟩
  have q : SqT K H a xs := SqT.of (hb i ys H w).2.2
  by_cases h : i < xs.length
  · refine .inr ⟨h, ⟨xs, xs[i], q, by simp [h]⟩, fun x H' y => ?_⟩
    obtain ⟨e, y⟩ := y
    subst e
    exact hs i x ys _ (y xs q) w
  · have e : i = xs.length := Nat.le_antisymm (hb i ys H w).1 (Nat.not_lt.mp h)
    subst e
    exact .inl ⟨⟨xs, q, Nat.le_refl _⟩, hd ys H w⟩
theorem CompJ.lst {a : Addr} {xs : List V} (W : Nat → List V → Hp → Prop) (h0 : W 0 [] H) (hb : ∀ i ys H, W i ys H → i ≤ xs.length ∧ ys.length ≤ sizeLine ∧ SqL K H a xs)
    (hs : ∀ i x ys H, xs[i]? = some x → W i ys H → g x (blkSt capt σ) H fun σ2 H2 => te σ2 H2 fun y H3 => W (i + 1) (ys ++ [y]) H3) (hd : ∀ ys H, W xs.length ys H → ∀ p, H p = none → Q (.ref p) (upd H p (.lst ys))) : CompJ (Itl K a) capt g te σ Q H := by
  refine ⟨xs.length, W, h0, fun i ys H w => ⟨(hb i ys H w).1, (hb i ys H w).2.1, ?_⟩⟩
  have q : SqL K H a xs := (hb i ys H w).2.2
  by_cases h : i < xs.length
  · refine .inr ⟨h, ⟨xs, xs[i], q, by simp [h]⟩, fun x H' y => ?_⟩
    obtain ⟨e, y⟩ := y
    subst e
    exact hs i x ys _ (y xs q) w
  · have e : i = xs.length := Nat.le_antisymm (hb i ys H w).1 (Nat.not_lt.mp h)
    subst e
    exact .inl ⟨⟨xs, q, Nat.le_refl _⟩, hd ys H w⟩
end
def IteL (K : W.Frag) (a : Addr) : It :=
  ⟨fun i H => ∃ xs x, SqL K H a xs ∧ xs[i]? = some x, fun i H v H' => ∃ p x, H p = none ∧ v = .ref p ∧ H' = upd H p (.tup [.int i, x]) ∧ ∀ xs, SqL K H a xs → xs[i]? = some x, fun i H => ∃ xs, SqL K H a xs ∧ xs.length ≤ i⟩
def IteT (K : W.Frag) (a : Addr) : It :=
  ⟨fun i H => ∃ xs x, SqT K H a xs ∧ xs[i]? = some x, fun i H v H' => ∃ p x, H p = none ∧ v = .ref p ∧ H' = upd H p (.tup [.int i, x]) ∧ ∀ xs, SqT K H a xs → xs[i]? = some x, fun i H => ∃ xs, SqT K H a xs ∧ xs.length ≤ i⟩
def iEnumL (K : W.Frag) (ta : TA) : TI := fun σ H R => ta σ H fun vs H1 => ∃ a, vs = [.ref a] ∧ (∃ xs, SqL K H1 a xs) ∧ R (IteL K a) H1
def iEnumT (K : W.Frag) (ta : TA) : TI := fun σ H R => ta σ H fun vs H1 => ∃ a, vs = [.ref a] ∧ (∃ xs, SqT K H1 a xs) ∧ R (IteT K a) H1
def ForJ (J : It) (g : TG) (tb : TS) (D : Ends) (σ : L2.St) (H : Hp) : Prop := ∃ W : Nat → Nat → L2.St → Hp → Prop, (∃ m, W 0 m σ H) ∧ ∀ i m σ H, W i m σ H →
  (J.stop i H ∧ D.nx σ H) ∨ (J.go i H ∧ ∃ N : L2.St → Hp → Prop, (∀ σ' H', N σ' H' → ∃ m', m' < m ∧ W (i + 1) m' σ' H') ∧ ∀ x H', J.yld i H x H' → g x σ H' fun σ2 H2 => tb { D with nx := N, ct := N, bk := D.nx } σ2 H2)
section
variable {K : W.Frag} {ta : TA} {g : TG} {tb : TS} {D : Ends} {σ : L2.St} {H : Hp} {a : Addr} {xs : List V}
theorem tFor_el : tFor (iEnumL K ta) g tb D σ H = ta σ H (fun vs H1 => ∃ a, vs = [.ref a] ∧ (∃ xs, SqL K H1 a xs) ∧ ForJ (IteL K a) g tb D σ H1) := rfl
theorem tFor_et : tFor (iEnumT K ta) g tb D σ H = ta σ H (fun vs H1 => ∃ a, vs = [.ref a] ∧ (∃ xs, SqT K H1 a xs) ∧ ForJ (IteT K a) g tb D σ H1) := rfl
theorem tComp_el {capt : List (Option Nat)} {te : TE} {Q : VK} : tComp (iEnumL K ta) capt g te σ H Q = ta σ H (fun vs H1 => ∃ a, vs = [.ref a] ∧ (∃ xs, SqL K H1 a xs) ∧ CompJ (IteL K a) capt g te σ Q H1) := rfl
theorem ForJ.enumL (Pv : Nat → L2.St → Hp → Prop) (h0 : Pv 0 σ H) (hl : ∀ i σ H, i ≤ xs.length → Pv i σ H → SqL K H a xs)
    (hs : ∀ i x p σ H, xs[i]? = some x → Pv i σ H → H p = none → g (.ref p) σ (upd H p (.tup [.int i, x])) fun σ2 H2 => tb { D with nx := Pv (i + 1), ct := Pv (i + 1), bk := D.nx } σ2 H2) (hd : ∀ σ H, Pv xs.length σ H → D.nx σ H) : ForJ (IteL K a) g tb D σ H := by
  refine ⟨fun i m σ H => m = xs.length - i ∧ i ≤ xs.length ∧ Pv i σ H, ⟨xs.length, by simp, Nat.zero_le _, h0⟩, ?_⟩
  rintro i m σ H ⟨rfl, hi, pv⟩
  have q := hl i σ H hi pv
  by_cases lt : i < xs.length
  · refine .inr ⟨⟨xs, xs[i], q, by simp [lt]⟩, Pv (i + 1), fun σ' H' p' => ⟨xs.length - (i + 1), by omega, rfl, lt, p'⟩, fun x H' y => ?_⟩
    obtain ⟨p, x', hp, rfl, rfl, y⟩ := y
    exact hs i x' p σ _ (y xs q) pv hp
  · have e : i = xs.length := by omega
    subst e
    exact .inl ⟨⟨xs, q, Nat.le_refl _⟩, hd σ H pv⟩
end
end Bs
namespace Bs
open PySem PySem.Spec PyProof.Rows L2
def blk (X : Cx) (N : List Str) (scope : Scope) (cl : List (Str × Addr)) (C : Addr) (s : Shared) (H : Hp) (fp : List Addr) : Cx :=
  { X with N := N, s₀ := s, H₀ := H, env := compEnvC scope cl C X.env, outer := X.stack, stack := X.stack, ex := fp, fn := fun _ => false, pn := [], xe := fun _ _ => False }
structure BlkOk (X : Cx) (N : List Str) (capt : List (Option Nat)) (scope : Scope) (cl : List (Str × Addr)) : Prop where
  kind : scope.kind = .function
  clos : closureFor scope X.env = pure cl
  nocell : ∀ y ∈ scope.names, y.2 ≠ .cell
  names : ∀ y ∈ scope.names, y.2 = .local → scope.names.lookup y.1 = some .local
  cells : ∀ y c, cl.lookup y = some c → X.env.cells.lookup y = some c
  has : ∀ y, ((relabel scope X.env).names.lookup y = some .cell ∨ (relabel scope X.env).names.lookup y = some .free) → ∃ c, cl.lookup y = some c
  cap : ∀ (i : Nat) (x : Str) (j : Nat), N[i]? = some x → capt[i]? = some (some j) → X.N[j]? = some x ∧ Vis X.env.scope x ∧ X.env.kindOf x ≠ some .local ∧ ((relabel scope X.env).names.lookup x = some .cell ∨ (relabel scope X.env).names.lookup x = some .free)
  len : capt.length = N.length
section
variable {X : Cx} {pins : List (Addr × Obj)} {σ : L2.St} {H : Hp} {s : Shared} {N : List Str} {capt : List (Option Nat)} {scope : Scope} {cl : List (Str × Addr)} {C : Addr} {fp : List Addr}
theorem blk_ok (B : BlkOk X N capt scope cl) (I : Inv X pins σ H s) (fo : ∀ b ∈ fp, FpOk X pins H b) (fl : ∀ b ∈ fp, b < s.heap.objs.size) (hC : s.heap.objs.size ≤ C) : (blk X N scope cl C s H fp).Ok where
  mod := I.ok.mod
  kind := B.kind
  glob := I.ok.glob
  blt := I.ok.blt
  above := hC
  inj := fun x y c h1 h2 => I.ok.inj x y c (B.cells x c h1) (B.cells y c h2)
  has := fun x h => B.has x h
  cab := fun _ _ h => nomatch h
  hd := I.ok.hd
  frames := I.ok.frames
  stk := .inl rfl
  exf := fun b hb => ⟨fun e => absurd (Nat.lt_of_lt_of_le (fl b hb) hC) (by rw [show b = C from e]; exact Nat.lt_irrefl _), fun x c e => (fo b hb).2.2.2.2.1 x c (B.cells x c e)⟩
  bs := I.bs
  bsz := Nat.le_trans I.ok.bsz I.sz
  noex := fun b o e hb => by
    rcases (fo b hb).2.2.2.1 with z | z
    · exact I.ok.noex b o e z
    · exact absurd (Nat.lt_of_lt_of_le (Heap.lt_size e) (Nat.le_trans I.ok.bsz z)) (Nat.lt_irrefl _)
  exfs := fun b hb hf => by
    rcases List.mem_cons.mp (I.stkSub b hf) with z | z
    · exact (fo b hb).2.1 z
    · exact (fo b hb).2.2.1 z
  funs := I.stack
  frf := I.stkFree
  seer := I.ok.seer
  tree := I.ok.tree
  plr := I.ok.plr
theorem blk_inv (B : BlkOk X N capt scope cl) (I : Inv X pins σ H s) (fo : ∀ b ∈ fp, FpOk X pins H b) (fl : ∀ b ∈ fp, b < s.heap.objs.size) (hC : s.heap.objs.size ≤ C) {h1 : Heap} {m : Str → Option Value} {tk : Nat}
    (hn : h1.Ns C m) (hk : ∀ b o, s.heap.get? b = some o → h1.get? b = some o) : Inv (blk X N scope cl C s H fp) [] (blkSt capt σ) H { s with heap := h1, toks := tk } where
  ok := blk_ok B I fo fl hC
  os := rfl
  bare := I.bare
  base := Un.kept hk
  loc := by
    refine ⟨m, hn, fun i x v e1 e2 e3 => ?_⟩
    have e2' : (capt.map fun o => o.bind fun j => (σ[j]?).join)[i]? = some (some v) := e2
    rw [List.getElem?_map] at e2'
    cases ec : capt[i]? with
    | none => rw [ec] at e2'; cases e2'
    | some o =>
      rw [ec] at e2'
      cases o with
      | none => cases e2'
      | some j =>
        have e4 : (σ[j]?).join = some v := Option.some.inj e2'
        obtain ⟨c1, c2, c3, c4⟩ := B.cap i x j e1 ec
        have e5 : σ[j]? = some (some v) := by
          cases q : σ[j]? with
          | none => rw [q] at e4; cases e4
          | some w => rw [q] at e4; exact congrArg some e4
        obtain ⟨m', _, hl⟩ := I.loc
        obtain ⟨u, r, l⟩ := hl j x v c1 e5 c2
        refine ⟨u, r, .inr ⟨c4, ?_⟩⟩
        rcases l with ⟨l, _⟩ | ⟨_, c, lc, ic⟩
        · exact absurd l c3
        · obtain ⟨c', hc'⟩ := B.has x c4
          have := B.cells x c' hc'
          rw [lc] at this
          cases this
          obtain ⟨o, ho, hd⟩ := ic
          exact ⟨c, hc', o, hk c o ho, hd⟩
  cell := fun x c e => by
    obtain ⟨v, o, ho, hd⟩ := I.cell x c (B.cells x c e)
    exact ⟨v, o, hk c o ho, hd⟩
  free := I.hok.fresh hC
  freeC := fun x c e => I.freeC x c (B.cells x c e)
  pin := fun p hp => nomatch hp
  hok := I.hok.kept hk
  len := by show (capt.map _).length = N.length; rw [List.length_map]; exact B.len
theorem blk_again {σ6 : L2.St} {H7 : Hp} {s7 : Shared} {pins' : List (Addr × Obj)} (B : BlkOk X N capt scope cl) (I : Inv X pins σ H s) (fo : ∀ b ∈ fp, FpOk X pins H b) (I7 : Inv (blk X N scope cl C s H fp) pins' σ6 H7 s7) : Inv (blk X N scope cl C s H fp) pins' (blkSt capt σ) H7 s7 :=
  ⟨I7.ok, I7.os, I7.bare, I7.base, by
    obtain ⟨m, hn, _⟩ := I7.loc
    refine ⟨m, hn, fun i x v e1 e2 e3 => ?_⟩
    have e2' : (capt.map fun o => o.bind fun j => (σ[j]?).join)[i]? = some (some v) := e2
    rw [List.getElem?_map] at e2'
    cases ec : capt[i]? with
    | none => rw [ec] at e2'; cases e2'
    | some o =>
      rw [ec] at e2'
      cases o with
      | none => cases e2'
      | some j =>
        have e4 : (σ[j]?).join = some v := Option.some.inj e2'
        obtain ⟨c1, c2, c3, c4⟩ := B.cap i x j e1 ec
        have e5 : σ[j]? = some (some v) := by
          cases q : σ[j]? with
          | none => rw [q] at e4; cases e4
          | some w => rw [q] at e4; exact congrArg some e4
        obtain ⟨m', _, hl⟩ := I.loc
        obtain ⟨u, r, l⟩ := hl j x v c1 e5 c2
        refine ⟨u, r, .inr ⟨c4, ?_⟩⟩
        rcases l with ⟨l, _⟩ | ⟨_, c, lc, ic⟩
        · exact absurd l c3
        · obtain ⟨c', hc'⟩ := B.has x c4
          have := B.cells x c' hc'
          rw [lc] at this
          cases this
          obtain ⟨o, ho, hd⟩ := ic
          obtain ⟨sl, hk⟩ := I7.base.any ho (I.freeC x c lc) fun hb => (fo c hb).2.2.2.2.1 x c lc rfl
          exact ⟨c, hc', _, hk, hd⟩, I7.cell, I7.free, I7.freeC, I7.pin, I7.hok, by show (capt.map _).length = N.length; rw [List.length_map]; exact B.len⟩
theorem lookup_mem {κ β : Type} [BEq κ] [LawfulBEq κ] : ∀ {l : List (κ × β)} {y : κ} {c : β}, l.lookup y = some c → (y, c) ∈ l
  | (k, v) :: l, y, c, h => by
    rw [List.lookup_cons] at h
    cases e : y == k with
    | true =>
      rw [e] at h
      cases h
      rw [eq_of_beq e]
      exact List.mem_cons_self ..
    | false =>
      rw [e] at h
      exact List.mem_cons_of_mem _ (lookup_mem h)
theorem BlkOk.of (k : scope.kind = .function) (c : closureFor scope X.env = pure cl) (n1 : (scope.names.all fun y => y.2 != .cell) = true) (n2 : (scope.names.all fun y => y.2 != .local || scope.names.lookup y.1 == some .local) = true)
    (cs : ∀ pr ∈ cl, X.env.cells.lookup pr.1 = some pr.2) (hs : ((relabel scope X.env).names.all fun pr => (pr.2 != .cell && pr.2 != .free) || (cl.lookup pr.1).isSome) = true)
    (cp : ((List.range N.length).all fun i => match N[i]?, capt[i]? with
      | some x, some (some j) => X.N[j]? == some x && (X.env.scope.names.lookup x == some .cell || X.env.scope.names.lookup x == some .free) && ((relabel scope X.env).names.lookup x == some .cell || (relabel scope X.env).names.lookup x == some .free)
      | _, _ => true) = true) (ln : capt.length = N.length) : BlkOk X N capt scope cl where
  kind := k
  clos := c
  nocell := fun y hy e => by
    have z := List.all_eq_true.mp n1 y hy
    rw [e] at z
    exact absurd z (by decide)
  names := fun y hy e => by
    have z := List.all_eq_true.mp n2 y hy
    rw [e] at z
    simpa using z
  cells := fun y c h => cs (y, c) (lookup_mem h)
  has := fun y h => by
    have m : ∃ kd, (y, kd) ∈ (relabel scope X.env).names ∧ (kd = .cell ∨ kd = .free) := by
      rcases h with h | h
      · exact ⟨_, lookup_mem h, .inl rfl⟩
      · exact ⟨_, lookup_mem h, .inr rfl⟩
    obtain ⟨kd, m, e⟩ := m
    have z := List.all_eq_true.mp hs _ m
    have z2 : (cl.lookup y).isSome = true := by
      rcases e with rfl | rfl
      · simpa using z
      · simpa using z
    exact Option.isSome_iff_exists.mp z2
  cap := fun i x j e1 e2 => by
    have li : i < N.length := (List.getElem?_eq_some_iff.mp e1).1
    have z := List.all_eq_true.mp cp i (List.mem_range.mpr li)
    rw [e1, e2] at z
    simp only [Bool.and_eq_true, Bool.or_eq_true, beq_iff_eq] at z
    obtain ⟨⟨z1, z2⟩, z3⟩ := z
    refine ⟨z1, .inr z2, fun q => ?_, z3⟩
    have q' : X.env.scope.names.lookup x = some .local := q
    rcases z2 with z2 | z2 <;> (rw [z2] at q'; cases q')
  len := ln
theorem compLoop_go {prog : Program} {w : World} {A : Around} {R : Result → Shared → Prop} {s : Shared} {elt target iter : Expr} {scope : Scope} {pos : Pos} {it acc : Value} {env : Env} (I : Nat → Shared → Prop)
    (turn : ∀ n s, I n s → wpAny (model prog w) A (pyNext it) (fun r s₁ => match r with
      | none => R (.ok .next) s₁
      | some v => wpAny (model prog w) A (letOwnedTupleGo target it v) (fun _ s₂ => wpAny (model prog w) A (assign target env v) (fun _ s₃ => wpAny (model prog w) A (eval elt env) (fun x s₄ =>
          wpAny (model prog w) A (call (.builtin "list.append") [acc, x]) (fun _ s₅ => ∃ m, m < n ∧ I m s₅) (fun _ _ => False) s₄) (fun _ _ => False) s₃) (fun _ _ => False) s₂) (fun _ _ => False) s₁) (fun _ _ => False) s)
    (n : Nat) (h : I n s) : codeAny (model prog w) A (.compLoop (.ListComp elt [⟨target, iter, [], 0⟩] scope pos) 0 it acc env) R s := by
  refine codeAny_loop rfl I (fun n s hI => ?_) n h
  show wpAny _ A ((compTurn (.ListComp elt [⟨target, iter, [], 0⟩] scope pos) 0 it acc env).onRaise (fun x => do noteFrame x env; theTreesLotGoes x)) _ _ s
  refine wpAny_noted ?_
  rw [compTurn_list]
  have no : ∀ {E' : Value → Shared → Prop} (e : Value) (s' : Shared), (fun (_ : Value) (_ : Shared) => False) e s' → E' e s' := fun _ _ f => f.elim
  refine wpAny_bind (wpAny_standAt (wpAny_bind (wpAny_mono (turn n s hI) (fun r s₁ h₁ => ?_) no)))
  cases r with
  | none => exact wpAny_pure h₁
  | some v =>
    refine wpAny_bind (wpAny_mono h₁ (fun _ s₂ h₂ => ?_) no)
    refine wpAny_bind (wpAny_mono h₂ (fun _ s₃ h₃ => wpAny_bind (wpAny_tests_nil ?_)) no)
    exact wpAny_bind (wpAny_bind (wpAny_mono h₃ (fun x s₄ h₄ => wpAny_bind (wpAny_mono h₄ (fun _ s₅ h₅ => wpAny_pure (wpAny_pure ⟨rfl, h₅⟩)) no)) no))
theorem comp_core {elt iter tg : Expr} {pos : Pos} {wi : TI} {g : TG} {te : TE} {pins : List (Addr × Obj)} {s : Shared} {σ : L2.St} {H : Hp} {Q : VK} (RR : Value → Addr → Result → Shared → Prop) (hc : X.calm = true) (B : BlkOk X N capt scope cl) (hi : PI X tg iter wi)
    (hg : ∀ C s H fp, PG (blk X N scope cl C s H fp) tg g) (he : ∀ C s H fp, PE (blk X N scope cl C s H fp) elt te) (I : Inv X pins σ H s) (h : tComp wi capt g te σ H Q)
    (fin : ∀ (D C : Addr) (s4 : Shared) (Hq : Hp) (m : Str → Option Value), Inv X pins σ Hq s4 → Q (.ref D) Hq → s4.heap.Ns C m → Hq C = none → C ≠ X.env.locals → X.s₀.heap.objs.size ≤ C → (∀ x c, X.env.cells.lookup x = some c → c ≠ C) → (∀ p ∈ X.pn ++ pins, p.1 ≠ C) → RR (.ref D) C (.ok .next) s4) :
    wpAny (model X.prog X.w) X.A (eval iter X.env) (fun x s₁ => wpAny (model X.prog X.w) X.A (pyIter x) (fun it s₂ => wpAny (model X.prog X.w) X.A (newList []) (fun acc s₃ =>
      wpAny (model X.prog X.w) X.A (newFunctionEnv scope X.env.globals cl [] X.env.qual none .none (some X.env)) (fun cenv s₄ =>
        codeAny (model X.prog X.w) X.A (.compStart (.ListComp elt [⟨tg, iter, [], 0⟩] scope pos) 0 it acc { cenv with scope := relabel scope X.env }) (RR acc cenv.locals) s₄) X.xe s₃) X.xe s₂) X.xe s₁) X.xe s := by
  refine thn (hi pins s σ H _ I h) fun v s1 h1 => thn h1 fun itv s2 h2 => ?_
  obtain ⟨it, fp, tn, J, H2, e, I2, T, st2, f2, n0, W, w0, turn⟩ := h2
  subst e
  have fl : ∀ b ∈ fp, b < s2.heap.objs.size := fun b hb => by obtain ⟨o, e, _⟩ := T.obj _ _ st2 b hb; exact Heap.lt_size e
  refine wpAny_newObj_type (wpAny_newFunctionEnv B.nocell (by intro y hy; simp at hy) (fun h₁ hns₁ hsb₁ => ?_) B.kind)
  dsimp only at hns₁ hsb₁ ⊢
  generalize hG : s2.heap.push { cls := .type "list", dict := none, data := .seq ([] : List Value).toArray } = G at hns₁ hsb₁ ⊢
  have hC : G.objs.size = s2.heap.objs.size + 1 := by rw [← hG, Heap.size_push]
  have hCle : s2.heap.objs.size ≤ G.objs.size := by rw [hC]; exact Nat.le_succ _
  have hDC : s2.heap.objs.size ≠ G.objs.size := by rw [hC]; exact Nat.ne_of_lt (Nat.lt_succ_self _)
  have old : ∀ b o, s2.heap.get? b = some o → h₁.get? b = some o := fun b o e => hsb₁.extBut b o (by rw [hC]; exact Nat.ne_of_lt (Nat.lt_succ_of_lt (Heap.lt_size e))) (Heap.get?_push_of_some _ (hG ▸ Heap.get?_push_of_some _ e))
  have hacc : h₁.get? s2.heap.objs.size = some { cls := .type "list", data := .seq ([] : List Value).toArray } := hsb₁.extBut _ _ hDC (Heap.get?_push_of_some _ (hG ▸ Heap.get?_push_size _ rfl))
  have ok' := blk_ok B I2 f2 fl hCle
  have nsD : s2.heap.objs.size ∉ frs X.stack := fun hb => by
    rcases List.mem_cons.mp (I2.stkSub _ hb) with z | z
    · exact absurd I2.lt (by rw [← z]; exact Nat.lt_irrefl _)
    · exact I2.nofs (Nat.le_refl _) z
  have ncD : ∀ x c, cl.lookup x = some c → c ≠ s2.heap.objs.size := fun x c e z => by
    obtain ⟨v, q⟩ := I2.cell x c (B.cells x c e)
    exact absurd q.lt (by rw [z]; exact Nat.lt_irrefl _)
  have nfD : ∀ b ∈ fp, s2.heap.objs.size ≠ b := fun b hb z => absurd (fl b hb) (by rw [← z]; exact Nat.lt_irrefl _)
  have I₁ : Inv (blk X N scope cl G.objs.size s2 H2 fp) [] (blkSt capt σ) H2 { s2 with heap := h₁, toks := s2.toks + ([] : List (Str × Value)).length } := blk_inv B I2 f2 fl hCle hns₁ old
  have loop : codeAny (model X.prog X.w) X.A (.compLoop (.ListComp elt [⟨tg, iter, [], 0⟩] scope pos) 0 (.ref it) (.ref s2.heap.objs.size) (compEnvC scope cl G.objs.size X.env))
      (RR (.ref s2.heap.objs.size) G.objs.size) { s2 with heap := h₁, toks := s2.toks + ([] : List (Str × Value)).length } := by
    refine compLoop_go (fun n s' => ∃ (i : Nat) (ys : List V) (its : List Value) (k : Nat) (Hc : Hp), Inv (blk X N scope cl G.objs.size s2 H2 fp) [] (blkSt capt σ) Hc s' ∧ s'.heap.get? s2.heap.objs.size = some { cls := .type "list", data := .seq its.toArray k } ∧ Vals ys its ∧
      Hc s2.heap.objs.size = none ∧ tn i s'.heap ∧ (∀ b ∈ fp, Hc b = none) ∧ W i ys Hc ∧ n = n0 - i) ?_ n0 ⟨0, [], [], 0, H2, I₁, hacc, .nil, I2.hok.fresh (Nat.le_refl _), T.keep _ _ _ st2 (fun b _ o e => old b o e), fun b hb => (f2 b hb).1, w0, rfl⟩
    rintro n s3 ⟨i, ys, its, k, Hc, I3, hD, hv, nD, st3, fr3, w3, en⟩
    obtain ⟨_, hl, step⟩ := turn i ys Hc w3
    have hz : its.toArray.size ≤ sizeLine := by rw [List.size_toArray, ← hv.length]; exact hl
    have I3p : Inv (blk X N scope cl G.objs.size s2 H2 fp) [(s2.heap.objs.size, { cls := .type "list", data := .seq its.toArray k })] (blkSt capt σ) Hc s3 := I3.pins_of fun p hp => by
      rw [List.mem_singleton] at hp
      subst hp
      exact ⟨hD, nD, hDC, nsD, fun v z => nomatch z⟩
    have fo3 : ∀ {Hx : Hp} (_ : ∀ b ∈ fp, Hx b = none), ∀ b ∈ fp, FpOk (blk X N scope cl G.objs.size s2 H2 fp) [(s2.heap.objs.size, { cls := .type "list", data := .seq its.toArray k })] Hx b := fun hx b hb =>
      ⟨hx b hb, (ok'.exf b hb).1, ok'.exfs b hb, .inl hb, (ok'.exf b hb).2, fun p hp => by
        have hp' : p ∈ [((s2.heap.objs.size, { cls := .type "list", data := .seq its.toArray k }) : Addr × Obj)] := hp
        rw [List.mem_singleton] at hp'
        subst hp'
        exact nfD b hb⟩
    rcases step with ⟨stop, q⟩ | ⟨ltn, go, nxt⟩
    · refine thn (T.done (blk X N scope cl G.objs.size s2 H2 fp) rfl rfl rfl hc i _ s3 _ Hc _ I3p (fo3 fr3) st3 stop) fun r s4 ⟨hr, I4⟩ => ?_
      subst hr
      have hD4 := (I4.pin (s2.heap.objs.size, { cls := .type "list", data := .seq its.toArray k }) (List.mem_append_right _ (List.mem_singleton.mpr rfl))).1
      obtain ⟨m, hn, _⟩ := I4.loc
      have nDt : ∀ b u, Hc b = some u → b ≠ s2.heap.objs.size := fun b u e z => by rw [z, nD] at e; cases e
      have oldC : ∀ b o, s2.heap.get? b = some o → b ≠ s2.heap.objs.size := fun b o e => Nat.ne_of_lt (Heap.lt_size e)
      have ub : Un (frs X.stack) fp H2 Hc s2.heap s4.heap := I4.base
      have cC : ∀ b, b < s2.heap.objs.size → b ≠ G.objs.size := fun b hb z => absurd (Nat.lt_of_lt_of_le hb hCle) (by rw [z]; exact Nat.lt_irrefl _)
      refine fin _ G.objs.size s4 (upd Hc s2.heap.objs.size (.lst ys)) m ?_ (q _ nD) hn (by rw [upd_ne (fun z => hDC z.symm)]; exact I4.free) (fun z => cC _ I2.lt z.symm) (Nat.le_trans I2.sz hCle)
        (fun x c e => by obtain ⟨v, q⟩ := I2.cell x c e; exact cC _ q.lt) fun p hp => cC _ (Heap.lt_size (I2.pin p hp).1)
      refine I2.call' (ch := fp) (s' := s4) I4.os ?_ ?_ I4.bare fun b hb => ⟨(f2 b hb).2.2.2.1, (f2 b hb).2.1, (f2 b hb).2.2.2.2.1, (f2 b hb).2.2.2.2.2⟩
      · refine ⟨ub.keep, ub.slot, fun b o e n hx => ?_, ub.there, fun b xs e => ?_, fun b o u e => ?_, fun b ps e => ?_⟩
        · rw [upd_ne (oldC b o e)]; exact ub.free b o e n hx
        · have z := ub.tups b xs e
          rw [upd_ne (nDt b _ z)]; exact z
        · have z := ub.frzs b o u e
          rw [upd_ne (nDt b _ z)]; exact z
        · obtain ⟨more, z⟩ := ub.tbls b ps e
          exact ⟨more, by rw [upd_ne (nDt b _ z)]; exact z⟩
      · intro b u e
        by_cases hb : b = s2.heap.objs.size
        · subst hb
          rw [upd_same] at e
          cases e
          exact ⟨hl, its, k, hv, hD4⟩
        · rw [upd_ne hb] at e
          exact (I4.hok b u e).stay (fun c v _ q => q) (fun c q => by rw [upd_ne (nDt c _ q)]; exact q) fun c xs q => by rw [upd_ne (nDt c _ q)]; exact q
    · refine thn (T.item (blk X N scope cl G.objs.size s2 H2 fp) rfl rfl rfl hc i _ s3 _ Hc _ I3p (fo3 fr3) st3 go) fun r s4 ⟨u, hr, h4⟩ => ?_
      subst hr
      refine thn h4 fun _ s5 ⟨x, H5, I5, r5, y5, st5, fr5⟩ => ?_
      have I5' := I5.pinned (fo3 fr5) (T.obj _ _ st5)
      refine thn (hg _ _ _ _ _ s5 _ H5 x u _ I5' r5 (nxt x H5 y5)) fun _ s6 ⟨σ6, H6, I6, q6⟩ => ?_
      refine thn (he _ _ _ _ _ s6 σ6 H6 _ I6 q6) fun uy s7 ⟨y, H7, I7, r7, w7⟩ => ?_
      have pD := I7.pin (s2.heap.objs.size, { cls := .type "list", data := .seq its.toArray k }) (List.mem_append_right _ (List.mem_append_left _ (List.mem_singleton.mpr rfl)))
      have pF : ∀ b ∈ fp, ∀ o, s5.heap.get? b = some o → s7.heap.get? b = some o ∧ H7 b = none := fun b hb o e => by
        have z := I7.pin (b, o) (List.mem_append_right _ (List.mem_append_right _ (mem_pinsAt hb e)))
        exact ⟨z.1, z.2.1⟩
      refine append_at (hsz := hz) pD.1 fun h8 sb8 hD8 => ?_
      have I7n : Inv (blk X N scope cl G.objs.size s2 H2 fp) [] σ6 H7 s7 := I7.pins_of fun p hp => nomatch hp
      have I8 : Inv (blk X N scope cl G.objs.size s2 H2 fp) [] σ6 H7 { s7 with heap := h8, toks := s7.toks } := I7n.turned (fun b o hb e => sb8.extBut b o hb e) pD.2.1 hDC (.inr (Nat.le_refl _)) ncD (fun p hp => nomatch hp)
      refine ⟨n0 - (i + 1), by omega, i + 1, ys ++ [y], its ++ [uy], k + 1, H7, blk_again B I2 f2 I8, ?_, Paired.snoc hv r7, pD.2.1, T.keep _ _ _ st5 (fun b hb o e => sb8.extBut b o (nfD b hb).symm (pF b hb o e).1), fun b hb => ?_, w7, rfl⟩
      · show h8.get? _ = _
        rw [hD8, List.push_toArray]
      · obtain ⟨o, e, _⟩ := T.obj _ _ st5 b hb
        exact (pF b hb o e).2
  exact codeAny_compStart_list loop (T.self X.A 0 _ _ _ (T.keep _ _ _ st2 (fun b _ o e => old b o e)) loop)
theorem pe_comp {elt iter tg : Expr} {pos : Pos} {wi : TI} {g : TG} {te : TE} (hc : X.calm = true) (B : BlkOk X N capt scope cl) (hi : PI X tg iter wi)
    (hg : ∀ C s H fp, PG (blk X N scope cl C s H fp) tg g) (he : ∀ C s H fp, PE (blk X N scope cl C s H fp) elt te)
    (hs : ∀ x, foldedSetIterable iter X.env x = pure x := by intro _; rfl) : PE X (.ListComp elt [⟨tg, iter, [], 0⟩] scope pos) (tComp wi capt g te) := by
  intro pins s σ H Q I h
  rw [eval_ListComp]
  refine wpAny_comprehension_free (use := none) rfl hs B.clos B.kind B.names (comp_core (fun acc C => compPost (model X.prog X.w) X.A X.xe none (EP X pins σ Q) acc C) hc B hi hg he I h fun D C s4 Hq m I4 q hn hf h1 h2 h3 h4 => ?_)
  exact ⟨m, hn, fun h' sb => ⟨.ref D, Hq, I4.turned (fun b o hb e => sb.extBut b o hb e) hf h1 (.inr h2) h3 h4, rfl, q⟩⟩
end
end Bs
namespace Bs
open PySem PySem.Spec PyProof.Rows L2
open PySem.AutoSeq1 (wpAny_loadPart')
section
variable {prog : Program} {w : World} {A : Around} {E : Value → Shared → Prop} {s : Shared} {e it t : Addr} {i : Nat} {zs : Array Value}
end
section
variable {X : Cx} {pins : List (Addr × Obj)} {σ : L2.St} {H : Hp} {s : Shared}
theorem inv_pair {e it : Addr} {g : Heap} {tk : Nat} {xs : List V} {its : List Value} (I : Inv X pins σ H s) (fe : FpOk X pins H e) (fi : FpOk X pins H it) (k : ∀ b o, b ≠ e → b ≠ it → s.heap.get? b = some o → g.get? b = some o)
    (hz : xs.length ≤ sizeLine) (rv : Vals xs its) (ht : g.get? s.heap.objs.size = some { cls := .type "tuple", data := .seq its.toArray }) : Inv X pins σ (upd H s.heap.objs.size (.tup xs)) { s with heap := g, toks := tk } := by
  have nT : H s.heap.objs.size = none := I.hok.fresh (Nat.le_refl _)
  have old : ∀ b o, s.heap.get? b = some o → b ≠ s.heap.objs.size := fun b o q => Nat.ne_of_lt (Heap.lt_size q)
  have tr : ∀ b u, H b = some u → b ≠ s.heap.objs.size ∧ b ≠ e ∧ b ≠ it := fun b u q => ⟨ne_of_none q nT, ne_of_none q fe.1, ne_of_none q fi.1⟩
  have off : ∀ b, b ∉ [e, it] → b ≠ e ∧ b ≠ it := fun b hb => ⟨fun z => hb (by simp [z]), fun z => hb (by simp [z])⟩
  refine I.step (g' := s.gens) (d' := s.drawn) (ch := [e, it]) (fun b hb => ?_) (fun b o _ _ hc q _ => k b o (off b hc).1 (off b hc).2 q) (fun b o _ _ hc q _ => ⟨o.slots, k b o (off b hc).1 (off b hc).2 q⟩) (fun b o _ q n => ?_) (fun b o hc q => ⟨o, k b o (off b hc).1 (off b hc).2 q⟩)
    (fun b ys q => ?_) (fun b o u q => ?_) (fun b ps q => ⟨#[], ?_⟩) (fun m hm => ?_) (fun b u q => ?_) I.bare
  · have z : b = e ∨ b = it := by simpa using hb
    rcases z with rfl | rfl
    · exact ⟨fe.2.2.2.1, fe.2.1, fe.2.2.2.2.1, fe.2.2.2.2.2⟩
    · exact ⟨fi.2.2.2.1, fi.2.1, fi.2.2.2.2.1, fi.2.2.2.2.2⟩
  · rw [upd_ne (old b o q)]; exact n
  · rw [upd_ne (tr b _ q).1]; exact q
  · rw [upd_ne (tr b _ q).1]; exact q
  · rw [upd_ne (tr b _ q).1, q]; simp
  · obtain ⟨o, es, ep, ho, hr⟩ := hm
    exact ⟨o, es, ep, k _ o fe.2.1.symm fi.2.1.symm ho, hr⟩
  · by_cases hb : b = s.heap.objs.size
    · subst hb
      rw [upd_same] at q
      cases q
      exact ⟨hz, its, rv, ⟨_, ht, rfl, _, rfl⟩⟩
    · rw [upd_ne hb] at q
      refine (I.hok b u q).stay (fun c v hc z => ?_) (fun c z => by rw [upd_ne (tr c _ z).1]; exact z) fun c ys z => by rw [upd_ne (tr c _ z).1]; exact z
      rcases hc with y | y
      · subst y; exact k _ v (tr _ u q).2.1 (tr _ u q).2.2 z
      · exact k c v (tr c _ y).2.1 (tr c _ y).2.2 z
end
theorem turn_enumL {P : Program} {w : World} {K : W.Frag} {elts : List Expr} {k : Nat} {pos : Pos} (a e it : Addr) (ne : e ≠ it) : Turn P w K (.Tuple elts k pos) (IteL K a) [e, it] e (fun i h => (∃ old, IsEnum h e it i old) ∧ h.IsListIter it a i) where
  mem := by simp
  obj := fun i h st b hb => by
    obtain ⟨⟨old, se⟩, o, ho, c, d⟩ := st
    have z : b = e ∨ b = it := by simpa using hb
    rcases z with rfl | rfl
    · exact ⟨_, se, fun v z => nomatch z⟩
    · exact ⟨o, ho, fun v z => by rw [d] at z; cases z⟩
  keep := fun i h h' st kk => ⟨let ⟨old, se⟩ := st.1; ⟨old, kk e (by simp) _ se⟩, st.2.at fun o q => kk it (by simp) o q⟩
  item := by
    intro X hP hw hK hc i pins s σ H E I hf st hg
    subst hP hw hK
    obtain ⟨xs, x, hq, hx⟩ := hg
    obtain ⟨⟨old, se⟩, si⟩ := st
    obtain ⟨its, rv, p, hz⟩ := I.list hq
    obtain ⟨u, hu, ru⟩ := rv.get hx
    refine wpAny_pyNext_enum_item se si p.isList (x := u) (by simpa using hu) ne fun g eo gi gt _ gk => ?_
    refine ⟨_, rfl, wpAny_letOwnedTupleGo_enum eo fun g' se' sb => ?_⟩
    have I1 := inv_pair (g := g') (tk := s.toks + 1) (xs := [.int i, x]) (its := [.int i s.toks, u]) I (hf e (by simp)) (hf it (by simp)) (fun b o h1 h2 q => sb.extBut b o h1 (gk b o h1 h2 q)) (sz (by simp)) (.cons ⟨_, rfl⟩ (.cons ru .nil)) (sb.extBut _ _ (Nat.ne_of_gt (Heap.lt_size se)) gt)
    refine ⟨.ref s.heap.objs.size, _, I1, rfl, ⟨_, x, I.hok.fresh (Nat.le_refl _), rfl, rfl, fun ys hy => by rw [I.list_inj hy hq]; exact hx⟩, ⟨⟨_, by simpa using se'⟩, gi.at fun o q => sb.extBut it o ne.symm q⟩, fun b hb => ?_⟩
    rw [upd_ne]
    · exact (hf b hb).1
    · have z : b = e ∨ b = it := by simpa using hb
      rcases z with rfl | rfl
      · exact Nat.ne_of_lt (Heap.lt_size se)
      · obtain ⟨o, ho, _⟩ := si; exact Nat.ne_of_lt (Heap.lt_size ho)
  done := by
    intro X hP hw hK hc i pins s σ H E I hf st hg
    subst hP hw hK
    obtain ⟨xs, hq, hx⟩ := hg
    obtain ⟨⟨old, se⟩, si⟩ := st
    obtain ⟨its, rv, p, hz⟩ := I.list hq
    obtain ⟨f0, f1, f2, f3, f4, f5⟩ := hf it (by simp)
    have hl := rv.length
    exact wpAny_pyNext_enum_end (I.ok.hd hc) se si p.isList (by simp; omega) fun g eb => ⟨rfl, I.turned (t' := s.toks) (fun b o hb q => eb b o hb q) f0 f1 f3 f4 f5⟩
  self := fun _ _ _ _ _ st h => let ⟨_, se⟩ := st.1; wpAny_pyIter_enum se h
section
variable {X : Cx} {elts : List Expr} {k : Nat} {tpos : Pos} {a : Expr} {ta : TA} {p pos : Pos}
theorem pi_enumL (hg : Gl X "enumerate") (hm : X.mg "enumerate" = none) (ha : PA X [a] ta) (hs : starEach [a] X.env = [(false, eval a X.env)] := by rfl) : PI X (.Tuple elts k tpos) (.Call (.Name "enumerate" p) [a] [] pos) (iEnumL X.K ta) := by
  intro pins s σ H R I h
  refine Call_ (ld_blt I hg hm bt_enumerate (PyProof.Rows.callWith_type1 (thn (ha pos pins s σ H _ I h) fun us s1 ⟨vs, H1, I1, r1, q1⟩ => ?_) hs rfl))
  obtain ⟨b, rfl, ⟨xs, hq⟩, q⟩ := q1
  obtain ⟨u, rfl, ru⟩ := vals1 r1
  cases ru
  obtain ⟨its, rv, pl, hz⟩ := I1.list hq
  refine call_enumerate_list pl.isList fun g se si _ gk => ?_
  have I2 : Inv X pins σ H1 { s1 with heap := g } := I1.kept (t' := s1.toks) gk
  refine wpAny_pyIter_enum se ⟨_, [s1.heap.objs.size + 1, s1.heap.objs.size], _, _, H1, rfl, I2, turn_enumL b _ _ (Nat.succ_ne_self _), ⟨⟨_, se⟩, si⟩, fun c hc => ?_, q⟩
  have z : c = s1.heap.objs.size + 1 ∨ c = s1.heap.objs.size := by simpa using hc
  rcases z with rfl | rfl
  · exact I1.fpOk (Nat.le_succ _) (I1.hok.fresh (Nat.le_succ _))
  · exact I1.fpOk (Nat.le_refl _) (I1.hok.fresh (Nat.le_refl _))
end
end Bs
namespace Bs
open PySem L2
mutual
inductive RepD (H : Hp) : V → PySem.W.Dat → Prop
  | non : RepD H .non .none
  | int (i : Int) : RepD H (.int i) (.int i)
  | tup {p : Addr} {xs : List V} {ds : List PySem.W.Dat} (h : H p = some (.tup xs)) (r : RepA H xs ds) : RepD H (.ref p) (.tuple ds)
  | lst {p : Addr} {xs : List V} {ds : List PySem.W.Dat} (h : H p = some (.lst xs)) (r : RepA H xs ds) : RepD H (.ref p) (.list ds)
inductive RepA (H : Hp) : List V → List PySem.W.Dat → Prop
  | nil : RepA H [] []
  | cons {x : V} {xs : List V} {d : PySem.W.Dat} {ds : List PySem.W.Dat} (h : RepD H x d) (r : RepA H xs ds) : RepA H (x :: xs) (d :: ds)
end
def eqD : R2 := fun x y H Q => ∃ (d e : PySem.W.Dat) (b : Bool), RepD H x d ∧ RepD H y e ∧ PySem.W.kqdOk 8 d = true ∧ PySem.W.kqdOk 8 e = true ∧ (b = true ↔ d = e) ∧ Q (.bl b) H
def neD : R2 := fun x y H Q => ∃ (d e : PySem.W.Dat) (b : Bool), RepD H x d ∧ RepD H y e ∧ PySem.W.kqdOk 8 d = true ∧ PySem.W.kqdOk 8 e = true ∧ (b = true ↔ d = e) ∧ Q (.bl (!b)) H
def tTruL (te : TE) : TT := fun σ H Q => te σ H fun x H' => ∃ p xs, x = .ref p ∧ H' p = some (.lst xs) ∧ Q (!xs.isEmpty) H'
def tTruT (te : TE) : TT := fun σ H Q => te σ H fun x H' => ∃ p xs, x = .ref p ∧ H' p = some (.tup xs) ∧ Q (!xs.isEmpty) H'
def sL : V → Option Int → Option Int → Hp → VK → Prop := fun x lo hi H Q => ∃ a xs, x = .ref a ∧ H a = some (.lst xs) ∧ ∀ p, H p = none → Q (.ref p) (upd H p (.lst (cutV xs lo hi)))
def bTupL : List V → Hp → VK → Prop := fun xs H Q => ∃ p ys, xs = [.ref p] ∧ H p = some (.lst ys) ∧ ∀ l, H l = none → Q (.ref l) (upd H l (.tup ys))
def bListT : List V → Hp → VK → Prop := fun xs H Q => ∃ p ys, xs = [.ref p] ∧ H p = some (.tup ys) ∧ ∀ l, H l = none → Q (.ref l) (upd H l (.lst ys))
def bListL : List V → Hp → VK → Prop := fun xs H Q => ∃ p ys, xs = [.ref p] ∧ H p = some (.lst ys) ∧ ∀ l, H l = none → Q (.ref l) (upd H l (.lst ys))
end Bs
namespace Bs
open PySem PySem.Spec PyProof.Rows L2
section
variable {X : Cx} {pins : List (Addr × Obj)} {σ : L2.St} {H : Hp} {s : Shared}
mutual
theorem rep_reads (I : Inv X pins σ H s) : ∀ {x : V} {d : PySem.W.Dat} {u : Value}, RepD H x d → RelV x u → ∃ as, Reads s.heap u (PySem.W.kqdP d) as
  | _, _, _, .non, e => by cases e; rw [PySem.W.kqdP]; exact ⟨_, Reads.none⟩
  | _, _, _, .int i, ⟨t, e⟩ => by subst e; rw [PySem.W.kqdP]; exact ⟨_, Reads.int i t⟩
  | _, _, _, .tup h r, e => by
    cases e
    obtain ⟨its, rv, p, _⟩ := I.tuple (SqT.of h)
    obtain ⟨as, q⟩ := rep_all I r rv
    obtain ⟨o, ho, hc, n, hd⟩ := p
    rw [PySem.W.kqdP]
    exact ⟨as, reads_tuple_at ho hc hd (by simpa using q)⟩
  | _, _, _, .lst h r, e => by
    cases e
    obtain ⟨its, rv, p, _⟩ := I.list (SqL.of h)
    obtain ⟨as, q⟩ := rep_all I r rv
    obtain ⟨o, n, ho, hc, _, hd⟩ := p
    rw [PySem.W.kqdP]
    exact ⟨_, reads_list_at ho hc hd (by simpa using q)⟩
theorem rep_all (I : Inv X pins σ H s) : ∀ {xs : List V} {ds : List PySem.W.Dat} {us : List Value}, RepA H xs ds → Vals xs us → ∃ as, ReadsAll s.heap us (PySem.W.kqdPs ds) as
  | _, _, _, .nil, .nil => by rw [PySem.W.kqdPs]; exact ⟨_, ReadsAll.nil⟩
  | _, _, _, .cons h r, .cons e es => by
    obtain ⟨as, q⟩ := rep_reads I h e
    obtain ⟨bs, q2⟩ := rep_all I r es
    rw [PySem.W.kqdPs]
    exact ⟨_, ReadsAll.cons q q2⟩
end
theorem shaped_of {d : PySem.W.Dat} (h : PySem.W.kqdOk 8 d = true) : SeqAt.shaped (PySem.W.kqdP d) = true := by
  have z := PySem.W.kqd_lay 8 d h
  unfold SeqAt.shaped
  rw [z.1, Bool.true_and]
  exact decide_eq_true (Nat.le_trans z.2 (by decide))
theorem eqv_of {d e : PySem.W.Dat} {b : Bool} (h1 : PySem.W.kqdOk 8 d = true) (h2 : PySem.W.kqdOk 8 e = true) (hb : b = true ↔ d = e) : PyData.eqv (PySem.W.kqdP d) (PySem.W.kqdP e) = b := by
  rw [Bool.eq_iff_iff, hb]
  exact PySem.W.kqd_eqv 8 d e 8 h1 h2
theorem op_eqD (hu : X.A.units + 64 < cLine) : OpR X (compareOp .Eq) eqD := by
  intro pins s σ H x y v u Q I rx ry h
  obtain ⟨d, e, b, r1, r2, k1, k2, hb, q⟩ := h
  obtain ⟨as, q1⟩ := rep_reads I r1 rx
  obtain ⟨bs, q2⟩ := rep_reads I r2 ry
  exact eq_dataH q1 q2 (shaped_of k1) (shaped_of k2) hu (by rw [eqv_of k1 k2 hb]; exact ⟨.bl b, H, I, rfl, q⟩)
theorem op_neD (hu : X.A.units + 64 < cLine) : OpR X (compareOp .NotEq) neD := by
  intro pins s σ H x y v u Q I rx ry h
  obtain ⟨d, e, b, r1, r2, k1, k2, hb, q⟩ := h
  obtain ⟨as, q1⟩ := rep_reads I r1 rx
  obtain ⟨bs, q2⟩ := rep_reads I r2 ry
  exact ne_dataH q1 q2 (shaped_of k1) (shaped_of k2) hu (by rw [eqv_of k1 k2 hb]; exact ⟨.bl (!b), H, I, rfl, q⟩)
theorem pt_truL {a : Expr} {ta : TE} (ha : PE X a ta) (he : ∀ whole, isTrue a X.env whole = (do let v ← whole; standAt a.pos; holding [v] (truthy v))) : PT X a (tTruL ta) := fun pins s σ H Q I h =>
  isTrue_plain (thn (ha pins s σ H _ I h) fun v s1 ⟨x, H1, I1, r1, q1⟩ => by
    obtain ⟨p, xs, e, hp, q⟩ := q1
    subst e
    exact tru_ok pins s1 σ H1 _ v Q I1 r1 ⟨_, .inl ⟨xs, SqL.of hp, rfl⟩, q⟩) (he _)
theorem pt_truT {a : Expr} {ta : TE} (ha : PE X a ta) (he : ∀ whole, isTrue a X.env whole = (do let v ← whole; standAt a.pos; holding [v] (truthy v))) : PT X a (tTruT ta) := fun pins s σ H Q I h =>
  isTrue_plain (thn (ha pins s σ H _ I h) fun v s1 ⟨x, H1, I1, r1, q1⟩ => by
    obtain ⟨p, xs, e, hp, q⟩ := q1
    subst e
    exact tru_ok pins s1 σ H1 _ v Q I1 r1 ⟨_, .inr (.inl ⟨xs, SqT.of hp, rfl⟩), q⟩) (he _)
theorem sl_lstH : SlR X sL := by
  intro pins s σ H x v vl vu lo hi sl Q I rx hs pl pu h
  obtain ⟨a, xs, e, ha, q⟩ := h
  exact sl_list pins s σ H x v vl vu lo hi sl Q I rx hs pl pu ⟨a, xs, e, SqL.of ha, q⟩
theorem call_tupL : CallR X (.type "tuple") bTupL := fun pins s σ H xs us Q I r h => by
  obtain ⟨p, ys, e, hp, q⟩ := h
  exact call_tuple_of pins s σ H xs us Q I r ⟨p, ys, e, .inl ⟨SqL.of hp, q⟩⟩
theorem get_lstH : PGet X gL := by
  intro pins s σ H o i ov iv Q I ro ri h
  obtain ⟨p, k, xs, v, rfl, rfl, hp, ha, q⟩ := h
  cases ro
  obtain ⟨t, rfl⟩ := ri
  obtain ⟨its, r, pl, hz⟩ := I.list (SqL.of hp)
  obtain ⟨j, h1, h2, h3, h4, h5⟩ := atI_get ha
  obtain ⟨w, ew, rw'⟩ := r.get h2
  have hl := r.length
  have hn := line63
  have fin : EP X pins σ Q w s := ⟨v, H, I, rw', q⟩
  by_cases h0 : 0 ≤ k
  · have hj : k.toNat = j := by
      rw [seqIndex_of h0 h5] at h1
      exact Option.some.inj h1
    exact wpAny_getItem_list pl.isList h0 (by omega) (by rw [hj]; simpa using ew) fin
  · have hj : (k + (its.toArray.size : Int)).toNat = j := by
      rw [seqIndex_neg (by omega) h4] at h1
      rw [List.size_toArray, ← hl]
      exact Option.some.inj h1
    exact wpAny_getItem_list_neg pl.isList (by omega) (by rw [List.size_toArray] <;> omega) (by omega) (by rw [hj]; simpa using ew) fin
theorem tyV_lst {K : W.Frag} {p : Addr} {xs : List V} (h : H p = some (.lst xs)) : tyV K "list" (.ref p) H := .inl ⟨rfl, xs, SqL.of h⟩
end
end Bs
namespace Bs
open PySem L2
def gTupH (n : Nat) (t : TGs) : TG := fun v σ H Q => ∃ a xs, v = .ref a ∧ H a = some (.tup xs) ∧ xs.length = n ∧ t xs σ H Q
end Bs
namespace Bs
open PySem PySem.Spec PyProof.Rows L2
theorem pg_tupH {X : Cx} {es : List Expr} {k : Nat} {pos : Pos} {t : TGs} {n : Nat} (hc : X.calm = true) (h : PGs X es t)
    (hn : (assignEach es X.env).length = n := by rfl) (hst : (assignEach es X.env).findIdx? (·.1) = none := by rfl) : PG X (.Tuple es k pos) (gTupH n t) := fun pins s σ H v u Q I r q => by
  obtain ⟨a, xs, e, ha, hl, q⟩ := q
  exact pg_tup hc h hn hst pins s σ H v u Q I r ⟨a, xs, e, SqT.of ha, hl, q⟩
end Bs
namespace Bs
open PySem L2
def sT : V → Option Int → Option Int → Hp → VK → Prop := fun x lo hi H Q => ∃ a xs, x = .ref a ∧ H a = some (.tup xs) ∧ ∀ p H', (H' = H ∧ p = a ∧ cutV xs lo hi = xs) ∨ (H p = none ∧ H' = upd H p (.tup (cutV xs lo hi))) → Q (.ref p) H'
end Bs
namespace HT
open PySem PySem.Spec PyProof.Rows
end HT
namespace Bs
open PySem PySem.Spec PyProof.Rows L2
end Bs
namespace Bs
open PySem L2
def Itd (lo : Int) (n : Nat) : It := ⟨fun i _ => i < n, fun i H x H' => H' = H ∧ x = .int (lo - i), fun i _ => n ≤ i⟩
def Itv (K : W.Frag) (a : Addr) (n : Nat) : It := ⟨fun i H => i < n ∧ ∃ xs, SqL K H a xs ∧ xs.length = n, fun i H x H' => H' = H ∧ ∀ xs, SqL K H a xs → xs[n - 1 - i]? = some x, fun i _ => n = i⟩
def iRngD (ta : TA) : TI := fun σ H R => ta σ H fun vs H1 => ∃ i j : Int, vs = [.int i, .int j, .int (-1)] ∧ (-(2 ^ 62) ≤ i ∧ i < 2 ^ 62 ∧ -(2 ^ 62) ≤ j ∧ j < 2 ^ 62) ∧ R (Itd i (i - j).toNat) H1
def iRev (K : W.Frag) (ta : TA) : TI := fun σ H R => ta σ H fun vs H1 => ∃ a xs, vs = [.ref a] ∧ SqL K H1 a xs ∧ R (Itv K a xs.length) H1
section
variable {K : W.Frag} {ta : TA} {g : TG} {tb : TS} {D : Ends} {σ : L2.St} {H : Hp} {a : Addr} {xs : List V}
theorem tFor_rd : tFor (iRngD ta) g tb D σ H = ta σ H (fun vs H1 => ∃ i j : Int, vs = [.int i, .int j, .int (-1)] ∧ (-(2 ^ 62) ≤ i ∧ i < 2 ^ 62 ∧ -(2 ^ 62) ≤ j ∧ j < 2 ^ 62) ∧ ForJ (Itd i (i - j).toNat) g tb D σ H1) := rfl
theorem tFor_rv : tFor (iRev K ta) g tb D σ H = ta σ H (fun vs H1 => ∃ a xs, vs = [.ref a] ∧ SqL K H1 a xs ∧ ForJ (Itv K a xs.length) g tb D σ H1) := rfl
end
end Bs
namespace Bs
open PySem PySem.Spec PyProof.Rows L2
end Bs
namespace Bs
open PySem L2
def rIsN : R2 := fun x y H Q => y = .non ∧ Q (.bl (decide (x = .non))) H
def rNotN : R2 := fun x y H Q => y = .non ∧ Q (.bl (!decide (x = .non))) H
def DivR (_ j : Int) : Prop := 0 < j
def DivS (_ j : Int) : Prop := j ≠ 0
abbrev iDivR : R2 := rI DivR fun i j => .int (i / j)
abbrev iDivS : R2 := rI DivS fun i j => .int (i.fdiv j)
def Itz (K : W.Frag) (a b : Addr) : It :=
  ⟨fun i H => ∃ xs ys x y, SqL K H a xs ∧ SqL K H b ys ∧ xs[i]? = some x ∧ ys[i]? = some y, fun i H v H' => ∃ p x y, H p = none ∧ v = .ref p ∧ H' = upd H p (.tup [x, y]) ∧ (∀ xs, SqL K H a xs → xs[i]? = some x) ∧ ∀ ys, SqL K H b ys → ys[i]? = some y, fun i H => ∃ xs ys, SqL K H a xs ∧ SqL K H b ys ∧ xs.length ≤ i⟩
def iZip (K : W.Frag) (ta : TA) : TI := fun σ H R => ta σ H fun vs H1 => ∃ a b, vs = [.ref a, .ref b] ∧ (∃ xs, SqL K H1 a xs) ∧ (∃ ys, SqL K H1 b ys) ∧ R (Itz K a b) H1
def tCompF (wi : TI) (capt : List (Option Nat)) (g : TG) (tc : TT) (te : TE) : TE := fun σ H Q => wi σ H fun J H1 => ∃ (n : Nat) (W : Nat → List V → Hp → Prop), W 0 [] H1 ∧ ∀ i ys H, W i ys H → i ≤ n ∧ ys.length ≤ sizeLine ∧
  ((J.stop i H ∧ ∀ p, H p = none → Q (.ref p) (upd H p (.lst ys))) ∨ (i < n ∧ J.go i H ∧ ∀ x H', J.yld i H x H' → g x (blkSt capt σ) H' fun σ2 H2 => tc σ2 H2 fun b H3 => if b = true then te σ2 H3 fun y H4 => W (i + 1) (ys ++ [y]) H4 else W (i + 1) ys H3))
def CompF (J : It) (capt : List (Option Nat)) (g : TG) (tc : TT) (te : TE) (σ : L2.St) (Q : VK) (H1 : Hp) : Prop := ∃ (n : Nat) (W : Nat → List V → Hp → Prop), W 0 [] H1 ∧ ∀ i ys H, W i ys H → i ≤ n ∧ ys.length ≤ sizeLine ∧
  ((J.stop i H ∧ ∀ p, H p = none → Q (.ref p) (upd H p (.lst ys))) ∨ (i < n ∧ J.go i H ∧ ∀ x H', J.yld i H x H' → g x (blkSt capt σ) H' fun σ2 H2 => tc σ2 H2 fun b H3 => if b = true then te σ2 H3 fun y H4 => W (i + 1) (ys ++ [y]) H4 else W (i + 1) ys H3))
section
variable {K : W.Frag} {ta : TA} {tl : TE} {capt : List (Option Nat)} {g : TG} {tc : TT} {te : TE} {tb : TS} {D : Ends} {σ : L2.St} {H : Hp} {Q : VK} {a b : Addr} {xs ys : List V}
theorem tCompF_l : tCompF (iList K tl) capt g tc te σ H Q = tl σ H (fun x H1 => ∃ a, x = .ref a ∧ (∃ xs, SqL K H1 a xs) ∧ CompF (Itl K a) capt g tc te σ Q H1) := rfl
theorem tComp_z : tComp (iZip K ta) capt g te σ H Q = ta σ H (fun vs H1 => ∃ a b, vs = [.ref a, .ref b] ∧ (∃ xs, SqL K H1 a xs) ∧ (∃ ys, SqL K H1 b ys) ∧ CompJ (Itz K a b) capt g te σ Q H1) := rfl
theorem CompF.lst (W : Nat → List V → Hp → Prop) (h0 : W 0 [] H) (hb : ∀ i ys H, W i ys H → i ≤ xs.length ∧ ys.length ≤ sizeLine ∧ SqL K H a xs)
    (hs : ∀ i x ys H, xs[i]? = some x → W i ys H → g x (blkSt capt σ) H fun σ2 H2 => tc σ2 H2 fun b H3 => if b = true then te σ2 H3 fun y H4 => W (i + 1) (ys ++ [y]) H4 else W (i + 1) ys H3) (hd : ∀ ys H, W xs.length ys H → ∀ p, H p = none → Q (.ref p) (upd H p (.lst ys))) : CompF (Itl K a) capt g tc te σ Q H := by
  refine ⟨xs.length, W, h0, fun i ys H w => ⟨(hb i ys H w).1, (hb i ys H w).2.1, ?_⟩⟩
  have q : SqL K H a xs := (hb i ys H w).2.2
  by_cases h : i < xs.length
  · refine .inr ⟨h, ⟨xs, xs[i], q, by simp [h]⟩, fun x H' y => ?_⟩
    obtain ⟨e, y⟩ := y
    subst e
    exact hs i x ys _ (y xs q) w
  · have e : i = xs.length := Nat.le_antisymm (hb i ys H w).1 (Nat.not_lt.mp h)
    subst e
    exact .inl ⟨⟨xs, q, Nat.le_refl _⟩, hd ys H w⟩
theorem CompJ.zip (hl : xs.length = ys.length) (W : Nat → List V → Hp → Prop) (h0 : W 0 [] H) (hb : ∀ i zs H, W i zs H → i ≤ xs.length ∧ zs.length ≤ sizeLine ∧ SqL K H a xs ∧ SqL K H b ys)
    (hs : ∀ i x y zs H p, xs[i]? = some x → ys[i]? = some y → W i zs H → H p = none → g (.ref p) (blkSt capt σ) (upd H p (.tup [x, y])) fun σ2 H2 => te σ2 H2 fun z H3 => W (i + 1) (zs ++ [z]) H3) (hd : ∀ zs H, W xs.length zs H → ∀ p, H p = none → Q (.ref p) (upd H p (.lst zs))) : CompJ (Itz K a b) capt g te σ Q H := by
  refine ⟨xs.length, W, h0, fun i zs H w => ⟨(hb i zs H w).1, (hb i zs H w).2.1, ?_⟩⟩
  obtain ⟨_, _, q, q2⟩ := hb i zs H w
  by_cases h : i < xs.length
  · refine .inr ⟨h, ⟨xs, ys, xs[i], ys[i], q, q2, by simp [h], by simp [hl ▸ h]⟩, fun v H' y => ?_⟩
    obtain ⟨p, x, y, hp, e1, e2, h1, h2⟩ := y
    subst e1 e2
    exact hs i x y zs _ p (h1 xs q) (h2 ys q2) w hp
  · have e : i = xs.length := Nat.le_antisymm (hb i zs H w).1 (Nat.not_lt.mp h)
    subst e
    exact .inl ⟨⟨xs, ys, q, q2, Nat.le_refl _⟩, hd zs H w⟩
end
def bMinD : V → Hp → VK → Prop := fun x H Q => ∃ (p : Addr) (ns : List Int), x = .ref p ∧ H p = some (.lst (ns.map V.int)) ∧ ∀ m : Int, (ns = [] ∧ m = 0 ∨ m ∈ ns) → Q (.int m) H
def tMinD (te : TE) : TE := fun σ H Q => te σ H fun x H1 => bMinD x H1 Q
def bAnyI : List V → Hp → VK → Prop := fun xs H Q => ∃ (p : Addr) (ns : List Int), xs = [.ref p] ∧ H p = some (.lst (ns.map V.int)) ∧ Q (.bl (ns.any fun z => !decide (z = 0))) H
end Bs
namespace Bs
open PySem PySem.Spec PyProof.Rows L2
section
variable {X : Cx} {pins : List (Addr × Obj)} {σ : L2.St} {H : Hp} {s : Shared}
theorem op_fdivS : OpR X (binaryOp .FloorDiv) iDivS := by
  intro pins s σ H x y v u Q I rx ry ⟨i, j, ex, ey, hc, q⟩
  subst ex ey
  obtain ⟨t, rfl⟩ := rx
  obtain ⟨t2, rfl⟩ := ry
  exact floordiv_int hc ⟨.int (i.fdiv j), H, I.tok _, ⟨_, rfl⟩, q⟩ (Or.inr (I.ok.plr s I.bk))
theorem op_fdivR : OpR X (binaryOp .FloorDiv) iDivR := by
  intro pins s σ H x y v u Q I rx ry ⟨i, j, ex, ey, hc, q⟩
  have hc' : 0 < j := hc
  replace q : Q (.int (i / j)) H := q
  rw [← Int.fdiv_eq_ediv_of_nonneg i (Int.le_of_lt hc')] at q
  exact op_fdivS pins s σ H x y v u Q I rx ry ⟨i, j, ex, ey, Int.ne_of_gt hc', q⟩
end
section
variable {X : Cx} {elts : List Expr} {k : Nat} {tpos : Pos} {a b : Expr} {ta : TA} {p pos : Pos}
theorem vals2 {x y : V} {us : List Value} (r : Vals [x, y] us) : ∃ u v, us = [u, v] ∧ RelV x u ∧ RelV y v := r.two
end
section
variable {X : Cx}
end
section
variable {prog : Program} {w : World} {A : Around} {R : Result → Shared → Prop} {I : Addr} {fp wr : List Addr} {n : Nat} {P : Nat → Value → Prop} {St : Nat → Heap → Prop} {d : Value}
end
section
variable {X : Cx} {e : Expr} {te : TE} {p pos kp1 kp2 : Pos} {kk : Nat}
end
end Bs
namespace Bs
open PySem PySem.Spec PyProof.Rows L2
section
variable {X : Cx} {pins : List (Addr × Obj)} {σ : L2.St} {H : Hp} {s : Shared} {N : List Str} {capt : List (Option Nat)} {scope : Scope} {cl : List (Str × Addr)} {C : Addr} {fp : List Addr}
end
end Bs
namespace Bs
open PySem L2
def sS (K : W.Frag) : V → Option Int → Option Int → Hp → VK → Prop := fun x lo hi H Q => ∃ a xs, x = .ref a ∧ SqL K H a xs ∧ ∀ p, H p = none → Q (.ref p) (upd H p (.lst (cutV xs lo hi)))
end Bs
namespace Bs
open PySem PySem.Spec PyProof.Rows L2
section
variable {X : Cx}
theorem sl_script : SlR X (sS X.K) := sl_list
end
end Bs
namespace Bs
open PySem L2
def gLstH (n : Nat) (t : TGs) : TG := fun v σ H Q => ∃ a xs, v = .ref a ∧ H a = some (.lst xs) ∧ xs.length = n ∧ t xs σ H Q
end Bs
namespace Bs
open PySem PySem.Spec PyProof.Rows L2
theorem mulOkC {m n : Nat} {a b : Int} (ha : Bd m a) (hb : Bd n b) (h : m + n ≤ 134217728) : IntMulOk a b := IntMulOk.of_le (bits_le ha) (bits_le hb) h
theorem pg_lstH {X : Cx} {es : List Expr} {k : Nat} {pos : Pos} {t : TGs} {n : Nat} (hc : X.calm = true) (h : PGs X es t)
    (hn : (assignEach es X.env).length = n := by rfl) (hst : (assignEach es X.env).findIdx? (·.1) = none := by rfl) : PG X (.Tuple es k pos) (gLstH n t) := fun pins s σ H v u Q I r q => by
  obtain ⟨a, xs, e1, ha, hl, q⟩ := q
  subst e1
  cases r
  obtain ⟨its, rv, ht, hz⟩ := I.list (SqL.of ha)
  rw [assign_Tuple]
  refine wpAny_bind (wpAny_standAt ?_)
  unfold unpack
  rw [hst, show (assignEach es X.env).length = its.toArray.size by rw [hn, ← hl, rv.length]; simp]
  refine wpAny_bind (wpAny_holding (PySem.W.kun_itemsOf (I.ok.hd hc) ht.isList fun h' hx => ?_))
  have I1 : Inv X pins σ H { s with heap := h' } := I.kept (t' := s.toks) fun b o e => hx b o (Nat.ne_of_lt (Heap.lt_size e)) e
  exact h pins _ σ H xs _ Q I1 (by simpa using rv) q
end Bs
namespace Bs
open PySem L2
def tPar3 (i j k : Nat) (ta : TA) : TS := fun D σ H => ta σ H fun vs H1 => ∃ u v w, vs = [u, v, w] ∧ D.nx (((σ.set i (some u)).set j (some v)).set k (some w)) H1
end Bs
namespace Bs
open PySem PySem.Spec PyProof.Rows L2
theorem ps_par3 {X : Cx} {pos : Pos} {i j k : Nat} {x y z : Str} {a b c : Expr} {ta : TA} {px py pz pt : Pos} {kt k2 pt2} (hc : X.calm = true) (hN : X.N.Nodup) (hi : X.N[i]? = some x) (hj : X.N[j]? = some y) (hk : X.N[k]? = some z) (hij : i ≠ j) (hik : i ≠ k) (hjk : j ≠ k)
    (hx : X.env.scope.names.lookup x = some .local) (hy : X.env.scope.names.lookup y = some .local) (hz : X.env.scope.names.lookup z = some .local) (ha : PA X [a, b, c] ta)
    (hw : swappedStores [.Tuple [.Name x px, .Name y py, .Name z pz] kt pt] (.Tuple [a, b, c] k2 pt2) X.env = pure (some [x, y, z]))
    (hs : swapsWithSole [.Tuple [.Name x px, .Name y py, .Name z pz] kt pt] (.Tuple [a, b, c] k2 pt2) pos.line X.env = pure false := by rfl) :
    PS X (.Assign [.Tuple [.Name x px, .Name y py, .Name z pz] kt pt] (.Tuple [a, b, c] k2 pt2) pos) (tPar3 i j k ta) := by
  intro pins s σ H D I h
  rw [exec_Assign_arm]
  refine wpAny_bind (wpAny_standAt ?_)
  rw [hs]
  refine wpAny_bind (wpAny_pure ?_)
  rw [if_neg (by decide)]
  refine wpAny_bind (Tuple_ (thn (ha _ pins s σ H _ I h) fun us s1 ⟨vs, H1, I1, r1, q1⟩ => ?_))
  obtain ⟨u, v, w, e1, q1⟩ := q1
  subst e1
  obtain ⟨u1, u2, u3, rfl, ru, rv, rw'⟩ : ∃ u1 u2 u3, us = [u1, u2, u3] ∧ RelV u u1 ∧ RelV v u2 ∧ RelV w u3 := by
    cases r1 with
    | cons p q =>
      cases q with
      | cons p' q' =>
        cases q' with
        | cons p'' q'' =>
          cases q''
          exact ⟨_, _, _, rfl, p, p', p''⟩
  refine wpAny_newObj_type ?_ (by show 3 ≤ sizeLine; decide)
  have I2 : Inv X pins σ H1 { s1 with heap := s1.heap.push { cls := .type "tuple", data := .seq [u1, u2, u3].toArray } } := I1.kept (t' := s1.toks) fun b o e => Heap.get?_push_of_some _ e
  rw [hw]
  refine wpAny_bind (wpAny_pure ?_)
  show wpAny (model X.prog X.w) X.A (do rule "assign.swapped-stores"; let items ← unpackItems (.ref s1.heap.objs.size) 3 none; assignInOrder [fun v => bindName X.env z v, fun v => bindName X.env y v, fun v => bindName X.env x v] items.reverse; pure Flow.next) _ _ _
  refine wpAny_bind (wpAny_rule (wpAny_bind (unpackItems_tuple (items := #[u1, u2, u3]) (I.ok.hd hc) (IsTup.new s1.heap _) fun h' hx' => ?_)))
  have I3 := I2.kept (h' := h') (t' := s1.toks) fun b o e => hx' b o (Nat.ne_of_lt (Heap.lt_size e)) e
  show wpAny _ _ (assignInOrder [fun v => bindName X.env z v, fun v => bindName X.env y v, fun v => bindName X.env x v] [u3, u2, u1] >>= fun _ => pure Flow.next) _ _ _
  refine wpAny_bind (assignInOrder_cons (wpAny_bindName (store_ok I3 hN hk (.inl hz) rw' (fun s2 I4 => ?_) (.inr hz))))
  refine assignInOrder_cons (wpAny_bindName (store_ok I4 hN hj (.inl hy) rv (fun s3 I5 => ?_) (.inr hy)))
  refine assignInOrder_cons (wpAny_bindName (store_ok I5 hN hi (.inl hx) ru (fun s4 I6 => assignInOrder_nil (wpAny_pure ?_)) (.inr hx)))
  have e : ((σ.set k (some w)).set j (some v)).set i (some u) = ((σ.set i (some u)).set j (some v)).set k (some w) := by
    rw [List.set_comm _ _ (Ne.symm hij), List.set_comm _ _ (Ne.symm hik), List.set_comm _ _ (Ne.symm hjk)]
  rw [e] at I6
  exact ⟨_, H1, I6, q1⟩
end Bs
namespace Bs
theorem Bd.one : Bd 1 1 := by unfold Bd; decide
end Bs
namespace Bs
abbrev Nu := Int × Int
def red (n m : Int) : Nu := (n / ((Int.gcd n m : Nat) : Int), m / ((Int.gcd n m : Nat) : Int))
def nadd (q r : Nu) : Nu := red (q.1 * r.2 + r.1 * q.2) (q.2 * r.2)
def nsub (q r : Nu) : Nu := red (q.1 * r.2 - r.1 * q.2) (q.2 * r.2)
def nmul (q r : Nu) : Nu := red (q.1 * r.1) (q.2 * r.2)
def Wo (q : Nu) (n m : Int) : Prop := q.1 * m = n * q.2
theorem red_low {n m : Int} (hm : 0 < m) : Low (red n m).1 (red n m).2 := (lowest_math (a := n) hm).1
theorem red_wo {n m : Int} (hm : 0 < m) : Wo (red n m) n m := by
  have h := (ratio_math (a := n) (b := m) (s := ((Int.gcd n m : Nat) : Int)) (by omega) (by rw [if_neg (by omega)])).2.2.2.1
  rw [Int.fdiv_eq_ediv_of_nonneg _ (by omega), Int.fdiv_eq_ediv_of_nonneg _ (by omega)] at h
  exact h
theorem dvd_of_low {a b d : Int} (h : Low a b) (hd : b ∣ a * d) : b ∣ d := by
  have c : Nat.Coprime b.natAbs a.natAbs := by
    have : Nat.Coprime a.natAbs b.natAbs := h.one
    exact this.symm
  have z := Int.natAbs_dvd_natAbs.mpr hd
  rw [Int.natAbs_mul] at z
  exact Int.natAbs_dvd_natAbs.mp (c.dvd_of_dvd_mul_left z)
theorem low_unique {a b c d : Int} (h1 : Low a b) (h2 : Low c d) (h : a * d = c * b) : a = c ∧ b = d := by
  have d1 : b ∣ d := dvd_of_low h1 ⟨c, by rw [h, Int.mul_comm]⟩
  have d2 : d ∣ b := dvd_of_low h2 ⟨a, by rw [← h, Int.mul_comm]⟩
  have e : b = d := Int.dvd_antisymm (Int.le_of_lt h1.pos) (Int.le_of_lt h2.pos) d1 d2
  subst e
  exact ⟨Int.eq_of_mul_eq_mul_right (Int.ne_of_gt h1.pos) h, rfl⟩
theorem wo_unique {q r : Nu} {n m : Int} (h1 : Low q.1 q.2) (h2 : Low r.1 r.2) (hm : m ≠ 0) (w1 : Wo q n m) (w2 : Wo r n m) : q = r := by
  unfold Wo at w1 w2
  have e : q.1 * r.2 = r.1 * q.2 := by
    have z : m * (q.1 * r.2) = m * (r.1 * q.2) := by grind
    exact Int.eq_of_mul_eq_mul_left hm z
  obtain ⟨a, b⟩ := low_unique h1 h2 e
  exact Prod.ext a b
theorem wo_le {q : Nu} {n m : Int} (h1 : Low q.1 q.2) (hm : 0 < m) (w : Wo q n m) : q.1.natAbs ≤ n.natAbs ∧ q.2.natAbs ≤ m.natAbs := by
  have e : q = red n m := wo_unique h1 (red_low hm) (Int.ne_of_gt hm) w (red_wo hm)
  subst e
  exact ⟨(lowest_math (a := n) hm).2.1, (lowest_math (a := n) hm).2.2.1⟩
theorem nadd_low {q r : Nu} (h1 : 0 < q.2) (h2 : 0 < r.2) : Low (nadd q r).1 (nadd q r).2 := red_low (Int.mul_pos h1 h2)
theorem nsub_low {q r : Nu} (h1 : 0 < q.2) (h2 : 0 < r.2) : Low (nsub q r).1 (nsub q r).2 := red_low (Int.mul_pos h1 h2)
theorem nmul_low {q r : Nu} (h1 : 0 < q.2) (h2 : 0 < r.2) : Low (nmul q r).1 (nmul q r).2 := red_low (Int.mul_pos h1 h2)
theorem red_zero {m : Int} (hm : 0 < m) : red 0 m = (0, 1) := wo_unique (red_low hm) ⟨by decide, by decide⟩ (Int.ne_of_gt hm) (red_wo hm) (by unfold Wo; omega)
theorem red_ne {n m : Int} (hm : 0 < m) (hn : n ≠ 0) : (red n m).1 ≠ 0 := fun z => by
  have w := red_wo (n := n) hm
  unfold Wo at w
  rw [z] at w
  have := (red_low (n := n) hm).pos
  rcases Int.mul_eq_zero.mp (by omega : n * (red n m).2 = 0) with e | e
  · exact hn e
  · omega
def trimN (l : List Nu) : Nat → Nat
  | 0 => 0
  | m + 1 => if (l.getD m (1, 1)).1 = 0 then trimN l m else m + 1
def trim (l : List Nu) : List Nu := l.take (trimN l l.length)
theorem trimN_le (l : List Nu) : ∀ m, trimN l m ≤ m
  | 0 => Nat.le_refl 0
  | m + 1 => by
    unfold trimN
    split
    · exact Nat.le_succ_of_le (trimN_le l m)
    · exact Nat.le_refl _
theorem trimN_last (l : List Nu) : ∀ m, trimN l m = 0 ∨ (l.getD (trimN l m - 1) (1, 1)).1 ≠ 0
  | 0 => .inl rfl
  | m + 1 => by
    unfold trimN
    split
    · exact trimN_last l m
    · rename_i h; exact .inr h
def Nz (l : List Nu) : Prop := ∀ q, l.getLast? = some q → q.1 ≠ 0
theorem trim_id {l : List Nu} (h : Nz l) : trim l = l := by
  unfold trim
  have e : trimN l l.length = l.length := by
    cases hl : l.length with
    | zero => rfl
    | succ m =>
      unfold trimN
      have hm : m < l.length := by omega
      have z : (l.getD m (1, 1)).1 ≠ 0 := by
        have q := h l[m] (by rw [List.getLast?_eq_getElem?, hl]; simp [hm])
        rw [List.getD_eq_getElem?_getD, List.getElem?_eq_getElem hm]
        exact q
      rw [if_neg z]
  rw [e, List.take_length]
theorem trim_nz (l : List Nu) : Nz (trim l) := by
  intro q hq
  unfold trim at hq
  have hle := trimN_le l l.length
  rw [List.getLast?_eq_getElem?, List.length_take, Nat.min_eq_left hle] at hq
  rcases trimN_last l l.length with z | z
  · rw [z] at hq; simp at hq
  · by_cases h0 : trimN l l.length = 0
    · rw [h0] at hq; simp at hq
    · rw [List.getElem?_take_of_lt (by omega)] at hq
      rw [List.getD_eq_getElem?_getD, hq] at z
      exact z
theorem trim_mem {l : List Nu} {q : Nu} (h : q ∈ trim l) : q ∈ l := List.mem_of_mem_take h
theorem trim_len (l : List Nu) : (trim l).length ≤ l.length := by
  unfold trim; rw [List.length_take]; omega
def AllLow (l : List Nu) : Prop := ∀ q ∈ l, Low q.1 q.2
def AllBd (n : Nat) (l : List Nu) : Prop := ∀ q ∈ l, Bd n q.1 ∧ Bd n q.2
def getN (l : List Nu) (i : Nat) : Nu := l.getD i (0, 1)
def zipN (f : Nu → Nu → Nu) (l m : List Nu) : List Nu := (List.range (max l.length m.length)).map fun i => f (getN l i) (getN m i)
theorem low01 : Low 0 1 := ⟨by decide, by decide⟩
theorem getN_low {l : List Nu} (h : AllLow l) (i : Nat) : Low (getN l i).1 (getN l i).2 := by
  unfold getN
  rw [List.getD_eq_getElem?_getD]
  cases e : l[i]? with
  | none => exact low01
  | some q => exact h q (List.mem_of_getElem? e)
end Bs
namespace Bs
def clrB (l : List Nu) : Int := l.foldl (fun B q => B * (q.2 / ((Int.gcd B q.2 : Nat) : Int))) 1
def clrN (l : List Nu) : List Int := l.map fun q => q.1 * (clrB l / q.2)
theorem lcm_step {B d : Int} (hB : 0 < B) (hd : 0 < d) : 0 < B * (d / ((Int.gcd B d : Nat) : Int)) ∧ B ∣ B * (d / ((Int.gcd B d : Nat) : Int)) ∧ d ∣ B * (d / ((Int.gcd B d : Nat) : Int)) ∧ (d / ((Int.gcd B d : Nat) : Int)).natAbs ≤ d.natAbs ∧ 0 < ((Int.gcd B d : Nat) : Int) ∧ ((Int.gcd B d : Nat) : Int) ≤ d := by
  have g0 : 0 < Int.gcd B d := Int.gcd_pos_of_ne_zero_right B (by omega)
  obtain ⟨k, hk⟩ : ((Int.gcd B d : Nat) : Int) ∣ d := Int.gcd_dvd_right B d
  obtain ⟨m, hm⟩ : ((Int.gcd B d : Nat) : Int) ∣ B := Int.gcd_dvd_left B d
  have gp : (0 : Int) < ((Int.gcd B d : Nat) : Int) := by omega
  have e : d / ((Int.gcd B d : Nat) : Int) = k := by
    have z : d / ((Int.gcd B d : Nat) : Int) = (((Int.gcd B d : Nat) : Int) * k) / ((Int.gcd B d : Nat) : Int) := by rw [← hk]
    rw [z, Int.mul_ediv_cancel_left _ (Int.ne_of_gt gp)]
  have kp : 0 < k := by
    rcases Int.lt_or_le 0 k with h | h
    · exact h
    · exfalso
      have := Int.mul_nonneg (Int.le_of_lt gp) (show 0 ≤ -k by omega)
      rw [Int.mul_neg] at this
      omega
  have le : ((Int.gcd B d : Nat) : Int) ≤ d := Int.le_of_dvd hd (Int.gcd_dvd_right B d)
  refine ⟨by rw [e]; exact Int.mul_pos hB kp, Int.dvd_mul_right .., ?_, ?_, gp, le⟩
  · rw [e]
    refine ⟨m, ?_⟩
    have z : d * m = ((Int.gcd B d : Nat) : Int) * k * m := by rw [← hk]
    have z2 : B * k = ((Int.gcd B d : Nat) : Int) * m * k := by rw [← hm]
    rw [z, z2]; grind
  · rw [e]
    have z : d.natAbs = (Int.gcd B d) * k.natAbs := by
      have : d.natAbs = (((Int.gcd B d : Nat) : Int) * k).natAbs := by rw [← hk]
      rw [this, Int.natAbs_mul]; simp
    rw [z]
    exact Nat.le_mul_of_pos_left _ g0
theorem clrB_fold {b : Nat} : ∀ (l : List Nu) (B : Int) (c : Nat), (∀ q ∈ l, 0 < q.2 ∧ Bd b q.2) → 0 < B → Bd c B →
    0 < l.foldl (fun B q => B * (q.2 / ((Int.gcd B q.2 : Nat) : Int))) B ∧ B ∣ l.foldl (fun B q => B * (q.2 / ((Int.gcd B q.2 : Nat) : Int))) B ∧ (∀ q ∈ l, q.2 ∣ l.foldl (fun B q => B * (q.2 / ((Int.gcd B q.2 : Nat) : Int))) B) ∧ Bd (c + b * l.length) (l.foldl (fun B q => B * (q.2 / ((Int.gcd B q.2 : Nat) : Int))) B)
  | [], B, c, _, hB, bB => ⟨hB, Int.dvd_refl B, (fun _ h => nomatch h), by simpa using bB⟩
  | q :: l, B, c, h, hB, bB => by
    obtain ⟨q0, qb⟩ := h q (List.mem_cons_self ..)
    obtain ⟨s1, s2, s3, s4, _, _⟩ := lcm_step hB q0
    obtain ⟨r1, r2, r3, r4⟩ := clrB_fold l (B * (q.2 / ((Int.gcd B q.2 : Nat) : Int))) (c + b) (fun r hr => h r (List.mem_cons_of_mem _ hr)) s1 (bB.mul (qb.le s4))
    rw [List.foldl_cons]
    refine ⟨r1, Int.dvd_trans s2 r2, fun r hr => ?_, r4.mono (by rw [List.length_cons, Nat.mul_add, Nat.mul_one]; omega)⟩
    rcases List.mem_cons.mp hr with rfl | hr
    · exact Int.dvd_trans s3 r2
    · exact r3 r hr
theorem clrB_ok {b : Nat} {l : List Nu} (h1 : AllLow l) (h2 : AllBd b l) : 0 < clrB l ∧ (∀ q ∈ l, q.2 ∣ clrB l) ∧ Bd (1 + b * l.length) (clrB l) := by
  obtain ⟨r1, _, r3, r4⟩ := clrB_fold (b := b) l 1 1 (fun q hq => ⟨(h1 q hq).pos, (h2 q hq).2⟩) (by decide) Bd.one
  exact ⟨r1, r3, r4⟩
theorem natAbs_ediv_le {B d : Int} (hB : 0 < B) (hd : 0 < d) : (B / d).natAbs ≤ B.natAbs := by
  have h1 : 0 ≤ B / d := Int.ediv_nonneg (Int.le_of_lt hB) (Int.le_of_lt hd)
  have h2 : B / d ≤ B := Int.ediv_le_self d (Int.le_of_lt hB)
  omega
theorem clr_wo {q : Nu} {B : Int} (hd : q.2 ∣ B) : Wo q (q.1 * (B / q.2)) B := by
  unfold Wo
  rw [Int.mul_assoc, Int.ediv_mul_cancel hd]
def ps (ns ms : List Int) : Nat → Nat → Int
  | 0, _ => 0
  | i + 1, k => ps ns ms i k + (if i ≤ k ∧ k - i < ms.length then ns.getD i 0 * ms.getD (k - i) 0 else 0)
def in2 (ns ms : List Int) (i j k : Nat) : Int := ps ns ms i k + (if i ≤ k ∧ k - i < j then ns.getD i 0 * ms.getD (k - i) 0 else 0)
theorem in2_zero (ns ms : List Int) (i k : Nat) : in2 ns ms i 0 k = ps ns ms i k := by
  unfold in2; rw [if_neg (by omega)]; omega
theorem in2_step (ns ms : List Int) (i j k : Nat) : in2 ns ms i (j + 1) k = if k = i + j then in2 ns ms i j k + ns.getD i 0 * ms.getD j 0 else in2 ns ms i j k := by
  unfold in2
  by_cases h : k = i + j
  · subst h
    rw [if_pos rfl, if_pos ⟨by omega, by omega⟩, if_neg (by omega), show i + j - i = j by omega]; omega
  · rw [if_neg h]
    congr 1
    by_cases h2 : i ≤ k ∧ k - i < j
    · rw [if_pos h2, if_pos ⟨h2.1, by omega⟩]
    · rw [if_neg h2, if_neg (by omega)]
theorem getD_bd {c : Nat} {ns : List Int} (h : ∀ z ∈ ns, Bd c z) (i : Nat) : Bd c (ns.getD i 0) := by
  rw [List.getD_eq_getElem?_getD]
  cases e : ns[i]? with
  | none => exact Nat.pow_pos (by decide)
  | some z => exact h z (List.mem_of_getElem? e)
theorem bd_zero (c : Nat) : Bd c 0 := Nat.pow_pos (by decide)
theorem ps_bd {c d : Nat} {ns ms : List Int} (h1 : ∀ z ∈ ns, Bd c z) (h2 : ∀ z ∈ ms, Bd d z) : ∀ i k, Bd (c + d + i) (ps ns ms i k)
  | 0, _ => bd_zero _
  | i + 1, k => by
    unfold ps
    refine (ps_bd h1 h2 i k).add ?_
    split
    · exact ((getD_bd h1 i).mul (getD_bd h2 (k - i))).mono (by omega)
    · exact bd_zero _
theorem ps_high {ns ms : List Int} : ∀ i k, i + ms.length ≤ k + 1 → ps ns ms i k = 0
  | 0, _, _ => rfl
  | i + 1, k, h => by
    unfold ps
    rw [ps_high i k (by omega), if_neg (by omega)]; rfl
def mulN (l m : List Nu) (n : Nat) : List Nu := (List.range n).map fun k => red (ps (clrN l) (clrN m) l.length k) (clrB l * clrB m)
theorem trimN_take {l m : List Nu} : ∀ {n : Nat}, (∀ i, i < n → l.getD i (1, 1) = m.getD i (1, 1)) → trimN l n = trimN m n
  | 0, _ => rfl
  | n + 1, h => by
    unfold trimN
    rw [h n (Nat.lt_succ_self n), trimN_take fun i hi => h i (Nat.lt_succ_of_lt hi)]
theorem trim_snoc (l : List Nu) : trim (l ++ [(0, 1)]) = trim l := by
  unfold trim
  rw [List.length_append, List.length_singleton]
  have e : trimN (l ++ [(0, 1)]) (l.length + 1) = trimN l l.length := by
    rw [show trimN (l ++ [(0, 1)]) (l.length + 1) = if ((l ++ [((0, 1) : Nu)]).getD l.length (1, 1)).1 = 0 then trimN (l ++ [(0, 1)]) l.length else l.length + 1 from rfl]
    rw [if_pos (by simp [List.getD_eq_getElem?_getD])]
    exact trimN_take fun i hi => by rw [List.getD_eq_getElem?_getD, List.getD_eq_getElem?_getD, List.getElem?_append_left hi]
  rw [e, List.take_append_of_le_length (trimN_le l l.length)]
theorem mulN_succ (l m : List Nu) (n : Nat) : mulN l m (n + 1) = mulN l m n ++ [red (ps (clrN l) (clrN m) l.length n) (clrB l * clrB m)] := by
  unfold mulN
  rw [List.range_succ, List.map_append]
  rfl
theorem trim_zeros (l m : List Nu) (hB : 0 < clrB l * clrB m) : ∀ n, (∀ k, k < n → ps (clrN l) (clrN m) l.length k = 0) → trim (mulN l m n) = []
  | 0, _ => rfl
  | n + 1, h => by
    rw [mulN_succ, h n (Nat.lt_succ_self n), red_zero hB, trim_snoc]
    exact trim_zeros l m hB n fun k hk => h k (Nat.lt_succ_of_lt hk)
theorem ps_none {ns ms : List Int} (h : ms.length = 0) : ∀ i k, ps ns ms i k = 0
  | 0, _ => rfl
  | i + 1, k => by unfold ps; rw [ps_none h i k, if_neg (by omega)]; rfl
theorem mulN_trim {l m : List Nu} (hB : 0 < clrB l * clrB m) (n2 : (clrN m).length = m.length) :
    trim (mulN l m (l.length + m.length)) = trim (List.map (fun n => red n (clrB l * clrB m)) (if l.length = 0 ∨ m.length = 0 then [] else List.map (fun k => ps (clrN l) (clrN m) l.length k) (List.range (l.length + m.length - 1)))) := by
  by_cases h1 : l.length = 0
  · rw [if_pos (.inl h1)]
    refine trim_zeros l m hB _ fun k _ => ?_
    rw [h1]; rfl
  · by_cases h2 : m.length = 0
    · rw [if_pos (.inr h2)]
      exact trim_zeros l m hB _ fun k _ => ps_none (by rw [n2]; exact h2) _ _
    · rw [if_neg (by omega)]
      obtain ⟨n, hn⟩ : ∃ n, l.length + m.length = n + 1 := ⟨l.length + m.length - 1, by omega⟩
      rw [hn, mulN_succ, ps_high l.length n (by rw [n2]; omega), red_zero hB, trim_snoc, Nat.add_sub_cancel, List.map_map]
      rfl
end Bs
namespace Bs
def val (q : Nu) : Rat := (q.1 : Rat) / (q.2 : Rat)
theorem zdiv (x : Rat) : 0 / x = 0 := by rw [Rat.div_def, Rat.zero_mul]
theorem castNe {z : Int} (h : z ≠ 0) : (z : Rat) ≠ 0 := by exact_mod_cast h
theorem val_of_wo {q : Nu} {n m : Int} (hq : q.2 ≠ 0) (hm : m ≠ 0) (w : Wo q n m) : val q = (n : Rat) / (m : Rat) := by
  have h1 := castNe hq
  have h2 := castNe hm
  have w' : (q.1 : Rat) * m = n * q.2 := by unfold Wo at w; exact_mod_cast w
  unfold val
  grind
theorem val_inj {q r : Nu} (h1 : Low q.1 q.2) (h2 : Low r.1 r.2) (h : val q = val r) : q = r := by
  have a := castNe (Int.ne_of_gt h1.pos)
  have b := castNe (Int.ne_of_gt h2.pos)
  unfold val at h
  have z : (q.1 : Rat) * r.2 = r.1 * q.2 := by grind
  have z' : q.1 * r.2 = r.1 * q.2 := by exact_mod_cast z
  obtain ⟨x, y⟩ := low_unique h1 h2 z'
  exact Prod.ext x y
theorem val_red {n m : Int} (hm : 0 < m) : val (red n m) = (n : Rat) / (m : Rat) := val_of_wo (Int.ne_of_gt (red_low hm).pos) (Int.ne_of_gt hm) (red_wo hm)
theorem val_nadd {q r : Nu} (h1 : 0 < q.2) (h2 : 0 < r.2) : val (nadd q r) = val q + val r := by
  unfold nadd
  rw [val_red (Int.mul_pos h1 h2)]
  have a := castNe (Int.ne_of_gt h1)
  have b := castNe (Int.ne_of_gt h2)
  unfold val
  push_cast
  grind
theorem val_nmul {q r : Nu} (h1 : 0 < q.2) (h2 : 0 < r.2) : val (nmul q r) = val q * val r := by
  unfold nmul
  rw [val_red (Int.mul_pos h1 h2)]
  have a := castNe (Int.ne_of_gt h1)
  have b := castNe (Int.ne_of_gt h2)
  unfold val
  push_cast
  grind
def redG (n m : Int) : Nu := if m < 0 then red (-n) (-m) else red n m
theorem redG_low {n m : Int} (hm : m ≠ 0) : Low (redG n m).1 (redG n m).2 := by
  unfold redG
  split
  · exact red_low (by omega)
  · exact red_low (by omega)
theorem val_redG {n m : Int} (hm : m ≠ 0) : val (redG n m) = (n : Rat) / (m : Rat) := by
  unfold redG
  split
  · rw [val_red (by omega)]
    have := castNe hm
    push_cast
    grind
  · exact val_red (by omega)
theorem redG_dvd {n m N : Int} (hm : m ≠ 0) (h : m ∣ N) : (redG n m).2 ∣ N := by
  have aux : ∀ {n m : Int}, 0 < m → (red n m).2 ∣ m := fun {n m} h0 => by
    unfold red
    exact Int.ediv_dvd_of_dvd (Int.gcd_dvd_right n m)
  unfold redG
  split
  · exact Int.dvd_trans (aux (by omega)) (Int.dvd_trans (Int.neg_dvd.mpr (Int.dvd_refl m)) h)
  · exact Int.dvd_trans (aux (by omega)) h
def pwo (l : List Nu) (k : Nat) : Rat := val (getN l k)
theorem low0 {q : Nu} (h : Low q.1 q.2) (z : q.1 = 0) : q = (0, 1) := val_inj h low01 (by unfold val; rw [z]; show ((0 : Int) : Rat) / _ = ((0 : Int) : Rat) / _; rw [show ((0 : Int) : Rat) = 0 from rfl, zdiv, zdiv])
theorem getN_trim {l : List Nu} (hl : AllLow l) (k : Nat) : getN (trim l) k = getN l k := by
  have key : ∀ (m : Nat), m ≤ l.length → (∀ j, m ≤ j → j < l.length → (getN l j).1 = 0) → ∀ j, trimN l m ≤ j → j < l.length → (getN l j).1 = 0 := by
    intro m
    induction m with
    | zero => intro _ h j hj1 hj2; exact h j (by omega) hj2
    | succ m ih =>
      intro hm h j h1 h2
      rw [show trimN l (m + 1) = if (l.getD m (1, 1)).1 = 0 then trimN l m else m + 1 from rfl] at h1
      split at h1
      · rename_i z
        refine ih (by omega) (fun j hj1 hj2 => ?_) j h1 h2
        by_cases e : j = m
        · subst e
          unfold getN
          rw [List.getD_eq_getElem?_getD, List.getElem?_eq_getElem hj2] at z ⊢
          exact z
        · exact h j (by omega) hj2
      · exact h j h1 h2
  unfold trim
  by_cases h1 : k < trimN l l.length
  · unfold getN
    rw [List.getD_eq_getElem?_getD, List.getD_eq_getElem?_getD, List.getElem?_take_of_lt h1]
  · have e : getN (l.take (trimN l l.length)) k = (0, 1) := by
      unfold getN
      rw [List.getD_eq_getElem?_getD, List.getElem?_eq_none (by rw [List.length_take]; omega)]
      rfl
    rw [e]
    by_cases h2 : k < l.length
    · exact (low0 (getN_low hl k) (key l.length (Nat.le_refl _) (fun j a b => absurd b (by omega)) k (by omega) h2)).symm
    · unfold getN
      rw [List.getD_eq_getElem?_getD, List.getElem?_eq_none (by omega)]
      rfl
theorem pv_trim {l : List Nu} (hl : AllLow l) (k : Nat) : pwo (trim l) k = pwo l k := by unfold pwo; rw [getN_trim hl]
theorem getN_end {l : List Nu} {k : Nat} (h : l.length ≤ k) : getN l k = (0, 1) := by
  unfold getN
  rw [List.getD_eq_getElem?_getD, List.getElem?_eq_none h]
  rfl
theorem pv_end {l : List Nu} {k : Nat} (h : l.length ≤ k) : pwo l k = 0 := by
  unfold pwo
  rw [getN_end h]
  exact zdiv _
def cv (f g : Nat → Rat) : Nat → Nat → Rat
  | 0, _ => 0
  | n + 1, k => cv f g n k + (if n ≤ k then f n * g (k - n) else 0)
def ovN (l : List Nu) (M : Int) : List Int := l.map fun q => q.1 * (M / q.2)
def Ov (l : List Nu) (M : Int) : Prop := 0 < M ∧ ∀ q ∈ l, q.2 ∣ M
theorem ovN_get {l : List Nu} {M : Int} (i : Nat) : (ovN l M).getD i 0 = (getN l i).1 * (M / (getN l i).2) := by
  unfold ovN getN
  rw [List.getD_eq_getElem?_getD, List.getD_eq_getElem?_getD, List.getElem?_map]
  cases l[i]? with
  | none => simp
  | some q => rfl
theorem Ov.get {l : List Nu} {M : Int} (h : Ov l M) (i : Nat) : (getN l i).2 ∣ M := by
  unfold getN
  rw [List.getD_eq_getElem?_getD]
  cases e : l[i]? with
  | none => exact Int.one_dvd M
  | some q => exact h.2 q (List.mem_of_getElem? e)
theorem ovN_wo {l : List Nu} {M : Int} (h : Ov l M) (i : Nat) : Wo (getN l i) ((ovN l M).getD i 0) M := by
  rw [ovN_get]
  exact clr_wo (h.get i)
theorem pv_ov {l : List Nu} {M : Int} (hl : AllLow l) (h : Ov l M) (i : Nat) : pwo l i = ((ovN l M).getD i 0 : Rat) / (M : Rat) := val_of_wo (Int.ne_of_gt (getN_low hl i).pos) (Int.ne_of_gt h.1) (ovN_wo h i)
def mulG (l m : List Nu) (M1 M2 : Int) (n : Nat) : List Nu := (List.range n).map fun k => red (ps (ovN l M1) (ovN m M2) l.length k) (M1 * M2)
theorem ps_cv {l m : List Nu} {M1 M2 : Int} (hl : AllLow l) (hm : AllLow m) (h1 : Ov l M1) (h2 : Ov m M2) : ∀ n k, (ps (ovN l M1) (ovN m M2) n k : Rat) / ((M1 * M2 : Int) : Rat) = cv (pwo l) (pwo m) n k
  | 0, k => zdiv _
  | n + 1, k => by
    have a := castNe (Int.ne_of_gt h1.1)
    have b := castNe (Int.ne_of_gt h2.1)
    have ih := ps_cv hl hm h1 h2 n k
    unfold ps cv
    rw [← ih]
    by_cases hk : n ≤ k
    · rw [if_pos hk, pv_ov hl h1, pv_ov hm h2]
      by_cases h3 : k - n < (ovN m M2).length
      · rw [if_pos ⟨hk, h3⟩]
        push_cast
        grind
      · rw [if_neg (by omega), show (ovN m M2).getD (k - n) 0 = 0 by rw [List.getD_eq_getElem?_getD, List.getElem?_eq_none (by omega)]; rfl]
        push_cast
        grind
    · rw [if_neg hk, if_neg (by omega)]
      push_cast
      grind
theorem mulG_low {l m : List Nu} {M1 M2 : Int} {n : Nat} (h1 : Ov l M1) (h2 : Ov m M2) : AllLow (mulG l m M1 M2 n) := by
  intro q hq
  obtain ⟨k, _, rfl⟩ := List.mem_map.mp hq
  exact red_low (Int.mul_pos h1.1 h2.1)
theorem pv_mul {l m : List Nu} {M1 M2 : Int} (hl : AllLow l) (hm : AllLow m) (h1 : Ov l M1) (h2 : Ov m M2) (k : Nat) : pwo (mulG l m M1 M2 (l.length + m.length)) k = cv (pwo l) (pwo m) l.length k := by
  rw [← ps_cv hl hm h1 h2]
  have b0 := Int.mul_pos h1.1 h2.1
  by_cases h : k < l.length + m.length
  · have e : getN (mulG l m M1 M2 (l.length + m.length)) k = red (ps (ovN l M1) (ovN m M2) l.length k) (M1 * M2) := by
      unfold mulG getN
      rw [List.getD_eq_getElem?_getD, List.getElem?_map, List.getElem?_range h]
      rfl
    unfold pwo
    rw [e, val_red b0]
  · rw [pv_end (by unfold mulG; rw [List.length_map, List.length_range]; omega), ps_high l.length k (by unfold ovN; rw [List.length_map]; omega)]
    exact (zdiv _).symm
theorem lcm_dvd {B d M : Int} (hB : 0 < B) (hd : 0 < d) (h1 : B ∣ M) (h2 : d ∣ M) : B * (d / ((Int.gcd B d : Nat) : Int)) ∣ M := by
  have z : ((Nat.lcm B.natAbs d.natAbs : Nat) : Int) ∣ M := Int.natAbs_dvd_natAbs.mp (by rw [Int.natAbs_natCast]; exact Nat.lcm_dvd (Int.natAbs_dvd_natAbs.mpr h1) (Int.natAbs_dvd_natAbs.mpr h2))
  have e : ((Nat.lcm B.natAbs d.natAbs : Nat) : Int) = B * (d / ((Int.gcd B d : Nat) : Int)) := by
    unfold Nat.lcm
    rw [Nat.mul_div_assoc _ (Nat.gcd_dvd_right _ _)]
    push_cast
    rw [show ((B.natAbs : Nat) : Int) = B by omega, show ((d.natAbs : Nat) : Int) = d by omega]
    rfl
  rw [← e]
  exact z
theorem fold_dvd {M : Int} : ∀ (l : List Nu) (B : Int), (∀ q ∈ l, 0 < q.2 ∧ q.2 ∣ M) → 0 < B → B ∣ M → 0 < l.foldl (fun B q => B * (q.2 / ((Int.gcd B q.2 : Nat) : Int))) B ∧ l.foldl (fun B q => B * (q.2 / ((Int.gcd B q.2 : Nat) : Int))) B ∣ M
  | [], B, _, hB, h => ⟨hB, h⟩
  | q :: l, B, hq, hB, h => by
    obtain ⟨q0, qd⟩ := hq q (List.mem_cons_self ..)
    obtain ⟨s1, _⟩ := lcm_step hB q0
    exact fold_dvd l _ (fun r hr => hq r (List.mem_cons_of_mem _ hr)) s1 (lcm_dvd hB q0 h qd)
theorem dvd_bd {n : Nat} {a b : Int} (hb : b ≠ 0) (h : a ∣ b) (bd : Bd n b) : Bd n a := bd.le (Nat.le_of_dvd (by omega) (Int.natAbs_dvd_natAbs.mpr h))
theorem clrB_ov {l : List Nu} (hl : AllLow l) : Ov l (clrB l) := by
  obtain ⟨a, b, _⟩ := clrB_ok (b := (l.foldl (fun n q => n + q.1.natAbs + q.2.natAbs) 1)) hl (fun q hq => by
    have big : ∀ (l : List Nu) (n : Nat), n ≤ l.foldl (fun n q => n + q.1.natAbs + q.2.natAbs) n ∧ ∀ q ∈ l, q.1.natAbs + q.2.natAbs ≤ l.foldl (fun n q => n + q.1.natAbs + q.2.natAbs) n := by
      intro l
      induction l with
      | nil => intro n; exact ⟨Nat.le_refl _, fun _ h => nomatch h⟩
      | cons r l ih =>
        intro n
        obtain ⟨i1, i2⟩ := ih (n + r.1.natAbs + r.2.natAbs)
        rw [List.foldl_cons]
        refine ⟨by omega, fun q hq => ?_⟩
        rcases List.mem_cons.mp hq with rfl | hq
        · omega
        · exact i2 q hq
    have z := (big l 1).2 q hq
    exact ⟨Nat.lt_of_le_of_lt (by omega) (Nat.lt_two_pow_self), Nat.lt_of_le_of_lt (by omega) (Nat.lt_two_pow_self)⟩)
  exact ⟨a, b⟩
theorem clrB_dvd {l : List Nu} {M : Int} (hl : AllLow l) (h : Ov l M) : clrB l ∣ M := (fold_dvd l 1 (fun q hq => ⟨(hl q hq).pos, h.2 q hq⟩) (by decide) (Int.one_dvd M)).2
end Bs
namespace Bs
section
variable {α : Type} [Lean.Grind.CommRing α]
def cvL : List α → (Nat → α) → Nat → α
  | [], _, _ => 0
  | x :: a, b, k => x * b k + (match k with | 0 => 0 | k + 1 => cvL a b k)
def one1 : Nat → α
  | 0 => 1
  | _ + 1 => 0
end
end Bs
namespace Bs
open PySem L2
def isN (H : Hp) (v : V) (q : Nu) : Prop := ∃ p, v = .ref p ∧ H p = some (.tup [.int q.1, .int q.2])
def Nums (H : Hp) : List V → List Nu → Prop
  | [], [] => True
  | x :: xs, q :: l => isN H x q ∧ Nums H xs l
  | _, _ => False
def Tp (H H' : Hp) : Prop := ∀ b xs, H b = some (.tup xs) → H' b = some (.tup xs)
theorem tpS {H H' : Hp} (s : Same H H') : Tp H H' := fun b xs h => s b _ h
theorem Tp.trans {H H1 H2 : Hp} (a : Tp H H1) (b : Tp H1 H2) : Tp H H2 := fun c xs h => b c xs (a c xs h)
theorem Kp.tp {p : Addr} {H H' : Hp} {xs : List V} (k : Kp p H H') (h : H p = some (.lst xs)) : Tp H H' := fun b ys q => k b _ (ne_of q h (by intro z; cases z)) q
theorem isN.tp {H H' : Hp} {v : V} {q : Nu} (h : isN H v q) (t : Tp H H') : isN H' v q := let ⟨p, e, z⟩ := h; ⟨p, e, t _ _ z⟩
theorem Nums.tp {H H' : Hp} (t : Tp H H') : ∀ {xs : List V} {l : List Nu}, Nums H xs l → Nums H' xs l
  | [], [], _ => trivial
  | _ :: _, _ :: _, h => ⟨h.1.tp t, Nums.tp t h.2⟩
  | [], _ :: _, h => h.elim
  | _ :: _, [], h => h.elim
theorem Nums.length {H : Hp} : ∀ {xs : List V} {l : List Nu}, Nums H xs l → xs.length = l.length
  | [], [], _ => rfl
  | _ :: _, _ :: _, h => congrArg (· + 1) (Nums.length h.2)
  | [], _ :: _, h => h.elim
  | _ :: _, [], h => h.elim
theorem Nums.get {H : Hp} : ∀ {xs : List V} {l : List Nu} {i : Nat} {v : V}, Nums H xs l → xs[i]? = some v → ∃ q, l[i]? = some q ∧ isN H v q
  | [], [], _, _, _, e => by simp at e
  | _ :: _, q :: _, 0, _, h, e => by simp at e; subst e; exact ⟨q, rfl, h.1⟩
  | _ :: _, _ :: _, i + 1, _, h, e => by
    obtain ⟨q, h1, h2⟩ := Nums.get (i := i) h.2 (by simpa using e)
    exact ⟨q, by simpa using h1, h2⟩
  | [], _ :: _, _, _, h, _ => h.elim
  | _ :: _, [], _, _, h, _ => h.elim
theorem Nums.at {H : Hp} {xs : List V} {l : List Nu} {i : Nat} (h : Nums H xs l) (hi : i < l.length) (d : Nu) : ∃ v, xs[i]? = some v ∧ isN H v (l.getD i d) := by
  have hx : i < xs.length := by rw [h.length]; exact hi
  obtain ⟨q, h1, h2⟩ := h.get (List.getElem?_eq_getElem hx)
  refine ⟨_, List.getElem?_eq_getElem hx, ?_⟩
  rw [List.getD_eq_getElem?_getD, h1]
  exact h2
theorem Nums.append {H : Hp} : ∀ {xs ys : List V} {l m : List Nu}, Nums H xs l → Nums H ys m → Nums H (xs ++ ys) (l ++ m)
  | [], _, [], _, _, h => h
  | _ :: _, _, _ :: _, _, h, h2 => ⟨h.1, Nums.append h.2 h2⟩
  | [], _, _ :: _, _, h, _ => h.elim
  | _ :: _, _, [], _, h, _ => h.elim
theorem Nums.one {H : Hp} {v : V} {q : Nu} (h : isN H v q) : Nums H [v] [q] := ⟨h, trivial⟩
theorem Nums.take {H : Hp} : ∀ {xs : List V} {l : List Nu} (n : Nat), Nums H xs l → Nums H (xs.take n) (l.take n)
  | [], [], n, _ => by simp [Nums]
  | _ :: _, _ :: _, 0, _ => trivial
  | _ :: _, _ :: _, n + 1, h => ⟨h.1, Nums.take n h.2⟩
  | [], _ :: _, _, h => h.elim
  | _ :: _, [], _, h => h.elim
theorem Nums.set {H : Hp} {v : V} {q : Nu} (hv : isN H v q) : ∀ {xs : List V} {l : List Nu} (i : Nat), Nums H xs l → Nums H (xs.set i v) (l.set i q)
  | [], [], _, _ => trivial
  | _ :: _, _ :: _, 0, h => ⟨hv, h.2⟩
  | _ :: _, _ :: _, i + 1, h => ⟨h.1, Nums.set hv i h.2⟩
  | [], _ :: _, _, h => h.elim
  | _ :: _, [], _, h => h.elim
theorem Nums.rep {H : Hp} {v : V} {q : Nu} (hv : isN H v q) : ∀ n : Nat, Nums H (List.replicate n v) (List.replicate n q)
  | 0 => trivial
  | n + 1 => ⟨hv, Nums.rep hv n⟩
theorem flat_rep {α : Type} (v : α) : ∀ n : Nat, (List.replicate n [v]).flatten = List.replicate n v
  | 0 => rfl
  | n + 1 => by rw [List.replicate_succ, List.flatten_cons, flat_rep v n]; rfl
theorem atI_of {α : Type} {xs : List α} {i : Int} {j : Nat} {v : α} (e : i = (j : Int)) (h : xs[j]? = some v) : atI xs i = some v := by subst e; exact atI_nat h
theorem isN_new {H : Hp} {p : Addr} {q : Nu} : isN (upd H p (.tup [.int q.1, .int q.2])) (.ref p) q := ⟨p, rfl, upd_same⟩
theorem cutV_take {xs : List V} {m : Nat} (h : m ≤ xs.length) : cutV xs none (some (m : Int)) = xs.take m := by
  unfold cutV HT.sIx
  simp only [List.drop_zero, Nat.sub_zero, Int.toNat_natCast]
  rw [if_neg (by omega), Nat.min_eq_left h]
def OutP (H : Hp) (Q : VK) (l : List Nu) : Prop := ∀ (r : Addr) (zs : List V) (H' : Hp), Same H H' → H' r = some (.tup zs) → Nums H' zs l → Q (.ref r) H'
def datN (q : Nu) : PySem.W.Dat := .tuple [.int q.1, .int q.2]
def datP (l : List Nu) : PySem.W.Dat := .tuple (l.map datN)
theorem repN {H : Hp} {v : V} {q : Nu} (h : isN H v q) : RepD H v (datN q) := by
  obtain ⟨p, rfl, hp⟩ := h
  exact .tup hp (.cons (.int _) (.cons (.int _) .nil))
theorem repNs {H : Hp} : ∀ {xs : List V} {l : List Nu}, Nums H xs l → RepA H xs (l.map datN)
  | [], [], _ => .nil
  | _ :: _, _ :: _, h => .cons (repN h.1) (repNs h.2)
  | [], _ :: _, h => h.elim
  | _ :: _, [], h => h.elim
theorem repP {H : Hp} {p : Addr} {xs : List V} {l : List Nu} (hp : H p = some (.tup xs)) (h : Nums H xs l) : RepD H (.ref p) (datP l) := .tup hp (repNs h)
theorem okN (q : Nu) (n : Nat) : PySem.W.kqdOk (n + 1) (datN q) = true := by simp [datN, PySem.W.kqdOk]
theorem okP (l : List Nu) (n : Nat) : PySem.W.kqdOk (n + 2) (datP l) = true := by
  simp only [datP, PySem.W.kqdOk, List.all_map, List.all_eq_true, Function.comp]
  intro q _
  exact okN q n
end Bs
set_option maxHeartbeats 4000000
namespace Bs
open PySem L2
abbrev Nm (H : Hp) (p : Addr) (t d : Int) : Prop := H p = some (.tup [.int t, .int d])
def sp_common_divisor (_ : W.Frag) : Sp := fun vs H Q _ => ∃ a b : Int, vs = [.int a, .int b] ∧ Q (.int ((Int.gcd a b : Nat) : Int)) H
def sp_law (K : W.Frag) : Sp := fun vs H Q _ => ∃ (a : Addr) (ns : List Int), vs = [.ref a] ∧ SqL K H a (ns.map V.int) ∧ ns.length ≤ 63 ∧ ∀ H', Q (.bl true) H'
def rowF (n : Nat) (f : Nat → Int) : List V := ((List.range n).map f).map V.int
def Pl (H : Hp) (r : Addr) (L : List Nu) : Prop := ∃ zs, H r = some (.tup zs) ∧ Nums H zs L
structure Gq (b c : Nat) (l : List Nu) : Prop where
  low : AllLow l
  nz : Nz l
  ov : ∃ M, Ov l M ∧ Bd c M ∧ ∀ z ∈ ovN l M, Bd b z
def sp_ratio (_ : W.Frag) : Sp := fun vs H Q _ => ∃ a b : Int, vs = [.int a, .int b] ∧ b ≠ 0 ∧ ∀ (p : Addr), H p = none → Q (.ref p) (upd H p (.tup [.int (redG a b).1, .int (redG a b).2]))
def sp_poly (_ : W.Frag) : Sp := fun vs H Q _ => ∃ (p : Addr) (xs : List V) (l : List Nu), vs = [.ref p] ∧ H p = some (.lst xs) ∧ Nums H xs l ∧ l.length ≤ 1000 ∧ OutP H Q (trim l)
def sp_cleared (_ : W.Frag) : Sp := fun vs H Q _ => ∃ (p : Addr) (xs : List V) (l : List Nu) (M : Int), vs = [.ref p] ∧ H p = some (.tup xs) ∧ Nums H xs l ∧ AllLow l ∧ Ov l M ∧ Bd 400000 M ∧ (∀ q ∈ l, Bd 60000000 q.1) ∧ l.length ≤ 1000 ∧
  ∀ (r a : Addr) (H' : Hp), Same H H' → H' r = some (.tup [.ref a, .int (clrB l)]) → H' a = some (.lst ((clrN l).map V.int)) → Q (.ref r) H'
def sp_uncleared (_ : W.Frag) : Sp := fun vs H Q _ => ∃ (p : Addr) (ns : List Int) (B : Int), vs = [.ref p, .int B] ∧ H p = some (.lst (ns.map V.int)) ∧ B ≠ 0 ∧ ns.length ≤ 1000 ∧ OutP H Q (trim (ns.map fun n => redG n B))
def sp_two (f : Nu → Nu → Nu) (_ : W.Frag) : Sp := fun vs H Q _ => ∃ (p q : Addr) (a b c d : Int), vs = [.ref p, .ref q] ∧ Nm H p a b ∧ Nm H q c d ∧ 0 < b ∧ 0 < d ∧ Bd 60000000 a ∧ Bd 60000000 b ∧ Bd 60000000 c ∧ Bd 60000000 d ∧
  ∀ (r : Addr), H r = none → Q (.ref r) (upd H r (.tup [.int (f (a, b) (c, d)).1, .int (f (a, b) (c, d)).2]))
abbrev sp_times := sp_two nmul
def sp_over (_ : W.Frag) : Sp := fun vs H Q _ => ∃ (p q : Addr) (a b c d : Int), vs = [.ref p, .ref q] ∧ Nm H p a b ∧ Nm H q c d ∧ 0 < b ∧ c ≠ 0 ∧ Bd 60000000 a ∧ Bd 60000000 b ∧ Bd 60000000 c ∧ Bd 60000000 d ∧
  ∀ (r : Addr), H r = none → Q (.ref r) (upd H r (.tup [.int (redG (a * d) (b * c)).1, .int (redG (a * d) (b * c)).2]))
def sp_row_times (_ : W.Frag) : Sp := fun vs H Q _ => ∃ (p q : Addr) (ns ms : List Int) (b d : Nat), vs = [.ref p, .ref q] ∧ H p = some (.lst (ns.map V.int)) ∧ H q = some (.lst (ms.map V.int)) ∧ (∀ z ∈ ns, Bd b z) ∧ (∀ z ∈ ms, Bd d z) ∧ b ≤ 900000 ∧ d ≤ 900000 ∧ ns.length ≤ 100 ∧ ms.length ≤ 100 ∧
  ∀ (r : Addr) (H' : Hp), Same H H' → H' r = some (.lst ((if ns.length = 0 ∨ ms.length = 0 then [] else (List.range (ns.length + ms.length - 1)).map fun k => ps ns ms ns.length k).map V.int)) → Q (.ref r) H'
def sp_p_times (_ : W.Frag) : Sp := fun vs H Q _ => ∃ (p q : Addr) (xs ys : List V) (l m : List Nu) (b c d e : Nat), vs = [.ref p, .ref q] ∧ H p = some (.tup xs) ∧ H q = some (.tup ys) ∧ Nums H xs l ∧ Nums H ys m ∧ Gq b c l ∧ Gq d e m ∧ l.length ≤ 100 ∧ m.length ≤ 100 ∧ b ≤ 300000 ∧ c ≤ 300000 ∧ d ≤ 300000 ∧ e ≤ 300000 ∧
  ∀ (r : Addr) (R : List Nu) (H' : Hp), Same H H' → Pl H' r R → Gq (b + d + l.length) (c + e) R → R.length ≤ l.length + m.length - 1 → (∀ k, pwo R k = cv (pwo l) (pwo m) l.length k) → Q (.ref r) H'
abbrev sp_plus := sp_two nadd
abbrev sp_minus := sp_two nsub
def sp_number_of (_ : W.Frag) : Sp := fun vs H Q _ => ∃ (p : Addr) (xs : List V) (l : List Nu) (i : Nat), vs = [.ref p, .int (i : Int)] ∧ H p = some (.tup xs) ∧ Nums H xs l ∧ ∀ (v : V) (H' : Hp), Same H H' → isN H' v (getN l i) → Q v H'
def sp_pp (f : Nu → Nu → Nu) (s : Rat) (_ : W.Frag) : Sp := fun vs H Q _ => ∃ (p q : Addr) (xs ys : List V) (l m : List Nu) (M : Int) (b c : Nat), vs = [.ref p, .ref q] ∧ H p = some (.tup xs) ∧ H q = some (.tup ys) ∧ Nums H xs l ∧ Nums H ys m ∧ AllLow l ∧ AllLow m ∧ Ov l M ∧ Ov m M ∧ Bd c M ∧ (∀ z ∈ ovN l M, Bd b z) ∧ (∀ z ∈ ovN m M, Bd b z) ∧ b ≤ 300000 ∧ c ≤ 300000 ∧ l.length ≤ 100 ∧ m.length ≤ 100 ∧
  ∀ (r : Addr) (R : List Nu) (H' : Hp), Same H H' → Pl H' r R → Gq (b + 1) c R → R.length ≤ max l.length m.length → (∀ k, pwo R k = pwo l k + s * pwo m k) → Q (.ref r) H'
abbrev sp_p_plus := sp_pp nadd 1
def dv (f : Nat → Rat) (k : Nat) : Rat := ((k : Rat) + 1) * f (k + 1)
def sp_p_slope (_ : W.Frag) : Sp := fun vs H Q _ => ∃ (p : Addr) (xs : List V) (l : List Nu) (b c : Nat), vs = [.ref p] ∧ H p = some (.tup xs) ∧ Nums H xs l ∧ Gq b c l ∧ l.length ≤ 31 ∧ b ≤ 200000 ∧ c ≤ 200000 ∧
  ∀ (r : Addr) (R : List Nu) (H' : Hp), Same H H' → Pl H' r R → Gq (b + 5) c R → R.length = l.length - 1 → (∀ k, pwo R k = dv (pwo l) k) → Q (.ref r) H'
end Bs
namespace Bs
open PySem L2
def farQ (la lb : List Nu) : Rat := -(pwo lb (lb.length - 1)) / pwo la (la.length - 1)
def topT (la lb : List Nu) (S : Int) (z : Nu) : Int := if lb.length + 1 < la.length then (if 0 < S - ((la.length : Int) - 1) + 1 then S - ((la.length : Int) - 1) + 1 else 0) else if lb.length < la.length ∧ z.2 = 1 ∧ S - ((lb.length : Int) - 1) < z.1 then z.1 else S - ((lb.length : Int) - 1)
def nonI (t : Int) : V := if 0 ≤ t then .int t else .non
def TopIs (la lb : List Nu) (S : Int) (v : V) : Prop := ∃ z : Nu, Low z.1 z.2 ∧ val z = farQ la lb ∧ v = nonI (topT la lb S z)
def Sm (q : Nu) : Prop := Low q.1 q.2 ∧ q.1.natAbs ≤ 9 ∧ q.2 ∣ 6
def sp_degree (_ : W.Frag) : Sp := fun vs H Q _ => ∃ (p : Addr) (xs : List V), vs = [.ref p] ∧ H p = some (.tup xs) ∧ Q (.int ((xs.length : Int) - 1)) H
def sp_top_by (_ : W.Frag) : Sp := fun vs H Q _ => ∃ (p q : Addr) (xs ys : List V) (la lb : List Nu) (S : Int), vs = [.ref p, .ref q, .int S] ∧ H p = some (.tup xs) ∧ H q = some (.tup ys) ∧ Nums H xs la ∧ Nums H ys lb ∧ Gq 7 3 la ∧ Gq 7 3 lb ∧ la ≠ [] ∧ ∀ (v : V) (H' : Hp), Same H H' → TopIs la lb S v → Q v H'
def sp_top_for (_ : W.Frag) : Sp := fun vs H Q _ => ∃ (p q s : Addr) (xs ys zs : List V) (la lb : List Nu), vs = [.ref p, .ref q, .ref s] ∧ H p = some (.tup xs) ∧ H q = some (.tup ys) ∧ H s = some (.tup zs) ∧ Nums H xs la ∧ Nums H ys lb ∧ Gq 7 3 la ∧ Gq 7 3 lb ∧ la ≠ [] ∧ ∀ (v : V) (H' : Hp), Same H H' → TopIs la lb ((zs.length : Int) - 1) v → Q v H'
abbrev sp_l_due := sp_top_for
def sp_l_mixed (_ : W.Frag) : Sp := fun vs H Q _ => ∃ c k : Int, vs = [.int c, .int k] ∧ 0 ≤ k ∧ k ≤ 1000 ∧ ∀ z : Int, 0 ≤ z → Q (.int z) H
def Dr (ds : List Int) : Prop := ∀ d ∈ ds, 0 ≤ d ∧ d < 1000
def sp_l_draws (K : W.Frag) : Sp := fun vs H Q _ => ∃ (s : Addr) (ns : List Int) (m : Nat), vs = [.ref s, .int (m : Int)] ∧ SqL K H s (ns.map V.int) ∧ ns.length ≤ 63 ∧ m ≤ 100 ∧ ∀ (r : Addr) (ds : List Int) (H' : Hp), Same H H' → H' r = some (.lst (ds.map V.int)) → ds.length = m → Dr ds → Q (.ref r) H'
def sp_l_number (_ : W.Frag) : Sp := fun vs H Q _ => ∃ d : Int, vs = [.int d] ∧ 0 ≤ d ∧ ∀ (r : Addr) (q : Nu) (H' : Hp), Same H H' → isN H' (.ref r) q → Sm q → Q (.ref r) H'
def sp_l_row (_ : W.Frag) : Sp := fun vs H Q _ => ∃ (p : Addr) (ds : List Int) (m : Int), vs = [.ref p, .int m] ∧ H p = some (.lst (ds.map V.int)) ∧ Dr ds ∧ ds.length ≤ 100 ∧ 0 ≤ m ∧ ∀ (r : Addr) (l : List Nu) (H' : Hp), Same H H' → Pl H' r l → Gq 7 3 l → (l.length : Int) ≤ m → Q (.ref r) H'
end Bs
namespace Bs
open PySem L2
set_option linter.unusedVariables false
def T_common_divisor (K : W.Frag) : TS :=
  (tSeq (tWhile (tTest (tOp rNe (tVar 1) (tC (.int 0)))) (tSeq (tAsg (tOp iModN (tVar 0) (tVar 1)) (gName 2))
    (tSeq (tAsg (tVar 1) (gName 0))
    (tAsg (tVar 2) (gName 1)))))
    (tRet (tCB bAbs (tCons (tVar 0) tNil))))
def T_row_times (K : W.Frag) : TS :=
  (tSeq (tIfS (tOr (tNot (tTruL (tVar 0))) (tNot (tTruL (tVar 1)))) (tRet (tLst tNil)) tNext)
    (tSeq (tAsg (tOp rRep (tLst (tCons (tC (.int 0)) tNil)) (tOp iSub (tOp iAdd (tCB bLenL (tCons (tVar 0) tNil)) (tCB bLenL (tCons (tVar 1) tNil))) (tC (.int 1)))) (gName 2))
    (tSeq (tFor (iEnumL K (tCons (tVar 0) tNil)) (gTupH 2 (gCons (gName 3) (gCons (gName 4) gNil))) (tIfS (tTest (tOp rNe (tVar 4) (tC (.int 0)))) (tFor (iEnumL K (tCons (tVar 1) tNil)) (gTupH 2 (gCons (gName 5) (gCons (gName 6) gNil))) (tAugS (tVar 2) (tOp iAdd (tVar 3) (tVar 5)) (tOp iMul (tVar 4) (tVar 6)) gL iAdd rSetL)) tNext))
    (tRet (tVar 2)))))
def T_ratio (K : W.Frag) : TS :=
  (tSeq (tAsg (tCall (sp_common_divisor K) [] E0 (tCons (tVar 0) (tCons (tVar 1) tNil))) (gName 2))
    (tSeq (tIfS (tTest (tOp iLt (tVar 1) (tC (.int 0)))) (tAsg (tUn uNeg (tVar 2)) (gName 2)) tNext)
    (tRet (tTup (tCons (tOp iDivS (tVar 0) (tVar 2)) (tCons (tOp iDivS (tVar 1) (tVar 2)) tNil))))))
def T_plus (K : W.Frag) : TS :=
  (tRet (tCall (sp_ratio K) [] E0 (tCons (tOp iAdd (tOp iMul (tOp gT (tVar 0) (tC (.int 0))) (tOp gT (tVar 1) (tC (.int 1)))) (tOp iMul (tOp gT (tVar 1) (tC (.int 0))) (tOp gT (tVar 0) (tC (.int 1))))) (tCons (tOp iMul (tOp gT (tVar 0) (tC (.int 1))) (tOp gT (tVar 1) (tC (.int 1)))) tNil))))
def T_minus (K : W.Frag) : TS :=
  (tRet (tCall (sp_ratio K) [] E0 (tCons (tOp iSub (tOp iMul (tOp gT (tVar 0) (tC (.int 0))) (tOp gT (tVar 1) (tC (.int 1)))) (tOp iMul (tOp gT (tVar 1) (tC (.int 0))) (tOp gT (tVar 0) (tC (.int 1))))) (tCons (tOp iMul (tOp gT (tVar 0) (tC (.int 1))) (tOp gT (tVar 1) (tC (.int 1)))) tNil))))
def T_times (K : W.Frag) : TS :=
  (tRet (tCall (sp_ratio K) [] E0 (tCons (tOp iMul (tOp gT (tVar 0) (tC (.int 0))) (tOp gT (tVar 1) (tC (.int 0)))) (tCons (tOp iMul (tOp gT (tVar 0) (tC (.int 1))) (tOp gT (tVar 1) (tC (.int 1)))) tNil))))
def T_over (K : W.Frag) : TS :=
  (tRet (tCall (sp_ratio K) [] E0 (tCons (tOp iMul (tOp gT (tVar 0) (tC (.int 0))) (tOp gT (tVar 1) (tC (.int 1)))) (tCons (tOp iMul (tOp gT (tVar 0) (tC (.int 1))) (tOp gT (tVar 1) (tC (.int 0)))) tNil))))
def T_poly (K : W.Frag) : TS :=
  (tSeq (tAsg (tCB bLenL (tCons (tVar 0) tNil)) (gName 1))
    (tSeq (tWhile (tAnd (tTest (tOp iGt (tVar 1) (tC (.int 0)))) (tTest (tOp rEq (tOp gT (tOp gL (tVar 0) (tOp iSub (tVar 1) (tC (.int 1)))) (tC (.int 0))) (tC (.int 0))))) (tAug 1 (tC (.int 1)) iSub))
    (tRet (tCB bTupL (tCons (tSl sL (tVar 0) tNoPart (tPart (tVar 1))) tNil)))))
def T_degree (K : W.Frag) : TS :=
  (tRet (tOp iSub (tCB bLenT (tCons (tVar 0) tNil)) (tC (.int 1))))
def T_cleared (K : W.Frag) : TS :=
  (tSeq (tAsg (tC (.int 1)) (gName 1))
    (tSeq (tFor (iTup K (tVar 0)) (gName 2) (tAug 1 (tOp iDivR (tOp gT (tVar 2) (tC (.int 1))) (tCall (sp_common_divisor K) [] E0 (tCons (tVar 1) (tCons (tOp gT (tVar 2) (tC (.int 1))) tNil)))) iMul))
    (tRet (tTup (tCons (tComp (iTup K (tVar 0)) [none, some 1] (gName 0) (tOp iMul (tOp gT (tVar 0) (tC (.int 0))) (tOp iDivR (tVar 1) (tOp gT (tVar 0) (tC (.int 1)))))) (tCons (tVar 1) tNil))))))
def T_uncleared (K : W.Frag) : TS :=
  (tRet (tCall (sp_poly K) [] E0 (tCons (tComp (iList K (tVar 0)) [none, some 1] (gName 0) (tCall (sp_ratio K) [] E0 (tCons (tVar 0) (tCons (tVar 1) tNil)))) tNil)))
def T_number_of (K : W.Frag) : TS :=
  (tRet (tIf (tTest (tOp iLt (tVar 1) (tCB bLenT (tCons (tVar 0) tNil)))) (tOp gT (tVar 0) (tVar 1)) (tTup (tCons (tC (.int 0)) (tCons (tC (.int 1)) tNil)))))
def T_p_plus (K : W.Frag) : TS :=
  (tRet (tCall (sp_poly K) [] E0 (tCons (tComp (iRng1 (tCons (tCB bMax (tCons (tCB bLenT (tCons (tVar 0) tNil)) (tCons (tCB bLenT (tCons (tVar 1) tNil)) tNil))) tNil)) [none, some 0, some 1] (gName 0) (tCall (sp_plus K) [] E0 (tCons (tCall (sp_number_of K) [] E0 (tCons (tVar 1) (tCons (tVar 0) tNil))) (tCons (tCall (sp_number_of K) [] E0 (tCons (tVar 2) (tCons (tVar 0) tNil))) tNil)))) tNil)))
def T_p_times (K : W.Frag) : TS :=
  (tSeq (tAsg (tCall (sp_cleared K) [] E0 (tCons (tVar 0) tNil)) (gName 2))
    (tSeq (tAsg (tCall (sp_cleared K) [] E0 (tCons (tVar 1) tNil)) (gName 3))
    (tRet (tCall (sp_uncleared K) [] E0 (tCons (tCall (sp_row_times K) [] E0 (tCons (tOp gT (tVar 2) (tC (.int 0))) (tCons (tOp gT (tVar 3) (tC (.int 0))) tNil))) (tCons (tOp iMul (tOp gT (tVar 2) (tC (.int 1))) (tOp gT (tVar 3) (tC (.int 1)))) tNil))))))
def T_p_slope (K : W.Frag) : TS :=
  (tRet (tCB bTupL (tCons (tComp (iRng2 (tCons (tC (.int 1)) (tCons (tCB bLenT (tCons (tVar 0) tNil)) tNil))) [none, some 0] (gName 0) (tCall (sp_times K) [] E0 (tCons (tOp gT (tVar 1) (tVar 0)) (tCons (tTup (tCons (tVar 0) (tCons (tC (.int 1)) tNil))) tNil)))) tNil)))
def T_top_for (K : W.Frag) : TS :=
  (tRet (tCall (sp_top_by K) [] E0 (tCons (tVar 0) (tCons (tVar 1) (tCons (tCall (sp_degree K) [] E0 (tCons (tVar 2) tNil)) tNil)))))
def T_top_by_b1_1 (K : W.Frag) : TS :=
  (tIfS (tTest (tOp rEq (tOp gT (tVar 6) (tC (.int 1))) (tC (.int 1)))) (tAsg (tCB bMax (tCons (tVar 5) (tCons (tOp gT (tVar 6) (tC (.int 0))) tNil))) (gName 5)) tNext)
def T_top_by_b1_0 (K : W.Frag) : TS :=
  (tSeq (tAsg (tIf (tTruT (tVar 1)) (tCall (sp_over K) [] E0 (tCons (tCall (sp_minus K) [] E0 (tCons (tTup (tCons (tC (.int 0)) (tCons (tC (.int 1)) tNil))) (tCons (tOp gT (tVar 1) (tUn uNeg (tC (.int 1)))) tNil))) (tCons (tOp gT (tVar 0) (tUn uNeg (tC (.int 1)))) tNil))) (tTup (tCons (tC (.int 0)) (tCons (tC (.int 1)) tNil)))) (gName 6))
    (T_top_by_b1_1 K))
def T_top_by_5 (K : W.Frag) : TS :=
  (tRet (tIf (tTest (tOp iGe (tVar 5) (tC (.int 0)))) (tVar 5) (tC .non)))
def T_top_by_4 (K : W.Frag) : TS :=
  (tSeq (tIfS (tTest (tOp iLt (tVar 4) (tVar 3))) (T_top_by_b1_0 K) tNext)
    (T_top_by_5 K))
def T_top_by_3 (K : W.Frag) : TS :=
  (tSeq (tAsg (tOp iSub (tVar 2) (tVar 4)) (gName 5))
    (T_top_by_4 K))
def T_top_by_2 (K : W.Frag) : TS :=
  (tSeq (tIfS (tTest (tOp iLt (tVar 4) (tOp iSub (tVar 3) (tC (.int 1))))) (tRet (tCB bMax (tCons (tOp iAdd (tOp iSub (tVar 2) (tVar 3)) (tC (.int 1))) (tCons (tC (.int 0)) tNil)))) tNext)
    (T_top_by_3 K))
def T_top_by_1 (K : W.Frag) : TS :=
  (tSeq (tAsg (tCall (sp_degree K) [] E0 (tCons (tVar 1) tNil)) (gName 4))
    (T_top_by_2 K))
def T_top_by (K : W.Frag) : TS :=
  (tSeq (tAsg (tCall (sp_degree K) [] E0 (tCons (tVar 0) tNil)) (gName 3))
    (T_top_by_1 K))
def T_l_mixed (K : W.Frag) : TS :=
  (tSeq (tAsg (tOp iMod (tOp iMul (tOp iAdd (tOp iAdd (tOp iMod (tVar 0) (tC (.int 2147483647))) (tOp iMul (tC (.int 7919)) (tVar 1))) (tC (.int 1))) (tC (.int 48271))) (tC (.int 2147483647))) (gName 2))
    (tRet (tOp iDivR (tOp iMod (tOp iMul (tVar 2) (tOp iAdd (tOp iMod (tVar 2) (tC (.int 1009))) (tC (.int 1)))) (tC (.int 2147483629))) (tC (.int 3)))))
def T_l_draws_b1_1 (K : W.Frag) : TS :=
  (tAsg (tOp iDivR (tVar 4) (tC (.int 1000))) (gName 4))
def T_l_draws_b1_0 (K : W.Frag) : TS :=
  (tSeq (tDrop (tBM K "list" rAppend (tVar 3) (tCons (tOp iMod (tVar 4) (tC (.int 1000))) tNil)))
    (T_l_draws_b1_1 K))
def T_l_draws_4 (K : W.Frag) : TS :=
  (tRet (tVar 3))
def T_l_draws_3 (K : W.Frag) : TS :=
  (tSeq (tFor (iRng1 (tCons (tVar 1) tNil)) (gName 5) (tIfS (tTest (tOp iGt (tVar 4) (tC (.int 0)))) (T_l_draws_b1_0 K) (tDrop (tBM K "list" rAppend (tVar 3) (tCons (tOp iMod (tCall (sp_l_mixed K) [] E0 (tCons (tOp gL (tVar 2) (tOp iMod (tVar 5) (tCB bLenL (tCons (tVar 2) tNil)))) (tCons (tVar 5) tNil))) (tC (.int 1000))) tNil)))))
    (T_l_draws_4 K))
def T_l_draws_2 (K : W.Frag) : TS :=
  (tSeq (tAsg (tOp iMul (tOp iDivR (tCB bAbs (tCons (tOp gL (tVar 2) (tC (.int 0))) tNil)) (tC (.int 2))) (tOp iSub (tC (.int 1)) (tOp iMod (tOp gL (tVar 2) (tC (.int 0))) (tC (.int 2))))) (gName 4))
    (T_l_draws_3 K))
def T_l_draws_1 (K : W.Frag) : TS :=
  (tSeq (tAsg (tLst tNil) (gName 3))
    (T_l_draws_2 K))
def T_l_draws (K : W.Frag) : TS :=
  (tSeq (tAsg (tOp rCat (tSl (sS K) (tVar 0) tNoPart (tPart (tC (.int 63)))) (tLst (tCons (tC (.int 7)) tNil))) (gName 2))
    (T_l_draws_1 K))
def T_l_number (K : W.Frag) : TS :=
  (tRet (tCall (sp_ratio K) [] E0 (tCons (tOp iSub (tOp iMod (tVar 0) (tC (.int 9))) (tC (.int 4))) (tCons (tOp gL (tLst (tCons (tC (.int 1)) (tCons (tC (.int 1)) (tCons (tC (.int 1)) (tCons (tC (.int 2)) (tCons (tC (.int 3)) tNil)))))) (tOp iMod (tOp iDivR (tVar 0) (tC (.int 9))) (tC (.int 5)))) tNil))))
def T_l_row (K : W.Frag) : TS :=
  (tRet (tCall (sp_poly K) [] E0 (tCons (tComp (iList K (tSl sL (tVar 0) tNoPart (tPart (tVar 1)))) [none] (gName 0) (tCall (sp_l_number K) [] E0 (tCons (tVar 0) tNil))) tNil)))
def T_l_due_b1_1 (K : W.Frag) : TS :=
  (tIfS (tTest (tOp iLt (tVar 6) (tC (.int 0)))) (tAsg (tC (.int 0)) (gName 6)) tNext)
def T_l_due_b1_0 (K : W.Frag) : TS :=
  (tSeq (tAsg (tOp iAdd (tOp iSub (tVar 5) (tVar 3)) (tC (.int 1))) (gName 6))
    (T_l_due_b1_1 K))
def T_l_due_b2_2 (K : W.Frag) : TS :=
  (tIfS (tAnd (tTest (tOp rEq (tVar 8) (tC (.int 1)))) (tTest (tOp iGt (tVar 7) (tVar 6)))) (tAsg (tVar 7) (gName 6)) tNext)
def T_l_due_b2_1 (K : W.Frag) : TS :=
  (tSeq (tIfS (tTest (tOp neD (tVar 1) (tTup tNil))) (tAsg (tCall (sp_ratio K) [] E0 (tCons (tOp iSub (tC (.int 0)) (tOp iMul (tOp gT (tOp gT (tVar 1) (tUn uNeg (tC (.int 1)))) (tC (.int 0))) (tOp gT (tOp gT (tVar 0) (tUn uNeg (tC (.int 1)))) (tC (.int 1))))) (tCons (tOp iMul (tOp gT (tOp gT (tVar 1) (tUn uNeg (tC (.int 1)))) (tC (.int 1))) (tOp gT (tOp gT (tVar 0) (tUn uNeg (tC (.int 1)))) (tC (.int 0)))) tNil))) (gTupH 2 (gCons (gName 7) (gCons (gName 8) gNil)))) tNext)
    (T_l_due_b2_2 K))
def T_l_due_b2_0 (K : W.Frag) : TS :=
  (tSeq (tAsg (tLst (tCons (tC (.int 0)) (tCons (tC (.int 1)) tNil))) (gLstH 2 (gCons (gName 7) (gCons (gName 8) gNil))))
    (T_l_due_b2_1 K))
def T_l_due_4 (K : W.Frag) : TS :=
  (tRet (tIf (tTest (tOp iGe (tVar 6) (tC (.int 0)))) (tVar 6) (tC .non)))
def T_l_due_3 (K : W.Frag) : TS :=
  (tSeq (tIfS (tTest (tOp rEq (tVar 4) (tOp iSub (tVar 3) (tC (.int 1))))) (T_l_due_b2_0 K) tNext)
    (T_l_due_4 K))
def T_l_due_2 (K : W.Frag) : TS :=
  (tSeq (tIfS (tTest (tOp iLt (tVar 4) (tOp iSub (tVar 3) (tC (.int 1))))) (T_l_due_b1_0 K) tNext)
    (T_l_due_3 K))
def T_l_due_1 (K : W.Frag) : TS :=
  (tSeq (tAsg (tOp iSub (tVar 5) (tVar 4)) (gName 6))
    (T_l_due_2 K))
def T_l_due (K : W.Frag) : TS :=
  (tSeq (tPar3 3 4 5 (tCons (tCall (sp_degree K) [] E0 (tCons (tVar 0) tNil)) (tCons (tCall (sp_degree K) [] E0 (tCons (tVar 1) tNil)) (tCons (tCall (sp_degree K) [] E0 (tCons (tVar 2) tNil)) tNil))))
    (T_l_due_1 K))
def T_law_12 (K : W.Frag) : TS :=
  (tRet (tOrV (tNotV (tVar 5)) (tOp iLe (tCall (sp_degree K) [] E0 (tCons (tVar 4) tNil)) (tVar 7))))
def T_law_11 (K : W.Frag) : TS :=
  (tSeq (tIfS (tOr (tNot (tB (tCB bIsi (tCons (tVar 7) (tCons (tC (.ty "int")) tNil))))) (tOr (tB (tCB bIsi (tCons (tVar 7) (tCons (tC (.ty "bool")) tNil)))) (tTest (tOp rNe (tVar 7) (tVar 8))))) (tRet (tC (.bl false))) tNext)
    (T_law_12 K))
def T_law_10 (K : W.Frag) : TS :=
  (tSeq (tIfS (tTest (tOp rIsN (tVar 8) (tC .non))) (tRet (tAndV (tOp rIsN (tVar 7) (tC .non)) (tOrV (tNotV (tVar 5)) (tOp eqD (tVar 4) (tTup tNil))))) tNext)
    (T_law_11 K))
def T_law_9 (K : W.Frag) : TS :=
  (tSeq (tAsg (tCall (sp_l_due K) [] E0 (tCons (tVar 2) (tCons (tVar 3) (tCons (tVar 6) tNil)))) (gName 8))
    (T_law_10 K))
def T_law_8 (K : W.Frag) : TS :=
  (tSeq (tAsg (tCall (sp_top_for K) [] E0 (tCons (tVar 2) (tCons (tVar 3) (tCons (tVar 6) tNil)))) (gName 7))
    (T_law_9 K))
def T_law_7 (K : W.Frag) : TS :=
  (tSeq (tIfS (tB (tVar 5)) (tAsg (tCall (sp_p_plus K) [] E0 (tCons (tCall (sp_p_times K) [] E0 (tCons (tVar 2) (tCons (tCall (sp_p_slope K) [] E0 (tCons (tVar 4) tNil)) tNil))) (tCons (tCall (sp_p_times K) [] E0 (tCons (tVar 3) (tCons (tVar 4) tNil))) tNil))) (gName 6)) tNext)
    (T_law_8 K))
def T_law_6 (K : W.Frag) : TS :=
  (tSeq (tAsg (tCall (sp_l_row K) [] E0 (tCons (tSl sL (tVar 1) (tPart (tC (.int 27))) tNoPart) (tCons (tOp iMod (tOp iDivR (tOp gL (tVar 1) (tC (.int 26))) (tC (.int 3))) (tC (.int 7))) tNil))) (gName 6))
    (T_law_7 K))
def T_law_5 (K : W.Frag) : TS :=
  (tSeq (tAsg (tOp iGt (tOp iMod (tOp gL (tVar 1) (tC (.int 26))) (tC (.int 3))) (tC (.int 0))) (gName 5))
    (T_law_6 K))
def T_law_4 (K : W.Frag) : TS :=
  (tSeq (tAsg (tCall (sp_l_row K) [] E0 (tCons (tSl sL (tVar 1) (tPart (tC (.int 15))) tNoPart) (tCons (tOp iMod (tOp iDivR (tOp gL (tVar 1) (tC (.int 0))) (tC (.int 60))) (tC (.int 11))) tNil))) (gName 4))
    (T_law_5 K))
def T_law_3 (K : W.Frag) : TS :=
  (tSeq (tIfS (tAnd (tTest (tOp rEq (tOp iMod (tOp iDivR (tOp gL (tVar 1) (tC (.int 0))) (tC (.int 20))) (tC (.int 3))) (tC (.int 0)))) (tTest (tOp iGt (tCall (sp_degree K) [] E0 (tCons (tVar 2) tNil)) (tC (.int 0))))) (tAsg (tCall (sp_poly K) [] E0 (tCons (tOp rCat (tComp (iList K (tSl sL (tVar 1) (tPart (tC (.int 10))) (tPart (tOp iAdd (tC (.int 9)) (tCall (sp_degree K) [] E0 (tCons (tVar 2) tNil)))))) [none] (gName 0) (tCall (sp_l_number K) [] E0 (tCons (tVar 0) tNil))) (tLst (tCons (tCall (sp_ratio K) [] E0 (tCons (tOp iSub (tUn uNeg (tC (.int 1))) (tOp iMod (tOp gL (tVar 1) (tC (.int 14))) (tC (.int 9)))) (tCons (tC (.int 1)) tNil))) tNil))) tNil)) (gName 3)) tNext)
    (T_law_4 K))
def T_law_2 (K : W.Frag) : TS :=
  (tSeq (tAsg (tCall (sp_l_row K) [] E0 (tCons (tSl sL (tVar 1) (tPart (tC (.int 5))) tNoPart) (tCons (tOp iMod (tOp iDivR (tOp gL (tVar 1) (tC (.int 0))) (tC (.int 4))) (tC (.int 5))) tNil))) (gName 3))
    (T_law_3 K))
def T_law_1 (K : W.Frag) : TS :=
  (tSeq (tAsg (tCall (sp_poly K) [] E0 (tCons (tOp rCat (tComp (iList K (tSl sL (tVar 1) (tPart (tC (.int 1))) (tPart (tOp iAdd (tC (.int 1)) (tOp iMod (tOp gL (tVar 1) (tC (.int 0))) (tC (.int 4))))))) [none] (gName 0) (tCall (sp_l_number K) [] E0 (tCons (tVar 0) tNil))) (tLst (tCons (tTup (tCons (tC (.int 1)) (tCons (tC (.int 1)) tNil))) tNil))) tNil)) (gName 2))
    (T_law_2 K))
def T_law (K : W.Frag) : TS :=
  (tSeq (tAsg (tCall (sp_l_draws K) [] E0 (tCons (tVar 0) (tCons (tC (.int 40)) tNil))) (gName 1))
    (T_law_1 K))
end Bs
namespace Bs
open PySem L2
variable {K : W.Frag} {vs : List V} {H : Hp} {Q : VK} {E : XK}
local macro_rules | `(tactic| rwa [$[$t:term],*]) => `(tactic| simp only [tSeq, tAsg, tCall, tCons, tVar, tNil, gName, gSub, L2.start, tIfS, tIf, tTest, tB, tOp, rI0, rI, tC, tUn, rU, tNext, tRet, tTup, tLst, tPar, tAug, tDrop, tCB, tChain, tAnd, tOr, tNot, tAndV, tOrV, tNotV, rEq, rNe, rSetL, iAdd, iSub, iMul, iDivP, iDivN, iMod, iModN, iPow, iLt, iLe, iGt, iGe, uNeg, gT, gL, gS, bAbs, bMax, bMin, bIntB, bLenT, bLenL, bLenS, bIsi, isi_int, isi_int_bool, isi_bl, eqT, tFor_r1, tFor_r2, tFor_t, tFor_l, List.map_cons, List.map_nil, List.length_cons, List.length_nil, List.replicate, List.cons_append, List.nil_append, List.append_nil, List.getElem?_cons_zero, List.getElem?_cons_succ, Option.some.injEq, exists_eq_left', exists_eq_left, V.int.injEq, V.bl.injEq, V.ref.injEq, V.ty.injEq, HO.tup.injEq, HO.lst.injEq, List.cons.injEq, and_true, true_and, and_assoc, exists_and_left, List.set_cons_zero, List.set_cons_succ, decide_eq_true_eq, decide_eq_false_iff_not, Bool.not_eq_true', Bool.true_eq_false, Bool.false_eq_true, Bool.not_true, Bool.not_false, if_true, if_false, ite_true, ite_false, scal_ii, scal_bb, atI_two0, atI_two1, atI_three0, atI_three1, atI_three2, ixN_three0, ixN_three2, Nat.zero_add, Nat.reduceAdd, Nat.reduceSub, upd_same, Int.cast_ofNat_Int, decide_true, decide_false, eq_self, not_true_eq_false, not_false_eq_true, Int.natCast_add, Int.natCast_zero, reduceCtorEq, Nm, gTupH, gCons, gNil, tAugS, tSl, tNoPart, tPart, sL, sT, bTupL, bListT, bListL, tTruL, tTruT, rRep, rCat, rAppend, rExtend, rPop, tBM, tBM0, tComp_r1, tComp_r2, tComp_t, tComp_l, tComp_el, tComp_z, tCompF_l, tFor_el, tFor_et, tFor_rd, tFor_rv, tMinD, bMinD, bAnyI, rIsN, rNotN, iDivR, iDivS, DivR, DivS, blkSt, Option.bind_some, Option.bind_none, Option.bind, Option.join, id_eq, sS, gLstH, tPar3, sp_common_divisor, sp_row_times, sp_ratio, sp_two, sp_over, sp_poly, sp_degree, sp_cleared, sp_uncleared, sp_number_of, sp_pp, sp_p_times, sp_p_slope, sp_top_by, sp_top_for, sp_l_mixed, sp_l_draws, sp_l_number, sp_l_row, $[$t:term],*])
theorem mulOk {a b : Int} (ha : Bd 60000000 a) (hb : Bd 60000000 b) : IntMulOk a b := mulOkC ha hb (by decide)
theorem mulR {a b : Int} (h1 : -18446744073709551616 < b) (h2 : b < 18446744073709551616) : IntMulOk a b := IntMulOk.of_right (intBits_le_64 (by omega) (by omega))
theorem mulL {a b : Int} (h1 : -18446744073709551616 < a) (h2 : a < 18446744073709551616) : IntMulOk a b := IntMulOk.of_left (intBits_le_64 (by omega) (by omega))
theorem vc_common_divisor (h : sp_common_divisor K vs H Q E) : T_common_divisor K { nx := fun _ H' => Q .non H', rt := Q } (L2.start ["one", "other", "rest"] vs) H := by
  obtain ⟨a, b, rfl, q⟩ := h
  unfold T_common_divisor
  rwa []
  refine while_by (fun m σ H' => ∃ (x y : Int) (r : Option V), σ = [some (.int x), some (.int y), r] ∧ H' = H ∧ Int.gcd x y = Int.gcd a b ∧ m = y.natAbs) b.natAbs ⟨a, b, none, rfl, rfl, rfl, rfl⟩ ?_
  rintro m σ H' ⟨x, y, r, rfl, rfl, hg, rfl⟩
  rwa []
  refine ite2 (fun c => ?_) (fun c => ?_)
  · refine ⟨fun σ' H'' => ∃ m', m' < y.natAbs ∧ _, fun _ _ h => h, ?_⟩
    refine ⟨c, _, fmod_less x c, y, x.fmod y, _, rfl, rfl, ?_, rfl⟩
    rw [gcd_fmod]; exact hg
  · have y0 : y = 0 := Decidable.not_not.mp c
    subst y0
    have e : (if x < 0 then -x else x) = ((Int.gcd a b : Nat) : Int) := by
      rw [← hg, Int.gcd_zero_right]; split <;> omega
    rw [e]; exact q
theorem atI_ints {ns : List Int} {k : Int} (h0 : 0 ≤ k) (h : k < (ns.length : Int)) : ∃ v : Int, atI (ns.map V.int) k = some (.int v) := by
  have hk : k.toNat < ns.length := by omega
  have ek : k = ((k.toNat : Nat) : Int) := by omega
  have q : atI (ns.map V.int) ((k.toNat : Nat) : Int) = some (.int ns[k.toNat]) := atI_nat (by rw [List.getElem?_map, List.getElem?_eq_getElem hk] <;> rfl)
  rw [← ek] at q
  exact ⟨_, q⟩
theorem poly_end {H : Hp} {Q : VK} {xs : List V} {l : List Nu} {m : Nat} (hN : Nums H xs l) (hm : m ≤ l.length) (e : trimN l l.length = m) (q : OutP H Q (trim l)) :
    ∀ (p : Addr), H p = none → ∀ (r : Addr), upd H p (HO.lst (cutV xs none (some (m : Int)))) r = none → Q (V.ref r) (upd (upd H p (HO.lst (cutV xs none (some (m : Int))))) r (HO.tup (cutV xs none (some (m : Int))))) := fun p hp r hr => by
  have s := (same_new hp (HO.lst (cutV xs none (some (m : Int))))).trans (same_new hr (HO.tup (cutV xs none (some (m : Int)))))
  refine q r _ _ s upd_same ?_
  rw [cutV_take (by rw [hN.length]; exact hm)]
  rw [cutV_take (by rw [hN.length]; exact hm)] at s
  unfold trim
  rw [e]
  exact (hN.take m).tp (tpS s)
theorem trimN_succ (l : List Nu) (m : Nat) : trimN l (m + 1) = if (l.getD m (1, 1)).1 = 0 then trimN l m else m + 1 := rfl
theorem vc_poly (h : sp_poly K vs H Q E) : T_poly K { nx := fun _ H' => Q .non H', rt := Q } (L2.start ["row", "many"] vs) H := by
  obtain ⟨p, xs, l, rfl, hp, hN, hl, q⟩ := h
  unfold T_poly
  rwa [hp]
  have lx := hN.length
  refine while_by (fun m σ H' => σ = [some (.ref p), some (.int (m : Int))] ∧ H' = H ∧ trimN l m = trimN l l.length ∧ m ≤ l.length) xs.length ⟨rfl, rfl, by rw [lx], by omega⟩ ?_
  rintro m σ H' ⟨rfl, rfl, ht, hm⟩
  rwa [hp]
  refine ite2 (fun c => ?_) (fun c => ?_)
  · obtain ⟨k, rfl⟩ : ∃ k, m = k + 1 := ⟨m - 1, by omega⟩
    obtain ⟨v, hv, p1, rfl, hp1⟩ := hN.at (i := k) (by omega) (1, 1)
    rw [trimN_succ] at ht
    refine ⟨_, atI_of (by omega) hv, p1, rfl, _, hp1, _, rfl, rfl, ite2 (fun c2 => ?_) (fun c2 => ?_)⟩
    · have z : (l.getD k (1, 1)).1 = 0 := by injection c2
      rw [if_pos z] at ht
      exact ⟨fun σ' H'' => ∃ m', m' < k + 1 ∧ _, fun _ _ h => h, k, by omega, by rw [show ((k + 1 : Nat) : Int) - 1 = (k : Int) by omega], rfl, ht, by omega⟩
    · have z : (l.getD k (1, 1)).1 ≠ 0 := fun z => c2 (by rw [z])
      rw [if_neg z] at ht
      exact poly_end hN hm ht.symm q
  · have z : m = 0 := by omega
    subst z
    exact poly_end hN hm ht.symm q
theorem clr_take {l : List Nu} {i : Nat} {q : Nu} (h : l[i]? = some q) : (l.take (i + 1)).foldl (fun B q => B * (q.2 / ((Int.gcd B q.2 : Nat) : Int))) 1 = (l.take i).foldl (fun B q => B * (q.2 / ((Int.gcd B q.2 : Nat) : Int))) 1 * (q.2 / ((Int.gcd ((l.take i).foldl (fun B q => B * (q.2 / ((Int.gcd B q.2 : Nat) : Int))) 1) q.2 : Nat) : Int)) := by
  rw [List.take_add_one, h, List.foldl_append]
  rfl
theorem map_take_succ {α β : Type} {l : List α} {i : Nat} {q : α} (f : α → β) (h : l[i]? = some q) : (l.take (i + 1)).map f = (l.take i).map f ++ [f q] := by
  rw [List.take_add_one, h, List.map_append]
  rfl
theorem max_len (a b : Nat) : (if (b : Int) > (a : Int) then (b : Int) else (a : Int)).toNat = max a b := by split <;> omega
theorem range_map_succ {β : Type} (f : Nat → β) (i : Nat) : (List.range (i + 1)).map f = (List.range i).map f ++ [f i] := by rw [List.range_succ, List.map_append]; rfl
theorem rowF_len (n : Nat) (f : Nat → Int) : (rowF n f).length = n := by unfold rowF; rw [List.length_map, List.length_map, List.length_range]
theorem rowF_get {n k : Nat} (f : Nat → Int) (h : k < n) : (rowF n f)[k]? = some (.int (f k)) := by
  unfold rowF
  rw [List.getElem?_map, List.getElem?_map, List.getElem?_range h]
  rfl
theorem rowF_set {n k : Nat} {f g : Nat → Int} {z : Int} (h : k < n) (h1 : g k = z) (h2 : ∀ i, i < n → i ≠ k → g i = f i) : (rowF n f).set k (.int z) = rowF n g := by
  apply List.ext_getElem?
  intro i
  by_cases hi : i < n
  · by_cases e : i = k
    · subst e
      rw [List.getElem?_set_self (by rw [rowF_len]; exact hi), rowF_get g hi, h1]
    · rw [List.getElem?_set_ne (fun z => e z.symm), rowF_get f hi, rowF_get g hi, h2 i hi e]
  · rw [List.getElem?_eq_none (by rw [List.length_set, rowF_len]; omega), List.getElem?_eq_none (by rw [rowF_len]; omega)]
theorem rowF_congr {n : Nat} {f g : Nat → Int} (h : ∀ i, i < n → g i = f i) : rowF n f = rowF n g := by
  apply List.ext_getElem?
  intro i
  by_cases hi : i < n
  · rw [rowF_get f hi, rowF_get g hi, h i hi]
  · rw [List.getElem?_eq_none (by rw [rowF_len]; omega), List.getElem?_eq_none (by rw [rowF_len]; omega)]
theorem rep_rowF (n : Nat) : (List.replicate n [V.int 0]).flatten = rowF n fun _ => 0 := by
  rw [flat_rep]
  apply List.ext_getElem?
  intro i
  by_cases hi : i < n
  · rw [rowF_get _ hi, List.getElem?_replicate, if_pos hi]
  · rw [List.getElem?_replicate, if_neg hi, List.getElem?_eq_none (by rw [rowF_len]; omega)]
theorem ixN_of {n k : Nat} {i : Int} (e : i = (k : Int)) (h : k < n) : ixN n i = some k := by
  subst e
  unfold ixN
  rw [if_pos (by omega), if_pos (by omega)]
  simp
theorem rangeF_get {α : Type} {n k : Nat} (f : Nat → α) (h : k < n) : ((List.range n).map f)[k]? = some (f k) := by
  rw [List.getElem?_map, List.getElem?_range h]; rfl
theorem Pl.tp {H H' : Hp} {r : Addr} {L : List Nu} (h : Pl H r L) (s : Tp H H') : Pl H' r L := let ⟨zs, a, b⟩ := h; ⟨zs, s _ _ a, b.tp s⟩
theorem mul4 {m n : Nat} {x y : Int} (hx : Bd m x) (hy : Bd n y) (hm : m ≤ 60000000 := by decide) (hn : n ≤ 60000000 := by decide) : IntMulOk x y := mulOk (hx.mono hm) (hy.mono hn)
theorem redG_pos {n m : Int} (h : 0 < m) : redG n m = red n m := by unfold redG; rw [if_neg (by omega)]
theorem vc_ratio (h : sp_ratio K vs H Q E) : T_ratio K { nx := fun _ H' => Q .non H', rt := Q } (L2.start ["top", "bottom", "shared"] vs) H := by
  obtain ⟨a, b, rfl, hb, q⟩ := h
  unfold T_ratio
  rwa []
  have go : ∀ s : Int, (s = if b < 0 then -((Int.gcd a b : Nat) : Int) else ((Int.gcd a b : Nat) : Int)) → DivS a s ∧ DivS b s ∧ 2 ≤ sizeLine ∧ ∀ (p : Addr), H p = none → Q (V.ref p) (upd H p (HO.tup [V.int (a.fdiv s), V.int (b.fdiv s)])) := fun s hs => by
    obtain ⟨h1, h2, h3, h4, h5, h6⟩ := ratio_math hb hs
    have e : redG a b = (a.fdiv s, b.fdiv s) := by
      refine val_inj (redG_low hb) h3 ?_
      rw [val_redG hb, val_of_wo (q := (a.fdiv s, b.fdiv s)) (Int.ne_of_gt h3.pos) hb h4]
    rw [e] at q
    exact ⟨h1, h1, sz (by decide), q⟩
  refine ite2 (fun c => ?_) (fun c => ?_)
  · exact go _ (by rw [if_pos c])
  · exact go _ (by rw [if_neg c])
theorem vc_cleared (h : sp_cleared K vs H Q E) : T_cleared K { nx := fun _ H' => Q .non H', rt := Q } (L2.start ["P", "bottom", "number"] vs) H := by
  obtain ⟨p, xs, l, M, rfl, hp, hN, hL, hO, bM, hB, hl, q⟩ := h
  unfold T_cleared
  rwa [hp]
  have lx := hN.length
  have B0 := (clrB_ov hL).1
  have BB := dvd_bd (Int.ne_of_gt hO.1) (clrB_dvd hL hO) bM
  have qb : ∀ q ∈ l, Bd 400000 q.2 := fun q hq => dvd_bd (Int.ne_of_gt hO.1) (hO.2 q hq) bM
  refine ⟨⟨_, SqT.of hp⟩, ForT.by (xs := xs) (fun i σ H' => ∃ x, σ = [some (.ref p), some (.int ((l.take i).foldl (fun B q => B * (q.2 / ((Int.gcd B q.2 : Nat) : Int))) 1)), x] ∧ H' = H) ⟨none, rfl, rfl⟩ ?_ ?_ ?_⟩
  · rintro i σ H' _ ⟨x, rfl, rfl⟩
    exact hp
  · rintro i x σ H' hi ⟨y, rfl, rfl⟩
    obtain ⟨z, hz, p1, rfl, hp1⟩ := hN.get hi
    have zl := hL z (List.mem_of_getElem? hz)
    have zb := qb z (List.mem_of_getElem? hz)
    obtain ⟨f1, f3⟩ := fold_dvd (M := M) (l.take i) 1 (fun q hq => ⟨(hL q (List.mem_of_mem_take hq)).pos, hO.2 q (List.mem_of_mem_take hq)⟩) (by decide) (Int.one_dvd M)
    have f4 := dvd_bd (Int.ne_of_gt hO.1) f3 bM
    obtain ⟨s1, _, _, s4, s5, s6⟩ := lcm_step f1 zl.pos
    rwa [hp1]
    refine ⟨s5, mul4 f4 (zb.le s4), ?_, _, rfl⟩
    rw [clr_take hz]
  · rintro σ H' ⟨x, rfl, rfl⟩
    rw [lx, List.take_length]
    rwa [hp]
    refine ⟨⟨_, SqT.of hp⟩, CompJ.tup (xs := xs) (fun i ys H'' => i ≤ xs.length ∧ ys = ((clrN l).take i).map V.int ∧ H'' = H') ⟨Nat.zero_le _, rfl, rfl⟩ ?_ ?_ ?_⟩
    · rintro i ys H'' ⟨h1, rfl, rfl⟩
      refine ⟨h1, sz ?_, hp⟩
      rw [List.length_map, List.length_take]; omega
    · rintro i x ys H'' hi ⟨h1, rfl, rfl⟩
      obtain ⟨z, hz, p1, rfl, hp1⟩ := hN.get hi
      have zl := hL z (List.mem_of_getElem? hz)
      have zb := qb z (List.mem_of_getElem? hz)
      have zn := hB z (List.mem_of_getElem? hz)
      have hi2 : i < xs.length := (List.getElem?_eq_some_iff.mp hi).1
      rwa [hp1]
      have eB : l.foldl (fun B q => B * (q.2 / ((Int.gcd B q.2 : Nat) : Int))) 1 = clrB l := rfl
      rw [eB]
      have cz : (clrN l)[i]? = some (z.1 * (clrB l / z.2)) := by unfold clrN; rw [List.getElem?_map, hz]; rfl
      refine ⟨zl.pos, mul4 zn (BB.le (natAbs_ediv_le B0 zl.pos)), by omega, ?_⟩
      rw [map_take_succ V.int cz]
    · rintro ys H'' ⟨_, rfl, rfl⟩ a ha
      refine ⟨sz (by decide), fun r hr => ?_⟩
      have e : (clrN l).take xs.length = clrN l := by
        rw [lx, show l.length = (clrN l).length by unfold clrN; rw [List.length_map], List.take_length]
      rw [e] at hr ⊢
      have s := (same_new ha (HO.lst ((clrN l).map V.int))).trans (same_new hr (HO.tup [V.ref a, V.int (clrB l)]))
      exact q r a _ s upd_same (same_new hr _ _ _ upd_same)
theorem vc_uncleared (h : sp_uncleared K vs H Q E) : T_uncleared K { nx := fun _ H' => Q .non H', rt := Q } (L2.start ["row", "bottom"] vs) H := by
  obtain ⟨p, ns, B, rfl, hp, hB, hl, q⟩ := h
  unfold T_uncleared
  rwa [hp]
  refine ⟨⟨_, SqL.of hp⟩, CompJ.lst (xs := ns.map V.int) (fun i ys H' => i ≤ ns.length ∧ Same H H' ∧ Nums H' ys ((ns.take i).map fun n => redG n B)) ⟨Nat.zero_le _, Same.refl H, trivial⟩ ?_ ?_ ?_⟩
  · rintro i ys H' ⟨h1, s1, hN⟩
    refine ⟨by rw [List.length_map]; exact h1, sz ?_, SqL.of (s1 _ _ hp)⟩
    rw [hN.length, List.length_map, List.length_take]; omega
  · rintro i x ys H' hi ⟨h1, s1, hN⟩
    rw [List.getElem?_map] at hi
    cases e : ns[i]? with
    | none => rw [e] at hi; cases hi
    | some n =>
      rw [e] at hi
      obtain rfl : V.int n = x := Option.some.inj hi
      have hi2 : i < ns.length := (List.getElem?_eq_some_iff.mp e).1
      rwa []
      refine ⟨hB, fun r hr => ⟨by omega, s1.trans (same_new hr _), ?_⟩⟩
      rw [map_take_succ _ e]
      exact (hN.tp (tpS (same_new hr _))).append (Nums.one isN_new)
  · rintro ys H' ⟨_, s1, hN⟩ a ha
    rw [List.length_map, List.take_length] at hN
    have s2 := same_new ha (HO.lst ys)
    rwa []
    refine ⟨_, hN.tp (tpS s2), by rw [List.length_map]; exact hl, fun r zs H'' s3 hr hz => q r zs H'' ((s1.trans s2).trans s3) hr hz⟩
theorem ov_top {b : Nat} {l : List Nu} {M : Int} (hl : AllLow l) (h : Ov l M) (hb : ∀ z ∈ ovN l M, Bd b z) : ∀ q ∈ l, Bd b q.1 := fun q hq => by
  refine (hb (q.1 * (M / q.2)) (List.mem_map.mpr ⟨q, hq, rfl⟩)).le ?_
  rw [Int.natAbs_mul]
  obtain ⟨y, hy⟩ := h.2 q hq
  have p0 := (hl q hq).pos
  have m0 := h.1
  have : M / q.2 = y := by rw [hy, Int.mul_ediv_cancel_left _ (Int.ne_of_gt p0)]
  rw [this]
  refine Nat.le_mul_of_pos_right _ ?_
  rcases Nat.eq_zero_or_pos y.natAbs with z | z
  · have y0 : y = 0 := by omega
    rw [y0] at hy; omega
  · exact z
theorem ov_le {l : List Nu} {M N : Int} (hl : AllLow l) (hM : Ov l M) (hN : Ov l N) (h : M ∣ N) {b : Nat} (hb : ∀ z ∈ ovN l N, Bd b z) : ∀ z ∈ ovN l M, Bd b z := fun z hz => by
  obtain ⟨q, hq, rfl⟩ := List.mem_map.mp hz
  refine (hb (q.1 * (N / q.2)) (List.mem_map.mpr ⟨q, hq, rfl⟩)).le ?_
  rw [Int.natAbs_mul, Int.natAbs_mul]
  refine Nat.mul_le_mul_left _ ?_
  have p0 := (hl q hq).pos
  obtain ⟨x, hx⟩ := hM.2 q hq
  obtain ⟨y, hy⟩ := h
  have e1 : M / q.2 = x := by rw [hx, Int.mul_ediv_cancel_left _ (Int.ne_of_gt p0)]
  have e2 : N / q.2 = x * y := by rw [hy, hx, Int.mul_assoc, Int.mul_ediv_cancel_left _ (Int.ne_of_gt p0)]
  rw [e1, e2, Int.natAbs_mul]
  refine Nat.le_mul_of_pos_right _ ?_
  rcases Nat.eq_zero_or_pos y.natAbs with z | z
  · have y0 : y = 0 := by omega
    have := hN.1
    rw [hy, y0] at this; omega
  · exact z
theorem Gq.clr {b c : Nat} {l : List Nu} (G : Gq b c l) : (∀ z ∈ clrN l, Bd b z) ∧ Bd c (clrB l) ∧ (∀ q ∈ l, Bd b q.1) := by
  obtain ⟨M, hO, bM, hz⟩ := G.ov
  have hd := clrB_dvd G.low hO
  exact ⟨ov_le G.low (clrB_ov G.low) hO hd hz, dvd_bd (Int.ne_of_gt hO.1) hd bM, ov_top G.low hO hz⟩
theorem wo_of_val {q : Nu} {n M : Int} (hq : q.2 ≠ 0) (hM : M ≠ 0) (h : val q = (n : Rat) / (M : Rat)) : Wo q n M := by
  unfold Wo
  unfold val at h
  have a := castNe hq
  have b := castNe hM
  have e : (q.1 : Rat) * (M : Rat) = (n : Rat) * (q.2 : Rat) := by grind
  exact_mod_cast e
theorem low_dvd {q : Nu} {n M : Int} (hl : Low q.1 q.2) (h : Wo q n M) : q.2 ∣ M ∧ q.1 * (M / q.2) = n := by
  unfold Wo at h
  have d : q.2 ∣ M := dvd_of_low hl ⟨n, by rw [h, Int.mul_comm]⟩
  refine ⟨d, ?_⟩
  have p0 := hl.pos
  have e : q.2 * (q.1 * (M / q.2)) = q.2 * n := by
    have := Int.mul_ediv_cancel' d
    calc q.2 * (q.1 * (M / q.2)) = q.1 * (q.2 * (M / q.2)) := by grind
      _ = q.1 * M := by rw [this]
      _ = q.2 * n := by rw [h, Int.mul_comm]
  exact Int.eq_of_mul_eq_mul_left (Int.ne_of_gt p0) e
theorem val_neg (q : Nu) : val (-q.1, q.2) = - val q := by
  unfold val
  show ((-q.1 : Int) : Rat) / _ = _
  push_cast
  grind
theorem last_ne {m : List Nu} (nm : Nz m) (m0 : m ≠ []) : (getN m (m.length - 1)).1 ≠ 0 := by
  have hb : m.length - 1 < m.length := by have := List.length_pos_iff.mpr m0; omega
  have q := nm m[m.length - 1] (by rw [List.getLast?_eq_getElem?]; exact List.getElem?_eq_getElem hb)
  have e : getN m (m.length - 1) = m[m.length - 1] := by unfold getN; rw [List.getD_eq_getElem?_getD, List.getElem?_eq_getElem hb]; rfl
  rw [e]; exact q
theorem pwo_last {m : List Nu} (hm : AllLow m) (nm : Nz m) (m0 : m ≠ []) : pwo m (m.length - 1) ≠ 0 := by
  have a := castNe (last_ne nm m0)
  have b := castNe (Int.ne_of_gt (getN_low hm (m.length - 1)).pos)
  unfold pwo val
  grind
theorem Gq.mono {b c b' c' : Nat} {l : List Nu} (G : Gq b c l) (h1 : b ≤ b') (h2 : c ≤ c') : Gq b' c' l := by
  obtain ⟨x, y, M, O, bM, bz⟩ := G
  exact ⟨x, y, M, O, bM.mono h2, fun z hz => (bz z hz).mono h1⟩
theorem gq_of {T : List Nu} {b c : Nat} (hT : AllLow T) (nT : Nz T) {M : Int} (M0 : 0 < M) (bM : Bd c M) {N : Nat → Int} (h : ∀ k, pwo T k = (N k : Rat) / (M : Rat)) (hN : ∀ k, Bd b (N k)) : Gq b c T := by
  have key : ∀ q ∈ T, ∃ k, q.2 ∣ M ∧ q.1 * (M / q.2) = N k := fun q hq => by
    obtain ⟨i, hi, rfl⟩ := List.getElem_of_mem hq
    have e : getN T i = T[i] := by unfold getN; rw [List.getD_eq_getElem?_getD, List.getElem?_eq_getElem hi]; rfl
    have hl := hT _ hq
    have v := h i
    unfold pwo at v
    rw [e] at v
    exact ⟨i, low_dvd hl (wo_of_val (Int.ne_of_gt hl.pos) (Int.ne_of_gt M0) v)⟩
  refine ⟨hT, nT, M, ⟨M0, fun q hq => ?_⟩, bM, fun z hz => ?_⟩
  · obtain ⟨k, a, _⟩ := key q hq; exact a
  · obtain ⟨q, hq, rfl⟩ := List.mem_map.mp hz
    obtain ⟨k, _, a⟩ := key q hq
    rw [a]; exact hN k
theorem vc_times (h : sp_times K vs H Q E) : T_times K { nx := fun _ H' => Q .non H', rt := Q } (L2.start ["one", "other"] vs) H := by
  obtain ⟨p, q, a, b, c, d, rfl, hp, hq, b0, d0, ba, bb, bc, bd, k⟩ := h
  unfold T_times
  rwa [hp, hq]
  exact ⟨mulOk ba bc, mulOk bb bd, Int.ne_of_gt (Int.mul_pos b0 d0), fun r hr => by rw [redG_pos (Int.mul_pos b0 d0)]; exact k r hr⟩
theorem vc_over (h : sp_over K vs H Q E) : T_over K { nx := fun _ H' => Q .non H', rt := Q } (L2.start ["one", "other"] vs) H := by
  obtain ⟨p, q, a, b, c, d, rfl, hp, hq, b0, c0, ba, bb, bc, bd, k⟩ := h
  unfold T_over
  rwa [hp, hq]
  exact ⟨mulOk ba bd, mulOk bb bc, Int.mul_ne_zero (Int.ne_of_gt b0) c0, k⟩
theorem vc_row_times (h : sp_row_times K vs H Q E) : T_row_times K { nx := fun _ H' => Q .non H', rt := Q } (L2.start ["row", "other", "result", "place", "whole", "step", "factor"] vs) H := by
  obtain ⟨p, q, ns, ms, b, d, rfl, hp, hq, bn, bm, b9, d9, ln, lm, k⟩ := h
  unfold T_row_times
  rwa [hp, hq]
  have non : ∀ xs : List Int, ((!(List.map V.int xs).isEmpty) = false) ↔ xs.length = 0 := fun xs => by cases xs <;> simp
  simp only [non]
  refine ite2 (fun c => ?_) (fun c => ite2 (fun c2 => ?_) (fun c2 => ?_))
  · exact ⟨sz (by decide), fun r hr => k r _ (same_new hr _) (by rw [if_pos (.inl c)]; exact upd_same)⟩
  · exact ⟨sz (by decide), fun r hr => k r _ (same_new hr _) (by rw [if_pos (.inr c2)]; exact upd_same)⟩
  rw [if_neg (by omega)] at k
  refine ⟨sz (by decide), fun a ha => ?_⟩
  have sa := same_new ha (HO.lst [V.int 0])
  have hpa := sa _ _ hp
  have hqa := sa _ _ hq
  rwa [hpa, hqa]
  rw [List.length_map, List.length_map]
  have eL : ((ns.length : Int) + (ms.length : Int) - 1).toNat = ns.length + ms.length - 1 := by omega
  rw [eL, rep_rowF]
  refine ⟨by omega, by omega, sz (by omega), fun w hw => ?_⟩
  generalize hLL : ns.length + ms.length - 1 = L at hw ⊢
  have sw := same_new hw (HO.lst (rowF L fun _ => 0))
  have w0 : H w = none := by
    cases e : H w with
    | none => rfl
    | some o => have z := sa _ _ e; rw [hw] at z; cases z
  refine ⟨⟨_, SqL.of (sw _ _ hpa)⟩, ForJ.enumL (xs := ns.map V.int) (fun i σ H' => ∃ x1 x2 x3 x4 : Option V, σ = [some (.ref p), some (.ref q), some (.ref w), x1, x2, x3, x4] ∧ Same H H' ∧ H' w = some (.lst (rowF L fun k => ps ns ms i k)))
    ⟨none, none, none, none, rfl, sa.trans sw, upd_same⟩ ?_ ?_ ?_⟩
  · rintro i σ H' _ ⟨_, _, _, _, _, s1, _⟩
    exact SqL.of (s1 _ _ hp)
  · rintro i x pp σ H1 hi ⟨x1, x2, x3, x4, rfl, s1, hw1⟩ hpp
    rw [List.getElem?_map] at hi
    cases en : ns[i]? with
    | none => rw [en] at hi; cases hi
    | some z =>
      rw [en] at hi
      obtain rfl : V.int z = x := Option.some.inj hi
      have il : i < ns.length := (List.getElem?_eq_some_iff.mp en).1
      have zd : ns.getD i 0 = z := by rw [List.getD_eq_getElem?_getD, en]; rfl
      have sp := same_new hpp (HO.tup [V.int (i : Int), V.int z])
      rwa []
      refine ite2 (fun c3 => ?_) (fun c3 => ?_)
      · refine ⟨⟨_, SqL.of (sp _ _ (s1 _ _ hq))⟩, ForJ.enumL (xs := ms.map V.int) (fun j σ H' => ∃ x3 x4 : Option V, σ = [some (.ref p), some (.ref q), some (.ref w), some (.int (i : Int)), some (.int z), x3, x4] ∧ Same H H' ∧ H' w = some (.lst (rowF L fun k => in2 ns ms i j k)))
          ⟨x3, x4, rfl, s1.trans sp, by rw [sp _ _ hw1]; exact congrArg (fun l => some (HO.lst l)) (rowF_congr fun k _ => (in2_zero ns ms i k))⟩ ?_ ?_ ?_⟩
        · rintro j σ H' _ ⟨_, _, _, s2, _⟩
          exact SqL.of (s2 _ _ hq)
        · rintro j y pq σ H2 hj ⟨y3, y4, rfl, s2, hw2⟩ hpq
          rw [List.getElem?_map] at hj
          cases em : ms[j]? with
          | none => rw [em] at hj; cases hj
          | some u =>
            rw [em] at hj
            obtain rfl : V.int u = y := Option.some.inj hj
            have jl : j < ms.length := (List.getElem?_eq_some_iff.mp em).1
            have ud : ms.getD j 0 = u := by rw [List.getD_eq_getElem?_getD, em]; rfl
            have sq := same_new hpq (HO.tup [V.int (j : Int), V.int u])
            have hw3 := sq _ _ hw2
            rwa [hw3]
            have kl : i + j < L := by omega
            refine ⟨_, atI_of (by omega) (rowF_get _ kl), mulOk ((bn z (List.mem_of_getElem? en)).mono (by omega)) ((bm u (List.mem_of_getElem? em)).mono (by omega)), _, rfl, i + j, ?_, fun b o h => Kp.upd b o (ne_of_none h w0) (sq b o (s2 b o h)), ?_⟩
            · rw [rowF_len]; exact ixN_of (by omega) kl
            · refine rowF_set kl ?_ fun k _ hk => ?_
              · rw [in2_step, if_pos rfl, zd, ud]
              · rw [in2_step, if_neg hk]
        · rintro σ H2 ⟨y3, y4, rfl, s2, hw2⟩
          rw [List.length_map] at hw2
          exact ⟨_, _, _, _, rfl, s2, hw2⟩
      · refine ⟨s1.trans sp, ?_⟩
        rw [sp _ _ hw1]
        refine congrArg (fun l => some (HO.lst l)) (rowF_congr fun k _ => ?_)
        have z0 : z = 0 := Decidable.not_not.mp c3
        show ps ns ms i k + _ = ps ns ms i k
        rw [zd, z0]
        simp
  · rintro σ H1 ⟨x1, x2, x3, x4, rfl, s1, hw1⟩
    rwa []
    rw [List.length_map] at hw1
    subst hLL
    exact k w H1 s1 hw1
theorem vc_p_times (h : sp_p_times K vs H Q E) : T_p_times K { nx := fun _ H' => Q .non H', rt := Q } (L2.start ["P", "Q", "one", "other"] vs) H := by
  obtain ⟨p, q, xs, ys, l, m, b, c, d, e, rfl, hp, hq, hN, hM, Gl, Gm, ll, lm, b9, c9, d9, e9, k⟩ := h
  unfold T_p_times
  obtain ⟨n1, B1b, t1⟩ := Gl.clr
  obtain ⟨n2, B2b, t2⟩ := Gm.clr
  have O1 := clrB_ov Gl.low
  have O2 := clrB_ov Gm.low
  rwa [hp, hq]
  refine ⟨l, hN, Gl.low, clrB l, O1, B1b.mono (by omega), fun q hq => (t1 q hq).mono (by omega), by omega, fun r a H1 s1 hr ha => ?_⟩
  have hq1 := s1 _ _ hq
  rwa [hq1]
  refine ⟨m, hM.tp (tpS s1), Gm.low, clrB m, O2, B2b.mono (by omega), fun q hq => (t2 q hq).mono (by omega), by omega, fun r2 a2 H2 s2 hr2 ha2 => ?_⟩
  have hr' := s2 _ _ hr
  have ha' := s2 _ _ ha
  rwa [hr', hr2]
  have m1 : (clrN l).length = l.length := by unfold clrN; rw [List.length_map]
  have m2 : (clrN m).length = m.length := by unfold clrN; rw [List.length_map]
  refine ⟨clrN l, ha', clrN m, ha2, b, n1, d, n2, by omega, by omega, by omega, by omega, fun w H3 s3 hw => ?_⟩
  have hr3 := s3 _ _ hr'
  have hr23 := s3 _ _ hr2
  rwa [hr3, hr23]
  have BB : 0 < clrB l * clrB m := Int.mul_pos O1.1 O2.1
  refine ⟨mulOk (B1b.mono (by omega)) (B2b.mono (by omega)), _, hw, Int.ne_of_gt BB, ?_, fun r4 zs H4 s4 h4 hz => ?_⟩
  · split
    · exact Nat.zero_le _
    · rw [List.length_map, List.length_range]; omega
  have e1 : trim (mulN l m (l.length + m.length)) = trim (List.map (fun n => redG n (clrB l * clrB m)) (if (clrN l).length = 0 ∨ (clrN m).length = 0 then [] else List.map (fun k => ps (clrN l) (clrN m) (clrN l).length k) (List.range ((clrN l).length + (clrN m).length - 1)))) := by
    rw [m1, m2, show (fun n => redG n (clrB l * clrB m)) = fun n => red n (clrB l * clrB m) from funext fun n => redG_pos BB]
    exact mulN_trim BB m2
  have lo : AllLow (mulN l m (l.length + m.length)) := mulG_low O1 O2
  have pv : ∀ k, pwo (trim (mulN l m (l.length + m.length))) k = cv (pwo l) (pwo m) l.length k := fun k => by
    rw [pv_trim lo]; exact pv_mul Gl.low Gm.low O1 O2 k
  rw [← e1] at hz
  refine k r4 _ H4 (((s1.trans s2).trans s3).trans s4) ⟨zs, h4, hz⟩ ?_ ?_ pv
  · refine gq_of (fun q hq => lo q (trim_mem hq)) (trim_nz _) BB (B1b.mul B2b) (N := fun k => ps (clrN l) (clrN m) l.length k) (fun k => ?_) fun k => ps_bd n1 n2 _ _
    rw [pv]; exact (ps_cv Gl.low Gm.low O1 O2 _ _).symm
  · rw [e1]
    refine Nat.le_trans (trim_len _) ?_
    rw [List.length_map]
    split
    · exact Nat.zero_le _
    · rw [List.length_map, List.length_range]; omega
theorem low11 : Low 1 1 := ⟨by decide, by decide⟩
theorem bdc {n : Nat} {x : Int} (h : x.natAbs < 2 ^ n) : Bd n x := h
theorem nadd_neg' (q r : Nu) : nadd q (-r.1, r.2) = nsub q r := by
  unfold nadd nsub
  congr 1
  show q.1 * r.2 + -r.1 * q.2 = _
  grind
theorem val_nsub {q r : Nu} (h1 : 0 < q.2) (h2 : 0 < r.2) : val (nsub q r) = val q - val r := by
  rw [← nadd_neg', val_nadd (r := (-r.1, r.2)) h1 h2, val_neg]; grind
theorem zip_out {f : Nu → Nu → Nu} {s : Int} (hf : ∀ q r : Nu, 0 < q.2 → 0 < r.2 → Low (f q r).1 (f q r).2 ∧ val (f q r) = val q + (s : Rat) * val r) (hs : s = 1 ∨ s = -1) {l m : List Nu} {M : Int} {b c : Nat} (hl : AllLow l) (hm : AllLow m) (O1 : Ov l M) (O2 : Ov m M) (bM : Bd c M) (b1 : ∀ z ∈ ovN l M, Bd b z) (b2 : ∀ z ∈ ovN m M, Bd b z) :
    Gq (b + 1) c (trim (zipN f l m)) ∧ (trim (zipN f l m)).length ≤ max l.length m.length ∧ ∀ k, pwo (trim (zipN f l m)) k = pwo l k + (s : Rat) * pwo m k := by
  have low : AllLow (zipN f l m) := fun q hq => by
    obtain ⟨i, _, rfl⟩ := List.mem_map.mp hq
    exact (hf _ _ (getN_low hl i).pos (getN_low hm i).pos).1
  have pv : ∀ k, pwo (trim (zipN f l m)) k = pwo l k + (s : Rat) * pwo m k := fun k => by
    rw [pv_trim low]
    rcases Nat.lt_or_ge k (max l.length m.length) with c | c
    · have e : getN (zipN f l m) k = f (getN l k) (getN m k) := by
        unfold zipN getN
        rw [List.getD_eq_getElem?_getD, List.getElem?_map, List.getElem?_range c]; rfl
      unfold pwo
      rw [e, (hf _ _ (getN_low hl k).pos (getN_low hm k).pos).2]
    · rw [pv_end (by unfold zipN; rw [List.length_map, List.length_range]; exact c), pv_end (l := l) (by omega), pv_end (l := m) (by omega)]; grind
  refine ⟨gq_of (fun q hq => low q (trim_mem hq)) (trim_nz _) O1.1 bM (N := fun k => (ovN l M).getD k 0 + s * (ovN m M).getD k 0) (fun k => ?_) fun k => ?_, ?_, pv⟩
  · rw [pv, pv_ov hl O1, pv_ov hm O2]; push_cast; grind
  · have h1 := getD_bd b1 k
    have h2 := getD_bd b2 k
    rcases hs with z | z
    · rw [z, Int.one_mul]; exact h1.add h2
    · rw [z, show (ovN l M).getD k 0 + -1 * (ovN m M).getD k 0 = (ovN l M).getD k 0 - (ovN m M).getD k 0 by omega]; exact h1.sub h2
  · refine Nat.le_trans (trim_len _) ?_
    unfold zipN; rw [List.length_map, List.length_range]; exact Nat.le_refl _
theorem vc_plus (h : sp_plus K vs H Q E) : T_plus K { nx := fun _ H' => Q .non H', rt := Q } (L2.start ["one", "other"] vs) H := by
  obtain ⟨p, q, a, b, c, d, rfl, hp, hq, b0, d0, ba, bb, bc, bd, k⟩ := h
  unfold T_plus
  rwa [hp, hq]
  exact ⟨mulOk ba bd, mulOk bc bb, mulOk bb bd, Int.ne_of_gt (Int.mul_pos b0 d0), fun r hr => by rw [redG_pos (Int.mul_pos b0 d0)]; exact k r hr⟩
theorem vc_minus (h : sp_minus K vs H Q E) : T_minus K { nx := fun _ H' => Q .non H', rt := Q } (L2.start ["one", "other"] vs) H := by
  obtain ⟨p, q, a, b, c, d, rfl, hp, hq, b0, d0, ba, bb, bc, bd, k⟩ := h
  unfold T_minus
  rwa [hp, hq]
  exact ⟨mulOk ba bd, mulOk bc bb, mulOk bb bd, Int.ne_of_gt (Int.mul_pos b0 d0), fun r hr => by rw [redG_pos (Int.mul_pos b0 d0)]; exact k r hr⟩
theorem vc_number_of (h : sp_number_of K vs H Q E) : T_number_of K { nx := fun _ H' => Q .non H', rt := Q } (L2.start ["P", "place"] vs) H := by
  obtain ⟨p, xs, l, i, rfl, hp, hN, q⟩ := h
  unfold T_number_of
  rwa [hp]
  have lx := hN.length
  refine ite2 (fun c => ?_) (fun c => ⟨sz (by decide), fun r hr => q _ _ (same_new hr _) ?_⟩)
  · obtain ⟨v, hv, hn⟩ := hN.at (i := i) (by omega) (0, 1)
    exact ⟨v, atI_nat hv, q v H (Same.refl H) hn⟩
  · rw [getN_end (by omega)]
    exact isN_new (q := (0, 1))
theorem getN_bdM {l : List Nu} {M : Int} {b c : Nat} (hl : AllLow l) (O : Ov l M) (bM : Bd c M) (hb : ∀ z ∈ ovN l M, Bd b z) (i : Nat) : Bd (b + 1) (getN l i).1 ∧ Bd (c + 1) (getN l i).2 := by
  unfold getN
  rw [List.getD_eq_getElem?_getD]
  cases e : l[i]? with
  | none => exact ⟨bd_zero _, (bdc (n := 1) (by decide)).mono (by omega)⟩
  | some q =>
    have m := List.mem_of_getElem? e
    exact ⟨(ov_top hl O hb q m).mono (by omega), (dvd_bd (Int.ne_of_gt O.1) (O.2 q m) bM).mono (by omega)⟩
theorem both_ov {b c : Nat} {l m : List Nu} (G1 : Gq b c l) (G2 : Gq b c m) : ∃ M, Ov l M ∧ Ov m M ∧ Bd (c + c) M ∧ (∀ z ∈ ovN l M, Bd (b + c) z) ∧ ∀ z ∈ ovN m M, Bd (b + c) z := by
  have half : ∀ {l : List Nu} {M N : Int}, AllLow l → Ov l M → (∀ z ∈ ovN l M, Bd b z) → 0 < N → Bd c N → Ov l (M * N) ∧ ∀ z ∈ ovN l (M * N), Bd (b + c) z := fun {l M N} hl O hb N0 bN => by
    refine ⟨⟨Int.mul_pos O.1 N0, fun q hq => Int.dvd_mul_of_dvd_left (O.2 q hq)⟩, fun z hz => ?_⟩
    obtain ⟨q, hq, rfl⟩ := List.mem_map.mp hz
    have e : M * N / q.2 = M / q.2 * N := Int.mul_ediv_assoc' N (O.2 q hq)
    rw [e, ← Int.mul_assoc]
    exact (hb _ (List.mem_map.mpr ⟨q, hq, rfl⟩)).mul bN
  obtain ⟨M, O1, bM, h1⟩ := G1.ov
  obtain ⟨N, O2, bN, h2⟩ := G2.ov
  obtain ⟨o1, q1⟩ := half G1.low O1 h1 O2.1 bN
  obtain ⟨o2, q2⟩ := half G2.low O2 h2 O1.1 bM
  rw [Int.mul_comm N M] at o2 q2
  exact ⟨M * N, o1, o2, bM.mul bN, q1, q2⟩
structure Sr where
  c : Nat → Rat
def tr (n : Nat) (f : Nat → Rat) : List Rat := (List.range n).map f
def mul (f g : Sr) : Sr := ⟨fun k => cvL (tr (k + 1) f.c) g.c k⟩
def L (a : List Rat) : Sr := ⟨cvL a one1⟩
theorem slope_out {l : List Nu} {b c : Nat} (G : Gq b c l) (l31 : l.length ≤ 31) :
    Gq (b + 5) c ((List.range (l.length - 1)).map fun i => nmul (getN l (i + 1)) ((i : Int) + 1, 1)) ∧ ∀ k, pwo ((List.range (l.length - 1)).map fun i => nmul (getN l (i + 1)) ((i : Int) + 1, 1)) k = dv (pwo l) k := by
  have low : AllLow ((List.range (l.length - 1)).map fun i => nmul (getN l (i + 1)) ((i : Int) + 1, 1)) := fun q hq => by
    obtain ⟨i, _, rfl⟩ := List.mem_map.mp hq
    exact nmul_low (getN_low G.low _).pos (show (0 : Int) < 1 by decide)
  have vi : ∀ i : Nat, val ((i : Int) + 1, (1 : Int)) = (i : Rat) + 1 := fun i => by
    unfold val
    show (((i : Int) + 1 : Int) : Rat) / ((1 : Int) : Rat) = _
    rw [show ((1 : Int) : Rat) = 1 from rfl]; push_cast; grind
  have pv : ∀ k, pwo ((List.range (l.length - 1)).map fun i => nmul (getN l (i + 1)) ((i : Int) + 1, 1)) k = dv (pwo l) k := fun k => by
    unfold dv
    rcases Nat.lt_or_ge k (l.length - 1) with h | h
    · have e : getN ((List.range (l.length - 1)).map fun i => nmul (getN l (i + 1)) ((i : Int) + 1, 1)) k = nmul (getN l (k + 1)) ((k : Int) + 1, 1) := by
        unfold getN
        rw [List.getD_eq_getElem?_getD, List.getElem?_map, List.getElem?_range h]; rfl
      unfold pwo
      rw [e, val_nmul (getN_low G.low _).pos (show (0 : Int) < 1 by decide), vi]; grind
    · rw [pv_end (by rw [List.length_map, List.length_range]; exact h), pv_end (l := l) (by omega)]; grind
  obtain ⟨M, O, bM, hb⟩ := G.ov
  refine ⟨gq_of low ?_ O.1 bM (N := fun k => if k < 31 then ((k + 1 : Nat) : Int) * (ovN l M).getD (k + 1) 0 else 0) (fun k => ?_) fun k => ?_, pv⟩
  · intro q hq
    rw [List.getLast?_eq_getElem?, List.length_map, List.length_range] at hq
    rcases Nat.eq_zero_or_pos (l.length - 1) with h | h
    · rw [List.getElem?_eq_none (by rw [List.length_map, List.length_range]; omega)] at hq; cases hq
    · rw [rangeF_get _ (by omega)] at hq
      obtain rfl := Option.some.inj hq
      intro z
      have z1 := val_nmul (q := getN l (l.length - 1 - 1 + 1)) (r := (((l.length - 1 - 1 : Nat) : Int) + 1, 1)) (getN_low G.low _).pos (show (0 : Int) < 1 by decide)
      rw [vi] at z1
      have z0 : val (nmul (getN l (l.length - 1 - 1 + 1)) (((l.length - 1 - 1 : Nat) : Int) + 1, 1)) = 0 := by
        unfold val
        rw [z]
        show ((0 : Int) : Rat) / _ = 0
        rw [show ((0 : Int) : Rat) = 0 from rfl]; grind
      rw [z0, show l.length - 1 - 1 + 1 = l.length - 1 by omega] at z1
      have ne := pwo_last G.low G.nz (fun e => by rw [e] at h; simp at h)
      have n2 : ((l.length - 1 - 1 : Nat) : Rat) + 1 ≠ 0 := fun q => by
        have e : ((l.length - 1 - 1 : Nat) : Rat) + 1 = ((l.length - 1 - 1 + 1 : Nat) : Rat) := by push_cast; rfl
        rw [e] at q
        have : l.length - 1 - 1 + 1 = 0 := by exact_mod_cast q
        omega
      rcases Rat.mul_eq_zero.mp z1.symm with q | q
      · exact ne q
      · exact n2 q
  · rw [pv, dv]
    by_cases h : k < 31
    · rw [if_pos h, pv_ov G.low O]; push_cast; grind
    · rw [if_neg h, pv_end (l := l) (by omega)]
      show _ = ((0 : Int) : Rat) / _
      rw [show ((0 : Int) : Rat) = 0 from rfl]; grind
  · by_cases h : k < 31
    · rw [if_pos h]
      have : Bd 5 ((k + 1 : Nat) : Int) := by unfold Bd; rw [Int.natAbs_natCast]; omega
      exact (this.mul (getD_bd hb (k + 1))).mono (by omega)
    · rw [if_neg h]; exact bd_zero _
theorem vc_p_slope (h : sp_p_slope K vs H Q E) : T_p_slope K { nx := fun _ H' => Q .non H', rt := Q } (L2.start ["P"] vs) H := by
  obtain ⟨p, xs, l, b, c, rfl, hp, hN, G, l31, b9, c9, k⟩ := h
  unfold T_p_slope
  rwa [hp]
  have lx := hN.length
  obtain ⟨M, O, bM, hb⟩ := G.ov
  refine ⟨by decide, by decide, by omega, by omega, CompJ.range (fun i zs H' => i ≤ l.length - 1 ∧ Same H H' ∧ Nums H' zs ((List.range i).map fun i => nmul (getN l (i + 1)) ((i : Int) + 1, 1))) ⟨Nat.zero_le _, Same.refl H, trivial⟩ ?_ ?_ ?_⟩
  · rintro i zs H' ⟨h1, s1, hZ⟩
    exact ⟨by omega, sz (by rw [hZ.length, List.length_map, List.length_range]; omega)⟩
  · rintro i zs H' hi ⟨h1, s1, hZ⟩
    have hp1 := s1 _ _ hp
    have hi' : i + 1 < l.length := by omega
    obtain ⟨v, hv, hn⟩ := hN.at (i := i + 1) (by omega) (0, 1)
    obtain ⟨pv, rfl, hpv⟩ := hn.tp (tpS s1)
    have g1 : atI xs (1 + (i : Int)) = some (V.ref pv) := atI_of (j := i + 1) (by omega) hv
    rwa [hp1, g1]
    refine ⟨sz (by decide), fun w hw => ?_⟩
    have sw := same_new hw (HO.tup [V.int (1 + (i : Int)), V.int 1])
    have b1 := getN_bdM G.low O bM hb (i + 1)
    have e1 : (1 + (i : Int)) = (i : Int) + 1 := by omega
    have b5 : Bd 5 (1 + (i : Int)) := by unfold Bd; omega
    refine ⟨_, _, sw _ _ hpv, (getN_low G.low _).pos, by decide, b1.1.mono (by omega), b1.2.mono (by omega), b5.mono (by decide), (bdc (n := 1) (by decide)).mono (by decide), fun r hr => ⟨by omega, (s1.trans sw).trans (same_new hr _), ?_⟩⟩
    rw [range_map_succ]
    refine (hZ.tp (tpS (sw.trans (same_new hr _)))).append (Nums.one ?_)
    rw [← e1]
    exact isN_new (q := nmul (getN l (i + 1)) (1 + (i : Int), 1))
  · rintro zs H' ⟨_, s1, hZ⟩ a ha
    rwa []
    have s2 := same_new ha (HO.lst zs)
    obtain ⟨o1, o2⟩ := slope_out G l31
    have el : ((xs.length : Int) - 1).toNat = l.length - 1 := by omega
    rw [el] at hZ
    intro r hr
    have s3 := same_new hr (HO.tup zs)
    exact k r _ _ ((s1.trans s2).trans s3) ⟨zs, upd_same, hZ.tp (tpS (s2.trans s3))⟩ o1 (by rw [List.length_map, List.length_range]) o2
theorem vc_p_plus (h : sp_p_plus K vs H Q E) : T_p_plus K { nx := fun _ H' => Q .non H', rt := Q } (L2.start ["P", "Q"] vs) H := by
  obtain ⟨p, q, xs, ys, l, m, M, b, c, rfl, hp, hq, hN, hM, hl, hm, O1, O2, bM, b1', b2', b9, c9, ll, lm, k⟩ := h
  unfold T_p_plus
  rwa [hp, hq]
  have lx := hN.length
  have ly := hM.length
  rw [max_len, lx, ly]
  refine ⟨by omega, by omega, CompJ.range (fun i zs H' => i ≤ max l.length m.length ∧ Same H H' ∧ Nums H' zs ((List.range i).map fun i => nadd (getN l i) (getN m i))) ⟨Nat.zero_le _, Same.refl H, trivial⟩ ?_ ?_ ?_⟩
  · rintro i zs H' ⟨h1, s1, hZ⟩
    exact ⟨h1, sz (by rw [hZ.length, List.length_map, List.length_range]; omega)⟩
  · rintro i zs H' hi ⟨h1, s1, hZ⟩
    rwa []
    rw [show (0 : Int) + (i : Int) = (i : Int) by omega]
    refine ⟨xs, l, i, rfl, s1 _ _ hp, hN.tp (tpS s1), fun v H1 s2 hv => ⟨ys, m, i, rfl, s2 _ _ (s1 _ _ hq), hM.tp (tpS (s1.trans s2)), fun u H2 s3 hu => ?_⟩⟩
    obtain ⟨pv, rfl, hpv⟩ := hv.tp (tpS s3)
    obtain ⟨pu, rfl, hpu⟩ := hu
    have b1 := getN_bdM hl O1 bM b1' i
    have b2 := getN_bdM hm O2 bM b2' i
    refine ⟨pv, rfl, pu, rfl, _, _, hpv, _, _, hpu, (getN_low hl i).pos, (getN_low hm i).pos, b1.1.mono (by omega), b1.2.mono (by omega), b2.1.mono (by omega), b2.2.mono (by omega), fun r hr => ⟨by omega, ((s1.trans s2).trans s3).trans (same_new hr _), ?_⟩⟩
    rw [range_map_succ]
    exact (hZ.tp (tpS ((s2.trans s3).trans (same_new hr _)))).append (Nums.one isN_new)
  · rintro zs H' ⟨_, s1, hZ⟩ a ha
    rwa []
    have s2 := same_new ha (HO.lst zs)
    have out := zip_out (f := nadd) (s := 1) (fun q r h1 h2 => ⟨nadd_low h1 h2, by rw [val_nadd h1 h2]; grind⟩) (.inl rfl) hl hm O1 O2 bM b1' b2'
    refine ⟨_, hZ.tp (tpS s2), by rw [List.length_map, List.length_range]; omega, fun r os H'' s3 hr hz => ?_⟩
    exact k r _ H'' ((s1.trans s2).trans s3) ⟨os, hr, hz⟩ out.1 out.2.1 fun k => by have := out.2.2 k; exact this
theorem vc_degree (h : sp_degree K vs H Q E) : T_degree K { nx := fun _ H' => Q .non H', rt := Q } (L2.start ["P"] vs) H := by
  obtain ⟨p, xs, rfl, hp, k⟩ := h
  unfold T_degree
  rwa [hp]
  exact k
theorem atI_last {xs : List V} {v : V} (h : 1 ≤ xs.length) (e : xs[xs.length - 1]? = some v) : atI xs (-1) = some v := by
  unfold atI ixN
  rw [if_neg (by decide), if_pos (by omega), show (-1 + (xs.length : Int)).toNat = xs.length - 1 by omega]
  exact e
theorem datN_inj {a b : Nu} (h : datN a = datN b) : a = b := by
  unfold datN at h
  injection h with h
  injection h with h1 h2
  injection h2 with h2 _
  injection h1 with h1
  injection h2 with h2
  exact Prod.ext h1 h2
theorem datP_inj {l m : List Nu} (h : datP l = datP m) : l = m := by
  unfold datP at h
  injection h with h
  induction l generalizing m with
  | nil =>
    cases m with
    | nil => rfl
    | cons b m => simp at h
  | cons a l ih =>
    cases m with
    | nil => simp at h
    | cons b m =>
      rw [List.map_cons, List.map_cons] at h
      injection h with h1 h2
      rw [datN_inj h1, ih h2]
theorem eqP {H : Hp} {p q : Addr} {xs ys : List V} {l m : List Nu} {Q : VK} (hp : H p = some (.tup xs)) (hN : Nums H xs l) (hq : H q = some (.tup ys)) (hM : Nums H ys m) (b : Bool) (hb : b = true ↔ l = m) (h : Q (.bl b) H) : eqD (.ref p) (.ref q) H Q :=
  ⟨_, _, b, repP hp hN, repP hq hM, okP _ 6, okP _ 6, ⟨fun z => by rw [hb.mp z], fun z => hb.mpr (datP_inj z)⟩, h⟩
theorem neP {H : Hp} {p q : Addr} {xs ys : List V} {l m : List Nu} {Q : VK} (hp : H p = some (.tup xs)) (hN : Nums H xs l) (hq : H q = some (.tup ys)) (hM : Nums H ys m) (b : Bool) (hb : b = true ↔ l = m) (h : Q (.bl (!b)) H) : neD (.ref p) (.ref q) H Q :=
  ⟨_, _, b, repP hp hN, repP hq hM, okP _ 6, okP _ 6, ⟨fun z => by rw [hb.mp z], fun z => hb.mpr (datP_inj z)⟩, h⟩
theorem red_bd {c d : Nat} {n m : Int} (hm : 0 < m) (h1 : Bd c n) (h2 : Bd d m) : Bd c (red n m).1 ∧ Bd d (red n m).2 := by
  have w := wo_le (red_low hm) hm (red_wo (n := n) hm)
  exact ⟨h1.le w.1, h2.le w.2⟩
theorem at_end {H : Hp} {xs : List V} {l : List Nu} (hN : Nums H xs l) (h : l ≠ []) : ∃ v : Addr, atI xs (-1) = some (.ref v) ∧ Nm H v (getN l (l.length - 1)).1 (getN l (l.length - 1)).2 := by
  have h0 : 0 < l.length := List.length_pos_iff.mpr h
  obtain ⟨v, h1, p, rfl, h2⟩ := hN.at (show l.length - 1 < l.length by omega) (0, 1)
  exact ⟨p, atI_last (by rw [hN.length]; omega) (by rw [hN.length]; exact h1), h2⟩
theorem val_over {a b c d : Int} (b0 : 0 < b) (c0 : c ≠ 0) (d0 : 0 < d) : val (redG (a * d) (b * c)) = val (a, b) / val (c, d) := by
  rw [val_redG (Int.mul_ne_zero (Int.ne_of_gt b0) c0)]
  have h1 := castNe (Int.ne_of_gt b0)
  have h2 := castNe c0
  have h3 := castNe (Int.ne_of_gt d0)
  unfold val
  simp only [Rat.intCast_mul]
  grind
theorem nsub_bd {q r : Nu} {b c : Nat} (h1 : 0 < q.2) (h2 : 0 < r.2) (a1 : Bd b q.1) (a2 : Bd c q.2) (a3 : Bd b r.1) (a4 : Bd c r.2) : Bd (b + c + 1) (nsub q r).1 ∧ Bd (c + c) (nsub q r).2 := by
  have t1 := a1.mul a4
  have t2 := a3.mul a2
  exact red_bd (Int.mul_pos h1 h2) (t1.sub t2) (a2.mul a4)
theorem cutV_sub (ns : List Int) (lo hi : Option Int) : ∃ ms : List Int, cutV (ns.map V.int) lo hi = ms.map V.int ∧ ms.length ≤ ns.length ∧ ∀ m ∈ ms, m ∈ ns := by
  unfold cutV
  rw [← List.map_drop, ← List.map_take]
  exact ⟨_, rfl, by rw [List.length_take, List.length_drop]; omega, fun m h => List.mem_of_mem_drop (List.mem_of_mem_take h)⟩
theorem cutV_hi {xs : List V} {m : Int} (h : 0 ≤ m) : ((cutV xs none (some m)).length : Int) ≤ m := by
  unfold cutV HT.sIx
  rw [List.length_take]
  simp only [if_neg (show ¬ m < 0 by omega)]
  omega
theorem cutV_range {xs : List V} {a b : Int} (h : 0 ≤ a) (h2 : a ≤ b) : ((cutV xs (some a) (some b)).length : Int) ≤ b - a := by
  unfold cutV HT.sIx
  rw [List.length_take, List.length_drop]
  simp only [if_neg (show ¬ a < 0 by omega), if_neg (show ¬ b < 0 by omega)]
  omega
theorem Dr.sub {ds ms : List Int} (h : Dr ds) (s : ∀ m ∈ ms, m ∈ ds) : Dr ms := fun d hd => h d (s d hd)
theorem Dr.at {ds : List Int} (h : Dr ds) {i : Nat} {j : Int} (e : j = (i : Int)) (hi : i < ds.length) : ∃ d : Int, atI (ds.map V.int) j = some (.int d) ∧ 0 ≤ d ∧ d < 1000 := by
  refine ⟨ds[i], atI_of e (by rw [List.getElem?_map, List.getElem?_eq_getElem hi]; rfl), h _ (List.getElem_mem hi)⟩
theorem mulR2 {x y : Int} (h1 : 0 ≤ y) (h2 : y < 4611686018427387904) : IntMulOk x y := mulR (by omega) (by omega)
theorem vc_l_mixed (h : sp_l_mixed K vs H Q E) : T_l_mixed K { nx := fun _ H' => Q .non H', rt := Q } (L2.start ["_law_cell", "_law_k", "_law_once"] vs) H := by
  obtain ⟨c, k, rfl, k0, k9, q⟩ := h
  have R : ∀ {x y : Int}, 0 ≤ y → y < 4611686018427387904 → IntMulOk x y := fun h1 h2 => mulR (by omega) (by omega)
  have Lm : ∀ {x y : Int}, 0 ≤ x → x < 4611686018427387904 → IntMulOk x y := fun h1 h2 => mulL (by omega) (by omega)
  unfold T_l_mixed
  rwa []
  refine ⟨by decide, Lm (by decide) (by decide), R (by decide) (by decide), by decide, by decide, ?_⟩
  have o0 := Int.emod_nonneg ((c % 2147483647 + 7919 * k + 1) * 48271) (show (2147483647 : Int) ≠ 0 by decide)
  have o1 := Int.emod_lt_of_pos ((c % 2147483647 + 7919 * k + 1) * 48271) (show (0 : Int) < 2147483647 by decide)
  generalize (c % 2147483647 + 7919 * k + 1) * 48271 % 2147483647 = z at o0 o1 ⊢
  refine ⟨Lm o0 (by omega), by decide, by decide, q _ (Int.ediv_nonneg (Int.emod_nonneg _ (by decide)) (by decide))⟩
theorem vc_l_draws (h : sp_l_draws K vs H Q E) : T_l_draws K { nx := fun _ H' => Q .non H', rt := Q } (L2.start ["_law_script", "_law_many", "_law_cells", "_law_draws_here", "_law_rest", "_law_k"] vs) H := by
  obtain ⟨s, ns, m, rfl, hs, n63, m9, k⟩ := h
  have R : ∀ {x y : Int}, 0 ≤ y → y < 4611686018427387904 → IntMulOk x y := fun h1 h2 => mulR (by omega) (by omega)
  unfold T_l_draws
  rwa []
  obtain ⟨c1, e1, l1, _⟩ := cutV_sub ns none (some 63)
  refine ⟨_, hs, fun p hp => ⟨sz (by decide), fun p1 h1 => ?_⟩⟩
  rw [e1] at h1 ⊢
  have t1 := same_new hp (HO.lst (c1.map V.int))
  have t2 := same_new h1 (HO.lst [V.int 7])
  refine ⟨_, t2 _ _ upd_same, sz (by rw [List.length_map]; omega), fun p2 h2 => ?_⟩
  have t3 := same_new h2 (HO.lst (c1.map V.int ++ [V.int 7]))
  have s3 := (t1.trans t2).trans t3
  have hc : upd (upd (upd H p (HO.lst (c1.map V.int))) p1 (HO.lst [V.int 7])) p2 (HO.lst (c1.map V.int ++ [V.int 7])) p2 = some (HO.lst ((c1 ++ [7]).map V.int)) := by rw [upd_same, List.map_append]; rfl
  have cl : (c1 ++ [7]).length = c1.length + 1 := by simp
  generalize upd (upd (upd H p (HO.lst (c1.map V.int))) p1 (HO.lst [V.int 7])) p2 (HO.lst (c1.map V.int ++ [V.int 7])) = H3 at s3 hc ⊢
  generalize c1 ++ [7] = cs at hc cl
  unfold T_l_draws_1
  rwa []
  refine ⟨sz (by decide), fun w hw => ?_⟩
  have sw := same_new hw (HO.lst [])
  have w0 : H w = none := by
    cases e : H w with
    | none => rfl
    | some o => have z := s3 _ _ e; rw [hw] at z; cases z
  have wp : p2 ≠ w := ne_of_none hc hw
  have hc4 := sw _ _ hc
  have hw4 : upd H3 w (HO.lst []) w = some (HO.lst (([] : List Int).map V.int)) := upd_same
  have s4 := s3.trans sw
  generalize upd H3 w (HO.lst []) = H4 at hc4 hw4 s4 ⊢
  obtain ⟨v, hv⟩ := atI_ints (ns := cs) (k := 0) (by decide) (by omega)
  unfold T_l_draws_2
  rwa [hc4, hv]
  have m2 := Int.emod_nonneg v (show (2 : Int) ≠ 0 by decide)
  have m3 := Int.emod_lt_of_pos v (show (0 : Int) < 2 by decide)
  refine ⟨by decide, by decide, mulR2 (by omega) (by omega), ?_⟩
  have r0 : 0 ≤ (if v < 0 then -v else v) / 2 * (1 - v % 2) := Int.mul_nonneg (Int.ediv_nonneg (by split <;> omega) (by decide)) (by omega)
  generalize (if v < 0 then -v else v) / 2 * (1 - v % 2) = rest at r0 ⊢
  unfold T_l_draws_3
  rwa []
  refine ⟨by omega, by omega, ForR.by (fun i σ H' => i ≤ m ∧ ∃ (rest : Int) (x5 : Option V) (ds : List Int), σ = [some (.ref s), some (.int (m : Int)), some (.ref p2), some (.ref w), some (.int rest), x5] ∧ 0 ≤ rest ∧ Kp w H4 H' ∧ H' w = some (.lst (ds.map V.int)) ∧ ds.length = i ∧ Dr ds) ⟨Nat.zero_le _, rest, none, [], rfl, r0, Kp.of_same (Same.refl H4), hw4, rfl, fun _ h => nomatch h⟩ ?_ ?_⟩
  · rintro i σ H' hi ⟨_, rest, x5, ds, rfl, r0, k5, hw5, ld, hd⟩
    have hi' : i < m := by omega
    have hc5 := k5 _ _ wp hc4
    have out : ∀ (z : Int), 0 ≤ z → z < 1000 → upd H' w (.lst (ds.map V.int ++ [V.int z])) w = some (.lst ((ds ++ [z]).map V.int)) ∧ (ds ++ [z]).length = i + 1 ∧ Dr (ds ++ [z]) ∧ Kp w H4 (upd H' w (.lst (ds.map V.int ++ [V.int z]))) := fun z z0 z1 => by
      refine ⟨by rw [upd_same, List.map_append]; rfl, by rw [List.length_append, ld]; rfl, fun d h => ?_, k5.trans Kp.upd⟩
      rcases List.mem_append.mp h with h | h
      · exact hd d h
      · rw [List.mem_singleton.mp h]; exact ⟨z0, z1⟩
    rwa [hw5]
    refine ite2 (fun c => ?_) (fun c => ?_)
    · unfold T_l_draws_b1_0
      rwa [hw5]
      obtain ⟨o1, o2, o3, o4⟩ := out (rest % 1000) (Int.emod_nonneg _ (by decide)) (Int.emod_lt_of_pos _ (by decide))
      refine ⟨tyV_lst hw5, by decide, Nat.lt_of_le_of_lt (show _ ≤ 1000 by rw [List.length_map]; omega) (by rw [sizeLine_eq]; omega), ?_⟩
      unfold T_l_draws_b1_1
      rwa []
      exact ⟨by decide, hi', Int.ediv_nonneg r0 (by decide), o4, ds ++ [rest % 1000], by rw [List.map_append]; rfl, o2, o3⟩
    · have g0 := Int.emod_nonneg (0 + (i : Int)) (show ((cs.map V.int).length : Int) ≠ 0 by rw [List.length_map]; omega)
      have g1 := Int.emod_lt_of_pos (0 + (i : Int)) (show (0 : Int) < ((cs.map V.int).length : Int) by rw [List.length_map]; omega)
      obtain ⟨v, hv⟩ := atI_ints (ns := cs) (k := (0 + (i : Int)) % ((cs.map V.int).length : Int)) g0 (by rw [List.length_map] at g1 ⊢; exact g1)
      refine ⟨tyV_lst hw5, _, hc5, by rw [List.length_map]; omega, _, hc5, _, hv, v, rfl, by omega, by omega, fun z z0 => ?_⟩
      obtain ⟨o1, o2, o3, o4⟩ := out (z % 1000) (Int.emod_nonneg _ (by decide)) (Int.emod_lt_of_pos _ (by decide))
      exact ⟨by decide, Nat.lt_of_le_of_lt (show _ ≤ 1000 by rw [List.length_map]; omega) (by rw [sizeLine_eq]; omega), hi', r0, o4, ds ++ [z % 1000], by rw [List.map_append]; rfl, o2, o3⟩
  · rintro σ H' ⟨_, rest, x5, ds, rfl, r0, k5, hw5, ld, hd⟩
    unfold T_l_draws_4
    rwa []
    exact k w ds H' (fun b o h => k5 b o (ne_of_none h w0) (s4 _ _ h)) hw5 (by omega) hd
theorem sm_of {a b : Int} (ha : a.natAbs ≤ 9) (hb : b = 1 ∨ b = 2 ∨ b = 3) : Sm (redG a b) := by
  have b0 : 0 < b := by omega
  have e : redG a b = red a b := redG_pos b0
  refine ⟨redG_low (by omega), ?_, ?_⟩
  · rw [e]; exact Nat.le_trans (lowest_math (a := a) b0).2.1 ha
  · refine Int.dvd_trans (redG_dvd (by omega) (Int.dvd_refl b)) ?_
    rcases hb with h | h | h <;> subst h <;> decide
theorem vc_l_number (h : sp_l_number K vs H Q E) : T_l_number K { nx := fun _ H' => Q .non H', rt := Q } (L2.start ["_law_d"] vs) H := by
  obtain ⟨d, rfl, d0, k⟩ := h
  unfold T_l_number
  rwa []
  have m0 := Int.emod_nonneg (d / 9) (show (5 : Int) ≠ 0 by decide)
  have m1 := Int.emod_lt_of_pos (d / 9) (show (0 : Int) < 5 by decide)
  have n0 := Int.emod_nonneg d (show (9 : Int) ≠ 0 by decide)
  have n1 := Int.emod_lt_of_pos d (show (0 : Int) < 9 by decide)
  have g : ∃ b : Int, atI [V.int 1, V.int 1, V.int 1, V.int 2, V.int 3] (d / 9 % 5) = some (.int b) ∧ (b = 1 ∨ b = 2 ∨ b = 3) := by
    generalize d / 9 % 5 = j at m0 m1
    have : j = 0 ∨ j = 1 ∨ j = 2 ∨ j = 3 ∨ j = 4 := by omega
    rcases this with h | h | h | h | h <;> subst h
    · exact ⟨1, rfl, .inl rfl⟩
    · exact ⟨1, rfl, .inl rfl⟩
    · exact ⟨1, rfl, .inl rfl⟩
    · exact ⟨2, rfl, .inr (.inl rfl)⟩
    · exact ⟨3, rfl, .inr (.inr rfl)⟩
  obtain ⟨b, hb, hbb⟩ := g
  refine ⟨by decide, sz (by decide), fun p hp => ⟨by decide, by decide, _, hb, b, rfl, by omega, fun r hr => ?_⟩⟩
  have s1 := same_new hp (HO.lst [V.int 1, V.int 1, V.int 1, V.int 2, V.int 3])
  exact k r _ _ (s1.trans (same_new hr _)) isN_new (sm_of (by omega) hbb)
theorem gq_sm {l : List Nu} (h : ∀ q ∈ l, Sm q) (n : Nz l) : Gq 7 3 l := by
  refine ⟨fun q hq => (h q hq).1, n, 6, ⟨by decide, fun q hq => (h q hq).2.2⟩, by unfold Bd; decide, fun z hz => ?_⟩
  obtain ⟨q, hq, rfl⟩ := List.mem_map.mp hz
  obtain ⟨lq, a, b⟩ := h q hq
  have d6 : (6 / q.2).natAbs ≤ 6 := by
    obtain ⟨y, hy⟩ := b
    have p0 := lq.pos
    have y0 : 0 < y := by
      rcases Int.lt_trichotomy y 0 with c | c | c
      · have := Int.mul_neg_of_pos_of_neg p0 c; omega
      · rw [c] at hy; omega
      · exact c
    rw [hy, Int.mul_ediv_cancel_left _ (Int.ne_of_gt p0)]
    have := Int.mul_le_mul_of_nonneg_right (show 1 ≤ q.2 by omega) (Int.le_of_lt y0)
    omega
  unfold Bd
  rw [Int.natAbs_mul]
  have := Nat.mul_le_mul a d6
  omega
theorem comp_nums {K : W.Frag} {σ : L2.St} {H : Hp} {Q : VK} {a : Addr} {ms : List Int} (ha : H a = some (.lst (ms.map V.int))) (hm : Dr ms) (lm : ms.length ≤ 1000) (k : ∀ (zs : List V) (ls : List Nu) (H' : Hp), Same H H' → Nums H' zs ls → (∀ q ∈ ls, Sm q) → ls.length = ms.length → ∀ p, H' p = none → Q (.ref p) (upd H' p (.lst zs))) :
    CompJ (Itl K a) [none] (gName 0) (tCall (sp_l_number K) [] E0 (tCons (tVar 0) tNil)) σ Q H := by
  refine CompJ.lst (xs := ms.map V.int) (fun i zs H' => i ≤ ms.length ∧ Same H H' ∧ ∃ ls : List Nu, Nums H' zs ls ∧ (∀ q ∈ ls, Sm q) ∧ ls.length = i) ⟨Nat.zero_le _, Same.refl H, [], trivial, fun _ h => (nomatch h), rfl⟩ ?_ ?_ ?_
  · rintro i zs H' ⟨h1, s1, ls, hN, _, hl⟩
    exact ⟨by rw [List.length_map]; exact h1, sz (by rw [hN.length]; omega), SqL.of (s1 _ _ ha)⟩
  · rintro i x zs H' hx ⟨h1, s1, ls, hN, hS, hl⟩
    rw [List.getElem?_map] at hx
    cases e : ms[i]? with
    | none => rw [e] at hx; cases hx
    | some d =>
      rw [e] at hx
      obtain rfl := Option.some.inj hx
      have hi := (List.getElem?_eq_some_iff.mp e).1
      rwa []
      refine ⟨(hm d (List.mem_of_getElem? e)).1, fun r q H2 s2 hq sq => ⟨by omega, s1.trans s2, ls ++ [q], (hN.tp (tpS s2)).append (Nums.one hq), fun z hz => ?_, by rw [List.length_append, hl]; rfl⟩⟩
      rcases List.mem_append.mp hz with h | h
      · exact hS z h
      · rw [List.mem_singleton.mp h]; exact sq
  · rintro zs H' ⟨_, s1, ls, hN, hS, hl⟩ p hp
    rw [List.length_map] at hl
    exact k zs ls H' s1 hN hS hl p hp
theorem vc_l_row (h : sp_l_row K vs H Q E) : T_l_row K { nx := fun _ H' => Q .non H', rt := Q } (L2.start ["_law_draws_here", "_law_size"] vs) H := by
  obtain ⟨p, ds, m, rfl, hp, hd, l9, m0, k⟩ := h
  unfold T_l_row
  rwa [hp]
  intro a ha
  obtain ⟨c1, e1, l1, su⟩ := cutV_sub ds none (some m)
  have hm := cutV_hi (xs := ds.map V.int) m0
  rw [e1] at hm ⊢
  rw [List.length_map] at hm
  have s1 := same_new ha (HO.lst (c1.map V.int))
  refine ⟨⟨_, SqL.of upd_same⟩, comp_nums upd_same (hd.sub su) (by omega) fun zs ls H' s2 hN hS hl q hq => ?_⟩
  have s3 := same_new hq (HO.lst zs)
  rwa []
  refine ⟨_, hN.tp (tpS s3), by omega, fun r ws H2 s4 hr hw => k r (trim ls) H2 (((s1.trans s2).trans s3).trans s4) ⟨ws, hr, hw⟩ (gq_sm (fun q hq => hS q (trim_mem hq)) (trim_nz _)) ?_⟩
  have := trim_len ls
  omega
theorem getN_bdQ {l : List Nu} {b c : Nat} (G : Gq b c l) (i : Nat) : Bd (b + 1) (getN l i).1 ∧ Bd (c + 1) (getN l i).2 := by
  obtain ⟨M, O, bM, hb⟩ := G.ov
  exact getN_bdM G.low O bM hb i
theorem farQ_nil (la : List Nu) : farQ la [] = 0 := by
  unfold farQ
  rw [pv_end (l := []) (Nat.zero_le _)]
  grind
theorem val_01 : val (0, 1) = 0 := zdiv _
theorem vc_top_by (h : sp_top_by K vs H Q E) : T_top_by K { nx := fun _ H' => Q .non H', rt := Q } (L2.start ["p", "q", "S", "P", "Q", "top", "other"] vs) H := by
  obtain ⟨p, q, xs, ys, la, lb, S, rfl, hp, hq, na, nb, Ga, Gb, nea, k⟩ := h
  have lxs := na.length
  have lys := nb.length
  have a0 := List.length_pos_iff.mpr nea
  unfold T_top_by
  rwa [hp]
  unfold T_top_by_1
  rwa [hq]
  unfold T_top_by_2
  rwa []
  have wa := getN_low Ga.low (la.length - 1)
  have wb := getN_low Gb.low (lb.length - 1)
  have lnz := last_ne Ga.nz nea
  have ba := getN_bdQ Ga (la.length - 1)
  have bb := getN_bdQ Gb (lb.length - 1)
  obtain ⟨e1, g1, m1⟩ := at_end na nea
  have nl : Low (nsub (0, 1) (getN lb (lb.length - 1))).1 (nsub (0, 1) (getN lb (lb.length - 1))).2 := nsub_low (by decide) wb.pos
  have nv : val (nsub (0, 1) (getN lb (lb.length - 1))) = - pwo lb (lb.length - 1) := by
    rw [val_nsub (by decide) wb.pos, val_01]
    show 0 - pwo lb _ = _
    grind
  have nbd := nsub_bd (q := (0, 1)) (r := getN lb (lb.length - 1)) (b := 10) (c := 10) (by decide) wb.pos (by unfold Bd; decide) (by unfold Bd; decide) (bb.1.mono (by decide)) (bb.2.mono (by decide))
  have lz : Low (redG ((nsub (0, 1) (getN lb (lb.length - 1))).1 * (getN la (la.length - 1)).2) ((nsub (0, 1) (getN lb (lb.length - 1))).2 * (getN la (la.length - 1)).1)).1 (redG ((nsub (0, 1) (getN lb (lb.length - 1))).1 * (getN la (la.length - 1)).2) ((nsub (0, 1) (getN lb (lb.length - 1))).2 * (getN la (la.length - 1)).1)).2 := redG_low (Int.mul_ne_zero (Int.ne_of_gt nl.pos) lnz)
  have ez : val (redG ((nsub (0, 1) (getN lb (lb.length - 1))).1 * (getN la (la.length - 1)).2) ((nsub (0, 1) (getN lb (lb.length - 1))).2 * (getN la (la.length - 1)).1)) = farQ la lb := by
    rw [val_over nl.pos lnz wa.pos]
    show val (nsub (0, 1) (getN lb (lb.length - 1))) / pwo la (la.length - 1) = _
    rw [nv]; rfl
  have zex : ∃ z : Nu, Low z.1 z.2 ∧ val z = farQ la lb := ⟨_, lz, ez⟩
  refine ite2 (fun c => ?_) (fun c => ?_)
  · obtain ⟨z, lz, ez⟩ := zex
    have kk := k _ H (Same.refl H) ⟨z, lz, ez, rfl⟩
    unfold topT at kk
    rw [if_pos (by omega)] at kk
    unfold nonI at kk
    rw [if_pos (by split <;> omega)] at kk
    rw [lxs]
    have e : (if 0 > S - ((la.length : Int) - 1) + 1 then 0 else S - ((la.length : Int) - 1) + 1) = (if 0 < S - ((la.length : Int) - 1) + 1 then S - ((la.length : Int) - 1) + 1 else 0) := by split <;> split <;> omega
    rw [e]; exact kk
  · unfold T_top_by_3
    rwa []
    have fin : ∀ t : Int, ∀ x6 : Option V, (∃ z : Nu, Low z.1 z.2 ∧ val z = farQ la lb ∧ t = topT la lb S z) → ∀ H3, Same H H3 → T_top_by_5 K { nx := fun _ H' => Q V.non H', rt := Q } [some (V.ref p), some (V.ref q), some (V.int S), some (V.int ((xs.length : Int) - 1)), some (V.int ((ys.length : Int) - 1)), some (V.int t), x6] H3 := fun t x6 ⟨z, lz, ez, et⟩ H3 s3 => by
      unfold T_top_by_5
      rwa []
      have kk := k (nonI t) H3 s3 ⟨z, lz, ez, by rw [et]⟩
      unfold nonI at kk
      by_cases c : 0 ≤ t
      · rw [if_pos c] at kk; simp only [ge_iff_le, c, if_true]; exact kk
      · rw [if_neg c] at kk; simp only [ge_iff_le, c, if_false]; exact kk
    unfold T_top_by_4
    rwa []
    refine ite2 (fun c2 => ?_) (fun c2 => ?_)
    · unfold T_top_by_b1_0
      rwa [hq, hp]
      have el : ¬ lb.length + 1 < la.length := by omega
      have last : ∀ (z : Nu) (r : Addr) (H3 : Hp), Low z.1 z.2 → val z = farQ la lb → Same H H3 → H3 r = some (.tup [.int z.1, .int z.2]) → T_top_by_b1_1 K { nx := T_top_by_5 K { nx := fun x H' => Q V.non H', rt := Q }, rt := Q } [some (V.ref p), some (V.ref q), some (V.int S), some (V.int ((xs.length : Int) - 1)), some (V.int ((ys.length : Int) - 1)), some (V.int (S - ((ys.length : Int) - 1))), some (V.ref r)] H3 := fun z r H3 lz ez s3 hr => by
        unfold T_top_by_b1_1
        rwa [hr]
        refine ite2 (fun c3 => ?_) (fun c3 => ?_)
        · refine fin _ _ ⟨z, lz, ez, ?_⟩ H3 s3
          unfold topT
          rw [if_neg el, lys]
          by_cases c4 : S - ((lb.length : Int) - 1) < z.1
          · rw [if_pos (by omega), if_pos (by omega)]
          · rw [if_neg (by omega), if_neg (by omega)]
        · refine fin _ _ ⟨z, lz, ez, ?_⟩ H3 s3
          unfold topT
          rw [if_neg el, lys, if_neg (by omega)]
      refine ite2 (fun c3 => ⟨sz (by decide), fun a ha => ?_⟩) (fun c3 => ⟨sz (by decide), fun a ha => ?_⟩)
      · have neb : lb ≠ [] := fun e => by rw [e] at lys; rw [List.length_eq_zero_iff.mp lys] at c3; simp at c3
        obtain ⟨e2, g2, m2⟩ := at_end nb neb
        have s1 := same_new ha (HO.tup [V.int 0, V.int 1])
        refine ⟨_, s1 _ _ hq, _, g2, _, rfl, _, _, s1 _ _ m2, by decide, wb.pos, bd_zero _, (bdc (n := 1) (by decide)).mono (by decide), bb.1.mono (by decide), bb.2.mono (by decide), fun r hr => ?_⟩
        have s2 := same_new hr (HO.tup [V.int (nsub (0, 1) (getN lb (lb.length - 1))).1, V.int (nsub (0, 1) (getN lb (lb.length - 1))).2])
        have s12 := s1.trans s2
        refine ⟨_, s12 _ _ hp, _, g1, _, rfl, _, _, s12 _ _ m1, nl.pos, lnz, nbd.1.mono (by decide), nbd.2.mono (by decide), ba.1.mono (by decide), ba.2.mono (by decide), fun t ht => ?_⟩
        exact last _ t _ lz ez (s12.trans (same_new ht _)) upd_same
      · have eb : lb = [] := by
          cases hl : lb with
          | nil => rfl
          | cons x l => rw [hl] at lys; cases hy : ys with
            | nil => rw [hy] at lys; simp at lys
            | cons _ _ => rw [hy] at c3; simp at c3
        exact last (0, 1) a _ low01 (by rw [eb, farQ_nil, val_01]) (same_new ha _) upd_same
    · obtain ⟨z, lz, ez⟩ := zex
      refine fin _ none ⟨z, lz, ez, ?_⟩ H (Same.refl H)
      unfold topT
      rw [if_neg (by omega), if_neg (by omega), lys]
theorem vc_top_for (h : sp_top_for K vs H Q E) : T_top_for K { nx := fun _ H' => Q .non H', rt := Q } (L2.start ["p", "q", "s"] vs) H := by
  obtain ⟨p, q, s, xs, ys, zs, la, lb, rfl, hp, hq, hs, na, nb, Ga, Gb, nea, k⟩ := h
  unfold T_top_for
  rwa [hs]
  exact ⟨xs, hp, ys, hq, la, na, lb, nb, Ga, Gb, nea, k⟩
theorem vc_l_due (h : sp_l_due K vs H Q E) : T_l_due K { nx := fun _ H' => Q .non H', rt := Q } (L2.start ["_law_p", "_law_q", "_law_s", "_law_kp", "_law_kq", "_law_ks", "_law_due_here", "_law_top", "_law_bottom"] vs) H := by
  obtain ⟨p, q, s, xs, ys, zs, la, lb, rfl, hp, hq, hs, na, nb, Ga, Gb, nea, k⟩ := h
  have lxs := na.length
  have lys := nb.length
  have a0 := List.length_pos_iff.mpr nea
  unfold T_l_due
  rwa [hp, hq, hs]
  unfold T_l_due_1
  rwa []
  have wa := getN_low Ga.low (la.length - 1)
  have wb := getN_low Gb.low (lb.length - 1)
  have lnz := last_ne Ga.nz nea
  have ba := getN_bdQ Ga (la.length - 1)
  have bb := getN_bdQ Gb (lb.length - 1)
  obtain ⟨e1, g1, m1⟩ := at_end na nea
  have lz : Low (redG (0 - (getN lb (lb.length - 1)).1 * (getN la (la.length - 1)).2) ((getN lb (lb.length - 1)).2 * (getN la (la.length - 1)).1)).1 (redG (0 - (getN lb (lb.length - 1)).1 * (getN la (la.length - 1)).2) ((getN lb (lb.length - 1)).2 * (getN la (la.length - 1)).1)).2 := redG_low (Int.mul_ne_zero (Int.ne_of_gt wb.pos) lnz)
  have ez : val (redG (0 - (getN lb (lb.length - 1)).1 * (getN la (la.length - 1)).2) ((getN lb (lb.length - 1)).2 * (getN la (la.length - 1)).1)) = farQ la lb := by
    rw [show 0 - (getN lb (lb.length - 1)).1 * (getN la (la.length - 1)).2 = (-(getN lb (lb.length - 1)).1) * (getN la (la.length - 1)).2 by grind, val_over wb.pos lnz wa.pos]
    unfold farQ
    congr 1
    unfold pwo val
    simp only [Rat.intCast_neg]
    grind
  have zex : ∃ z : Nu, Low z.1 z.2 ∧ val z = farQ la lb := ⟨_, lz, ez⟩
  have fin : ∀ (t : Int) (x7 x8 : Option V), (∃ z : Nu, Low z.1 z.2 ∧ val z = farQ la lb ∧ t = topT la lb ((zs.length : Int) - 1) z) → ∀ H3, Same H H3 → T_l_due_4 K { nx := fun _ H' => Q V.non H', rt := Q } [some (V.ref p), some (V.ref q), some (V.ref s), some (V.int ((xs.length : Int) - 1)), some (V.int ((ys.length : Int) - 1)), some (V.int ((zs.length : Int) - 1)), some (V.int t), x7, x8] H3 := fun t x7 x8 ⟨z, lz, ez, et⟩ H3 s3 => by
    unfold T_l_due_4
    rwa []
    have kk := k (nonI t) H3 s3 ⟨z, lz, ez, by rw [et]⟩
    unfold nonI at kk
    by_cases c : 0 ≤ t
    · rw [if_pos c] at kk; simp only [ge_iff_le, c, if_true]; exact kk
    · rw [if_neg c] at kk; simp only [ge_iff_le, c, if_false]; exact kk
  unfold T_l_due_2
  rwa []
  refine ite2 (fun c => ?_) (fun c => ?_)
  · obtain ⟨z, lz, ez⟩ := zex
    unfold T_l_due_b1_0
    rwa []
    unfold T_l_due_b1_1
    rwa []
    refine ite2 (fun c2 => ?_) (fun c2 => ?_) <;>
    · unfold T_l_due_3
      rwa []
      refine ite2 (fun c3 => absurd c3 (by omega)) (fun c3 => fin _ _ _ ⟨z, lz, ez, ?_⟩ H (Same.refl H))
      unfold topT
      rw [if_pos (by omega)]
      split <;> omega
  · unfold T_l_due_3
    rwa []
    refine ite2 (fun c2 => ?_) (fun c2 => ?_)
    · have el : ¬ lb.length + 1 < la.length := by omega
      have last : ∀ (z : Nu) (H3 : Hp), Low z.1 z.2 → val z = farQ la lb → Same H H3 → T_l_due_b2_2 K { nx := T_l_due_4 K { nx := fun x H' => Q V.non H', rt := Q }, rt := Q } [some (V.ref p), some (V.ref q), some (V.ref s), some (V.int ((xs.length : Int) - 1)), some (V.int ((ys.length : Int) - 1)), some (V.int ((zs.length : Int) - 1)), some (V.int ((zs.length : Int) - 1 - ((ys.length : Int) - 1))), some (V.int z.1), some (V.int z.2)] H3 := fun z H3 lz ez s3 => by
        unfold T_l_due_b2_2
        rwa []
        refine ite2 (fun c3 => ?_) (fun c3 => ?_)
        · refine ite2 (fun c4 => ?_) (fun c4 => ?_)
          · refine fin _ _ _ ⟨z, lz, ez, ?_⟩ H3 s3
            unfold topT
            rw [if_neg el, if_pos (by omega)]
          · refine fin _ _ _ ⟨z, lz, ez, ?_⟩ H3 s3
            unfold topT
            rw [if_neg el, if_neg (by omega), lys]
        · refine fin _ _ _ ⟨z, lz, ez, ?_⟩ H3 s3
          unfold topT
          rw [if_neg el, if_neg (by omega), lys]
      unfold T_l_due_b2_0
      rwa []
      refine ⟨sz (by decide), fun a ha => ?_⟩
      have s1 := same_new ha (HO.lst [V.int 0, V.int 1])
      unfold T_l_due_b2_1
      rwa []
      refine ⟨sz (by decide), fun a2 ha2 => ?_⟩
      have s2 := s1.trans (same_new ha2 (HO.tup []))
      have hq2 := s2 _ _ hq
      have hp2 := s2 _ _ hp
      refine neP hq2 (nb.tp (tpS s2)) (m := []) upd_same trivial (decide (lb = [])) (by simp) ?_
      refine ⟨_, rfl, ite2 (fun d => ?_) (fun d => ?_)⟩
      · have neb : lb ≠ [] := by simpa using d
        obtain ⟨e2, g2, m2⟩ := at_end nb neb
        have m12 := s2 _ _ m1
        have m22 := s2 _ _ m2
        have i0 : ∀ x y : Int, atI [V.int x, V.int y] 0 = some (.int x) := fun _ _ => rfl
        have i1 : ∀ x y : Int, atI [V.int x, V.int y] 1 = some (.int y) := fun _ _ => rfl
        refine ⟨_, hq2, _, g2, _, rfl, _, m22, _, i0 _ _, _, hp2, _, g1, _, rfl, _, m12, _, i1 _ _, _, rfl, _, rfl, mulOk (bb.1.mono (by decide)) (ba.2.mono (by decide)), ?_⟩
        refine ⟨_, hq2, _, g2, _, rfl, _, m22, _, i1 _ _, _, hp2, _, g1, _, rfl, _, m12, _, i0 _ _, _, rfl, _, rfl, mulOk (bb.2.mono (by decide)) (ba.1.mono (by decide)), Int.mul_ne_zero (Int.ne_of_gt wb.pos) lnz, fun r hr => ?_⟩
        exact last _ _ lz ez (s2.trans (same_new hr _))
      · have eb : lb = [] := by simpa using d
        exact last (0, 1) _ low01 (by rw [eb, farQ_nil, val_01]) s2
    · obtain ⟨z, lz, ez⟩ := zex
      refine fin _ _ _ ⟨z, lz, ez, ?_⟩ H (Same.refl H)
      unfold topT
      rw [if_neg (by omega), if_neg (by omega), lys]
theorem cvh {f g : Nat → Rat} {m : Nat} (hg : ∀ j, m ≤ j → g j = 0) : ∀ n k, n + m ≤ k + 1 → cv f g n k = 0
  | 0, _, _ => rfl
  | n + 1, k, h => by
    show cv f g n k + (if n ≤ k then f n * g (k - n) else 0) = 0
    rw [cvh hg n k (by omega), hg (k - n) (by omega)]
    split <;> grind
theorem cvt {f g : Nat → Rat} {m : Nat} (hg : ∀ j, m + 1 ≤ j → g j = 0) (n : Nat) : cv f g (n + 1) (n + m) = f n * g m := by
  show cv f g n (n + m) + (if n ≤ n + m then f n * g (n + m - n) else 0) = _
  rw [cvh hg n (n + m) (by omega), if_pos (by omega), show n + m - n = m by omega]
  grind
theorem cvz {f g : Nat → Rat} (hg : ∀ j, g j = 0) : ∀ n k, cv f g n k = 0
  | 0, _ => rfl
  | n + 1, k => by
    show cv f g n k + (if n ≤ k then f n * g (k - n) else 0) = 0
    rw [cvz hg n k, hg]
    split <;> grind
theorem natNe {n : Nat} (h : n ≠ 0) : (n : Rat) ≠ 0 := fun e => h (Rat.natCast_inj.mp (by rw [e]; rfl))
theorem len_of_ne {l : List Nu} {k : Nat} (h : pwo l k ≠ 0) : k < l.length := by
  rcases Nat.lt_or_ge k l.length with c | c
  · exact c
  · exact absurd (pv_end c) h
theorem top_ok {la lb lz ls : List Nu} (ha : AllLow la) (na : Nz la) (a0 : la ≠ []) (hb : AllLow lb) (nb : Nz lb) (hz : AllLow lz) (nz : Nz lz) (z0 : lz ≠ [])
    (hs : ∀ k, pwo ls k = cv (pwo la) (dv (pwo lz)) la.length k + 1 * cv (pwo lb) (pwo lz) lb.length k) {z : Nu} (lw : Low z.1 z.2) (ez : val z = farQ la lb) : (lz.length : Int) - 1 ≤ topT la lb ((ls.length : Int) - 1) z := by
  have A := pwo_last ha na a0
  have Z := pwo_last hz nz z0
  have la0 := List.length_pos_iff.mpr a0
  have lz0 := List.length_pos_iff.mpr z0
  have zend : ∀ j, lz.length ≤ j → pwo lz j = 0 := fun j hj => pv_end hj
  have dend : ∀ j, lz.length - 1 ≤ j → dv (pwo lz) j = 0 := fun j hj => by unfold dv; rw [zend (j + 1) (by omega)]; grind
  have r1 : 2 ≤ lz.length → cv (pwo la) (dv (pwo lz)) la.length (la.length + lz.length - 3) = pwo la (la.length - 1) * (((lz.length - 1 : Nat) : Rat) * pwo lz (lz.length - 1)) := fun h => by
    have e := cvt (f := pwo la) (g := dv (pwo lz)) (m := lz.length - 2) (fun j hj => dend j (by omega)) (la.length - 1)
    rw [show la.length - 1 + 1 = la.length by omega, show la.length - 1 + (lz.length - 2) = la.length + lz.length - 3 by omega] at e
    rw [e]
    unfold dv
    rw [show lz.length - 2 + 1 = lz.length - 1 by omega]
    congr 2
    rw [show lz.length - 1 = (lz.length - 2) + 1 by omega]
    push_cast
    rfl
  have r2 : lb ≠ [] → cv (pwo lb) (pwo lz) lb.length (lb.length + lz.length - 2) = pwo lb (lb.length - 1) * pwo lz (lz.length - 1) := fun h => by
    have lb0 := List.length_pos_iff.mpr h
    have e := cvt (f := pwo lb) (g := pwo lz) (m := lz.length - 1) (fun j hj => zend j (by omega)) (lb.length - 1)
    rw [show lb.length - 1 + 1 = lb.length by omega, show lb.length - 1 + (lz.length - 1) = lb.length + lz.length - 2 by omega] at e
    exact e
  unfold topT
  by_cases c1 : lb.length + 1 < la.length
  · rw [if_pos c1]
    by_cases c2 : lz.length = 1
    · split <;> omega
    · have n1 : pwo ls (la.length + lz.length - 3) ≠ 0 := by
        rw [hs, r1 (by omega), cvh zend _ _ (by omega)]
        have : ((lz.length - 1 : Nat) : Rat) ≠ 0 := natNe (by omega)
        grind
      have := len_of_ne n1
      split <;> omega
  · rw [if_neg c1]
    by_cases c2 : lb.length < la.length
    · by_cases c3 : lb = []
      · have b0 : lb.length = 0 := by rw [c3]; rfl
        have : lz.length ≤ ls.length + 1 := by
          by_cases c4 : lz.length = 1
          · omega
          · have n1 : pwo ls (la.length + lz.length - 3) ≠ 0 := by
              rw [hs, r1 (by omega), b0]
              show _ + 1 * 0 ≠ (0 : Rat)
              have : ((lz.length - 1 : Nat) : Rat) ≠ 0 := natNe (by omega)
              grind
            have := len_of_ne n1
            omega
        split <;> omega
      · have lb0 := List.length_pos_iff.mpr c3
        have co : pwo ls (lb.length + lz.length - 2) = (pwo la (la.length - 1) * ((lz.length - 1 : Nat) : Rat) + pwo lb (lb.length - 1)) * pwo lz (lz.length - 1) := by
          rw [hs, r2 c3]
          by_cases c4 : lz.length = 1
          · rw [cvz (fun j => dend j (by omega)), c4]
            rw [Nat.sub_self, show ((0 : Nat) : Rat) = 0 from rfl]
            grind
          · rw [show lb.length + lz.length - 2 = la.length + lz.length - 3 by omega, r1 (by omega)]
            grind
        by_cases c5 : pwo la (la.length - 1) * ((lz.length - 1 : Nat) : Rat) + pwo lb (lb.length - 1) = 0
        · have e : val z = val (((lz.length - 1 : Nat) : Int), 1) := by
            rw [ez]
            unfold farQ val
            show _ = (((lz.length - 1 : Nat) : Int) : Rat) / ((1 : Int) : Rat)
            rw [Rat.intCast_natCast, show ((1 : Int) : Rat) = 1 from rfl]
            grind
          have zz := val_inj lw ⟨show (0 : Int) < 1 by decide, by simp⟩ e
          have z1 : z.1 = ((lz.length - 1 : Nat) : Int) := by rw [zz]
          have z2 : z.2 = 1 := by rw [zz]
          split <;> omega
        · have n1 : pwo ls (lb.length + lz.length - 2) ≠ 0 := by rw [co]; grind
          have := len_of_ne n1
          split <;> omega
    · rw [if_neg (by omega)]
      have c3 : lb ≠ [] := fun e => c2 (by rw [e]; exact la0)
      have lb0 := List.length_pos_iff.mpr c3
      have B := pwo_last hb nb c3
      have n1 : pwo ls (lb.length + lz.length - 2) ≠ 0 := by
        rw [hs, r2 c3, cvh dend _ _ (by omega)]
        grind
      have := len_of_ne n1
      omega
theorem TopIs.uniq {la lb : List Nu} {S : Int} {v w : V} (h1 : TopIs la lb S v) (h2 : TopIs la lb S w) : v = w := by
  obtain ⟨z, lz, ez, rfl⟩ := h1
  obtain ⟨y, ly, ey, rfl⟩ := h2
  rw [val_inj lz ly (ez.trans ey.symm)]
theorem poly_snoc {ls : List Nu} {q : Nu} (hS : ∀ q ∈ ls, Sm q) (hq : Sm q) (q0 : q.1 ≠ 0) : Nz (ls ++ [q]) ∧ trim (ls ++ [q]) = ls ++ [q] ∧ Gq 7 3 (ls ++ [q]) := by
  have n : Nz (ls ++ [q]) := fun z hz => by
    rw [List.getLast?_append, List.getLast?_singleton] at hz
    obtain rfl := Option.some.inj hz
    exact q0
  refine ⟨n, trim_id n, gq_sm (fun z hz => ?_) n⟩
  rcases List.mem_append.mp hz with h | h
  · exact hS z h
  · rw [List.mem_singleton.mp h]; exact hq
theorem vc_law (h : sp_law K vs H Q E) : T_law K { nx := fun _ H' => Q .non H', rt := Q } (L2.start ["_law_script", "_law_draws_here", "_law_p", "_law_q", "_law_z", "_law_made", "_law_s", "_law_found", "_law_due_here"] vs) H := by
  obtain ⟨a, ns, rfl, hs, n63, k⟩ := h
  unfold T_law
  rwa []
  refine ⟨ns, 40, rfl, hs, n63, by decide, fun r ds H1 s1 hr ld hd => ?_⟩
  have at' : ∀ (i : Nat), i < 40 → ∃ d : Int, atI (ds.map V.int) (i : Int) = some (.int d) ∧ 0 ≤ d ∧ d < 1000 := fun i hi => hd.at rfl (by omega)
  obtain ⟨d0, g0, a0, b0⟩ := at' 0 (by decide)
  obtain ⟨d14, g14, a14, b14⟩ := at' 14 (by decide)
  obtain ⟨d26, g26, a26, b26⟩ := at' 26 (by decide)
  have go8 : ∀ (p q z s : Addr) (la lb lz ls : List Nu) (made : Bool) (H3 : Hp), Pl H3 p la → Pl H3 q lb → Pl H3 z lz → Pl H3 s ls → Gq 7 3 la → Gq 7 3 lb → Gq 7 3 lz → la ≠ [] → (made = true → ∀ k, pwo ls k = cv (pwo la) (dv (pwo lz)) la.length k + 1 * cv (pwo lb) (pwo lz) lb.length k) →
      T_law_8 K { nx := fun x H' => Q V.non H', rt := Q } [some (V.ref a), some (V.ref r), some (V.ref p), some (V.ref q), some (V.ref z), some (V.bl made), some (V.ref s), none, none] H3 := fun p q z s la lb lz ls made H3 ⟨xs, hp, na⟩ ⟨ys, hq, nb⟩ ⟨us, hz, nz⟩ ⟨ws, hs, nS⟩ Ga Gb Gz nea hm => by
    unfold T_law_8
    rwa []
    refine ⟨xs, hp, ys, hq, ws, hs, la, na, lb, nb, Ga, Gb, nea, fun v H4 s4 hv => ?_⟩
    unfold T_law_9
    rwa []
    refine ⟨xs, s4 _ _ hp, ys, s4 _ _ hq, ws, s4 _ _ hs, la, na.tp (tpS s4), lb, nb.tp (tpS s4), Ga, Gb, nea, fun v' H5 s5 hv' => ?_⟩
    obtain rfl := hv.uniq hv'
    have lus := nz.length
    have hz5 := s5 _ _ (s4 _ _ hz)
    obtain ⟨y, ly, ey, rfl⟩ := hv
    rw [nS.length] at *
    have key : made = true → lz ≠ [] → (lz.length : Int) - 1 ≤ topT la lb ((ls.length : Int) - 1) y := fun e z0 => top_ok Ga.low Ga.nz nea Gb.low Gb.nz Gz.low Gz.nz z0 (hm e) ly ey
    have zn : lz ≠ [] → 0 < lz.length := fun h => List.length_pos_iff.mpr h
    generalize topT la lb ((ls.length : Int) - 1) y = t at key ⊢
    unfold T_law_10
    by_cases c : 0 ≤ t
    · rw [show nonI t = .int t from if_pos c]
      rwa []
      unfold T_law_11
      rwa []
      unfold T_law_12
      rwa [hz5]
      refine ite2 (fun _ => k _) (fun e => ?_)
      have e' : made = true := by cases made <;> simp_all
      have : decide ((us.length : Int) - 1 ≤ t) = true := by
        rw [decide_eq_true_eq, lus]
        by_cases z0 : lz = []
        · rw [z0]; show (0 : Int) - 1 ≤ t; omega
        · exact key e' z0
      rw [this]
      exact k _
    · rw [show nonI t = .non from if_neg c]
      rwa []
      refine ite2 (fun _ => k _) (fun e => ⟨sz (by decide), fun a6 h6 => ?_⟩)
      have e' : made = true := by cases made <;> simp_all
      have s6 := same_new h6 (HO.tup [])
      have ez : lz = [] := by
        by_cases z0 : lz = []
        · exact z0
        · have := key e' z0; have := zn z0; omega
      exact eqP (s6 _ _ hz5) (nz.tp (tpS ((s4.trans s5).trans s6))) (m := []) upd_same trivial true (by simp [ez]) (k _)
  unfold T_law_1
  rwa [hr]
  refine ⟨_, g0, d0, rfl, by decide, fun a1 h1 => ?_⟩
  obtain ⟨c1, e1, l1, su⟩ := cutV_sub ds (some 1) (some (1 + d0 % 4))
  have m0 := Int.emod_nonneg d0 (show (4 : Int) ≠ 0 by decide)
  have m1 := Int.emod_lt_of_pos d0 (show (0 : Int) < 4 by decide)
  have hm := cutV_range (xs := ds.map V.int) (a := 1) (b := 1 + d0 % 4) (by decide) (by omega)
  rw [e1] at hm ⊢
  rw [List.length_map] at hm
  have t1 := same_new h1 (HO.lst (c1.map V.int))
  refine ⟨⟨_, SqL.of upd_same⟩, comp_nums upd_same (hd.sub su) (by omega) fun zs ls H2 s2 hN hS hl a2 h2 => ⟨sz (by decide), fun a3 h3 => ⟨sz (by decide), fun a4 h4 => ?_⟩⟩⟩
  have t2 := same_new h2 (HO.lst zs)
  have t3 := same_new h3 (HO.tup [V.int 1, V.int 1])
  have t4 := same_new h4 (HO.lst [V.ref a3])
  refine ⟨_, rfl, _, t4 _ _ (t3 _ _ upd_same), sz (by rw [hN.length]; omega), fun a5 h5 => ?_⟩
  have t5 := same_new h5 (HO.lst (zs ++ [V.ref a3]))
  obtain ⟨nl, el, Ga⟩ := poly_snoc hS (show Sm (1, 1) from ⟨low11, by decide, by decide⟩) (by decide)
  refine ⟨ls ++ [(1, 1)], (hN.tp (tpS (((t2.trans t3).trans t4).trans t5))).append (Nums.one ⟨a3, rfl, t5 _ _ (t4 _ _ upd_same)⟩), by rw [List.length_append]; show ls.length + 1 ≤ _; omega, fun p xs H6 s6 hp hx => ?_⟩
  rw [el] at hx
  have S6 := ((((((t1.trans s2).trans t2).trans t3).trans t4).trans t5).trans s6)
  have nea : ls ++ [(1, 1)] ≠ [] := by simp
  have la4 : (ls ++ [((1 : Int), (1 : Int))]).length ≤ 4 := by rw [List.length_append]; show ls.length + 1 ≤ _; omega
  generalize ls ++ [((1 : Int), (1 : Int))] = la at hx Ga nea la4
  have hr6 := S6 _ _ hr
  have rowD : ∀ (lo : Int), ∃ c2 : List Int, cutV (ds.map V.int) (some lo) none = c2.map V.int ∧ Dr c2 ∧ c2.length ≤ 100 := fun lo => by
    obtain ⟨c2, e2, l2, su2⟩ := cutV_sub ds (some lo) none
    exact ⟨c2, e2, hd.sub su2, by omega⟩
  have go4 : ∀ (q : Addr) (lb : List Nu) (H3 : Hp), Same H6 H3 → Pl H3 q lb → Gq 7 3 lb → lb.length ≤ 20 → T_law_4 K { nx := fun x H' => Q V.non H', rt := Q } [some (V.ref a), some (V.ref r), some (V.ref p), some (V.ref q), none, none, none, none, none] H3 := fun q lb H3 s3 ⟨ys, hq, nb⟩ Gb lb9 => by
    have hr3 := s3 _ _ hr6
    have hp3 := s3 _ _ hp
    obtain ⟨c2, e2, dr2, l2⟩ := rowD 15
    unfold T_law_4
    rwa [hr3]
    intro a7 h7
    have s7 := same_new h7 (HO.lst (cutV (ds.map V.int) (some 15) none))
    have z1 := Int.emod_lt_of_pos (d0 / 60) (show (0 : Int) < 11 by decide)
    refine ⟨_, s7 _ _ hr3, _, g0, d0, rfl, by decide, by decide, c2, e2, dr2, l2, Int.emod_nonneg _ (by decide), fun z lz H4 s4 ⟨us, hz, nz⟩ Gz lz9 => ?_⟩
    have S4 := s7.trans s4
    have hr4 := S4 _ _ hr3
    unfold T_law_5
    rwa [hr4]
    refine ⟨_, g26, d26, rfl, by decide, ?_⟩
    obtain ⟨c3, e3, dr3, l3⟩ := rowD 27
    unfold T_law_6
    rwa [hr4]
    intro a8 h8
    have s8 := same_new h8 (HO.lst (cutV (ds.map V.int) (some 27) none))
    refine ⟨_, s8 _ _ hr4, _, g26, d26, rfl, by decide, by decide, c3, e3, dr3, l3, Int.emod_nonneg _ (by decide), fun s ls H5 s5 ⟨ws, hs', nS⟩ Gs ls9 => ?_⟩
    have S5 := s8.trans s5
    have hz5 := S5 _ _ hz
    have hq5 := S5 _ _ (S4 _ _ hq)
    have hp5 := S5 _ _ (S4 _ _ hp3)
    have T5 : Tp H3 H5 := tpS (S4.trans S5)
    have na5 : Nums H5 xs la := hx.tp (tpS (s3.trans (S4.trans S5)))
    have nb5 := nb.tp T5
    have nz5 := nz.tp (tpS S5)
    unfold T_law_7
    rwa []
    have P5 : Pl H5 z lz := ⟨us, hz5, nz5⟩
    refine ite2 (fun c => ?_) (fun c => go8 p q z s la lb lz ls _ H5 ⟨xs, hp5, na5⟩ ⟨ys, hq5, nb5⟩ P5 ⟨ws, hs', nS⟩ Ga Gb Gz nea (fun e => absurd (of_decide_eq_true e) c))
    refine ⟨_, hz5, lz, nz5, 7, 3, Gz, by omega, by decide, by decide, fun r1 R1 H7 u1 ⟨v1, w1, n1⟩ G1 _ f1 => ?_⟩
    refine ⟨_, u1 _ _ hp5, _, w1, la, na5.tp (tpS u1), R1, n1, 7, 3, Ga, 12, 3, G1, by omega, by omega, by decide, by decide, by decide, by decide, fun r2 R2 H8 u2 ⟨v2, w2, n2⟩ G2 _ f2 => ?_⟩
    have u12 := u1.trans u2
    refine ⟨_, u12 _ _ hq5, _, u12 _ _ hz5, lb, nb5.tp (tpS u12), lz, nz5.tp (tpS u12), 7, 3, Gb, 7, 3, Gz, by omega, by omega, by decide, by decide, by decide, by decide, fun r3 R3 H9 u3 ⟨v3, w3, n3⟩ G3 _ f3 => ?_⟩
    have G2' := G2.mono (b' := 40) (c' := 6) (by omega) (by omega)
    have G3' := G3.mono (b' := 40) (c' := 6) (by omega) (by omega)
    obtain ⟨M, OM1, OM2, bM, q1, q2⟩ := both_ov G2' G3'
    refine ⟨_, u3 _ _ w2, _, w3, R2, n2.tp (tpS u3), R3, n3, G2.low, G3.low, M, OM1, OM2, 46, 12, bM, q1, q2, by decide, by decide, by omega, by omega, fun r4 R4 H10 u4 P4 G4 _ f4 => ?_⟩
    have u14 := (u12.trans u3).trans u4
    refine go8 p q z r4 la lb lz R4 _ H10 ⟨xs, u14 _ _ hp5, na5.tp (tpS u14)⟩ ⟨ys, u14 _ _ hq5, nb5.tp (tpS u14)⟩ ⟨us, u14 _ _ hz5, nz5.tp (tpS u14)⟩ P4 Ga Gb Gz nea (fun _ k => ?_)
    rw [f4, f2, f3, show pwo R1 = dv (pwo lz) from funext f1]
  obtain ⟨c2, e2, dr2, l2⟩ := rowD 5
  unfold T_law_2
  rwa [hr6]
  intro a7 h7
  have s7 := same_new h7 (HO.lst (cutV (ds.map V.int) (some 5) none))
  have hr7 := s7 _ _ hr6
  have := Int.emod_lt_of_pos (d0 / 4) (show (0 : Int) < 5 by decide)
  refine ⟨_, hr7, _, g0, d0, rfl, by decide, by decide, c2, e2, dr2, l2, Int.emod_nonneg _ (by decide), fun q lb H8 s8 hq Gb lb5 => ?_⟩
  have S8 := s7.trans s8
  have hr8 := S8 _ _ hr6
  have hp8 := S8 _ _ hp
  have lxs := hx.length
  unfold T_law_3
  rwa [hr8, hp8]
  refine ⟨_, g0, d0, rfl, by decide, by decide, ite2 (fun _ => ite2 (fun c => ?_) (fun _ => go4 q lb H8 S8 hq Gb (by omega))) (fun _ => go4 q lb H8 S8 hq Gb (by omega))⟩
  intro a9 h9
  obtain ⟨c3, e3, l3, su3⟩ := cutV_sub ds (some 10) (some (9 + ((xs.length : Int) - 1)))
  have hm3 := cutV_range (xs := ds.map V.int) (a := 10) (b := 9 + ((xs.length : Int) - 1)) (by decide) (by omega)
  rw [e3] at hm3 ⊢
  rw [List.length_map] at hm3
  have t9 := same_new h9 (HO.lst (c3.map V.int))
  refine ⟨⟨_, SqL.of upd_same⟩, comp_nums upd_same (hd.sub su3) (by omega) fun zs ls H10 s10 hN hS hl a10 h10 => ?_⟩
  have t10 := same_new h10 (HO.lst zs)
  have S10 := (t9.trans s10).trans t10
  refine ⟨_, S10 _ _ hr8, _, g14, d14, rfl, by decide, by decide, fun a11 h11 => ⟨sz (by decide), fun a12 h12 => ?_⟩⟩
  have q0 := Int.emod_nonneg d14 (show (9 : Int) ≠ 0 by decide)
  have q1 := Int.emod_lt_of_pos d14 (show (0 : Int) < 9 by decide)
  have t11 := same_new h11 (HO.tup [V.int (redG (-1 - d14 % 9) 1).1, V.int (redG (-1 - d14 % 9) 1).2])
  have t12 := same_new h12 (HO.lst [V.ref a11])
  have smq : Sm (redG (-1 - d14 % 9) 1) := sm_of (by omega) (.inl rfl)
  have nzq : (redG (-1 - d14 % 9) 1).1 ≠ 0 := by
    rw [redG_pos (by decide)]
    exact red_ne (by decide) (by omega)
  obtain ⟨nl, el, Gb2⟩ := poly_snoc hS smq nzq
  refine ⟨_, rfl, _, t12 _ _ (t11 _ _ upd_same), sz (by rw [hN.length]; omega), fun a13 h13 => ?_⟩
  have t13 := same_new h13 (HO.lst (zs ++ [V.ref a11]))
  refine ⟨ls ++ [redG (-1 - d14 % 9) 1], (hN.tp (tpS (((t10.trans t11).trans t12).trans t13))).append (Nums.one ⟨a11, rfl, t13 _ _ (t12 _ _ upd_same)⟩), by rw [List.length_append]; show ls.length + 1 ≤ _; omega, fun q2 ys2 H14 s14 hq2 hy2 => ?_⟩
  rw [el] at hy2
  exact go4 q2 _ H14 ((((S8.trans S10).trans t11).trans t12).trans (t13.trans s14)) ⟨ys2, hq2, hy2⟩ Gb2 (by rw [List.length_append]; show ls.length + 1 ≤ _; omega)
end Bs
namespace Bs
open PySem PySem.Spec PyProof.Rows L2
set_option maxHeartbeats 4000000
open Hd
structure Bl (K : W.Frag) (mg : Str → Option Value) : Prop where
  abs : mg "abs" = none
  len : mg "len" = none
  enumerate : mg "enumerate" = none
  tuple : mg "tuple" = none
  max : mg "max" = none
  range : mg "range" = none
  int : mg "int" = none
  isinstance : mg "isinstance" = none
  bool : mg "bool" = none
section
variable {P : Program} {w : World} {K : W.Frag} {mg : Str → Option Value} {base : Heap} {f : Addr} {fd : FuncData}
theorem sc_common_divisor : FnScope ["one", "other", "rest"] ["one", "other"] (defScope s_common_divisor) := ⟨rfl, rfl, rfl, by decide +kernel, rfl, by decide +kernel, by decide +kernel⟩
theorem ok_common_divisor (F : Fun K "common_divisor" "common_divisor" s_common_divisor f fd) (B : Bl K mg)  : FnOk P w K mg base CX0 1 f fd ["one", "other"] (sp_common_divisor K) := by
  refine F.ok sc_common_divisor (fun vs H Q E h => ?_) (fun cdv A outer s H vs Q E hr h => ?_)
  · obtain ⟨_, _, rfl, _⟩ := h
    rfl
  have nd := sc_common_divisor.nd
  have hu := hr.units0
  have hu64 := hr.units
  exact ⟨T_common_divisor K, (pss_cons (ps_while PassesOwn.never (pt_cmpR op_ne (pv 1) pe_int (nomark _)) (pss_cons (ps_set (i := 2) nd rfl (Or.inl rfl) (pe_op op_modN (pv 0) (pv 1)))
    (pss_cons (ps_set (i := 0) nd rfl (Or.inl rfl) (pv 1))
    (pss_one (ps_set (i := 1) nd rfl (Or.inl rfl) (pv 2))))))
    (pss_one (ps_ret (pe_callB call_absB rfl B.abs bt_abs (pa_cons (pv 0) pa_nil))))), vc_common_divisor h⟩
theorem sc_row_times : FnScope ["row", "other", "result", "place", "whole", "step", "factor"] ["row", "other"] (defScope s_row_times) := ⟨rfl, rfl, rfl, by decide +kernel, rfl, by decide +kernel, by decide +kernel⟩
theorem ok_row_times (F : Fun K "row_times" "row_times" s_row_times f fd) (B : Bl K mg)  : FnOk P w K mg base CX0 1 f fd ["row", "other"] (sp_row_times K) := by
  refine F.ok sc_row_times (fun vs H Q E h => ?_) (fun cdv A outer s H vs Q E hr h => ?_)
  · obtain ⟨_, _, _, _, _, _, rfl, _⟩ := h
    rfl
  have nd := sc_row_times.nd
  have hu := hr.units0
  have hu64 := hr.units
  exact ⟨T_row_times K, (pss_cons (ps_if (PW.pt (pw_or (pt_not (pt_truL (pv 0) (fun _ => rfl))) (pw_or1 (pt_not (pt_truL (pv 1) (fun _ => rfl)))))) (pss_one (ps_ret (pe_lst pa_nil))) pss_nil)
    (pss_cons (ps_set (i := 2) nd rfl (Or.inl rfl) (pe_op op_rep (pe_lst (pa_cons pe_int pa_nil)) (pe_op op_sub (pe_op op_add (pe_callB call_lenL rfl B.len bt_len (pa_cons (pv 0) pa_nil)) (pe_callB call_lenL rfl B.len bt_len (pa_cons (pv 1) pa_nil))) pe_int)))
    (pss_cons (ps_for PassesOwn.never rfl (pi_enumL rfl B.enumerate (pa_cons (pv 0) pa_nil)) (pg_tupH rfl (pgs_cons (pg_name (i := 3) nd rfl (Or.inl rfl)) (pgs_cons (pg_name (i := 4) nd rfl (Or.inl rfl)) pgs_nil))) (pss_one (ps_if (pt_cmpR op_ne (pv 4) pe_int (nomark _)) (pss_one (ps_for PassesOwn.never rfl (pi_enumL rfl B.enumerate (pa_cons (pv 1) pa_nil)) (pg_tupH rfl (pgs_cons (pg_name (i := 5) nd rfl (Or.inl rfl)) (pgs_cons (pg_name (i := 6) nd rfl (Or.inl rfl)) pgs_nil))) (pss_one (ps_augS (pv 2) (pe_op op_add (pv 3) (pv 5)) get_lstH (pe_op op_mulB (pv 4) (pv 6)) iop_add set_list)))) pss_nil)))
    (pss_one (ps_ret (pv 2)))))), vc_row_times h⟩
theorem sc_ratio : FnScope ["top", "bottom", "shared"] ["top", "bottom"] (defScope s_ratio) := ⟨rfl, rfl, rfl, by decide +kernel, rfl, by decide +kernel, by decide +kernel⟩
theorem ok_ratio (F : Fun K "ratio" "ratio" s_ratio f fd) (B : Bl K mg) (c_common_divisor : Cal P w K mg base 1 "common_divisor" ["one", "other"] (sp_common_divisor K)) : FnOk P w K mg base CX0 2 f fd ["top", "bottom"] (sp_ratio K) := by
  refine F.ok sc_ratio (fun vs H Q E h => ?_) (fun cdv A outer s H vs Q E hr h => ?_)
  · obtain ⟨_, _, rfl, _⟩ := h
    rfl
  have nd := sc_ratio.nd
  have hu := hr.units0
  have hu64 := hr.units
  exact ⟨T_ratio K, (pss_cons (ps_set (i := 2) nd rfl (Or.inl rfl) (c_common_divisor.pe hr (by decide) rfl (pa_cons (pv 0) (pa_cons (pv 1) pa_nil))))
    (pss_cons (ps_if (pt_cmpR op_lt (pv 1) pe_int (nomark _)) (pss_one (ps_set (i := 2) nd rfl (Or.inl rfl) (pe_un un_neg (pv 2)))) pss_nil)
    (pss_one (ps_ret (pe_tup (pa_cons (pe_op op_fdivS (pv 0) (pv 2)) (pa_cons (pe_op op_fdivS (pv 1) (pv 2)) pa_nil))))))), vc_ratio h⟩
theorem sc_plus : FnScope ["one", "other"] ["one", "other"] (defScope s_plus) := ⟨rfl, rfl, rfl, by decide +kernel, rfl, by decide +kernel, by decide +kernel⟩
theorem ok_plus (F : Fun K "plus" "plus" s_plus f fd) (B : Bl K mg) (c_ratio : Cal P w K mg base 2 "ratio" ["top", "bottom"] (sp_ratio K)) : FnOk P w K mg base CX0 3 f fd ["one", "other"] (sp_plus K) := by
  refine F.ok sc_plus (fun vs H Q E h => ?_) (fun cdv A outer s H vs Q E hr h => ?_)
  · obtain ⟨_, _, _, _, _, _, rfl, _⟩ := h
    rfl
  have nd := sc_plus.nd
  have hu := hr.units0
  have hu64 := hr.units
  exact ⟨T_plus K, (pss_one (ps_ret (c_ratio.pe hr (by decide) rfl (pa_cons (pe_op op_add (pe_op op_mulB (pe_ix ix_tupH (pv 0) pe_int (fun _ _ => rfl)) (pe_ix ix_tupH (pv 1) pe_int (fun _ _ => rfl))) (pe_op op_mulB (pe_ix ix_tupH (pv 1) pe_int (fun _ _ => rfl)) (pe_ix ix_tupH (pv 0) pe_int (fun _ _ => rfl)))) (pa_cons (pe_op op_mulB (pe_ix ix_tupH (pv 0) pe_int (fun _ _ => rfl)) (pe_ix ix_tupH (pv 1) pe_int (fun _ _ => rfl))) pa_nil))))), vc_plus h⟩
theorem sc_minus : FnScope ["one", "other"] ["one", "other"] (defScope s_minus) := ⟨rfl, rfl, rfl, by decide +kernel, rfl, by decide +kernel, by decide +kernel⟩
theorem ok_minus (F : Fun K "minus" "minus" s_minus f fd) (B : Bl K mg) (c_ratio : Cal P w K mg base 2 "ratio" ["top", "bottom"] (sp_ratio K)) : FnOk P w K mg base CX0 3 f fd ["one", "other"] (sp_minus K) := by
  refine F.ok sc_minus (fun vs H Q E h => ?_) (fun cdv A outer s H vs Q E hr h => ?_)
  · obtain ⟨_, _, _, _, _, _, rfl, _⟩ := h
    rfl
  have nd := sc_minus.nd
  have hu := hr.units0
  have hu64 := hr.units
  exact ⟨T_minus K, (pss_one (ps_ret (c_ratio.pe hr (by decide) rfl (pa_cons (pe_op op_sub (pe_op op_mulB (pe_ix ix_tupH (pv 0) pe_int (fun _ _ => rfl)) (pe_ix ix_tupH (pv 1) pe_int (fun _ _ => rfl))) (pe_op op_mulB (pe_ix ix_tupH (pv 1) pe_int (fun _ _ => rfl)) (pe_ix ix_tupH (pv 0) pe_int (fun _ _ => rfl)))) (pa_cons (pe_op op_mulB (pe_ix ix_tupH (pv 0) pe_int (fun _ _ => rfl)) (pe_ix ix_tupH (pv 1) pe_int (fun _ _ => rfl))) pa_nil))))), vc_minus h⟩
theorem sc_times : FnScope ["one", "other"] ["one", "other"] (defScope s_times) := ⟨rfl, rfl, rfl, by decide +kernel, rfl, by decide +kernel, by decide +kernel⟩
theorem ok_times (F : Fun K "times" "times" s_times f fd) (B : Bl K mg) (c_ratio : Cal P w K mg base 2 "ratio" ["top", "bottom"] (sp_ratio K)) : FnOk P w K mg base CX0 3 f fd ["one", "other"] (sp_times K) := by
  refine F.ok sc_times (fun vs H Q E h => ?_) (fun cdv A outer s H vs Q E hr h => ?_)
  · obtain ⟨_, _, _, _, _, _, rfl, _⟩ := h
    rfl
  have nd := sc_times.nd
  have hu := hr.units0
  have hu64 := hr.units
  exact ⟨T_times K, (pss_one (ps_ret (c_ratio.pe hr (by decide) rfl (pa_cons (pe_op op_mulB (pe_ix ix_tupH (pv 0) pe_int (fun _ _ => rfl)) (pe_ix ix_tupH (pv 1) pe_int (fun _ _ => rfl))) (pa_cons (pe_op op_mulB (pe_ix ix_tupH (pv 0) pe_int (fun _ _ => rfl)) (pe_ix ix_tupH (pv 1) pe_int (fun _ _ => rfl))) pa_nil))))), vc_times h⟩
theorem sc_over : FnScope ["one", "other"] ["one", "other"] (defScope s_over) := ⟨rfl, rfl, rfl, by decide +kernel, rfl, by decide +kernel, by decide +kernel⟩
theorem ok_over (F : Fun K "over" "over" s_over f fd) (B : Bl K mg) (c_ratio : Cal P w K mg base 2 "ratio" ["top", "bottom"] (sp_ratio K)) : FnOk P w K mg base CX0 3 f fd ["one", "other"] (sp_over K) := by
  refine F.ok sc_over (fun vs H Q E h => ?_) (fun cdv A outer s H vs Q E hr h => ?_)
  · obtain ⟨_, _, _, _, _, _, rfl, _⟩ := h
    rfl
  have nd := sc_over.nd
  have hu := hr.units0
  have hu64 := hr.units
  exact ⟨T_over K, (pss_one (ps_ret (c_ratio.pe hr (by decide) rfl (pa_cons (pe_op op_mulB (pe_ix ix_tupH (pv 0) pe_int (fun _ _ => rfl)) (pe_ix ix_tupH (pv 1) pe_int (fun _ _ => rfl))) (pa_cons (pe_op op_mulB (pe_ix ix_tupH (pv 0) pe_int (fun _ _ => rfl)) (pe_ix ix_tupH (pv 1) pe_int (fun _ _ => rfl))) pa_nil))))), vc_over h⟩
theorem sc_poly : FnScope ["row", "many"] ["row"] (defScope s_poly) := ⟨rfl, rfl, rfl, by decide +kernel, rfl, by decide +kernel, by decide +kernel⟩
theorem ok_poly (F : Fun K "poly" "poly" s_poly f fd) (B : Bl K mg)  : FnOk P w K mg base CX0 1 f fd ["row"] (sp_poly K) := by
  refine F.ok sc_poly (fun vs H Q E h => ?_) (fun cdv A outer s H vs Q E hr h => ?_)
  · obtain ⟨_, _, _, rfl, _⟩ := h
    rfl
  have nd := sc_poly.nd
  have hu := hr.units0
  have hu64 := hr.units
  exact ⟨T_poly K, (pss_cons (ps_set (i := 1) nd rfl (Or.inl rfl) (pe_callB call_lenL rfl B.len bt_len (pa_cons (pv 0) pa_nil)))
    (pss_cons (ps_while PassesOwn.never (PW.pt (pw_and (pt_cmpR op_gt (pv 1) pe_int (nomark _)) (pw_and1 (pt_cmpR op_eq (pe_ix ix_tupH (pe_ix ix_lstH (pv 0) (pe_op op_sub (pv 1) pe_int) (fun _ _ => rfl)) pe_int (fun _ _ => rfl)) pe_int (nomark _))))) (pss_one (ps_aug (i := 1) nd rfl (Or.inl rfl) pe_int iop_sub)))
    (pss_one (ps_ret (pe_callTy call_tupL rfl B.tuple bt_tuple (pa_cons (pe_slice sl_lstH (pv 0) po_none (po_some (pv 1))) pa_nil)))))), vc_poly h⟩
theorem sc_degree : FnScope ["P"] ["P"] (defScope s_degree) := ⟨rfl, rfl, rfl, by decide +kernel, rfl, by decide +kernel, by decide +kernel⟩
theorem ok_degree (F : Fun K "degree" "degree" s_degree f fd) (B : Bl K mg)  : FnOk P w K mg base CX0 1 f fd ["P"] (sp_degree K) := by
  refine F.ok sc_degree (fun vs H Q E h => ?_) (fun cdv A outer s H vs Q E hr h => ?_)
  · obtain ⟨_, _, rfl, _⟩ := h
    rfl
  have nd := sc_degree.nd
  have hu := hr.units0
  have hu64 := hr.units
  exact ⟨T_degree K, (pss_one (ps_ret (pe_op op_sub (pe_callB call_lenT rfl B.len bt_len (pa_cons (pv 0) pa_nil)) pe_int))), vc_degree h⟩
theorem sc_cleared : FnScope ["P", "bottom", "number"] ["P"] (defScope s_cleared) := ⟨rfl, rfl, rfl, by decide +kernel, rfl, by decide +kernel, by decide +kernel⟩
theorem ok_cleared (F : Fun K "cleared" "cleared" s_cleared f fd) (B : Bl K mg) (c_common_divisor : Cal P w K mg base 1 "common_divisor" ["one", "other"] (sp_common_divisor K)) : FnOk P w K mg base CX0 2 f fd ["P"] (sp_cleared K) := by
  refine F.ok sc_cleared (fun vs H Q E h => ?_) (fun cdv A outer s H vs Q E hr h => ?_)
  · obtain ⟨_, _, _, _, rfl, _⟩ := h
    rfl
  have nd := sc_cleared.nd
  have hu := hr.units0
  have hu64 := hr.units
  exact ⟨T_cleared K, (pss_cons (ps_set (i := 1) nd rfl (Or.inr rfl) pe_int)
    (pss_cons (ps_for PassesOwn.never rfl (pi_tup (pv 0)) (pg_name (i := 2) nd rfl (Or.inl rfl)) (pss_one (ps_aug (i := 1) nd rfl (Or.inr rfl) (pe_op op_fdivR (pe_ix ix_tupH (pv 2) pe_int (fun _ _ => rfl)) (c_common_divisor.pe hr (by decide) rfl (pa_cons (pv 1) (pa_cons (pe_ix ix_tupH (pv 2) pe_int (fun _ _ => rfl)) pa_nil)))) iop_mulB)))
    (pss_one (ps_ret (pe_tup (pa_cons (pe_comp (N := ["number", "bottom"]) (capt := [none, some 1]) rfl (BlkOk.of rfl rfl rfl rfl (List.forall_mem_singleton.mpr rfl) rfl rfl rfl) (pi_tup (pv 0)) (fun _ _ _ _ => (pg_name (i := 0) (show (["number", "bottom"] : List PySem.Str).Nodup by decide +kernel) rfl (Or.inl rfl))) (fun _ _ _ _ => (pe_op op_mulB (pe_ix ix_tupH (pv 0) pe_int (fun _ _ => rfl)) (pe_op op_fdivR (pv 1) (pe_ix ix_tupH (pv 0) pe_int (fun _ _ => rfl)))))) (pa_cons (pv 1) pa_nil))))))), vc_cleared h⟩
theorem sc_uncleared : FnScope ["row", "bottom"] ["row", "bottom"] (defScope s_uncleared) := ⟨rfl, rfl, rfl, by decide +kernel, rfl, by decide +kernel, by decide +kernel⟩
theorem ok_uncleared (F : Fun K "uncleared" "uncleared" s_uncleared f fd) (B : Bl K mg) (c_ratio : Cal P w K mg base 2 "ratio" ["top", "bottom"] (sp_ratio K)) (c_poly : Cal P w K mg base 1 "poly" ["row"] (sp_poly K)) : FnOk P w K mg base CX0 3 f fd ["row", "bottom"] (sp_uncleared K) := by
  refine F.ok sc_uncleared (fun vs H Q E h => ?_) (fun cdv A outer s H vs Q E hr h => ?_)
  · obtain ⟨_, _, _, rfl, _⟩ := h
    rfl
  have nd := sc_uncleared.nd
  have hu := hr.units0
  have hu64 := hr.units
  exact ⟨T_uncleared K, (pss_one (ps_ret (c_poly.pe hr (by decide) rfl (pa_cons (pe_comp (N := ["whole", "bottom"]) (capt := [none, some 1]) rfl (BlkOk.of rfl rfl rfl rfl (List.forall_mem_singleton.mpr rfl) rfl rfl rfl) (pi_list (pv 0)) (fun _ _ _ _ => (pg_name (i := 0) (show (["whole", "bottom"] : List PySem.Str).Nodup by decide +kernel) rfl (Or.inl rfl))) (fun _ _ _ _ => (c_ratio.pe hr (by decide) rfl (pa_cons (pv 0) (pa_cons (pv 1) pa_nil))))) pa_nil)))), vc_uncleared h⟩
theorem sc_number_of : FnScope ["P", "place"] ["P", "place"] (defScope s_number_of) := ⟨rfl, rfl, rfl, by decide +kernel, rfl, by decide +kernel, by decide +kernel⟩
theorem ok_number_of (F : Fun K "number_of" "number_of" s_number_of f fd) (B : Bl K mg)  : FnOk P w K mg base CX0 1 f fd ["P", "place"] (sp_number_of K) := by
  refine F.ok sc_number_of (fun vs H Q E h => ?_) (fun cdv A outer s H vs Q E hr h => ?_)
  · obtain ⟨_, _, _, _, rfl, _⟩ := h
    rfl
  have nd := sc_number_of.nd
  have hu := hr.units0
  have hu64 := hr.units
  exact ⟨T_number_of K, (pss_one (ps_ret (pe_ifExp (pt_cmpR op_lt (pv 1) (pe_callB call_lenT rfl B.len bt_len (pa_cons (pv 0) pa_nil)) (nomark _)) (pe_ix ix_tupH (pv 0) (pv 1) (fun _ _ => rfl)) (pe_tup (pa_cons pe_int (pa_cons pe_int pa_nil)))))), vc_number_of h⟩
theorem sc_p_plus : FnScope ["P", "Q"] ["P", "Q"] (defScope s_p_plus) := ⟨rfl, rfl, rfl, by decide +kernel, rfl, by decide +kernel, by decide +kernel⟩
theorem ok_p_plus (F : Fun K "p_plus" "p_plus" s_p_plus f fd) (B : Bl K mg) (c_number_of : Cal P w K mg base 1 "number_of" ["P", "place"] (sp_number_of K)) (c_plus : Cal P w K mg base 3 "plus" ["one", "other"] (sp_plus K)) (c_poly : Cal P w K mg base 1 "poly" ["row"] (sp_poly K)) : FnOk P w K mg base CX0 4 f fd ["P", "Q"] (sp_p_plus K) := by
  refine F.ok sc_p_plus (fun vs H Q E h => ?_) (fun cdv A outer s H vs Q E hr h => ?_)
  · obtain ⟨_, _, _, _, _, _, _, _, _, rfl, _⟩ := h
    rfl
  have nd := sc_p_plus.nd
  have hu := hr.units0
  have hu64 := hr.units
  exact ⟨T_p_plus K, (pss_one (ps_ret (c_poly.pe hr (by decide) rfl (pa_cons (pe_comp (N := ["place", "P", "Q"]) (capt := [none, some 0, some 1]) rfl (BlkOk.of rfl rfl rfl rfl (List.forall_mem_cons.mpr ⟨rfl, (List.forall_mem_singleton.mpr rfl)⟩) rfl rfl rfl) (pi_range1 rfl B.range (pa_cons (pe_callB (call_maxB rfl) rfl B.max bt_max (pa_cons (pe_callB call_lenT rfl B.len bt_len (pa_cons (pv 0) pa_nil)) (pa_cons (pe_callB call_lenT rfl B.len bt_len (pa_cons (pv 1) pa_nil)) pa_nil))) pa_nil)) (fun _ _ _ _ => (pg_name (i := 0) (show (["place", "P", "Q"] : List PySem.Str).Nodup by decide +kernel) rfl (Or.inl rfl))) (fun _ _ _ _ => (c_plus.pe hr (by decide) rfl (pa_cons (c_number_of.pe hr (by decide) rfl (pa_cons (pv 1) (pa_cons (pv 0) pa_nil))) (pa_cons (c_number_of.pe hr (by decide) rfl (pa_cons (pv 2) (pa_cons (pv 0) pa_nil))) pa_nil))))) pa_nil)))), vc_p_plus h⟩
theorem sc_p_times : FnScope ["P", "Q", "one", "other"] ["P", "Q"] (defScope s_p_times) := ⟨rfl, rfl, rfl, by decide +kernel, rfl, by decide +kernel, by decide +kernel⟩
theorem ok_p_times (F : Fun K "p_times" "p_times" s_p_times f fd) (B : Bl K mg) (c_cleared : Cal P w K mg base 2 "cleared" ["P"] (sp_cleared K)) (c_row_times : Cal P w K mg base 1 "row_times" ["row", "other"] (sp_row_times K)) (c_uncleared : Cal P w K mg base 3 "uncleared" ["row", "bottom"] (sp_uncleared K)) : FnOk P w K mg base CX0 4 f fd ["P", "Q"] (sp_p_times K) := by
  refine F.ok sc_p_times (fun vs H Q E h => ?_) (fun cdv A outer s H vs Q E hr h => ?_)
  · obtain ⟨_, _, _, _, _, _, _, _, _, _, rfl, _⟩ := h
    rfl
  have nd := sc_p_times.nd
  have hu := hr.units0
  have hu64 := hr.units
  exact ⟨T_p_times K, (pss_cons (ps_set (i := 2) nd rfl (Or.inl rfl) (c_cleared.pe hr (by decide) rfl (pa_cons (pv 0) pa_nil)))
    (pss_cons (ps_set (i := 3) nd rfl (Or.inl rfl) (c_cleared.pe hr (by decide) rfl (pa_cons (pv 1) pa_nil)))
    (pss_one (ps_ret (c_uncleared.pe hr (by decide) rfl (pa_cons (c_row_times.pe hr (by decide) rfl (pa_cons (pe_ix ix_tupH (pv 2) pe_int (fun _ _ => rfl)) (pa_cons (pe_ix ix_tupH (pv 3) pe_int (fun _ _ => rfl)) pa_nil))) (pa_cons (pe_op op_mulB (pe_ix ix_tupH (pv 2) pe_int (fun _ _ => rfl)) (pe_ix ix_tupH (pv 3) pe_int (fun _ _ => rfl))) pa_nil))))))), vc_p_times h⟩
theorem sc_p_slope : FnScope ["P"] ["P"] (defScope s_p_slope) := ⟨rfl, rfl, rfl, by decide +kernel, rfl, by decide +kernel, by decide +kernel⟩
theorem ok_p_slope (F : Fun K "p_slope" "p_slope" s_p_slope f fd) (B : Bl K mg) (c_times : Cal P w K mg base 3 "times" ["one", "other"] (sp_times K)) : FnOk P w K mg base CX0 4 f fd ["P"] (sp_p_slope K) := by
  refine F.ok sc_p_slope (fun vs H Q E h => ?_) (fun cdv A outer s H vs Q E hr h => ?_)
  · obtain ⟨_, _, _, _, _, rfl, _⟩ := h
    rfl
  have nd := sc_p_slope.nd
  have hu := hr.units0
  have hu64 := hr.units
  exact ⟨T_p_slope K, (pss_one (ps_ret (pe_callTy call_tupL rfl B.tuple bt_tuple (pa_cons (pe_comp (N := ["place", "P"]) (capt := [none, some 0]) rfl (BlkOk.of rfl rfl rfl rfl (List.forall_mem_singleton.mpr rfl) rfl rfl rfl) (pi_range2 rfl B.range (pa_cons pe_int (pa_cons (pe_callB call_lenT rfl B.len bt_len (pa_cons (pv 0) pa_nil)) pa_nil))) (fun _ _ _ _ => (pg_name (i := 0) (show (["place", "P"] : List PySem.Str).Nodup by decide +kernel) rfl (Or.inl rfl))) (fun _ _ _ _ => (c_times.pe hr (by decide) rfl (pa_cons (pe_ix ix_tupH (pv 1) (pv 0) (fun _ _ => rfl)) (pa_cons (pe_tup (pa_cons (pv 0) (pa_cons pe_int pa_nil))) pa_nil))))) pa_nil)))), vc_p_slope h⟩
theorem sc_top_for : FnScope ["p", "q", "s"] ["p", "q", "s"] (defScope s_top_for) := ⟨rfl, rfl, rfl, by decide +kernel, rfl, by decide +kernel, by decide +kernel⟩
theorem ok_top_for (F : Fun K "top_for" "top_for" s_top_for f fd) (B : Bl K mg) (c_degree : Cal P w K mg base 1 "degree" ["P"] (sp_degree K)) (c_top_by : Cal P w K mg base 4 "top_by" ["p", "q", "S"] (sp_top_by K)) : FnOk P w K mg base CX0 5 f fd ["p", "q", "s"] (sp_top_for K) := by
  refine F.ok sc_top_for (fun vs H Q E h => ?_) (fun cdv A outer s H vs Q E hr h => ?_)
  · obtain ⟨_, _, _, _, _, _, _, _, rfl, _⟩ := h
    rfl
  have nd := sc_top_for.nd
  have hu := hr.units0
  have hu64 := hr.units
  exact ⟨T_top_for K, (pss_one (ps_ret (c_top_by.pe hr (by decide) rfl (pa_cons (pv 0) (pa_cons (pv 1) (pa_cons (c_degree.pe hr (by decide) rfl (pa_cons (pv 2) pa_nil)) pa_nil)))))), vc_top_for h⟩
theorem sc_top_by : FnScope ["p", "q", "S", "P", "Q", "top", "other"] ["p", "q", "S"] (defScope s_top_by) := ⟨rfl, rfl, rfl, by decide +kernel, rfl, by decide +kernel, by decide +kernel⟩
theorem ok_top_by (F : Fun K "top_by" "top_by" s_top_by f fd) (B : Bl K mg) (c_degree : Cal P w K mg base 1 "degree" ["P"] (sp_degree K)) (c_minus : Cal P w K mg base 3 "minus" ["one", "other"] (sp_minus K)) (c_over : Cal P w K mg base 3 "over" ["one", "other"] (sp_over K)) : FnOk P w K mg base CX0 4 f fd ["p", "q", "S"] (sp_top_by K) := by
  refine F.ok sc_top_by (fun vs H Q E h => ?_) (fun cdv A outer s H vs Q E hr h => ?_)
  · obtain ⟨_, _, _, _, _, _, _, rfl, _⟩ := h
    rfl
  have nd := sc_top_by.nd
  have hu := hr.units0
  have hu64 := hr.units
  exact ⟨T_top_by K, (pss_cons (ps_set (i := 3) nd rfl (Or.inl rfl) (c_degree.pe hr (by decide) rfl (pa_cons (pv 0) pa_nil)))
    (pss_cons (ps_set (i := 4) nd rfl (Or.inl rfl) (c_degree.pe hr (by decide) rfl (pa_cons (pv 1) pa_nil)))
    (pss_cons (ps_if (pt_cmpR op_lt (pv 4) (pe_op op_sub (pv 3) pe_int) (nomark _)) (pss_one (ps_ret (pe_callB (call_maxB rfl) rfl B.max bt_max (pa_cons (pe_op op_add (pe_op op_sub (pv 2) (pv 3)) pe_int) (pa_cons pe_int pa_nil))))) pss_nil)
    (pss_cons (ps_set (i := 5) nd rfl (Or.inl rfl) (pe_op op_sub (pv 2) (pv 4)))
    (pss_cons (ps_if (pt_cmpR op_lt (pv 4) (pv 3) (nomark _)) (pss_cons (ps_set (i := 6) nd rfl (Or.inl rfl) (pe_ifExp (pt_truT (pv 1) (fun _ => rfl)) (c_over.pe hr (by decide) rfl (pa_cons (c_minus.pe hr (by decide) rfl (pa_cons (pe_tup (pa_cons pe_int (pa_cons pe_int pa_nil))) (pa_cons (pe_ix ix_tupH (pv 1) (pe_un un_neg pe_int) (fun _ _ => rfl)) pa_nil))) (pa_cons (pe_ix ix_tupH (pv 0) (pe_un un_neg pe_int) (fun _ _ => rfl)) pa_nil))) (pe_tup (pa_cons pe_int (pa_cons pe_int pa_nil)))))
    (pss_one (ps_if (pt_cmpR op_eq (pe_ix ix_tupH (pv 6) pe_int (fun _ _ => rfl)) pe_int (nomark _)) (pss_one (ps_set (i := 5) nd rfl (Or.inl rfl) (pe_callB (call_maxB rfl) rfl B.max bt_max (pa_cons (pv 5) (pa_cons (pe_ix ix_tupH (pv 6) pe_int (fun _ _ => rfl)) pa_nil))))) pss_nil))) pss_nil)
    (pss_one (ps_ret (pe_ifExp (pt_cmpR op_ge (pv 5) pe_int (nomark _)) (pv 5) pe_non)))))))), vc_top_by h⟩
theorem sc_l_mixed : FnScope ["_law_cell", "_law_k", "_law_once"] ["_law_cell", "_law_k"] (defScope s_l_mixed) := ⟨rfl, rfl, rfl, by decide +kernel, rfl, by decide +kernel, by decide +kernel⟩
theorem ok_l_mixed (F : Fun K "_law_mixed" "_law_mixed" s_l_mixed f fd) (B : Bl K mg)  : FnOk P w K mg base CX0 1 f fd ["_law_cell", "_law_k"] (sp_l_mixed K) := by
  refine F.ok sc_l_mixed (fun vs H Q E h => ?_) (fun cdv A outer s H vs Q E hr h => ?_)
  · obtain ⟨_, _, rfl, _⟩ := h
    rfl
  have nd := sc_l_mixed.nd
  have hu := hr.units0
  have hu64 := hr.units
  exact ⟨T_l_mixed K, (pss_cons (ps_set (i := 2) nd rfl (Or.inl rfl) (pe_op op_mod (pe_op op_mulB (pe_op op_add (pe_op op_add (pe_op op_mod (pv 0) pe_int) (pe_op op_mulB pe_int (pv 1))) pe_int) pe_int) pe_int))
    (pss_one (ps_ret (pe_op op_fdivR (pe_op op_mod (pe_op op_mulB (pv 2) (pe_op op_add (pe_op op_mod (pv 2) pe_int) pe_int)) pe_int) pe_int)))), vc_l_mixed h⟩
theorem sc_l_draws : FnScope ["_law_script", "_law_many", "_law_cells", "_law_draws_here", "_law_rest", "_law_k"] ["_law_script", "_law_many"] (defScope s_l_draws) := ⟨rfl, rfl, rfl, by decide +kernel, rfl, by decide +kernel, by decide +kernel⟩
theorem ok_l_draws (F : Fun K "_law_draws" "_law_draws" s_l_draws f fd) (B : Bl K mg) (c_l_mixed : Cal P w K mg base 1 "_law_mixed" ["_law_cell", "_law_k"] (sp_l_mixed K)) : FnOk P w K mg base CX0 2 f fd ["_law_script", "_law_many"] (sp_l_draws K) := by
  refine F.ok sc_l_draws (fun vs H Q E h => ?_) (fun cdv A outer s H vs Q E hr h => ?_)
  · obtain ⟨_, _, _, rfl, _⟩ := h
    rfl
  have nd := sc_l_draws.nd
  have hu := hr.units0
  have hu64 := hr.units
  exact ⟨T_l_draws K, (pss_cons (ps_set (i := 2) nd rfl (Or.inl rfl) (pe_op op_cat (pe_slice sl_script (pv 0) po_none (po_some pe_int)) (pe_lst (pa_cons pe_int pa_nil))))
    (pss_cons (ps_set (i := 3) nd rfl (Or.inl rfl) (pe_lst pa_nil))
    (pss_cons (ps_set (i := 4) nd rfl (Or.inl rfl) (pe_op op_mulB (pe_op op_fdivR (pe_callB call_absB rfl B.abs bt_abs (pa_cons (pe_ix ix_lstH (pv 2) pe_int (fun _ _ => rfl)) pa_nil)) pe_int) (pe_op op_sub pe_int (pe_op op_mod (pe_ix ix_lstH (pv 2) pe_int (fun _ _ => rfl)) pe_int))))
    (pss_cons (ps_for PassesOwn.never rfl (pi_range1 rfl B.range (pa_cons (pv 1) pa_nil)) (pg_name (i := 5) nd rfl (Or.inl rfl)) (pss_one (ps_if (pt_cmpR op_gt (pv 4) pe_int (nomark _)) (pss_cons (ps_expr (pe_bm PySem.F.plainAttrs_list PySem.F.slot_list_append PySem.F.type_list_append mt_append (pv 3) (pa_cons (pe_op op_mod (pv 4) pe_int) pa_nil)))
    (pss_one (ps_set (i := 4) nd rfl (Or.inl rfl) (pe_op op_fdivR (pv 4) pe_int)))) (pss_one (ps_expr (pe_bm PySem.F.plainAttrs_list PySem.F.slot_list_append PySem.F.type_list_append mt_append (pv 3) (pa_cons (pe_op op_mod (c_l_mixed.pe hr (by decide) rfl (pa_cons (pe_ix ix_lstH (pv 2) (pe_op op_mod (pv 5) (pe_callB call_lenL rfl B.len bt_len (pa_cons (pv 2) pa_nil))) (fun _ _ => rfl)) (pa_cons (pv 5) pa_nil))) pe_int) pa_nil)))))))
    (pss_one (ps_ret (pv 3))))))), vc_l_draws h⟩
theorem sc_l_number : FnScope ["_law_d"] ["_law_d"] (defScope s_l_number) := ⟨rfl, rfl, rfl, by decide +kernel, rfl, by decide +kernel, by decide +kernel⟩
theorem ok_l_number (F : Fun K "_law_number" "_law_number" s_l_number f fd) (B : Bl K mg) (c_ratio : Cal P w K mg base 2 "ratio" ["top", "bottom"] (sp_ratio K)) : FnOk P w K mg base CX0 3 f fd ["_law_d"] (sp_l_number K) := by
  refine F.ok sc_l_number (fun vs H Q E h => ?_) (fun cdv A outer s H vs Q E hr h => ?_)
  · obtain ⟨_, rfl, _⟩ := h
    rfl
  have nd := sc_l_number.nd
  have hu := hr.units0
  have hu64 := hr.units
  exact ⟨T_l_number K, (pss_one (ps_ret (c_ratio.pe hr (by decide) rfl (pa_cons (pe_op op_sub (pe_op op_mod (pv 0) pe_int) pe_int) (pa_cons (pe_ix ix_lstH (pe_lst (pa_cons pe_int (pa_cons pe_int (pa_cons pe_int (pa_cons pe_int (pa_cons pe_int pa_nil)))))) (pe_op op_mod (pe_op op_fdivR (pv 0) pe_int) pe_int) (fun _ _ => rfl)) pa_nil))))), vc_l_number h⟩
theorem sc_l_row : FnScope ["_law_draws_here", "_law_size"] ["_law_draws_here", "_law_size"] (defScope s_l_row) := ⟨rfl, rfl, rfl, by decide +kernel, rfl, by decide +kernel, by decide +kernel⟩
theorem ok_l_row (F : Fun K "_law_row" "_law_row" s_l_row f fd) (B : Bl K mg) (c_l_number : Cal P w K mg base 3 "_law_number" ["_law_d"] (sp_l_number K)) (c_poly : Cal P w K mg base 1 "poly" ["row"] (sp_poly K)) : FnOk P w K mg base CX0 4 f fd ["_law_draws_here", "_law_size"] (sp_l_row K) := by
  refine F.ok sc_l_row (fun vs H Q E h => ?_) (fun cdv A outer s H vs Q E hr h => ?_)
  · obtain ⟨_, _, _, rfl, _⟩ := h
    rfl
  have nd := sc_l_row.nd
  have hu := hr.units0
  have hu64 := hr.units
  exact ⟨T_l_row K, (pss_one (ps_ret (c_poly.pe hr (by decide) rfl (pa_cons (pe_comp (N := ["_law_d"]) (capt := [none]) rfl (BlkOk.of rfl rfl rfl rfl (fun _ h => nomatch h) rfl rfl rfl) (pi_list (pe_slice sl_lstH (pv 0) po_none (po_some (pv 1)))) (fun _ _ _ _ => (pg_name (i := 0) (show (["_law_d"] : List PySem.Str).Nodup by decide +kernel) rfl (Or.inl rfl))) (fun _ _ _ _ => (c_l_number.pe hr (by decide) rfl (pa_cons (pv 0) pa_nil)))) pa_nil)))), vc_l_row h⟩
theorem sc_l_due : FnScope ["_law_p", "_law_q", "_law_s", "_law_kp", "_law_kq", "_law_ks", "_law_due_here", "_law_top", "_law_bottom"] ["_law_p", "_law_q", "_law_s"] (defScope s_l_due) := ⟨rfl, rfl, rfl, by decide +kernel, rfl, by decide +kernel, by decide +kernel⟩
theorem ok_l_due (F : Fun K "_law_due" "_law_due" s_l_due f fd) (B : Bl K mg) (c_degree : Cal P w K mg base 1 "degree" ["P"] (sp_degree K)) (c_ratio : Cal P w K mg base 2 "ratio" ["top", "bottom"] (sp_ratio K)) : FnOk P w K mg base CX0 3 f fd ["_law_p", "_law_q", "_law_s"] (sp_l_due K) := by
  refine F.ok sc_l_due (fun vs H Q E h => ?_) (fun cdv A outer s H vs Q E hr h => ?_)
  · obtain ⟨_, _, _, _, _, _, _, _, rfl, _⟩ := h
    rfl
  have nd := sc_l_due.nd
  have hu := hr.units0
  have hu64 := hr.units
  exact ⟨T_l_due K, (pss_cons (ps_par3 (i := 3) (j := 4) (k := 5) rfl nd rfl rfl rfl (by decide) (by decide) (by decide) rfl rfl rfl (pa_cons (c_degree.pe hr (by decide) rfl (pa_cons (pv 0) pa_nil)) (pa_cons (c_degree.pe hr (by decide) rfl (pa_cons (pv 1) pa_nil)) (pa_cons (c_degree.pe hr (by decide) rfl (pa_cons (pv 2) pa_nil)) pa_nil))) rfl)
    (pss_cons (ps_set (i := 6) nd rfl (Or.inl rfl) (pe_op op_sub (pv 5) (pv 4)))
    (pss_cons (ps_if (pt_cmpR op_lt (pv 4) (pe_op op_sub (pv 3) pe_int) (nomark _)) (pss_cons (ps_set (i := 6) nd rfl (Or.inl rfl) (pe_op op_add (pe_op op_sub (pv 5) (pv 3)) pe_int))
    (pss_one (ps_if (pt_cmpR op_lt (pv 6) pe_int (nomark _)) (pss_one (ps_set (i := 6) nd rfl (Or.inl rfl) pe_int)) pss_nil))) pss_nil)
    (pss_cons (ps_if (pt_cmpR op_eq (pv 4) (pe_op op_sub (pv 3) pe_int) (nomark _)) (pss_cons (ps_asg (pe_lst (pa_cons pe_int (pa_cons pe_int pa_nil))) (pg_lstH rfl (pgs_cons (pg_name (i := 7) nd rfl (Or.inl rfl)) (pgs_cons (pg_name (i := 8) nd rfl (Or.inl rfl)) pgs_nil))))
    (pss_cons (ps_if (pt_cmpR (op_neD hu64) (pv 1) (pe_tup pa_nil) (nomark _)) (pss_one (ps_asg (c_ratio.pe hr (by decide) rfl (pa_cons (pe_op op_sub pe_int (pe_op op_mulB (pe_ix ix_tupH (pe_ix ix_tupH (pv 1) (pe_un un_neg pe_int) (fun _ _ => rfl)) pe_int (fun _ _ => rfl)) (pe_ix ix_tupH (pe_ix ix_tupH (pv 0) (pe_un un_neg pe_int) (fun _ _ => rfl)) pe_int (fun _ _ => rfl)))) (pa_cons (pe_op op_mulB (pe_ix ix_tupH (pe_ix ix_tupH (pv 1) (pe_un un_neg pe_int) (fun _ _ => rfl)) pe_int (fun _ _ => rfl)) (pe_ix ix_tupH (pe_ix ix_tupH (pv 0) (pe_un un_neg pe_int) (fun _ _ => rfl)) pe_int (fun _ _ => rfl))) pa_nil))) (pg_tupH rfl (pgs_cons (pg_name (i := 7) nd rfl (Or.inl rfl)) (pgs_cons (pg_name (i := 8) nd rfl (Or.inl rfl)) pgs_nil))))) pss_nil)
    (pss_one (ps_if (PW.pt (pw_and (pt_cmpR op_eq (pv 8) pe_int (nomark _)) (pw_and1 (pt_cmpR op_gt (pv 7) (pv 6) (nomark _))))) (pss_one (ps_set (i := 6) nd rfl (Or.inl rfl) (pv 7))) pss_nil)))) pss_nil)
    (pss_one (ps_ret (pe_ifExp (pt_cmpR op_ge (pv 6) pe_int (nomark _)) (pv 6) pe_non))))))), vc_l_due h⟩
theorem sc_law : FnScope ["_law_script", "_law_draws_here", "_law_p", "_law_q", "_law_z", "_law_made", "_law_s", "_law_found", "_law_due_here"] ["_law_script"] (defScope s_law) := ⟨rfl, rfl, rfl, by decide +kernel, rfl, by decide +kernel, by decide +kernel⟩
theorem ok_law (F : Fun K "law" "law" s_law f fd) (B : Bl K mg) (c_l_draws : Cal P w K mg base 2 "_law_draws" ["_law_script", "_law_many"] (sp_l_draws K)) (c_l_number : Cal P w K mg base 3 "_law_number" ["_law_d"] (sp_l_number K)) (c_poly : Cal P w K mg base 1 "poly" ["row"] (sp_poly K)) (c_l_row : Cal P w K mg base 4 "_law_row" ["_law_draws_here", "_law_size"] (sp_l_row K)) (c_degree : Cal P w K mg base 1 "degree" ["P"] (sp_degree K)) (c_ratio : Cal P w K mg base 2 "ratio" ["top", "bottom"] (sp_ratio K)) (c_p_slope : Cal P w K mg base 4 "p_slope" ["P"] (sp_p_slope K)) (c_p_times : Cal P w K mg base 4 "p_times" ["P", "Q"] (sp_p_times K)) (c_p_plus : Cal P w K mg base 4 "p_plus" ["P", "Q"] (sp_p_plus K)) (c_top_for : Cal P w K mg base 5 "top_for" ["p", "q", "s"] (sp_top_for K)) (c_l_due : Cal P w K mg base 3 "_law_due" ["_law_p", "_law_q", "_law_s"] (sp_l_due K)) : FnOk P w K mg base CX0 6 f fd ["_law_script"] (sp_law K) := by
  refine F.ok sc_law (fun vs H Q E h => ?_) (fun cdv A outer s H vs Q E hr h => ?_)
  · obtain ⟨_, _, rfl, _⟩ := h
    rfl
  have nd := sc_law.nd
  have hu := hr.units0
  have hu64 := hr.units
  exact ⟨T_law K, (pss_cons (ps_set (i := 1) nd rfl (Or.inl rfl) (c_l_draws.pe hr (by decide) rfl (pa_cons (pv 0) (pa_cons pe_int pa_nil))))
    (pss_cons (ps_set (i := 2) nd rfl (Or.inl rfl) (c_poly.pe hr (by decide) rfl (pa_cons (pe_op op_cat (pe_comp (N := ["_law_d"]) (capt := [none]) rfl (BlkOk.of rfl rfl rfl rfl (fun _ h => nomatch h) rfl rfl rfl) (pi_list (pe_slice sl_lstH (pv 1) (po_some pe_int) (po_some (pe_op op_add pe_int (pe_op op_mod (pe_ix ix_lstH (pv 1) pe_int (fun _ _ => rfl)) pe_int))))) (fun _ _ _ _ => (pg_name (i := 0) (show (["_law_d"] : List PySem.Str).Nodup by decide +kernel) rfl (Or.inl rfl))) (fun _ _ _ _ => (c_l_number.pe hr (by decide) rfl (pa_cons (pv 0) pa_nil)))) (pe_lst (pa_cons (pe_tup (pa_cons pe_int (pa_cons pe_int pa_nil))) pa_nil))) pa_nil)))
    (pss_cons (ps_set (i := 3) nd rfl (Or.inl rfl) (c_l_row.pe hr (by decide) rfl (pa_cons (pe_slice sl_lstH (pv 1) (po_some pe_int) po_none) (pa_cons (pe_op op_mod (pe_op op_fdivR (pe_ix ix_lstH (pv 1) pe_int (fun _ _ => rfl)) pe_int) pe_int) pa_nil))))
    (pss_cons (ps_if (PW.pt (pw_and (pt_cmpR op_eq (pe_op op_mod (pe_op op_fdivR (pe_ix ix_lstH (pv 1) pe_int (fun _ _ => rfl)) pe_int) pe_int) pe_int (nomark _)) (pw_and1 (pt_cmpR op_gt (c_degree.pe hr (by decide) rfl (pa_cons (pv 2) pa_nil)) pe_int (nomark _))))) (pss_one (ps_set (i := 3) nd rfl (Or.inl rfl) (c_poly.pe hr (by decide) rfl (pa_cons (pe_op op_cat (pe_comp (N := ["_law_d"]) (capt := [none]) rfl (BlkOk.of rfl rfl rfl rfl (fun _ h => nomatch h) rfl rfl rfl) (pi_list (pe_slice sl_lstH (pv 1) (po_some pe_int) (po_some (pe_op op_add pe_int (c_degree.pe hr (by decide) rfl (pa_cons (pv 2) pa_nil)))))) (fun _ _ _ _ => (pg_name (i := 0) (show (["_law_d"] : List PySem.Str).Nodup by decide +kernel) rfl (Or.inl rfl))) (fun _ _ _ _ => (c_l_number.pe hr (by decide) rfl (pa_cons (pv 0) pa_nil)))) (pe_lst (pa_cons (c_ratio.pe hr (by decide) rfl (pa_cons (pe_op op_sub (pe_un un_neg pe_int) (pe_op op_mod (pe_ix ix_lstH (pv 1) pe_int (fun _ _ => rfl)) pe_int)) (pa_cons pe_int pa_nil))) pa_nil))) pa_nil)))) pss_nil)
    (pss_cons (ps_set (i := 4) nd rfl (Or.inl rfl) (c_l_row.pe hr (by decide) rfl (pa_cons (pe_slice sl_lstH (pv 1) (po_some pe_int) po_none) (pa_cons (pe_op op_mod (pe_op op_fdivR (pe_ix ix_lstH (pv 1) pe_int (fun _ _ => rfl)) pe_int) pe_int) pa_nil))))
    (pss_cons (ps_set (i := 5) nd rfl (Or.inl rfl) (pe_cmpR op_gt (pe_op op_mod (pe_ix ix_lstH (pv 1) pe_int (fun _ _ => rfl)) pe_int) pe_int (nomark _)))
    (pss_cons (ps_set (i := 6) nd rfl (Or.inl rfl) (c_l_row.pe hr (by decide) rfl (pa_cons (pe_slice sl_lstH (pv 1) (po_some pe_int) po_none) (pa_cons (pe_op op_mod (pe_op op_fdivR (pe_ix ix_lstH (pv 1) pe_int (fun _ _ => rfl)) pe_int) pe_int) pa_nil))))
    (pss_cons (ps_if (pt_val (pv 5)) (pss_one (ps_set (i := 6) nd rfl (Or.inl rfl) (c_p_plus.pe hr (by decide) rfl (pa_cons (c_p_times.pe hr (by decide) rfl (pa_cons (pv 2) (pa_cons (c_p_slope.pe hr (by decide) rfl (pa_cons (pv 4) pa_nil)) pa_nil))) (pa_cons (c_p_times.pe hr (by decide) rfl (pa_cons (pv 3) (pa_cons (pv 4) pa_nil))) pa_nil))))) pss_nil)
    (pss_cons (ps_set (i := 7) nd rfl (Or.inl rfl) (c_top_for.pe hr (by decide) rfl (pa_cons (pv 2) (pa_cons (pv 3) (pa_cons (pv 6) pa_nil)))))
    (pss_cons (ps_set (i := 8) nd rfl (Or.inl rfl) (c_l_due.pe hr (by decide) rfl (pa_cons (pv 2) (pa_cons (pv 3) (pa_cons (pv 6) pa_nil)))))
    (pss_cons (ps_if (pt_cmpR op_isN (pv 8) pe_non (nomark _)) (pss_one (ps_ret (pe_and (pe_cmpR op_isN (pv 7) pe_non (nomark _)) (pe_one (pe_or (pe_not (pv 5)) (pe_one (pe_cmpR (op_eqD hu64) (pv 4) (pe_tup pa_nil) (nomark _)))))))) pss_nil)
    (pss_cons (ps_if (PW.pt (pw_or (pt_not (pt_val (pe_callB call_isi rfl B.isinstance bt_isinstance (pa_cons (pv 7) (pa_cons (pe_bltn rfl B.int bt_int rfl) pa_nil))))) (pw_or (pt_val (pe_callB call_isi rfl B.isinstance bt_isinstance (pa_cons (pv 7) (pa_cons (pe_bltn rfl B.bool bt_bool rfl) pa_nil)))) (pw_or1 (pt_cmpR op_ne (pv 7) (pv 8) (nomark _)))))) (pss_one (ps_ret pe_bl)) pss_nil)
    (pss_one (ps_ret (pe_or (pe_not (pv 5)) (pe_one (pe_cmpR op_le (c_degree.pe hr (by decide) rfl (pa_cons (pv 4) pa_nil)) (pv 7) (nomark _)))))))))))))))))), vc_law h⟩
end
end Bs
namespace Bs
open PySem PySem.Spec PyProof.Rows L2
set_option maxHeartbeats 4000000
open Hd
theorem fn_mk {K : W.Frag} {st : Stmt} {f c : Addr} {n : Str} {pm : Value} (l : K.lookup f = some (fnO n st pm c)) (e : PySem.W.codeIn K (.ref c) n = true) (k : PySem.W.keepIn K (.ref f) = true) : Fun K n n st f (PySem.W.fnOf n n (defArgs st) (defBody st) (defScope st) .none .none .none pm none (.ref c) .none) := fun_mk (st := st) l e k
theorem cal_mk {P : Program} {K : W.Frag} {w : World} {h base : Heap} {mg : Str → Option Value} {k : Nat} {f : Addr} {fd : FuncData} {n : Str} {ps : List Str} {sp : Sp} (X : K.In h) (G : h.Ns mainGlobals mg) (ok : FnOk P w K mg base CX0 k f fd ps sp) (b : Binds K fd ps []) (e : PySem.W.keepIn K (.ref f) = true) (a : PySem.W.nsIn K mainGlobals n = some (some (.ref f))) : Cal P w K mg base k n ps sp := ⟨f, fd, ok, b, e, PySem.W.mg_of X G a⟩
theorem arg1 : ∀ us : List Value, us.length = 1 → ∃ x0, us = [x0]
  | [x0], _ => ⟨x0, rfl⟩
theorem arg2 : ∀ us : List Value, us.length = 2 → ∃ x0 x1, us = [x0, x1]
  | [x0, x1], _ => ⟨x0, x1, rfl⟩
theorem arg3 : ∀ us : List Value, us.length = 3 → ∃ x0 x1 x2, us = [x0, x1, x2]
  | [x0, x1, x2], _ => ⟨x0, x1, x2, rfl⟩
section
variable {P : Program} {w : World} {mg : Str → Option Value} {base h : Heap}
theorem C_common_divisor (X : (hp w.params).In h) (G : h.Ns mainGlobals mg) (B : Bl (hp w.params) mg) : Cal P w (hp w.params) mg base 1 "common_divisor" ["one", "other"] (sp_common_divisor (hp w.params)) := by
  have F := fn_mk (K := hp w.params) (st := s_common_divisor) (f := 21) (c := 20) (n := "common_divisor") (pm := mo0) (by kernel_rfl) (by kernel_rfl) (by kernel_rfl)
  exact cal_mk X G (ok_common_divisor F B ) (F.binds fun _ _ _ _ _ _ us hl => by obtain ⟨_, _, rfl⟩ := arg2 us hl; rfl) (by kernel_rfl) (by kernel_rfl)
theorem C_row_times (X : (hp w.params).In h) (G : h.Ns mainGlobals mg) (B : Bl (hp w.params) mg) : Cal P w (hp w.params) mg base 1 "row_times" ["row", "other"] (sp_row_times (hp w.params)) := by
  have F := fn_mk (K := hp w.params) (st := s_row_times) (f := 28) (c := 27) (n := "row_times") (pm := mo0) (by kernel_rfl) (by kernel_rfl) (by kernel_rfl)
  exact cal_mk X G (ok_row_times F B ) (F.binds fun _ _ _ _ _ _ us hl => by obtain ⟨_, _, rfl⟩ := arg2 us hl; rfl) (by kernel_rfl) (by kernel_rfl)
theorem C_poly (X : (hp w.params).In h) (G : h.Ns mainGlobals mg) (B : Bl (hp w.params) mg) : Cal P w (hp w.params) mg base 1 "poly" ["row"] (sp_poly (hp w.params)) := by
  have F := fn_mk (K := hp w.params) (st := s_poly) (f := 70) (c := 69) (n := "poly") (pm := mo2) (by kernel_rfl) (by kernel_rfl) (by kernel_rfl)
  exact cal_mk X G (ok_poly F B ) (F.binds fun _ _ _ _ _ _ us hl => by obtain ⟨_, rfl⟩ := arg1 us hl; rfl) (by kernel_rfl) (by kernel_rfl)
theorem C_degree (X : (hp w.params).In h) (G : h.Ns mainGlobals mg) (B : Bl (hp w.params) mg) : Cal P w (hp w.params) mg base 1 "degree" ["P"] (sp_degree (hp w.params)) := by
  have F := fn_mk (K := hp w.params) (st := s_degree) (f := 77) (c := 76) (n := "degree") (pm := mo2) (by kernel_rfl) (by kernel_rfl) (by kernel_rfl)
  exact cal_mk X G (ok_degree F B ) (F.binds fun _ _ _ _ _ _ us hl => by obtain ⟨_, rfl⟩ := arg1 us hl; rfl) (by kernel_rfl) (by kernel_rfl)
theorem C_number_of (X : (hp w.params).In h) (G : h.Ns mainGlobals mg) (B : Bl (hp w.params) mg) : Cal P w (hp w.params) mg base 1 "number_of" ["P", "place"] (sp_number_of (hp w.params)) := by
  have F := fn_mk (K := hp w.params) (st := s_number_of) (f := 94) (c := 93) (n := "number_of") (pm := mo2) (by kernel_rfl) (by kernel_rfl) (by kernel_rfl)
  exact cal_mk X G (ok_number_of F B ) (F.binds fun _ _ _ _ _ _ us hl => by obtain ⟨_, _, rfl⟩ := arg2 us hl; rfl) (by kernel_rfl) (by kernel_rfl)
theorem C_l_mixed (X : (hp w.params).In h) (G : h.Ns mainGlobals mg) (B : Bl (hp w.params) mg) : Cal P w (hp w.params) mg base 1 "_law_mixed" ["_law_cell", "_law_k"] (sp_l_mixed (hp w.params)) := by
  have F := fn_mk (K := hp w.params) (st := s_l_mixed) (f := 132) (c := 131) (n := "_law_mixed") (pm := mo4) (by kernel_rfl) (by kernel_rfl) (by kernel_rfl)
  exact cal_mk X G (ok_l_mixed F B ) (F.binds fun _ _ _ _ _ _ us hl => by obtain ⟨_, _, rfl⟩ := arg2 us hl; rfl) (by kernel_rfl) (by kernel_rfl)
theorem C_ratio (X : (hp w.params).In h) (G : h.Ns mainGlobals mg) (B : Bl (hp w.params) mg) : Cal P w (hp w.params) mg base 2 "ratio" ["top", "bottom"] (sp_ratio (hp w.params)) := by
  have F := fn_mk (K := hp w.params) (st := s_ratio) (f := 35) (c := 34) (n := "ratio") (pm := mo1) (by kernel_rfl) (by kernel_rfl) (by kernel_rfl)
  exact cal_mk X G (ok_ratio F B (C_common_divisor X G B)) (F.binds fun _ _ _ _ _ _ us hl => by obtain ⟨_, _, rfl⟩ := arg2 us hl; rfl) (by kernel_rfl) (by kernel_rfl)
theorem C_cleared (X : (hp w.params).In h) (G : h.Ns mainGlobals mg) (B : Bl (hp w.params) mg) : Cal P w (hp w.params) mg base 2 "cleared" ["P"] (sp_cleared (hp w.params)) := by
  have F := fn_mk (K := hp w.params) (st := s_cleared) (f := 82) (c := 81) (n := "cleared") (pm := mo2) (by kernel_rfl) (by kernel_rfl) (by kernel_rfl)
  exact cal_mk X G (ok_cleared F B (C_common_divisor X G B)) (F.binds fun _ _ _ _ _ _ us hl => by obtain ⟨_, rfl⟩ := arg1 us hl; rfl) (by kernel_rfl) (by kernel_rfl)
theorem C_l_draws (X : (hp w.params).In h) (G : h.Ns mainGlobals mg) (B : Bl (hp w.params) mg) : Cal P w (hp w.params) mg base 2 "_law_draws" ["_law_script", "_law_many"] (sp_l_draws (hp w.params)) := by
  have F := fn_mk (K := hp w.params) (st := s_l_draws) (f := 139) (c := 138) (n := "_law_draws") (pm := mo4) (by kernel_rfl) (by kernel_rfl) (by kernel_rfl)
  exact cal_mk X G (ok_l_draws F B (C_l_mixed X G B)) (F.binds fun _ _ _ _ _ _ us hl => by obtain ⟨_, _, rfl⟩ := arg2 us hl; rfl) (by kernel_rfl) (by kernel_rfl)
theorem C_plus (X : (hp w.params).In h) (G : h.Ns mainGlobals mg) (B : Bl (hp w.params) mg) : Cal P w (hp w.params) mg base 3 "plus" ["one", "other"] (sp_plus (hp w.params)) := by
  have F := fn_mk (K := hp w.params) (st := s_plus) (f := 42) (c := 41) (n := "plus") (pm := mo1) (by kernel_rfl) (by kernel_rfl) (by kernel_rfl)
  exact cal_mk X G (ok_plus F B (C_ratio X G B)) (F.binds fun _ _ _ _ _ _ us hl => by obtain ⟨_, _, rfl⟩ := arg2 us hl; rfl) (by kernel_rfl) (by kernel_rfl)
theorem C_minus (X : (hp w.params).In h) (G : h.Ns mainGlobals mg) (B : Bl (hp w.params) mg) : Cal P w (hp w.params) mg base 3 "minus" ["one", "other"] (sp_minus (hp w.params)) := by
  have F := fn_mk (K := hp w.params) (st := s_minus) (f := 49) (c := 48) (n := "minus") (pm := mo1) (by kernel_rfl) (by kernel_rfl) (by kernel_rfl)
  exact cal_mk X G (ok_minus F B (C_ratio X G B)) (F.binds fun _ _ _ _ _ _ us hl => by obtain ⟨_, _, rfl⟩ := arg2 us hl; rfl) (by kernel_rfl) (by kernel_rfl)
theorem C_times (X : (hp w.params).In h) (G : h.Ns mainGlobals mg) (B : Bl (hp w.params) mg) : Cal P w (hp w.params) mg base 3 "times" ["one", "other"] (sp_times (hp w.params)) := by
  have F := fn_mk (K := hp w.params) (st := s_times) (f := 56) (c := 55) (n := "times") (pm := mo1) (by kernel_rfl) (by kernel_rfl) (by kernel_rfl)
  exact cal_mk X G (ok_times F B (C_ratio X G B)) (F.binds fun _ _ _ _ _ _ us hl => by obtain ⟨_, _, rfl⟩ := arg2 us hl; rfl) (by kernel_rfl) (by kernel_rfl)
theorem C_over (X : (hp w.params).In h) (G : h.Ns mainGlobals mg) (B : Bl (hp w.params) mg) : Cal P w (hp w.params) mg base 3 "over" ["one", "other"] (sp_over (hp w.params)) := by
  have F := fn_mk (K := hp w.params) (st := s_over) (f := 63) (c := 62) (n := "over") (pm := mo1) (by kernel_rfl) (by kernel_rfl) (by kernel_rfl)
  exact cal_mk X G (ok_over F B (C_ratio X G B)) (F.binds fun _ _ _ _ _ _ us hl => by obtain ⟨_, _, rfl⟩ := arg2 us hl; rfl) (by kernel_rfl) (by kernel_rfl)
theorem C_uncleared (X : (hp w.params).In h) (G : h.Ns mainGlobals mg) (B : Bl (hp w.params) mg) : Cal P w (hp w.params) mg base 3 "uncleared" ["row", "bottom"] (sp_uncleared (hp w.params)) := by
  have F := fn_mk (K := hp w.params) (st := s_uncleared) (f := 87) (c := 86) (n := "uncleared") (pm := mo2) (by kernel_rfl) (by kernel_rfl) (by kernel_rfl)
  exact cal_mk X G (ok_uncleared F B (C_ratio X G B) (C_poly X G B)) (F.binds fun _ _ _ _ _ _ us hl => by obtain ⟨_, _, rfl⟩ := arg2 us hl; rfl) (by kernel_rfl) (by kernel_rfl)
theorem C_l_number (X : (hp w.params).In h) (G : h.Ns mainGlobals mg) (B : Bl (hp w.params) mg) : Cal P w (hp w.params) mg base 3 "_law_number" ["_law_d"] (sp_l_number (hp w.params)) := by
  have F := fn_mk (K := hp w.params) (st := s_l_number) (f := 146) (c := 145) (n := "_law_number") (pm := mo4) (by kernel_rfl) (by kernel_rfl) (by kernel_rfl)
  exact cal_mk X G (ok_l_number F B (C_ratio X G B)) (F.binds fun _ _ _ _ _ _ us hl => by obtain ⟨_, rfl⟩ := arg1 us hl; rfl) (by kernel_rfl) (by kernel_rfl)
theorem C_l_due (X : (hp w.params).In h) (G : h.Ns mainGlobals mg) (B : Bl (hp w.params) mg) : Cal P w (hp w.params) mg base 3 "_law_due" ["_law_p", "_law_q", "_law_s"] (sp_l_due (hp w.params)) := by
  have F := fn_mk (K := hp w.params) (st := s_l_due) (f := 158) (c := 157) (n := "_law_due") (pm := mo4) (by kernel_rfl) (by kernel_rfl) (by kernel_rfl)
  exact cal_mk X G (ok_l_due F B (C_degree X G B) (C_ratio X G B)) (F.binds fun _ _ _ _ _ _ us hl => by obtain ⟨_, _, _, rfl⟩ := arg3 us hl; rfl) (by kernel_rfl) (by kernel_rfl)
theorem C_p_plus (X : (hp w.params).In h) (G : h.Ns mainGlobals mg) (B : Bl (hp w.params) mg) : Cal P w (hp w.params) mg base 4 "p_plus" ["P", "Q"] (sp_p_plus (hp w.params)) := by
  have F := fn_mk (K := hp w.params) (st := s_p_plus) (f := 99) (c := 98) (n := "p_plus") (pm := mo2) (by kernel_rfl) (by kernel_rfl) (by kernel_rfl)
  exact cal_mk X G (ok_p_plus F B (C_number_of X G B) (C_plus X G B) (C_poly X G B)) (F.binds fun _ _ _ _ _ _ us hl => by obtain ⟨_, _, rfl⟩ := arg2 us hl; rfl) (by kernel_rfl) (by kernel_rfl)
theorem C_p_times (X : (hp w.params).In h) (G : h.Ns mainGlobals mg) (B : Bl (hp w.params) mg) : Cal P w (hp w.params) mg base 4 "p_times" ["P", "Q"] (sp_p_times (hp w.params)) := by
  have F := fn_mk (K := hp w.params) (st := s_p_times) (f := 106) (c := 105) (n := "p_times") (pm := mo2) (by kernel_rfl) (by kernel_rfl) (by kernel_rfl)
  exact cal_mk X G (ok_p_times F B (C_cleared X G B) (C_row_times X G B) (C_uncleared X G B)) (F.binds fun _ _ _ _ _ _ us hl => by obtain ⟨_, _, rfl⟩ := arg2 us hl; rfl) (by kernel_rfl) (by kernel_rfl)
theorem C_p_slope (X : (hp w.params).In h) (G : h.Ns mainGlobals mg) (B : Bl (hp w.params) mg) : Cal P w (hp w.params) mg base 4 "p_slope" ["P"] (sp_p_slope (hp w.params)) := by
  have F := fn_mk (K := hp w.params) (st := s_p_slope) (f := 111) (c := 110) (n := "p_slope") (pm := mo2) (by kernel_rfl) (by kernel_rfl) (by kernel_rfl)
  exact cal_mk X G (ok_p_slope F B (C_times X G B)) (F.binds fun _ _ _ _ _ _ us hl => by obtain ⟨_, rfl⟩ := arg1 us hl; rfl) (by kernel_rfl) (by kernel_rfl)
theorem C_top_by (X : (hp w.params).In h) (G : h.Ns mainGlobals mg) (B : Bl (hp w.params) mg) : Cal P w (hp w.params) mg base 4 "top_by" ["p", "q", "S"] (sp_top_by (hp w.params)) := by
  have F := fn_mk (K := hp w.params) (st := s_top_by) (f := 125) (c := 124) (n := "top_by") (pm := mo3) (by kernel_rfl) (by kernel_rfl) (by kernel_rfl)
  exact cal_mk X G (ok_top_by F B (C_degree X G B) (C_minus X G B) (C_over X G B)) (F.binds fun _ _ _ _ _ _ us hl => by obtain ⟨_, _, _, rfl⟩ := arg3 us hl; rfl) (by kernel_rfl) (by kernel_rfl)
theorem C_l_row (X : (hp w.params).In h) (G : h.Ns mainGlobals mg) (B : Bl (hp w.params) mg) : Cal P w (hp w.params) mg base 4 "_law_row" ["_law_draws_here", "_law_size"] (sp_l_row (hp w.params)) := by
  have F := fn_mk (K := hp w.params) (st := s_l_row) (f := 151) (c := 150) (n := "_law_row") (pm := mo4) (by kernel_rfl) (by kernel_rfl) (by kernel_rfl)
  exact cal_mk X G (ok_l_row F B (C_l_number X G B) (C_poly X G B)) (F.binds fun _ _ _ _ _ _ us hl => by obtain ⟨_, _, rfl⟩ := arg2 us hl; rfl) (by kernel_rfl) (by kernel_rfl)
theorem C_top_for (X : (hp w.params).In h) (G : h.Ns mainGlobals mg) (B : Bl (hp w.params) mg) : Cal P w (hp w.params) mg base 5 "top_for" ["p", "q", "s"] (sp_top_for (hp w.params)) := by
  have F := fn_mk (K := hp w.params) (st := s_top_for) (f := 118) (c := 117) (n := "top_for") (pm := mo3) (by kernel_rfl) (by kernel_rfl) (by kernel_rfl)
  exact cal_mk X G (ok_top_for F B (C_degree X G B) (C_top_by X G B)) (F.binds fun _ _ _ _ _ _ us hl => by obtain ⟨_, _, _, rfl⟩ := arg3 us hl; rfl) (by kernel_rfl) (by kernel_rfl)
end
theorem all_mk {l : PySem.W.OpenLaw} {w : World} {h : Heap} {mg : Str → Option Value} {fa : Addr} (X : (hp w.params).In h) (G : h.Ns mainGlobals mg) (hfa : mg "law" = some (.ref fa))
    : ∃ fd : FuncData, (∀ (s : Shared) (v : Value), BindsTo s fd ⟨[v], []⟩ [("_law_script", v)]) ∧ ∀ base : Heap, (hp w.params).In base → base.Ns mainGlobals mg → FnOk l.prog w (hp w.params) mg base CX0 6 fa fd ["_law_script"] (sp_law (hp w.params)) := by
  have e := hfa.symm.trans (PySem.W.mg_of X G (n := "law") (v := .ref 163) (by kernel_rfl))
  cases e
  have B : Bl (hp w.params) mg := ⟨PySem.W.mg_none_of X G (by kernel_rfl), PySem.W.mg_none_of X G (by kernel_rfl), PySem.W.mg_none_of X G (by kernel_rfl), PySem.W.mg_none_of X G (by kernel_rfl), PySem.W.mg_none_of X G (by kernel_rfl), PySem.W.mg_none_of X G (by kernel_rfl), PySem.W.mg_none_of X G (by kernel_rfl), PySem.W.mg_none_of X G (by kernel_rfl), PySem.W.mg_none_of X G (by kernel_rfl)⟩
  have FL := fn_mk (K := hp w.params) (st := s_law) (f := 163) (c := 162) (n := "law") (pm := mo4) (by kernel_rfl) (by kernel_rfl) (by kernel_rfl)
  refine ⟨PySem.W.fnOf "law" "law" (defArgs s_law) (defBody s_law) (defScope s_law) .none .none .none mo4 none (.ref 162) .none, fun s v => .of_eq rfl, fun base _ _ => ?_⟩
  exact ok_law FL B (C_l_draws X G B) (C_l_number X G B) (C_poly X G B) (C_l_row X G B) (C_degree X G B) (C_ratio X G B) (C_p_slope X G B) (C_p_times X G B) (C_p_plus X G B) (C_top_for X G B) (C_l_due X G B)
theorem walk {l : PySem.W.OpenLaw} {q : Program} {loose : List Str} {XP : (Str → Option Value) → Heap → Prop} {YP : World → Heap → Prop} {d : DefRec} {K : Params → W.Frag} (hn : l.most = some 63) (hdf : d.params.defaults = []) (hq : importsNone q = true) (ht : ∀ w, (model l.prog w).prog.given.tree = none)
    (hY : ∀ (w : World) (h : Heap), YP w h → (K w.params).In h)
    (F : ∀ (w : World) (mg : Str → Option Value) (fa : Addr) (h : Heap), (K w.params).In h → h.Ns mainGlobals mg → mg d.name = some (.ref fa) →
      ∃ fd : FuncData, (∀ (s : Shared) (u : Value), BindsTo s fd ⟨[u], []⟩ [("_law_script", u)]) ∧ ∀ base : Heap, (K w.params).In base → base.Ns mainGlobals mg → FnOk l.prog w (K w.params) mg base CX0 6 fa fd ["_law_script"] (sp_law (K w.params))) :
    PySem.W.WalkO q loose XP YP l.row.toRowW d [] (fun f vs => PySem.call f vs) :=
  L2.walk_of (n := 63) (k := 6) (x := "_law_script") (CX := fun _ => CX0) (sp := fun w => sp_law (K w.params)) hn (by decide) hdf hq ht ⟨rfl, by decide, by decide⟩ hY F (fun _ _ a ns hl _ hS => ⟨a, ns, rfl, hS, hl, fun _ => rfl⟩) fun _ _ _ _ _ z => z
end Bs
open PySem PySem.W PyProof.Rows
set_option maxRecDepth 100000 in
set_option maxHeartbeats 0 in
theorem PySem.Challenge.cw_backslope_k64_tops_holds : PySem.Challenge.rw_backslope_k64_tops.Holds := by
  w_on; o_law
  refine PySem.W.holds_open (q := Bs.Hd.vw) (loose := []) (Xt := fun s => PySem.W.xlAt Bs.Hd.vw [] s && PySem.W.recOk (PySem.W.RowW.records (PySem.W.OpenRow.toRowW (PySem.W.OpenLaw.row PySem.Challenge.rw_backslope_k64_tops))) s) (XP := PySem.W.XL Bs.Hd.vw []) (Yf := Bs.Hd.hk.obs) (Ya := Bs.Hd.hk.val) (YP := Bs.Hd.hk.says) (N := 1598) Bs.Hd.left Bs.Hd.hk.of Bs.Hd.hk.keeps (fun s e => PySem.W.xl_of s (Bool.and_eq_true_iff.mp e).1) PySem.W.XL.keeps (by rfl) (by rfl) (by rfl) (fun s e => PySem.W.recFacts_of (Bool.and_eq_true_iff.mp e).2) (by rfl) (by first | assumption | decide +kernel) (by decide +kernel) ⟨rfl, rfl, rfl, rfl, rfl, by decide +kernel⟩ ?hw ?hc
  case hw => w_witness2
  case hc => exact Bs.walk (l := PySem.Challenge.rw_backslope_k64_tops) (K := Bs.Hd.hp) rfl rfl (by decide +kernel) (fun _ => rfl) (fun w h Y => Y) (fun w mg fa h KX G hmg => Bs.all_mk KX G hmg)
#print axioms PySem.Challenge.cw_backslope_k64_tops_holds
