import PyProof.Rows.All
import Wide.All
import OpenK.AllK
import Wide.FinOn
import Lean
import PyProof.EqAt
import PyProof.EqKinds
import PyProof.TupleCall
import PySem.Challenge.RW_backslope_k06_worths_and_moves
set_option Elab.async false
set_option linter.all false
set_option maxRecDepth 100000
/-! THE HAND LAYER, for ints, bools, texts, own classes, LISTS and tuples (index, slices, in, append, pop ..), calls, loops. Paste it whole ahead of your own text; what your proof does not reach may be deleted. -/
namespace L2
open PySem PySem.Spec PyProof.Rows

/-- a key: an int or a str -/
abbrev Key := Sum Int Str
def keyIs : Key → Value → Bool
  | .inl k, v => Value.isInt k v
  | .inr x, v => Value.isStrOf x v
def keyH (w : World) : Key → Int
  | .inl k => hashInt k
  | .inr x => hashStr w x
theorem keyIs_shape : ∀ {k : Key} {v : Value}, keyIs k v = true → (∃ i t, k = Sum.inl i ∧ v = Value.int i t) ∨ (∃ x t, k = Sum.inr x ∧ v = Value.str x t)
  | .inl i, v, h => by
    obtain ⟨t, e⟩ := Value.isInt_shape (k := i) (v := v) h
    exact .inl ⟨i, t, rfl, e⟩
  | .inr x, v, h => by
    obtain ⟨t, e⟩ := Value.isStrOf_shape (x := x) (v := v) h
    exact .inr ⟨x, t, rfl, e⟩
theorem keyIs_int (i : Int) (t : Tok) : keyIs (.inl i) (.int i t) = true := by simp [keyIs, Value.isInt]
theorem keyIs_str (x : Str) (t : Tok) : keyIs (.inr x) (.str x t) = true := by simp [keyIs, Value.isStrOf]
theorem key_ll (a b : Int) : decide ((Sum.inl a : Key) = Sum.inl b) = (a == b) := by
  by_cases e : a = b
  · subst e; simp
  · have h : ¬ (Sum.inl a : Key) = Sum.inl b := fun q => e (Sum.inl.inj q)
    rw [decide_eq_false h]
    exact (beq_eq_false_iff_ne.mpr e).symm
theorem key_rr (a b : Str) : decide ((Sum.inr a : Key) = Sum.inr b) = decide (a = b) := by
  by_cases e : a = b
  · subst e; simp
  · have h : ¬ (Sum.inr a : Key) = Sum.inr b := fun q => e (Sum.inr.inj q)
    rw [decide_eq_false h, decide_eq_false e]
theorem key_lr (a : Int) (b : Str) : decide ((Sum.inl a : Key) = Sum.inr b) = false := decide_eq_false (fun q => nomatch q)
theorem key_rl (a : Str) (b : Int) : decide ((Sum.inr a : Key) = Sum.inl b) = false := decide_eq_false (fun q => nomatch q)

def mixKind (prog : Program) (w : World) : PySem.KeyKind prog w Key where
  is := keyIs
  hash := keyH w
  inj := fun v a b ha hb => by
    rcases keyIs_shape ha with ⟨i, t, rfl, rfl⟩ | ⟨x, t, rfl, rfl⟩
    · rcases keyIs_shape hb with ⟨j, u, rfl, e⟩ | ⟨y, u, rfl, e⟩
      · injection e with e1 _; rw [e1]
      · exact nomatch e
    · rcases keyIs_shape hb with ⟨j, u, rfl, e⟩ | ⟨y, u, rfl, e⟩
      · exact nomatch e
      · injection e with e1 _; rw [e1]
  byValue := fun k v h => by
    rcases keyIs_shape h with ⟨i, t, rfl, rfl⟩ | ⟨x, t, rfl, rfl⟩ <;> rfl
  pyHash := fun hv h => by
    rcases keyIs_shape hv with ⟨i, t, rfl, rfl⟩ | ⟨x, t, rfl, rfl⟩
    · exact wpAny_pyHash_int h
    · exact wpAny_pyHash_str h
  eqBool := fun hu hv h => by
    rcases keyIs_shape hu with ⟨i, t, rfl, rfl⟩ | ⟨x, t, rfl, rfl⟩
    · rcases keyIs_shape hv with ⟨j, u, rfl, rfl⟩ | ⟨y, u, rfl, rfl⟩
      · rw [key_ll] at h; exact wpAny_eqBool_int h
      · rw [key_lr] at h; exact SeqAt.EqAt.int_str i t y u _ _ _ _ h
    · rcases keyIs_shape hv with ⟨j, u, rfl, rfl⟩ | ⟨y, u, rfl, rfl⟩
      · rw [key_rl] at h; exact SeqAt.EqAt.str_int x t j u _ _ _ _ h
      · rw [key_rr] at h; exact wpAny_eqBool_str h
  «strs» := fun k x t v h => by
    rcases keyIs_shape h with ⟨i, u, rfl, e⟩ | ⟨y, u, rfl, e⟩
    · exact nomatch e
    · injection e with e1 _
      subst e1
      cases v <;> rfl

theorem mixKind_is (prog : Program) (w : World) (k : Key) (v : Value) : (mixKind prog w).is k v = keyIs k v := rfl
theorem mixKind_int (prog : Program) (w : World) (i : Int) (t : Tok) : (mixKind prog w).is (.inl i) (.int i t) = true := keyIs_int i t
theorem mixKind_str (prog : Program) (w : World) (x : Str) (t : Tok) : (mixKind prog w).is (.inr x) (.str x t) = true := keyIs_str x t
end L2

namespace L2
open PySem PySem.Spec PyProof.Rows

/-- a value, without the heap -/
inductive V where
  | non | bl (b : Bool) | int (i : Int) | str (x : Str) | byt (b : Array UInt8) | flt (b : UInt64) | ref (a : Addr) | ty (n : String)
  deriving DecidableEq

def RelV : V → Value → Prop
  | .non, u => u = Value.none
  | .bl b, u => u = Value.bool b
  | .int i, u => ∃ t, u = Value.int i t
  | .str x, u => ∃ t, u = Value.str x t
  | .byt b, u => ∃ t, u = Value.bytes b t
  | .flt b, u => ∃ t, u = Value.float b t
  | .ref a, u => u = Value.ref a
  | .ty n, u => u = Value.type n

abbrev Vals : List V → List Value → Prop := Paired RelV
theorem Vals.length {xs : List V} {us : List Value} (r : Vals xs us) : xs.length = us.length := Paired.length r
theorem Vals.get : ∀ {xs : List V} {us : List Value} {i : Nat} {x : V}, Vals xs us → xs[i]? = some x → ∃ u, us[i]? = some u ∧ RelV x u
  | _, _, _, _, .nil, e => by simp at e
  | _, _, 0, _, .cons r _, e => by simp at e; subst e; exact ⟨_, rfl, r⟩
  | _, _, i + 1, x, .cons _ t, e => by
    obtain ⟨u, h1, h2⟩ := Vals.get (i := i) (x := x) t (by simpa using e)
    exact ⟨u, by simpa using h1, h2⟩
theorem Vals.set {x : V} {u : Value} (r : RelV x u) : ∀ {xs : List V} {us : List Value} (i : Nat), Vals xs us → Vals (xs.set i x) (us.set i u)
  | _, _, _, .nil => .nil
  | _, _, 0, .cons _ t => .cons r t
  | _, _, i + 1, .cons q t => .cons q (Vals.set r i t)
theorem Vals.append : ∀ {xs ys : List V} {us ws : List Value}, Vals xs us → Vals ys ws → Vals (xs ++ ys) (us ++ ws)
  | _, _, _, _, .nil, s => s
  | _, _, _, _, .cons r t, s => .cons r (Vals.append t s)
theorem Vals.take : ∀ {xs : List V} {us : List Value} (n : Nat), Vals xs us → Vals (xs.take n) (us.take n)
  | _, _, 0, _ => .nil
  | _, _, _ + 1, .nil => .nil
  | _, _, n + 1, .cons r t => .cons r (Vals.take n t)
theorem Vals.drop : ∀ {xs : List V} {us : List Value} (n : Nat), Vals xs us → Vals (xs.drop n) (us.drop n)
  | _, _, 0, r => r
  | _, _, _ + 1, .nil => .nil
  | _, _, n + 1, .cons _ t => Vals.drop n t
theorem Vals.none_of : ∀ {xs : List V} {us : List Value} {i : Nat}, Vals xs us → xs[i]? = none → us[i]? = none := fun {xs us i} r e => by
  have h1 := r.length
  have h2 : xs.length ≤ i := List.getElem?_eq_none_iff.mp e
  exact List.getElem?_eq_none_iff.mpr (by omega)

def RelO : Option V → Option Value → Prop
  | some v, some u => RelV v u
  | none, none => True
  | _, _ => False
def KV {κ : Type} : List (κ × V) → List (κ × Value) → Prop := Paired fun (p : κ × V) (q : κ × Value) => p.1 = q.1 ∧ RelV p.2 q.2

/-- a key of a dict (00_mix): an int or a text -/
def kV : Key → V
  | .inl i => .int i
  | .inr x => .str x

/-- what stands at a tracked address -/
inductive HO where
  /-- a list -/
  | lst (xs : List V)
  /-- a tuple (never changes) -/
  | tup (xs : List V)
  /-- a dict whose keys are ints and texts; one whose keys are tuples of ints and texts (the empty one is both) -/
  | dK (kvs : List (Key × V)) | dT (kvs : List (List Key × V))
  /-- a set of ints: its members, its size -/
  | set (S : Int → Bool) (n : Nat)
  /-- an instance of the class at C, its dict at dx, its attributes -/
  | ins (C dx : Addr) (fs : List (Str × V))
  /-- the dict of the instance at x -/
  | own (x : Addr)
  /-- the dict of an exception -/
  | xd (fs : List (Str × V))
  /-- a bound method, f of x -/
  | met (f x : Addr)
  /-- a range object lo, lo + 1, .. below hi -/
  | rng (lo hi : Int)
  /-- a thing that is known to the object (the script; a dict while a loop walks it): read, never written while it is so -/
  | frz (o : Obj) (u : HO)
  /-- a code object's table -/
  | tbl (ps : Array Value)
  /-- any other thing, by what is true of its one object (a def of one's own: SetO a S n := HO.ext fun h => ..) -/
  | ext (φ : Heap → Prop)

abbrev Hp := Addr → Option HO
def upd (H : Hp) (a : Addr) (o : HO) : Hp := fun b => if b = a then some o else H b
theorem upd_same {H : Hp} {a : Addr} {o : HO} : upd H a o a = some o := by unfold upd; rw [if_pos rfl]
theorem upd_ne {H : Hp} {a b : Addr} {o : HO} (h : b ≠ a) : upd H a o b = H b := by unfold upd; rw [if_neg h]
theorem upd_upd {H : Hp} {a : Addr} {o u : HO} : upd (upd H a o) a u = upd H a u := by
  funext b; unfold upd; split <;> rfl
/-- two objects of different content stand apart -/
theorem ne_of {H : Hp} {a b : Addr} {o u : HO} (h : H a = some o) (h' : H b = some u) (d : o ≠ u) : a ≠ b := by
  intro e; subst e; rw [h] at h'; exact d (Option.some.inj h')
theorem ne_of_none {H : Hp} {a b : Addr} {o : HO} (h : H a = some o) (h' : H b = none) : a ≠ b := by
  intro e; subst e; rw [h] at h'; cases h'

section
variable (P : Program) (w : World)
def ObjOk (H : Hp) (h : Heap) (a : Addr) : HO → Prop
  | .lst xs => xs.length ≤ sizeLine ∧ ∃ (its : List Value) (n : Nat), Vals xs its ∧ h.get? a = some { cls := .type "list", data := .seq its.toArray n }
  | .tup xs => xs.length ≤ sizeLine ∧ ∃ its : List Value, Vals xs its ∧ IsTup h a its.toArray
  | .dK kvs => kvs.length ≤ sizeLine ∧ (a == sysModules) = false ∧ ∃ vs, KV kvs vs ∧ h.DictOf (mixKind P w) a vs
  | .dT kvs => kvs.length ≤ sizeLine ∧ (a == sysModules) = false ∧ ∃ xs : List (List Key × Addr × Value),
      Paired (fun (p : List Key × V) (q : List Key × Addr × Value) => p.1 = q.1 ∧ H q.2.1 = some (.tup (p.1.map kV)) ∧ RelV p.2 q.2.2) kvs xs ∧
      ∃ o es ep, h.get? a = some o ∧ o.ExactDict ∧ o.data = .dict es ep ∧ es.toList = xs.map (entryOfKey (tupleKind (mixKind P w))) ∧ (xs.map (·.1)).Nodup
  | .set S n => h.SetOf (intKind P w) a S n
  | .ins C dx fs => H dx = some (.own a) ∧ fs.length ≤ 1000 ∧ dx ≠ a ∧ h.get? a = some (PySem.W.instObj C dx) ∧
      ∃ mA, h.Ns1 dx mA ∧ (∀ f, RelO (fs.lookup f) (mA f)) ∧ PySem.Within mA (fs.map (·.1))
  | .own _ => ∃ o, h.get? a = some o
  | .xd fs => ∃ mA, h.Ns1 a mA ∧ ∀ f, RelO (fs.lookup f) (mA f)
  | .rng lo hi => ∃ t u v, h.get? a = some { cls := .type "range", data := .fields #[.int lo t, .int hi u, .int 1 v] }
  | .frz o u => h.get? a = some o ∧ ObjOk H h a u
  | .tbl ps => h.get? a = some { cls := .none, data := .fields ps }
  | .met f x => h.get? a = some (PySem.W.methodObj (.ref f) (.ref x))
  | .ext φ => φ h ∧ (∃ o, h.get? a = some o) ∧ ∀ h1 h2 : Heap, φ h1 → (∀ o, h1.get? a = some o → h2.get? a = some o) → φ h2
/-- the abstract heap is held -/
def HOk (H : Hp) (h : Heap) : Prop := ∀ a o, H a = some o → ObjOk P w H h a o
end

section
variable {P : Program} {w : World} {H H' : Hp} {h h' : Heap} {a : Addr} {o : HO}
theorem ObjOk.lt (x : ObjOk P w H h a o) : a < h.objs.size := by
  cases o with
  | lst xs => obtain ⟨_, _, _, _, e⟩ := x; exact Heap.lt_size e
  | tup xs => obtain ⟨_, _, _, p⟩ := x; exact p.lt
  | dK kvs => obtain ⟨_, _, _, _, o, _, _, e, _⟩ := x; exact Heap.lt_size e
  | dT kvs => obtain ⟨_, _, _, _, o, _, _, e, _⟩ := x; exact Heap.lt_size e
  | set S n => obtain ⟨o, _, _, _, e, _⟩ := x; exact Heap.lt_size e
  | ins C dx fs => obtain ⟨_, _, _, e, _⟩ := x; exact Heap.lt_size e
  | own y => obtain ⟨_, e⟩ := x; exact Heap.lt_size e
  | xd fs => obtain ⟨_, ⟨_, _, _, e, _⟩, _⟩ := x; exact Heap.lt_size e
  | rng lo hi => obtain ⟨_, _, _, e⟩ := x; exact Heap.lt_size e
  | frz ob u => obtain ⟨e, _⟩ := x; exact Heap.lt_size e
  | tbl ps => exact Heap.lt_size (show h.get? a = some _ from x)
  | met f y => exact Heap.lt_size (show h.get? a = some _ from x)
  | ext φ => obtain ⟨_, ⟨_, e⟩, _⟩ := x; exact Heap.lt_size e
theorem Paired.mapP {α β : Type} {F G : α → β → Prop} : ∀ {l₁ : List α} {l₂ : List β}, Paired F l₁ l₂ → (∀ a b, F a b → G a b) → Paired G l₁ l₂
  | _, _, .nil, _ => .nil
  | _, _, .cons r t, f => .cons (f _ _ r) (Paired.mapP t f)
theorem Paired.imp' {α β : Type} {F G : α → β → Prop} (f : ∀ a b, F a b → G a b) {l₁ : List α} {l₂ : List β} (r : Paired F l₁ l₂) : Paired G l₁ l₂ := Paired.mapP r f
/-- what an object's description leans on: its own object, its own dict, the tuples -/
theorem ObjOk.stay (x : ObjOk P w H h a o) (k : ∀ b u, (b = a ∨ H b = some (.own a)) → h.get? b = some u → h'.get? b = some u)
    (ho : ∀ b, H b = some (.own a) → H' b = some (.own a)) (ht : ∀ b xs, H b = some (.tup xs) → H' b = some (.tup xs)) : ObjOk P w H' h' a o := by
  induction o with
  | lst xs => obtain ⟨z, its, n, r, e⟩ := x; exact ⟨z, its, n, r, k _ _ (.inl rfl) e⟩
  | tup xs => obtain ⟨z, its, r, ob, e, c⟩ := x; exact ⟨z, its, r, ob, k _ _ (.inl rfl) e, c⟩
  | dK kvs => obtain ⟨z, y, vs, r, ob, es, ep, e, c⟩ := x; exact ⟨z, y, vs, r, ob, es, ep, k _ _ (.inl rfl) e, c⟩
  | dT kvs =>
    obtain ⟨z, y, xs, r, ob, es, ep, e, c⟩ := x
    exact ⟨z, y, xs, Paired.mapP r fun p q z => ⟨z.1, ht _ _ z.2.1, z.2.2⟩, ob, es, ep, k _ _ (.inl rfl) e, c⟩
  | set S n => obtain ⟨ob, es, ep, t, e, c⟩ := x; exact ⟨ob, es, ep, t, k _ _ (.inl rfl) e, c⟩
  | ins C dx fs =>
    obtain ⟨d, z, ne, e, mA, ⟨od, es, ep, e2, c⟩, r⟩ := x
    exact ⟨ho _ d, z, ne, k _ _ (.inl rfl) e, mA, ⟨od, es, ep, k _ _ (.inr d) e2, c⟩, r⟩
  | own y => obtain ⟨ob, e⟩ := x; exact ⟨ob, k _ _ (.inl rfl) e⟩
  | xd fs => obtain ⟨mA, ⟨od, es, ep, e, c⟩, r⟩ := x; exact ⟨mA, ⟨od, es, ep, k _ _ (.inl rfl) e, c⟩, r⟩
  | rng lo hi => obtain ⟨t, u, v, e⟩ := x; exact ⟨t, u, v, k _ _ (.inl rfl) e⟩
  | frz ob u ih => obtain ⟨e, q⟩ := x; exact ⟨k _ _ (.inl rfl) e, ih q⟩
  | tbl ps =>
    have e : h.get? a = some { cls := .none, data := .fields ps } := x
    show h'.get? a = some { cls := .none, data := .fields ps }
    exact k a _ (.inl rfl) e
  | met f y =>
    have e : h.get? a = some (PySem.W.methodObj (.ref f) (.ref y)) := x
    show h'.get? a = some (PySem.W.methodObj (.ref f) (.ref y))
    exact k a _ (.inl rfl) e
  | ext φ => obtain ⟨p, ⟨o, e⟩, st⟩ := x; exact ⟨st _ _ p fun o q => k _ _ (.inl rfl) q, ⟨o, k _ _ (.inl rfl) e⟩, st⟩
theorem HOk.lt (x : HOk P w H h) (e : H a = some o) : a < h.objs.size := (x a o e).lt
theorem HOk.fresh (x : HOk P w H h) (e : h.objs.size ≤ a) : H a = none := by
  cases q : H a with
  | none => rfl
  | some u => exact absurd (Nat.lt_of_lt_of_le (x.lt q) e) (Nat.lt_irrefl _)
/-- every object of the heap is kept -/
theorem HOk.kept (x : HOk P w H h) (k : ∀ b u, h.get? b = some u → h'.get? b = some u) : HOk P w H h' := fun a o e =>
  (x a o e).stay (fun b u _ q => k b u q) (fun _ q => q) fun _ _ q => q
/-- a new object is laid and tracked -/
theorem HOk.laid (x : HOk P w H h) (k : ∀ b u, h.get? b = some u → h'.get? b = some u) (hp : h.objs.size ≤ a) (new : ObjOk P w (upd H a o) h' a o) : HOk P w (upd H a o) h' := fun b u e => by
  have hn := x.fresh hp
  by_cases hb : b = a
  · subst hb; rw [upd_same] at e; cases e; exact new
  · rw [upd_ne hb] at e
    exact (x b u e).stay (fun c v _ q => k c v q) (fun c q => by rw [upd_ne (ne_of_none q hn)]; exact q) fun c xs q => by rw [upd_ne (ne_of_none q hn)]; exact q
end

/-- what may be read as u: it is u, or a known u -/
def Rd (H : Hp) (a : Addr) (u : HO) : Prop := H a = some u ∨ ∃ o, H a = some (.frz o u)
theorem Rd.of {H : Hp} {a : Addr} {u : HO} (h : H a = some u) : Rd H a u := .inl h
theorem Rd.ok {P : Program} {w : World} {H : Hp} {h : Heap} {a : Addr} {u : HO} (r : Rd H a u) (x : HOk P w H h) : ObjOk P w H h a u := by
  rcases r with r | ⟨o, r⟩
  · exact x a u r
  · obtain ⟨_, q⟩ := x a _ r
    exact q
/-- what may be written -/
def Mut : Option HO → Prop
  | some (.lst _) => True
  | some (.dK _) => True
  | some (.dT _) => True
  | some (.set _ _) => True
  | some (.ins _ _ _) => True
  | some (.ext _) => True
  | _ => False
section
variable {P : Program} {w : World} {H : Hp} {h h' : Heap} {x e : Addr} {o' : HO}
/-- the object at e is changed: x itself, or the dict of the instance x -/
theorem HOk.write (ok : HOk P w H h) (mu : Mut (H x)) (he : e = x ∨ H e = some (.own x)) (k : ∀ b u, b ≠ e → h.get? b = some u → h'.get? b = some u) (heo : ∃ u, h'.get? e = some u)
    (new : ObjOk P w (upd H x o') h' x o') : HOk P w (upd H x o') h' := fun b u q => by
  have nown : ∀ c y, H c = some (.own y) → c ≠ x := fun c y r z => by subst z; rw [r] at mu; exact mu
  have ntup : ∀ c xs, H c = some (.tup xs) → c ≠ x := fun c xs r z => by subst z; rw [r] at mu; exact mu
  by_cases hb : b = x
  · subst hb; rw [upd_same] at q; cases q; exact new
  · rw [upd_ne hb] at q
    by_cases hbe : b = e
    · have q' : H b = some (.own x) := by
        rcases he with z | z
        · exact absurd (hbe.trans z) hb
        · rw [hbe]; exact z
      rw [q] at q'; cases q'
      obtain ⟨v, hv⟩ := heo
      exact ⟨v, by rw [hbe]; exact hv⟩
    · refine (ok b u q).stay (fun c v hc r => k c v ?_ r) (fun c r => by rw [upd_ne (nown c b r)]; exact r) fun c xs r => by rw [upd_ne (ntup c xs r)]; exact r
      rcases hc with rfl | hc
      · exact hbe
      · rintro rfl
        rcases he with z | z
        · exact nown c b hc z
        · rw [hc] at z; cases z; exact hb rfl
end

/-! ### kept unless tracked; of the frames at fs (the callers') the slots may change (an exception that passes writes there); of the records at ex (iterators) nothing is said -/
structure Un (fs ex : List Addr) (H H' : Hp) (h h' : Heap) : Prop where
  keep : ∀ b o, h.get? b = some o → H b = none → b ∉ fs → b ∉ ex → h'.get? b = some o
  slot : ∀ b o, h.get? b = some o → H b = none → b ∈ fs → b ∉ ex → ∃ sl, h'.get? b = some { o with slots := sl }
  free : ∀ b o, h.get? b = some o → H b = none → b ∉ ex → H' b = none
  there : ∀ b o, h.get? b = some o → b ∉ ex → ∃ o', h'.get? b = some o'
  tups : ∀ b xs, H b = some (.tup xs) → H' b = some (.tup xs)
  frzs : ∀ b o u, H b = some (.frz o u) → H' b = some (.frz o u)
  tbls : ∀ b ps, H b = some (.tbl ps) → ∃ more, H' b = some (.tbl (ps ++ more))
section
variable {fs fs' ex ex' : List Addr} {H H1 H2 : Hp} {h h1 h2 h' : Heap} {a x e : Addr} {o : HO}
theorem Un.any (u : Un fs ex H H1 h h1) {b : Addr} {ob : Obj} (q : h.get? b = some ob) (n : H b = none) (hx : b ∉ ex) : ∃ sl, h1.get? b = some { ob with slots := sl } := by
  by_cases hb : b ∈ fs
  · exact u.slot b ob q n hb hx
  · exact ⟨ob.slots, u.keep b ob q n hb hx⟩
theorem Un.trans (a : Un fs ex H H1 h h1) (b : Un fs ex H1 H2 h1 h2) : Un fs ex H H2 h h2 where
  keep := fun c ob q n hc hx => b.keep c ob (a.keep c ob q n hc hx) (a.free c ob q n hx) hc hx
  slot := fun c ob q n hc hx => by
    obtain ⟨sl, e1⟩ := a.slot c ob q n hc hx
    obtain ⟨sl', e2⟩ := b.slot c _ e1 (a.free c ob q n hx) hc hx
    exact ⟨sl', e2⟩
  free := fun c ob q n hx => by
    obtain ⟨o', e1⟩ := a.there c ob q hx
    exact b.free c o' e1 (a.free c ob q n hx) hx
  there := fun c ob q hx => by
    obtain ⟨o', e1⟩ := a.there c ob q hx
    exact b.there c o' e1 hx
  tups := fun c xs q => b.tups c xs (a.tups c xs q)
  frzs := fun c ob xs q => b.frzs c ob xs (a.frzs c ob xs q)
  tbls := fun c ps q => by
    obtain ⟨m1, e1⟩ := a.tbls c ps q
    obtain ⟨m2, e2⟩ := b.tbls c _ e1
    exact ⟨m1 ++ m2, by rw [e2, Array.append_assoc]⟩
theorem Un.kept (k : ∀ b u, h.get? b = some u → h'.get? b = some u) : Un fs ex H H h h' :=
  ⟨fun b ob q _ _ _ => k b ob q, fun b ob q _ _ _ => ⟨ob.slots, k b ob q⟩, fun _ _ _ n _ => n, fun b ob q _ => ⟨ob, k b ob q⟩, fun _ _ q => q, fun _ _ _ q => q, fun _ ps q => ⟨#[], by rw [q]; simp⟩⟩
theorem Un.refl : Un fs ex H H h h := Un.kept fun _ _ q => q
theorem Un.laid (k : ∀ b u, h.get? b = some u → h'.get? b = some u) (hp : h.objs.size ≤ a) (hn : H a = none) : Un fs ex H (upd H a o) h h' where
  keep := fun b u q _ _ _ => k b u q
  slot := fun b u q _ _ _ => ⟨u.slots, k b u q⟩
  free := fun b u q n _ => by rw [upd_ne (Nat.ne_of_lt (Nat.lt_of_lt_of_le (Heap.lt_size q) hp))]; exact n
  there := fun b u q _ => ⟨u, k b u q⟩
  tups := fun b xs q => by rw [upd_ne (ne_of_none q hn)]; exact q
  frzs := fun b u xs q => by rw [upd_ne (ne_of_none q hn)]; exact q
  tbls := fun b ps q => ⟨#[], by rw [upd_ne (ne_of_none q hn), q]; simp⟩
theorem Un.write (mu : Mut (H x)) (he : e = x ∨ H e = some (.own x)) (k : ∀ b u, b ≠ e → h.get? b = some u → h'.get? b = some u) (heo : ∃ u, h'.get? e = some u) : Un fs ex H (upd H x o) h h' := by
  have hx : ∀ b, H b = none → b ≠ x := fun b n z => by subst z; rw [n] at mu; exact mu
  have hb : ∀ b, H b = none → b ≠ e := fun b n z => by
    subst z
    rcases he with r | r
    · exact hx b n r
    · rw [n] at r; cases r
  have hm : ∀ b u, H b = some u → ¬ Mut (some u) → b ≠ x := fun b u q nm z => by subst z; rw [q] at mu; exact nm mu
  refine ⟨fun b u q n _ _ => k b u (hb b n) q, fun b u q n _ _ => ⟨u.slots, k b u (hb b n) q⟩, fun b u q n _ => by rw [upd_ne (hx b n)]; exact n, fun b u q _ => ?_,
    fun b xs q => by rw [upd_ne (hm b _ q fun z => z)]; exact q, fun b u xs q => by rw [upd_ne (hm b _ q fun z => z)]; exact q, fun b ps q => ⟨#[], by rw [upd_ne (hm b _ q fun z => z), q]; simp⟩⟩
  by_cases hbe : b = e
  · subst hbe; exact heo
  · exact ⟨u, k b u hbe q⟩
theorem Un.mono (u : Un fs ex H H1 h h1) (hs : ∀ b ∈ fs, b ∈ fs') (hx : ∀ b ∈ ex, b ∈ ex') : Un fs' ex' H H1 h h1 :=
  ⟨fun b ob q n hb he => u.keep b ob q n (fun z => hb (hs b z)) fun z => he (hx b z), fun _ _ q n _ he => u.any q n fun z => he (hx _ z), fun b ob q n he => u.free b ob q n fun z => he (hx b z), fun b ob q he => u.there b ob q fun z => he (hx b z), u.tups, u.frzs, u.tbls⟩
end

/-! ### the heap without what is tracked -/
def trk (h : Heap) (H : Hp) : List Addr := (List.range h.objs.size).filter fun a => (H a).isSome
def hidT (h : Heap) (H : Hp) : Heap := PySem.W.hideAll h (trk h H)
theorem hidT_size (h : Heap) (H : Hp) : (hidT h H).objs.size = h.objs.size := PySem.W.hideAll_size _ _
theorem hidT_get {h : Heap} {H : Hp} {b : Addr} {o : Obj} (e : h.get? b = some o) (n : H b = none) : (hidT h H).get? b = some o :=
  PySem.W.hideAll_get _ e fun hm => by
    have q : (H b).isSome = true := (List.mem_filter.mp hm).2
    rw [n] at q; simp at q
theorem of_hidT {h : Heap} {H : Hp} {b : Addr} {o : Obj} (e : (hidT h H).get? b = some o) : h.get? b = some o ∧ H b = none := by
  have e' : h.get? b = some o := PySem.W.of_hideAll (trk h H) e
  refine ⟨e', ?_⟩
  cases q : H b with
  | none => rfl
  | some x =>
    have hm : b ∈ trk h H := List.mem_filter.mpr ⟨List.mem_range.mpr (Heap.lt_size e'), by simp [q]⟩
    have z : (hidT h H).get? b = none := PySem.W.hideAll_none (trk h H) hm
    rw [z] at e; cases e

/-! ### OpenK's ledger, filled with every new object but one -/
def allNews (g h : Heap) (L : Addr) : List (Addr × Obj) := (List.range h.objs.size).filterMap fun a => if a = L ∨ (g.get? a).isSome = true then none else (h.get? a).map fun o => (a, o)
theorem mem_allNews {g h : Heap} {L a : Addr} {o : Obj} (h1 : a ≠ L) (h2 : g.get? a = none) (h3 : h.get? a = some o) : (a, o) ∈ allNews g h L :=
  List.mem_filterMap.mpr ⟨a, List.mem_range.mpr (Heap.lt_size h3), by simp [h1, h2, h3]⟩
theorem of_mem_allNews {g h : Heap} {L : Addr} {p : Addr × Obj} (hp : p ∈ allNews g h L) : p.1 ≠ L ∧ g.get? p.1 = none ∧ h.get? p.1 = some p.2 := by
  obtain ⟨b, _, e⟩ := List.mem_filterMap.mp hp
  split at e
  · cases e
  · rename_i hn
    cases q : h.get? b with
    | none => rw [q] at e; simp at e
    | some u =>
      rw [q] at e
      simp only [Option.map_some, Option.some.injEq] at e
      subst e
      refine ⟨fun z => hn (.inl z), ?_, q⟩
      show g.get? b = none
      cases r : g.get? b with
      | none => rfl
      | some v => exact (hn (.inr (by simp [r]))).elim
def rest (g h : Heap) (L d : Addr) : List (Addr × Obj) := (allNews g h L).filter fun p => decide (p.1 ≠ d)
theorem rest_ne {g h : Heap} {L d : Addr} : ∀ p ∈ rest g h L d, p.1 ≠ d := fun p hp => of_decide_eq_true (List.mem_filter.mp hp).2
theorem mem_rest {g h : Heap} {L d a : Addr} {o : Obj} (h1 : a ≠ L) (h2 : g.get? a = none) (h3 : h.get? a = some o) (h4 : a ≠ d) : (a, o) ∈ rest g h L d :=
  List.mem_filter.mpr ⟨mem_allNews h1 h2 h3, decide_eq_true h4⟩
theorem news_all {g h : Heap} {L : Addr} : News g L h (allNews g h L) := fun p hp => let ⟨a, b, c⟩ := of_mem_allNews hp; ⟨c, a, b⟩
theorem news_at {g h : Heap} {L d : Addr} {o : Obj} (h1 : d ≠ L) (h2 : g.get? d = none) (h3 : h.get? d = some o) : News g L h ((d, o) :: rest g h L d) := fun p hp => by
  rcases List.mem_cons.mp hp with rfl | hp
  · exact ⟨h3, h1, h2⟩
  · exact news_all p (List.mem_filter.mp hp).1
/-- behind a rule that changed d alone: all else but the frame is kept -/
theorem kept_of_news {g h h' : Heap} {L d : Addr} {m : Str → Option Value} (k : ∀ b o, g.get? b = some o → h.get? b = some o) (F : Fr g L h' m) (N : News g L h' (rest g h L d)) :
    ∀ b o, b ≠ L → b ≠ d → h.get? b = some o → h'.get? b = some o := fun b o h1 h2 e => by
  cases q : g.get? b with
  | some u =>
    have := k b u q
    rw [e] at this; cases this
    exact F.keep b _ q
  | none => exact (N (b, o) (mem_rest h1 q e h2)).1
end L2

namespace L2
open PySem PySem.Spec PyProof.Rows

/-- the module's facts, over the base: the heap at the law's entry without what is tracked there -/
structure Mod (K : PySem.W.Frag) (mg : Str → Option Value) (base : Heap) : Prop where
  kin : K.In base
  glob : base.Ns mainGlobals mg
  blt : ∃ mb, base.Ns builtinsNs mb ∧ ∀ x : Str, x ≠ "__name__" → mb x = bootBuiltins x
  nolimit : base.NoLimit

/-- the context: a def's body (or a comprehension's block) running. base: fixed through the whole law; s₀, H₀: the entry; outer: the frames whose slots others may change (a def's callers); stack: all frames that run;
   ex: iterators that were made ahead of the entry and are walked here (a comprehension's); fn: the names whose cells were made at the entry (a def: all; a comprehension's block: its own); calm: not within an except suite; pn: pins that every state bears; xe: what is wanted of an exception that leaves the code -/
structure Cx where
  prog : Program
  w : World
  K : PySem.W.Frag
  mg : Str → Option Value
  base : Heap
  A : Around
  N : List Str
  s₀ : Shared
  H₀ : Hp
  env : Env
  outer : List Env
  stack : List Env
  ex : List Addr
  fn : Str → Bool
  calm : Bool
  pn : List (Addr × Obj)
  xe : Value → Shared → Prop
/-- the callers' frames -/
def frs (l : List Env) : List Addr := l.filterMap (·.frame)
abbrev Cx.fs (X : Cx) : List Addr := frs X.outer

def Vis (sc : Scope) (x : Str) : Prop := sc.names.lookup x = some .local ∨ sc.names.lookup x = some .cell ∨ sc.names.lookup x = some .free
def Loc (sc : Scope) (x : Str) : Prop := sc.names.lookup x = some .local ∨ sc.names.lookup x = some .cell
def Look (env : Env) (h : Heap) (m : Str → Option Value) (x : Str) (u : Value) : Prop :=
  (env.kindOf x = some .local ∧ m x = some u) ∨ ((env.kindOf x = some .cell ∨ env.kindOf x = some .free) ∧ ∃ c, env.cells.lookup x = some c ∧ h.IsCell c (some u))

structure Cx.Ok (X : Cx) : Prop where
  mod : Mod X.K X.mg X.base
  kind : X.env.scope.kind = .function
  glob : X.env.globals = mainGlobals
  blt : X.env.builtins = builtinsNs
  above : X.s₀.heap.objs.size ≤ X.env.locals
  inj : ∀ x y c, X.env.cells.lookup x = some c → X.env.cells.lookup y = some c → x = y
  has : ∀ x, (X.env.kindOf x = some .cell ∨ X.env.kindOf x = some .free) → ∃ c, X.env.cells.lookup x = some c
  cab : ∀ x c, X.fn x = true → X.env.cells.lookup x = some c → X.s₀.heap.objs.size ≤ c
  hd : X.calm = true → X.A.handled = none
  frames : X.A.frames = some X.stack
  stk : X.stack = X.outer ∨ (X.stack = X.env :: X.outer ∧ X.env.frame = some X.env.locals)
  exf : ∀ b ∈ X.ex, b ≠ X.env.locals ∧ ∀ x c, X.env.cells.lookup x = some c → c ≠ b
  bs : ∀ b o, X.base.get? b = some o → X.s₀.heap.get? b = some o ∧ X.H₀ b = none
  bsz : X.base.objs.size ≤ X.s₀.heap.objs.size
  noex : ∀ b o, X.base.get? b = some o → b ∉ X.ex
  exfs : ∀ b ∈ X.ex, b ∉ X.fs
  funs : X.s₀.heap.FunFrames X.base X.outer
  frf : ∀ b ∈ X.fs, X.H₀ b = none

structure Inv (X : Cx) (pins : List (Addr × Obj)) (σ : List (Option V)) (H : Hp) (s : Shared) : Prop where
  ok : X.Ok
  os : s.os = X.s₀.os
  bare : AllBare s.gens
  base : Un X.fs X.ex X.H₀ H X.s₀.heap s.heap
  loc : ∃ m, s.heap.Ns X.env.locals m ∧ ∀ (i : Nat) (x : Str) (v : V), X.N[i]? = some x → σ[i]? = some (some v) → Vis X.env.scope x → ∃ u, RelV v u ∧ Look X.env s.heap m x u
  cell : ∀ x c, X.env.cells.lookup x = some c → ∃ v, s.heap.IsCell c v
  free : H X.env.locals = none
  freeC : ∀ x c, X.env.cells.lookup x = some c → H c = none
  pin : ∀ p ∈ X.pn ++ pins, s.heap.get? p.1 = some p.2 ∧ H p.1 = none ∧ p.1 ≠ X.env.locals ∧ p.1 ∉ X.fs ∧ ∀ v, p.2.data ≠ .cell v
  hok : HOk X.prog X.w H s.heap
  len : σ.length = X.N.length

section
variable {X : Cx} {pins : List (Addr × Obj)} {σ : List (Option V)} {H H' : Hp} {s : Shared} {h' : Heap}

theorem Cx.Ok.nofr (ok : X.Ok) {b : Addr} {o : Obj} (e : X.base.get? b = some o) : b ∉ X.fs := fun hb => by
  have := (ok.funs.mem hb).1
  rw [e] at this; cases this
theorem Inv.bs (I : Inv X pins σ H s) : ∀ b o, X.base.get? b = some o → s.heap.get? b = some o ∧ H b = none := fun b o e =>
  ⟨I.base.keep b o (I.ok.bs b o e).1 (I.ok.bs b o e).2 (I.ok.nofr e) (I.ok.noex b o e), I.base.free b o (I.ok.bs b o e).1 (I.ok.bs b o e).2 (I.ok.noex b o e)⟩
theorem Inv.bk (I : Inv X pins σ H s) : ∀ b o, X.base.get? b = some o → s.heap.get? b = some o := fun b o e => (I.bs b o e).1
theorem Inv.mod (I : Inv X pins σ H s) : Mod X.K X.mg X.base := I.ok.mod
theorem Inv.kIn (I : Inv X pins σ H s) : X.K.In s.heap := I.ok.mod.kin.keeps I.bk
theorem Inv.nolimit (I : Inv X pins σ H s) : s.heap.NoLimit := I.ok.mod.nolimit.keeps I.bk
/-- the frame over the base: for OpenK's rules (K.In X.base is I.mod.kin) -/
theorem Inv.fr (I : Inv X pins σ H s) : ∃ m, Fr X.base X.env.locals s.heap m :=
  let ⟨m, hn, _⟩ := I.loc
  ⟨m, hn, I.bk, Nat.le_trans I.ok.bsz I.ok.above⟩
theorem Inv.lt (I : Inv X pins σ H s) : X.env.locals < s.heap.objs.size := let ⟨_, hn, _⟩ := I.loc; hn.lt
theorem Inv.sz (I : Inv X pins σ H s) : X.s₀.heap.objs.size ≤ s.heap.objs.size := Nat.le_trans I.ok.above (Nat.le_of_lt I.lt)
theorem Inv.nofs (I : Inv X pins σ H s) {a : Addr} (h : s.heap.objs.size ≤ a) : a ∉ X.fs := fun hb => by
  obtain ⟨_, o, ho, _⟩ := I.ok.funs.mem hb
  exact absurd (Nat.lt_of_lt_of_le (Heap.lt_size ho) (Nat.le_trans I.sz h)) (Nat.lt_irrefl _)
theorem Inv.cne (I : Inv X pins σ H s) : ∀ x c, X.env.cells.lookup x = some c → c ≠ X.env.locals := fun x c e z => by
  obtain ⟨v, o, ho, hd⟩ := I.cell x c e
  obtain ⟨m, ⟨o', es, ep, ho', hd', _⟩, _⟩ := I.loc
  rw [z, ho'] at ho; cases ho; rw [hd'] at hd; cases hd
theorem Inv.funs (I : Inv X pins σ H s) : s.heap.FunFrames X.base X.outer := by
  have all : ∀ (l : List Env), (∀ b ∈ frs l, b ∈ X.fs) → X.s₀.heap.FunFrames X.base l → s.heap.FunFrames X.base l := by
    intro l
    induction l with
    | nil => intro _ _; trivial
    | cons env r ih =>
      intro hs hl
      obtain ⟨hk, ⟨L, o, hf, hn, ho, hd⟩, hr⟩ := hl
      have hL : L ∈ X.fs := hs L (by unfold frs; rw [List.filterMap_cons, hf]; exact List.mem_cons_self)
      obtain ⟨sl, e⟩ := I.base.slot L o ho (I.ok.frf L hL) hL fun z => I.ok.exfs L z hL
      exact ⟨hk, ⟨L, _, hf, hn, e, hd⟩, ih (fun b hb => hs b (by unfold frs; rw [List.filterMap_cons, hf]; exact List.mem_cons_of_mem _ hb)) hr⟩
  exact all X.outer (fun _ hb => hb) I.ok.funs

/-- the frames that run, for a call -/
theorem Inv.stack (I : Inv X pins σ H s) : s.heap.FunFrames X.base X.stack := by
  rcases I.ok.stk with e | ⟨e, hf⟩
  · rw [e]; exact I.funs
  · rw [e]
    obtain ⟨m, hn, _⟩ := I.loc
    refine .cons (by rw [I.ok.kind]; decide) hf hn ?_ I.funs
    exact Heap.get?_none_of_le (Nat.le_trans I.ok.bsz I.ok.above)
theorem Inv.stkSub (I : Inv X pins σ H s) : ∀ b ∈ frs X.stack, b ∈ X.env.locals :: X.fs := fun b hb => by
  rcases I.ok.stk with e | ⟨e, hf⟩
  · rw [e] at hb; exact List.mem_cons_of_mem _ hb
  · rw [e] at hb
    unfold frs at hb
    rw [List.filterMap_cons, hf] at hb
    exact hb
theorem Inv.stkFree (I : Inv X pins σ H s) : ∀ b ∈ frs X.stack, H b = none := fun b hb => by
  rcases List.mem_cons.mp (I.stkSub b hb) with e | hb
  · rw [e]; exact I.free
  · obtain ⟨_, o, ho, _⟩ := I.ok.funs.mem hb
    exact I.base.free b o ho (I.ok.frf b hb) fun z => I.ok.exfs b z hb

/-- THE STEP: the untracked objects but the frame and the records at ch are kept (the callers' frames up to slots), the frame's map is kept, the new abstract heap is held -/
theorem Inv.step {g' : Array GenState} {t' : Nat} {d' : Drawn} {ch : List Addr} (I : Inv X pins σ H s)
    (hch : ∀ b ∈ ch, (b ∈ X.ex ∨ X.s₀.heap.objs.size ≤ b) ∧ b ≠ X.env.locals ∧ (∀ x c, X.env.cells.lookup x = some c → c ≠ b) ∧ ∀ p ∈ X.pn ++ pins, p.1 ≠ b)
    (keep : ∀ b o, b ≠ X.env.locals → b ∉ X.fs → b ∉ ch → s.heap.get? b = some o → H b = none → h'.get? b = some o)
    (slot : ∀ b o, b ≠ X.env.locals → b ∈ X.fs → b ∉ ch → s.heap.get? b = some o → H b = none → ∃ sl, h'.get? b = some { o with slots := sl }) (free : ∀ b o, b ∉ ch → s.heap.get? b = some o → H b = none → H' b = none)
    (there : ∀ b o, b ∉ ch → s.heap.get? b = some o → ∃ o', h'.get? b = some o')
    (tups : ∀ b xs, H b = some (.tup xs) → H' b = some (.tup xs)) (frzs : ∀ b o u, H b = some (.frz o u) → H' b = some (.frz o u)) (tbls : ∀ b ps, H b = some (.tbl ps) → ∃ more, H' b = some (.tbl (ps ++ more)))
    (ns : ∀ m, s.heap.Ns X.env.locals m → h'.Ns X.env.locals m) (hok : HOk X.prog X.w H' h') (hg : AllBare g') :
    Inv X pins σ H' { s with heap := h', gens := g', drawn := d', toks := t' } := by
  have neL : ∀ b o, X.s₀.heap.get? b = some o → b ≠ X.env.locals := fun b o e => Nat.ne_of_lt (Nat.lt_of_lt_of_le (Heap.lt_size e) I.ok.above)
  have neC : ∀ b o, X.s₀.heap.get? b = some o → b ∉ X.ex → b ∉ ch := fun b o e hx hb => by
    rcases (hch b hb).1 with z | z
    · exact hx z
    · exact absurd (Nat.lt_of_lt_of_le (Heap.lt_size e) z) (Nat.lt_irrefl _)
  have cellK : ∀ x c, X.env.cells.lookup x = some c → ∀ v, s.heap.IsCell c v → h'.IsCell c v := fun x c e v ⟨o, ho, hd⟩ => by
    have nch : c ∉ ch := fun z => (hch c z).2.2.1 x c e rfl
    by_cases hc : c ∈ X.fs
    · obtain ⟨sl, q⟩ := slot c o (I.cne x c e) hc nch ho (I.freeC x c e)
      exact ⟨_, q, hd⟩
    · exact ⟨o, keep c o (I.cne x c e) hc nch ho (I.freeC x c e), hd⟩
  refine ⟨I.ok, I.os, hg, ⟨fun b o e n hb hx => ?_, fun b o e n hb hx => ?_, fun b o e n hx => ?_, fun b o e hx => ?_, fun b xs e => tups b xs (I.base.tups b xs e), fun b o xs e => frzs b o xs (I.base.frzs b o xs e), fun b ps e => ?_⟩, ?_, fun x c e => ?_, ?_, fun x c e => ?_, fun p hp => ?_, hok, I.len⟩
  · exact keep b o (neL b o e) hb (neC b o e hx) (I.base.keep b o e n hb hx) (I.base.free b o e n hx)
  · obtain ⟨sl, e1⟩ := I.base.slot b o e n hb hx
    obtain ⟨sl', e2⟩ := slot b _ (neL b o e) hb (neC b o e hx) e1 (I.base.free b o e n hx)
    exact ⟨sl', e2⟩
  · obtain ⟨o', e1⟩ := I.base.there b o e hx
    exact free b o' (neC b o e hx) e1 (I.base.free b o e n hx)
  · obtain ⟨o', e1⟩ := I.base.there b o e hx
    exact there b o' (neC b o e hx) e1
  · obtain ⟨m1, e1⟩ := I.base.tbls b ps e
    obtain ⟨m2, e2⟩ := tbls b _ e1
    exact ⟨m1 ++ m2, by rw [e2, Array.append_assoc]⟩
  · obtain ⟨m, hn, hl⟩ := I.loc
    refine ⟨m, ns m hn, fun i x v e1 e2 e3 => ?_⟩
    obtain ⟨u, r, l⟩ := hl i x v e1 e2 e3
    refine ⟨u, r, ?_⟩
    rcases l with l | ⟨k, c, e, z⟩
    · exact .inl l
    · exact .inr ⟨k, c, e, cellK x c e _ z⟩
  · obtain ⟨v, z⟩ := I.cell x c e
    exact ⟨v, cellK x c e v z⟩
  · obtain ⟨m, ⟨o, _, _, ho, _⟩, _⟩ := I.loc
    exact free _ o (fun z => (hch _ z).2.1 rfl) ho I.free
  · obtain ⟨v, o, ho, hd⟩ := I.cell x c e
    exact free c o (fun z => (hch c z).2.2.1 x c e rfl) ho (I.freeC x c e)
  · obtain ⟨e, n, ne, nf, d⟩ := I.pin p hp
    have nch : p.1 ∉ ch := fun z => (hch p.1 z).2.2.2 p hp rfl
    exact ⟨keep p.1 p.2 ne nf nch e n, free p.1 p.2 nch e n, ne, nf, d⟩
/-- .. where the frame's own object is kept too -/
theorem Inv.un {t' : Nat} (I : Inv X pins σ H s) (u : Un X.fs [] H H' s.heap h') (hok : HOk X.prog X.w H' h') : Inv X pins σ H' { s with heap := h', toks := t' } := by
  obtain ⟨m, ⟨o, es, ep, ho, r⟩, _⟩ := id I.loc
  obtain ⟨sl, hL⟩ := u.any ho I.free (by simp)
  exact I.step (g' := s.gens) (d' := s.drawn) (ch := []) (fun _ z => nomatch z) (fun b o _ hb _ e n => u.keep b o e n hb (by simp)) (fun b o _ hb _ e n => u.slot b o e n hb (by simp)) (fun b o _ e n => u.free b o e n (by simp)) (fun b o _ e => u.there b o e (by simp)) u.tups u.frzs u.tbls (fun m' hm => by
    obtain ⟨o', es', ep', ho', r'⟩ := hm
    rw [ho] at ho'; cases ho'
    exact ⟨_, es', ep', hL, r'⟩) hok I.bare
/-- behind a call (or a comprehension's block): the slots of this frame may have changed too, the records at ch may have turned -/
theorem Inv.call {g' : Array GenState} {t' : Nat} {d' : Drawn} {ch : List Addr} (I : Inv X pins σ H s) (u : Un (frs X.stack) ch H H' s.heap h') (hok : HOk X.prog X.w H' h') (hg : AllBare g')
    (hch : ∀ b ∈ ch, (b ∈ X.ex ∨ X.s₀.heap.objs.size ≤ b) ∧ b ≠ X.env.locals ∧ (∀ x c, X.env.cells.lookup x = some c → c ≠ b) ∧ ∀ p ∈ X.pn ++ pins, p.1 ≠ b) :
    Inv X pins σ H' { s with heap := h', gens := g', drawn := d', toks := t' } := by
  obtain ⟨m, ⟨o, es, ep, ho, r⟩, _⟩ := id I.loc
  obtain ⟨sl, hL⟩ := u.any ho I.free fun z => (hch _ z).2.1 rfl
  exact I.step (ch := ch) hch (fun b o hL hb hc e n => u.keep b o e n (fun z => (List.mem_cons.mp (I.stkSub b z)).elim hL hb) hc) (fun b o _ _ hc e n => u.any e n hc) (fun b o hc e n => u.free b o e n hc) (fun b o hc e => u.there b o e hc) u.tups u.frzs u.tbls (fun m' hm => by
    obtain ⟨o', es', ep', ho', r'⟩ := hm
    rw [ho] at ho'; cases ho'
    exact ⟨_, es', ep', hL, r'⟩) hok hg
/-- an untracked record of ours (an iterator) has turned -/
theorem Inv.turned {t' : Nat} {it : Addr} (I : Inv X pins σ H s) (k : ∀ b o, b ≠ it → s.heap.get? b = some o → h'.get? b = some o) (hn : H it = none) (hL : it ≠ X.env.locals)
    (h1 : it ∈ X.ex ∨ X.s₀.heap.objs.size ≤ it) (h2 : ∀ x c, X.env.cells.lookup x = some c → c ≠ it) (h3 : ∀ p ∈ X.pn ++ pins, p.1 ≠ it) : Inv X pins σ H { s with heap := h', toks := t' } := by
  have nit : ∀ b u, H b = some u → b ≠ it := fun b u e z => by rw [z, hn] at e; cases e
  refine I.step (g' := s.gens) (d' := s.drawn) (ch := [it]) (fun b hb => ?_) (fun b o _ _ hc e _ => k b o (fun z => hc (by simp [z])) e) (fun b o _ _ hc e _ => ⟨o.slots, k b o (fun z => hc (by simp [z])) e⟩) (fun _ _ _ _ n => n)
    (fun b o hc e => ⟨o, k b o (fun z => hc (by simp [z])) e⟩) (fun _ _ e => e) (fun _ _ _ e => e) (fun b ps e => ⟨#[], by rw [e]; simp⟩) (fun m hm => ?_) (fun b u e => ?_) I.bare
  · have e : b = it := by simpa using hb
    subst e
    exact ⟨h1, hL, h2, h3⟩
  · obtain ⟨o, es, ep, ho, r⟩ := hm
    exact ⟨o, es, ep, k _ o (Ne.symm hL) ho, r⟩
  · refine (I.hok b u e).stay (fun c v hc q => k c v ?_ q) (fun _ q => q) fun _ _ q => q
    rcases hc with z | z
    · rw [z]; exact nit b u e
    · exact nit c _ z
theorem Inv.tok (I : Inv X pins σ H s) (t : Nat) : Inv X pins σ H { s with toks := t } := I.un (h' := s.heap) (t' := t) Un.refl I.hok
/-- all objects kept -/
theorem Inv.kept {t' : Nat} (I : Inv X pins σ H s) (k : ∀ b u, s.heap.get? b = some u → h'.get? b = some u) : Inv X pins σ H { s with heap := h', toks := t' } := I.un (Un.kept k) (I.hok.kept k)
/-- a new object laid and tracked -/
theorem Inv.laid {a : Addr} {o : HO} {t' : Nat} (I : Inv X pins σ H s) (k : ∀ b u, s.heap.get? b = some u → h'.get? b = some u) (hp : s.heap.objs.size ≤ a) (new : ObjOk X.prog X.w (upd H a o) h' a o) :
    Inv X pins σ (upd H a o) { s with heap := h', toks := t' } := I.un (Un.laid k hp (I.hok.fresh hp)) (I.hok.laid k hp new)
/-- an object written -/
theorem Inv.write {x e : Addr} {o : HO} {t' : Nat} (I : Inv X pins σ H s) (mu : Mut (H x)) (he : e = x ∨ H e = some (.own x)) (k : ∀ b u, b ≠ e → s.heap.get? b = some u → h'.get? b = some u) (heo : ∃ u, h'.get? e = some u)
    (new : ObjOk X.prog X.w (upd H x o) h' x o) : Inv X pins σ (upd H x o) { s with heap := h', toks := t' } := I.un (Un.write mu he k heo) (I.hok.write mu he k heo new)
/-- forgetting slots, pins -/
theorem Inv.weak {σ' : List (Option V)} (I : Inv X pins σ H s) (hl : σ'.length = σ.length) (w : ∀ (i : Nat) v, σ'[i]? = some (some v) → σ[i]? = some (some v)) : Inv X pins σ' H s :=
  ⟨I.ok, I.os, I.bare, I.base, let ⟨m, hn, hl'⟩ := I.loc; ⟨m, hn, fun i x v e1 e2 e3 => hl' i x v e1 (w i v e2) e3⟩, I.cell, I.free, I.freeC, I.pin, I.hok, hl.trans I.len⟩
theorem Inv.pins_of {pins' : List (Addr × Obj)} (I : Inv X pins σ H s) (h : ∀ p ∈ pins', s.heap.get? p.1 = some p.2 ∧ H p.1 = none ∧ p.1 ≠ X.env.locals ∧ p.1 ∉ X.fs ∧ ∀ v, p.2.data ≠ .cell v) : Inv X pins' σ H s :=
  ⟨I.ok, I.os, I.bare, I.base, I.loc, I.cell, I.free, I.freeC, fun p hp => (List.mem_append.mp hp).elim (fun z => I.pin p (List.mem_append_left _ z)) (h p), I.hok, I.len⟩

theorem nodup_ix {N : List Str} (hN : N.Nodup) {i j : Nat} {x : Str} (a : N[i]? = some x) (b : N[j]? = some x) : i = j := by
  obtain ⟨h1, e1⟩ := List.getElem?_eq_some_iff.mp a
  obtain ⟨h2, e2⟩ := List.getElem?_eq_some_iff.mp b
  exact (List.getElem_inj hN).mp (e1.trans e2.symm)

/-- a name is stored; what changed -/
theorem store_ok2 {M : Model} {A : Around} {E : Value → Shared → Prop} {i : Nat} {x : Str} {v : V} {u : Value} {Q : Unit → Shared → Prop} (I : Inv X pins σ H s) (hN : X.N.Nodup) (hi : X.N[i]? = some x) (hx : Loc X.env.scope x) (r : RelV v u)
    (h : ∀ s', Inv X pins (σ.set i (some v)) H s' → (∃ a, Heap.SameBut a s.heap s'.heap ∧ (a = X.env.locals ∨ X.env.cells.lookup x = some a)) → Q () s') (hf : X.fn x = true ∨ X.env.scope.names.lookup x = some .local := by first | exact .inl rfl | exact .inr rfl | assumption) : wpAny M A (storeName X.env x u) Q E s := by
  obtain ⟨m, hn, hl⟩ := id I.loc
  have hcls : (X.env.scope.kind == .class || (X.env.scope.kind == .module && X.env.locals != X.env.globals)) = false := by rw [I.ok.kind]; rfl
  have hiσ : i < σ.length := by rw [I.len]; exact (List.getElem?_eq_some_iff.mp hi).1
  have cne := I.cne
  have tracked : ∀ {a : Addr} {h' : Heap}, (∃ o, s.heap.get? a = some o ∧ H a = none) → Heap.SameBut a s.heap h' → HOk X.prog X.w H h' := fun {a h'} ha hs b ob e => by
    obtain ⟨_, _, hfree⟩ := ha
    refine (I.hok b ob e).stay (fun c w' hc q => (hs.2 c ?_).trans q) (fun _ q => q) fun _ _ q => q
    rintro rfl
    rcases hc with rfl | hc
    · rw [hfree] at e; cases e
    · rw [hfree] at hc; cases hc
  rcases hx with hk | hk
  · refine wpAny_storeName_local hk hn (fun h' hn' hs => ?_) hcls
    obtain ⟨oL, _, _, hoL, _⟩ := id hn
    refine h _ ⟨I.ok, I.os, I.bare, ⟨fun b o e n hb hx => ?_, fun b o e n hb hx => ?_, I.base.free, fun b o e hx => ?_, I.base.tups, I.base.frzs, I.base.tbls⟩, ⟨_, hn', fun j y v' e1 e2 e3 => ?_⟩, fun y c e => ?_, I.free, I.freeC, fun p hp => ?_, tracked ⟨oL, hoL, I.free⟩ hs, by simpa using I.len⟩ ⟨_, hs, .inl rfl⟩
    · exact (hs.2 b (Nat.ne_of_lt (Nat.lt_of_lt_of_le (Heap.lt_size e) I.ok.above))).trans (I.base.keep b o e n hb hx)
    · obtain ⟨sl, e1⟩ := I.base.slot b o e n hb hx
      exact ⟨sl, (hs.2 b (Nat.ne_of_lt (Nat.lt_of_lt_of_le (Heap.lt_size e) I.ok.above))).trans e1⟩
    · obtain ⟨o', e1⟩ := I.base.there b o e hx
      exact ⟨o', (hs.2 b (Nat.ne_of_lt (Nat.lt_of_lt_of_le (Heap.lt_size e) I.ok.above))).trans e1⟩
    · by_cases hj : j = i
      · subst hj
        rw [hi] at e1; cases e1
        rw [List.getElem?_set_self hiσ] at e2
        cases e2
        exact ⟨u, r, .inl ⟨hk, by simp⟩⟩
      · rw [List.getElem?_set_ne (Ne.symm hj)] at e2
        obtain ⟨u', r', q⟩ := hl j y v' e1 e2 e3
        refine ⟨u', r', ?_⟩
        rcases q with ⟨k, e⟩ | ⟨k, c, e, z⟩
        · refine .inl ⟨k, ?_⟩
          have : y ≠ x := fun e => hj (nodup_ix hN e1 (e ▸ hi))
          simp [this, e]
        · exact .inr ⟨k, c, e, z.sameBut hs (cne y c e)⟩
    · obtain ⟨w', z⟩ := I.cell y c e
      exact ⟨w', z.sameBut hs (cne y c e)⟩
    · obtain ⟨e, n, ne, nf, d⟩ := I.pin p hp
      exact ⟨(hs.2 p.1 ne).trans e, n, ne, nf, d⟩
  · have hfn : X.fn x = true := by
      rcases hf with z | z
      · exact z
      · rw [z] at hk; cases hk
    obtain ⟨c, hc⟩ := I.ok.has x (.inl hk)
    obtain ⟨w', z⟩ := I.cell x c hc
    refine wpAny_storeName_cell I.ok.kind hk hc z (fun h' hc' hs => ?_)
    obtain ⟨oc, hoc, hocd⟩ := id z
    refine h { s with heap := h' } ⟨I.ok, I.os, I.bare, ⟨fun b o e n hb hx => ?_, fun b o e n hb hx => ?_, I.base.free, fun b o e hx => ?_, I.base.tups, I.base.frzs, I.base.tbls⟩, ⟨m, hn.sameBut hs (Ne.symm (cne x c hc)), fun j y v' e1 e2 e3 => ?_⟩, fun y c' e => ?_, I.free, I.freeC, fun p hp => ?_, tracked ⟨oc, hoc, I.freeC x c hc⟩ hs, by simpa using I.len⟩ ⟨c, hs, .inr hc⟩
    · exact (hs.2 b (Nat.ne_of_lt (Nat.lt_of_lt_of_le (Heap.lt_size e) (I.ok.cab x c hfn hc)))).trans (I.base.keep b o e n hb hx)
    · obtain ⟨sl, e1⟩ := I.base.slot b o e n hb hx
      exact ⟨sl, (hs.2 b (Nat.ne_of_lt (Nat.lt_of_lt_of_le (Heap.lt_size e) (I.ok.cab x c hfn hc)))).trans e1⟩
    · obtain ⟨o', e1⟩ := I.base.there b o e hx
      exact ⟨o', (hs.2 b (Nat.ne_of_lt (Nat.lt_of_lt_of_le (Heap.lt_size e) (I.ok.cab x c hfn hc)))).trans e1⟩
    · by_cases hj : j = i
      · subst hj
        rw [hi] at e1; cases e1
        rw [List.getElem?_set_self hiσ] at e2
        cases e2
        exact ⟨u, r, .inr ⟨.inl hk, c, hc, hc'⟩⟩
      · rw [List.getElem?_set_ne (Ne.symm hj)] at e2
        obtain ⟨u', r', q⟩ := hl j y v' e1 e2 e3
        refine ⟨u', r', ?_⟩
        rcases q with q | ⟨k, c', e, z'⟩
        · exact .inl q
        · refine .inr ⟨k, c', e, z'.sameBut hs ?_⟩
          rintro rfl
          exact hj (nodup_ix hN e1 (I.ok.inj _ _ _ e hc ▸ hi))
    · by_cases hcc : c' = c
      · subst hcc; exact ⟨_, hc'⟩
      · obtain ⟨w2, z2⟩ := I.cell y c' e
        exact ⟨w2, z2.sameBut hs hcc⟩
    · obtain ⟨e, n, ne, nf, d⟩ := I.pin p hp
      refine ⟨(hs.2 p.1 ?_).trans e, n, ne, nf, d⟩
      intro q
      rw [q, hoc] at e
      have q' : oc = p.2 := Option.some.inj e
      exact d w' (by rw [← q']; exact hocd)
theorem store_ok {M : Model} {A : Around} {E : Value → Shared → Prop} {i : Nat} {x : Str} {v : V} {u : Value} {Q : Unit → Shared → Prop} (I : Inv X pins σ H s) (hN : X.N.Nodup) (hi : X.N[i]? = some x) (hx : Loc X.env.scope x) (r : RelV v u)
    (h : ∀ s', Inv X pins (σ.set i (some v)) H s' → Q () s') (hf : X.fn x = true ∨ X.env.scope.names.lookup x = some .local := by first | exact .inl rfl | exact .inr rfl | assumption) : wpAny M A (storeName X.env x u) Q E s :=
  store_ok2 I hN hi hx r (fun s' I' _ => h s' I') hf
/-- behind a call or a block, the state as it is -/
theorem Inv.call' {s' : Shared} {ch : List Addr} (I : Inv X pins σ H s) (ho : s'.os = s.os) (u : Un (frs X.stack) ch H H' s.heap s'.heap) (hok : HOk X.prog X.w H' s'.heap) (hg : AllBare s'.gens)
    (hch : ∀ b ∈ ch, (b ∈ X.ex ∨ X.s₀.heap.objs.size ≤ b) ∧ b ≠ X.env.locals ∧ (∀ x c, X.env.cells.lookup x = some c → c ≠ b) ∧ ∀ p ∈ X.pn ++ pins, p.1 ≠ b) : Inv X pins σ H' s' := by
  obtain ⟨h', g', d', t', o'⟩ := s'
  have e : o' = s.os := ho
  subst e
  exact I.call (g' := g') (t' := t') (d' := d') u hok hg hch
end

/-! ### the judgements -/
/-- an exception: its class, its own dict's address (where it has one), the abstract heap behind it -/
abbrev XK := Value → Option Addr → Hp → Prop
abbrev St := List (Option V)
abbrev VK := V → Hp → Prop
/-- an expression's reading; a test's; an argument list's -/
abbrev TE := St → Hp → VK → Prop
abbrev TT := St → Hp → (Bool → Hp → Prop) → Prop
abbrev TA := St → Hp → (List V → Hp → Prop) → Prop
/-- what is wanted behind a statement -/
structure Ends where
  nx : St → Hp → Prop
  rt : VK
  bk : St → Hp → Prop := fun _ _ => False
  ct : St → Hp → Prop := fun _ _ => False
abbrev TS := Ends → St → Hp → Prop

def EP (X : Cx) (pins : List (Addr × Obj)) (σ : St) (Q : VK) (u : Value) (s' : Shared) : Prop := ∃ v H', Inv X pins σ H' s' ∧ RelV v u ∧ Q v H'
def TP (X : Cx) (pins : List (Addr × Obj)) (σ : St) (Q : Bool → Hp → Prop) (b : Bool) (s' : Shared) : Prop := ∃ H', Inv X pins σ H' s' ∧ Q b H'
def AP (X : Cx) (pins : List (Addr × Obj)) (σ : St) (Q : List V → Hp → Prop) (us : List Value) (s' : Shared) : Prop := ∃ vs H', Inv X pins σ H' s' ∧ Vals vs us ∧ Q vs H'
def SP (X : Cx) (pins : List (Addr × Obj)) (D : Ends) (f : Flow) (s' : Shared) : Prop :=
  match f with
  | .next => ∃ σ' H', Inv X pins σ' H' s' ∧ D.nx σ' H'
  | .brk => ∃ σ' H', Inv X pins σ' H' s' ∧ D.bk σ' H'
  | .cont => ∃ σ' H', Inv X pins σ' H' s' ∧ D.ct σ' H'
  | .ret u => ∃ v σ' H', Inv X pins σ' H' s' ∧ RelV v u ∧ D.rt v H'

def PE (X : Cx) (e : Expr) (t : TE) : Prop :=
  ∀ (pins : List (Addr × Obj)) (s : Shared) (σ : St) (H : Hp) (Q : VK), Inv X pins σ H s → t σ H Q → wpAny (model X.prog X.w) X.A (eval e X.env) (EP X pins σ Q) X.xe s
def PT (X : Cx) (e : Expr) (t : TT) : Prop :=
  ∀ (pins : List (Addr × Obj)) (s : Shared) (σ : St) (H : Hp) (Q : Bool → Hp → Prop), Inv X pins σ H s → t σ H Q → wpAny (model X.prog X.w) X.A (isTrue e X.env (eval e X.env)) (TP X pins σ Q) X.xe s
/-- a test whatever its 'whole' is (and, or) -/
def PW (X : Cx) (e : Expr) (t : TT) : Prop :=
  ∀ (whole : Sem Value) (pins : List (Addr × Obj)) (s : Shared) (σ : St) (H : Hp) (Q : Bool → Hp → Prop), Inv X pins σ H s → t σ H Q → wpAny (model X.prog X.w) X.A (isTrue e X.env whole) (TP X pins σ Q) X.xe s
theorem PW.pt {X : Cx} {e : Expr} {t : TT} (h : PW X e t) : PT X e t := h _
/-- an argument list (no star), from the left -/
def PA (X : Cx) (es : List Expr) (t : TA) : Prop :=
  ∀ (pos : Pos) (pins : List (Addr × Obj)) (s : Shared) (σ : St) (H : Hp) (Q : List V → Hp → Prop), Inv X pins σ H s → t σ H Q → wpAny (model X.prog X.w) X.A (spliced (backTo pos (starEach es X.env))) (AP X pins σ Q) X.xe s
def PS (X : Cx) (st : Stmt) (t : TS) : Prop :=
  ∀ (pins : List (Addr × Obj)) (s : Shared) (σ : St) (H : Hp) (D : Ends), Inv X pins σ H s → t D σ H → wpAny (model X.prog X.w) X.A (exec st X.env) (SP X pins D) X.xe s
def PSs (X : Cx) (st : List Stmt) (t : TS) : Prop :=
  ∀ (pins : List (Addr × Obj)) (s : Shared) (σ : St) (H : Hp) (D : Ends), Inv X pins σ H s → t D σ H → wpAny (model X.prog X.w) X.A (execs st X.env) (SP X pins D) X.xe s
/-- weaken the end -/
theorem thn {α : Type} {t : Sem α} {Q Q' : α → Shared → Prop} {M : Model} {A : Around} {E : Value → Shared → Prop} {s : Shared} (h : wpAny M A t Q E s) (hQ : ∀ a s, Q a s → Q' a s) : wpAny M A t Q' E s := wpAny_mono h hQ fun _ _ x => x
end L2

namespace L2
open PySem PySem.Spec PyProof.Rows
section
variable {X : Cx}

/-- two expressions in a row -/
theorem bin {a b : Expr} {ta tb : TE} (ha : PE X a ta) (hb : PE X b tb) {pins : List (Addr × Obj)} {s : Shared} {σ : St} {H : Hp} {R : V → V → Hp → Prop} (I : Inv X pins σ H s) (h : ta σ H fun x H1 => tb σ H1 fun y H2 => R x y H2)
    {α : Type} {Q : α → Shared → Prop} {f : Value → Value → Sem α}
    (hf : ∀ v u s2 x y H2, Inv X pins σ H2 s2 → RelV x v → RelV y u → R x y H2 → wpAny (model X.prog X.w) X.A (f v u) Q X.xe s2) :
    wpAny (model X.prog X.w) X.A (eval a X.env) (fun v s₁ => wpAny (model X.prog X.w) X.A (eval b X.env) (fun u s₂ => wpAny (model X.prog X.w) X.A (f v u) Q X.xe s₂) X.xe s₁) X.xe s := by
  refine thn (ha pins s σ H _ I h) fun v s1 ⟨x, H1, I1, r1, q1⟩ => ?_
  refine thn (hb pins s1 σ H1 _ I1 q1) fun u s2 ⟨y, H2, I2, r2, q2⟩ => ?_
  exact hf v u s2 x y H2 I2 r1 r2 q2

/-! ### names and constants -/
def tVar (i : Nat) : TE := fun σ H Q => ∃ v, σ[i]? = some (some v) ∧ Q v H
def tC (v : V) : TE := fun _ H Q => Q v H
theorem pe_var {i : Nat} {x : Str} {pos : Pos} (hN : X.N[i]? = some x) (hv : Vis X.env.scope x) (hd : (x == ("__debug__" : Str)) = false := by decide) (hcd : (x == ("__classdict__" : Str)) = false := by decide) : PE X (.Name x pos) (tVar i) := by
  intro pins s σ H Q I h
  obtain ⟨v, e, h⟩ := h
  obtain ⟨m, hn, hl⟩ := I.loc
  obtain ⟨u, r, l⟩ := hl i x v hN e hv
  have fin : EP X pins σ Q u s := ⟨v, H, I, r, h⟩
  rcases l with ⟨hk, hm⟩ | ⟨hk, c, hc, hcell⟩
  · exact wpAny_Name (wpAny_loadName_local I.ok.kind hk hn hm fin) hd
  · rcases hk with hk | hk
    · exact wpAny_Name (wpAny_loadName_cell I.ok.kind hk hc hcell fin) hd
    · exact wpAny_Name (wpAny_loadName_free I.ok.kind hk hc hcell fin hcd) hd
theorem pe_int {i j pos} : PE X (.Constant (.int i) j pos) (tC (.int i)) := fun _ _ _ H _ I h => wpAny_Constant_int ⟨.int i, H, I.tok _, ⟨_, rfl⟩, h⟩
theorem pe_bl {b j pos} : PE X (.Constant (.bool b) j pos) (tC (.bl b)) := fun _ _ _ H _ I h => Constant_bool ⟨.bl b, H, I, rfl, h⟩
theorem pe_non {j pos} : PE X (.Constant .none j pos) (tC .non) := fun _ _ _ H _ I h => Constant_none ⟨.non, H, I, rfl, h⟩
theorem pe_str {x j pos} : PE X (.Constant (.str x) j pos) (tC (.str x)) := fun _ _ _ H _ I h => Calls.Constant_str ⟨.str x, H, I.tok _, ⟨_, rfl⟩, h⟩

/-- a global name of the def -/
def Gl (X : Cx) (x : Str) : Prop := X.env.kindOf x = some .globalImplicit
theorem ld_glob {E : Value → Shared → Prop} {pins : List (Addr × Obj)} {s : Shared} {σ : St} {H : Hp} {x : Str} {u : Value} {pos : Pos} {Q : Value → Shared → Prop} (I : Inv X pins σ H s) (hg : Gl X x) (hm : X.mg x = some u) (h : Q u s)
    (hd : (x == ("__debug__" : Str)) = false := by decide) : wpAny (model X.prog X.w) X.A (eval (.Name x pos) X.env) Q E s :=
  Calls.Name_function_global I.ok.kind hg (Calls.loadGlobal_global (by rw [I.ok.glob]; exact I.mod.glob.keeps I.bk) hm h) hd
theorem ld_blt {E : Value → Shared → Prop} {pins : List (Addr × Obj)} {s : Shared} {σ : St} {H : Hp} {x : Str} {u : Value} {pos : Pos} {Q : Value → Shared → Prop} (I : Inv X pins σ H s) (hg : Gl X x) (hm : X.mg x = none) (hv : bootBuiltins x = some u) (h : Q u s)
    (hn : x ≠ "__name__" := by decide) (hd : (x == ("__debug__" : Str)) = false := by decide) : wpAny (model X.prog X.w) X.A (eval (.Name x pos) X.env) Q E s := by
  obtain ⟨mb, h1, h2⟩ := I.mod.blt
  exact Calls.Name_function_global I.ok.kind hg (Calls.loadGlobal_builtin (by rw [I.ok.glob]; exact I.mod.glob.keeps I.bk) hm (by rw [I.ok.blt]; exact h1.keeps I.bk) ((h2 x hn).trans hv) h) hd
/-- a module's constant, a class, a function, as a value -/
theorem pe_glob {x : Str} {v : V} {u : Value} {pos : Pos} (hg : Gl X x) (hm : X.mg x = some u) (r : RelV v u) (hd : (x == ("__debug__" : Str)) = false := by decide) : PE X (.Name x pos) (tC v) :=
  fun _ _ _ H _ I h => ld_glob I hg hm ⟨v, H, I, r, h⟩ hd
theorem pe_bltn {x : Str} {v : V} {u : Value} {pos : Pos} (hg : Gl X x) (hm : X.mg x = none) (hv : bootBuiltins x = some u) (r : RelV v u) (hn : x ≠ "__name__" := by decide) (hd : (x == ("__debug__" : Str)) = false := by decide) : PE X (.Name x pos) (tC v) :=
  fun _ _ _ H _ I h => ld_blt I hg hm hv ⟨v, H, I, r, h⟩ hn hd

/-! ### arithmetic -/
/-- two ints -/
def t2I (ta tb : TE) (k : Int → Int → Hp → Prop) : St → Hp → Prop := fun σ H => ta σ H fun x H1 => tb σ H1 fun y H2 => ∃ i j, x = .int i ∧ y = .int j ∧ k i j H2
def tAdd (ta tb : TE) : TE := fun σ H Q => t2I ta tb (fun i j H2 => Q (.int (i + j)) H2) σ H
def tSub (ta tb : TE) : TE := fun σ H Q => t2I ta tb (fun i j H2 => Q (.int (i - j)) H2) σ H
/-- the left factor below 2^64 -/
def tMul (ta tb : TE) : TE := fun σ H Q => t2I ta tb (fun i j H2 => (-(2 ^ 64) < i ∧ i < 2 ^ 64) ∧ Q (.int (i * j)) H2) σ H
variable {a b : Expr} {ta tb : TE} {pos : Pos}
theorem pe_add (ha : PE X a ta) (hb : PE X b tb) : PE X (.BinOp a .Add b pos) (tAdd ta tb) := by
  intro pins s σ H Q I h
  refine wpAny_BinOp (bin ha hb I h fun v u s2 x y H2 I2 rx ry q => ?_)
  obtain ⟨i, j, rfl, rfl, q⟩ := q
  obtain ⟨t, rfl⟩ := rx
  obtain ⟨t', rfl⟩ := ry
  exact add_int ⟨.int _, H2, I2.tok _, ⟨_, rfl⟩, q⟩
theorem pe_sub (ha : PE X a ta) (hb : PE X b tb) : PE X (.BinOp a .Sub b pos) (tSub ta tb) := by
  intro pins s σ H Q I h
  refine wpAny_BinOp (bin ha hb I h fun v u s2 x y H2 I2 rx ry q => ?_)
  obtain ⟨i, j, rfl, rfl, q⟩ := q
  obtain ⟨t, rfl⟩ := rx
  obtain ⟨t', rfl⟩ := ry
  exact sub_int ⟨.int _, H2, I2.tok _, ⟨_, rfl⟩, q⟩
theorem pe_mul (ha : PE X a ta) (hb : PE X b tb) : PE X (.BinOp a .Mult b pos) (tMul ta tb) := by
  intro pins s σ H Q I h
  refine wpAny_BinOp (bin ha hb I h fun v u s2 x y H2 I2 rx ry q => ?_)
  obtain ⟨i, j, rfl, rfl, ⟨q1, q2⟩, q⟩ := q
  obtain ⟨t, rfl⟩ := rx
  obtain ⟨t', rfl⟩ := ry
  exact mul_int ⟨.int _, H2, I2.tok _, ⟨_, rfl⟩, q⟩ (.of_left (intBits_le_64 q1 q2))

/-! ### comparisons -/
def PC (X : Cx) (op : CmpOp) (a b : Expr) (t : TE) : Prop :=
  ∀ (pins : List (Addr × Obj)) (s : Shared) (σ : St) (H : Hp) (Q : VK), Inv X pins σ H s → t σ H Q →
    wpAny (model X.prog X.w) X.A (eval a X.env) (fun v s₁ => wpAny (model X.prog X.w) X.A (eval b X.env) (fun u s₂ => wpAny (model X.prog X.w) X.A (compareOp op v u) (EP X pins σ Q) X.xe s₂) X.xe s₁) X.xe s
theorem nobehind (b : Expr) {op : CmpOp} (h : op ≠ .In) (h2 : op ≠ .NotIn) : behindInMarks op b = false := by
  have e1 : (op == CmpOp.In) = false := by cases op <;> first | rfl | exact absurd rfl h
  have e2 : (op == CmpOp.NotIn) = false := by cases op <;> first | rfl | exact absurd rfl h2
  cases b <;> simp [behindInMarks, e1, e2]
def tCmp (p : Int → Int → Bool) (ta tb : TE) : TE := fun σ H Q => t2I ta tb (fun i j H2 => Q (.bl (p i j)) H2) σ H
abbrev tLt : TE → TE → TE := tCmp fun i j => decide (i < j)
abbrev tLe : TE → TE → TE := tCmp fun i j => decide (i ≤ j)
abbrev tGt : TE → TE → TE := tCmp fun i j => decide (j < i)
abbrev tGe : TE → TE → TE := tCmp fun i j => decide (j ≤ i)
abbrev tEqI : TE → TE → TE := tCmp fun i j => decide (i = j)
abbrev tNeI : TE → TE → TE := tCmp fun i j => !decide (i = j)
/-- a comparison of two ints, by its rule -/
theorem pc_int {op : CmpOp} {p : Int → Int → Bool} (ha : PE X a ta) (hb : PE X b tb)
    (rule : ∀ (i j : Int) (t u : Tok) (Q : Value → Shared → Prop) (s : Shared), Q (.bool (p i j)) s → wpAny (model X.prog X.w) X.A (compareOp op (.int i t) (.int j u)) Q X.xe s) : PC X op a b (tCmp p ta tb) := by
  intro pins s σ H Q I h
  refine bin ha hb I h fun v u s2 x y H2 I2 rx ry q => ?_
  obtain ⟨i, j, rfl, rfl, q⟩ := q
  obtain ⟨t, rfl⟩ := rx
  obtain ⟨t', rfl⟩ := ry
  exact rule i j t t' _ s2 ⟨.bl _, H2, I2, rfl, q⟩
theorem pc_lt (ha : PE X a ta) (hb : PE X b tb) : PC X .Lt a b (tLt ta tb) := pc_int ha hb fun _ _ _ _ _ _ h => lt_int h
theorem pc_le (ha : PE X a ta) (hb : PE X b tb) : PC X .LtE a b (tLe ta tb) := pc_int ha hb fun _ _ _ _ _ _ h => le_int h
theorem pc_gt (ha : PE X a ta) (hb : PE X b tb) : PC X .Gt a b (tGt ta tb) := pc_int ha hb fun _ _ _ _ _ _ h => gt_int h
theorem pc_ge (ha : PE X a ta) (hb : PE X b tb) : PC X .GtE a b (tGe ta tb) := pc_int ha hb fun _ _ _ _ _ _ h => ge_int h
theorem pc_eqI (ha : PE X a ta) (hb : PE X b tb) : PC X .Eq a b (tEqI ta tb) := pc_int ha hb fun _ _ _ _ _ _ h => eq_int (by rw [Bool.beq_eq_decide_eq]; exact h)
theorem pc_neI (ha : PE X a ta) (hb : PE X b tb) : PC X .NotEq a b (tNeI ta tb) := pc_int ha hb fun _ _ _ _ _ _ h => ne_int (by rw [bne, Bool.beq_eq_decide_eq]; exact h)
/-- is None -/
def tIsN (ta : TE) : TE := fun σ H Q => ta σ H fun x H1 => Q (.bl (decide (x = .non))) H1
def tNotN (ta : TE) : TE := fun σ H Q => ta σ H fun x H1 => Q (.bl (!decide (x = .non))) H1
theorem RelV.none_iff {x : V} {v : Value} (r : RelV x v) : (v == Value.none) = decide (x = .non) := by
  cases x with
  | non => cases r; rfl
  | bl _ => cases r; rfl
  | int _ => obtain ⟨t, rfl⟩ := r; rfl
  | str _ => obtain ⟨t, rfl⟩ := r; rfl
  | byt _ => obtain ⟨t, rfl⟩ := r; rfl
  | flt _ => obtain ⟨t, rfl⟩ := r; rfl
  | ref _ => cases r; rfl
  | ty _ => cases r; rfl
theorem pc_isN {j pos'} (ha : PE X a ta) : PC X .Is a (.Constant .none j pos') (tIsN ta) := by
  intro pins s σ H Q I h
  refine thn (ha pins s σ H _ I h) fun v s1 ⟨x, H1, I1, r1, q1⟩ => ?_
  exact Constant_none (is_none_gen ⟨.bl _, H1, I1, by rw [r1.none_iff]; rfl, q1⟩)
theorem pc_notN {j pos'} (ha : PE X a ta) : PC X .IsNot a (.Constant .none j pos') (tNotN ta) := by
  intro pins s σ H Q I h
  refine thn (ha pins s σ H _ I h) fun v s1 ⟨x, H1, I1, r1, q1⟩ => ?_
  exact Constant_none (isnot_none_gen ⟨.bl _, H1, I1, by rw [r1.none_iff]; rfl, q1⟩)
/-- a comparison as a value, as a test -/
def tB (t : TE) : TT := fun σ H Q => t σ H fun x H1 => ∃ c, x = .bl c ∧ Q c H1
theorem pe_cmp {op : CmpOp} {t : TE} (h : PC X op a b t) (h1 : behindInMarks op b = false := by first | exact nobehind _ (by decide) (by decide) | rfl) : PE X (.Compare a [op] [b] pos) t := fun pins s σ H Q I hw => wpAny_Compare1 (h pins s σ H Q I hw) h1
theorem pt_cmp {op : CmpOp} {t : TE} (h : PC X op a b t) (h1 : behindInMarks op b = false := by first | exact nobehind _ (by decide) (by decide) | rfl) : PT X (.Compare a [op] [b] pos) (tB t) := by
  intro pins s σ H Q I hw
  refine wpAny_isTrue_Compare1 (thn (h pins s σ H _ I hw) fun v s1 h1 => thn h1 fun u s2 h2 => thn h2 fun c s3 ⟨x, H1, I1, r1, q1⟩ => ?_) h1
  obtain ⟨d, rfl, q⟩ := q1
  cases r1
  exact wpAny_truthy_bool ⟨H1, I1, q⟩
/-- an expression whose value is a bool, as a test -/
theorem pt_val {e : Expr} {t : TE} (h : PE X e t) (he : ∀ whole, isTrue e X.env whole = (do let v ← whole; standAt e.pos; holding [v] (truthy v)) := by intro _; rfl) : PT X e (tB t) := by
  intro pins s σ H Q I hw
  refine isTrue_plain (thn (h pins s σ H _ I hw) fun v s1 ⟨x, H1, I1, r1, q1⟩ => ?_) (he _)
  obtain ⟨d, rfl, q⟩ := q1
  cases r1
  exact wpAny_truthy_bool ⟨H1, I1, q⟩

/-! ### and, or, not -/
variable {tA tB' : TT} {rest : List Expr}
def tAnd (t u : TT) : TT := fun σ H Q => t σ H fun c H1 => if c = true then u σ H1 Q else Q false H1
def tOr (t u : TT) : TT := fun σ H Q => t σ H fun c H1 => if c = true then Q true H1 else u σ H1 Q
def tNot (t : TT) : TT := fun σ H Q => t σ H fun c H1 => Q (!c) H1
theorem pw_and1 (ha : PT X a tA) : PW X (.BoolOp .And [a] pos) tA := by
  intro wh pins s σ H Q I h
  refine isTrue_and (thn (ha pins s σ H Q I h) fun c s1 e => ?_)
  cases c with
  | true => exact isTrue_and_nil e
  | false => exact e
theorem pw_or1 (ha : PT X a tA) : PW X (.BoolOp .Or [a] pos) tA := by
  intro wh pins s σ H Q I h
  refine isTrue_or (thn (ha pins s σ H Q I h) fun c s1 e => ?_)
  cases c with
  | false => exact isTrue_or_nil e
  | true => exact e
theorem pw_and (ha : PT X a tA) (hb : PW X (.BoolOp .And (b :: rest) pos) tB') : PW X (.BoolOp .And (a :: b :: rest) pos) (tAnd tA tB') := by
  intro wh pins s σ H Q I h
  refine isTrue_and (thn (ha pins s σ H _ I h) fun c s1 ⟨H1, I1, q1⟩ => ?_)
  cases c with
  | true => exact hb wh pins s1 σ H1 Q I1 q1
  | false => exact ⟨H1, I1, q1⟩
theorem pw_or (ha : PT X a tA) (hb : PW X (.BoolOp .Or (b :: rest) pos) tB') : PW X (.BoolOp .Or (a :: b :: rest) pos) (tOr tA tB') := by
  intro wh pins s σ H Q I h
  refine isTrue_or (thn (ha pins s σ H _ I h) fun c s1 ⟨H1, I1, q1⟩ => ?_)
  cases c with
  | true => exact ⟨H1, I1, q1⟩
  | false => exact hb wh pins s1 σ H1 Q I1 q1
theorem pt_not (ha : PT X a tA) : PT X (.UnaryOp .Not a pos) (tNot tA) := by
  intro pins s σ H Q I h
  exact isTrue_not (ha pins s σ H (fun c H1 => Q (!c) H1) I h)
/-- .. as values (bools) -/
def tAndV (ta tb : TE) : TE := fun σ H Q => ta σ H fun x H1 => ∃ c, x = .bl c ∧ if c = true then tb σ H1 Q else Q (.bl false) H1
def tOrV (ta tb : TE) : TE := fun σ H Q => ta σ H fun x H1 => ∃ c, x = .bl c ∧ if c = true then Q (.bl true) H1 else tb σ H1 Q
def tNotV (ta : TE) : TE := fun σ H Q => ta σ H fun x H1 => ∃ c, x = .bl c ∧ Q (.bl (!c)) H1
theorem pe_one {op} {t : TE} (h : PE X a t) : PE X (.BoolOp op [a] pos) t := fun pins s σ H Q I hw => BoolOp_one (h pins s σ H Q I hw)
theorem pe_and (ha : PE X a ta) (hb : PE X (.BoolOp .And (b :: rest) pos) tb) : PE X (.BoolOp .And (a :: b :: rest) pos) (tAndV ta tb) := by
  intro pins s σ H Q I h
  refine BoolOp_and (thn (ha pins s σ H _ I h) fun v s1 ⟨x, H1, I1, r1, q1⟩ => ?_)
  obtain ⟨c, rfl, q1⟩ := q1
  cases r1
  refine wpAny_truthy_bool ?_
  cases c with
  | true => exact hb pins s1 σ H1 Q I1 q1
  | false => exact ⟨.bl false, H1, I1, rfl, q1⟩
theorem pe_or (ha : PE X a ta) (hb : PE X (.BoolOp .Or (b :: rest) pos) tb) : PE X (.BoolOp .Or (a :: b :: rest) pos) (tOrV ta tb) := by
  intro pins s σ H Q I h
  refine BoolOp_or (thn (ha pins s σ H _ I h) fun v s1 ⟨x, H1, I1, r1, q1⟩ => ?_)
  obtain ⟨c, rfl, q1⟩ := q1
  cases r1
  refine wpAny_truthy_bool ?_
  cases c with
  | false => exact hb pins s1 σ H1 Q I1 q1
  | true => exact ⟨.bl true, H1, I1, rfl, q1⟩
theorem pe_not (ha : PE X a ta) : PE X (.UnaryOp .Not a pos) (tNotV ta) := by
  intro pins s σ H Q I h
  refine UnaryOp_ (thn (ha pins s σ H _ I h) fun v s1 ⟨x, H1, I1, r1, q1⟩ => ?_)
  obtain ⟨c, rfl, q1⟩ := q1
  cases r1
  exact not_of (wpAny_truthy_bool ⟨.bl (!c), H1, I1, rfl, q1⟩)
/-- a if t else b -/
def tIf (t : TT) (ta tb : TE) : TE := fun σ H Q => t σ H fun c H1 => if c = true then ta σ H1 Q else tb σ H1 Q
theorem pe_ifExp {c : Expr} (hc : PT X c tA) (ha : PE X a ta) (hb : PE X b tb) : PE X (.IfExp c a b pos) (tIf tA ta tb) := by
  intro pins s σ H Q I h
  refine wpAny_IfExp (thn (hc pins s σ H _ I h) fun d s1 ⟨H1, I1, q1⟩ => ?_)
  cases d with
  | true => exact ha pins s1 σ H1 Q I1 q1
  | false => exact hb pins s1 σ H1 Q I1 q1
end
end L2

namespace L2
open PySem PySem.Spec PyProof.Rows

/-! ### a list, a tuple that is read: tracked, frozen, or an object of the module -/
def SqL (K : PySem.W.Frag) (H : Hp) (a : Addr) (xs : List V) : Prop :=
  Rd H a (.lst xs) ∨
    ∃ (o : Obj) (its : Array Value) (n : Nat), K.lookup a = some o ∧ o.cls = .type "list" ∧ o.dict = none ∧ o.data = .seq its n ∧ its.size ≤ sizeLine ∧ Vals xs its.toList
def SqT (K : PySem.W.Frag) (H : Hp) (a : Addr) (xs : List V) : Prop :=
  Rd H a (.tup xs) ∨
    ∃ (o : Obj) (its : Array Value) (n : Nat), K.lookup a = some o ∧ o.cls = .type "tuple" ∧ o.data = .seq its n ∧ its.size ≤ sizeLine ∧ Vals xs its.toList
def absV : Value → Option V
  | .none => some .non
  | .bool b => some (.bl b)
  | .int i _ => some (.int i)
  | .str x _ => some (.str x)
  | .bytes b _ => some (.byt b)
  | .float b _ => some (.flt b)
  | .ref a => some (.ref a)
  | .type n => some (.ty n)
  | _ => none
theorem RelV.abs {x : V} {u : Value} (r : RelV x u) : absV u = some x := by
  cases x with
  | non => cases r; rfl
  | bl _ => cases r; rfl
  | int _ => obtain ⟨t, rfl⟩ := r; rfl
  | str _ => obtain ⟨t, rfl⟩ := r; rfl
  | byt _ => obtain ⟨t, rfl⟩ := r; rfl
  | flt _ => obtain ⟨t, rfl⟩ := r; rfl
  | ref _ => cases r; rfl
  | ty _ => cases r; rfl
theorem RelV.inj {x y : V} {u : Value} (r : RelV x u) (q : RelV y u) : x = y := Option.some.inj (r.abs.symm.trans q.abs)
theorem Vals.inj : ∀ {xs ys : List V} {us : List Value}, Vals xs us → Vals ys us → xs = ys
  | _, _, _, .nil, .nil => rfl
  | _, _, _, .cons r t, .cons r' t' => by rw [r.inj r', Vals.inj t t']
section
variable {X : Cx} {pins : List (Addr × Obj)} {σ : St} {H : Hp} {s : Shared} {a : Addr} {xs ys : List V}
theorem SqL.of {K : PySem.W.Frag} (h : H a = some (.lst xs)) : SqL K H a xs := .inl (.inl h)
theorem SqT.of {K : PySem.W.Frag} (h : H a = some (.tup xs)) : SqT K H a xs := .inl (.inl h)
theorem Inv.list (I : Inv X pins σ H s) (h : SqL X.K H a xs) : ∃ its : List Value, Vals xs its ∧ PlainL s.heap a its.toArray ∧ xs.length ≤ sizeLine := by
  rcases h with h | ⟨o, its, n, hk, hc, hd, hs, hz, r⟩
  · obtain ⟨z, its, n, r, e⟩ := h.ok I.hok
    exact ⟨its, r, ⟨_, n, e, rfl, rfl, rfl⟩, z⟩
  · refine ⟨its.toList, r, ⟨o, n, I.kIn a o hk, hc, hd, by simpa using hs⟩, ?_⟩
    have e := r.length
    simp only [Array.length_toList] at e
    omega
theorem Inv.tuple (I : Inv X pins σ H s) (h : SqT X.K H a xs) : ∃ its : List Value, Vals xs its ∧ IsTup s.heap a its.toArray ∧ xs.length ≤ sizeLine := by
  rcases h with h | ⟨o, its, n, hk, hc, hs, hz, r⟩
  · obtain ⟨z, its, r, p⟩ := h.ok I.hok
    exact ⟨its, r, p, z⟩
  · refine ⟨its.toList, r, ⟨o, I.kIn a o hk, hc, n, by simpa using hs⟩, ?_⟩
    have e := r.length
    simp only [Array.length_toList] at e
    omega
theorem Inv.list_inj (I : Inv X pins σ H s) (h : SqL X.K H a xs) (h' : SqL X.K H a ys) : xs = ys := by
  obtain ⟨its, r, ⟨o, n, e, _, _, d⟩, _⟩ := I.list h
  obtain ⟨its', r', ⟨o', n', e', _, _, d'⟩, _⟩ := I.list h'
  rw [e] at e'; cases e'
  rw [d] at d'
  injection d' with d1 _
  have : its = its' := by simpa using congrArg Array.toList d1
  subst this
  exact r.inj r'
theorem Inv.tuple_inj (I : Inv X pins σ H s) (h : SqT X.K H a xs) (h' : SqT X.K H a ys) : xs = ys := by
  obtain ⟨its, r, ⟨o, e, _, n, d⟩, _⟩ := I.tuple h
  obtain ⟨its', r', ⟨o', e', _, n', d'⟩, _⟩ := I.tuple h'
  rw [e] at e'; cases e'
  rw [d] at d'
  injection d' with d1 _
  have : its = its' := by simpa using congrArg Array.toList d1
  subst this
  exact r.inj r'
end

/-! ### another wish about exceptions -/
abbrev Cx.wish (X : Cx) (E : Value → Shared → Prop) : Cx := { X with xe := E }
/-- no exception leaves -/
abbrev Cx.nox (X : Cx) : Cx := X.wish fun _ _ => False
theorem Cx.Ok.wish {X : Cx} (ok : X.Ok) (E : Value → Shared → Prop) : (X.wish E).Ok :=
  ⟨ok.mod, ok.kind, ok.glob, ok.blt, ok.above, ok.inj, ok.has, ok.cab, ok.hd, ok.frames, ok.stk, ok.exf, ok.bs, ok.bsz, ok.noex, ok.exfs, ok.funs, ok.frf⟩
theorem Cx.Ok.unwish {X : Cx} {E : Value → Shared → Prop} (ok : (X.wish E).Ok) : X.Ok :=
  ⟨ok.mod, ok.kind, ok.glob, ok.blt, ok.above, ok.inj, ok.has, ok.cab, ok.hd, ok.frames, ok.stk, ok.exf, ok.bs, ok.bsz, ok.noex, ok.exfs, ok.funs, ok.frf⟩
section
variable {X : Cx} {pins : List (Addr × Obj)} {σ : St} {H : Hp} {s : Shared} {E : Value → Shared → Prop}
theorem Inv.wish (I : Inv X pins σ H s) (E : Value → Shared → Prop) : Inv (X.wish E) pins σ H s := ⟨I.ok.wish E, I.os, I.bare, I.base, I.loc, I.cell, I.free, I.freeC, I.pin, I.hok, I.len⟩
theorem Inv.unwish (I : Inv (X.wish E) pins σ H s) : Inv X pins σ H s := ⟨I.ok.unwish, I.os, I.bare, I.base, I.loc, I.cell, I.free, I.freeC, I.pin, I.hok, I.len⟩
theorem SP.unwish {D : Ends} {f : Flow} {s' : Shared} (h : SP (X.wish E) pins D f s') : SP X pins D f s' := by
  cases f with
  | next => obtain ⟨σ', H', I, q⟩ := h; exact ⟨σ', H', I.unwish, q⟩
  | brk => obtain ⟨σ', H', I, q⟩ := h; exact ⟨σ', H', I.unwish, q⟩
  | cont => obtain ⟨σ', H', I, q⟩ := h; exact ⟨σ', H', I.unwish, q⟩
  | ret u => obtain ⟨v, σ', H', I, r, q⟩ := h; exact ⟨v, σ', H', I.unwish, r, q⟩
theorem PE.nox {e : Expr} {t : TE} (h : PE X.nox e t) : PE X e t := fun pins s σ H Q I hw =>
  wpAny_mono (h pins s σ H Q (I.wish _) hw) (fun _ _ ⟨v, H', I', r, q⟩ => ⟨v, H', I'.unwish, r, q⟩) fun _ _ z => False.elim z
theorem PT.nox {e : Expr} {t : TT} (h : PT X.nox e t) : PT X e t := fun pins s σ H Q I hw =>
  wpAny_mono (h pins s σ H Q (I.wish _) hw) (fun _ _ ⟨H', I', q⟩ => ⟨H', I'.unwish, q⟩) fun _ _ z => False.elim z
theorem PSs.nox {st : List Stmt} {t : TS} (h : PSs X.nox st t) : PSs X st t := fun pins s σ H D I hw =>
  wpAny_mono (h pins s σ H D (I.wish _) hw) (fun _ _ q => q.unwish) fun _ _ z => False.elim z
end

/-! ### blocks and small statements -/
section
variable {X : Cx} {st : Stmt} {rest : List Stmt} {t u : TS} {e : Expr} {te : TE} {pos : Pos}
def tNext : TS := fun D σ H => D.nx σ H
def tSeq (t u : TS) : TS := fun D σ H => t { D with nx := u D } σ H
theorem pss_nil : PSs X [] tNext := fun _ _ σ H _ I h => wpAny_execs_nil ⟨σ, H, I, h⟩
theorem pss_cons (h1 : PS X st t) (h2 : PSs X rest u) : PSs X (st :: rest) (tSeq t u) := by
  intro pins s σ H D I h
  refine wpAny_execs_cons (thn (h1 pins s σ H { D with nx := u D } I h) fun f s1 q => ?_)
  cases f with
  | next =>
    obtain ⟨σ', H', I', q⟩ := q
    exact h2 pins s1 σ' H' D I' q
  | ret v => exact q
  | brk => exact q
  | cont => exact q
theorem pss_one (h1 : PS X st t) : PSs X [st] t := by
  intro pins s σ H D I h
  refine wpAny_execs_cons (thn (h1 pins s σ H D I h) fun f s1 q => ?_)
  cases f with
  | next => exact wpAny_execs_nil q
  | ret v => exact q
  | brk => exact q
  | cont => exact q
def tBreak : TS := fun D σ H => D.bk σ H
def tCont : TS := fun D σ H => D.ct σ H
theorem ps_pass : PS X (.Pass pos) tNext := fun _ _ σ H _ I h => wpAny_Pass ⟨σ, H, I, h⟩
theorem ps_break : PS X (.Break pos) tBreak := fun _ _ σ H _ I h => wpAny_Break ⟨σ, H, I, h⟩
theorem ps_continue : PS X (.Continue pos) tCont := fun _ _ σ H _ I h => wpAny_Continue ⟨σ, H, I, h⟩
/-- in a def's body nothing is shown -/
theorem Inv.quiet {pins : List (Addr × Obj)} {σ : St} {H : Hp} {s : Shared} (I : Inv X pins σ H s) : interactive X.env = false := by simp [interactive, I.ok.kind]
/-- a docstring -/
theorem ps_doc {x j pos pos'} : PS X (.Expr (.Constant (.str x) j pos) pos') tNext := fun _ s σ H _ I h => wpAny_Expr (Calls.Constant_str (show SP X _ _ .next { s with toks := s.toks + 1 } from ⟨σ, H, I.tok _, h⟩)) I.quiet
/-- an expression whose value is dropped -/
def tDrop (te : TE) : TS := fun D σ H => te σ H fun _ H1 => D.nx σ H1
theorem ps_expr (he : PE X e te) (hs : swapsWith e none pos.line X.env = pure false := by rfl) : PS X (.Expr e pos) (tDrop te) := by
  intro pins s σ H D I h
  exact wpAny_Expr_any (thn (he pins s σ H _ I h) fun v s1 ⟨x, H1, I1, r1, q1⟩ => ⟨σ, H1, I1, q1⟩) I.quiet hs
def tRet (te : TE) : TS := fun D σ H => te σ H D.rt
theorem ps_ret (he : PE X e te) : PS X (.Return (some e) pos) (tRet te) := by
  intro pins s σ H D I h
  exact wpAny_Return_some (thn (he pins s σ H _ I h) fun v s1 ⟨x, H1, I1, r1, q1⟩ => ⟨x, σ, H1, I1, r1, q1⟩)
def tRetN : TS := fun D _ H => D.rt .non H
theorem ps_retN : PS X (.Return none pos) tRetN := fun _ _ σ H _ I h => wpAny_Return_none ⟨.non, σ, H, I, rfl, h⟩
def tIfS (c : TT) (t u : TS) : TS := fun D σ H => c σ H fun b H1 => if b = true then t D σ H1 else u D σ H1
theorem ps_if {c : Expr} {a b : List Stmt} {tc : TT} (hc : PT X c tc) (ha : PSs X a t) (hb : PSs X b u) : PS X (.If c a b pos) (tIfS tc t u) := by
  intro pins s σ H D I h
  refine wpAny_If (thn (hc pins s σ H _ I h) fun d s1 ⟨H1, I1, q1⟩ => ?_)
  cases d with
  | true => exact ha pins s1 σ H1 D I1 q1
  | false => exact hb pins s1 σ H1 D I1 q1
/-- code that the proof never comes to -/
def tNever : TS := fun _ _ _ => False
theorem ps_never : PS X st tNever := fun _ _ _ _ _ _ h => h.elim
theorem pss_never {sts : List Stmt} : PSs X sts tNever := fun _ _ _ _ _ _ h => h.elim
end

/-! ### targets -/
abbrev TG := V → St → Hp → (St → Hp → Prop) → Prop
abbrev TGs := List V → St → Hp → (St → Hp → Prop) → Prop
def PG (X : Cx) (target : Expr) (t : TG) : Prop :=
  ∀ (pins : List (Addr × Obj)) (s : Shared) (σ : St) (H : Hp) (v : V) (u : Value) (Q : St → Hp → Prop), Inv X pins σ H s → RelV v u → t v σ H Q →
    wpAny (model X.prog X.w) X.A (assign target X.env u) (fun _ s' => ∃ σ' H', Inv X pins σ' H' s' ∧ Q σ' H') X.xe s
/-- several targets, one after another -/
def PGs (X : Cx) (ts : List Expr) (t : TGs) : Prop :=
  ∀ (pins : List (Addr × Obj)) (s : Shared) (σ : St) (H : Hp) (vs : List V) (us : List Value) (Q : St → Hp → Prop), Inv X pins σ H s → Vals vs us → t vs σ H Q →
    wpAny (model X.prog X.w) X.A (assignInOrder ((assignEach ts X.env).map (·.2)) us) (fun _ s' => ∃ σ' H', Inv X pins σ' H' s' ∧ Q σ' H') X.xe s
/-- o[i] = v, by values -/
abbrev TSet := V → V → V → Hp → (Hp → Prop) → Prop
def PSet (X : Cx) (t : TSet) : Prop :=
  ∀ (pins : List (Addr × Obj)) (s : Shared) (σ : St) (H : Hp) (o i v : V) (ov iv u : Value) (Q : Hp → Prop), Inv X pins σ H s → RelV o ov → RelV i iv → RelV v u → t o i v H Q →
    wpAny (model X.prog X.w) X.A (setItem ov iv u) (fun _ s' => ∃ H', Inv X pins σ H' s' ∧ Q H') X.xe s
/-- a op= b, by values -/
abbrev TIp := V → V → Hp → VK → Prop
def PIp (X : Cx) (op : Operator) (t : TIp) : Prop :=
  ∀ (pins : List (Addr × Obj)) (s : Shared) (σ : St) (H : Hp) (x y : V) (v u : Value) (Q : VK), Inv X pins σ H s → RelV x v → RelV y u → t x y H Q →
    wpAny (model X.prog X.w) X.A (inplaceOp op v u) (EP X pins σ Q) X.xe s
section
variable {X : Cx} {pos : Pos}
def gName (i : Nat) : TG := fun v σ H Q => Q (σ.set i (some v)) H
theorem pg_name {i : Nat} {x : Str} (hN : X.N.Nodup) (hi : X.N[i]? = some x) (hx : Loc X.env.scope x) (hf : X.fn x = true ∨ X.env.scope.names.lookup x = some .local := by first | exact .inl rfl | exact .inr rfl | assumption) : PG X (.Name x pos) (gName i) := by
  intro pins s σ H v u Q I r h
  exact wpAny_assign_Name (store_ok I hN hi hx r (fun s' I' => ⟨_, H, I', h⟩) hf)
def gNil : TGs := fun vs σ H Q => vs = [] ∧ Q σ H
def gCons (t : TG) (u : TGs) : TGs := fun vs σ H Q => ∃ v r, vs = v :: r ∧ t v σ H fun σ' H' => u r σ' H' Q
theorem pgs_nil : PGs X [] gNil := by
  intro pins s σ H vs us Q I r h
  obtain ⟨e, h⟩ := h
  subst e
  cases r
  exact assignInOrder_nil ⟨σ, H, I, h⟩
theorem pgs_cons {e : Expr} {es : List Expr} {t : TG} {u : TGs} (h1 : PG X e t) (h2 : PGs X es u)
    (hs : (assignEach (e :: es) X.env).map (·.2) = assign e X.env :: (assignEach es X.env).map (·.2) := by rfl) : PGs X (e :: es) (gCons t u) := by
  intro pins s σ H vs us Q I r h
  obtain ⟨v, vr, e1, h⟩ := h
  subst e1
  cases r with
  | cons r rr =>
    rw [hs]
    refine assignInOrder_cons (thn (h1 pins s σ H _ _ _ I r h) fun _ s1 ⟨σ1, H1, I1, q1⟩ => ?_)
    exact h2 pins s1 σ1 H1 _ _ Q I1 rr q1
/-- (a, b, ..) = a tuple of that length -/
def gTup (K : PySem.W.Frag) (n : Nat) (t : TGs) : TG := fun v σ H Q => ∃ a xs, v = .ref a ∧ SqT K H a xs ∧ xs.length = n ∧ t xs σ H Q
theorem pg_tup {es : List Expr} {k : Nat} {t : TGs} {n : Nat} (hc : X.calm = true) (h : PGs X es t)
    (hn : (assignEach es X.env).length = n := by rfl) (hst : (assignEach es X.env).findIdx? (·.1) = none := by rfl) : PG X (.Tuple es k pos) (gTup X.K n t) := by
  intro pins s σ H v u Q I r hw
  obtain ⟨a, xs, e1, hq, hl, hw⟩ := hw
  subst e1
  cases r
  obtain ⟨its, rv, ht, hz⟩ := I.tuple hq
  refine assign_Tuple_tuple (I.ok.hd hc) ht (by simp [hn, ← hl, rv.length]) hst fun h' hx => ?_
  have I1 : Inv X pins σ H { s with heap := h' } := I.kept (t' := s.toks) fun b o e => hx b o (Nat.ne_of_lt (Heap.lt_size e)) e
  exact h pins _ σ H xs _ Q I1 (by simpa using rv) hw
/-- o[i] = .. -/
def gSub (to ti : TE) (t : TSet) : TG := fun v σ H Q => to σ H fun o H1 => ti σ H1 fun i H2 => t o i v H2 fun H3 => Q σ H3
theorem pg_sub {o i : Expr} {to ti : TE} {t : TSet} (ho : PE X o to) (hi : PE X i ti) (hs : PSet X t)
    (ha : ∀ v, assign (.Subscript o i pos) X.env v = (do
      let ov ← holding [v] (eval o X.env)
      let iv ← holding [v, ov] (eval i X.env)
      standAt pos
      holding [v, ov, iv] (setItem ov iv v)
      release [v, ov, iv] []) := by intro _; rfl) : PG X (.Subscript o i pos) (gSub to ti t) := by
  intro pins s σ H v u Q I r h
  rw [ha]
  refine wpAny_bind (wpAny_holding (thn (ho pins s σ H _ I h) fun ov s1 ⟨x, H1, I1, r1, q1⟩ => ?_))
  refine wpAny_bind (wpAny_holding (thn (hi pins s1 σ H1 _ I1 q1) fun iv s2 ⟨y, H2, I2, r2, q2⟩ => ?_))
  refine wpAny_bind (wpAny_standAt (wpAny_bind (wpAny_holding (thn (hs pins s2 σ H2 x y v ov iv u _ I2 r1 r2 r q2) fun _ s3 ⟨H3, I3, q3⟩ => ?_))))
  exact wpAny_release ⟨σ, H3, I3, q3⟩
/-- target = value -/
def tAsg (te : TE) (g : TG) : TS := fun D σ H => te σ H fun x H1 => g x σ H1 D.nx
theorem ps_asg {tg e : Expr} {te : TE} {g : TG} (he : PE X e te) (hg : PG X tg g) (hs : swapsWithSole [tg] e pos.line X.env = pure false := by rfl) (hw : swappedStores [tg] e X.env = pure none := by rfl)
    (h1 : (assignEach [tg] X.env).map (·.2) = [assign tg X.env] := by rfl) : PS X (.Assign [tg] e pos) (tAsg te g) := by
  intro pins s σ H D I h
  refine wpAny_Assign_stores (thn (he pins s σ H _ I h) fun v s1 ⟨x, H1, I1, r1, q1⟩ => ?_) hs hw
  rw [h1]
  exact thn (hg pins s1 σ H1 x v _ I1 r1 q1) fun _ s2 q => q
/-- name = value -/
theorem ps_set {i : Nat} {x : Str} {e : Expr} {te : TE} {pos' : Pos} (hN : X.N.Nodup) (hi : X.N[i]? = some x) (hx : Loc X.env.scope x) (he : PE X e te) (hs : swapsWith e (some (.Name x pos')) pos.line X.env = pure false := by rfl) (hf : X.fn x = true ∨ X.env.scope.names.lookup x = some .local := by first | exact .inl rfl | exact .inr rfl | assumption) :
    PS X (.Assign [.Name x pos'] e pos) (tAsg te (gName i)) := by
  intro pins s σ H D I h
  refine wpAny_Assign_Name (thn (he pins s σ H _ I h) fun v s1 ⟨y, H1, I1, r1, q1⟩ => ?_) hs
  exact store_ok I1 hN hi hx r1 (fun s2 I2 => ⟨_, H1, I2, q1⟩) hf
/-- a, b = x, y with plain local names: stored from the right; the pair itself is not tracked (the opening rows as in PyProof/Rows/TupAssign.lean:23) -/
def tPar (i j : Nat) (ta : TA) : TS := fun D σ H => ta σ H fun vs H1 => ∃ v w, vs = [v, w] ∧ D.nx ((σ.set i (some v)).set j (some w)) H1
theorem ps_par {i j : Nat} {x y : Str} {a b : Expr} {ta : TA} {px py pt : Pos} {kt k2 pt2} (hc : X.calm = true) (hN : X.N.Nodup) (hi : X.N[i]? = some x) (hj : X.N[j]? = some y) (hij : i ≠ j)
    (hx : X.env.scope.names.lookup x = some .local) (hy : X.env.scope.names.lookup y = some .local) (ha : PA X [a, b] ta)
    (hw : swappedStores [.Tuple [.Name x px, .Name y py] kt pt] (.Tuple [a, b] k2 pt2) X.env = pure (some [x, y]))
    (hs : swapsWithSole [.Tuple [.Name x px, .Name y py] kt pt] (.Tuple [a, b] k2 pt2) pos.line X.env = pure false := by rfl) :
    PS X (.Assign [.Tuple [.Name x px, .Name y py] kt pt] (.Tuple [a, b] k2 pt2) pos) (tPar i j ta) := by
  intro pins s σ H D I h
  rw [exec_Assign_arm]
  refine wpAny_bind (wpAny_standAt ?_)
  rw [hs]
  refine wpAny_bind (wpAny_pure ?_)
  rw [if_neg (by decide)]
  refine wpAny_bind (Tuple_ (thn (ha _ pins s σ H _ I h) fun us s1 ⟨vs, H1, I1, r1, q1⟩ => ?_))
  obtain ⟨v, w, e1, q1⟩ := q1
  subst e1
  obtain ⟨u1, u2, rfl, rv, rw'⟩ : ∃ u1 u2, us = [u1, u2] ∧ RelV v u1 ∧ RelV w u2 := by
    cases r1 with
    | cons p q =>
      cases q with
      | cons p' q' =>
        cases q'
        exact ⟨_, _, rfl, p, p'⟩
  refine wpAny_newObj_type ?_ (by show 2 ≤ sizeLine; decide)
  have I2 : Inv X pins σ H1 { s1 with heap := s1.heap.push { cls := .type "tuple", data := .seq [u1, u2].toArray } } := I1.kept (t' := s1.toks) fun b o e => Heap.get?_push_of_some _ e
  rw [hw]
  refine wpAny_bind (wpAny_pure ?_)
  show wpAny (model X.prog X.w) X.A (do rule "assign.swapped-stores"; let items ← unpackItems (.ref s1.heap.objs.size) 2 none; assignInOrder [fun v => bindName X.env y v, fun v => bindName X.env x v] items.reverse; pure Flow.next) _ _ _
  refine wpAny_bind (wpAny_rule (wpAny_bind (unpackItems_tuple (items := #[u1, u2]) (I.ok.hd hc) (IsTup.new s1.heap _) fun h' hx' => ?_)))
  have I3 := I2.kept (h' := h') (t' := s1.toks) fun b o e => hx' b o (Nat.ne_of_lt (Heap.lt_size e)) e
  show wpAny _ _ (assignInOrder [fun v => bindName X.env y v, fun v => bindName X.env x v] [u2, u1] >>= fun _ => pure Flow.next) _ _ _
  refine wpAny_bind (assignInOrder_cons (wpAny_bindName (store_ok I3 hN hj (.inl hy) rw' (fun s2 I4 => ?_) (.inr hy))))
  refine assignInOrder_cons (wpAny_bindName (store_ok I4 hN hi (.inl hx) rv (fun s3 I5 => assignInOrder_nil (wpAny_pure ?_)) (.inr hx)))
  rw [List.set_comm _ _ (Ne.symm hij)] at I5
  exact ⟨_, H1, I5, q1⟩
/-- name op= e -/
def tAug (i : Nat) (te : TE) (ti : TIp) : TS := fun D σ H => ∃ x, σ[i]? = some (some x) ∧ te σ H fun y H1 => ti x y H1 fun z H2 => D.nx (σ.set i (some z)) H2
theorem ps_aug {i : Nat} {x : Str} {e : Expr} {te : TE} {op : Operator} {ti : TIp} {pos' : Pos} (hN : X.N.Nodup) (hi : X.N[i]? = some x) (hx : Loc X.env.scope x) (he : PE X e te) (ho : PIp X op ti) (hf : X.fn x = true ∨ X.env.scope.names.lookup x = some .local := by first | exact .inl rfl | exact .inr rfl | assumption) :
    PS X (.AugAssign (.Name x pos') op e pos) (tAug i te ti) := by
  intro pins s σ H D I h
  obtain ⟨v, e1, h⟩ := h
  obtain ⟨m, hn, hl⟩ := I.loc
  have vis : Vis X.env.scope x := by rcases hx with k | k; exact .inl k; exact .inr (.inl k)
  obtain ⟨u, r, l⟩ := hl i x v hi e1 vis
  refine wpAny_AugAssign_Name ?_
  have go : wpAny (model X.prog X.w) X.A (eval e X.env) (fun w s₂ => wpAny (model X.prog X.w) X.A (inplaceOp op u w) (fun r s₃ => wpAny (model X.prog X.w) X.A (storeName X.env x r) (fun _ => SP X pins D .next) X.xe s₃) X.xe s₂) X.xe s := by
    refine thn (he pins s σ H _ I h) fun w s1 ⟨y, H1, I1, r1, q1⟩ => ?_
    refine thn (ho pins s1 σ H1 v y u w _ I1 r r1 q1) fun z s2 ⟨zv, H2, I2, r2, q2⟩ => ?_
    exact store_ok I2 hN hi hx r2 (fun s3 I3 => ⟨_, H2, I3, q2⟩) hf
  rcases l with ⟨hk, hm⟩ | ⟨hk, c, hc, hcell⟩
  · exact wpAny_loadName_local I.ok.kind hk hn hm go
  · rcases hk with hk | hk
    · exact wpAny_loadName_cell I.ok.kind hk hc hcell go
    · rcases hx with k | k
      · have : X.env.scope.names.lookup x = some .free := hk
        rw [k] at this; cases this
      · have : X.env.scope.names.lookup x = some .free := hk
        rw [k] at this; cases this
/-- o[i] op= e -/
def tAugS (to ti te : TE) (tget : V → V → Hp → VK → Prop) (tip : TIp) (tset : TSet) : TS := fun D σ H => to σ H fun o H1 => ti σ H1 fun i H2 => tget o i H2 fun x H3 => te σ H3 fun y H4 => tip x y H4 fun z H5 => tset o i z H5 fun H6 => D.nx σ H6
/-- o[i], by values -/
def PGet (X : Cx) (t : V → V → Hp → VK → Prop) : Prop :=
  ∀ (pins : List (Addr × Obj)) (s : Shared) (σ : St) (H : Hp) (o i : V) (ov iv : Value) (Q : VK), Inv X pins σ H s → RelV o ov → RelV i iv → t o i H Q →
    wpAny (model X.prog X.w) X.A (getItem ov iv) (EP X pins σ Q) X.xe s
theorem ps_augS {o i e : Expr} {to ti te : TE} {tget : V → V → Hp → VK → Prop} {tip : TIp} {tset : TSet} {op : Operator} {tpos : Pos} (ho : PE X o to) (hi : PE X i ti) (hg : PGet X tget) (he : PE X e te) (hp : PIp X op tip) (hs : PSet X tset)
    (ha : ∀ ov iv new, augStore i ov iv new = (do holding [new, ov, iv] (setItem ov iv new); release [new, ov, iv] []; pure .next) := by intros; rfl) : PS X (.AugAssign (.Subscript o i tpos) op e pos) (tAugS to ti te tget tip tset) := by
  intro pins s σ H D I h
  refine wpAny_AugAssign_SubscriptAny (thn (ho pins s σ H _ I h) fun ov s1 ⟨x1, H1, I1, r1, q1⟩ => ?_) ha
  refine thn (hi pins s1 σ H1 _ I1 q1) fun iv s2 ⟨x2, H2, I2, r2, q2⟩ => ?_
  refine thn (hg pins s2 σ H2 x1 x2 ov iv _ I2 r1 r2 q2) fun old s3 ⟨x3, H3, I3, r3, q3⟩ => ?_
  refine thn (he pins s3 σ H3 _ I3 q3) fun v s4 ⟨x4, H4, I4, r4, q4⟩ => ?_
  refine thn (hp pins s4 σ H4 x3 x4 old v _ I4 r3 r4 q4) fun new s5 ⟨x5, H5, I5, r5, q5⟩ => ?_
  exact thn (hs pins s5 σ H5 x1 x2 x5 ov iv new _ I5 r1 r2 r5 q5) fun _ s6 ⟨H6, I6, q6⟩ => ⟨σ, H6, I6, q6⟩
/-- ints -/
def ipI (f : Int → Int → Int) : TIp := fun x y H Q => ∃ i j, x = .int i ∧ y = .int j ∧ Q (.int (f i j)) H
theorem ip_add : PIp X .Add (ipI fun i j => i + j) := by
  intro pins s σ H x y v u Q I r1 r2 h
  obtain ⟨i, j, e1, e2, q⟩ := h
  subst e1; subst e2
  obtain ⟨t, rfl⟩ := r1
  obtain ⟨t', rfl⟩ := r2
  exact iadd_int ⟨.int _, H, I.tok _, ⟨_, rfl⟩, q⟩
theorem ip_sub : PIp X .Sub (ipI fun i j => i - j) := by
  intro pins s σ H x y v u Q I r1 r2 h
  obtain ⟨i, j, e1, e2, q⟩ := h
  subst e1; subst e2
  obtain ⟨t, rfl⟩ := r1
  obtain ⟨t', rfl⟩ := r2
  exact isub_int ⟨.int _, H, I.tok _, ⟨_, rfl⟩, q⟩
end

/-! ### while -/
section
variable {X : Cx} {pos : Pos}
/-- the invariant W with its measure -/
def tWhile (c : TT) (tb : TS) : TS := fun D σ H => ∃ W : Nat → St → Hp → Prop, (∃ m, W m σ H) ∧ ∀ m σ H, W m σ H →
  c σ H fun b H1 => if b = true then ∃ N : St → Hp → Prop, (∀ σ' H', N σ' H' → ∃ m', m' < m ∧ W m' σ' H') ∧ tb { D with nx := N, ct := N, bk := D.nx } σ H1 else D.nx σ H1
theorem ps_while {c : Expr} {body : List Stmt} {tc : TT} {tb : TS} (hp : PassesOwn (model X.prog X.w) X.A X.env X.xe) (hc : PT X c tc) (hb : PSs X body tb) : PS X (.While c body [] pos) (tWhile tc tb) := by
  intro pins s σ H D I h
  obtain ⟨W, ⟨m0, w0⟩, turn⟩ := h
  refine wpAny_While (codeAny_whileLoop (fun n s' => ∃ σ' H', Inv X pins σ' H' s' ∧ W n σ' H') ?_ m0 ⟨σ, H, I, w0⟩)
  rintro n s1 ⟨σ1, H1, I1, w1⟩
  refine wpAny_passesOwn hp (thn (hc pins s1 σ1 H1 _ I1 (turn n σ1 H1 w1)) fun b s2 ⟨H2, I2, q2⟩ => ?_)
  cases b with
  | true =>
    obtain ⟨N, hN, q2⟩ := q2
    rw [if_pos rfl]
    refine wpAny_passesOwn hp (thn (hb pins s2 σ1 H2 _ I2 q2) fun f s3 q3 => ?_)
    cases f with
    | next =>
      obtain ⟨σ3, H3, I3, n3⟩ := q3
      obtain ⟨m', hm, w3⟩ := hN σ3 H3 n3
      exact ⟨m', hm, σ3, H3, I3, w3⟩
    | cont =>
      obtain ⟨σ3, H3, I3, n3⟩ := q3
      obtain ⟨m', hm, w3⟩ := hN σ3 H3 n3
      exact ⟨m', hm, σ3, H3, I3, w3⟩
    | brk => exact q3
    | ret v => exact q3
  | false =>
    rw [if_neg Bool.false_ne_true]
    exact wpAny_execs_nil ⟨σ1, H2, I2, q2⟩
end

/-! ### what a loop or a comprehension walks -/
/-- at turn i: it yields x (the heap may grow), or it stops -/
structure It where
  go : Nat → Hp → Prop
  yld : Nat → Hp → V → Hp → Prop
  stop : Nat → Hp → Prop
/-- the iterator's own objects may turn: they are not the frame's, not pinned, younger than the entry (or a comprehension's own) -/
def FpOk (X : Cx) (pins : List (Addr × Obj)) (H : Hp) (b : Addr) : Prop :=
  H b = none ∧ b ≠ X.env.locals ∧ b ∉ X.fs ∧ (b ∈ X.ex ∨ X.s₀.heap.objs.size ≤ b) ∧ (∀ x c, X.env.cells.lookup x = some c → c ≠ b) ∧ ∀ p ∈ X.pn ++ pins, p.1 ≠ b
theorem Inv.fpOk {X : Cx} {pins : List (Addr × Obj)} {σ : St} {H H' : Hp} {s : Shared} {b : Addr} (I : Inv X pins σ H s) (hb : s.heap.objs.size ≤ b) (hn : H' b = none) : FpOk X pins H' b := by
  refine ⟨hn, Nat.ne_of_gt (Nat.lt_of_lt_of_le I.lt hb), I.nofs hb, .inr (Nat.le_trans I.sz hb), fun x c e z => ?_, fun p hp z => ?_⟩
  · obtain ⟨v, q⟩ := I.cell x c e
    exact absurd (Nat.lt_of_lt_of_le q.lt (by rw [z]; exact hb)) (Nat.lt_irrefl _)
  · exact absurd (Nat.lt_of_lt_of_le (Heap.lt_size (I.pin p hp).1) (by rw [z]; exact hb)) (Nat.lt_irrefl _)
structure Turn (P : Program) (w : World) (K : PySem.W.Frag) (tg : Expr) (J : It) (fp : List Addr) (it : Addr) (tn : Nat → Heap → Prop) : Prop where
  mem : it ∈ fp
  obj : ∀ i h, tn i h → ∀ b ∈ fp, ∃ o, h.get? b = some o ∧ ∀ v, o.data ≠ .cell v
  keep : ∀ i h h', tn i h → (∀ b ∈ fp, ∀ o, h.get? b = some o → h'.get? b = some o) → tn i h'
  item : ∀ (X : Cx), X.prog = P → X.w = w → X.K = K → X.calm = true → ∀ (i : Nat) (pins : List (Addr × Obj)) (s : Shared) (σ : St) (H : Hp) (E : Value → Shared → Prop), Inv X pins σ H s → (∀ b ∈ fp, FpOk X pins H b) → tn i s.heap → J.go i H →
    wpAny (model P w) X.A (pyNext (.ref it)) (fun r s1 => ∃ u, r = some u ∧
      wpAny (model P w) X.A (letOwnedTupleGo tg (.ref it) u) (fun _ s2 => ∃ x H', Inv X pins σ H' s2 ∧ RelV x u ∧ J.yld i H x H' ∧ tn (i + 1) s2.heap ∧ ∀ b ∈ fp, H' b = none) E s1) E s
  done : ∀ (X : Cx), X.prog = P → X.w = w → X.K = K → X.calm = true → ∀ (i : Nat) (pins : List (Addr × Obj)) (s : Shared) (σ : St) (H : Hp) (E : Value → Shared → Prop), Inv X pins σ H s → (∀ b ∈ fp, FpOk X pins H b) → tn i s.heap → J.stop i H →
    wpAny (model P w) X.A (pyNext (.ref it)) (fun r s1 => r = none ∧ Inv X pins σ H s1) E s
  self : ∀ (A : Around) (i : Nat) (s : Shared) (Q : Value → Shared → Prop) (E : Value → Shared → Prop), tn i s.heap → Q (.ref it) s → wpAny (model P w) A (pyIter (.ref it)) Q E s
abbrev TI := St → Hp → (It → Hp → Prop) → Prop
/-- an iterator has come -/
def PIE (X : Cx) (pins : List (Addr × Obj)) (σ : St) (tg : Expr) (R : It → Hp → Prop) (itv : Value) (s2 : Shared) : Prop :=
  ∃ (it : Addr) (fp : List Addr) (tn : Nat → Heap → Prop) (J : It) (H' : Hp), itv = .ref it ∧ Inv X pins σ H' s2 ∧ Turn X.prog X.w X.K tg J fp it tn ∧ tn 0 s2.heap ∧ (∀ b ∈ fp, FpOk X pins H' b) ∧ R J H'
def PI (X : Cx) (tg iter : Expr) (wi : TI) : Prop :=
  ∀ (pins : List (Addr × Obj)) (s : Shared) (σ : St) (H : Hp) (R : It → Hp → Prop), Inv X pins σ H s → wi σ H R →
    wpAny (model X.prog X.w) X.A (eval iter X.env) (fun v s1 => wpAny (model X.prog X.w) X.A (pyIter v) (PIE X pins σ tg R) X.xe s1) X.xe s

/-- the step ahead of the store is nothing for an iterator that keeps no tuple -/
theorem go_of {M : Model} {A : Around} {E : Value → Shared → Prop} {s : Shared} {tg : Expr} {it : Addr} {u : Value} {o : Obj} {n : String} {vs : Array Value} {Q : Unit → Shared → Prop} (ho : s.heap.get? it = some o) (hc : o.cls = .type n) (hd : o.data = .fields vs)
    (hn : ["enumerate", "zip", "dict_itemiterator", "dict_reverseitemiterator", "odict_iterator", "itertools.zip_longest", "itertools.pairwise"].contains n = false) (hQ : Q () s) : wpAny M A (letOwnedTupleGo tg (.ref it) u) Q E s := by
  unfold letOwnedTupleGo
  cases tg <;> first
    | exact wpAny_pure hQ
    | (cases u <;> first
        | exact wpAny_pure hQ
        | (refine wpAny_bind (wpAny_load ho ?_)
           rw [hc, hd]
           show wpAny M A (if (["enumerate", "zip", "dict_itemiterator", "dict_reverseitemiterator", "odict_iterator", "itertools.zip_longest", "itertools.pairwise"].contains n && vs[0]? == some (rawInt _)) = true then _ else _) Q E s
           rw [if_neg (by intro h; rw [hn, Bool.false_and] at h; cases h)]
           exact wpAny_pure hQ))

/-- the list at a, as it stands at each turn (a loop may append to it) -/
def Itl (K : PySem.W.Frag) (a : Addr) : It :=
  ⟨fun i H => ∃ xs x, SqL K H a xs ∧ xs[i]? = some x, fun i H x H' => H' = H ∧ ∀ xs, SqL K H a xs → xs[i]? = some x, fun i H => ∃ xs, SqL K H a xs ∧ xs.length ≤ i⟩
def Itt (K : PySem.W.Frag) (a : Addr) : It :=
  ⟨fun i H => ∃ xs x, SqT K H a xs ∧ xs[i]? = some x, fun i H x H' => H' = H ∧ ∀ xs, SqT K H a xs → xs[i]? = some x, fun i H => ∃ xs, SqT K H a xs ∧ xs.length ≤ i⟩
/-- lo, lo + 1, .. (n of them) -/
def Itr (lo : Int) (n : Nat) : It := ⟨fun i _ => i < n, fun i H x H' => H' = H ∧ x = .int (lo + i), fun i _ => n ≤ i⟩
theorem turn_list {P : Program} {w : World} {K : PySem.W.Frag} {tg : Expr} (a it : Addr) : Turn P w K tg (Itl K a) [it] it (fun i h => h.IsListIter it a i) where
  mem := by simp
  obj := fun i h st b hb => by
    have e : b = it := by simpa using hb
    subst e
    obtain ⟨o, e, c, d⟩ := st
    exact ⟨o, e, fun v z => by rw [d] at z; cases z⟩
  keep := fun i h h' st k => st.at fun o e => k it (by simp) o e
  item := by
    intro X hP hw hK hc i pins s σ H E I hf st hg
    subst hP hw hK
    obtain ⟨xs, x, hq, hx⟩ := hg
    obtain ⟨its, rv, p, hz⟩ := I.list hq
    obtain ⟨u, hu, ru⟩ := rv.get hx
    obtain ⟨f0, f1, f2, f3, f4, f5⟩ := hf it (by simp)
    refine wpAny_pyNext_list_item st p.isList (x := u) (by simpa using hu) fun h' st' sb => ?_
    have I1 : Inv X pins σ H { s with heap := h' } := I.turned (t' := s.toks) (fun b o hb e => (sb.2 b hb).trans e) f0 f1 f3 f4 f5
    obtain ⟨o, e, c, d⟩ := id st'
    exact ⟨u, rfl, go_of (s := { s with heap := h' }) e c d (by decide) ⟨x, H, I1, ru, ⟨rfl, fun ys hy => by rw [I.list_inj hy hq]; exact hx⟩, st', fun b hb => (hf b hb).1⟩⟩
  done := by
    intro X hP hw hK hc i pins s σ H E I hf st hg
    subst hP hw hK
    obtain ⟨xs, hq, hx⟩ := hg
    obtain ⟨its, rv, p, hz⟩ := I.list hq
    obtain ⟨f0, f1, f2, f3, f4, f5⟩ := hf it (by simp)
    have hl := rv.length
    exact wpAny_pyNext_list_end (I.ok.hd hc) st p.isList (by simp; omega) fun h' eb => ⟨rfl, I.turned (t' := s.toks) (fun b o hb e => eb b o hb e) f0 f1 f3 f4 f5⟩
  self := fun _ _ _ _ _ st h => wpAny_pyIter_listiter st h
theorem turn_tuple {P : Program} {w : World} {K : PySem.W.Frag} {tg : Expr} (a it : Addr) : Turn P w K tg (Itt K a) [it] it (fun i h => h.IsTupleIter it a i) where
  mem := by simp
  obj := fun i h st b hb => by
    have e : b = it := by simpa using hb
    subst e
    obtain ⟨o, e, c, d⟩ := st
    exact ⟨o, e, fun v z => by rw [d] at z; cases z⟩
  keep := fun i h h' st k => st.at fun o e => k it (by simp) o e
  item := by
    intro X hP hw hK hc i pins s σ H E I hf st hg
    subst hP hw hK
    obtain ⟨xs, x, hq, hx⟩ := hg
    obtain ⟨its, rv, p, hz⟩ := I.tuple hq
    obtain ⟨u, hu, ru⟩ := rv.get hx
    obtain ⟨f0, f1, f2, f3, f4, f5⟩ := hf it (by simp)
    refine wpAny_pyNext_tuple_item st (show s.heap.IsTuple a its.toArray from p) (x := u) (by simpa using hu) fun h' st' sb => ?_
    have I1 : Inv X pins σ H { s with heap := h' } := I.turned (t' := s.toks) (fun b o hb e => (sb.2 b hb).trans e) f0 f1 f3 f4 f5
    obtain ⟨o, e, c, d⟩ := id st'
    exact ⟨u, rfl, go_of (s := { s with heap := h' }) e c d (by decide) ⟨x, H, I1, ru, ⟨rfl, fun ys hy => by rw [I.tuple_inj hy hq]; exact hx⟩, st', fun b hb => (hf b hb).1⟩⟩
  done := by
    intro X hP hw hK hc i pins s σ H E I hf st hg
    subst hP hw hK
    obtain ⟨xs, hq, hx⟩ := hg
    obtain ⟨its, rv, p, hz⟩ := I.tuple hq
    obtain ⟨f0, f1, f2, f3, f4, f5⟩ := hf it (by simp)
    have hl := rv.length
    exact wpAny_pyNext_tuple_end (I.ok.hd hc) st (show s.heap.IsTuple a its.toArray from p) (by simp; omega) fun h' eb => ⟨rfl, I.turned (t' := s.toks) (fun b o hb e => eb b o hb e) f0 f1 f3 f4 f5⟩
  self := fun _ _ _ _ _ st h => wpAny_pyIter_tupleiter st h
theorem turn_range {P : Program} {w : World} {K : PySem.W.Frag} {tg : Expr} (it : Addr) (lo : Int) (n : Nat) : Turn P w K tg (Itr lo n) [it] it (fun i h => IsRangeIter h it (lo + (i : Nat) * 1) ((n : Int) - (i : Nat)) 1) where
  mem := by simp
  obj := fun i h st b hb => by
    have e : b = it := by simpa using hb
    subst e
    exact ⟨_, st, fun v z => by
      have z' : Data.fields _ = Data.cell v := z
      cases z'⟩
  keep := fun i h h' st k => k it (by simp) _ st
  item := by
    intro X hP hw hK hc i pins s σ H E I hf st hg
    subst hP hw hK
    obtain ⟨f0, f1, f2, f3, f4, f5⟩ := hf it (by simp)
    have W := Walks.range (prog := X.prog) (w := X.w) (I.ok.hd hc) it lo 1 n
    refine W.item i s _ _ hg st fun v h' tk hv st' kk => ?_
    obtain ⟨t, rfl⟩ := hv
    have I1 : Inv X pins σ H { s with heap := h', toks := tk } := I.turned (fun b o hb e => kk b o (by simpa using hb) e) f0 f1 f3 f4 f5
    refine ⟨_, rfl, go_of (s := { s with heap := h', toks := tk }) (n := "range_iterator") st' rfl rfl (by decide) ⟨.int (lo + i), H, I1, ⟨t, ?_⟩, ⟨rfl, rfl⟩, st', fun b hb => (hf b hb).1⟩⟩
    rw [Int.mul_one]
  done := by
    intro X hP hw hK hc i pins s σ H E I hf st hg
    subst hP hw hK
    obtain ⟨f0, f1, f2, f3, f4, f5⟩ := hf it (by simp)
    exact wpAny_pyNext_range_end (I.ok.hd hc) st (by have : n ≤ i := hg; omega) fun h' eb => ⟨rfl, I.turned (t' := s.toks) (fun b o hb e => eb b o hb e) f0 f1 f3 f4 f5⟩
  self := fun _ _ _ _ _ st h => wpAny_pyIter_rangeiter st h
end L2

namespace L2
open PySem PySem.Spec PyProof.Rows
section
variable {X : Cx} {tg : Expr}
def iList (K : PySem.W.Frag) (tl : TE) : TI := fun σ H R => tl σ H fun x H1 => ∃ a, x = .ref a ∧ (∃ xs, SqL K H1 a xs) ∧ R (Itl K a) H1
def iTup (K : PySem.W.Frag) (tl : TE) : TI := fun σ H R => tl σ H fun x H1 => ∃ a, x = .ref a ∧ (∃ xs, SqT K H1 a xs) ∧ R (Itt K a) H1
theorem pi_list {l : Expr} {tl : TE} (hl : PE X l tl) : PI X tg l (iList X.K tl) := by
  intro pins s σ H R I h
  refine thn (hl pins s σ H _ I h) fun v s1 ⟨x, H1, I1, r1, q1⟩ => ?_
  obtain ⟨a, e, ⟨xs, hq⟩, q⟩ := q1
  subst e
  cases r1
  obtain ⟨its, rv, p, hz⟩ := I1.list hq
  refine wpAny_pyIter_list p.isList ?_
  refine ⟨s1.heap.objs.size, [s1.heap.objs.size], _, _, H1, rfl, I1.kept (t' := s1.toks) fun b o e => Heap.get?_push_of_some _ e, turn_list a _, ⟨_, Heap.get?_push_size _ rfl, rfl, rfl⟩, fun b hb => ?_, q⟩
  have e : b = s1.heap.objs.size := by simpa using hb
  subst e
  exact I1.fpOk (Nat.le_refl _) (I1.hok.fresh (Nat.le_refl _))
theorem pi_tup {l : Expr} {tl : TE} (hl : PE X l tl) : PI X tg l (iTup X.K tl) := by
  intro pins s σ H R I h
  refine thn (hl pins s σ H _ I h) fun v s1 ⟨x, H1, I1, r1, q1⟩ => ?_
  obtain ⟨a, e, ⟨xs, hq⟩, q⟩ := q1
  subst e
  cases r1
  obtain ⟨its, rv, p, hz⟩ := I1.tuple hq
  refine wpAny_pyIter_tuple (show s1.heap.IsTuple a its.toArray from p) ?_
  refine ⟨s1.heap.objs.size, [s1.heap.objs.size], _, _, H1, rfl, I1.kept (t' := s1.toks) fun b o e => Heap.get?_push_of_some _ e, turn_tuple a _, ⟨_, Heap.get?_push_size _ rfl, rfl, rfl⟩, fun b hb => ?_, q⟩
  have e : b = s1.heap.objs.size := by simpa using hb
  subst e
  exact I1.fpOk (Nat.le_refl _) (I1.hok.fresh (Nat.le_refl _))
/-- a range object just made, walked -/
theorem range_it {pins : List (Addr × Obj)} {σ : St} {H : Hp} {s : Shared} {R : It → Hp → Prop} {E : Value → Shared → Prop} {lo hi : Int} {t u v : Tok} {tk : Nat} (I : Inv X pins σ H s) (h1 : -(2 ^ 62) ≤ lo) (h2 : lo < 2 ^ 62) (h3 : -(2 ^ 62) ≤ hi) (h4 : hi < 2 ^ 62)
    (q : R (Itr lo (hi - lo).toNat) H) : wpAny (model X.prog X.w) X.A (pyIter (.ref s.heap.objs.size)) (PIE X pins σ tg R) E { s with heap := s.heap.push { cls := .type "range", data := .fields #[.int lo t, .int hi u, .int 1 v] }, toks := tk } := by
  refine wpAny_pyIter_range (IsRange.new ..) (small_one h1 h2 h3 h4) ?_
  have I1 : Inv X pins σ H { s with heap := s.heap.push { cls := .type "range", data := .fields #[.int lo t, .int hi u, .int 1 v] }, toks := tk } := I.kept fun b o e => Heap.get?_push_of_some _ e
  refine ⟨(s.heap.push { cls := .type "range", data := .fields #[.int lo t, .int hi u, .int 1 v] }).objs.size, [(s.heap.push { cls := .type "range", data := .fields #[.int lo t, .int hi u, .int 1 v] }).objs.size], _, _, H, rfl,
    I1.kept (t' := tk) fun b o e => Heap.get?_push_of_some _ e, turn_range _ lo (hi - lo).toNat, ?_, fun b hb => ?_, q⟩
  · have e1 : lo + ((0 : Nat) : Int) * 1 = lo := by simp
    have e2 : (((hi - lo).toNat : Nat) : Int) - ((0 : Nat) : Int) = Builtin.Range.rangeSize lo hi 1 := by rw [rangeSize_one]; split <;> omega
    show IsRangeIter _ _ (lo + ((0 : Nat) : Int) * 1) ((((hi - lo).toNat : Nat) : Int) - ((0 : Nat) : Int)) 1
    rw [e1, e2]
    exact Heap.get?_push_size _ rfl
  · have e : b = (s.heap.push { cls := .type "range", data := .fields #[.int lo t, .int hi u, .int 1 v] }).objs.size := by simpa using hb
    subst e
    exact I1.fpOk (Nat.le_refl _) (I1.hok.fresh (Nat.le_refl _))
def iRng1 (ta : TA) : TI := fun σ H R => ta σ H fun vs H1 => ∃ j : Int, vs = [.int j] ∧ -(2 ^ 62) ≤ j ∧ j < 2 ^ 62 ∧ R (Itr 0 j.toNat) H1
def iRng2 (ta : TA) : TI := fun σ H R => ta σ H fun vs H1 => ∃ i j : Int, vs = [.int i, .int j] ∧ (-(2 ^ 62) ≤ i ∧ i < 2 ^ 62 ∧ -(2 ^ 62) ≤ j ∧ j < 2 ^ 62) ∧ R (Itr i (j - i).toNat) H1
theorem pi_range1 {a : Expr} {ta : TA} {p pos : Pos} (hg : Gl X "range") (hm : X.mg "range" = none) (ha : PA X [a] ta) (hs : starEach [a] X.env = [(false, eval a X.env)] := by rfl) : PI X tg (.Call (.Name "range" p) [a] [] pos) (iRng1 ta) := by
  intro pins s σ H R I h
  refine Call_ (ld_blt I hg hm boot_range (PyProof.Rows.callWith_type1 (thn (ha pos pins s σ H _ I h) fun us s1 ⟨vs, H1, I1, r1, q1⟩ => ?_) hs rfl))
  obtain ⟨j, e, q1, q2, q⟩ := q1
  subst e
  cases r1 with
  | cons r rr =>
    cases rr
    obtain ⟨t, rfl⟩ := r
    exact call_range_1 (range_it I1 (by omega) (by omega) q1 q2 (by simpa using q))
theorem pi_range2 {a b : Expr} {ta : TA} {p pos : Pos} (hg : Gl X "range") (hm : X.mg "range" = none) (ha : PA X [a, b] ta) (hs : starEach [a, b] X.env = [(false, eval a X.env), (false, eval b X.env)] := by rfl) (hs2 : starEach [b] X.env = [(false, eval b X.env)] := by rfl) :
    PI X tg (.Call (.Name "range" p) [a, b] [] pos) (iRng2 ta) := by
  intro pins s σ H R I h
  refine Call_ (ld_blt I hg hm boot_range (PyProof.Rows.callWith_type1 (thn (ha pos pins s σ H _ I h) fun us s1 ⟨vs, H1, I1, r1, q1⟩ => ?_) (by rw [hs, hs2]) (by rw [hs2]; rfl)))
  obtain ⟨i, j, e, ⟨q1, q2, q3, q4⟩, q⟩ := q1
  subst e
  cases r1 with
  | cons r rr =>
    cases rr with
    | cons r' rr =>
      cases rr
      obtain ⟨t, rfl⟩ := r
      obtain ⟨t', rfl⟩ := r'
      exact call_range_2 (range_it I1 q1 q2 q3 q4 q)

/-! ### for -/
/-- W: the invariant by the turn and a measure; N: what the body is to reach -/
def tFor (wi : TI) (g : TG) (tb : TS) : TS := fun D σ H => wi σ H fun J H1 => ∃ W : Nat → Nat → St → Hp → Prop, (∃ m, W 0 m σ H1) ∧ ∀ i m σ H, W i m σ H →
  (J.stop i H ∧ D.nx σ H) ∨ (J.go i H ∧ ∃ N : St → Hp → Prop, (∀ σ' H', N σ' H' → ∃ m', m' < m ∧ W (i + 1) m' σ' H') ∧ ∀ x H', J.yld i H x H' → g x σ H' fun σ2 H2 => tb { D with nx := N, ct := N, bk := D.nx } σ2 H2)
/-- the records at fp as they stand -/
def pinsAt (fp : List Addr) (h : Heap) : List (Addr × Obj) := fp.filterMap fun b => (h.get? b).map fun o => (b, o)
theorem mem_pinsAt {fp : List Addr} {h : Heap} {b : Addr} {o : Obj} (hb : b ∈ fp) (e : h.get? b = some o) : (b, o) ∈ pinsAt fp h := List.mem_filterMap.mpr ⟨b, hb, by rw [e]; rfl⟩
theorem of_pinsAt {fp : List Addr} {h : Heap} {p : Addr × Obj} (hp : p ∈ pinsAt fp h) : p.1 ∈ fp ∧ h.get? p.1 = some p.2 := by
  obtain ⟨b, hb, e⟩ := List.mem_filterMap.mp hp
  cases q : h.get? b with
  | none => rw [q] at e; cases e
  | some o =>
    rw [q] at e
    have e' : (b, o) = p := Option.some.inj e
    subst e'
    exact ⟨hb, q⟩
theorem Inv.pinned {pins : List (Addr × Obj)} {σ : St} {H : Hp} {s : Shared} {fp : List Addr} (I : Inv X pins σ H s) (hf : ∀ b ∈ fp, FpOk X pins H b) (ho : ∀ b ∈ fp, ∃ o, s.heap.get? b = some o ∧ ∀ v, o.data ≠ .cell v) : Inv X (pins ++ pinsAt fp s.heap) σ H s :=
  I.pins_of fun p hp => (List.mem_append.mp hp).elim (fun z => I.pin p (List.mem_append_right _ z)) fun z => by
    obtain ⟨hb, e⟩ := of_pinsAt z
    obtain ⟨f0, f1, f2, _⟩ := hf p.1 hb
    obtain ⟨o, e', d⟩ := ho p.1 hb
    rw [e] at e'; cases e'
    exact ⟨e, f0, f1, f2, d⟩
theorem Inv.unpinned {pins pl : List (Addr × Obj)} {σ : St} {H : Hp} {s : Shared} (I : Inv X (pins ++ pl) σ H s) : Inv X pins σ H s := I.pins_of fun p hp => I.pin p (List.mem_append_right _ (List.mem_append_left _ hp))
theorem ps_for {iter : Expr} {body : List Stmt} {wi : TI} {g : TG} {tb : TS} {pos : Pos} (hp : PassesOwn (model X.prog X.w) X.A X.env X.xe) (hc : X.calm = true) (hi : PI X tg iter wi) (hg : PG X tg g) (hb : PSs X body tb)
    (hs : ∀ x, foldedSetIterable iter X.env x = pure x := by intro _; rfl) : PS X (.For tg iter body [] pos) (tFor wi g tb) := by
  intro pins s σ H D I h
  refine wpAny_For (thn (hi pins s σ H _ I h) fun v s1 h1 => thn h1 fun itv s2 h2 => ?_) hs
  obtain ⟨it, fp, tn, J, H2, e, I2, T, st2, f2, W, ⟨m0, w0⟩, turn⟩ := h2
  subst e
  -- what stays true of the iterator's objects through the loop
  have stat : ∀ {H' : Hp}, (∀ b ∈ fp, H' b = none) → ∀ b ∈ fp, FpOk X pins H' b := fun hn b hb => ⟨hn b hb, (f2 b hb).2⟩
  refine codeAny_forLoop_any (fun n s' => ∃ i σ' H', Inv X pins σ' H' s' ∧ tn i s'.heap ∧ (∀ b ∈ fp, H' b = none) ∧ W i n σ' H') ?_ m0 ⟨0, σ, H2, I2, st2, fun b hb => (f2 b hb).1, w0⟩
  rintro n s3 ⟨i, σ3, H3, I3, st3, fr3, w3⟩
  rcases turn i n σ3 H3 w3 with ⟨stop, qn⟩ | ⟨go, N, hN, step⟩
  · refine wpAny_passesOwn hp (thn (T.done X rfl rfl rfl hc i pins s3 σ3 H3 X.xe I3 (stat fr3) st3 stop) fun r s4 ⟨hr, I4⟩ => ?_)
    subst hr
    exact wpAny_execs_nil ⟨σ3, H3, I4, qn⟩
  · refine wpAny_passesOwn hp (thn (T.item X rfl rfl rfl hc i pins s3 σ3 H3 X.xe I3 (stat fr3) st3 go) fun r s4 ⟨u, hr, h4⟩ => ?_)
    subst hr
    refine wpAny_passesOwn hp (thn h4 fun _ s5 ⟨x, H5, I5, r5, y5, st5, fr5⟩ => ?_)
    have I5' := I5.pinned (stat fr5) (T.obj _ _ st5)
    refine wpAny_passesOwn hp (thn (hg _ s5 σ3 H5 x u _ I5' r5 (step x H5 y5)) fun _ s6 ⟨σ6, H6, I6, q6⟩ => ?_)
    refine wpAny_passesOwn hp (thn (hb _ s6 σ6 H6 _ I6 q6) fun f s7 q7 => ?_)
    have again : ∀ {σ7 : St} {H7 : Hp}, Inv X (pins ++ pinsAt fp s5.heap) σ7 H7 s7 → N σ7 H7 → ∃ m, m < n ∧ ∃ i σ' H', Inv X pins σ' H' s7 ∧ tn i s7.heap ∧ (∀ b ∈ fp, H' b = none) ∧ W i m σ' H' := fun {σ7 H7} I7 n7 => by
      obtain ⟨m', hm, w7⟩ := hN σ7 H7 n7
      refine ⟨m', hm, i + 1, σ7, H7, I7.unpinned, T.keep _ _ _ st5 fun b hb o e => (I7.pin (b, o) (List.mem_append_right _ (List.mem_append_right _ (mem_pinsAt hb e)))).1, fun b hb => ?_, w7⟩
      obtain ⟨o, e, d⟩ := T.obj _ _ st5 b hb
      exact (I7.pin (b, o) (List.mem_append_right _ (List.mem_append_right _ (mem_pinsAt hb e)))).2.1
    cases f with
    | next => obtain ⟨σ7, H7, I7, n7⟩ := q7; exact again I7 n7
    | cont => obtain ⟨σ7, H7, I7, n7⟩ := q7; exact again I7 n7
    | brk => obtain ⟨σ7, H7, I7, q7⟩ := q7; exact ⟨σ7, H7, I7.unpinned, q7⟩
    | ret v => obtain ⟨x7, σ7, H7, I7, r7, q7⟩ := q7; exact ⟨x7, σ7, H7, I7.unpinned, r7, q7⟩
end

/-! ### the forms one uses -/
/-- over a list that the body leaves as it is -/
theorem for_list {K : PySem.W.Frag} {a : Addr} {xs : List V} {g : TG} {tb : TS} {D : Ends} {σ : St} {H : Hp} (Pv : Nat → St → Hp → Prop) (h0 : Pv 0 σ H) (hl : ∀ i σ H, i ≤ xs.length → Pv i σ H → SqL K H a xs)
    (hs : ∀ i x σ H, xs[i]? = some x → Pv i σ H → g x σ H fun σ2 H2 => tb { D with nx := Pv (i + 1), ct := Pv (i + 1), bk := D.nx } σ2 H2) (hd : ∀ σ H, Pv xs.length σ H → D.nx σ H) :
    ∃ W : Nat → Nat → St → Hp → Prop, (∃ m, W 0 m σ H) ∧ ∀ i m σ H, W i m σ H →
      ((Itl K a).stop i H ∧ D.nx σ H) ∨ ((Itl K a).go i H ∧ ∃ N : St → Hp → Prop, (∀ σ' H', N σ' H' → ∃ m', m' < m ∧ W (i + 1) m' σ' H') ∧ ∀ x H', (Itl K a).yld i H x H' → g x σ H' fun σ2 H2 => tb { D with nx := N, ct := N, bk := D.nx } σ2 H2) := by
  refine ⟨fun i m σ H => m = xs.length - i ∧ i ≤ xs.length ∧ Pv i σ H, ⟨xs.length, by simp, Nat.zero_le _, h0⟩, ?_⟩
  rintro i m σ H ⟨rfl, hi, p⟩
  have q := hl i σ H hi p
  by_cases hlt : i < xs.length
  · refine .inr ⟨⟨xs, xs[i], q, by simp [hlt]⟩, Pv (i + 1), fun σ' H' p' => ⟨xs.length - (i + 1), by omega, rfl, hlt, p'⟩, fun x H' y => ?_⟩
    obtain ⟨e, y⟩ := y
    subst e
    exact hs i x σ _ (y xs q) p
  · have e : i = xs.length := by omega
    subst e
    exact .inl ⟨⟨xs, q, Nat.le_refl _⟩, hd σ H p⟩
theorem for_tup {K : PySem.W.Frag} {a : Addr} {xs : List V} {g : TG} {tb : TS} {D : Ends} {σ : St} {H : Hp} (Pv : Nat → St → Hp → Prop) (h0 : Pv 0 σ H) (hl : ∀ i σ H, i ≤ xs.length → Pv i σ H → SqT K H a xs)
    (hs : ∀ i x σ H, xs[i]? = some x → Pv i σ H → g x σ H fun σ2 H2 => tb { D with nx := Pv (i + 1), ct := Pv (i + 1), bk := D.nx } σ2 H2) (hd : ∀ σ H, Pv xs.length σ H → D.nx σ H) :
    ∃ W : Nat → Nat → St → Hp → Prop, (∃ m, W 0 m σ H) ∧ ∀ i m σ H, W i m σ H →
      ((Itt K a).stop i H ∧ D.nx σ H) ∨ ((Itt K a).go i H ∧ ∃ N : St → Hp → Prop, (∀ σ' H', N σ' H' → ∃ m', m' < m ∧ W (i + 1) m' σ' H') ∧ ∀ x H', (Itt K a).yld i H x H' → g x σ H' fun σ2 H2 => tb { D with nx := N, ct := N, bk := D.nx } σ2 H2) := by
  refine ⟨fun i m σ H => m = xs.length - i ∧ i ≤ xs.length ∧ Pv i σ H, ⟨xs.length, by simp, Nat.zero_le _, h0⟩, ?_⟩
  rintro i m σ H ⟨rfl, hi, p⟩
  have q := hl i σ H hi p
  by_cases hlt : i < xs.length
  · refine .inr ⟨⟨xs, xs[i], q, by simp [hlt]⟩, Pv (i + 1), fun σ' H' p' => ⟨xs.length - (i + 1), by omega, rfl, hlt, p'⟩, fun x H' y => ?_⟩
    obtain ⟨e, y⟩ := y
    subst e
    exact hs i x σ _ (y xs q) p
  · have e : i = xs.length := by omega
    subst e
    exact .inl ⟨⟨xs, q, Nat.le_refl _⟩, hd σ H p⟩
theorem for_range {lo : Int} {n : Nat} {g : TG} {tb : TS} {D : Ends} {σ : St} {H : Hp} (Pv : Nat → St → Hp → Prop) (h0 : Pv 0 σ H)
    (hs : ∀ i σ H, i < n → Pv i σ H → g (.int (lo + i)) σ H fun σ2 H2 => tb { D with nx := Pv (i + 1), ct := Pv (i + 1), bk := D.nx } σ2 H2) (hd : ∀ σ H, Pv n σ H → D.nx σ H) :
    ∃ W : Nat → Nat → St → Hp → Prop, (∃ m, W 0 m σ H) ∧ ∀ i m σ H, W i m σ H →
      ((Itr lo n).stop i H ∧ D.nx σ H) ∨ ((Itr lo n).go i H ∧ ∃ N : St → Hp → Prop, (∀ σ' H', N σ' H' → ∃ m', m' < m ∧ W (i + 1) m' σ' H') ∧ ∀ x H', (Itr lo n).yld i H x H' → g x σ H' fun σ2 H2 => tb { D with nx := N, ct := N, bk := D.nx } σ2 H2) := by
  refine ⟨fun i m σ H => m = n - i ∧ i ≤ n ∧ Pv i σ H, ⟨n, by simp, Nat.zero_le _, h0⟩, ?_⟩
  rintro i m σ H ⟨rfl, hi, p⟩
  by_cases hlt : i < n
  · refine .inr ⟨hlt, Pv (i + 1), fun σ' H' p' => ⟨n - (i + 1), by omega, rfl, hlt, p'⟩, fun x H' y => ?_⟩
    obtain ⟨e, y⟩ := y
    subst e y
    exact hs i σ _ hlt p
  · have e : i = n := by omega
    subst e
    exact .inl ⟨Nat.le_refl _, hd σ H p⟩
/-- while, by a word and a measure of the state -/
theorem while_by {c : TT} {tb : TS} {D : Ends} {σ : St} {H : Hp} (Pv : St → Hp → Prop) (μ : St → Hp → Nat) (h0 : Pv σ H)
    (hs : ∀ σ H, Pv σ H → c σ H fun b H1 => if b = true then tb { D with nx := fun σ' H' => Pv σ' H' ∧ μ σ' H' < μ σ H, ct := fun σ' H' => Pv σ' H' ∧ μ σ' H' < μ σ H, bk := D.nx } σ H1 else D.nx σ H1)
    (mono : ∀ σ H Q Q', (∀ b H1, Q b H1 → Q' b H1) → c σ H Q → c σ H Q') : tWhile c tb D σ H := by
  refine ⟨fun m σ H => m = μ σ H ∧ Pv σ H, ⟨_, rfl, h0⟩, ?_⟩
  rintro m σ H ⟨rfl, p⟩
  refine mono σ H _ _ (fun b H1 q => ?_) (hs σ H p)
  cases b with
  | true => exact ⟨_, fun σ' H' ⟨p', l⟩ => ⟨_, l, rfl, p'⟩, q⟩
  | false => exact q
end L2

namespace L2
open PySem PySem.Spec PyProof.Rows

abbrev R2 := V → V → Hp → VK → Prop
/-- a two-place operation on values: f is binaryOp op, inplaceOp op or compareOp op -/
def OpR (X : Cx) (f : Value → Value → Sem Value) (r : R2) : Prop :=
  ∀ (pins : List (Addr × Obj)) (s : Shared) (σ : St) (H : Hp) (x y : V) (v u : Value) (Q : VK), Inv X pins σ H s → RelV x v → RelV y u → r x y H Q →
    wpAny (model X.prog X.w) X.A (f v u) (EP X pins σ Q) X.xe s
/-- a one-place operation -/
def UnR (X : Cx) (f : Value → Sem Value) (r : V → Hp → VK → Prop) : Prop :=
  ∀ (pins : List (Addr × Obj)) (s : Shared) (σ : St) (H : Hp) (x : V) (v : Value) (Q : VK), Inv X pins σ H s → RelV x v → r x H Q →
    wpAny (model X.prog X.w) X.A (f v) (EP X pins σ Q) X.xe s
/-- a call of a value that is known (a builtin, a type) with values -/
def CallR (X : Cx) (f : Value) (r : List V → Hp → VK → Prop) : Prop :=
  ∀ (pins : List (Addr × Obj)) (s : Shared) (σ : St) (H : Hp) (xs : List V) (us : List Value) (Q : VK), Inv X pins σ H s → Vals xs us → r xs H Q →
    wpAny (model X.prog X.w) X.A (call f us) (EP X pins σ Q) X.xe s
/-- a value's truth -/
def TruR (X : Cx) (r : V → Hp → (Bool → Hp → Prop) → Prop) : Prop :=
  ∀ (pins : List (Addr × Obj)) (s : Shared) (σ : St) (H : Hp) (x : V) (v : Value) (Q : Bool → Hp → Prop), Inv X pins σ H s → RelV x v → r x H Q →
    wpAny (model X.prog X.w) X.A (truthy v) (TP X pins σ Q) X.xe s

def tOp (r : R2) (ta tb : TE) : TE := fun σ H Q => ta σ H fun x H1 => tb σ H1 fun y H2 => r x y H2 Q
def tUn (r : V → Hp → VK → Prop) (ta : TE) : TE := fun σ H Q => ta σ H fun x H1 => r x H1 Q
/-- ints in, under C, and a value out -/
def rI (C : Int → Int → Prop) (g : Int → Int → V) : R2 := fun x y H Q => ∃ i j, x = .int i ∧ y = .int j ∧ C i j ∧ Q (g i j) H
def rI0 (g : Int → Int → V) : R2 := fun x y H Q => ∃ i j, x = .int i ∧ y = .int j ∧ Q (g i j) H
def rU (g : Int → V) : V → Hp → VK → Prop := fun x H Q => ∃ i, x = .int i ∧ Q (g i) H

section
variable {X : Cx} {a b c : Expr} {ta tb tc : TE} {pos : Pos}

theorem binT (ha : PE X a ta) (hb : PE X b tb) {pins : List (Addr × Obj)} {s : Shared} {σ : St} {H : Hp} {R : V → V → Hp → Prop} (I : Inv X pins σ H s)
    (h : ta σ H fun x H1 => tb σ H1 fun y H2 => R x y H2) {Q : Value → Shared → Prop} {f : Value → Value → Sem Value}
    (hf : ∀ v u s2 x y H2, Inv X pins σ H2 s2 → RelV x v → RelV y u → R x y H2 → wpAny (model X.prog X.w) X.A (f v u) Q X.xe s2) :
    wpAny (model X.prog X.w) X.A (eval a X.env) (fun v s₁ => wpAny (model X.prog X.w) X.A (eval b X.env) (fun u s₂ => wpAny (model X.prog X.w) X.A (f v u) Q X.xe s₂) X.xe s₁) X.xe s := by
  refine thn (ha pins s σ H _ I h) fun v s1 ⟨x, H1, I1, r1, q1⟩ => ?_
  refine thn (hb pins s1 σ H1 _ I1 q1) fun u s2 ⟨y, H2, I2, r2, q2⟩ => ?_
  exact hf v u s2 x y H2 I2 r1 r2 q2

theorem pe_op {op : Operator} {r : R2} (ho : OpR X (binaryOp op) r) (ha : PE X a ta) (hb : PE X b tb) : PE X (.BinOp a op b pos) (tOp r ta tb) := by
  intro pins s σ H Q I h
  exact wpAny_BinOp (binT ha hb I h fun v u s2 x y H2 I2 rx ry q => ho pins s2 σ H2 x y v u Q I2 rx ry q)
theorem pe_un {op : UnaryOp} {r : V → Hp → VK → Prop} (ho : UnR X (unaryOp op) r) (ha : PE X a ta) : PE X (.UnaryOp op a pos) (tUn r ta) := by
  intro pins s σ H Q I h
  exact UnaryOp_ (thn (ha pins s σ H _ I h) fun v s1 ⟨x, H1, I1, r1, q1⟩ => ho pins s1 σ H1 x v Q I1 r1 q1)
/-- a op= e at a name: the name's slot i -/
theorem augR {op : Operator} {r : R2} (ho : OpR X (inplaceOp op) r) {pins : List (Addr × Obj)} {s : Shared} {σ : St} {H : Hp} {x y : V} {v u : Value} {Q : VK} (I : Inv X pins σ H s)
    (rx : RelV x v) (ry : RelV y u) (q : r x y H Q) : wpAny (model X.prog X.w) X.A (inplaceOp op v u) (EP X pins σ Q) X.xe s := ho pins s σ H x y v u Q I rx ry q

/-! ### ints -/
theorem opI {f : Value → Value → Sem Value} {C : Int → Int → Prop} {g : Int → Int → Int}
    (rule : ∀ (i j : Int) (t u : Tok) (s : Shared) (Q : Value → Shared → Prop) (E : Value → Shared → Prop), C i j → Q (.int (g i j) s.toks) { s with toks := s.toks + 1 } → wpAny (model X.prog X.w) X.A (f (.int i t) (.int j u)) Q E s) :
    OpR X f (rI C fun i j => .int (g i j)) := by
  intro pins s σ H x y v u Q I rx ry h
  obtain ⟨i, j, rfl, rfl, hc, q⟩ := h
  obtain ⟨t, rfl⟩ := rx
  obtain ⟨t', rfl⟩ := ry
  exact rule i j t t' s _ _ hc ⟨.int (g i j), H, I.tok _, ⟨_, rfl⟩, q⟩
theorem opI0 {f : Value → Value → Sem Value} {g : Int → Int → Int}
    (rule : ∀ (i j : Int) (t u : Tok) (s : Shared) (Q : Value → Shared → Prop) (E : Value → Shared → Prop), Q (.int (g i j) s.toks) { s with toks := s.toks + 1 } → wpAny (model X.prog X.w) X.A (f (.int i t) (.int j u)) Q E s) :
    OpR X f (rI0 fun i j => .int (g i j)) := by
  intro pins s σ H x y v u Q I rx ry h
  obtain ⟨i, j, rfl, rfl, q⟩ := h
  obtain ⟨t, rfl⟩ := rx
  obtain ⟨t', rfl⟩ := ry
  exact rule i j t t' s _ _ ⟨.int (g i j), H, I.tok _, ⟨_, rfl⟩, q⟩
theorem opB0 {f : Value → Value → Sem Value} {g : Int → Int → Bool}
    (rule : ∀ (i j : Int) (t u : Tok) (s : Shared) (Q : Value → Shared → Prop) (E : Value → Shared → Prop), Q (.bool (g i j)) s → wpAny (model X.prog X.w) X.A (f (.int i t) (.int j u)) Q E s) :
    OpR X f (rI0 fun i j => .bl (g i j)) := by
  intro pins s σ H x y v u Q I rx ry h
  obtain ⟨i, j, rfl, rfl, q⟩ := h
  obtain ⟨t, rfl⟩ := rx
  obtain ⟨t', rfl⟩ := ry
  exact rule i j t t' s _ _ ⟨.bl (g i j), H, I, rfl, q⟩

def CDiv (i j : Int) : Prop := 0 < j ∧ j < 1073741824
def CDivN (i j : Int) : Prop := j ≠ 0 ∧ j.natAbs < 1073741824
def CPow (i j : Int) : Prop := 0 ≤ j ∧ j ≤ 1000000 ∧ i.natAbs < 2 ^ 64
def CMul (i j : Int) : Prop := (-(2 ^ 64) < i ∧ i < 2 ^ 64) ∨ (-(2 ^ 64) < j ∧ j < 2 ^ 64)
theorem CMul.ok {i j : Int} (h : CMul i j) : IntMulOk i j := by
  rcases h with ⟨h1, h2⟩ | ⟨h1, h2⟩
  · exact .of_left (intBits_le_64 h1 h2)
  · exact .of_right (intBits_le_64 h1 h2)
theorem two_pow_nn (k : Nat) : (0 : Int) ≤ 2 ^ k := by
  rw [two_pow_cast]
  exact Int.natCast_nonneg _

theorem op_add : OpR X (binaryOp .Add) (rI0 fun i j => .int (i + j)) := opI0 fun _ _ _ _ _ _ _ q => add_int q
theorem op_sub : OpR X (binaryOp .Sub) (rI0 fun i j => .int (i - j)) := opI0 fun _ _ _ _ _ _ _ q => sub_int q
theorem op_mul : OpR X (binaryOp .Mult) (rI CMul fun i j => .int (i * j)) := opI fun _ _ _ _ _ _ _ hc q => mul_int q hc.ok
/-- // by a positive divisor -/
theorem op_fdiv : OpR X (binaryOp .FloorDiv) (rI CDiv fun i j => .int (i / j)) := opI fun i j _ _ _ _ _ hc q => by
  have h1 : (0 : Int) < j := hc.1
  have h2 : j < 1073741824 := hc.2
  exact floordiv_int (by omega) (by rw [Int.fdiv_eq_ediv_of_nonneg i (by omega)]; exact q) (.inl (PyProof.noPylong_small (by omega)))
theorem op_fdivN : OpR X (binaryOp .FloorDiv) (rI CDivN fun i j => .int (i.fdiv j)) := opI fun _ _ _ _ _ _ _ hc q => floordiv_int hc.1 q (.inl (PyProof.noPylong_small hc.2))
/-- % by a positive divisor of any size -/
theorem op_mod : OpR X (binaryOp .Mod) (rI (fun _ j => 0 < j) fun i j => .int (i % j)) := opI fun i j _ _ _ _ _ hc q => by
  have h1 : (0 : Int) < j := hc
  exact mod_int' (by omega) (by rw [Int.fmod_eq_emod_of_nonneg i (by omega)]; exact q)
theorem op_modN : OpR X (binaryOp .Mod) (rI (fun _ j => j ≠ 0) fun i j => .int (i.fmod j)) := opI fun _ _ _ _ _ _ _ hc q => mod_int' hc q
theorem op_pow : OpR X (binaryOp .Pow) (rI CPow fun i j => .int (i ^ j.toNat)) := opI fun _ _ _ _ _ _ _ hc q => pow_int_small hc.1 hc.2.1 hc.2.2 q
theorem op_shl : OpR X (binaryOp .LShift) (rI CPow fun i j => .int (i * 2 ^ j.toNat)) := opI fun _ _ _ _ _ _ _ hc q => lshift_int_small hc.1 hc.2.1 hc.2.2 q
theorem op_shr : OpR X (binaryOp .RShift) (rI (fun _ j => 0 ≤ j) fun i j => .int (i / 2 ^ j.toNat)) := opI fun i j _ _ _ _ _ hc q =>
  rshift_int hc (by rw [Int.fdiv_eq_ediv_of_nonneg i (two_pow_nn _)]; exact q)
theorem op_and : OpR X (binaryOp .BitAnd) (rI0 fun i j => .int (Builtin.bitAnd i j)) := opI0 fun _ _ _ _ _ _ _ q => and_int q
theorem op_or : OpR X (binaryOp .BitOr) (rI0 fun i j => .int (Builtin.bitOr i j)) := opI0 fun _ _ _ _ _ _ _ q => or_int q
theorem op_xor : OpR X (binaryOp .BitXor) (rI0 fun i j => .int (Builtin.bitXor i j)) := opI0 fun _ _ _ _ _ _ _ q => xor_int q

theorem iop_add : OpR X (inplaceOp .Add) (rI0 fun i j => .int (i + j)) := opI0 fun _ _ _ _ _ _ _ q => iadd_int q
theorem iop_sub : OpR X (inplaceOp .Sub) (rI0 fun i j => .int (i - j)) := opI0 fun _ _ _ _ _ _ _ q => isub_int q
theorem iop_mul : OpR X (inplaceOp .Mult) (rI CMul fun i j => .int (i * j)) := opI fun _ _ _ _ _ _ _ hc q => imul_int q hc.ok
theorem iop_fdiv : OpR X (inplaceOp .FloorDiv) (rI CDiv fun i j => .int (i / j)) := opI fun i j _ _ _ _ _ hc q => by
  have h1 : (0 : Int) < j := hc.1
  have h2 : j < 1073741824 := hc.2
  exact ifloordiv_int (by omega) (by rw [Int.fdiv_eq_ediv_of_nonneg i (by omega)]; exact q) (.inl (PyProof.noPylong_small (by omega)))
theorem iop_mod : OpR X (inplaceOp .Mod) (rI (fun _ j => 0 < j) fun i j => .int (i % j)) := opI fun i j _ _ _ _ _ hc q => by
  have h1 : (0 : Int) < j := hc
  exact imod_int (by omega) (by rw [Int.fmod_eq_emod_of_nonneg i (by omega)]; exact q)
theorem iop_shl : OpR X (inplaceOp .LShift) (rI CPow fun i j => .int (i * 2 ^ j.toNat)) := opI fun _ _ _ _ _ _ _ hc q => ilshift_int_small hc.1 hc.2.1 hc.2.2 q
theorem iop_shr : OpR X (inplaceOp .RShift) (rI (fun _ j => 0 ≤ j) fun i j => .int (i / 2 ^ j.toNat)) := opI fun i j _ _ _ _ _ hc q =>
  irshift_int hc (by rw [Int.fdiv_eq_ediv_of_nonneg i (two_pow_nn _)]; exact q)
theorem iop_and : OpR X (inplaceOp .BitAnd) (rI0 fun i j => .int (Builtin.bitAnd i j)) := opI0 fun _ _ _ _ _ _ _ q => iand_int q
theorem iop_or : OpR X (inplaceOp .BitOr) (rI0 fun i j => .int (Builtin.bitOr i j)) := opI0 fun _ _ _ _ _ _ _ q => ior_int q
theorem iop_xor : OpR X (inplaceOp .BitXor) (rI0 fun i j => .int (Builtin.bitXor i j)) := opI0 fun _ _ _ _ _ _ _ q => ixor_int q

theorem unI {f : Value → Sem Value} {g : Int → Int}
    (rule : ∀ (i : Int) (t : Tok) (s : Shared) (Q : Value → Shared → Prop) (E : Value → Shared → Prop), Q (.int (g i) s.toks) { s with toks := s.toks + 1 } → wpAny (model X.prog X.w) X.A (f (.int i t)) Q E s) :
    UnR X f (rU fun i => .int (g i)) := by
  intro pins s σ H x v Q I rx h
  obtain ⟨i, rfl, q⟩ := h
  obtain ⟨t, rfl⟩ := rx
  exact rule i t s _ _ ⟨.int (g i), H, I.tok _, ⟨_, rfl⟩, q⟩
theorem un_neg : UnR X (unaryOp .USub) (rU fun i => .int (-i)) := unI fun _ _ _ _ _ q => neg_int q
theorem un_inv : UnR X (unaryOp .Invert) (rU fun i => .int (Builtin.bitNot i)) := unI fun _ _ _ _ _ q => invert_int q

/-! ### bools among ints: n += (a < b) -/
theorem op_add_ib : OpR X (binaryOp .Add) (fun x y H Q => ∃ i k, x = .int i ∧ y = .bl k ∧ Q (.int (i + b2i k)) H) := by
  intro pins s σ H x y v u Q I rx ry h
  obtain ⟨i, k, rfl, rfl, q⟩ := h
  obtain ⟨t, rfl⟩ := rx
  cases ry
  exact add_int_bool ⟨.int (i + b2i k), H, I.tok _, ⟨_, rfl⟩, q⟩
end

/-! ### comparisons -/
/-- the scalars that == tells apart as data does -/
def scal : V → V → Bool
  | .non, .non => true | .non, .int _ => true | .int _, .non => true | .non, .bl _ => true | .bl _, .non => true | .non, .str _ => true | .str _, .non => true
  | .int _, .int _ => true | .bl _, .bl _ => true | .str _, .str _ => true | .byt _, .byt _ => true
  | .int _, .str _ => true | .str _, .int _ => true | .bl _, .str _ => true | .str _, .bl _ => true
  | _, _ => false
def rEq : R2 := fun x y H Q => scal x y = true ∧ Q (.bl (decide (x = y))) H
def rNe : R2 := fun x y H Q => scal x y = true ∧ Q (.bl (!decide (x = y))) H

theorem dec_int {i j : Int} : decide (V.int i = V.int j) = (i == j) := by
  rw [Bool.eq_iff_iff]
  simp
theorem dec_bl {i j : Bool} : decide (V.bl i = V.bl j) = (i == j) := by
  rw [Bool.eq_iff_iff]
  simp
theorem dec_str {i j : Str} : decide (V.str i = V.str j) = (i == j) := by
  rw [Bool.eq_iff_iff]
  simp
theorem dec_byt {i j : Array UInt8} : decide (V.byt i = V.byt j) = (i.toList == j.toList) := by
  rw [Bool.eq_iff_iff]
  cases i
  cases j
  simp

section
variable {X : Cx} {a b c : Expr} {ta tb tc : TE} {pos : Pos}
theorem fin_bl {pins : List (Addr × Obj)} {σ : St} {H : Hp} {s : Shared} {Q : VK} {k k' : Bool} (I : Inv X pins σ H s) (q : Q (.bl k) H) (e : k = k') : EP X pins σ Q (.bool k') s := by
  subst e
  exact ⟨.bl k, H, I, rfl, q⟩
theorem op_eq : OpR X (compareOp .Eq) rEq := by
  intro pins s σ H x y v u Q I rx ry h
  obtain ⟨hs, q⟩ := h
  cases x with
  | non =>
    cases rx
    cases y with
    | non => cases ry; exact PySem.EqNone.eq_none_none (fin_bl I q (by simp))
    | bl j => cases ry; exact PySem.EqNone.eq_none_bool (fin_bl I q (by simp))
    | int j => obtain ⟨t', rfl⟩ := ry; exact PySem.EqNone.eq_none_int (fin_bl I q (by simp))
    | str j => obtain ⟨t', rfl⟩ := ry; exact PySem.EqNone.eq_none_str (fin_bl I q (by simp))
    | _ => exact absurd (show false = true from hs) Bool.false_ne_true
  | bl i =>
    cases rx
    cases y with
    | non => cases ry; exact PySem.EqNone.eq_bool_none (fin_bl I q (by simp))
    | bl j => cases ry; exact eq_bool (fin_bl I q dec_bl)
    | str j => obtain ⟨t', rfl⟩ := ry; exact PySem.EqMixed.eq_bool_str (fin_bl I q (by simp))
    | _ => exact absurd (show false = true from hs) Bool.false_ne_true
  | int i =>
    obtain ⟨t, rfl⟩ := rx
    cases y with
    | non => cases ry; exact PySem.EqNone.eq_int_none (fin_bl I q (by simp))
    | int j => obtain ⟨t', rfl⟩ := ry; exact eq_int (fin_bl I q dec_int)
    | str j => obtain ⟨t', rfl⟩ := ry; exact PySem.EqMixed.eq_int_str (fin_bl I q (by simp))
    | _ => exact absurd (show false = true from hs) Bool.false_ne_true
  | str i =>
    obtain ⟨t, rfl⟩ := rx
    cases y with
    | non => cases ry; exact PySem.EqNone.eq_str_none (fin_bl I q (by simp))
    | bl j => cases ry; exact PySem.EqMixed.eq_str_bool (fin_bl I q (by simp))
    | int j => obtain ⟨t', rfl⟩ := ry; exact PySem.EqMixed.eq_str_int (fin_bl I q (by simp))
    | str j => obtain ⟨t', rfl⟩ := ry; exact eq_str (fin_bl I q dec_str)
    | _ => exact absurd (show false = true from hs) Bool.false_ne_true
  | byt i =>
    obtain ⟨t, rfl⟩ := rx
    cases y with
    | byt j => obtain ⟨t', rfl⟩ := ry; exact PySem.W.eq_bytes (fin_bl I q dec_byt)
    | _ => exact absurd (show false = true from hs) Bool.false_ne_true
  | _ => cases y <;> exact absurd (show false = true from hs) Bool.false_ne_true
theorem op_ne : OpR X (compareOp .NotEq) rNe := by
  intro pins s σ H x y v u Q I rx ry h
  obtain ⟨hs, q⟩ := h
  cases x with
  | non =>
    cases rx
    cases y with
    | non => cases ry; exact PySem.EqNone.ne_none_none (fin_bl I q (by simp))
    | bl j => cases ry; exact PySem.EqNone.ne_none_bool (fin_bl I q (by simp))
    | int j => obtain ⟨t', rfl⟩ := ry; exact PySem.EqNone.ne_none_int (fin_bl I q (by simp))
    | str j => obtain ⟨t', rfl⟩ := ry; exact PySem.EqNone.ne_none_str (fin_bl I q (by simp))
    | _ => exact absurd (show false = true from hs) Bool.false_ne_true
  | bl i =>
    cases rx
    cases y with
    | non => cases ry; exact PySem.EqNone.ne_bool_none (fin_bl I q (by simp))
    | bl j => cases ry; exact ne_bool (fin_bl I q (congrArg not dec_bl))
    | str j => obtain ⟨t', rfl⟩ := ry; exact PySem.EqMixed.ne_bool_str (fin_bl I q (by simp))
    | _ => exact absurd (show false = true from hs) Bool.false_ne_true
  | int i =>
    obtain ⟨t, rfl⟩ := rx
    cases y with
    | non => cases ry; exact PySem.EqNone.ne_int_none (fin_bl I q (by simp))
    | int j => obtain ⟨t', rfl⟩ := ry; exact ne_int (fin_bl I q (congrArg not dec_int))
    | str j => obtain ⟨t', rfl⟩ := ry; exact PySem.EqMixed.ne_int_str (fin_bl I q (by simp))
    | _ => exact absurd (show false = true from hs) Bool.false_ne_true
  | str i =>
    obtain ⟨t, rfl⟩ := rx
    cases y with
    | non => cases ry; exact PySem.EqNone.ne_str_none (fin_bl I q (by simp))
    | bl j => cases ry; exact PySem.EqMixed.ne_str_bool (fin_bl I q (by simp))
    | int j => obtain ⟨t', rfl⟩ := ry; exact PySem.EqMixed.ne_str_int (fin_bl I q (by simp))
    | str j => obtain ⟨t', rfl⟩ := ry; exact ne_str (fin_bl I q (congrArg not dec_str))
    | _ => exact absurd (show false = true from hs) Bool.false_ne_true
  | byt i =>
    obtain ⟨t, rfl⟩ := rx
    cases y with
    | byt j => obtain ⟨t', rfl⟩ := ry; exact PySem.W.ne_bytes (fin_bl I q (congrArg not dec_byt))
    | _ => exact absurd (show false = true from hs) Bool.false_ne_true
  | _ => cases y <;> exact absurd (show false = true from hs) Bool.false_ne_true

theorem op_lt : OpR X (compareOp .Lt) (rI0 fun i j => .bl (decide (i < j))) := opB0 fun _ _ _ _ _ _ _ q => lt_int q
theorem op_le : OpR X (compareOp .LtE) (rI0 fun i j => .bl (decide (i ≤ j))) := opB0 fun _ _ _ _ _ _ _ q => le_int q
theorem op_gt : OpR X (compareOp .Gt) (rI0 fun i j => .bl (decide (j < i))) := opB0 fun _ _ _ _ _ _ _ q => gt_int q
theorem op_ge : OpR X (compareOp .GtE) (rI0 fun i j => .bl (decide (j ≤ i))) := opB0 fun _ _ _ _ _ _ _ q => ge_int q
theorem op_lt_str : OpR X (compareOp .Lt) (fun x y H Q => ∃ i j, x = .str i ∧ y = .str j ∧ Q (.bl (decide (i.cps.toList < j.cps.toList))) H) := by
  intro pins s σ H x y v u Q I rx ry h
  obtain ⟨i, j, rfl, rfl, q⟩ := h
  obtain ⟨t, rfl⟩ := rx
  obtain ⟨t', rfl⟩ := ry
  exact lt_str (fin_bl I q rfl)
/-- the one string within the other -/
theorem op_in_str : OpR X (compareOp .In) (fun x y H Q => ∃ i j, x = .str i ∧ y = .str j ∧ Q (.bl (!(Builtin.Str.occurrences j i 0 j.length 1).isEmpty)) H) := by
  intro pins s σ H x y v u Q I rx ry h
  obtain ⟨i, j, rfl, rfl, q⟩ := h
  obtain ⟨t, rfl⟩ := rx
  obtain ⟨t', rfl⟩ := ry
  exact in_str (fin_bl I q rfl)

/-- is None, is not None: the right side a value none -/
theorem op_isN : OpR X (compareOp .Is) (fun x y H Q => y = .non ∧ Q (.bl (decide (x = .non))) H) := by
  intro pins s σ H x y v u Q I rx ry h
  obtain ⟨rfl, q⟩ := h
  cases ry
  refine is_none_gen (fin_bl I q ?_)
  cases x <;> first
    | (cases rx; rfl)
    | (obtain ⟨t, rfl⟩ := rx; rfl)
theorem op_notN : OpR X (compareOp .IsNot) (fun x y H Q => y = .non ∧ Q (.bl (!decide (x = .non))) H) := by
  intro pins s σ H x y v u Q I rx ry h
  obtain ⟨rfl, q⟩ := h
  cases ry
  refine isnot_none_gen (fin_bl I q ?_)
  cases x <;> first
    | (cases rx; rfl)
    | (obtain ⟨t, rfl⟩ := rx; rfl)

theorem op_notin_str : OpR X (compareOp .NotIn) (fun x y H Q => ∃ i j, x = .str i ∧ y = .str j ∧ Q (.bl (!(!(Builtin.Str.occurrences j i 0 j.length 1).isEmpty))) H) := by
  intro pins s σ H x y v u Q I rx ry h
  obtain ⟨i, j, rfl, rfl, q⟩ := h
  obtain ⟨t, rfl⟩ := rx
  obtain ⟨t', rfl⟩ := ry
  exact notIn_str (fin_bl I q rfl)
/-- is, is not of two objects that are tracked lists or instances -/
def isObj : HO → Bool
  | .lst _ => true
  | .ins _ _ _ => true
  | _ => false
theorem obj_there {pins : List (Addr × Obj)} {s : Shared} {σ : St} {H : Hp} {a : Addr} {o : HO} (I : Inv X pins σ H s) (h : H a = some o) (p : isObj o = true) : ∃ ob, s.heap.get? a = some ob ∧ ob.cls ≠ .type "tuple" := by
  cases o with
  | lst xs =>
    obtain ⟨_, its, n, _, e⟩ : xs.length ≤ sizeLine ∧ ∃ (its : List Value) (n : Nat), Vals xs its ∧ s.heap.get? a = some { cls := .type "list", data := .seq its.toArray n } := I.hok a _ h
    exact ⟨_, e, (by show Value.type "list" ≠ .type "tuple"; decide +kernel)⟩
  | ins C dx fs =>
    have x := I.hok a _ h
    obtain ⟨_, _, _, e, _⟩ := x
    exact ⟨_, e, (by show Value.ref C ≠ .type "tuple"; exact fun z => by cases z)⟩
  | _ => exact absurd (show false = true from p) Bool.false_ne_true
theorem op_is_ref : OpR X (compareOp .Is) (fun x y H Q => ∃ a b oa ob, x = .ref a ∧ y = .ref b ∧ H a = some oa ∧ isObj oa = true ∧ H b = some ob ∧ isObj ob = true ∧ Q (.bl (decide (a = b))) H) := by
  intro pins s σ H x y v u Q I rx ry h
  obtain ⟨a, b, oa, ob, rfl, rfl, ha, pa, hb, pb, q⟩ := h
  cases rx
  cases ry
  obtain ⟨o1, e1, n1⟩ := obj_there I ha pa
  obtain ⟨o2, e2, _⟩ := obj_there I hb pb
  by_cases z : a = b
  · subst z
    exact wpAny_is_ref_self (fin_bl I q (by simp))
  · exact wpAny_is_ref_other z e1 e2 n1 (fin_bl I q (by simp [z]))
theorem op_isnot_ref : OpR X (compareOp .IsNot) (fun x y H Q => ∃ a b oa ob, x = .ref a ∧ y = .ref b ∧ H a = some oa ∧ isObj oa = true ∧ H b = some ob ∧ isObj ob = true ∧ Q (.bl (!decide (a = b))) H) := by
  intro pins s σ H x y v u Q I rx ry h
  obtain ⟨a, b, oa, ob, rfl, rfl, ha, pa, hb, pb, q⟩ := h
  cases rx
  cases ry
  obtain ⟨o1, e1, n1⟩ := obj_there I ha pa
  obtain ⟨o2, e2, _⟩ := obj_there I hb pb
  by_cases z : a = b
  · subst z
    exact wpAny_isNot_ref_self (fin_bl I q (by simp))
  · exact wpAny_isNot_ref_other z e1 e2 n1 (fin_bl I q (by simp [z]))

/-- two rules for one operation: by cases -/
theorem OpR.or {f : Value → Value → Sem Value} {r r' : R2} (h : OpR X f r) (h' : OpR X f r') : OpR X f (fun x y H Q => r x y H Q ∨ r' x y H Q) := by
  intro pins s σ H x y v u Q I rx ry q
  rcases q with q | q
  · exact h pins s σ H x y v u Q I rx ry q
  · exact h' pins s σ H x y v u Q I rx ry q

theorem nomark (b : Expr) {op : CmpOp} (h : op ≠ .In := by decide) (h2 : op ≠ .NotIn := by decide) : behindInMarks op b = false := by
  have e1 : (op == CmpOp.In) = false := by cases op <;> first | rfl | exact absurd rfl h
  have e2 : (op == CmpOp.NotIn) = false := by cases op <;> first | rfl | exact absurd rfl h2
  cases b <;> simp [behindInMarks, e1, e2]
/-- a comparison as a value; hm: nomark b, or (for in, not in) by with_unfolding_all rfl -/
theorem pe_cmpR {op : CmpOp} {r : R2} (ho : OpR X (compareOp op) r) (ha : PE X a ta) (hb : PE X b tb) (hm : behindInMarks op b = false) : PE X (.Compare a [op] [b] pos) (tOp r ta tb) := by
  intro pins s σ H Q I h
  exact wpAny_Compare1 (binT ha hb I h fun v u s2 x y H2 I2 rx ry q => ho pins s2 σ H2 x y v u Q I2 rx ry q) hm
/-- a reading of a value as a test -/
def tTest (t : TE) : TT := fun σ H Q => t σ H fun x H' => ∃ k, x = .bl k ∧ Q k H'
theorem pt_cmpR {op : CmpOp} {r : R2} (ho : OpR X (compareOp op) r) (ha : PE X a ta) (hb : PE X b tb) (hm : behindInMarks op b = false) : PT X (.Compare a [op] [b] pos) (tTest (tOp r ta tb)) := by
  intro pins s σ H Q I h
  refine wpAny_isTrue_Compare1 (thn (ha pins s σ H _ I h) fun v s1 ⟨x, H1, I1, r1, q1⟩ => thn (hb pins s1 σ H1 _ I1 q1) fun u s2 ⟨y, H2, I2, r2, q2⟩ =>
    thn (ho pins s2 σ H2 x y v u _ I2 r1 r2 q2) fun c s3 ⟨z, H3, I3, r3, k, e, q3⟩ => ?_) hm
  subst e
  cases r3
  exact wpAny_truthy_bool ⟨H3, I3, q3⟩
/-- a op1 b op2 c -/
def tChain (r r' : R2) (ta tb tc : TE) : TE := fun σ H Q => ta σ H fun x H1 => tb σ H1 fun y H2 => r x y H2 fun z H3 => ∃ k, z = .bl k ∧
  (if k = true then tc σ H3 fun w' H4 => r' y w' H4 Q else Q (.bl false) H3)
theorem pe_chain {op op' : CmpOp} {r r' : R2} (ho : OpR X (compareOp op) r) (ho' : OpR X (compareOp op') r') (ha : PE X a ta) (hb : PE X b tb) (hc : PE X c tc)
    (hm : lastMarks [op, op'] [b, c] = false := by with_unfolding_all rfl) : PE X (.Compare a [op, op'] [b, c] pos) (tChain r r' ta tb tc) := by
  intro pins s σ H Q I h
  refine Compare_chain (thn (ha pins s σ H _ I h) fun v s1 ⟨x, H1, I1, r1, q1⟩ => chain_link (thn (hb pins s1 σ H1 _ I1 q1) fun u s2 ⟨y, H2, I2, r2, q2⟩ =>
    thn (ho pins s2 σ H2 x y v u _ I2 r1 r2 q2) fun d s3 ⟨z, H3, I3, r3, k, e, q3⟩ => ?_)) hm
  subst e
  cases r3
  refine wpAny_truthy_bool ?_
  cases k with
  | false => exact ite_ff ⟨.bl false, H3, I3, rfl, q3⟩
  | true => exact ite_tt (chain_last (thn (hc pins s3 σ H3 _ I3 q3) fun w' s4 ⟨z', H4, I4, r4, q4⟩ => ho' pins s4 σ H4 y z' u w' Q I4 r2 r4 q4))
theorem pt_chain {op op' : CmpOp} {r r' : R2} (ho : OpR X (compareOp op) r) (ho' : OpR X (compareOp op') r') (ha : PE X a ta) (hb : PE X b tb) (hc : PE X c tc)
    (hm : lastMarks [op, op'] [b, c] = false := by with_unfolding_all rfl) : PT X (.Compare a [op, op'] [b, c] pos) (tTest (tChain r r' ta tb tc)) := by
  intro pins s σ H Q I h
  refine isTrue_chain (thn (ha pins s σ H _ I h) fun v s1 ⟨x, H1, I1, r1, q1⟩ => test_link (thn (hb pins s1 σ H1 _ I1 q1) fun u s2 ⟨y, H2, I2, r2, q2⟩ =>
    thn (ho pins s2 σ H2 x y v u _ I2 r1 r2 q2) fun d s3 ⟨z, H3, I3, r3, k, e, q3⟩ => ?_)) hm
  subst e
  cases r3
  refine wpAny_truthy_bool ?_
  cases k with
  | false =>
    obtain ⟨k', e', q'⟩ := q3
    cases e'
    exact ite_ff ⟨H3, I3, q'⟩
  | true =>
    refine ite_tt (test_last (thn (hc pins s3 σ H3 _ I3 q3) fun w' s4 ⟨z', H4, I4, r4, q4⟩ => thn (ho' pins s4 σ H4 y z' u w' _ I4 r2 r4 q4) fun d' s5 ⟨z2, H5, I5, r5, k2, e2, q5⟩ => ?_))
    subst e2
    cases r5
    exact wpAny_truthy_bool ⟨H5, I5, q5⟩

/-! ### truth -/
/-- a value's truth by the abstract heap -/
def TruV (K : PySem.W.Frag) (x : V) (H : Hp) (k : Bool) : Prop :=
  match x with
  | .non => k = false
  | .bl b => k = b
  | .int i => k = (i != 0)
  | .str y => y.length ≤ sizeLine ∧ k = ((y.length : Int) != 0)
  | .byt y => y.size ≤ sizeLine ∧ k = ((y.size : Int) != 0)
  | .ref p => (∃ xs, SqL K H p xs ∧ k = !xs.isEmpty) ∨ (∃ xs, SqT K H p xs ∧ k = !xs.isEmpty) ∨ ∃ kvs, H p = some (.dK kvs) ∧ k = !kvs.isEmpty
  | _ => False
theorem isEmpty_kv {κ : Type} {kvs : List (κ × V)} {vs : List (κ × Value)} (r : KV kvs vs) : (!vs.isEmpty) = !kvs.isEmpty := by
  cases r <;> rfl
theorem isEmpty_of {xs : List V} {its : List Value} (r : Vals xs its) : (!its.toArray.isEmpty) = !xs.isEmpty := by
  cases r <;> simp
theorem line63 : (sizeLine : Nat) < 2 ^ 63 := by rw [sizeLine_eq]; decide
theorem tru_ok : TruR X (fun x H Q => ∃ k, TruV X.K x H k ∧ Q k H) := by
  intro pins s σ H x v Q I rx h
  obtain ⟨k, e, q⟩ := h
  have hl := line63
  have hs : sizeLine = 16777216 := sizeLine_eq
  cases x with
  | non =>
    cases rx
    have e' : k = false := e
    subst e'
    exact truthy_none ⟨H, I, q⟩
  | bl b =>
    cases rx
    have e' : k = b := e
    subst e'
    exact wpAny_truthy_bool ⟨H, I, q⟩
  | int i =>
    obtain ⟨t, rfl⟩ := rx
    have e' : k = (i != 0) := e
    subst e'
    exact PySem.P.truthy_int ⟨H, I, q⟩
  | str y =>
    obtain ⟨t, rfl⟩ := rx
    obtain ⟨hy, e'⟩ : y.length ≤ sizeLine ∧ k = ((y.length : Int) != 0) := e
    subst e'
    exact PySem.P.truthy_str (by omega) ⟨H, I.tok _, q⟩
  | byt y =>
    obtain ⟨t, rfl⟩ := rx
    obtain ⟨hy, e'⟩ : y.size ≤ sizeLine ∧ k = ((y.size : Int) != 0) := e
    subst e'
    exact PySem.W.truthy_bytes (by omega) ⟨H, I.tok _, q⟩
  | ref p =>
    cases rx
    have e' : (∃ xs, SqL X.K H p xs ∧ k = !xs.isEmpty) ∨ (∃ xs, SqT X.K H p xs ∧ k = !xs.isEmpty) ∨ ∃ kvs, H p = some (.dK kvs) ∧ k = !kvs.isEmpty := e
    rcases e' with ⟨xs, hx, e'⟩ | ⟨xs, hx, e'⟩ | ⟨kvs, hx, e'⟩
    · subst e'
      obtain ⟨its, r, pl, hz⟩ := I.list hx
      have hlen := r.length
      exact wpAny_truthy_list pl.isList (by simp only [List.size_toArray]; omega) ⟨H, I.tok _, by rw [isEmpty_of r]; exact q⟩
    · subst e'
      obtain ⟨its, r, pl, hz⟩ := I.tuple hx
      have hlen := r.length
      exact truthy_tuple pl (by simp only [List.size_toArray]; omega) ⟨H, I.tok _, by rw [isEmpty_of r]; exact q⟩
    · subst e'
      obtain ⟨hz, hS, vs, r, m⟩ : kvs.length ≤ sizeLine ∧ (p == sysModules) = false ∧ ∃ vs, KV kvs vs ∧ s.heap.DictOf (mixKind X.prog X.w) p vs := I.hok p _ hx
      have hlen : kvs.length = vs.length := Paired.length r
      exact wpAny_truthy_dict hS m (by omega) ⟨H, I.tok _, by rw [isEmpty_kv r]; exact q⟩
  | _ => exact (show False from e).elim
/-- any expression whose test is its value's truth (a name, a call, a subscript, a field ..: he by fun _ => rfl) -/
theorem pt_truth (ha : PE X a ta) (he : ∀ whole, isTrue a X.env whole = (do let v ← whole; standAt a.pos; holding [v] (truthy v))) :
    PT X a (fun σ H Q => ta σ H fun x H' => ∃ k, TruV X.K x H' k ∧ Q k H') := by
  intro pins s σ H Q I h
  exact isTrue_plain (thn (ha pins s σ H _ I h) fun v s1 ⟨x, H1, I1, r1, q1⟩ => tru_ok pins s1 σ H1 x v Q I1 r1 q1) (he _)

/-! ### strs and bytes -/
theorem pe_byt {x : List UInt8} {k : Nat} : PE X (.Constant (.bytes x) k pos) (fun _ H Q => Q (.byt x.toArray) H) := fun _ _ _ H _ I h => PySem.W.Constant_bytes ⟨.byt x.toArray, H, I.tok _, ⟨_, rfl⟩, h⟩
theorem op_add_str : OpR X (binaryOp .Add) (fun x y H Q => ∃ i j, x = .str i ∧ y = .str j ∧ i.length + j.length ≤ sizeLine ∧ Q (.str (i ++ j)) H) := by
  intro pins s σ H x y v u Q I rx ry h
  obtain ⟨i, j, rfl, rfl, hz, q⟩ := h
  obtain ⟨t, rfl⟩ := rx
  obtain ⟨t', rfl⟩ := ry
  exact add_str (fun t' tk => ⟨.str (i ++ j), H, I.tok _, ⟨_, rfl⟩, q⟩) hz
theorem iop_add_str : OpR X (inplaceOp .Add) (fun x y H Q => ∃ i j, x = .str i ∧ y = .str j ∧ i.length + j.length ≤ sizeLine ∧ Q (.str (i ++ j)) H) := by
  intro pins s σ H x y v u Q I rx ry h
  obtain ⟨i, j, rfl, rfl, hz, q⟩ := h
  obtain ⟨t, rfl⟩ := rx
  obtain ⟨t', rfl⟩ := ry
  exact iadd_str (fun t' tk => ⟨.str (i ++ j), H, I.tok _, ⟨_, rfl⟩, q⟩) hz
theorem op_add_byt : OpR X (binaryOp .Add) (fun x y H Q => ∃ i j, x = .byt i ∧ y = .byt j ∧ i.size + j.size ≤ 16777216 ∧ Q (.byt (i ++ j)) H) := by
  intro pins s σ H x y v u Q I rx ry h
  obtain ⟨i, j, rfl, rfl, hz, q⟩ := h
  obtain ⟨t, rfl⟩ := rx
  obtain ⟨t', rfl⟩ := ry
  exact PySem.W.KBy.add_bytes hz (fun t' tk => ⟨.byt (i ++ j), H, I.tok _, ⟨_, rfl⟩, q⟩)

def PlainIxT (b : Expr) : Prop := ∀ o i, subscripted b false o i = operate [o, i] (getItem o i)
/-- s[i], 0 ≤ i < len -/
theorem pe_item_str (ha : PE X a ta) (hb : PE X b tb) (hs : PlainIxT b) :
    PE X (.Subscript a b pos) (tOp (fun x y H Q => ∃ z i c, x = .str z ∧ y = .int i ∧ 0 ≤ i ∧ i < 2 ^ 63 ∧ i < z.length ∧ z.cps[i.toNat]? = some c ∧ Q (.str ⟨#[c]⟩) H) ta tb) := by
  intro pins s σ H Q I h
  refine Subscript_ (binT ha hb I h fun v u s2 x y H2 I2 rx ry q => ?_)
  obtain ⟨z, i, c, rfl, rfl, h0, h63, h1, hc, q⟩ := q
  obtain ⟨t, rfl⟩ := rx
  obtain ⟨t', rfl⟩ := ry
  have e : seqIndex? i z.length = some i.toNat := PySem.StrLaws.seqIndex_nonneg h0 h1
  exact tail_any (typeIs_str s2 z t) slot_str_getitem.lookup (getItem_str (c := c) (by
    have e1 : decide (i < -(2 ^ 63 : Int)) = false := decide_eq_false (by omega)
    have e2 : decide (i ≥ 2 ^ 63) = false := decide_eq_false (by omega)
    rw [e1, e2] <;> rfl) (by rw [e]; exact hc) ⟨.str ⟨#[c]⟩, H2, I2.tok _, ⟨_, rfl⟩, q⟩) (hs _ _)
/-- b[i], 0 ≤ i < len -/
theorem pe_item_byt (ha : PE X a ta) (hb : PE X b tb) (hs : PlainIxT b) :
    PE X (.Subscript a b pos) (tOp (fun x y H Q => ∃ (z : List UInt8) (i : Int), x = .byt z.toArray ∧ y = .int i ∧ z.length ≤ sizeLine ∧ 0 ≤ i ∧ i < z.length ∧ Q (.int ((z.getD i.toNat 0).toNat : Nat)) H) ta tb) := by
  intro pins s σ H Q I h
  refine Subscript_ (binT ha hb I h fun v u s2 x y H2 I2 rx ry q => ?_)
  obtain ⟨z, i, rfl, rfl, hz, h0, h1, q⟩ := q
  obtain ⟨t, rfl⟩ := rx
  obtain ⟨t', rfl⟩ := ry
  have hl : sizeLine = 16777216 := sizeLine_eq
  exact tail_any (PySem.W.typeIs_bytes s2 z.toArray t) PySem.W.FB.slot_bytes_getitem.lookup (PySem.W.getItem_bytes (by omega) h0 h1 ⟨.int ((z.getD i.toNat 0).toNat : Nat), H2, I2.tok _, ⟨_, rfl⟩, q⟩) (hs _ _)

/-! ### scalar builtins, by CallR -/
theorem vals1 {x : V} {us : List Value} (r : Vals [x] us) : ∃ u, us = [u] ∧ RelV x u := by
  cases r with
  | cons r1 r2 => cases r2; exact ⟨_, rfl, r1⟩
theorem vals2 {x y : V} {us : List Value} (r : Vals [x, y] us) : ∃ u w', us = [u, w'] ∧ RelV x u ∧ RelV y w' := by
  cases r with
  | cons r1 r2 =>
    cases r2 with
    | cons r3 r4 => cases r4; exact ⟨_, _, rfl, r1, r3⟩
theorem call_abs : CallR X (.builtin "abs") (fun xs H Q => ∃ i, xs = [.int i] ∧ Q (.int (if i < 0 then -i else i)) H) := by
  intro pins s σ H xs us Q I r h
  obtain ⟨i, rfl, q⟩ := h
  obtain ⟨u, rfl, t, rfl⟩ := vals1 r
  exact call_abs_int fun u tk => ⟨.int (if i < 0 then -i else i), H, I.tok _, ⟨_, rfl⟩, q⟩
theorem call_max2 (hc : X.calm = true) : CallR X (.builtin "max") (fun xs H Q => ∃ i j, xs = [.int i, .int j] ∧ Q (.int (if j > i then j else i)) H) := by
  intro pins s σ H xs us Q I r h
  obtain ⟨i, j, rfl, q⟩ := h
  obtain ⟨u, w', rfl, ⟨t, rfl⟩, ⟨t', rfl⟩⟩ := vals2 r
  refine max_two_ints (I.ok.hd hc) fun h' tk k => ⟨_, H, I.kept k, ?_, q⟩
  by_cases hj : j > i
  · rw [if_pos hj, if_pos hj]; exact ⟨_, rfl⟩
  · rw [if_neg hj, if_neg hj]; exact ⟨_, rfl⟩
theorem call_min2 (hc : X.calm = true) : CallR X (.builtin "min") (fun xs H Q => ∃ i j, xs = [.int i, .int j] ∧ Q (.int (if j < i then j else i)) H) := by
  intro pins s σ H xs us Q I r h
  obtain ⟨i, j, rfl, q⟩ := h
  obtain ⟨u, w', rfl, ⟨t, rfl⟩, ⟨t', rfl⟩⟩ := vals2 r
  refine min_two_ints (I.ok.hd hc) fun h' tk k => ⟨_, H, I.kept k, ?_, q⟩
  by_cases hj : j < i
  · rw [if_pos hj, if_pos hj]; exact ⟨_, rfl⟩
  · rw [if_neg hj, if_neg hj]; exact ⟨_, rfl⟩
theorem call_int1 : CallR X (.type "int") (fun xs H Q => (∃ i, xs = [.int i] ∧ Q (.int i) H) ∨ ∃ k, xs = [.bl k] ∧ Q (.int (if k then 1 else 0)) H) := by
  intro pins s σ H xs us Q I r h
  rcases h with ⟨i, rfl, q⟩ | ⟨k, rfl, q⟩
  · obtain ⟨u, rfl, t, rfl⟩ := vals1 r
    exact call_int_int ⟨.int i, H, I, ⟨_, rfl⟩, q⟩
  · obtain ⟨u, rfl, r1⟩ := vals1 r
    cases r1
    exact call_int_bool ⟨.int (if k then 1 else 0), H, I.tok _, ⟨_, rfl⟩, q⟩
theorem call_bool1 : CallR X (.type "bool") (fun xs H Q => (∃ i, xs = [.int i] ∧ Q (.bl (i != 0)) H) ∨ ∃ k, xs = [.bl k] ∧ Q (.bl k) H) := by
  intro pins s σ H xs us Q I r h
  rcases h with ⟨i, rfl, q⟩ | ⟨k, rfl, q⟩
  · obtain ⟨u, rfl, t, rfl⟩ := vals1 r
    exact call_bool_int ⟨.bl (i != 0), H, I, rfl, q⟩
  · obtain ⟨u, rfl, r1⟩ := vals1 r
    cases r1
    exact call_bool_bool ⟨.bl k, H, I, rfl, q⟩
theorem call_str_int : CallR X (.type "str") (fun xs H Q => ∃ i, xs = [.int i] ∧ i.natAbs.log2 < 1920 ∧ Q (.str (toString i)) H) := by
  intro pins s σ H xs us Q I r h
  obtain ⟨i, rfl, hz, q⟩ := h
  obtain ⟨u, rfl, t, rfl⟩ := vals1 r
  exact PySem.P.str_of_int hz ⟨.str _, H, I.tok _, ⟨_, rfl⟩, q⟩
theorem call_ord : CallR X (.builtin "ord") (fun xs H Q => ∃ x, xs = [.str x] ∧ x.length = 1 ∧ Q (.int (x.cps.getD 0 0 : Nat)) H) := by
  intro pins s σ H xs us Q I r h
  obtain ⟨x, rfl, hz, q⟩ := h
  obtain ⟨u, rfl, t, rfl⟩ := vals1 r
  exact ord_of_one hz ⟨.int _, H, I.tok _, ⟨_, rfl⟩, q⟩
theorem call_chr : CallR X (.builtin "chr") (fun xs H Q => ∃ i, xs = [.int i] ∧ 0 ≤ i ∧ i ≤ 1114111 ∧ Q (.str ⟨#[i.toNat]⟩) H) := by
  intro pins s σ H xs us Q I r h
  obtain ⟨i, rfl, h0, h1, q⟩ := h
  obtain ⟨u, rfl, t, rfl⟩ := vals1 r
  exact chr_of_range h0 h1 ⟨.str _, H, I.tok _, ⟨_, rfl⟩, q⟩
/-- len of a str, a bytes, a list, a tuple -/
def LenV (K : PySem.W.Frag) (x : V) (H : Hp) (n : Nat) : Prop :=
  match x with
  | .str y => y.length ≤ sizeLine ∧ n = y.length
  | .byt y => y.size ≤ sizeLine ∧ n = y.size
  | .ref p => (∃ xs, SqL K H p xs ∧ n = xs.length) ∨ ∃ xs, SqT K H p xs ∧ n = xs.length
  | _ => False
theorem call_len : CallR X (.builtin "len") (fun xs H Q => ∃ x n, xs = [x] ∧ LenV X.K x H n ∧ Q (.int n) H) := by
  intro pins s σ H xs us Q I r h
  obtain ⟨x, n, rfl, e, q⟩ := h
  obtain ⟨u, rfl, rx⟩ := vals1 r
  have hl := line63
  have hs : sizeLine = 16777216 := sizeLine_eq
  cases x with
  | str y =>
    obtain ⟨t, rfl⟩ := rx
    obtain ⟨hy, e'⟩ : y.length ≤ sizeLine ∧ n = y.length := e
    subst e'
    exact len_str (by omega) ⟨.int _, H, I.tok _, ⟨_, rfl⟩, q⟩
  | byt y =>
    obtain ⟨t, rfl⟩ := rx
    obtain ⟨hy, e'⟩ : y.size ≤ sizeLine ∧ n = y.size := e
    subst e'
    exact PySem.W.len_bytes (by omega) ⟨.int _, H, I.tok _, ⟨_, rfl⟩, q⟩
  | ref p =>
    cases rx
    have e' : (∃ xs, SqL X.K H p xs ∧ n = xs.length) ∨ ∃ xs, SqT X.K H p xs ∧ n = xs.length := e
    rcases e' with ⟨xs, hx, e'⟩ | ⟨xs, hx, e'⟩
    · subst e'
      obtain ⟨its, r', pl, hz⟩ := I.list hx
      have hlen := r'.length
      exact Calls.call_len_list pl.isList (by simp only [List.size_toArray]; omega) ⟨.int xs.length, H, I.tok _, ⟨_, by simp only [List.size_toArray]; rw [hlen]⟩, q⟩
    · subst e'
      obtain ⟨its, r', pl, hz⟩ := I.tuple hx
      have hlen := r'.length
      exact len_tuple pl (by simp only [List.size_toArray]; omega) ⟨.int xs.length, H, I.tok _, ⟨_, by simp only [List.size_toArray]; rw [hlen]⟩, q⟩
  | _ => exact (show False from e).elim
/-- divmod: a new tuple -/
theorem call_divmod : CallR X (.builtin "divmod") (fun xs H Q => ∃ i j, xs = [.int i, .int j] ∧ CDiv i j ∧ ∀ p, H p = none → Q (.ref p) (upd H p (.tup [.int (i / j), .int (i % j)]))) := by
  intro pins s σ H xs us Q I r h
  obtain ⟨i, j, rfl, ⟨h1, h2⟩, q⟩ := h
  obtain ⟨u, w', rfl, ⟨t, rfl⟩, ⟨t', rfl⟩⟩ := vals2 r
  refine divmod_int (by omega) ?_ (.inl (PyProof.noPylong_small (by omega)))
  rw [Int.fdiv_eq_ediv_of_nonneg i (by omega), Int.fmod_eq_emod_of_nonneg i (by omega)]
  have hn : H s.heap.objs.size = none := I.hok.fresh (Nat.le_refl _)
  refine ⟨.ref s.heap.objs.size, _, ?_, rfl, q _ hn⟩
  refine I.laid (fun b o e => Heap.get?_push_of_some _ e) (Nat.le_refl _) ⟨by simp only [List.length_cons, List.length_nil]; rw [sizeLine_eq]; decide, [.int (i / j) s.toks, .int (i % j) (s.toks + 1)], .cons ⟨_, rfl⟩ (.cons ⟨_, rfl⟩ .nil), ?_⟩
  exact ⟨_, Heap.get?_push_size s.heap rfl, rfl, 0, rfl⟩
end
end L2

namespace L2
open PySem PySem.Spec PyProof.Rows

/-! ### an instance, its attributes a map -/
structure ObjM (h : Heap) (x dx C : Addr) (mA : Str → Option Value) : Prop where
  obj : h.get? x = some (PySem.W.instObj C dx)
  ns : h.Ns1 dx mA
  ne : dx ≠ x

theorem lookIn_ns {h : Heap} {dx : Addr} {mA : Str → Option Value} (n : h.Ns1 dx mA) : ∃ od, h.get? dx = some od ∧ ∀ name, PySem.W.lookIn name od = some (mA name) := by
  obtain ⟨o, es, ep, ho, hd, hk, _, hm⟩ := n
  refine ⟨o, ho, fun name => ?_⟩
  have e := hm name
  unfold nsFind findBy at e
  rw [← Array.find?_toList] at e
  unfold PySem.W.lookIn
  rw [hd]
  dsimp only
  split
  · rename_i y q
    rw [q] at e
    exact congrArg some e
  · rename_i q
    rw [q] at e
    have a : es.toList.any (·.refKey) = false := by
      rw [List.any_eq_false]
      intro y hy
      obtain ⟨z, t, hkey⟩ := hk y (Array.mem_toList_iff.mp hy)
      simp [DictEntry.refKey, hkey]
    have a' : ¬ es.toList.any (·.refKey) = true := by rw [a]; exact Bool.false_ne_true
    rw [if_neg a']
    exact congrArg some e

theorem ObjM.look {h : Heap} {x dx C : Addr} {mA : Str → Option Value} (I : ObjM h x dx C mA) : ∃ od, PySem.W.InstAt h x (PySem.W.instObj C dx) C (some od) ∧ ∀ name, PySem.W.lookIn name od = some (mA name) :=
  let ⟨od, ho, hl⟩ := lookIn_ns I.ns
  ⟨od, ⟨I.obj, rfl, rfl, ho⟩, hl⟩

section
variable {prog : Program} {w : World} {A : Around} {E : Value → Shared → Prop} {s : Shared} {K : PySem.W.Frag} {x dx C f : Addr} {mA : Str → Option Value} {name : Str} {v : Value}

theorem get_map {expr : Bool} {Q : Value → Shared → Prop} (X : K.In s.heap) (I : ObjM s.heap x dx C mA) (hg : PySem.W.plainGet K C name = true) (hh : PySem.W.hasDictIn K C = true)
    (ha : PySem.W.findIn K (.ref C) name = some none) (hv : mA name = some v) (hv' : PySem.W.handedIn v = true) (h : Q v { s with toks := s.toks + 1 }) :
    wpAny (model prog w) A (getAttr (.ref x) name expr) Q E s := by
  obtain ⟨od, J, hl⟩ := I.look
  exact PySem.W.get_value X J (PySem.W.plainGet_of hg).1 (PySem.W.findObj_own hh ha rfl (by rw [hl, hv])) hv' h

theorem get_const {expr : Bool} {a : Value} {Q : Value → Shared → Prop} (X : K.In s.heap) (I : ObjM s.heap x dx C mA) (hg : PySem.W.plainGet K C name = true) (hh : PySem.W.hasDictIn K C = true)
    (ha : PySem.W.findIn K (.ref C) name = some (some a)) (hn : PySem.W.specialIn K a "__get__" = some none) (hc : PySem.W.copiedNames.contains name = false) (hv : mA name = none) (hv' : PySem.W.handedIn a = true)
    (h : Q a { s with toks := s.toks + 1 }) : wpAny (model prog w) A (getAttr (.ref x) name expr) Q E s := by
  obtain ⟨od, J, hl⟩ := I.look
  exact PySem.W.get_value X J (PySem.W.plainGet_of hg).1 (PySem.W.findObj_cls hh ha hn hv' hc (by rw [hl, hv])) hv' h

theorem get_meth {pl : Sem Bool} {Q : Value × List Value → Shared → Prop} (X : K.In s.heap) (I : ObjM s.heap x dx C mA) (hg : PySem.W.plainGet K C name = true)
    (hf : PySem.W.findIn K (.ref C) name = some (some (.ref f))) (ht : PySem.W.isFn K (.ref f) = true) (hv : mA name = none) (h : Q (.ref f, [.ref x]) s) :
    wpAny (model prog w) A (getMethod (.ref x) name pl) Q E s := by
  obtain ⟨od, J, hl⟩ := I.look
  exact PySem.W.method_fn X J (PySem.W.plainGet_of hg).1 (PySem.W.plainGet_of hg).2 hf (beq_iff_eq.mp ht) (by show (PySem.W.lookIn name od).map (·.isSome) = some false; rw [hl, hv]; rfl) h

theorem set_map {ns : List Str} {Q : Unit → Shared → Prop} (X : K.In s.heap) (I : ObjM s.heap x dx C mA)
    (hs : PySem.W.findIn K (.ref C) "__setattr__" = some (some (.builtin "object.__setattr__"))) (hp : PySem.W.plainOver K C = true) (ht : PySem.W.takerIn K C name = some none) (hh : PySem.W.hasDictIn K C = true)
    (hw : PySem.Within mA ns) (hsz : ns.length ≤ sizeLine)
    (h : ∀ h', ObjM h' x dx C (fun y => if y = name then some v else mA y) → Heap.SameBut dx s.heap h' → Q () { s with heap := h', toks := s.toks + 2 }) :
    wpAny (model prog w) A (setAttr (.ref x) name v) Q E s := by
  obtain ⟨od, J, hl⟩ := I.look
  refine PySem.W.set_plain X J hs (PySem.W.osa_open (s := { s with toks := s.toks + 1 }) (r := none) X J hp ht fun b => ?_)
  obtain ⟨cd, hc, hd'⟩ := PySem.W.any_some hh
  have hx : s.heap.get? x = some ⟨.ref C, some dx, .plain, #[]⟩ := I.obj
  refine wpAny_bind (wpAny_pure (wpAny_bind (wpAny_bind (wpAny_loadPart hx (wpAny_bind (PySem.W.Looks.here (s := { s with toks := s.toks + 1 }) (PySem.W.looks_clsIn X hc) ?_))))))
  rw [hd']
  refine wpAny_pure (a := some dx) (wpAny_bind (wpAny_pure (wpAny_bind ?_)))
  refine wpAny_nsSet1 (s := { s with toks := s.toks + 1 }) I.ns fun h' hn2 hs2 => ?_
  obtain ⟨oD, esD, epD, hoD, hdD, hcD⟩ := hn2.count (PySem.Within.cons name v hw)
  refine wpAny_bind (wpAny_lookBehind hoD (by rw [hdD]; exact pastItsLine_dict (Nat.le_trans hcD (by rw [List.length_cons]; omega))) ?_)
  exact wpAny_pure (h _ ⟨(hs2.2 _ (Ne.symm I.ne)).trans I.obj, hn2, I.ne⟩ hs2)

/-- C(..): the dict at the heap's end, the instance behind it; then its __init__ -/
theorem make_map {R : Result → Shared → Prop} {vs : List Value} {kw : List (Str × Value)} (X : K.In s.heap) (hm : PySem.W.makesIn K C = true)
    (hi : PySem.W.findIn K (.ref C) "__init__" = some (some (.ref f))) (hf : PySem.W.typeIn K (.ref f) = some (.type "function"))
    (h : codeAny (model prog w) (A.under (.builtin "type.__call__" ⟨.ref C :: vs, kw⟩)) (.call (.ref f) ⟨.ref (s.heap.objs.size + 1) :: vs, kw⟩) (PySem.W.InitBack (s.heap.objs.size + 1) R)
      { s with heap := (s.heap.push PySem.W.emptyDict).push (PySem.W.instObj C s.heap.objs.size) }) :
    codeAny (model prog w) A (.call (.ref C) ⟨vs, kw⟩) R s := by
  obtain ⟨hh, g, d, t, os⟩ := s
  exact PySem.W.make_core (PySem.W.makes_of X hm) (PySem.W.looks_findIn X hi) (fun self => PySem.W.bind_fn X self hf) (.inl rfl) h
/-- C() where there is no __init__ but object's -/
theorem make_map0 {R : Result → Shared → Prop} (X : K.In s.heap) (hm : PySem.W.makesIn K C = true)
    (hi : PySem.W.findIn K (.ref C) "__init__" = some (some (.builtin "object.__init__")))
    (hb : ∀ self, PySem.W.Looks (model prog w) s.heap (bindSpecial (.builtin "object.__init__") self) (.builtin "object.__init__", [self]))
    (h : codeAny (model prog w) (A.under (.builtin "type.__call__" ⟨[.ref C], []⟩)) (.call (.builtin "object.__init__") ⟨[.ref (s.heap.objs.size + 1)], []⟩) (PySem.W.InitBack (s.heap.objs.size + 1) R)
      { s with heap := (s.heap.push PySem.W.emptyDict).push (PySem.W.instObj C s.heap.objs.size) }) :
    codeAny (model prog w) A (.call (.ref C) ⟨[], []⟩) R s := by
  obtain ⟨hh, g, d, t, os⟩ := s
  exact PySem.W.make_core (PySem.W.makes_of X hm) (PySem.W.looks_findIn X hi) hb (.inr ⟨rfl, rfl⟩) h
end

/-! ### the attributes as a list of pairs -/
def putF (f : Str) (v : V) : List (Str × V) → List (Str × V)
  | [] => [(f, v)]
  | (g, x) :: r => if g = f then (g, v) :: r else (g, x) :: putF f v r
theorem lookup_putF (f g : Str) (v : V) : ∀ fs : List (Str × V), (putF f v fs).lookup g = if g = f then some v else fs.lookup g
  | [] => by
    show List.lookup g [(f, v)] = _
    by_cases h : g = f
    · have hb : (g == f) = true := beq_iff_eq.mpr h
      simp only [List.lookup, hb, if_pos h]
    · have hb : (g == f) = false := beq_eq_false_iff_ne.mpr h
      simp only [List.lookup, hb, if_neg h]
  | (k, x) :: r => by
    have ih := lookup_putF f g v r
    rw [show putF f v ((k, x) :: r) = (if k = f then (k, v) :: r else (k, x) :: putF f v r) from rfl]
    by_cases hk : k = f
    · rw [if_pos hk]
      by_cases h : g = k
      · have hb : (g == k) = true := beq_iff_eq.mpr h
        simp only [List.lookup, hb, if_pos (h.trans hk)]
      · have hb : (g == k) = false := beq_eq_false_iff_ne.mpr h
        simp only [List.lookup, hb, if_neg (fun e : g = f => h (e.trans hk.symm))]
    · rw [if_neg hk]
      by_cases h : g = k
      · have hb : (g == k) = true := beq_iff_eq.mpr h
        simp only [List.lookup, hb, if_neg (fun e : g = f => hk (h.symm.trans e))]
      · have hb : (g == k) = false := beq_eq_false_iff_ne.mpr h
        simp only [List.lookup, hb]
        exact ih
theorem keys_putF (f : Str) (v : V) : ∀ fs : List (Str × V), f ∈ (putF f v fs).map (·.1) ∧ ∀ g, g ∈ fs.map (·.1) → g ∈ (putF f v fs).map (·.1)
  | [] => ⟨by simp [putF], fun g h => by simp at h⟩
  | (k, x) :: r => by
    obtain ⟨i1, i2⟩ := keys_putF f v r
    rw [show putF f v ((k, x) :: r) = (if k = f then (k, v) :: r else (k, x) :: putF f v r) from rfl]
    by_cases hk : k = f
    · rw [if_pos hk]
      subst hk
      exact ⟨by simp, fun g h => by simpa using h⟩
    · rw [if_neg hk]
      refine ⟨?_, fun g h => ?_⟩
      · rw [List.map_cons]
        exact List.mem_cons_of_mem _ i1
      · rw [List.map_cons] at h ⊢
        rcases List.mem_cons.mp h with e | e
        · exact List.mem_cons.mpr (.inl e)
        · exact List.mem_cons_of_mem _ (i2 g e)
theorem length_putF (f : Str) (v : V) : ∀ fs : List (Str × V), (putF f v fs).length ≤ fs.length + 1
  | [] => by simp [putF]
  | (k, x) :: r => by
    have ih := length_putF f v r
    rw [show putF f v ((k, x) :: r) = (if k = f then (k, v) :: r else (k, x) :: putF f v r) from rfl]
    by_cases hk : k = f
    · rw [if_pos hk, List.length_cons, List.length_cons]; omega
    · rw [if_neg hk, List.length_cons, List.length_cons]; omega

theorem RelO.some_of {v : V} {o : Option Value} (r : RelO (some v) o) : ∃ u, o = some u ∧ RelV v u := by
  cases o with
  | none => exact (show False from r).elim
  | some u => exact ⟨u, rfl, r⟩
theorem RelO.none_of {o : Option Value} (r : RelO none o) : o = none := by
  cases o with
  | none => rfl
  | some u => exact (show False from r).elim
theorem handed_of {v : V} {u : Value} (r : RelV v u) : PySem.W.handedIn u = true := by
  cases v with
  | non => cases (show u = Value.none from r); rfl
  | bl b => cases (show u = Value.bool b from r); rfl
  | int i => obtain ⟨t, e⟩ := (show ∃ t, u = Value.int i t from r); cases e; rfl
  | str x => obtain ⟨t, e⟩ := (show ∃ t, u = Value.str x t from r); cases e; rfl
  | byt b => obtain ⟨t, e⟩ := (show ∃ t, u = Value.bytes b t from r); cases e; rfl
  | flt b => obtain ⟨t, e⟩ := (show ∃ t, u = Value.float b t from r); cases e; rfl
  | ref a => cases (show u = Value.ref a from r); rfl
  | ty n => cases (show u = Value.type n from r); rfl

section
variable {P : Program} {w : World} {H H' : Hp} {h h' : Heap} {a C dx : Addr} {fs fs' : List (Str × V)}
theorem ins_get (hok : HOk P w H h) (e : H a = some (.ins C dx fs)) : ∃ mA, ObjM h a dx C mA ∧ (∀ f, RelO (fs.lookup f) (mA f)) ∧ PySem.Within mA (fs.map (·.1)) ∧ fs.length ≤ 1000 ∧ H dx = some (.own a) := by
  obtain ⟨d, z, ne, ob, mA, n, r, q⟩ := (show ObjOk P w H h a (.ins C dx fs) from hok a _ e)
  exact ⟨mA, ⟨ob, n, ne⟩, r, q, z, d⟩
end

/-! ### what of the text a class must have -/
structure Cls (K : PySem.W.Frag) (C : Addr) : Prop where
  pg : PySem.W.plainGet K C Str.empty = true
  hd : PySem.W.hasDictIn K C = true
  po : PySem.W.plainOver K C = true
  sa : PySem.W.findIn K (.ref C) "__setattr__" = some (some (.builtin "object.__setattr__"))
theorem Cls.get {K : PySem.W.Frag} {C : Addr} (c : Cls K C) (f : Str) : PySem.W.plainGet K C f = true := c.pg
/-- no class of it has the name -/
def NoAttr (K : PySem.W.Frag) (C : Addr) (f : Str) : Prop := PySem.W.findIn K (.ref C) f = some none
theorem NoAttr.taker {K : PySem.W.Frag} {C : Addr} {f : Str} (n : NoAttr K C f) : PySem.W.takerIn K C f = some none := by
  unfold PySem.W.takerIn
  rw [show PySem.W.findIn K (.ref C) f = some none from n]
  rfl
/-- a constant of the class -/
structure Con (K : PySem.W.Frag) (C : Addr) (f : Str) (v : V) (u : Value) : Prop where
  at_ : PySem.W.findIn K (.ref C) f = some (some u)
  rel : RelV v u
  get : PySem.W.specialIn K u "__get__" = some none
  cp : PySem.W.copiedNames.contains f = false
/-- a method: a plain def of the class or of one above it -/
structure Meth (K : PySem.W.Frag) (C : Addr) (m : Str) (f : Addr) : Prop where
  at_ : PySem.W.findIn K (.ref C) m = some (some (.ref f))
  fn : PySem.W.isFn K (.ref f) = true
  kp : PySem.W.keepIn K (.ref f) = true

section
variable {X : Cx} {pins : List (Addr × Obj)} {σ : St} {H : Hp} {s : Shared} {a C dx : Addr} {fs : List (Str × V)} {f : Str} {v : V} {A : Around} {E : Value → Shared → Prop}

theorem getattr_ok {b : Bool} {Q : Value → Shared → Prop} (I : Inv X pins σ H s) (e : H a = some (.ins C dx fs)) (c : Cls X.K C) (n : NoAttr X.K C f) (l : fs.lookup f = some v)
    (h : ∀ u s', Inv X pins σ H s' → RelV v u → Q u s') : wpAny (model X.prog X.w) A (getAttr (.ref a) f b) Q E s := by
  obtain ⟨mA, O, r, _, _, _⟩ := ins_get I.hok e
  obtain ⟨u, hu, ru⟩ := RelO.some_of (v := v) (o := mA f) (by rw [← l]; exact r f)
  exact get_map I.kIn O (c.get f) c.hd n hu (handed_of ru) (h u _ (I.tok _) ru)

theorem getcon_ok {b : Bool} {u : Value} {Q : Value → Shared → Prop} (I : Inv X pins σ H s) (e : H a = some (.ins C dx fs)) (c : Cls X.K C) (k : Con X.K C f v u) (l : fs.lookup f = none)
    (h : ∀ s', Inv X pins σ H s' → Q u s') : wpAny (model X.prog X.w) A (getAttr (.ref a) f b) Q E s := by
  obtain ⟨mA, O, r, _, _, _⟩ := ins_get I.hok e
  have hn : mA f = none := RelO.none_of (by rw [← l]; exact r f)
  exact get_const I.kIn O (c.get f) c.hd k.at_ k.get k.cp hn (handed_of k.rel) (h _ (I.tok _))

theorem getmeth_ok {m : Str} {g : Addr} {pl : Sem Bool} {Q : Value × List Value → Shared → Prop} (I : Inv X pins σ H s) (e : H a = some (.ins C dx fs)) (c : Cls X.K C) (k : Meth X.K C m g) (l : fs.lookup m = none)
    (h : Q (.ref g, [.ref a]) s) : wpAny (model X.prog X.w) A (getMethod (.ref a) m pl) Q E s := by
  obtain ⟨mA, O, r, _, _, _⟩ := ins_get I.hok e
  have hn : mA m = none := RelO.none_of (by rw [← l]; exact r m)
  exact get_meth I.kIn O (c.get m) k.at_ k.fn hn h

theorem setattr_ok {y : V} {u : Value} {Q : Unit → Shared → Prop} (I : Inv X pins σ H s) (e : H a = some (.ins C dx fs)) (c : Cls X.K C) (n : NoAttr X.K C f) (hl : fs.length < 1000) (ry : RelV y u)
    (h : ∀ s', Inv X pins σ (upd H a (.ins C dx (putF f y fs))) s' → Q () s') : wpAny (model X.prog X.w) A (setAttr (.ref a) f u) Q E s := by
  obtain ⟨mA, O, r, wi, _, ho⟩ := ins_get I.hok e
  have hz : (fs.map (·.1)).length ≤ sizeLine := by rw [List.length_map, sizeLine_eq]; omega
  refine set_map I.kIn O c.sa c.po n.taker c.hd wi hz fun h' O' sb => h _ ?_
  have hd : ∃ o, h'.get? dx = some o := let ⟨o, _, _, e', _⟩ := O'.ns; ⟨o, e'⟩
  refine I.write (x := a) (e := dx) (by rw [e]; exact True.intro) (.inr ho) (fun b q hb z => (sb.2 b hb).trans z) hd ?_
  refine ⟨by rw [upd_ne O.ne]; exact ho, ?_, O.ne, O'.obj, _, O'.ns, fun g => ?_, fun g hg => ?_⟩
  · have := length_putF f y fs; omega
  · show RelO ((putF f y fs).lookup g) (if g = f then some u else mA g)
    rw [lookup_putF]
    by_cases q : g = f
    · rw [if_pos q, if_pos q]; exact ry
    · rw [if_neg q, if_neg q]; exact r g
  · by_cases q : g = f
    · rw [q]; exact (keys_putF f y fs).1
    · refine (keys_putF f y fs).2 g (wi g fun z => hg ?_)
      show (if g = f then some u else mA g) = none
      rw [if_neg q]; exact z

/-- a new instance, tracked, without attributes -/
theorem Inv.made (I : Inv X pins σ H s) : Inv X pins σ (upd (upd H s.heap.objs.size (.own (s.heap.objs.size + 1))) (s.heap.objs.size + 1) (.ins C s.heap.objs.size []))
    { s with heap := (s.heap.push PySem.W.emptyDict).push (PySem.W.instObj C s.heap.objs.size) } := by
  have e1 : (s.heap.push PySem.W.emptyDict).get? s.heap.objs.size = some PySem.W.emptyDict := Heap.get?_push_size s.heap rfl
  have e2 : ((s.heap.push PySem.W.emptyDict).push (PySem.W.instObj C s.heap.objs.size)).get? (s.heap.objs.size + 1) = some (PySem.W.instObj C s.heap.objs.size) := by
    have := Heap.get?_push_size (s.heap.push PySem.W.emptyDict) (o := PySem.W.instObj C s.heap.objs.size) rfl
    rwa [Heap.size_push] at this
  have e3 : (s.heap.push PySem.W.emptyDict).Ns s.heap.objs.size (fun _ => none) := ⟨PySem.W.emptyDict, #[], _, e1, rfl, (fun e he => absurd he (by simp)), fun _ => rfl⟩
  have I1 := I.laid (a := s.heap.objs.size) (o := .own (s.heap.objs.size + 1)) (h' := s.heap.push PySem.W.emptyDict) (t' := s.toks) (fun b u q => Heap.get?_push_of_some _ q) (Nat.le_refl _) ⟨_, e1⟩
  refine I1.laid (a := s.heap.objs.size + 1) (o := .ins C s.heap.objs.size []) (t' := s.toks) (fun b u q => Heap.get?_push_of_some _ q) (Nat.le_of_eq (Heap.size_push _ _)) ?_
  have ne : s.heap.objs.size ≠ s.heap.objs.size + 1 := Nat.ne_of_lt (Nat.lt_succ_self _)
  refine ⟨by rw [upd_ne ne, upd_same], Nat.zero_le _, ne, e2, fun _ => none, (Heap.Ns1.of_empty e3).at fun o q => Heap.get?_push_of_some _ q, fun _ => True.intro, fun y hy => absurd rfl hy⟩

/-- e.f where nothing but the object is asked: through attributeBase (super) and the last hold -/
theorem attr_of {prog : Program} {w : World} {env : Env} {e : Expr} {f : Str} {pos : Pos} {s : Shared} {Q : Value → Shared → Prop} (hb : attributeBase e f env (eval e env) = eval e env)
    (h : wpAny (model prog w) A (eval e env) (fun o s₁ => wpAny (model prog w) A (getAttr o f true) Q E s₁) E s) : wpAny (model prog w) A (eval (.Attribute e f pos) env) Q E s :=
  Attribute_any_ h (by rw [arm_eval_Attribute, hb])
end

/-! ### readings and rules -/
/-- e.f, an attribute of the instance -/
def tFld (K : PySem.W.Frag) (ta : TE) (f : Str) : TE := fun σ H Q => ta σ H fun x H1 => ∃ a C dx fs v, x = .ref a ∧ H1 a = some (.ins C dx fs) ∧ Cls K C ∧ NoAttr K C f ∧ fs.lookup f = some v ∧ Q v H1
/-- e.f, a constant of the class -/
def tCon (K : PySem.W.Frag) (ta : TE) (f : Str) : TE := fun σ H Q => ta σ H fun x H1 => ∃ a C dx fs v u, x = .ref a ∧ H1 a = some (.ins C dx fs) ∧ Cls K C ∧ Con K C f v u ∧ fs.lookup f = none ∧ Q v H1
/-- e.f = value -/
def sFld (K : PySem.W.Frag) (ta tv : TE) (f : Str) : TS := fun D σ H => tv σ H fun y H1 => ta σ H1 fun x H2 => ∃ a C dx fs, x = .ref a ∧ H2 a = some (.ins C dx fs) ∧ Cls K C ∧ NoAttr K C f ∧ fs.length < 1000 ∧
  D.nx σ (upd H2 a (.ins C dx (putF f y fs)))
/-- an augmented operator on two values -/
def InOp (X : Cx) (op : Operator) (rd : V → V → Hp → VK → Prop) : Prop :=
  ∀ (pins : List (Addr × Obj)) (s : Shared) (σ : St) (H : Hp) (x y : V) (u v : Value) (Q : VK), Inv X pins σ H s → RelV x u → RelV y v → rd x y H Q → wpAny (model X.prog X.w) X.A (inplaceOp op u v) (EP X pins σ Q) X.xe s
/-- e.f op= value -/
def sFldAug (K : PySem.W.Frag) (ta tv : TE) (rd : V → V → Hp → VK → Prop) (f : Str) : TS := fun D σ H => ta σ H fun x H1 => ∃ a C dx fs v, x = .ref a ∧ H1 a = some (.ins C dx fs) ∧ Cls K C ∧ NoAttr K C f ∧ fs.lookup f = some v ∧
  tv σ H1 fun y H2 => rd v y H2 fun z H3 => ∃ dx' fs', H3 a = some (.ins C dx' fs') ∧ fs'.length < 1000 ∧ D.nx σ (upd H3 a (.ins C dx' (putF f z fs')))

section
variable {X : Cx} {o e value : Expr} {f : Str} {pos pos' tpos : Pos} {ta tv : TE}
theorem pe_fld (he : PE X e ta) (hb : attributeBase e f X.env (eval e X.env) = eval e X.env) : PE X (.Attribute e f pos) (tFld X.K ta f) := by
  intro pins s σ H Q I h
  refine attr_of hb (thn (he pins s σ H _ I h) fun u s1 ⟨x, H1, I1, rx, a, C, dx, fs, v, ex, ea, c, n, l, q⟩ => ?_)
  subst ex
  obtain rfl : u = Value.ref a := rx
  exact getattr_ok I1 ea c n l fun u' s2 I2 ru => ⟨v, H1, I2, ru, q⟩
theorem pe_con (he : PE X e ta) (hb : attributeBase e f X.env (eval e X.env) = eval e X.env) : PE X (.Attribute e f pos) (tCon X.K ta f) := by
  intro pins s σ H Q I h
  refine attr_of hb (thn (he pins s σ H _ I h) fun u s1 ⟨x, H1, I1, rx, a, C, dx, fs, v, u0, ex, ea, c, k, l, q⟩ => ?_)
  subst ex
  obtain rfl : u = Value.ref a := rx
  exact getcon_ok I1 ea c k l fun s2 I2 => ⟨v, H1, I2, k.rel, q⟩
theorem ps_fld (ha : PE X o ta) (hv : PE X value tv) (hs : swapsWith value (some (.Attribute o f pos')) pos.line X.env = pure false) : PS X (.Assign [.Attribute o f pos'] value pos) (sFld X.K ta tv f) := by
  intro pins s σ H D I h
  refine plainObj_wpAny_Assign_Attribute (thn (hv pins s σ H _ I h) fun u s1 ⟨y, H1, I1, ry, q⟩ => thn (ha pins s1 σ H1 _ I1 q) fun ov s2 ⟨x, H2, I2, rx, a, C, dx, fs, ex, ea, c, n, l, q2⟩ => ?_) hs
  subst ex
  obtain rfl : ov = Value.ref a := rx
  exact setattr_ok I2 ea c n l ry fun s3 I3 => ⟨σ, _, I3, q2⟩
theorem ps_fldaug {op : Operator} {rd : V → V → Hp → VK → Prop} (ha : PE X o ta) (hv : PE X value tv) (hop : InOp X op rd) : PS X (.AugAssign (.Attribute o f tpos) op value pos) (sFldAug X.K ta tv rd f) := by
  intro pins s σ H D I h
  refine wpAny_AugAssign_AttributeAny (thn (ha pins s σ H _ I h) fun ov s1 ⟨x, H1, I1, rx, a, C, dx, fs, v, ex, ea, c, n, l, q⟩ => ?_)
  subst ex
  obtain rfl : ov = Value.ref a := rx
  refine getattr_ok I1 ea c n l fun u s2 I2 ru => thn (hv pins s2 σ H1 _ I2 q) fun w3 s3 ⟨y, H2, I3, ry, q3⟩ => thn (hop pins s3 σ H2 v y u w3 _ I3 ru ry q3) fun w4 s4 ⟨z, H3, I4, rz, dx', fs', ea', l', q4⟩ => ?_
  exact setattr_ok I4 ea' c n l' rz fun s5 I5 => ⟨σ, _, I5, q4⟩
def rAdd : V → V → Hp → VK → Prop := fun x y H Q => ∃ i j, x = .int i ∧ y = .int j ∧ Q (.int (i + j)) H
def rSub : V → V → Hp → VK → Prop := fun x y H Q => ∃ i j, x = .int i ∧ y = .int j ∧ Q (.int (i - j)) H
theorem in_add : InOp X .Add rAdd := by
  rintro pins s σ H x y u v Q I rx ry ⟨i, j, rfl, rfl, q⟩
  obtain ⟨t, rfl⟩ := (show ∃ t, u = Value.int i t from rx)
  obtain ⟨t', rfl⟩ := (show ∃ t', v = Value.int j t' from ry)
  exact PyProof.Rows.iadd_int ⟨.int (i + j), H, I.tok _, ⟨_, rfl⟩, q⟩
theorem in_sub : InOp X .Sub rSub := by
  rintro pins s σ H x y u v Q I rx ry ⟨i, j, rfl, rfl, q⟩
  obtain ⟨t, rfl⟩ := (show ∃ t, u = Value.int i t from rx)
  obtain ⟨t', rfl⟩ := (show ∃ t', v = Value.int j t' from ry)
  exact PyProof.Rows.isub_int ⟨.int (i - j), H, I.tok _, ⟨_, rfl⟩, q⟩

/-- what is between an instance and its method: the tree of a method call -/
theorem methcall_of {pl : Sem Bool} {m : Str} {apos : Pos} {args : List Expr} {pins : List (Addr × Obj)} {s : Shared} {σ : St} {H : Hp} {Q : Value → Shared → Prop} {te : TE} (he : PE X e te) (I : Inv X pins σ H s)
    (h : te σ H fun x H1 => ∃ a C dx fs g, x = .ref a ∧ H1 a = some (.ins C dx fs) ∧ Cls X.K C ∧ Meth X.K C m g ∧ fs.lookup m = none ∧
      ∀ s1, Inv X pins σ H1 s1 → wpAny (model X.prog X.w) X.A (callWith pos (.ref g) [.ref a] (backTo pos (starEach args X.env)) (backToKw pos (keywordEach [] X.env))) Q X.xe s1)
    (ht : eval (.Call (.Attribute e m apos) args [] pos) X.env = (do
      let ov ← eval e X.env
      standAt apos.atName
      let (f, first) ← holding [ov] (getMethod ov m pl)
      callWith pos f first (backTo pos (starEach args X.env)) (backToKw pos (keywordEach [] X.env)))) :
    wpAny (model X.prog X.w) X.A (eval (.Call (.Attribute e m apos) args [] pos) X.env) Q X.xe s := by
  refine PySem.W.methodCall_KW (pl := pl) (thn (he pins s σ H _ I h) fun u s1 ⟨x, H1, I1, rx, a, C, dx, fs, g, ex, ea, c, k, l, q⟩ => ?_) ht
  subst ex
  obtain rfl : u = Value.ref a := rx
  exact getmeth_ok I1 ea c k l (q s1 I1)
end

/-! ### isinstance -/
section
variable {X : Cx} {pins : List (Addr × Obj)} {σ : St} {H : Hp} {s : Shared} {A : Around} {E : Value → Shared → Prop} {Q : Value → Shared → Prop} {c : Value} {b : Bool}
/-- the type of a value, as the fragment's deciders take it; for an instance its class -/
inductive TyOf (K : PySem.W.Frag) (H : Hp) : V → Value → Prop where
  | non : TyOf K H .non (.type "NoneType")
  | bl (x : Bool) : TyOf K H (.bl x) (.type "bool")
  | int (i : Int) : TyOf K H (.int i) (.type "int")
  | str (x : Str) : TyOf K H (.str x) (.type "str")
  | flt (x : UInt64) : TyOf K H (.flt x) (.type "float")
  | lst {a : Addr} {xs : List V} (e : H a = some (.lst xs)) : TyOf K H (.ref a) (.type "list")
  | frz {a : Addr} {o : Obj} {xs : List V} (e : H a = some (.frz o (.lst xs))) : TyOf K H (.ref a) (.type "list")
  | tup {a : Addr} {xs : List V} (e : H a = some (.tup xs)) : TyOf K H (.ref a) (.type "tuple")
  | dK {a : Addr} {kvs : List (Key × V)} (e : H a = some (.dK kvs)) : TyOf K H (.ref a) (.type "dict")
  | dT {a : Addr} {kvs : List (List Key × V)} (e : H a = some (.dT kvs)) : TyOf K H (.ref a) (.type "dict")
  | ins {a C dx : Addr} {fs : List (Str × V)} (e : H a = some (.ins C dx fs)) (cl : Cls K C) (ha : PySem.W.findIn K (.ref C) "__class__" = some (some (.builtin "object.__class__")))
      (hn : PySem.W.specialIn K (.builtin "object.__class__") "__get__" = some (some (.builtin "getset_descriptor.__get__"))) (htk : PySem.W.takesIn K (.builtin "object.__class__") = some true)
      (hm : PySem.W.mroIn K C (.type "object") = some true) : TyOf K H (.ref a) (.ref C)
/-- isinstance(x, c) for one class c, a built-in or an own one: kitOne's answer -/
theorem isinst_ok {x : V} {u t : Value} (I : Inv X pins σ H s) (rx : RelV x u) (ty : TyOf X.K H x t) (e : PySem.W.kitOne X.K t c = some b) (h : ∀ tk, Q (.bool b) { s with toks := tk }) :
    wpAny (model X.prog X.w) A (call (.builtin "isinstance") [u, c]) Q E s := by
  cases ty with
  | non => cases (show u = Value.none from rx); exact PySem.W.kia_one PySem.W.kitx_none I.kIn True.intro e (fun z => nomatch z) h
  | bl y => cases (show u = Value.bool y from rx); exact PySem.W.kia_one PySem.W.kitx_bool I.kIn True.intro e (fun z => nomatch z) h
  | int i => obtain ⟨t, q⟩ := (show ∃ t, u = Value.int i t from rx); cases q; exact PySem.W.kia_one PySem.W.kitx_int I.kIn True.intro e (fun z => nomatch z) h
  | str y => obtain ⟨t, q⟩ := (show ∃ t, u = Value.str y t from rx); cases q; exact PySem.W.kia_one PySem.W.kitx_str I.kIn True.intro e (fun z => nomatch z) h
  | flt y => obtain ⟨t, q⟩ := (show ∃ t, u = Value.float y t from rx); cases q; exact PySem.W.kia_one PySem.W.kitx_float I.kIn True.intro e (fun z => nomatch z) h
  | @lst a xs ea =>
    cases (show u = Value.ref a from rx)
    obtain ⟨_, _, n, _, h1⟩ := (show ObjOk X.prog X.w H s.heap a (.lst xs) from I.hok a _ ea)
    exact PySem.W.kia_one PySem.W.kitx_list I.kIn ⟨_, h1, rfl⟩ e (fun z => nomatch z) h
  | @frz a ob xs ea =>
    cases (show u = Value.ref a from rx)
    obtain ⟨_, _, _, n, _, h1⟩ := (show ObjOk X.prog X.w H s.heap a (.frz ob (.lst xs)) from I.hok a _ ea)
    exact PySem.W.kia_one PySem.W.kitx_list I.kIn ⟨_, h1, rfl⟩ e (fun z => nomatch z) h
  | @tup a xs ea =>
    cases (show u = Value.ref a from rx)
    obtain ⟨_, _, _, p⟩ := (show ObjOk X.prog X.w H s.heap a (.tup xs) from I.hok a _ ea)
    obtain ⟨o, h1, h2, _⟩ := p
    exact PySem.W.kia_one PySem.W.kitx_tuple I.kIn ⟨o, h1, h2⟩ e (fun z => nomatch z) h
  | @dK a kvs ea =>
    cases (show u = Value.ref a from rx)
    obtain ⟨_, _, vs, _, p⟩ := (show ObjOk X.prog X.w H s.heap a (.dK kvs) from I.hok a _ ea)
    obtain ⟨o, es, ep, h1, h2, _⟩ := p
    exact PySem.W.kia_one PySem.W.kitx_dict I.kIn ⟨o, h1, h2.1⟩ e (fun z => nomatch z) h
  | @dT a kvs ea =>
    cases (show u = Value.ref a from rx)
    obtain ⟨_, _, xs, _, o, es, ep, h1, h2, _⟩ := (show ObjOk X.prog X.w H s.heap a (.dT kvs) from I.hok a _ ea)
    exact PySem.W.kia_one PySem.W.kitx_dict I.kIn ⟨o, h1, h2.1⟩ e (fun z => nomatch z) h
  | @ins a C dx fs ea cl ha hn htk hm =>
    cases (show u = Value.ref a from rx)
    obtain ⟨mA, O, _⟩ := ins_get I.hok ea
    obtain ⟨od, J, _⟩ := O.look
    exact PySem.W.kia_one (PySem.W.kitx_own (cl.get _) cl.hd ha hn htk hm) I.kIn J e (fun z => nomatch z) h
end
end L2

namespace L2
open PySem PySem.Spec PyProof.Rows

/-! ### room -/
structure Room (k : Nat) (A : Around) : Prop where
  hd : A.handled = none
  dp : A.depth + 3 * k + 5 < recursionLimit
  un : A.units + 16 * k + 200 < cLine
theorem Room.mono {j k : Nat} {A : Around} (r : Room k A) (h : j ≤ k) : Room j A := ⟨r.hd, by have := r.dp; omega, by have := r.un; omega⟩
theorem Room.deeper {k : Nat} {A : Around} (r : Room (k + 1) A) (env : Env) : Room k (A.deeper env) :=
  ⟨r.hd, by have := r.dp; show A.depth + 1 + 3 * k + 5 < _; omega, by have := r.un; show A.units + 3 + 16 * k + 200 < _; omega⟩
theorem Room.in1 {k : Nat} {A : Around} (r : Room (k + 1) A) : Room k A.in1 :=
  ⟨r.hd, by have := r.dp; show A.depth + 3 * k + 5 < _; omega, by have := r.un; show A.units + 1 + 16 * k + 200 < _; omega⟩
theorem make_depth {A : Around} {C : Addr} {us : List Value} {kw : List (Str × Value)} : (A.under (.builtin "type.__call__" ⟨.ref C :: us, kw⟩)).depth = A.depth + 1 := by
  first | rfl | simp [Around.under, Code.weight, Code.isCreation, Code.isGuard, Code.isCaller, Code.frames, Code.isFrame, guardIds]
theorem make_units {A : Around} {C : Addr} {us : List Value} {kw : List (Str × Value)} : (A.under (.builtin "type.__call__" ⟨.ref C :: us, kw⟩)).units = A.units + 1 := by
  first | rfl | simp [Around.under, Code.cUnits, Code.frames, Code.isFrame]
theorem Room.make {k : Nat} {A : Around} (r : Room (k + 1) A) (C : Addr) (us : List Value) (kw : List (Str × Value)) : Room k (A.under (.builtin "type.__call__" ⟨.ref C :: us, kw⟩)) :=
  ⟨r.hd, by have := r.dp; rw [make_depth]; omega, by have := r.un; rw [make_units]; omega⟩
theorem Room.depth {k : Nat} {A : Around} (r : Room k A) : A.depth < recursionLimit := by have := r.dp; omega
theorem Room.units {k : Nat} {A : Around} (r : Room k A) : A.units + 64 < cLine := by have := r.un; omega
theorem Room.units0 {k : Nat} {A : Around} (r : Room k A) : A.units < cLine := by have := r.un; omega

/-! ### argument lists and displays -/
def tNil : TA := fun _ H Q => Q [] H
def tCons (ta : TE) (tr : TA) : TA := fun σ H Q => ta σ H fun x H1 => tr σ H1 fun xs H2 => Q (x :: xs) H2
section
variable {X : Cx} {e : Expr} {es : List Expr} {te : TE} {t : TA} {pos : Pos}
theorem pa_nil : PA X [] tNil := fun _ _ _ _ H Q I h => Calls.spliced_nil ⟨[], H, I, .nil, h⟩
theorem pa_cons (ha : PE X e te) (hr : PA X es t) (hs : starEach (e :: es) X.env = (false, eval e X.env) :: starEach es X.env := by rfl) : PA X (e :: es) (tCons te t) := by
  intro pos pins s σ H Q I h
  rw [hs]
  show wpAny _ _ (spliced ((false, eval e X.env) :: backTo pos (starEach es X.env))) _ _ s
  refine Calls.spliced_cons (thn (ha pins s σ H _ I h) fun u s1 ⟨x, H1, I1, r1, q1⟩ => ?_)
  exact thn (hr pos pins s1 σ H1 _ I1 q1) fun us s2 ⟨xs, H2, I2, r2, q2⟩ => ⟨x :: xs, H2, I2, .cons r1 r2, q2⟩

/-- a tuple, a list of written items -/
def tTup (t : TA) : TE := fun σ H Q => t σ H fun xs H1 => xs.length ≤ sizeLine ∧ ∀ p, H1 p = none → Q (.ref p) (upd H1 p (.tup xs))
def tLst (t : TA) : TE := fun σ H Q => t σ H fun xs H1 => xs.length ≤ sizeLine ∧ ∀ p, H1 p = none → Q (.ref p) (upd H1 p (.lst xs))
theorem pe_tup {x1} (h : PA X es t) : PE X (.Tuple es x1 pos) (tTup t) := by
  intro pins s σ H Q I hq
  refine wpAny_Tuple_spliced (thn (h pos pins s σ H _ I hq) fun us s1 ⟨xs, H1, I1, r, z, q⟩ => ⟨by rw [← r.length]; exact z, ?_⟩)
  have hf : H1 s1.heap.objs.size = none := I1.hok.fresh (Nat.le_refl _)
  refine ⟨.ref s1.heap.objs.size, upd H1 s1.heap.objs.size (.tup xs), I1.laid (t' := s1.toks) (fun b u e => Heap.get?_push_of_some _ e) (Nat.le_refl _) ?_, rfl, q _ hf⟩
  exact ⟨z, us, r, ⟨_, Heap.get?_push_size _ rfl, rfl, _, rfl⟩⟩
theorem pe_lst (h : PA X es t) : PE X (.List es pos) (tLst t) := by
  intro pins s σ H Q I hq
  refine wpAny_List_spliced (thn (h pos pins s σ H _ I hq) fun us s1 ⟨xs, H1, I1, r, z, q⟩ => ⟨by rw [← r.length]; exact z, ?_⟩)
  have hf : H1 s1.heap.objs.size = none := I1.hok.fresh (Nat.le_refl _)
  refine ⟨.ref s1.heap.objs.size, upd H1 s1.heap.objs.size (.lst xs), I1.laid (t' := s1.toks) (fun b u e => Heap.get?_push_of_some _ e) (Nat.le_refl _) ?_, rfl, q _ hf⟩
  exact ⟨z, us, 0, r, Heap.get?_push_size _ rfl⟩
end

/-! ### what a def promises -/
/-- a def's promise: the bound arguments in the parameters' order, the heap, the wanted end, the wanted exception -/
abbrev Sp := List V → Hp → VK → XK → Prop
/-- how an exception lies behind a call (file 08 gives it): the callers' frames, abstract heap and state ahead of the call, the wish, the exception, the state -/
abbrev CXT := List Env → Hp → Shared → XK → Value → Shared → Prop

/-- the state at a call -/
structure Env0 (P : Program) (w : World) (K : PySem.W.Frag) (mg : Str → Option Value) (base : Heap) (A : Around) (outer : List Env) (s : Shared) (H : Hp) : Prop where
  frames : A.frames = some outer
  mod : Mod K mg base
  bs : ∀ b o, base.get? b = some o → s.heap.get? b = some o ∧ H b = none
  bsz : base.objs.size ≤ s.heap.objs.size
  funs : s.heap.FunFrames base outer
  frf : ∀ b ∈ frs outer, H b = none
  hok : HOk P w H s.heap
  bare : AllBare s.gens
/-- a call's end -/
def CE (outer : List Env) (P : Program) (w : World) (H : Hp) (s : Shared) (Q : VK) (u : Value) (s' : Shared) : Prop :=
  ∃ v H', s'.os = s.os ∧ AllBare s'.gens ∧ Un (frs outer) [] H H' s.heap s'.heap ∧ HOk P w H' s'.heap ∧ RelV v u ∧ Q v H'
def CR (CX : CXT) (outer : List Env) (P : Program) (w : World) (H : Hp) (s : Shared) (Q : VK) (E : XK) (r : Result) (s' : Shared) : Prop :=
  match r with
  | .ok (.ret u) => CE outer P w H s Q u s'
  | .ok _ => False
  | .error e => CX outer H s E e s'
structure FnOk (P : Program) (w : World) (K : PySem.W.Frag) (mg : Str → Option Value) (base : Heap) (CX : CXT) (k : Nat) (f : Addr) (fd : FuncData) (ps : List Str) (sp : Sp) : Prop where
  len : ∀ vs H Q E, sp vs H Q E → vs.length = ps.length
  run : ∀ (A : Around) (outer : List Env) (s : Shared) (H : Hp) (args : Args) (us : List Value) (vs : List V) (Q : VK) (E : XK), Room k A → Env0 P w K mg base A outer s H → BindsTo s fd args (ps.zip us) → Vals vs us → sp vs H Q E →
    codeAny (model P w) A (.call (.ref f) args) (CR CX outer P w H s Q E) s
theorem FnOk.mono {P : Program} {w : World} {K : PySem.W.Frag} {mg : Str → Option Value} {base : Heap} {CX : CXT} {j k : Nat} {f : Addr} {fd : FuncData} {ps : List Str} {sp : Sp} (F : FnOk P w K mg base CX j f fd ps sp) (h : j ≤ k) :
    FnOk P w K mg base CX k f fd ps sp := ⟨F.len, fun A outer s H args us vs Q E hr => F.run A outer s H args us vs Q E (hr.mono h)⟩
/-- a weaker promise -/
theorem FnOk.imp {P : Program} {w : World} {K : PySem.W.Frag} {mg : Str → Option Value} {base : Heap} {CX : CXT} {k : Nat} {f : Addr} {fd : FuncData} {ps : List Str} {sp sp' : Sp} (F : FnOk P w K mg base CX k f fd ps sp)
    (h : ∀ vs H Q E, sp' vs H Q E → sp vs H Q E) : FnOk P w K mg base CX k f fd ps sp' :=
  ⟨fun vs H Q E q => F.len vs H Q E (h _ _ _ _ q), fun A outer s H args us vs Q E hr he hb hv hs => F.run A outer s H args us vs Q E hr he hb hv (h _ _ _ _ hs)⟩

theorem Env0.make {P : Program} {w : World} {K : PySem.W.Frag} {mg : Str → Option Value} {base : Heap} {A : Around} {outer : List Env} {s : Shared} {H : Hp} (e : Env0 P w K mg base A outer s H) (C : Addr) (us : List Value) (kw : List (Str × Value)) :
    Env0 P w K mg base (A.under (.builtin "type.__call__" ⟨.ref C :: us, kw⟩)) outer s H := ⟨by first | exact e.frames | (simpa [Around.under, Code.envs, Code.isFrame, pushEnvs] using e.frames), e.mod, e.bs, e.bsz, e.funs, e.frf, e.hok, e.bare⟩
theorem Env0.in1 {P : Program} {w : World} {K : PySem.W.Frag} {mg : Str → Option Value} {base : Heap} {A : Around} {outer : List Env} {s : Shared} {H : Hp} (e : Env0 P w K mg base A outer s H) :
    Env0 P w K mg base A.in1 outer s H := ⟨e.frames, e.mod, e.bs, e.bsz, e.funs, e.frf, e.hok, e.bare⟩

section
variable {X : Cx} {pins : List (Addr × Obj)} {σ : St} {H : Hp} {s s' : Shared}
/-- from a body: what a callee wants -/
theorem Inv.env0 (I : Inv X pins σ H s) : Env0 X.prog X.w X.K X.mg X.base X.A X.stack s H :=
  ⟨I.ok.frames, I.ok.mod, I.bs, Nat.le_trans I.ok.bsz I.sz, I.stack, I.stkFree, I.hok, I.bare⟩
/-- behind a call -/
theorem Inv.after {Q : VK} {u : Value} (I : Inv X pins σ H s) (h : CE X.stack X.prog X.w H s Q u s') : EP X pins σ Q u s' := by
  obtain ⟨v, H', os, bare, un, hok, r, q⟩ := h
  obtain ⟨hh, g, d, t, os'⟩ := s'
  obtain rfl : os' = s.os := os
  exact ⟨v, H', I.call (h' := hh) (g' := g) (d' := d) (t' := t) (ch := []) un hok bare (fun b z => absurd z (by simp)), r, q⟩
end

/-! ### calls -/
/-- f(..): the written arguments, then the defaults dvs; E: what is wanted of an exception -/
def tCall (sp : Sp) (dvs : List V) (E : XK) (t : TA) : TE := fun σ H Q => t σ H fun vs H1 => sp (vs ++ dvs) H1 Q E
/-- o.m(..) of an instance of the class at C -/
def tMeth (C : Addr) (m : Str) (sp : Sp) (dvs : List V) (E : XK) (ta : TE) (t : TA) : TE := fun σ H Q => ta σ H fun x H1 => ∃ a dx fs, x = .ref a ∧ H1 a = some (.ins C dx fs) ∧ fs.lookup m = none ∧
  t σ H1 fun vs H2 => sp (x :: (vs ++ dvs)) H2 Q E
/-- C(..): a new instance and its dict, then __init__ -/
def tMake (C : Addr) (sp : Sp) (dvs : List V) (E : XK) (t : TA) : TE := fun σ H Q => t σ H fun vs H1 => ∀ x dx, H1 x = none → H1 dx = none → dx ≠ x →
  sp (.ref x :: (vs ++ dvs)) (upd (upd H1 dx (.own x)) x (.ins C dx [])) (fun v H2 => v = .non ∧ Q (.ref x) H2) E

/-- how the parameters are bound: us the positional arguments, kw the keywords' values by name, ds the defaults that fill up -/
def Binds (K : PySem.W.Frag) (fd : FuncData) (ps : List Str) (ds : List Value) : Prop :=
  ∀ (s : Shared) (us : List Value), K.In s.heap → (us ++ ds).length = ps.length → BindsTo s fd ⟨us, []⟩ (ps.zip (us ++ ds))
/-- every parameter is given -/
theorem Binds.all {K : PySem.W.Frag} {fd : FuncData} {ps : List Str} (h : ∀ us : List Value, us.length = ps.length → bindArgs fd ⟨us, []⟩ = pure (ps.zip us)) : Binds K fd ps [] := fun s us _ hl => by
  rw [List.append_nil] at hl ⊢
  exact .of_eq (h us hl)

/-- an exception of a callee reaches what this body wants of exceptions -/
def Passes (CX : CXT) (X : Cx) (E : XK) : Prop := ∀ (pins : List (Addr × Obj)) (σ : St) (H : Hp) (s : Shared) (e : Value) (s' : Shared), Inv X pins σ H s → CX X.stack H s E e s' → X.xe e s'

section
variable {X : Cx} {CX : CXT} {k : Nat} {f C : Addr} {fd : FuncData} {ps : List Str} {sp : Sp} {dvs : List V} {ds : List Value} {E : XK} {x m : Str} {p pos apos : Pos} {e o : Expr} {es : List Expr} {ta : TE} {t : TA}

/-- the callee runs -/
theorem run_fn {pins : List (Addr × Obj)} {σ : St} {H : Hp} {s : Shared} {Q : VK} {us : List Value} {vs : List V} (F : FnOk X.prog X.w X.K X.mg X.base CX k f fd ps sp) (hr : Room k X.A) (hb : Binds X.K fd ps ds) (hd : Vals dvs ds) (hx : Passes CX X E)
    (I : Inv X pins σ H s) (r : Vals vs us) (h : sp (vs ++ dvs) H Q E) : wpAny (model X.prog X.w) X.A (call (.ref f) us) (EP X pins σ Q) X.xe s := by
  have r2 : Vals (vs ++ dvs) (us ++ ds) := r.append hd
  have hl : (us ++ ds).length = ps.length := by rw [← r2.length]; exact F.len _ _ _ _ h
  refine wpAny_call (codeAny_mono (F.run X.A X.stack s H ⟨us, []⟩ (us ++ ds) (vs ++ dvs) Q E hr I.env0 (hb s us I.kIn hl) r2 h) fun r s' hq => ?_)
  cases r with
  | error e => exact hx pins σ H s e s' I hq
  | ok fl =>
    cases fl with
    | ret u => exact I.after hq
    | next => exact False.elim hq
    | brk => exact False.elim hq
    | cont => exact False.elim hq

theorem pe_call (F : FnOk X.prog X.w X.K X.mg X.base CX k f fd ps sp) (hr : Room k X.A) (hg : Gl X x) (hm : X.mg x = some (.ref f)) (hk : PySem.W.keepIn X.K (.ref f) = true) (hb : Binds X.K fd ps ds) (hd : Vals dvs ds) (hx : Passes CX X E)
    (ha : PA X (e :: es) t) (hdb : (x == ("__debug__" : Str)) = false := by decide) (he : starEach (e :: es) X.env = (false, eval e X.env) :: starEach es X.env := by rfl) (hpl : (backTo pos (starEach es X.env)).any (·.1) = false := by rfl) :
    PE X (.Call (.Name x p) (e :: es) [] pos) (tCall sp dvs E t) := by
  intro pins s σ H Q I h
  refine wpAny_Call_Name_kw (ld_glob I hg hm ?_ hdb)
  refine PySem.W.callWith_K (h₀ := X.base) I.ok.mod.kin hk (thn (ha pos pins s σ H _ I h) fun us s1 ⟨vs, H1, I1, r, q⟩ => ⟨I1.kIn, ?_⟩) he hpl
  exact run_fn F hr hb hd hx I1 r q
theorem pe_call0 (F : FnOk X.prog X.w X.K X.mg X.base CX k f fd ps sp) (hr : Room k X.A) (hg : Gl X x) (hm : X.mg x = some (.ref f)) (hk : PySem.W.keepIn X.K (.ref f) = true) (hb : Binds X.K fd ps ds) (hd : Vals dvs ds) (hx : Passes CX X E)
    (hdb : (x == ("__debug__" : Str)) = false := by decide) : PE X (.Call (.Name x p) [] [] pos) (tCall sp dvs E tNil) := by
  intro pins s σ H Q I h
  refine wpAny_Call_Name_kw (ld_glob I hg hm ?_ hdb)
  exact PySem.W.callWith_K0 I.kIn hk (run_fn (us := []) F hr hb hd hx I .nil h)

/-- o.m(e, ..) -/
theorem pe_meth {pl : Sem Bool} (he : PE X o ta) (c : Cls X.K C) (hm : Meth X.K C m f) (F : FnOk X.prog X.w X.K X.mg X.base CX k f fd ps sp) (hr : Room k X.A) (hb : Binds X.K fd ps ds) (hd : Vals dvs ds) (hx : Passes CX X E) (ha : PA X (e :: es) t)
    (hst : starEach (e :: es) X.env = (false, eval e X.env) :: starEach es X.env := by rfl) (hpl : (backTo pos (starEach es X.env)).any (·.1) = false := by rfl)
    (ht : eval (.Call (.Attribute o m apos) (e :: es) [] pos) X.env = (do
      let ov ← eval o X.env
      standAt apos.atName
      let (f, first) ← holding [ov] (getMethod ov m pl)
      callWith pos f first (backTo pos (starEach (e :: es) X.env)) (backToKw pos (keywordEach [] X.env))) := by rfl) :
    PE X (.Call (.Attribute o m apos) (e :: es) [] pos) (tMeth C m sp dvs E ta t) := by
  intro pins s σ H Q I h
  refine PySem.W.methodCall_KW (pl := pl) (thn (he pins s σ H _ I h) fun u s1 ⟨x, H1, I1, rx, a, dx, fs, ex, ea, l, q⟩ => ?_) ht
  subst ex
  obtain rfl : u = Value.ref a := rx
  refine getmeth_ok I1 ea c hm l ?_
  refine PySem.W.callWith_K (first := [.ref a]) (h₀ := X.base) I.ok.mod.kin hm.kp (thn (ha pos pins s1 σ H1 _ I1 q) fun us s2 ⟨vs, H2, I2, r, q2⟩ => ⟨I2.kIn, ?_⟩) hst hpl
  exact run_fn (us := .ref a :: us) (vs := .ref a :: vs) F hr hb hd hx I2 (.cons rfl r) q2
/-- o.m() -/
theorem pe_meth0 {pl : Sem Bool} (he : PE X o ta) (c : Cls X.K C) (hm : Meth X.K C m f) (F : FnOk X.prog X.w X.K X.mg X.base CX k f fd ps sp) (hr : Room k X.A) (hb : Binds X.K fd ps ds) (hd : Vals dvs ds) (hx : Passes CX X E)
    (ht : eval (.Call (.Attribute o m apos) [] [] pos) X.env = (do
      let ov ← eval o X.env
      standAt apos.atName
      let (f, first) ← holding [ov] (getMethod ov m pl)
      callWith pos f first (backTo pos (starEach [] X.env)) (backToKw pos (keywordEach [] X.env))) := by rfl) :
    PE X (.Call (.Attribute o m apos) [] [] pos) (tMeth C m sp dvs E ta tNil) := by
  intro pins s σ H Q I h
  refine PySem.W.methodCall_KW (pl := pl) (thn (he pins s σ H _ I h) fun u s1 ⟨x, H1, I1, rx, a, dx, fs, ex, ea, l, q⟩ => ?_) ht
  subst ex
  obtain rfl : u = Value.ref a := rx
  refine getmeth_ok I1 ea c hm l ?_
  exact PySem.W.callWith_K0 (first := [.ref a]) I1.kIn hm.kp (run_fn (us := [.ref a]) (vs := [.ref a]) F hr hb hd hx I1 (.cons rfl .nil) q)

/-- what a class must have to be made -/
structure Mk (K : PySem.W.Frag) (C f : Addr) : Prop where
  makes : PySem.W.makesIn K C = true
  init : PySem.W.findIn K (.ref C) "__init__" = some (some (.ref f))
  fn : PySem.W.isFn K (.ref f) = true
  kp : PySem.W.keepIn K (.ref C) = true

theorem run_make {pins : List (Addr × Obj)} {σ : St} {H : Hp} {s : Shared} {Q : VK} {us : List Value} {vs : List V} (M : Mk X.K C f) (F : FnOk X.prog X.w X.K X.mg X.base CX k f fd ps sp) (hr : Room (k + 1) X.A) (hb : Binds X.K fd ps ds) (hd : Vals dvs ds)
    (hx : Passes CX X E) (I : Inv X pins σ H s) (r : Vals vs us)
    (h : ∀ x dx, H x = none → H dx = none → dx ≠ x → sp (.ref x :: (vs ++ dvs)) (upd (upd H dx (.own x)) x (.ins C dx [])) (fun v H2 => v = .non ∧ Q (.ref x) H2) E) :
    wpAny (model X.prog X.w) X.A (call (.ref C) us) (EP X pins σ Q) X.xe s := by
  have hq := h (s.heap.objs.size + 1) s.heap.objs.size (I.hok.fresh (Nat.le_succ _)) (I.hok.fresh (Nat.le_refl _)) (Nat.ne_of_lt (Nat.lt_succ_self _))
  have I2 := Inv.made (C := C) I
  have r2 : Vals (V.ref (s.heap.objs.size + 1) :: (vs ++ dvs)) (Value.ref (s.heap.objs.size + 1) :: (us ++ ds)) := .cons rfl (r.append hd)
  have hl : (Value.ref (s.heap.objs.size + 1) :: us ++ ds).length = ps.length := by
    have e := r2.length
    rw [F.len _ _ _ _ hq] at e
    exact e.symm
  refine wpAny_call (make_map (f := f) I.kIn M.makes M.init (beq_iff_eq.mp M.fn) (codeAny_mono (F.run _ X.stack _ _ ⟨Value.ref (s.heap.objs.size + 1) :: us, []⟩ (Value.ref (s.heap.objs.size + 1) :: (us ++ ds)) _ _ E (hr.make C us [])
    (I2.env0.make C us []) (hb _ (Value.ref (s.heap.objs.size + 1) :: us) I2.kIn hl) r2 hq) fun r s' hq' => ?_))
  cases r with
  | error e => exact hx pins σ _ _ e s' I2 hq'
  | ok fl =>
    cases fl with
    | ret u =>
      obtain ⟨v, H', I3, rv, ev, q3⟩ := I2.after hq'
      subst ev
      exact ⟨rv, ⟨V.ref (s.heap.objs.size + 1), H', I3, rfl, q3⟩⟩
    | next => exact False.elim hq'
    | brk => exact False.elim hq'
    | cont => exact False.elim hq'
theorem pe_make (M : Mk X.K C f) (F : FnOk X.prog X.w X.K X.mg X.base CX k f fd ps sp) (hr : Room (k + 1) X.A) (hg : Gl X x) (hm : X.mg x = some (.ref C)) (hb : Binds X.K fd ps ds) (hd : Vals dvs ds) (hx : Passes CX X E)
    (ha : PA X (e :: es) t) (hdb : (x == ("__debug__" : Str)) = false := by decide) (he : starEach (e :: es) X.env = (false, eval e X.env) :: starEach es X.env := by rfl) (hpl : (backTo pos (starEach es X.env)).any (·.1) = false := by rfl) :
    PE X (.Call (.Name x p) (e :: es) [] pos) (tMake C sp dvs E t) := by
  intro pins s σ H Q I h
  refine wpAny_Call_Name_kw (ld_glob I hg hm ?_ hdb)
  refine PySem.W.callWith_K (h₀ := X.base) I.ok.mod.kin M.kp (thn (ha pos pins s σ H _ I h) fun us s1 ⟨vs, H1, I1, r, q⟩ => ⟨I1.kIn, ?_⟩) he hpl
  exact run_make M F hr hb hd hx I1 r q
theorem pe_make0 (M : Mk X.K C f) (F : FnOk X.prog X.w X.K X.mg X.base CX k f fd ps sp) (hr : Room (k + 1) X.A) (hg : Gl X x) (hm : X.mg x = some (.ref C)) (hb : Binds X.K fd ps ds) (hd : Vals dvs ds) (hx : Passes CX X E)
    (hdb : (x == ("__debug__" : Str)) = false := by decide) : PE X (.Call (.Name x p) [] [] pos) (tMake C sp dvs E tNil) := by
  intro pins s σ H Q I h
  refine wpAny_Call_Name_kw (ld_glob I hg hm ?_ hdb)
  exact PySem.W.callWith_K0 I.kIn M.kp (run_make (us := []) M F hr hb hd hx I .nil h)
end

/-! ### keywords -/
/-- the values of the keywords, from the left -/
def PK (X : Cx) (kws : List Keyword) (t : TA) : Prop :=
  ∀ (pos : Pos) (pins : List (Addr × Obj)) (s : Shared) (σ : St) (H : Hp) (Q : List V → Hp → Prop), Inv X pins σ H s → t σ H Q → wpAny (model X.prog X.w) X.A (evalAll ((backToKw pos (keywordEach kws X.env)).map (·.2))) (AP X pins σ Q) X.xe s
section
variable {X : Cx} {CX : CXT} {k : Nat} {f C : Addr} {fd : FuncData} {ps ks : List Str} {sp : Sp} {E : XK} {x m : Str} {p pos apos kpos : Pos} {e o : Expr} {es : List Expr} {kws : List Keyword} {te ta : TE} {t tk : TA} {nm : Option Str}
theorem pk_nil : PK X [] tNil := fun _ _ _ _ H Q I h => wpAny_evalAll_nil ⟨[], H, I, .nil, h⟩
theorem pk_cons (ha : PE X e te) (hr : PK X kws t) : PK X (⟨nm, e, kpos⟩ :: kws) (tCons te t) := by
  intro pos pins s σ H Q I h
  show wpAny _ _ (evalAll ((do let v ← eval e X.env; standAt pos; pure v) :: (backToKw pos (keywordEach kws X.env)).map (·.2))) _ _ s
  refine wpAny_evalAll_cons (wpAny_bind (thn (ha pins s σ H _ I h) fun u s1 ⟨x, H1, I1, r1, q1⟩ => wpAny_bind (wpAny_standAt (wpAny_pure ?_))))
  exact thn (hr pos pins s1 σ H1 _ I1 q1) fun us s2 ⟨xs, H2, I2, r2, q2⟩ => ⟨x :: xs, H2, I2, .cons r1 r2, q2⟩

/-- how a call with keywords binds: g puts the positional values us and the keywords' values ws (names ks) in the parameters' order, defaults among them -/
structure KBinds (K : PySem.W.Frag) (fd : FuncData) (ps ks : List Str) (g : List Value → List Value → List Value) (gV : List V → List V → List V) : Prop where
  to : ∀ (s : Shared) (us ws : List Value), K.In s.heap → (g us ws).length = ps.length → BindsTo s fd ⟨us, ks.zip ws⟩ (ps.zip (g us ws))
  rel : ∀ {vs : List V} {us : List Value} {zs : List V} {ws : List Value}, Vals vs us → Vals zs ws → Vals (gV vs zs) (g us ws)
def tCallK (sp : Sp) (gV : List V → List V → List V) (E : XK) (t tk : TA) : TE := fun σ H Q => t σ H fun vs H1 => tk σ H1 fun zs H2 => sp (gV vs zs) H2 Q E
variable {g : List Value → List Value → List Value} {gV : List V → List V → List V}
theorem run_fnk {pins : List (Addr × Obj)} {σ : St} {H : Hp} {s : Shared} {Q : VK} {us ws : List Value} {vs zs : List V} (F : FnOk X.prog X.w X.K X.mg X.base CX k f fd ps sp) (hr : Room k X.A) (hb : KBinds X.K fd ps ks g gV) (hx : Passes CX X E)
    (I : Inv X pins σ H s) (r : Vals vs us) (rz : Vals zs ws) (h : sp (gV vs zs) H Q E) : wpAny (model X.prog X.w) X.A (call (.ref f) us (ks.zip ws)) (EP X pins σ Q) X.xe s := by
  have r2 := hb.rel r rz
  have hl : (g us ws).length = ps.length := by rw [← r2.length]; exact F.len _ _ _ _ h
  refine wpAny_call (codeAny_mono (F.run X.A X.stack s H ⟨us, ks.zip ws⟩ (g us ws) (gV vs zs) Q E hr I.env0 (hb.to s us ws I.kIn hl) r2 h) fun r s' hq => ?_)
  cases r with
  | error e => exact hx pins σ H s e s' I hq
  | ok fl =>
    cases fl with
    | ret u => exact I.after hq
    | next => exact False.elim hq
    | brk => exact False.elim hq
    | cont => exact False.elim hq
/-- f(e, .., k = v, ..) -/
theorem pe_callK (F : FnOk X.prog X.w X.K X.mg X.base CX k f fd ps sp) (hr : Room k X.A) (hg : Gl X x) (hm : X.mg x = some (.ref f)) (hk : PySem.W.keepIn X.K (.ref f) = true) (hb : KBinds X.K fd ps ks g gV) (hx : Passes CX X E)
    (ha : PA X (e :: es) t) (hkw : PK X kws tk) (hall : (backToKw pos (keywordEach kws X.env)).all (·.1.isSome) = true := by rfl) (hks : (backToKw pos (keywordEach kws X.env)).filterMap (·.1) = ks := by rfl)
    (hdb : (x == ("__debug__" : Str)) = false := by decide) (he : starEach (e :: es) X.env = (false, eval e X.env) :: starEach es X.env := by rfl)
    (hpl : ((backTo pos (starEach (e :: es) X.env)).any (·.1) || (backToKw pos (keywordEach kws X.env)).any (·.1.isNone)) = false := by rfl) :
    PE X (.Call (.Name x p) (e :: es) kws pos) (tCallK sp gV E t tk) := by
  intro pins s σ H Q I h
  refine wpAny_Call_Name_kw (ld_glob I hg hm ?_ hdb)
  refine PySem.W.callWith_KW (h₀ := X.base) I.ok.mod.kin hk hall (thn (ha pos pins s σ H _ I h) fun us s1 ⟨vs, H1, I1, r, q⟩ => ?_) hpl he
  refine thn (hkw pos pins s1 σ H1 _ I1 q) fun ws s2 ⟨zs, H2, I2, rz, q2⟩ => ⟨I2.kIn, ?_⟩
  rw [hks]
  exact run_fnk F hr hb hx I2 r rz q2
end

/-! ### a def's body keeps its promise -/
/-- names: the parameters first -/
structure FnScope (N P : List Str) (sc : Scope) : Prop where
  kind : sc.kind = .function
  co : sc.isCoroutine = false
  gen : sc.isGenerator = false
  nd : N.Nodup
  pre : N.take P.length = P
  par : ∀ x ∈ P, sc.names.lookup x = some .local ∨ sc.names.lookup x = some .cell
  nofree : ∀ y ∈ sc.names, y.2 ≠ .free

theorem bindL_out {kindOf : Str → Option NameKind} {x : Str} : ∀ {binds : List (Str × Value)} {m : Str → Option Value}, (∀ v, (x, v) ∉ binds) → bindL kindOf binds m x = m x
  | [], _, _ => rfl
  | (n, v) :: r, m, h => by
    unfold bindL
    rw [bindL_out fun w hw => h w (List.mem_cons_of_mem _ hw)]
    split
    · have : x ≠ n := by rintro rfl; exact h v List.mem_cons_self
      simp [this]
    · rfl
theorem bindC_out {kindOf : Str → Option NameKind} {x : Str} : ∀ {binds : List (Str × Value)} {m : Str → Option Value}, (∀ v, (x, v) ∉ binds) → bindC kindOf binds m x = m x
  | [], _, _ => rfl
  | (n, v) :: r, m, h => by
    unfold bindC
    rw [bindC_out fun w hw => h w (List.mem_cons_of_mem _ hw)]
    split
    · rfl
    · have : x ≠ n := by rintro rfl; exact h v List.mem_cons_self
      simp [this]
theorem bindL_get {kindOf : Str → Option NameKind} {x : Str} {v : Value} : ∀ {P : List Str} {vs : List Value} {i : Nat} {m : Str → Option Value}, P.Nodup → P[i]? = some x → vs[i]? = some v → kindOf x = some .local →
    bindL kindOf (P.zip vs) m x = some v
  | [], _, _, _, _, h, _, _ => by simp at h
  | _ :: _, [], _, _, _, _, h, _ => by simp at h
  | p :: P, w :: vs, 0, m, nd, h1, h2, hk => by
    simp at h1 h2; subst h1; subst h2
    show bindL kindOf ((p, w) :: P.zip vs) m p = _
    unfold bindL
    rw [bindL_out fun v hv => (List.nodup_cons.mp nd).1 (List.of_mem_zip hv).1, if_pos hk]
    simp
  | p :: P, w :: vs, i + 1, m, nd, h1, h2, hk => by
    show bindL kindOf ((p, w) :: P.zip vs) m x = _
    unfold bindL
    exact bindL_get (i := i) (List.nodup_cons.mp nd).2 (by simpa using h1) (by simpa using h2) hk
theorem bindC_get {kindOf : Str → Option NameKind} {x : Str} {v : Value} : ∀ {P : List Str} {vs : List Value} {i : Nat} {m : Str → Option Value}, P.Nodup → P[i]? = some x → vs[i]? = some v → kindOf x ≠ some .local →
    bindC kindOf (P.zip vs) m x = some v
  | [], _, _, _, _, h, _, _ => by simp at h
  | _ :: _, [], _, _, _, _, h, _ => by simp at h
  | p :: P, w :: vs, 0, m, nd, h1, h2, hk => by
    simp at h1 h2; subst h1; subst h2
    show bindC kindOf ((p, w) :: P.zip vs) m p = _
    unfold bindC
    rw [bindC_out fun v hv => (List.nodup_cons.mp nd).1 (List.of_mem_zip hv).1, if_neg hk]
    simp
  | p :: P, w :: vs, i + 1, m, nd, h1, h2, hk => by
    show bindC kindOf ((p, w) :: P.zip vs) m x = _
    unfold bindC
    exact bindC_get (i := i) (List.nodup_cons.mp nd).2 (by simpa using h1) (by simpa using h2) hk

/-- the names' values at the entry -/
def start (N : List Str) (vs : List V) : St := vs.map some ++ List.replicate (N.length - vs.length) none

/-- the context of a def's body, at its entry; an exception leaves the frame, then lies as CX says -/
def cxOf (CX : CXT) (P : Program) (w : World) (K : PySem.W.Frag) (mg : Str → Option Value) (base : Heap) (N : List Str) (qual : Str) (scope : Scope) (f : Addr) (cd : Value) (A : Around) (outer : List Env) (s : Shared) (H : Hp) (E : XK) : Cx where
  prog := P
  w := w
  K := K
  mg := mg
  base := base
  A := A.deeper (envOfC qual scope s.heap.objs.size f cd)
  N := N
  s₀ := s
  H₀ := H
  env := envOfC qual scope s.heap.objs.size f cd
  outer := outer
  stack := envOfC qual scope s.heap.objs.size f cd :: outer
  ex := []
  calm := true
  fn := fun _ => true
  pn := []
  xe := fun e s' => wpAny (model P w) (A.deeper (envOfC qual scope s.heap.objs.size f cd)) (leaving (envOfC qual scope s.heap.objs.size f cd) e) (fun _ s'' => CX outer H s E e s'') (fun e' s'' => CX outer H s E e' s'') s'

theorem cell_has {sc : Scope} {n : Nat} {x : Str} (h : sc.names.lookup x = some .cell) : ∃ c, (cellsFrom n sc.names []).lookup x = some c := by
  have q := PySem.W.cellsFrom_some sc.names n [] (.inl h)
  exact Option.isSome_iff_exists.mp q

theorem inv_start {CX : CXT} {P : Program} {w : World} {K : PySem.W.Frag} {mg : Str → Option Value} {base : Heap} {N ps : List Str} {qual : Str} {scope : Scope} {f : Addr} {cd : Value} {A : Around} {outer : List Env} {s s1 : Shared} {H : Hp} {E : XK} {us : List Value} {vs : List V}
    (S : FnScope N ps scope) (hd : A.handled = none) (e0 : Env0 P w K mg base A outer s H) (hl : vs.length = ps.length) (r : Vals vs us)
    (x : InCallC s s.heap.objs.size (bindL (envOfC qual scope s.heap.objs.size f cd).kindOf (ps.zip us) fun _ => none) (cellsFrom (s.heap.objs.size + 1) scope.names []) (bindC (envOfC qual scope s.heap.objs.size f cd).kindOf (ps.zip us) fun _ => none) s1) :
    Inv (cxOf CX P w K mg base N qual scope f cd A outer s H E) [] (start N vs) H s1 := by
  have hpl : ps.length ≤ N.length := by have := congrArg List.length S.pre; rw [List.length_take] at this; omega
  obtain ⟨h1, tk, rfl, hk⟩ := x.done
  have noA : ∀ b : Addr, b ∉ (cxOf CX P w K mg base N qual scope f cd A outer s H E).ex := fun b z => absurd (show b ∈ ([] : List Addr) from z) (by simp)
  refine ⟨⟨e0.mod, S.kind, rfl, rfl, Nat.le_refl _, fun y z c h1 h2 => ?_, fun y hy => ?_, fun y c _ h => ?_, fun _ => hd, Around.frames_deeper e0.frames, .inr ⟨rfl, rfl⟩, fun b z => absurd z (noA b), e0.bs, e0.bsz, fun b _ _ => noA b, fun b z => absurd z (noA b), e0.funs, e0.frf⟩,
    rfl, e0.bare, Un.kept hk, ⟨_, x.toInCall.ns, fun i y v h1 h2 h3 => ?_⟩, fun y c h => ⟨_, x.cell y c h⟩, e0.hok.fresh (Nat.le_refl _), fun y c h => ?_, fun p hp => absurd (show p ∈ ([] : List (Addr × Obj)) from hp) (by simp), e0.hok.kept hk, ?_⟩
  · exact name_of_addr x.apart (PySem.mem_of_lookup h1) (PySem.mem_of_lookup h2)
  · have hy : scope.names.lookup y = some .cell ∨ scope.names.lookup y = some .free := hy
    rcases hy with hy | hy
    · exact cell_has hy
    · exact absurd rfl (S.nofree _ (PySem.mem_of_lookup hy))
  · exact Nat.le_of_lt (x.above y c (PySem.mem_of_lookup h))
  · have hi : i < vs.length := by
      unfold start at h2
      by_cases hi : i < vs.length
      · exact hi
      · rw [List.getElem?_append_right (by simpa using hi)] at h2
        rw [List.getElem?_replicate] at h2
        split at h2 <;> cases h2
    have ha : vs[i]? = some v := by
      unfold start at h2
      rw [List.getElem?_append_left (by simpa using hi), List.getElem?_map] at h2
      cases e : vs[i]? with
      | none => rw [e] at h2; cases h2
      | some a => rw [e] at h2; cases h2; rfl
    obtain ⟨u, hu, rv⟩ := r.get ha
    have hp : ps[i]? = some y := by
      rw [← S.pre, List.getElem?_take_of_lt (by omega)]; exact h1
    have ndP : ps.Nodup := by rw [← S.pre]; exact S.nd.sublist (List.take_sublist _ _)
    refine ⟨u, rv, ?_⟩
    rcases S.par y (List.mem_of_getElem? hp) with k | k
    · exact .inl ⟨k, bindL_get ndP hp hu k⟩
    · obtain ⟨c, e⟩ := cell_has (n := s.heap.objs.size + 1) k
      refine .inr ⟨.inl k, c, e, ?_⟩
      have q := x.cell y c e
      rw [bindC_get ndP hp hu (by show scope.names.lookup y ≠ _; rw [k]; decide)] at q
      exact q
  · exact e0.hok.fresh (Nat.le_of_lt (x.above y c (PySem.mem_of_lookup h)))
  · unfold start
    show _ = N.length
    rw [List.length_append, List.length_map, List.length_replicate]
    omega

/-- THE RULE: a def (or a method) of the text, by its body. The body's reading t is chosen for each entry; it is run at the parameters' values -/
theorem fn_of {CX : CXT} {P : Program} {w : World} {K : PySem.W.Frag} {mg : Str → Option Value} {base : Heap} {k : Nat} {f : Addr} {name qual : Str} {params : Arguments} {body : List Stmt} {scope : Scope} {dV kV doc pm cdv ct oc : Value} {an od : Option Addr}
    {osl : Array (Option Value)} {N ps : List Str} {sp : Sp} (lk : K.lookup f = some ⟨oc, od, .func (PySem.W.fnOf name qual params body scope dV kV doc pm an cdv ct), osl⟩) (hcd : PySem.W.codeIn K cdv qual = true) (S : FnScope N ps scope)
    (len : ∀ vs H Q E, sp vs H Q E → vs.length = ps.length)
    (hbody : ∀ (A : Around) (outer : List Env) (s : Shared) (H : Hp) (vs : List V) (Q : VK) (E : XK), Room k (A.deeper (envOfC qual scope s.heap.objs.size f cdv)) → sp vs H Q E →
      ∃ t, PSs (cxOf CX P w K mg base N qual scope f cdv A outer s H E) body t ∧ t { nx := fun _ H' => Q .non H', rt := Q } (start N vs) H) :
    FnOk P w K mg base CX (k + 1) f (PySem.W.fnOf name qual params body scope dV kV doc pm an cdv ct) ps sp := by
  refine ⟨len, fun A outer s H args us vs Q E hr e0 hb r hsp => ?_⟩
  have hl := len _ _ _ _ hsp
  have KX : K.In s.heap := e0.mod.kin.keeps fun b o e => (e0.bs b o e).1
  have lim : s.heap.NoLimit := e0.mod.nolimit.keeps fun b o e => (e0.bs b o e).1
  have hkind : ∀ y ∈ ps.zip us, scope.names.lookup y.1 = some .local ∨ (scope.names.lookup y.1 = some .cell ∧ ((cellsFrom (s.heap.objs.size + 1) scope.names []).lookup y.1).isSome = true) := fun ⟨n, v⟩ hy => by
    rcases S.par n (List.of_mem_zip hy).1 with q | q
    · exact .inl q
    · exact .inr ⟨q, PySem.W.cellsFrom_some _ _ _ (.inl q)⟩
  refine codeAny_call_function hr.depth (KX _ _ lk) rfl S.co S.gen rfl (PySem.W.codeRec_of KX hcd) (hb _ _ _ _ ?_)
  refine wpAny_newFunctionEnv_cells S.kind hkind fun env he s1 x => ?_
  subst he
  refine ⟨lim.keeps x.toInCall.keep, codeAny_func ?_⟩
  obtain ⟨t, ht, hq⟩ := hbody A outer s H vs Q E (hr.deeper _) hsp
  have I : Inv (cxOf CX P w K mg base N qual scope f cdv A outer s H E) [] (start N vs) H s1 := inv_start S hr.hd e0 hl r x
  refine wpAny_mono (ht [] s1 (start N vs) H _ I hq) (fun fl s' hs => ?_) fun e s' hs => hs
  have fin : ∀ {σ' : St} {H' : Hp} {v : V} {u : Value}, Inv (cxOf CX P w K mg base N qual scope f cdv A outer s H E) [] σ' H' s' → RelV v u → Q v H' → CE outer P w H s Q u s' :=
    fun {σ' H' v u} J rv q => ⟨v, H', J.os, J.bare, J.base, J.hok, rv, q⟩
  cases fl with
  | ret u =>
    obtain ⟨v, σ', H', J, rv, q⟩ := hs
    exact fin J rv q
  | next =>
    obtain ⟨σ', H', J, q⟩ := hs
    exact fin (v := V.non) (u := Value.none) J rfl q
  | brk =>
    obtain ⟨_, _, _, q⟩ := hs
    exact False.elim q
  | cont =>
    obtain ⟨_, _, _, q⟩ := hs
    exact False.elim q
end L2

namespace L2
open PySem PySem.Spec PyProof.Rows
section
variable {X : Cx} {x : Str} {p pos : Pos} {e : Expr} {es : List Expr} {t : TA} {id T : String} {r : List V → Hp → VK → Prop}

def tCB (r : List V → Hp → VK → Prop) (t : TA) : TE := fun σ H Q => t σ H fun vs H1 => r vs H1 Q
/-- f(e, ..), f a built-in function -/
theorem pe_callB (hc : CallR X (.builtin id) r) (hg : Gl X x) (hm : X.mg x = none) (hv : bootBuiltins x = some (.builtin id)) (ha : PA X (e :: es) t) (hn : x ≠ "__name__" := by decide) (hdb : (x == ("__debug__" : Str)) = false := by decide)
    (he : starEach (e :: es) X.env = (false, eval e X.env) :: starEach es X.env := by rfl) (hpl : (backTo pos (starEach es X.env)).any (·.1) = false := by rfl) : PE X (.Call (.Name x p) (e :: es) [] pos) (tCB r t) := by
  intro pins s σ H Q I h
  refine wpAny_Call_Name_kw (ld_blt I hg hm hv ?_ hn hdb)
  exact PyProof.Rows.callWith_builtin1 (thn (ha pos pins s σ H _ I h) fun us s1 ⟨vs, H1, I1, r1, q1⟩ => hc pins s1 σ H1 vs us Q I1 r1 q1) he hpl
/-- T(e, ..), T a built-in type -/
theorem pe_callTy (hc : CallR X (.type T) r) (hg : Gl X x) (hm : X.mg x = none) (hv : bootBuiltins x = some (.type T)) (ha : PA X (e :: es) t) (hn : x ≠ "__name__" := by decide) (hdb : (x == ("__debug__" : Str)) = false := by decide)
    (he : starEach (e :: es) X.env = (false, eval e X.env) :: starEach es X.env := by rfl) (hpl : (backTo pos (starEach es X.env)).any (·.1) = false := by rfl) : PE X (.Call (.Name x p) (e :: es) [] pos) (tCB r t) := by
  intro pins s σ H Q I h
  refine wpAny_Call_Name_kw (ld_blt I hg hm hv ?_ hn hdb)
  exact PyProof.Rows.callWith_type1 (thn (ha pos pins s σ H _ I h) fun us s1 ⟨vs, H1, I1, r1, q1⟩ => hc pins s1 σ H1 vs us Q I1 r1 q1) he hpl
/-- T() -/
theorem pe_callTy0 (hc : CallR X (.type T) r) (hg : Gl X x) (hm : X.mg x = none) (hv : bootBuiltins x = some (.type T)) (hn : x ≠ "__name__" := by decide) (hdb : (x == ("__debug__" : Str)) = false := by decide) :
    PE X (.Call (.Name x p) [] [] pos) (tCB r tNil) := by
  intro pins s σ H Q I h
  refine wpAny_Call_Name_kw (ld_blt I hg hm hv ?_ hn hdb)
  exact PyProof.Rows.callWith_type0 (hc pins s σ H [] [] Q I .nil h)
end
end L2

namespace HT
open PySem PyProof.Rows

/-- t < u of tuples of ints -/
def lexLt : List Int → List Int → Bool
  | [], [] => false
  | [], _ :: _ => true
  | _ :: _, [] => false
  | x :: xs, y :: ys => if x = y then lexLt xs ys else decide (x < y)
theorem lexLt_cons (x y : Int) (xs ys : List Int) : lexLt (x :: xs) (y :: ys) = if x = y then lexLt xs ys else decide (x < y) := rfl
theorem lexLt_nil_nil : lexLt [] [] = false := rfl
theorem lexLt_nil_cons (y : Int) (ys : List Int) : lexLt [] (y :: ys) = true := rfl
theorem lexLt_cons_nil (x : Int) (xs : List Int) : lexLt (x :: xs) [] = false := rfl

theorem eqAt_int (A : Around) (s : Shared) (a : Int) (t : Tok) (c : Int) (u : Tok) : ∃ e, SeqAt.EqAt A s (.int a t) (.int c u) e ∧ (e = true ↔ a = c) :=
  ⟨(a == c), SeqAt.EqAt.int_int a t c u, by simp⟩
theorem rcLt_int (A : Around) (s : Shared) (a : Int) (t : Tok) (c : Int) (u : Tok) (prog : Program) (w : World) (E : Value → Shared → Prop) (Q : Value → Shared → Prop) (h : Q (.bool (decide (a < c))) s) :
    wpAny (model prog w) A (richCompare .Lt (.int a t) (.int c u)) Q E s :=
  (PyProof.Rows.lt_int h : wpAny (model prog w) A (compareOp .Lt (.int a t) (.int c u)) Q E s)

section
open PySem.SeqAt
open PySem.AutoSeq1 (wpAny_loadPart')
open PySem.MeetsSeq PySem.MeetsSeq2 PySem.MeetsSeq3

theorem tuple_lt_ints (l b : Addr) (items items2 : Array Value) (n n2 : Nat) (dd dd2 : Option Addr) (sl sl2 : Array (Option Value)) (ns ms : List Int) (hi : IntsAre items.toList ns) (hj : IntsAre items2.toList ms) :
    Meets (Builtin.«tuple.__lt__» ⟨[.ref l, .ref b], []⟩)
      (fun _ R s => s.heap.get? l = some { cls := .type "tuple", dict := dd, data := .seq items n, slots := sl } ∧ s.heap.get? b = some { cls := .type "tuple", dict := dd2, data := .seq items2 n2, slots := sl2 } ∧
        R (.ok (.ret (.bool (lexLt ns ms)))) s) :=
  .of_wp fun prog w A R s h => by
    obtain ⟨hp, g, d, tk, os⟩ := s; obtain ⟨hl, hb, h⟩ := h
    have f2 := AutoSeq1.sub_tuple_tuple
    have z1 : items.size = ns.length := by rw [← hi.length]; simp
    have z2 : items2.size = ms.length := by rw [← hj.length]; simp
    wp_walk using wpAny_loadPart' hl, wpAny_loadPart' hb, wpAny_forIn_list _ (fun rest b s' => b.1 = none ∧ s' = ⟨hp, g, d, tk, os⟩ ∧ ∃ (vs ws : List Value) (ns' ms' : List Int), rest = vs.zip ws ∧
      IntsAre vs ns' ∧ IntsAre ws ms' ∧ ns'.length + items2.size = ms'.length + items.size ∧ R (.ok (.ret (.bool (lexLt ns' ms')))) ⟨hp, g, d, tk, os⟩) _
    case turn =>
      rintro ⟨y, x⟩ rest b s' ⟨hb', rfl, vs, ws, ns', ms', hz, hvi, hwi, hlen, hR⟩
      cases hvi with
      | nil => rw [List.zip_nil_left] at hz; cases hz
      | cons a t hvi' =>
        cases hwi with
        | nil => rw [List.zip_nil_right] at hz; cases hz
        | cons c u hwi' =>
          rw [List.zip_cons_cons] at hz
          injection hz with hyx hrest
          injection hyx with hy hx
          subst hy hx
          rw [lexLt_cons] at hR
          simp only [List.length_cons] at hlen
          obtain ⟨e, he, hiff⟩ := eqAt_int A.in1 ⟨hp, g, d, tk, os⟩ a t c u
          refine wpAny_bind (he prog w _ _ ?_)
          cases e with
          | true =>
            rw [if_pos (hiff.mp rfl)] at hR
            wp_walk
            exact ⟨rfl, rfl, _, _, _, _, hrest, hvi', hwi', by omega, hR⟩
          | false =>
            rw [if_neg (fun q => absurd (hiff.mpr q) Bool.false_ne_true)] at hR
            have hri := rcLt_int A.in1 ⟨hp, g, d, tk, os⟩ a t c u prog w
            wp_walk using hri
            exact ⟨_, rfl, by simpa using hR⟩
    case fin =>
      rintro ⟨b1, b2⟩ s' ⟨hb', rfl, vs, ws, ns', ms', hz, hvi, hwi, hlen, hR⟩
      simp only at hb'
      subst hb'
      have hv : lexLt ns' ms' = decide (items.size < items2.size) := by
        cases hvi with
        | nil =>
          cases hwi with
          | nil =>
            simp only [List.length_nil] at hlen
            rw [lexLt_nil_nil]
            exact (decide_eq_false (by omega)).symm
          | cons c u hw =>
            simp only [List.length_nil, List.length_cons] at hlen
            rw [lexLt_nil_cons]
            exact (decide_eq_true (by omega)).symm
        | cons a t hv =>
          cases hwi with
          | nil =>
            simp only [List.length_nil, List.length_cons] at hlen
            rw [lexLt_cons_nil]
            exact (decide_eq_false (by omega)).symm
          | cons c u hw =>
            rw [List.zip_cons_cons] at hz
            cases hz
      rw [hv] at hR
      wp_walk
      exact ⟨_, rfl, by simpa [Builtin.Tuple.tupleCompareSizes] using hR⟩
    case h =>
      exact ⟨rfl, rfl, items.toList, items2.toList, ns, ms, rfl, hi, hj, by omega, h⟩
end

section
variable {prog : Program} {w : World} {A : Around} {E : Value → Shared → Prop} {s : Shared}

theorem lt_tupInts {l b : Addr} {items items2 : Array Value} {ns ms : List Int} {Q : Value → Shared → Prop} (hl : IsTup s.heap l items) (hb : IsTup s.heap b items2) (hi : IntsAre items.toList ns) (hj : IntsAre items2.toList ms)
    (hu : A.units < cLine) (h : Q (.bool (lexLt ns ms)) s) : wpAny (model prog w) A (compareOp .Lt (.ref l) (.ref b)) Q E s := by
  obtain ⟨⟨cls, dd, data, sl⟩, ho, hc, n, hd⟩ := id hl
  obtain ⟨⟨cls2, dd2, data2, sl2⟩, ho2, hc2, n2, hd2⟩ := id hb
  simp only at hc hd hc2 hd2
  subst hc hd hc2 hd2
  exact richCompare_meets_room (op := .Lt) ⟨_, ho, rfl⟩ ⟨_, ho2, rfl⟩ PySem.F.slot_tuple_lt PySem.F.entry_tuple_lt (PySem.F.args_tuple_lt_2 _ _) (tuple_lt_ints l b items items2 n n2 dd dd2 sl sl2 ns ms hi hj)
    ⟨ho, ho2, show Value.bool (lexLt ns ms) ≠ Value.notImplemented ∧ Q (.bool (lexLt ns ms)) s from ⟨(fun x => nomatch x), h⟩⟩ hu

/-- t + u, t not empty -/
theorem cat_tup {t b : Addr} {vs ws : List Value} {Q : Value → Shared → Prop} (ht : IsTup s.heap t vs.toArray) (hb : IsTup s.heap b ws.toArray) (hv : vs ≠ [])
    (h1 : ws = [] → Q (.ref t) s) (h2 : ws ≠ [] → Q (.ref s.heap.objs.size) { s with heap := s.heap.push { cls := .type "tuple", data := .seq (vs ++ ws).toArray } })
    (hsz : vs.length + ws.length ≤ sizeLine) : wpAny (model prog w) A (binaryOp .Add (.ref t) (.ref b)) Q E s := by
  obtain ⟨⟨cls, dd, data, sl⟩, ho, hc, n, hd⟩ := id ht
  obtain ⟨⟨cls2, dd2, data2, sl2⟩, ho2, hc2, n2, hd2⟩ := id hb
  simp only at hc hd hc2 hd2
  subst hc hd hc2 hd2
  have e : vs.toArray ++ ws.toArray = (vs ++ ws).toArray := by simp
  by_cases hw : ws = []
  · exact concat_meets ⟨_, ho, rfl⟩ ⟨_, ho2, rfl⟩ noFill_tuple_add seq_tuple_add PySem.F.slot_tuple_add PySem.F.entry_tuple_add (PySem.F.args_tuple_add_2 _ _)
      (tuple_addW1 t b vs.toArray ws.toArray n n2 dd dd2 sl sl2 (by simpa using hv) (by simp [hw])) ⟨ho, ho2, h1 hw⟩
  · refine concat_meets ⟨_, ho, rfl⟩ ⟨_, ho2, rfl⟩ noFill_tuple_add seq_tuple_add PySem.F.slot_tuple_add PySem.F.entry_tuple_add (PySem.F.args_tuple_add_2 _ _)
      (tuple_addW2 t b vs.toArray ws.toArray n n2 dd dd2 sl sl2 (by simpa using hv) (by simpa using hw) (by rw [List.size_toArray, List.size_toArray]; exact hsz)) ⟨ho, ho2, ?_⟩
    rw [e]
    exact h2 hw

/-! ### t[a:b], not the whole -/
/-- a slice's bound as a place among n (d where it is left out) -/
def sIx (n d : Nat) : Option Int → Nat
  | none => d
  | some v => if v < 0 then (v + (n : Int)).toNat else min v.toNat n
theorem sIx_none (n d : Nat) : sIx n d none = d := rfl
theorem sIx_nat (n d k : Nat) : sIx n d (some (k : Int)) = min k n := by
  show (if (k : Int) < 0 then ((k : Int) + (n : Int)).toNat else min (k : Int).toNat n) = min k n
  rw [if_neg (by omega), Int.toNat_natCast]
theorem sIx_le (n d : Nat) (hd : d ≤ n) (o : Option Int) : sIx n d o ≤ n := by
  cases o with
  | none => exact hd
  | some v =>
    show (if v < 0 then (v + (n : Int)).toNat else min v.toNat n) ≤ n
    by_cases hv : v < 0
    · rw [if_pos hv]; omega
    · rw [if_neg hv]; exact Nat.min_le_right _ _
theorem clip_eq (v : Int) (n d : Nat) : (if v < 0 then max (v + (n : Int)) 0 else min v (n : Int)) = ((sIx n d (some v) : Nat) : Int) := by
  show (if v < 0 then max (v + (n : Int)) 0 else min v (n : Int)) = (((if v < 0 then (v + (n : Int)).toNat else min v.toNat n) : Nat) : Int)
  by_cases hv : v < 0
  · simp only [if_pos hv]; omega
  · simp only [if_neg hv]; omega
theorem adjust_gen (lo hi : Option Int) (n : Nat) : Builtin.Slice.sliceAdjust lo hi 1 (n : Int) = (((sIx n 0 lo : Nat) : Int), ((sIx n n hi : Nat) : Int)) := by
  have h1 : ¬ ((1 : Int) < 0) := by omega
  unfold Builtin.Slice.sliceAdjust
  simp only [h1, if_false]
  refine Prod.ext ?_ ?_
  · cases lo with
    | none => rfl
    | some v => exact clip_eq v n 0
  · cases hi with
    | none => rfl
    | some v => exact clip_eq v n n
theorem places_gen (i j : Nat) : Builtin.Slice.slicePlaces (i : Int) (j : Int) 1 = j - i := by
  unfold Builtin.Slice.slicePlaces
  have h1 : (1 : Int) > 0 := by omega
  simp only [h1, if_true, Int.ediv_one]
  split <;> omega
theorem slicePart_ {v : Value} {o : Option Int} {Q : Option Int → Shared → Prop} (p : IsPart v o) (h : Q o s) : wpAny (model prog w) A (Builtin.Slice.slicePartIndex v) Q E s := by
  cases p with
  | none => exact slicePart_none h
  | int i t => exact slicePart_int h
theorem sliceApplied_gen {sl : Addr} {vl vu : Value} {lo hi : Option Int} {n : Nat} {Q : Int × Int × Nat → Shared → Prop} (hs : s.heap.IsSliceOf sl vl vu .none) (pl : IsPart vl lo) (pu : IsPart vu hi)
    (h : Q (((sIx n 0 lo : Nat) : Int), 1, sIx n n hi - sIx n 0 lo) s) : wpAny (model prog w) A (Builtin.Slice.sliceApplied (.ref sl) (pure (n : Int))) Q E s := by
  obtain ⟨os, hos, hcs, hds⟩ := id hs
  unfold Builtin.Slice.sliceApplied Builtin.Slice.sliceFields
  refine wpAny_bind (wpAny_bind (wpAny_field hos hds (x := vl) rfl (wpAny_bind (wpAny_field hos hds (x := vu) rfl (wpAny_bind (wpAny_field hos hds (x := .none) rfl (wpAny_pure ?_)))))))
  refine wpAny_bind (slicePart_none ?_)
  show wpAny _ _ (if ((1 : Int) == 0) = true then _ else _) _ _ s
  rw [if_neg (by decide)]
  refine wpAny_bind (slicePart_ pl (wpAny_bind (slicePart_ pu (wpAny_bind (wpAny_pure ?_)))))
  show wpAny _ _ (match Builtin.Slice.sliceAdjust lo hi 1 (n : Int) with | (lo, hi) => pure (lo, (1 : Int), Builtin.Slice.slicePlaces lo hi 1)) _ _ s
  rw [adjust_gen lo hi n]
  show wpAny _ _ (pure (((sIx n 0 lo : Nat) : Int), (1 : Int), Builtin.Slice.slicePlaces ((sIx n 0 lo : Nat) : Int) ((sIx n n hi : Nat) : Int) 1)) _ _ s
  rw [places_gen]
  exact wpAny_pure h
theorem pick_gen (xs : Array Value) (i k : Nat) : ((List.range k).filterMap fun (m : Nat) => xs[((i : Int) + (m : Int) * 1).toNat]?).toArray = ((xs.toList.drop i).take k).toArray := by
  have e : (fun (m : Nat) => xs[((i : Int) + (m : Int) * 1).toNat]?) = fun m => xs[i + m]? := by
    funext m
    have : ((i : Int) + (m : Int) * 1).toNat = i + m := by omega
    rw [this]
  rw [e]
  have := pick_run xs i k
  rw [List.filterMap_map] at this
  have e2 : ((fun x => xs[x]?) ∘ fun x => i + x) = fun m => xs[i + m]? := rfl
  rw [e2] at this
  rw [this]

theorem getItem_tuple_cut {t sl : Addr} {items : Array Value} {vl vu : Value} {lo hi : Option Int} {Q : Value → Shared → Prop} (ht : IsTup s.heap t items) (hs : s.heap.IsSliceOf sl vl vu .none) (pl : IsPart vl lo) (pu : IsPart vu hi)
    (hw : ¬ (sIx items.size 0 lo = 0 ∧ sIx items.size items.size hi = items.size))
    (h : Q (.ref s.heap.objs.size) { s with heap := s.heap.push { cls := .type "tuple", data := .seq ((items.toList.drop (sIx items.size 0 lo)).take (sIx items.size items.size hi - sIx items.size 0 lo)).toArray } })
    (hsz : items.size ≤ sizeLine) : wpAny (model prog w) A (getItem (.ref t) (.ref sl)) Q E s := by
  have htake : sizeOk (.seq ((items.toList.drop (sIx items.size 0 lo)).take (sIx items.size items.size hi - sIx items.size 0 lo)).toArray) := by
    show ((items.toList.drop (sIx items.size 0 lo)).take (sIx items.size items.size hi - sIx items.size 0 lo)).toArray.size ≤ sizeLine
    rw [List.size_toArray, List.length_take, List.length_drop, Array.length_toList]
    omega
  have hj : sIx items.size items.size hi ≤ items.size := sIx_le _ _ (Nat.le_refl _) hi
  obtain ⟨os, hos, hcs, hds⟩ := id hs
  have hTs : s.TypeIs (.ref sl) "slice" := ⟨os, hos, hcs⟩
  unfold getItem
  try with_reducible refine wpAny_holding ?_
  first | refine wpAny_bind (wpAny_pure ?_) | skip
  refine wpAny_bind (wpAny_sequenceKey ht.typeIs (by decide) ?_)
  refine wpAny_bind (wpAny_callSpecial?_slot (name := Str.ofString "__getitem__") ht.typeIs PyProof.Rows.slot_tuple_getitem
    (wpAny_call_entry PyProof.Rows.slot_tuple_getitem ht.typeIs entry_tuple_getitem ?_ (args_tuple_getitem _ _)))
  show wpAny _ _ (Builtin.Tuple.tupleItemsOf (.ref t) >>= _) _ _ s
  refine wpAny_bind (tupleItemsOf_ ht ?_)
  refine wpAny_bind (wpAny_typeOf hTs ?_)
  rw [if_pos (by decide)]
  refine wpAny_bind (sliceApplied_gen hs pl pu ?_)
  have hno : ¬ ((((sIx items.size 0 lo : Nat) : Int) == 0 && (1 : Int) == 1 && (sIx items.size items.size hi - sIx items.size 0 lo) == items.size) = true) := by
    intro q
    rw [Bool.and_eq_true, Bool.and_eq_true] at q
    have q1 : ((sIx items.size 0 lo : Nat) : Int) = 0 := eq_of_beq q.1.1
    have q2 : sIx items.size items.size hi - sIx items.size 0 lo = items.size := eq_of_beq q.2
    exact hw ⟨by omega, by omega⟩
  show wpAny _ _ (if (((sIx items.size 0 lo : Nat) : Int) == 0 && (1 : Int) == 1 && (sIx items.size items.size hi - sIx items.size 0 lo) == items.size) = true then _ else _) _ _ s
  rw [if_neg hno, pick_gen]
  first
    | exact wpAny_bind (m := Builtin.Tuple.tupleExact _) (wpAny_newObj_type (wpAny_pure ⟨_, rfl, wpAny_pure h⟩) htake)
    | exact wpAny_bind (m := Builtin.Tuple.tupleExact _) (wpAny_newObj_type (wpAny_bind (wpAny_pure (wpAny_pure ⟨_, rfl, wpAny_pure h⟩))) htake)
    | exact wpAny_bind (wpAny_bind (m := Builtin.Tuple.tupleExact _) (wpAny_newObj_type (wpAny_pure (wpAny_pure ⟨_, rfl, wpAny_pure h⟩)) htake))
    | exact wpAny_bind (wpAny_bind (m := Builtin.Tuple.tupleExact _) (wpAny_newObj_type (wpAny_pure ⟨_, rfl, wpAny_pure h⟩) htake))
end
end HT

namespace L2
open PySem PySem.Spec PyProof.Rows

/-! ### the parts of a slice -/
abbrev TO := St → Hp → (Option Int → Hp → Prop) → Prop
/-- a slice's part (left out, or an int) -/
def PO (X : Cx) (e : Option Expr) (t : TO) : Prop :=
  ∀ (pins : List (Addr × Obj)) (s : Shared) (σ : St) (H : Hp) (Q : Option Int → Hp → Prop), Inv X pins σ H s → t σ H Q →
    wpAny (model X.prog X.w) X.A (evalPart e X.env) (fun u s' => ∃ o H', Inv X pins σ H' s' ∧ IsPart u o ∧ Q o H') X.xe s
def tNoPart : TO := fun _ H Q => Q none H
def tPart (t : TE) : TO := fun σ H Q => t σ H fun x H1 => ∃ i, x = .int i ∧ Q (some i) H1

theorem intsAre_of {ns : List Int} : ∀ {us : List Value}, Vals (ns.map V.int) us → IntsAre us ns := by
  induction ns with
  | nil => intro us r; rw [List.map_nil] at r; cases r; exact .nil
  | cons n ns ih =>
    intro us r
    rw [List.map_cons] at r
    cases r with
    | cons r1 r2 =>
      obtain ⟨t, e⟩ := r1
      subst e
      exact .cons n t (ih r2)

section
variable {X : Cx} {e : Expr} {te : TE} {lo hi : Option Expr} {tl th : TO} {pos p2 : Pos}

theorem po_none : PO X none tNoPart := by
  intro pins s σ H Q I h
  rw [evalPart_none]
  exact wpAny_pure ⟨none, H, I, .none, h⟩
theorem po_some (h : PE X e te) : PO X (some e) (tPart te) := by
  intro pins s σ H Q I hw
  rw [evalPart_some]
  refine thn (h pins s σ H _ I hw) fun u s1 ⟨x, H1, I1, r1, q1⟩ => ?_
  obtain ⟨i, rfl, q⟩ := q1
  obtain ⟨t, rfl⟩ := r1
  exact ⟨some i, H1, I1, .int i t, q⟩

/-- what a slice of a value is, by values: the slice object stands at sl -/
def SlR (X : Cx) (r : V → Option Int → Option Int → Hp → VK → Prop) : Prop :=
  ∀ (pins : List (Addr × Obj)) (s : Shared) (σ : St) (H : Hp) (x : V) (v vl vu : Value) (lo hi : Option Int) (sl : Addr) (Q : VK), Inv X pins σ H s → RelV x v → s.heap.IsSliceOf sl vl vu .none → IsPart vl lo → IsPart vu hi → r x lo hi H Q →
    ∃ T id, typeLookup (.type T) "__getitem__" = pure (some (.builtin id)) ∧ s.TypeIs v T ∧ wpAny (model X.prog X.w) X.A (getItem v (.ref sl)) (EP X pins σ Q) X.xe s
theorem SlR.or {r r' : V → Option Int → Option Int → Hp → VK → Prop} (h : SlR X r) (h' : SlR X r') : SlR X (fun x lo hi H Q => r x lo hi H Q ∨ r' x lo hi H Q) := by
  intro pins s σ H x v vl vu lo hi sl Q I rx hs pl pu q
  rcases q with q | q
  · exact h pins s σ H x v vl vu lo hi sl Q I rx hs pl pu q
  · exact h' pins s σ H x v vl vu lo hi sl Q I rx hs pl pu q
def tSl (r : V → Option Int → Option Int → Hp → VK → Prop) (te : TE) (tl th : TO) : TE := fun σ H Q => te σ H fun x H1 => tl σ H1 fun l H2 => th σ H2 fun u H3 => r x l u H3 Q
/-- a[lo:hi], any a -/
theorem pe_slice {r : V → Option Int → Option Int → Hp → VK → Prop} (hr : SlR X r) (he : PE X e te) (hl : PO X lo tl) (hu : PO X hi th) : PE X (.Subscript e (.Slice lo hi none p2) pos) (tSl r te tl th) := by
  intro pins s σ H Q I h
  refine Subscript_ (thn (he pins s σ H _ I h) fun v s1 ⟨x, H1, I1, r1, q1⟩ => ?_)
  refine wpAny_Slice (thn (hl pins s1 σ H1 _ I1 q1) fun vl s2 ⟨l, H2, I2, pl, q2⟩ => thn (hu pins s2 σ H2 _ I2 q2) fun vu s3 ⟨u, H3, I3, pu, q3⟩ => ?_)
  rw [evalPart_none]
  refine wpAny_pure ?_
  have I4 : Inv X pins σ H3 { s3 with heap := s3.heap.push { cls := .type "slice", data := .fields #[vl, vu, .none] } } := I3.kept (t' := s3.toks) fun b ob q => Heap.get?_push_of_some _ q
  obtain ⟨T, id, hT, ht, hg⟩ := hr pins { s3 with heap := s3.heap.push { cls := .type "slice", data := .fields #[vl, vu, .none] } } σ H3 x v vl vu l u s3.heap.objs.size Q I4 r1 (Heap.IsSliceOf.new ..) pl pu q3
  show wpAny (model X.prog X.w) X.A (subscriptTail e (.Slice lo hi none p2) v (.ref s3.heap.objs.size)) (EP X pins σ Q) X.xe { s3 with heap := s3.heap.push { cls := .type "slice", data := .fields #[vl, vu, .none] } }
  exact tail_any (ops := [.ref s3.heap.objs.size, v]) ht hT hg (by with_unfolding_all rfl)

/-- the items of xs[lo:hi] -/
def cutV (xs : List V) (lo hi : Option Int) : List V := (xs.drop (HT.sIx xs.length 0 lo)).take (HT.sIx xs.length xs.length hi - HT.sIx xs.length 0 lo)
theorem cutV_length (xs : List V) (lo hi : Option Int) : (cutV xs lo hi).length ≤ xs.length := by
  unfold cutV
  rw [List.length_take, List.length_drop]
  omega
/-- t[lo:hi], not the whole of it (the whole would be t itself) -/
def rSlT (K : PySem.W.Frag) : V → Option Int → Option Int → Hp → VK → Prop := fun x lo hi H Q => ∃ a xs, x = .ref a ∧ SqT K H a xs ∧
  ¬ (HT.sIx xs.length 0 lo = 0 ∧ HT.sIx xs.length xs.length hi = xs.length) ∧ ∀ p, H p = none → Q (.ref p) (upd H p (.tup (cutV xs lo hi)))
theorem sl_tup : SlR X (rSlT X.K) := by
  intro pins s σ H x v vl vu lo hi sl Q I rx hs pl pu h
  obtain ⟨a, xs, rfl, hx, hw, q⟩ := h
  cases rx
  obtain ⟨its, r, ht, hz⟩ := I.tuple hx
  have hlen : its.toArray.size = xs.length := by rw [List.size_toArray]; exact r.length.symm
  refine ⟨"tuple", _, PyProof.Rows.slot_tuple_getitem.lookup, ht.typeIs, ?_⟩
  refine HT.getItem_tuple_cut ht hs pl pu (by rw [hlen]; exact hw) ?_ (by rw [hlen]; exact hz)
  rw [hlen]
  refine ⟨.ref s.heap.objs.size, _, I.laid (t' := s.toks) (o := .tup (cutV xs lo hi)) (fun b ob q => Heap.get?_push_of_some _ q) (Nat.le_refl _) ?_, rfl, q _ (I.hok.fresh (Nat.le_refl _))⟩
  exact ⟨Nat.le_trans (cutV_length xs lo hi) hz, _, (r.drop (HT.sIx xs.length 0 lo)).take (HT.sIx xs.length xs.length hi - HT.sIx xs.length 0 lo), IsTup.new _ _⟩

/-! ### t < u, t + u -/
def rLtT (K : PySem.W.Frag) : R2 := fun x y H Q => ∃ a b ns ms, x = .ref a ∧ y = .ref b ∧ SqT K H a (ns.map V.int) ∧ SqT K H b (ms.map V.int) ∧ Q (.bl (HT.lexLt ns ms)) H
theorem op_ltT (hu : X.A.units < cLine) : OpR X (compareOp .Lt) (rLtT X.K) := by
  intro pins s σ H x y v u Q I rx ry h
  obtain ⟨a, b, ns, ms, rfl, rfl, ha, hb, q⟩ := h
  cases rx
  cases ry
  obtain ⟨its, r1, p1, _⟩ := I.tuple ha
  obtain ⟨its2, r2, p2, _⟩ := I.tuple hb
  have i1 : IntsAre its.toArray.toList ns := intsAre_of r1
  have i2 : IntsAre its2.toArray.toList ms := intsAre_of r2
  exact HT.lt_tupInts p1 p2 i1 i2 hu ⟨.bl (HT.lexLt ns ms), H, I, rfl, q⟩
/-- t + u, t not empty: u empty gives t itself -/
def rCatT (K : PySem.W.Frag) : R2 := fun x y H Q => ∃ a b xs ys, x = .ref a ∧ y = .ref b ∧ SqT K H a xs ∧ SqT K H b ys ∧ xs ≠ [] ∧ xs.length + ys.length ≤ sizeLine ∧
  (ys = [] → Q (.ref a) H) ∧ (ys ≠ [] → ∀ p, H p = none → Q (.ref p) (upd H p (.tup (xs ++ ys))))
theorem Vals.nil_iff {xs : List V} {us : List Value} (r : Vals xs us) : us = [] ↔ xs = [] := by
  cases r with
  | nil => simp
  | cons _ _ => simp
theorem op_catT : OpR X (binaryOp .Add) (rCatT X.K) := by
  intro pins s σ H x y v u Q I rx ry h
  obtain ⟨a, b, xs, ys, rfl, rfl, ha, hb, hx, hz, q1, q2⟩ := h
  cases rx
  cases ry
  obtain ⟨its, r1, p1, _⟩ := I.tuple ha
  obtain ⟨its2, r2, p2, _⟩ := I.tuple hb
  refine HT.cat_tup p1 p2 (fun z => hx (r1.nil_iff.mp z)) (fun z => ⟨.ref a, H, I, rfl, q1 (r2.nil_iff.mp z)⟩) (fun z => ?_) (by rw [← r1.length, ← r2.length]; exact hz)
  refine ⟨.ref s.heap.objs.size, _, I.laid (t' := s.toks) (o := .tup (xs ++ ys)) (fun b ob q => Heap.get?_push_of_some _ q) (Nat.le_refl _) ?_, rfl, q2 (fun w => z (r2.nil_iff.mpr w)) _ (I.hok.fresh (Nat.le_refl _))⟩
  exact ⟨by rw [List.length_append]; exact hz, _, r1.append r2, IsTup.new _ _⟩
/-- tuple(t) -/
theorem call_tupleT : CallR X (.type "tuple") (fun xs H Q => ∃ a ys, xs = [.ref a] ∧ SqT X.K H a ys ∧ Q (.ref a) H) := by
  intro pins s σ H xs us Q I r h
  obtain ⟨a, ys, rfl, ha, q⟩ := h
  obtain ⟨u, rfl, ru⟩ := vals1 r
  cases ru
  obtain ⟨its, _, p1, _⟩ := I.tuple ha
  exact call_tuple_same (items := its.toArray) p1 ⟨.ref a, H, I, rfl, q⟩
end
end L2

namespace L2
open PySem PySem.Spec PyProof.Rows

/-! ### places -/
/-- the place that an index of any sign means -/
def ixN (n : Nat) (i : Int) : Option Nat := if 0 ≤ i then (if i < n then some i.toNat else none) else if -(n : Int) ≤ i then some (i + n).toNat else none
def atI {α : Type} (xs : List α) (i : Int) : Option α := (ixN xs.length i).bind fun j => xs[j]?
theorem ixN_seq {n : Nat} {i : Int} {j : Nat} (h : ixN n i = some j) : seqIndex? i n = some j ∧ j < n ∧ -(n : Int) ≤ i ∧ i < n := by
  unfold ixN at h
  by_cases h0 : 0 ≤ i
  · rw [if_pos h0] at h
    by_cases h1 : i < n
    · rw [if_pos h1] at h
      have e : i.toNat = j := Option.some.inj h
      exact ⟨by rw [seqIndex_of h0 h1, e], by omega, by omega, h1⟩
    · rw [if_neg h1] at h; cases h
  · rw [if_neg h0] at h
    by_cases h1 : -(n : Int) ≤ i
    · rw [if_pos h1] at h
      have e : (i + n).toNat = j := Option.some.inj h
      exact ⟨by rw [seqIndex_neg (by omega) h1, e], by omega, h1, by omega⟩
    · rw [if_neg h1] at h; cases h
theorem atI_get {α : Type} {xs : List α} {i : Int} {v : α} (h : atI xs i = some v) : ∃ j, seqIndex? i xs.length = some j ∧ xs[j]? = some v ∧ j < xs.length ∧ -(xs.length : Int) ≤ i ∧ i < xs.length := by
  unfold atI at h
  cases e : ixN xs.length i with
  | none => rw [e] at h; cases h
  | some j =>
    rw [e] at h
    obtain ⟨h1, h2, h3, h4⟩ := ixN_seq e
    exact ⟨j, h1, h, h2, h3, h4⟩
theorem atI_nat {α : Type} {xs : List α} {j : Nat} {v : α} (h : xs[j]? = some v) : atI xs (j : Int) = some v := by
  have hj : j < xs.length := (List.getElem?_eq_some_iff.mp h).1
  have e : ixN xs.length (j : Int) = some j := by
    unfold ixN
    rw [if_pos (by omega), if_pos (by omega)]; simp
  unfold atI; rw [e]; exact h
theorem atI_last {α : Type} (xs : List α) (v : α) : atI (xs ++ [v]) (-1) = some v := by
  have hl : (xs ++ [v]).length = xs.length + 1 := by simp
  have e : ixN (xs ++ [v]).length (-1) = some xs.length := by
    unfold ixN
    rw [hl, if_neg (by decide), if_pos (by omega)]
    congr 1
    omega
  unfold atI
  rw [e]
  show (xs ++ [v])[xs.length]? = some v
  simp

/-! ### what may be subscripted -/
/-- what stands as an index of a plain subscript -/
def PlainIx (b : Expr) : Prop := ∀ o i, subscripted b false o i = operate [o, i] (getItem o i)
/-- a subscript by values -/
def IxR (X : Cx) (r : R2) : Prop :=
  ∀ (value slice : Expr) (pins : List (Addr × Obj)) (s : Shared) (σ : St) (H : Hp) (x y : V) (v u : Value) (Q : VK), Inv X pins σ H s → RelV x v → RelV y u → r x y H Q →
    subscripted slice false v u = operate [v, u] (getItem v u) → wpAny (model X.prog X.w) X.A (subscriptTail value slice v u) (EP X pins σ Q) X.xe s
/-- a call of a builtin's method by values: the receiver, the arguments -/
def MtR (X : Cx) (id : String) (r : V → List V → Hp → VK → Prop) : Prop :=
  ∀ (pins : List (Addr × Obj)) (s : Shared) (σ : St) (H : Hp) (x : V) (xs : List V) (v : Value) (us : List Value) (Q : VK), Inv X pins σ H s → RelV x v → Vals xs us → r x xs H Q →
    wpAny (model X.prog X.w) X.A (call (.builtin id) (v :: us)) (EP X pins σ Q) X.xe s
section
variable {X : Cx} {a b : Expr} {ta tb : TE} {pos : Pos}
theorem IxR.or {r r' : R2} (h : IxR X r) (h' : IxR X r') : IxR X (fun x y H Q => r x y H Q ∨ r' x y H Q) := by
  intro value slice pins s σ H x y v u Q I rx ry q hs
  rcases q with q | q
  · exact h value slice pins s σ H x y v u Q I rx ry q hs
  · exact h' value slice pins s σ H x y v u Q I rx ry q hs
theorem MtR.or {id : String} {r r' : V → List V → Hp → VK → Prop} (h : MtR X id r) (h' : MtR X id r') : MtR X id (fun x xs H Q => r x xs H Q ∨ r' x xs H Q) := by
  intro pins s σ H x xs v us Q I rx rs q
  rcases q with q | q
  · exact h pins s σ H x xs v us Q I rx rs q
  · exact h' pins s σ H x xs v us Q I rx rs q
/-- a[b] -/
theorem pe_ix {r : R2} (hr : IxR X r) (ha : PE X a ta) (hb : PE X b tb) (hs : PlainIx b) : PE X (.Subscript a b pos) (tOp r ta tb) := by
  intro pins s σ H Q I h
  exact Subscript_ (binT ha hb I h fun v u s2 x y H2 I2 rx ry q => hr a b pins s2 σ H2 x y v u Q I2 rx ry q (hs _ _))

def rIxL (K : PySem.W.Frag) : R2 := fun x y H Q => ∃ p xs i v, x = .ref p ∧ y = .int i ∧ SqL K H p xs ∧ atI xs i = some v ∧ Q v H
def rIxT (K : PySem.W.Frag) : R2 := fun x y H Q => ∃ p xs i v, x = .ref p ∧ y = .int i ∧ SqT K H p xs ∧ atI xs i = some v ∧ Q v H
def rIxS : R2 := fun x y H Q => ∃ z i c, x = .str z ∧ y = .int i ∧ z.length ≤ sizeLine ∧ atI z.cps.toList i = some c ∧ Q (.str ⟨#[c]⟩) H
theorem ix_list : IxR X (rIxL X.K) := by
  intro value slice pins s σ H x y v u Q I rx ry h hs
  obtain ⟨p, xs, i, z, rfl, rfl, hq, he, q⟩ := h
  cases rx
  obtain ⟨t, rfl⟩ := ry
  obtain ⟨its, r, pl, hz⟩ := I.list hq
  obtain ⟨j, h1, h2, h3, h4, h5⟩ := atI_get he
  obtain ⟨w, ew, rw'⟩ := r.get h2
  have hl := r.length
  have hn := line63
  have fin : EP X pins σ Q w s := ⟨z, H, I, rw', q⟩
  by_cases h0 : 0 ≤ i
  · have hj : i.toNat = j := by
      rw [seqIndex_of h0 h5] at h1
      exact Option.some.inj h1
    exact item_listR pl.isList h0 (by omega) (by rw [hj]; simpa using ew) fin hs
  · have hj : (i + (its.toArray.size : Int)).toNat = j := by
      rw [seqIndex_neg (by omega) h4] at h1
      rw [List.size_toArray, ← hl]
      exact Option.some.inj h1
    exact subscriptTail_builtinR (x := w) pl.isList.typeIs slot_list_getitem.lookup
      (wpAny_getItem_list_neg (Q := fun r s' => r = w ∧ EP X pins σ Q r s') pl.isList (by omega) (by rw [List.size_toArray] <;> omega) (by omega) (by rw [hj]; simpa using ew) ⟨rfl, fin⟩) hs
theorem ix_tup : IxR X (rIxT X.K) := by
  intro value slice pins s σ H x y v u Q I rx ry h hs
  obtain ⟨p, xs, i, z, rfl, rfl, hq, he, q⟩ := h
  cases rx
  obtain ⟨t, rfl⟩ := ry
  obtain ⟨its, r, pl, hz⟩ := I.tuple hq
  obtain ⟨j, h1, h2, h3, h4, h5⟩ := atI_get he
  obtain ⟨w, ew, rw'⟩ := r.get h2
  have hl := r.length
  have hn := line63
  have fin : EP X pins σ Q w s := ⟨z, H, I, rw', q⟩
  exact subscriptTail_builtinR (x := w) pl.typeIs slot_tuple_getitem.lookup
    (getItem_tuple (j := j) (Q := fun r s' => r = w ∧ EP X pins σ Q r s') pl (by omega) (by omega) (by rw [List.size_toArray, ← hl]; exact h1) (by simpa using ew) ⟨rfl, fin⟩) hs
theorem ix_str : IxR X rIxS := by
  intro value slice pins s σ H x y v u Q I rx ry h hs
  obtain ⟨z, i, c, rfl, rfl, hz, he, q⟩ := h
  obtain ⟨t, rfl⟩ := rx
  obtain ⟨t', rfl⟩ := ry
  obtain ⟨j, h1, h2, h3, h4, h5⟩ := atI_get he
  have hl : z.cps.toList.length = z.length := by simp [Str.length]
  rw [hl] at h1 h4 h5
  have hn := line63
  exact tail_any (typeIs_str s z t) slot_str_getitem.lookup (getItem_str (c := c) (by
    have e1 : decide (i < -(2 ^ 63 : Int)) = false := decide_eq_false (by omega)
    have e2 : decide (i ≥ 2 ^ 63) = false := decide_eq_false (by omega)
    rw [e1, e2, Bool.or_false]) (by rw [h1]; simpa using h2) ⟨.str ⟨#[c]⟩, H, I.tok _, ⟨_, rfl⟩, q⟩) hs
/-- list, tuple or str -/
def rIx (K : PySem.W.Frag) : R2 := fun x y H Q => rIxL K x y H Q ∨ rIxT K x y H Q ∨ rIxS x y H Q
theorem ix_seq : IxR X (rIx X.K) := ix_list.or (ix_tup.or ix_str)

/-! ### xs[i] = v, any sign -/
/-- the list's object behind a store -/
theorem mapSeq_set (its : List Value) (n j : Nat) (u : Value) : Obj.mapSeq (·.setIfInBounds j u) { cls := .type "list", data := .seq its.toArray n } = { cls := .type "list", data := .seq (its.set j u).toArray n } := by
  simp [Obj.mapSeq]
theorem Inv.lst {pins : List (Addr × Obj)} {σ : St} {H : Hp} {s : Shared} {p : Addr} {xs : List V} (I : Inv X pins σ H s) (h : H p = some (.lst xs)) :
    ∃ (its : List Value) (n : Nat), Vals xs its ∧ s.heap.get? p = some { cls := .type "list", data := .seq its.toArray n } ∧ xs.length ≤ sizeLine := by
  obtain ⟨z, its, n, r, e⟩ := I.hok p _ h
  exact ⟨its, n, r, e, z⟩
/-- the list at p is written by an update of its object -/
theorem Inv.lstUpd {pins : List (Addr × Obj)} {σ : St} {H : Hp} {s : Shared} {p : Addr} {xs ys : List V} {its its' : List Value} {n n' : Nat} {f : Obj → Obj} (I : Inv X pins σ H s) (h : H p = some (.lst xs))
    (ho : s.heap.get? p = some { cls := .type "list", data := .seq its.toArray n }) (hf : f { cls := .type "list", data := .seq its.toArray n } = { cls := .type "list", data := .seq its'.toArray n' }) (r : Vals ys its') (hz : ys.length ≤ sizeLine) (t : Nat) :
    Inv X pins σ (upd H p (.lst ys)) { s with heap := s.heap.update p f, toks := t } := by
  have e : (s.heap.update p f).get? p = some { cls := .type "list", data := .seq its'.toArray n' } := by
    rw [Heap.get?_update_self f ho (by rw [hf] <;> rfl), hf]
  refine I.write (x := p) (e := p) (by rw [h]; trivial) (.inl rfl) (fun b u hb q => (Heap.get?_update_other _ _ (Ne.symm hb)).trans q) ⟨_, e⟩ ?_
  exact ⟨hz, its', n', r, e⟩
def rSetL : V → V → V → Hp → (Hp → Prop) → Prop := fun o i v H Q => ∃ p xs k j, o = .ref p ∧ i = .int k ∧ H p = some (.lst xs) ∧ ixN xs.length k = some j ∧ Q (upd H p (.lst (xs.set j v)))
theorem set_list : PSet X rSetL := by
  intro pins s σ H o i v ov iv u Q I ro ri rv h
  obtain ⟨p, xs, k, j, rfl, rfl, hp, hj, q⟩ := h
  cases ro
  obtain ⟨t, rfl⟩ := ri
  obtain ⟨its, n, r, ho, hz⟩ := I.lst hp
  obtain ⟨h1, h2, h3, h4⟩ := ixN_seq hj
  have hl := r.length
  have hn := line63
  have I' : Inv X pins σ (upd H p (.lst (xs.set j v))) { s with heap := s.heap.update p (Obj.mapSeq (·.setIfInBounds j u)) } :=
    I.lstUpd hp ho (mapSeq_set its n j u) (r.set rv j) (by rw [List.length_set]; exact hz) s.toks
  by_cases h0 : 0 ≤ k
  · have hk : k.toNat = j := by
      rw [seqIndex_of h0 h4] at h1
      exact Option.some.inj h1
    exact PySem.W.ki_setAt ho h0 (by omega) (by rw [List.size_toArray, ← hl]; exact h4) (by rw [hk]; exact ⟨_, I', q⟩)
  · have hk : (k + (its.toArray.size : Int)).toNat = j := by
      rw [seqIndex_neg (by omega) h3] at h1
      rw [List.size_toArray, ← hl]
      exact Option.some.inj h1
    exact PySem.W.ki_setBack ho (by omega) (by rw [List.size_toArray, ← hl]; exact h3) (by omega) (by rw [hk]; exact ⟨_, I', q⟩)

/-! ### slices -/
theorem slice_bounds (lo hi : Option Int) (n : Nat) : (sliceBounds lo hi none n).1 = ((HT.sIx n 0 lo : Nat) : Int) ∧ (sliceBounds lo hi none n).2.1 = ((HT.sIx n n hi : Nat) : Int) ∧ (sliceBounds lo hi none n).2.2 = 1 := by
  refine ⟨?_, ?_, rfl⟩
  · cases lo with
    | none => simp [sliceBounds, HT.sIx]
    | some i =>
      simp only [sliceBounds, HT.sIx, Option.getD_none, show (1 : Int) > 0 by decide, if_true]
      by_cases h : i < 0
      · simp only [h, if_true] <;> omega
      · simp only [h, if_false] <;> omega
  · cases hi with
    | none => simp [sliceBounds, HT.sIx]
    | some i =>
      simp only [sliceBounds, HT.sIx, Option.getD_none, show (1 : Int) > 0 by decide, if_true]
      by_cases h : i < 0
      · simp only [h, if_true] <;> omega
      · simp only [h, if_false] <;> omega
theorem slicePick_cut (its : List Value) (lo hi : Option Int) : slicePick its.toArray lo hi none = ((its.drop (HT.sIx its.length 0 lo)).take (HT.sIx its.length its.length hi - HT.sIx its.length 0 lo)).toArray := by
  obtain ⟨h1, h2, h3⟩ := slice_bounds lo hi its.toArray.size
  unfold slicePick
  rw [h1, h2, h3]
  simp only [sliceRange_one, pick_run, List.size_toArray] <;> rfl
/-- xs[lo:hi] of a list: a new list -/
def rSlL (K : PySem.W.Frag) : V → Option Int → Option Int → Hp → VK → Prop := fun x lo hi H Q => ∃ a xs, x = .ref a ∧ SqL K H a xs ∧ ∀ p, H p = none → Q (.ref p) (upd H p (.lst (cutV xs lo hi)))
theorem sl_list : SlR X (rSlL X.K) := by
  intro pins s σ H x v vl vu lo hi sl Q I rx hs pl pu h
  obtain ⟨a, xs, rfl, hx, q⟩ := h
  cases rx
  obtain ⟨its, r, ht, hz⟩ := I.list hx
  have hlen := r.length
  refine ⟨"list", _, slot_list_getitem.lookup, ht.isList.typeIs, ?_⟩
  refine wpAny_getItem_list_slice ht.isList hs pl pu .none (by simp) ?_ (by rw [List.size_toArray] <;> omega)
  rw [slicePick_cut, ← hlen]
  refine ⟨.ref s.heap.objs.size, _, I.laid (t' := s.toks) (o := .lst (cutV xs lo hi)) (fun b ob q => Heap.get?_push_of_some _ q) (Nat.le_refl _) ?_, rfl, q _ (I.hok.fresh (Nat.le_refl _))⟩
  exact ⟨Nat.le_trans (cutV_length xs lo hi) hz, _, 0, (r.drop (HT.sIx xs.length 0 lo)).take (HT.sIx xs.length xs.length hi - HT.sIx xs.length 0 lo), Heap.get?_push_size _ rfl⟩

/-! ### in, not in: flat items -/
def flatV : V → Bool
  | .non => true
  | .bl _ => true
  | .int _ => true
  | .str _ => true
  | _ => false
/-- == of flat values -/
def eqV : V → V → Bool
  | .non, .non => true
  | .bl a, .bl b => a == b
  | .bl a, .int b => (if a then 1 else 0) == b
  | .int a, .bl b => a == (if b then 1 else 0)
  | .int a, .int b => a == b
  | .str a, .str b => a == b
  | _, _ => false
theorem eqAt_V {A : Around} {s : Shared} {y x : V} {u v : Value} (ry : RelV y u) (rx : RelV x v) (fy : flatV y = true) (fx : flatV x = true) : SeqAt.EqAt A s u v (eqV y x) := by
  cases y with
  | non =>
    cases ry
    cases x with
    | non => cases rx; exact SeqAt.EqAt.same _
    | bl b => cases rx; exact SeqAt.EqAt.none_bool b
    | int b => obtain ⟨t, rfl⟩ := rx; exact SeqAt.EqAt.none_int b t
    | str b => obtain ⟨t, rfl⟩ := rx; exact SeqAt.EqAt.none_str b t
    | _ => exact absurd (show false = true from fx) Bool.false_ne_true
  | bl a =>
    cases ry
    cases x with
    | non => cases rx; exact SeqAt.EqAt.bool_none a
    | bl b => cases rx; exact SeqAt.EqAt.bool_bool a b
    | int b => obtain ⟨t, rfl⟩ := rx; exact SeqAt.EqAt.bool_int a b t
    | str b => obtain ⟨t, rfl⟩ := rx; exact SeqAt.EqAt.bool_str a b t
    | _ => exact absurd (show false = true from fx) Bool.false_ne_true
  | int a =>
    obtain ⟨t', rfl⟩ := ry
    cases x with
    | non => cases rx; exact SeqAt.EqAt.int_none a t'
    | bl b => cases rx; exact SeqAt.EqAt.int_bool a t' b
    | int b => obtain ⟨t, rfl⟩ := rx; exact SeqAt.EqAt.int_int a t' b t
    | str b => obtain ⟨t, rfl⟩ := rx; exact SeqAt.EqAt.int_str a t' b t
    | _ => exact absurd (show false = true from fx) Bool.false_ne_true
  | str a =>
    obtain ⟨t', rfl⟩ := ry
    cases x with
    | non => cases rx; exact SeqAt.EqAt.str_none a t'
    | bl b => cases rx; exact SeqAt.EqAt.str_bool a t' b
    | int b => obtain ⟨t, rfl⟩ := rx; exact SeqAt.EqAt.str_int a t' b t
    | str b => obtain ⟨t, rfl⟩ := rx; exact SeqAt.EqAt.str_str a t' b t
    | _ => exact absurd (show false = true from fx) Bool.false_ne_true
  | _ => exact absurd (show false = true from fy) Bool.false_ne_true
/-- the items' answers, read off the values (a value's own answer does not lean on its token) -/
def eqU (x : V) (u : Value) : Bool := match u with
  | .none => eqV .non x
  | .bool b => eqV (.bl b) x
  | .int i _ => eqV (.int i) x
  | .str z _ => eqV (.str z) x
  | _ => false
theorem eqU_of {x y : V} {u : Value} (r : RelV y u) (f : flatV y = true) : eqU x u = eqV y x := by
  cases y with
  | non => cases r; rfl
  | bl b => cases r; rfl
  | int i => obtain ⟨t, rfl⟩ := r; rfl
  | str z => obtain ⟨t, rfl⟩ := r; rfl
  | _ => exact absurd (show false = true from f) Bool.false_ne_true
theorem any_eqU {x : V} : ∀ {xs : List V} {us : List Value}, Vals xs us → xs.all flatV = true → us.any (eqU x) = xs.any fun y => eqV y x
  | _, _, .nil, _ => rfl
  | y :: xs, u :: us, .cons r t, f => by
    rw [List.all_cons, Bool.and_eq_true] at f
    rw [List.any_cons, List.any_cons, eqU_of r f.1, any_eqU t f.2]
theorem mem_eqAt {A : Around} {s : Shared} {x : V} {v : Value} (rx : RelV x v) (fx : flatV x = true) : ∀ {xs : List V} {us : List Value}, Vals xs us → xs.all flatV = true → ∀ u ∈ us, SeqAt.EqAt A s u v (eqU x u)
  | _, _, .nil, _ => fun u hu => by cases hu
  | y :: xs, u :: us, .cons r t, f => fun u' hu => by
    rw [List.all_cons, Bool.and_eq_true] at f
    rcases List.mem_cons.mp hu with rfl | hu
    · rw [eqU_of r f.1]; exact eqAt_V r rx f.1 fx
    · exact mem_eqAt rx fx t f.2 u' hu
def inV (x : V) (xs : List V) : Bool := xs.any fun y => eqV y x
/-- x in a list or tuple of flat items -/
def rIn (K : PySem.W.Frag) (neg : Bool) : R2 := fun x y H Q => ∃ p xs, y = .ref p ∧ (SqL K H p xs ∨ SqT K H p xs) ∧ flatV x = true ∧ xs.all flatV = true ∧ Q (.bl (if neg then !inV x xs else inV x xs)) H
theorem op_in_seq : OpR X (compareOp .In) (rIn X.K false) := by
  intro pins s σ H x y v u Q I rx ry h
  obtain ⟨p, xs, rfl, hq, fx, fs, q⟩ := h
  cases ry
  rcases hq with hq | hq
  · obtain ⟨its, r, pl, hz⟩ := I.list hq
    refine SeqAt.in_listAt (eqU x) pl.isList (fun w hw => mem_eqAt rx fx r fs w (by simpa using hw)) ⟨.bl _, H, I, rfl, ?_⟩
    rw [show its.toArray.any (eqU x) = its.any (eqU x) by simp, any_eqU r fs]
    exact q
  · obtain ⟨its, r, pl, hz⟩ := I.tuple hq
    refine SeqAt.in_tupleAt (eqU x) pl (fun w hw => mem_eqAt rx fx r fs w (by simpa using hw)) ⟨.bl _, H, I, rfl, ?_⟩
    rw [show its.toArray.any (eqU x) = its.any (eqU x) by simp, any_eqU r fs]
    exact q
theorem op_notIn_seq : OpR X (compareOp .NotIn) (rIn X.K true) := by
  intro pins s σ H x y v u Q I rx ry h
  obtain ⟨p, xs, rfl, hq, fx, fs, q⟩ := h
  cases ry
  rcases hq with hq | hq
  · obtain ⟨its, r, pl, hz⟩ := I.list hq
    refine SeqAt.notIn_listAt (eqU x) pl.isList (fun w hw => mem_eqAt rx fx r fs w (by simpa using hw)) ⟨.bl _, H, I, rfl, ?_⟩
    rw [show its.toArray.any (eqU x) = its.any (eqU x) by simp, any_eqU r fs]
    exact q
  · obtain ⟨its, r, pl, hz⟩ := I.tuple hq
    refine SeqAt.notIn_tupleAt (eqU x) pl (fun w hw => mem_eqAt rx fx r fs w (by simpa using hw)) ⟨.bl _, H, I, rfl, ?_⟩
    rw [show its.toArray.any (eqU x) = its.any (eqU x) by simp, any_eqU r fs]
    exact q
theorem op_notIn_str : OpR X (compareOp .NotIn) (fun x y H Q => ∃ i j, x = .str i ∧ y = .str j ∧ Q (.bl (!(!(Builtin.Str.occurrences j i 0 j.length 1).isEmpty))) H) := by
  intro pins s σ H x y v u Q I rx ry h
  obtain ⟨i, j, rfl, rfl, q⟩ := h
  obtain ⟨t, rfl⟩ := rx
  obtain ⟨t', rfl⟩ := ry
  exact notIn_str ⟨.bl _, H, I, rfl, q⟩

/-! ### len, list(x), tuple(x) of any list or tuple that is read -/
theorem call_len_seq : CallR X (.builtin "len") (fun xs H Q => ∃ p ys, xs = [.ref p] ∧ (SqL X.K H p ys ∨ SqT X.K H p ys) ∧ Q (.int ys.length) H) := by
  intro pins s σ H xs us Q I r h
  obtain ⟨p, ys, rfl, hq, q⟩ := h
  obtain ⟨u, rfl, rx⟩ := vals1 r
  cases rx
  have hn := line63
  rcases hq with hq | hq
  · obtain ⟨its, r', pl, hz⟩ := I.list hq
    have hlen := r'.length
    exact Calls.call_len_list pl.isList (by simp only [List.size_toArray] <;> omega) ⟨.int ys.length, H, I.tok _, ⟨s.toks + 1, by rw [List.size_toArray, hlen]⟩, q⟩
  · obtain ⟨its, r', pl, hz⟩ := I.tuple hq
    have hlen := r'.length
    exact len_tuple pl (by simp only [List.size_toArray] <;> omega) ⟨.int ys.length, H, I.tok _, ⟨s.toks + 1, by rw [List.size_toArray, hlen]⟩, q⟩
theorem call_len_str : CallR X (.builtin "len") (fun xs H Q => ∃ z, xs = [.str z] ∧ z.length ≤ sizeLine ∧ Q (.int z.length) H) := by
  intro pins s σ H xs us Q I r h
  obtain ⟨z, rfl, hz, q⟩ := h
  obtain ⟨u, rfl, t, rfl⟩ := vals1 r
  have hn := line63
  exact len_str (by omega) ⟨.int z.length, H, I.tok _, ⟨_, rfl⟩, q⟩
theorem CallR.or {f : Value} {r r' : List V → Hp → VK → Prop} (h : CallR X f r) (h' : CallR X f r') : CallR X f (fun xs H Q => r xs H Q ∨ r' xs H Q) := by
  intro pins s σ H xs us Q I rs q
  rcases q with q | q
  · exact h pins s σ H xs us Q I rs q
  · exact h' pins s σ H xs us Q I rs q
theorem call_list_of : CallR X (.type "list") (fun xs H Q => ∃ p ys, xs = [.ref p] ∧ (SqL X.K H p ys ∨ SqT X.K H p ys) ∧ ∀ l, H l = none → Q (.ref l) (upd H l (.lst ys))) := by
  intro pins s σ H xs us Q I r h
  obtain ⟨p, ys, rfl, hq, q⟩ := h
  obtain ⟨u, rfl, rx⟩ := vals1 r
  cases rx
  have fin : ∀ (its : List Value), Vals ys its → ys.length ≤ sizeLine → ∀ (h' : Heap) (c' : Nat), (∀ b o', s.heap.get? b = some o' → h'.get? b = some o') →
      h'.get? s.heap.objs.size = some { cls := .type "list", dict := none, data := .seq its.toArray c', slots := #[] } → EP X pins σ Q (.ref s.heap.objs.size) { s with heap := h' } := fun its r' hz h' c' kp e =>
    ⟨.ref s.heap.objs.size, _, I.laid (t' := s.toks) kp (Nat.le_refl _) (show ObjOk X.prog X.w _ h' _ (.lst ys) from ⟨hz, its, c', r', e⟩), rfl, q _ (I.hok.fresh (Nat.le_refl _))⟩
  rcases hq with hq | hq
  · obtain ⟨its, r', pl, hz⟩ := I.list hq
    have hlen := r'.length
    obtain ⟨o, ho, hc, n, hd⟩ := pl.isList
    exact call_list_seq p (.inl rfl) ho hc hd (fun h' c' kp e => fin its r' hz h' c' kp e) (by simp only [List.size_toArray] <;> omega)
  · obtain ⟨its, r', pl, hz⟩ := I.tuple hq
    have hlen := r'.length
    obtain ⟨o, ho, hc, n, hd⟩ := pl
    exact call_list_seq p (.inr rfl) ho hc hd (fun h' c' kp e => fin its r' hz h' c' kp e) (by simp only [List.size_toArray] <;> omega)
theorem call_tuple_of : CallR X (.type "tuple") (fun xs H Q => ∃ p ys, xs = [.ref p] ∧ ((SqL X.K H p ys ∧ ∀ l, H l = none → Q (.ref l) (upd H l (.tup ys))) ∨ (SqT X.K H p ys ∧ Q (.ref p) H))) := by
  intro pins s σ H xs us Q I r h
  obtain ⟨p, ys, rfl, h⟩ := h
  obtain ⟨u, rfl, rx⟩ := vals1 r
  cases rx
  rcases h with ⟨hq, q⟩ | ⟨hq, q⟩
  · obtain ⟨its, r', pl, hz⟩ := I.list hq
    have hlen := r'.length
    refine call_tuple_list pl.isList (fun h' kp => ?_) (by simp only [List.size_toArray] <;> omega)
    have I1 : Inv X pins σ H { s with heap := h' } := I.kept (t' := s.toks) kp
    have I2 : Inv X pins σ (upd H h'.objs.size (.tup ys)) { s with heap := h'.push { cls := .type "tuple", data := .seq its.toArray } } :=
      I1.laid (t' := s.toks) (fun b o e => Heap.get?_push_of_some _ e) (Nat.le_refl _) (show ObjOk X.prog X.w _ _ _ (.tup ys) from ⟨hz, its, r', IsTup.new _ _⟩)
    exact ⟨.ref h'.objs.size, _, I2, rfl, q _ (I1.hok.fresh (Nat.le_refl _))⟩
  · obtain ⟨its, r', pl, hz⟩ := I.tuple hq
    exact call_tuple_same pl ⟨.ref p, H, I, rfl, q⟩

/-! ### the call of a builtin's method: o.m(..) -/
/-- the value is of that builtin type -/
def tyV (K : PySem.W.Frag) (T : String) (x : V) (H : Hp) : Prop := match x with
  | .str _ => T = "str"
  | .int _ => T = "int"
  | .ref p => (T = "list" ∧ ∃ xs, SqL K H p xs) ∨ (T = "tuple" ∧ ∃ o, K.lookup p = some o ∧ o.cls = .type "tuple" ∧ o.dict = none) ∨
      (T = "dict" ∧ ((∃ kvs, H p = some (.dK kvs)) ∨ ∃ kvs, H p = some (.dT kvs))) ∨ (T = "set" ∧ ∃ S n, H p = some (.set S n))
  | _ => False
theorem tyV_is {pins : List (Addr × Obj)} {σ : St} {H : Hp} {s : Shared} {T : String} {x : V} {v : Value} (I : Inv X pins σ H s) (r : RelV x v) (ty : tyV X.K T x H) :
    s.TypeIs v T ∧ ∀ a, v = .ref a → ∃ ob, s.heap.get? a = some ob ∧ ob.dict = none := by
  cases x with
  | str z =>
    obtain ⟨t, rfl⟩ := r
    cases (show T = "str" from ty)
    exact ⟨typeIs_str s z t, fun _ e => nomatch e⟩
  | int i =>
    obtain ⟨t, rfl⟩ := r
    cases (show T = "int" from ty)
    exact ⟨typeIs_int s i t, fun _ e => nomatch e⟩
  | ref p =>
    cases r
    rcases ty with ⟨rfl, xs, hq⟩ | ⟨rfl, o, hk, hc, hd⟩ | ⟨rfl, hk⟩ | ⟨rfl, S, n, hk⟩
    · obtain ⟨its, _, pl, _⟩ := I.list hq
      refine ⟨pl.isList.typeIs, fun a e => ?_⟩
      cases e
      obtain ⟨o, n, e, c, hd, _⟩ := pl
      exact ⟨o, e, hd⟩
    · refine ⟨⟨o, I.kIn p o hk, hc⟩, fun a e => ?_⟩
      cases e
      exact ⟨o, I.kIn _ o hk, hd⟩
    · have z : ∃ o, s.heap.get? p = some o ∧ o.ExactDict := by
        rcases hk with ⟨kvs, hk⟩ | ⟨kvs, hk⟩
        · obtain ⟨_, _, _, _, o, _, _, e, ex, _⟩ := I.hok p _ hk
          exact ⟨o, e, ex⟩
        · obtain ⟨_, _, _, _, o, _, _, e, ex, _⟩ := I.hok p _ hk
          exact ⟨o, e, ex⟩
      obtain ⟨o, e, ex⟩ := z
      refine ⟨⟨o, e, ex.1⟩, fun a e2 => ?_⟩
      cases e2
      exact ⟨o, e, ex.2.1⟩
    · obtain ⟨o, _, _, _, e, ex, _⟩ := I.hok p _ hk
      refine ⟨⟨o, e, ex.1⟩, fun a e2 => ?_⟩
      cases e2
      exact ⟨o, e, ex.2.1⟩
  | _ => exact False.elim ty
def tBM0 (K : PySem.W.Frag) (T : String) (r : V → List V → Hp → VK → Prop) (to : TE) : TE := fun σ H Q => to σ H fun x H1 => tyV K T x H1 ∧ r x [] H1 Q
def tBM (K : PySem.W.Frag) (T : String) (r : V → List V → Hp → VK → Prop) (to : TE) (t : TA) : TE := fun σ H Q => to σ H fun x H1 => tyV K T x H1 ∧ t σ H1 fun xs H2 => r x xs H2 Q
variable {o e : Expr} {es : List Expr} {to : TE} {t : TA} {name : Str} {apos cpos : Pos} {T id : String} {r : V → List V → Hp → VK → Prop}
theorem pe_bm0 (pa : PlainAttrs T) (slot : Slot T name id) (hty : typeOf (.builtin id) = pure (.type "method_descriptor")) (hm : MtR X id r) (ho : PE X o to)
    (hbase : attributeBase o name X.env (eval o X.env) = eval o X.env := by rfl) (hline : (apos.endLine == cpos.line) = true := by rfl) : PE X (.Call (.Attribute o name apos) [] [] cpos) (tBM0 X.K T r to) := by
  intro pins s σ H Q I h
  refine wpAny_Call_method0_late hbase hline (thn (ho pins s σ H _ I h) fun v s1 ⟨x, H1, I1, r1, ty, q1⟩ => ?_)
  obtain ⟨h1, h2⟩ := tyV_is I1 r1 ty
  exact ⟨T, id, pa, slot, hty, h1, h2, Calls.callWith_builtin rfl (PySem.evalArgs_none (hm pins s1 σ H1 x [] v [] Q I1 r1 .nil q1))⟩
theorem pe_bm (pa : PlainAttrs T) (slot : Slot T name id) (hty : typeOf (.builtin id) = pure (.type "method_descriptor")) (hm : MtR X id r) (ho : PE X o to) (ha : PA X (e :: es) t)
    (hbase : attributeBase o name X.env (eval o X.env) = eval o X.env := by rfl)
    (hfew : ((backTo cpos (starEach (e :: es) X.env)).all (fun x => !x.1) && (backToKw cpos (keywordEach [] X.env)).all (fun x => x.1.isSome)
      && decide ((e :: es).length + ([] : List Keyword).length + (if ([] : List Keyword).isEmpty then 0 else 1) < 30)) = true := by rfl)
    (hline : (apos.endLine == cpos.line) = true := by rfl) (hs : starEach (e :: es) X.env = (false, eval e X.env) :: starEach es X.env := by rfl) (hplain : (backTo cpos (starEach es X.env)).any (·.1) = false := by rfl) :
    PE X (.Call (.Attribute o name apos) (e :: es) [] cpos) (tBM X.K T r to t) := by
  intro pins s σ H Q I h
  refine wpAny_Call_method_late hbase hfew hline rfl (thn (ho pins s σ H _ I h) fun v s1 ⟨x, H1, I1, r1, ty, q1⟩ => ?_)
  obtain ⟨h1, h2⟩ := tyV_is I1 r1 ty
  refine ⟨T, id, pa, slot, hty, h1, h2, ?_⟩
  have hA := ha cpos pins s1 σ H1 _ I1 q1
  rw [hs] at hA ⊢
  refine Calls.callWith_builtin (by show (false || (backTo cpos (starEach es X.env)).any (·.1)) = false; rw [hplain] <;> rfl) (Calls.evalArgs_plain ?_)
  exact thn hA fun us s2 ⟨vs, H2, I2, r2, q2⟩ => hm pins s2 σ H2 x vs v us Q I2 r1 r2 q2
/- xs.append(e), list.index on a module's tuple .. are MtR facts of 06m -/
end
end L2

namespace L2
open PySem PySem.Spec PyProof.Rows

def MtM (X : Cx) (id : String) (r : V → List V → Hp → VK → Prop) : Prop :=
  ∀ (pins : List (Addr × Obj)) (s : Shared) (σ : St) (H : Hp) (x : V) (xs : List V) (v : Value) (us : List Value) (Q : VK), Inv X pins σ H s → RelV x v → Vals xs us → r x xs H Q →
    wpAny (model X.prog X.w) X.A (call (.builtin id) (v :: us)) (EP X pins σ Q) X.xe s

/-! ### lists of values -/
theorem Vals.one : ∀ {x : V} {us : List Value}, Vals [x] us → ∃ u, us = [u] ∧ RelV x u
  | _, _, .cons r .nil => ⟨_, rfl, r⟩
theorem Vals.two : ∀ {x y : V} {us : List Value}, Vals [x, y] us → ∃ u v, us = [u, v] ∧ RelV x u ∧ RelV y v
  | _, _, _, .cons r (.cons q .nil) => ⟨_, _, rfl, r, q⟩
theorem Vals.zero : ∀ {us : List Value}, Vals [] us → us = []
  | _, .nil => rfl
theorem Vals.dropLast {xs : List V} {us : List Value} (h : Vals xs us) : Vals xs.dropLast us.dropLast := by
  induction h with
  | nil => exact .nil
  | cons r t ih =>
    cases t with
    | nil => exact .nil
    | cons q t' => exact .cons r ih
theorem Vals.eraseIdx : ∀ {xs : List V} {us : List Value} (i : Nat), Vals xs us → Vals (xs.eraseIdx i) (us.eraseIdx i)
  | _, _, _, .nil => .nil
  | _, _, 0, .cons _ t => t
  | _, _, i + 1, .cons r t => .cons r (Vals.eraseIdx i t)
theorem Vals.reverse {xs : List V} {us : List Value} (h : Vals xs us) : Vals xs.reverse us.reverse := by
  induction h with
  | nil => exact .nil
  | cons r t ih => rw [List.reverse_cons, List.reverse_cons]; exact Vals.append ih (.cons r .nil)
theorem Vals.rep {xs : List V} {us : List Value} (h : Vals xs us) : ∀ k : Nat, Vals (List.replicate k xs).flatten (List.replicate k us).flatten
  | 0 => .nil
  | k + 1 => by
    rw [List.replicate_succ, List.replicate_succ, List.flatten_cons, List.flatten_cons]
    exact Vals.append h (Vals.rep h k)
theorem erase_last {α : Type} (l : List α) : l.eraseIdx (l.length - 1) = l.dropLast := by
  induction l with
  | nil => rfl
  | cons a r ih =>
    cases r with
    | nil => rfl
    | cons b r =>
      have e : (a :: b :: r).length - 1 = ((b :: r).length - 1) + 1 := by
        have h1 : (a :: b :: r).length = r.length + 2 := rfl
        have h2 : (b :: r).length = r.length + 1 := rfl
        omega
      rw [e, List.eraseIdx_cons_succ, ih]
      all_goals rfl
theorem len_erase {α : Type} : ∀ (l : List α) (i : Nat), (l.eraseIdx i).length ≤ l.length
  | [], _ => Nat.le_refl _
  | _ :: _, 0 => Nat.le_succ _
  | _ :: r, i + 1 => Nat.succ_le_succ (len_erase r i)
theorem foldl_rep (its : List Value) : ∀ (k : Nat) (acc : List Value),
    List.foldl (fun x1 x2 => x1 ++ x2) acc.toArray (List.replicate k its.toArray) = (acc ++ (List.replicate k its).flatten).toArray
  | 0, acc => by simp
  | k + 1, acc => by
    have e : acc.toArray ++ its.toArray = (acc ++ its).toArray := by simp
    have e2 : (acc ++ its) ++ (List.replicate k its).flatten = acc ++ (List.replicate (k + 1) its).flatten := by
      rw [List.replicate_succ, List.flatten_cons, List.append_assoc]
    rw [← e2, ← foldl_rep its k (acc ++ its), ← e, List.replicate_succ, List.foldl_cons]

section
variable {X : Cx} {pins : List (Addr × Obj)} {σ : St} {H : Hp} {s : Shared} {l b : Addr} {xs ys zs : List V}

/-! ### the two steps: a tracked list is rewritten, a new list is laid -/
theorem Inv.lset {its its' : List Value} {n : Nat} {f : Array Value → Array Value} {t' : Nat} (I : Inv X pins σ H s) (hH : H l = some (.lst xs))
    (e : s.heap.get? l = some { cls := .type "list", data := .seq its.toArray n }) (hf : f its.toArray = its'.toArray) (hv : Vals ys its') (hz : ys.length ≤ sizeLine) :
    Inv X pins σ (upd H l (.lst ys)) { s with heap := s.heap.update l (Obj.mapSeq f), toks := t' } := by
  have q := PySem.IsL.update e f
  rw [hf] at q
  refine I.write (x := l) (e := l) (by rw [hH]; exact trivial) (.inl rfl) (fun b' u hb hu => (Heap.get?_update_other s.heap (Obj.mapSeq f) (Ne.symm hb)).trans hu) ⟨_, q⟩ ?_
  exact ⟨hz, its', _, hv, q⟩
theorem Inv.lnew {its : List Value} {t' : Nat} (I : Inv X pins σ H s) (hv : Vals ys its) (hz : ys.length ≤ sizeLine) :
    Inv X pins σ (upd H s.heap.objs.size (.lst ys)) { s with heap := s.heap.push { cls := .type "list", data := .seq its.toArray }, toks := t' } :=
  I.laid (fun _ _ q => Heap.get?_push_of_some _ q) (Nat.le_refl _) ⟨hz, its, 0, hv, Heap.get?_push_size _ rfl⟩
theorem Inv.fresh (I : Inv X pins σ H s) : H s.heap.objs.size = none := I.hok.fresh (Nat.le_refl _)
theorem Inv.lstM (I : Inv X pins σ H s) (hH : H l = some (.lst xs)) : xs.length ≤ sizeLine ∧ ∃ (its : List Value) (n : Nat), Vals xs its ∧ xs.length = its.length ∧ s.heap.get? l = some { cls := .type "list", data := .seq its.toArray n } := by
  obtain ⟨z, its, n, r, e⟩ := I.hok l _ hH
  exact ⟨z, its, n, r, r.length, e⟩

theorem notLongL {n : Nat} (h : n ≤ sizeLine) : Builtin.List.listTooLong n = false := by
  unfold Builtin.List.listTooLong
  exact decide_eq_false (by omega)
end

section
variable {X : Cx}

/-! ### methods -/
def rAppend : V → List V → Hp → VK → Prop := fun x vs H Q => ∃ l xs y, x = .ref l ∧ vs = [y] ∧ H l = some (.lst xs) ∧ xs.length < sizeLine ∧ Q .non (upd H l (.lst (xs ++ [y])))
theorem mt_append : MtM X "list.append" rAppend := by
  intro pins s σ H x vs v us Q I rx rv h
  obtain ⟨l, xs, y, rfl, rfl, hH, hz, q⟩ := h
  cases rx
  obtain ⟨u, rfl, ru⟩ := rv.one
  obtain ⟨z, its, n, r, hl, e⟩ := I.lstM hH
  refine call_meets F.slot_list_append ⟨_, e, rfl⟩ F.entry_list_append (F.args_list_append_2 _ _) (PySem.list_append l its.toArray n u (by rw [List.size_toArray]; omega)) ⟨e, ?_⟩
  refine ⟨.non, _, I.lset (its' := its ++ [u]) hH e (by simp) (r.append (.cons ru .nil)) ?_, rfl, q⟩
  rw [List.length_append, List.length_singleton]
  omega

def rExtend : V → List V → Hp → VK → Prop := fun x vs H Q => ∃ l b xs zs, x = .ref l ∧ vs = [.ref b] ∧ H l = some (.lst xs) ∧ H b = some (.lst zs) ∧ xs.length + zs.length ≤ sizeLine ∧ Q .non (upd H l (.lst (xs ++ zs)))
theorem mt_extend : MtM X "list.extend" rExtend := by
  intro pins s σ H x vs v us Q I rx rv h
  obtain ⟨l, b, xs, zs, rfl, rfl, hH, hB, hz, q⟩ := h
  cases rx
  obtain ⟨u, rfl, ru⟩ := rv.one
  cases ru
  obtain ⟨z, its, n, r, hl, e⟩ := I.lstM hH
  obtain ⟨z2, its2, n2, r2, hl2, e2⟩ := I.lstM hB
  have hsz : its.toArray.size + its2.toArray.size ≤ sizeLine := by rw [List.size_toArray, List.size_toArray]; omega
  have hlong : ¬ (!its.toArray.isEmpty && Builtin.List.listTooLong (its.toArray.size + its2.toArray.size)) = true := by
    rw [notLongL hsz, Bool.and_false]
    exact Bool.false_ne_true
  refine call_meets F.slot_list_extend ⟨_, e, rfl⟩ F.entry_list_extend (F.args_list_extend_2 _ _)
    (AutoSeq1.list_extend_list_list_0 l its.toArray n b its2.toArray n2 hlong (by rw [List.size_toArray]; omega) (by omega)) ⟨e, e2, ?_⟩
  refine ⟨.non, _, I.lset (its' := its ++ its2) hH e (by simp) (r.append r2) ?_, rfl, q⟩
  rw [List.length_append]
  omega

def rPop : V → List V → Hp → VK → Prop := fun x vs H Q => ∃ l xs y, x = .ref l ∧ vs = [] ∧ H l = some (.lst xs) ∧ xs[xs.length - 1]? = some y ∧ Q y (upd H l (.lst xs.dropLast))
theorem mt_pop : MtM X "list.pop" rPop := by
  intro pins s σ H x vs v us Q I rx rv h
  obtain ⟨l, xs, y, rfl, rfl, hH, hy, q⟩ := h
  cases rx
  have hus := rv.zero
  subst hus
  obtain ⟨z, its, n, r, hl, e⟩ := I.lstM hH
  obtain ⟨u, hu, ru⟩ := r.get hy
  have hy' : its.toArray[its.toArray.size - 1]? = some u := by
    show its.toArray[its.length - 1]? = some u
    rw [← Array.getElem?_toList, ← hl]
    exact hu
  refine call_meets F.slot_list_pop ⟨_, e, rfl⟩ F.entry_list_pop (F.args_list_pop_1 _) (MeetsSeq.list_pop_last l its.toArray n u hy' (by rw [List.size_toArray]; omega)) ⟨e, ?_⟩
  refine ⟨y, _, I.lset (its' := its.dropLast) hH e ?_ r.dropLast ?_, ru, q⟩
  · show its.toArray.eraseIdxIfInBounds (its.toArray.size - 1) = its.dropLast.toArray
    rw [List.size_toArray, List.eraseIdxIfInBounds_toArray, erase_last]
  · rw [List.length_dropLast]
    omega

def rPopAt : V → List V → Hp → VK → Prop := fun x vs H Q => ∃ l xs i k y, x = .ref l ∧ vs = [.int i] ∧ H l = some (.lst xs) ∧ -(2 ^ 63) ≤ i ∧ i < 2 ^ 63 ∧ seqIndex? i xs.length = some k ∧ xs[k]? = some y ∧ Q y (upd H l (.lst (xs.eraseIdx k)))
theorem mt_popAt : MtM X "list.pop" rPopAt := by
  intro pins s σ H x vs v us Q I rx rv h
  obtain ⟨l, xs, i, k, y, rfl, rfl, hH, h1, h2, hk, hy, q⟩ := h
  cases rx
  obtain ⟨u, rfl, ru⟩ := rv.one
  obtain ⟨t, rfl⟩ := ru
  obtain ⟨z, its, n, r, hl, e⟩ := I.lstM hH
  obtain ⟨w, hw, rw'⟩ := r.get hy
  refine call_meets F.slot_list_pop ⟨_, e, rfl⟩ F.entry_list_pop (F.args_list_pop_2 _ _)
    (MeetsSeq.list_pop_at l its.toArray n i t k w (fitsIndex_both h1 h2) (by rw [List.size_toArray, ← hl]; exact hk) (by rw [← Array.getElem?_toList]; exact hw) (by rw [List.size_toArray]; omega)) ⟨e, ?_⟩
  refine ⟨y, _, I.lset (its' := its.eraseIdx k) hH e ?_ (r.eraseIdx k) ?_, rw', q⟩
  · show its.toArray.eraseIdxIfInBounds k = (its.eraseIdx k).toArray
    rw [List.eraseIdxIfInBounds_toArray]
  · have := len_erase xs k
    omega

def rReverse : V → List V → Hp → VK → Prop := fun x vs H Q => ∃ l xs, x = .ref l ∧ vs = [] ∧ H l = some (.lst xs) ∧ Q .non (upd H l (.lst xs.reverse))
theorem mt_reverse : MtM X "list.reverse" rReverse := by
  intro pins s σ H x vs v us Q I rx rv h
  obtain ⟨l, xs, rfl, rfl, hH, q⟩ := h
  cases rx
  have hus := rv.zero
  subst hus
  obtain ⟨z, its, n, r, hl, e⟩ := I.lstM hH
  refine call_meets F.slot_list_reverse ⟨_, e, rfl⟩ F.entry_list_reverse (F.args_list_reverse_1 _) (AutoSeq1.list_reverse_list_0 l its.toArray n (by rw [List.size_toArray]; omega)) ⟨e, ?_⟩
  refine ⟨.non, _, I.lset (its' := its.reverse) hH e (by simp) r.reverse ?_, rfl, q⟩
  rw [List.length_reverse]
  omega

def rClear : V → List V → Hp → VK → Prop := fun x vs H Q => ∃ l xs, x = .ref l ∧ vs = [] ∧ H l = some (.lst xs) ∧ Q .non (upd H l (.lst []))
theorem mt_clear : MtM X "list.clear" rClear := by
  intro pins s σ H x vs v us Q I rx rv h
  obtain ⟨l, xs, rfl, rfl, hH, q⟩ := h
  cases rx
  have hus := rv.zero
  subst hus
  obtain ⟨z, its, n, r, hl, e⟩ := I.lstM hH
  refine call_meets F.slot_list_clear ⟨_, e, rfl⟩ F.entry_list_clear (F.args_list_clear_1 _) (AutoSeq1.list_clear_list_0 l its.toArray n (by rw [List.size_toArray]; omega)) ⟨e, ?_⟩
  exact ⟨.non, _, I.lset (its' := []) (ys := []) hH e rfl .nil (Nat.zero_le _), rfl, q⟩

/-! ### list + list, list += list, list * int -/
def rCat : R2 := fun x y H Q => ∃ l b xs zs, x = .ref l ∧ y = .ref b ∧ H l = some (.lst xs) ∧ H b = some (.lst zs) ∧ xs.length + zs.length ≤ sizeLine ∧ ∀ p, H p = none → Q (.ref p) (upd H p (.lst (xs ++ zs)))
theorem op_cat : OpR X (binaryOp .Add) rCat := by
  intro pins s σ H x y v u Q I rx ry h
  obtain ⟨l, b, xs, zs, rfl, rfl, hH, hB, hz, q⟩ := h
  cases rx
  cases ry
  obtain ⟨z, its, n, r, hl, e⟩ := I.lstM hH
  obtain ⟨z2, its2, n2, r2, hl2, e2⟩ := I.lstM hB
  refine PySem.P.add_list e e2 ?_ (by rw [List.size_toArray, List.size_toArray]; omega)
  have ea : its.toArray ++ its2.toArray = (its ++ its2).toArray := by simp
  rw [ea]
  exact ⟨.ref _, _, I.lnew (t' := s.toks) (r.append r2) (by rw [List.length_append]; omega), rfl, q _ I.fresh⟩
/-- a list times an int (a negative one is nothing) -/
def rRep : R2 := fun x y H Q => ∃ l k xs, x = .ref l ∧ y = .int k ∧ H l = some (.lst xs) ∧ -(2 ^ 63) ≤ k ∧ k < 2 ^ 63 ∧ xs.length * k.toNat ≤ sizeLine ∧
  ∀ p, H p = none → Q (.ref p) (upd H p (.lst (List.replicate k.toNat xs).flatten))
theorem len_rep {α : Type} (xs : List α) (k : Nat) : (List.replicate k xs).flatten.length = k * xs.length := by
  induction k with
  | zero => simp
  | succ k ih => rw [List.replicate_succ, List.flatten_cons, List.length_append, ih, Nat.succ_mul, Nat.add_comm]
theorem op_rep : OpR X (binaryOp .Mult) rRep := by
  intro pins s σ H x y v u Q I rx ry h
  obtain ⟨l, k, xs, rfl, rfl, hH, h1, h2, hz, q⟩ := h
  cases rx
  obtain ⟨t, rfl⟩ := ry
  obtain ⟨z, its, n, r, hl, e⟩ := I.lstM hH
  have hlen : its.toArray.size * k.toNat ≤ sizeLine := by rw [List.size_toArray, ← hl]; exact hz
  have hcap : ¬ its.toArray.size * k.toNat > (2 ^ 63 - 1) / 8 := by
    have : (sizeLine : Nat) ≤ (2 ^ 63 - 1) / 8 := by decide
    omega
  have hfit : ¬ (!Builtin.List.listFitsIndex k) = true := by
    rw [fitsIndex_both h1 h2]
    exact Bool.false_ne_true
  have hlong : ¬ Builtin.List.listTooLong (its.toArray.size * k.toNat) = true := by
    rw [notLongL hlen]
    exact Bool.false_ne_true
  have hnew : List.foldl (fun x1 x2 => x1 ++ x2) #[] (List.replicate (if its.toArray.isEmpty = true then 0 else k.toNat) its.toArray) = (List.replicate k.toNat its).flatten.toArray := by
    have f0 : ∀ m : Nat, List.foldl (fun x1 x2 => x1 ++ x2) #[] (List.replicate m its.toArray) = (List.replicate m its).flatten.toArray := fun m => by
      have := foldl_rep its m []
      rw [List.nil_append] at this
      exact this
    rw [f0]
    cases its with
    | nil => simp
    | cons a r' => rw [if_neg (by simp)]
  refine wpAny_binaryOp_repeat_ref (T := "list") (U := "int") (by decide) ⟨_, e, rfl⟩ (fun s' => typeIs_int s' k t) noFill_list_mul F.fills_int_mul F.slot_int_rmul repeat_list F.slot_int_index.lookup
    (call_meets F.slot_int_rmul (typeIs_int s k t) F.entry_int_rmul (F.args_int_rmul_2 _ _) (int___rmul___int_list k t l its.toArray n)
      ⟨e, rfl, ⟨_, e, rfl⟩, call_meets F.slot_list_mul ⟨_, e, rfl⟩ F.entry_list_mul (F.args_list_mul_2 _ _) (AutoListH.list___mul___list_int_3 l its.toArray n k t hfit hcap hlong) ⟨e, ?_⟩⟩)
  rw [hnew]
  exact ⟨.ref _, _, I.lnew (t' := s.toks) (r.rep k.toNat) (by rw [len_rep, Nat.mul_comm]; exact hz), rfl, q _ I.fresh⟩

/-! ### del xs[i] -/
theorem del_list {pins : List (Addr × Obj)} {s : Shared} {σ : St} {H : Hp} {l : Addr} {xs : List V} {i : Int} {t : Tok} {k : Nat} {Q : Unit → Shared → Prop} (I : Inv X pins σ H s) (hH : H l = some (.lst xs))
    (h1 : -(2 ^ 63) ≤ i) (h2 : i < 2 ^ 63) (hk : seqIndex? i xs.length = some k) (h : ∀ s', Inv X pins σ (upd H l (.lst (xs.eraseIdx k))) s' → Q () s') :
    wpAny (model X.prog X.w) X.A (delItem (.ref l) (.int i t)) Q X.xe s := by
  obtain ⟨z, its, n, r, hl, e⟩ := I.lstM hH
  refine PySem.P.delItem_list (k := k) e (fitsIndex_both h1 h2) (by rw [List.size_toArray, ← hl]; exact hk) (h _ ?_) (by rw [List.size_toArray]; omega)
  refine I.lset (its' := its.eraseIdx k) (t' := s.toks) hH e ?_ (r.eraseIdx k) ?_
  · show its.toArray.eraseIdxIfInBounds k = (its.eraseIdx k).toArray
    rw [List.eraseIdxIfInBounds_toArray]
  · have := len_erase xs k
    omega
end

/-! ### xs[a:b] = ys -/
section
variable {prog : Program} {w : World} {A : Around} {E : Value → Shared → Prop} {s : Shared}
theorem splice_eq (its its2 : List Value) (a c : Nat) : its.toArray.extract 0 a ++ its2.toArray ++ its.toArray.extract c its.toArray.size = (its.take a ++ its2 ++ its.drop c).toArray := by
  apply Array.toList_inj.mp
  first
    | (simp
       exact List.take_of_length_le (by simp))
    | simp [List.take_of_length_le]
    | simp
theorem bounds_run {a c n : Nat} (hac : a ≤ c) (hc : c ≤ n) : sliceBounds (some (a : Int)) (some (c : Int)) none n = ((a : Int), (c : Int), 1) := by
  simp only [sliceBounds, Option.getD_none]
  have h1 : ¬ ((a : Int) < 0) := by omega
  have h2 : ¬ ((c : Int) < 0) := by omega
  simp only [h1, h2, if_false, show (1 : Int) > 0 by decide, if_true]
  congr 1
  · omega
  · congr 1; omega
set_option maxRecDepth 100000 in
/-- list.__setitem__ with a slice of step one and another list -/
theorem setItem_slice {l b sl : Addr} {items new : Array Value} {n n2 : Nat} {vl vu : Value} {a c : Nat} {Q : Unit → Shared → Prop}
    (e : s.heap.get? l = some { cls := .type "list", data := .seq items n }) (e2 : s.heap.get? b = some { cls := .type "list", data := .seq new n2 }) (hne : l ≠ b)
    (hs : s.heap.IsSliceOf sl vl vu .none) (pl : IsPart vl (some (a : Int))) (pu : IsPart vu (some (c : Int))) (hac : a ≤ c) (hc : c ≤ items.size)
    (hsz : items.size + new.size ≤ sizeLine) (h : Q () { s with heap := s.heap.update l (Obj.mapSeq fun xs => xs.extract 0 a ++ new ++ xs.extract c xs.size) }) :
    wpAny (model prog w) A (setItem (.ref l) (.ref sl) (.ref b)) Q E s := by
  have hl : s.heap.IsList l items := PySem.IsL.isList e
  have hb : s.heap.IsList b new := PySem.IsL.isList e2
  obtain ⟨os, hos, hcs, hds⟩ := id hs
  have hTs : s.TypeIs (.ref sl) "slice" := ⟨os, hos, hcs⟩
  have hstep : ¬ ((rawPart none == rawInt 0) = true) := Bool.false_ne_true
  have hsame : Builtin.List.listSameRef (.ref l) (.ref b) = false := by
    unfold Builtin.List.listSameRef
    exact beq_eq_false_iff_ne.mpr hne
  have hmax : (max (a : Int) (c : Int)).toNat = c := by omega
  have hz' : ((fun xs : Array Value => xs.extract 0 a ++ new ++ xs.extract c xs.size) items).size ≤ sizeLine + 1 := by
    simp only [Array.size_append, Array.size_extract]
    omega
  unfold setItem
  try with_reducible refine wpAny_holding ?_
  first | refine wpAny_bind (wpAny_pure ?_) | skip
  refine wpAny_bind (wpAny_sequenceKey hl.typeIs (by decide) ?_)
  refine wpAny_bind (wpAny_callSpecial?_slot (name := Str.ofString "__setitem__") hl.typeIs slot_list_setitem
    (wpAny_call_entry slot_list_setitem hl.typeIs entry_list_setitem ?_ (args_list_setitem _ _ _)))
  show wpAny _ _ (Builtin.List.listSubscript? (.ref sl) >>= _) _ _ s
  refine wpAny_bind ?_
  unfold Builtin.List.listSubscript?
  refine wpAny_bind (wpAny_specialOf hTs slice_no_index ?_)
  simp only [Option.isNone_none, if_true]
  refine wpAny_pure ?_
  show wpAny _ _ (typeOf (.ref sl) >>= _) _ _ s
  refine wpAny_bind (wpAny_typeOf hTs ?_)
  first
    | rw [if_neg (by decide)]
    | refine PySem.W.KFB.if_not (by decide) ?_
  rw [listSliceParts_eq]
  refine wpAny_bind (wpAny_bind (wpAny_field hos hds (x := .none) rfl (wpAny_bind (wpAny_listPart .none ?_))))
  rw [if_neg hstep]
  refine wpAny_bind (wpAny_field hos hds (x := vl) rfl (wpAny_bind (wpAny_listPart pl ?_)))
  refine wpAny_bind (wpAny_field hos hds (x := vu) rfl (wpAny_bind (wpAny_listPart pu (wpAny_pure ?_))))
  first
    | simp only [hsame, Bool.false_eq_true, if_false]
    | refine PySem.W.KFB.if_not hsame ?_
    | (dsimp only
       rw [if_neg (by rw [hsame]; exact Bool.false_ne_true)])
  refine wpAny_bind (m := Builtin.List.listAllItems (.ref b) "must assign iterable to extended slice") ?_
  unfold Builtin.List.listAllItems
  refine wpAny_bind (wpAny_typeOf hb.typeIs ?_)
  first
    | refine PySem.W.KFB.if_so (by decide) ?_
    | rw [if_pos (by decide)]
    | simp only [beq_self_eq_true, Bool.true_or, if_true]
  unfold Builtin.List.listItems
  refine wpAny_bind (wpAny_seqItems e2 rfl (wpAny_pure ?_))
  refine wpAny_bind (wpAny_bind (wpAny_seqItems e rfl (wpAny_pure ?_)))
  refine wpAny_bind (wpAny_of_eq ((sliceIndices_raw (some (a : Int)) (some (c : Int)) none items.size (by simp)).trans (congrArg (pure : Int × Int × Int → Sem (Int × Int × Int)) (bounds_run hac hc))) ?_)
  show wpAny _ _ (if ((1 : Int) == 1) = true then _ else _) _ _ s
  rw [if_pos (by decide)]
  refine wpAny_bind (wpAny_rule ?_)
  first
    | simp only [notLongL hsz, Bool.false_eq_true, if_false]
    | refine PySem.W.KFB.if_not (notLongL hsz) ?_
  first | refine wpAny_bind (wpAny_pure ?_) | skip
  show wpAny _ _ (updateSeq l (fun xs => xs.extract 0 ((a : Int)).toNat ++ new ++ xs.extract (max (a : Int) (c : Int)).toNat xs.size) >>= _) _ _ s
  rw [hmax, Int.toNat_natCast]
  refine wpAny_bind (wpAny_updateSeq (hz := Nat.le_trans (Nat.le_add_right _ _) hsz) (_hz' := hz') e rfl ?_)
  refine wpAny_bind (wpAny_letGo ?_)
  first
    | exact wpAny_bind (wpAny_pure (wpAny_pure ⟨.none, rfl, wpAny_pure h⟩))
    | exact wpAny_pure ⟨.none, rfl, wpAny_pure h⟩
end

section
variable {X : Cx}
/-- xs[a:c] = ys of another list, at the value level: sl is the slice object that was just made -/
theorem set_slice {pins : List (Addr × Obj)} {s : Shared} {σ : St} {H : Hp} {l b sl : Addr} {xs ys : List V} {a c : Int} {vl vu : Value} {Q : Unit → Shared → Prop} (I : Inv X pins σ H s)
    (hH : H l = some (.lst xs)) (hB : H b = some (.lst ys)) (hne : l ≠ b) (hs : s.heap.IsSliceOf sl vl vu .none) (ra : RelV (.int a) vl) (rc : RelV (.int c) vu) (h0 : 0 ≤ a) (hac : a ≤ c) (hc : c ≤ xs.length)
    (hz : xs.length + ys.length ≤ sizeLine) (h : ∀ s', Inv X pins σ (upd H l (.lst (xs.take a.toNat ++ ys ++ xs.drop c.toNat))) s' → Q () s') :
    wpAny (model X.prog X.w) X.A (setItem (.ref l) (.ref sl) (.ref b)) Q X.xe s := by
  obtain ⟨ta, rfl⟩ := ra
  obtain ⟨tc, rfl⟩ := rc
  obtain ⟨z, its, n, r, hl, e⟩ := I.lstM hH
  obtain ⟨z2, its2, n2, r2, hl2, e2⟩ := I.lstM hB
  obtain ⟨a', rfl⟩ := Int.eq_ofNat_of_zero_le h0
  obtain ⟨c', rfl⟩ := Int.eq_ofNat_of_zero_le (Int.le_trans h0 hac)
  simp only [Int.toNat_natCast] at h
  refine setItem_slice (a := a') (c := c') e e2 hne hs (.int _ _) (.int _ _) (by omega) (by rw [List.size_toArray]; omega) (by rw [List.size_toArray, List.size_toArray]; omega) (h _ ?_)
  refine I.lset (its' := its.take a' ++ its2 ++ its.drop c') (t' := s.toks) hH e ?_ (Vals.append (Vals.append (r.take _) r2) (r.drop _)) ?_
  · exact splice_eq its its2 a' c'
  · rw [List.length_append, List.length_append, List.length_take, List.length_drop]
    omega
end
end L2

namespace Att
open PySem PySem.W PySem.Calls PyProof.Rows

/-! ### the script -/
theorem ints_of_wellAll {P : Params} {h : Heap} : ∀ (ns : List Int) (vs : List Value), WellAll P h vs (ns.map WData.int) → IntsAre vs ns := by
  intro ns
  induction ns with
  | nil =>
    intro vs w
    rw [List.map_nil] at w
    cases w
    exact .nil
  | cons n ns ih =>
    intro vs w
    rw [List.map_cons] at w
    cases w with
    | cons a b =>
      cases a
      exact .cons _ _ (ih _ b)

theorem script_of {l : OpenLaw} {n : Nat} (hn : l.most = some n) {P : Params} {h : Heap} {args : List WData} {vals : List Value}
    (hpre : l.row.toRowW.claim.pre args = true) (hwl : WellAll P h vals args) :
    ∃ a vs ns, vals = [Value.ref a] ∧ args = [WData.list (ns.map WData.int)] ∧ h.get? a = some { cls := .type "list", data := .seq vs.toArray } ∧ IntsAre vs ns ∧ ns.length ≤ n := by
  have hsh : WShape.hasAll [] args [.list .int] = true := (pre_splitW hpre).1
  have hc : l.pre.holds [] { args := args } = true := (pre_splitW hpre).2
  obtain ⟨d, r, rfl, h1, h2⟩ := hasAllW_cons hsh
  obtain rfl := hasAllW_nil h2
  obtain ⟨xs, rfl, h3⟩ := hasW_list h1
  obtain ⟨ns, rfl⟩ := items_int h3
  have hlen : ns.length ≤ n := by
    unfold OpenLaw.pre at hc
    have h4 : (WTm.not (.lt (.lit (.int (n : Int))) (.len (.arg 0)))).holds [] { args := [.list (ns.map .int)] } = true := by
      have h4 := (holds_andW hc).1
      rw [hn] at h4
      exact h4
    have h5 := condW_of h4 (w_not (w_lt w_lit (w_len_list (w_arg rfl))))
    rw [List.length_map] at h5
    refine Nat.le_of_not_lt fun q => ?_
    have q' : (n : Int) < ((ns.length : Nat) : Int) := by omega
    first
      | (rw [decide_eq_true q'] at h5; exact absurd h5 (by decide))
      | (simp at h5; omega)
  cases hwl with
  | cons w1 w2 =>
    cases w2
    cases w1 with
    | list ho hall => exact ⟨_, _, ns, rfl, rfl, ho, ints_of_wellAll ns _ hall, hlen⟩

theorem post_true (l : OpenLaw) (args : List WData) : l.row.toRowW.claim.post args (.bool true) args = true :=
  postW_of (r := l.row.toRowW) (X := (true == true))
    (show WShape.has [] (.bool true) .bool = true by first | rfl | decide | simp [WShape.has, WShape.arms, WShape.armsAll])
    (show (WTm.eq .res (.lit (.bool true))).value [] { args := args, res := some (.bool true), after := args } = some (.bool (true == true)) from w_eq_bool (w_res rfl) w_lit) rfl

/-! ### the attachment: holds_open's last premise (the goal 'hc' behind k_head) from a wpAny of the law's body -/
theorem attach {l : OpenLaw} {n : Nat} {q : Program} {loose : List Str} {XP : (Str → Option Value) → Heap → Prop} {YP : World → Heap → Prop} {d : DefRec} {x : Str}
    (hn : l.most = some n) (hdf : d.params.defaults = [])
    (hbind : ∀ pm cd doc v : Value, bindArgs (docDef d.name d.params d.body d.scope pm cd doc) ⟨[v], []⟩ = pure [(x, v)])
    (hx : d.scope.names.lookup x = some .local ∨ d.scope.names.lookup x = some .cell)
    (hk : d.scope.kind = .function) (hco : d.scope.isCoroutine = false) (hgen : d.scope.isGenerator = false)
    (body : ∀ (w : World) (s₀ s₁ s : Shared) (mg mb : Str → Option Value) (fa : Addr) (o : Obj) (pm cd doc : Value) (a : Addr) (vs : List Value) (ns : List Int),
      Ground q loose [] XP w s₀ mg mb s₁.heap → YP w s₁.heap →
      s₁.heap.get? fa = some o → o.data = .func (docDef d.name d.params d.body d.scope pm cd doc) → s₁.heap.CodeRec cd d.name → mg d.name = some (.ref fa) →
      s₁.heap.get? a = some { cls := .type "list", data := .seq vs.toArray } → IntsAre vs ns → ns.length ≤ n →
      s.gens = #[] → s.os = s₁.os →
      Fr s₁.heap s₁.heap.objs.size s.heap (bindL (envOfC d.name d.scope s₁.heap.objs.size fa cd).kindOf [(x, .ref a)] fun _ => none) →
      Cl s₁.heap.objs.size (cellsFrom (s₁.heap.objs.size + 1) d.scope.names []) s.heap (bindC (envOfC d.name d.scope s₁.heap.objs.size fa cd).kindOf [(x, .ref a)] fun _ => none) →
      wpAny (model l.prog w) (callerA.deeper (envOfC d.name d.scope s₁.heap.objs.size fa cd)) (execs d.body (envOfC d.name d.scope s₁.heap.objs.size fa cd))
        (fun f s' => f = .ret (.bool true) ∧ OldK s₁.heap s'.heap ∧ s'.os = s₁.os ∧ AllBare s'.gens) (fun _ _ => False) s) :
    WalkO q loose XP YP l.row.toRowW d [] (fun f vs => PySem.call f vs) := by
  intro w s₀ s₁ mg mb G Y fa o pm cd doc dV kV ho hd hcd hD hmg hg args vals as hpre hlay hrd hwl hlo
  obtain rfl : dV = .none := Dflts.none hD hdf
  obtain rfl : kV = .none := Dflts.noKw hD
  obtain ⟨a, vs, ns, rfl, rfl, hobj, hints, hlen⟩ := script_of hn hpre hwl
  refine enter_call ?_
  refine call_cells_ret (o := o) (by rw [depth_caller]; decide) ho (fd_plain hd) G.T.nolimit hcd (hbind pm cd doc (.ref a)) (fun y hy => ?_) (fun h₁ tk F X => ?_) hco hgen hk
  · obtain rfl : y = (x, Value.ref a) := List.mem_singleton.mp hy
    rcases hx with e | e
    · exact .inl e
    · exact .inr ⟨e, cellsFrom_some _ _ _ (.inl e)⟩
  · refine wpAny_mono (body w s₀ s₁ { s₁ with heap := h₁, toks := tk } mg mb fa o pm cd doc a vs ns G Y ho (fd_plain hd) hcd hmg hobj hints hlen hg rfl F X) (fun f s' hq => ?_) (fun _ _ hq => hq)
    obtain ⟨rfl, h2, h3, h4⟩ := hq
    exact ⟨.inl ⟨.bool true, .bool true, [], rfl, fun _ => rfl, .bool true, post_true l _, fun _ => ⟨List.Pairwise.nil, fun _ hm => (nomatch hm)⟩⟩, h2, h3, h4⟩

/-- the same from a codeAny of the CALL (for a layer whose function contracts speak of calls) -/
theorem attach_call {l : OpenLaw} {n : Nat} {q : Program} {loose : List Str} {XP : (Str → Option Value) → Heap → Prop} {YP : World → Heap → Prop} {d : DefRec}
    (hn : l.most = some n) (hdf : d.params.defaults = [])
    (call : ∀ (w : World) (s₀ s₁ : Shared) (mg mb : Str → Option Value) (fa : Addr) (o : Obj) (pm cd doc : Value) (a : Addr) (vs : List Value) (ns : List Int),
      Ground q loose [] XP w s₀ mg mb s₁.heap → YP w s₁.heap →
      s₁.heap.get? fa = some o → o.data = .func (docDef d.name d.params d.body d.scope pm cd doc) → s₁.heap.CodeRec cd d.name → mg d.name = some (.ref fa) →
      s₁.heap.get? a = some { cls := .type "list", data := .seq vs.toArray } → IntsAre vs ns → ns.length ≤ n → s₁.gens = #[] →
      codeAny (model l.prog w) callerA (.call (.ref fa) ⟨[.ref a], []⟩) (fun r s' => r = .ok (.ret (.bool true)) ∧ OldK s₁.heap s'.heap ∧ s'.os = s₁.os ∧ AllBare s'.gens) s₁) :
    WalkO q loose XP YP l.row.toRowW d [] (fun f vs => PySem.call f vs) := by
  intro w s₀ s₁ mg mb G Y fa o pm cd doc dV kV ho hd hcd hD hmg hg args vals as hpre hlay hrd hwl hlo
  obtain rfl : dV = .none := Dflts.none hD hdf
  obtain rfl : kV = .none := Dflts.noKw hD
  obtain ⟨a, vs, ns, rfl, rfl, hobj, hints, hlen⟩ := script_of hn hpre hwl
  refine enter_call (codeAny_mono (call w s₀ s₁ mg mb fa o pm cd doc a vs ns G Y ho (fd_plain hd) hcd hmg hobj hints hlen hg) fun r s' hq => ?_)
  obtain ⟨rfl, h2, h3, h4⟩ := hq
  exact ⟨.inl ⟨.bool true, .bool true, [], rfl, fun _ => rfl, .bool true, post_true l _, fun _ => ⟨List.Pairwise.nil, fun _ hm => (nomatch hm)⟩⟩, h2, h3, h4⟩

/-- the same where the top left finished generators (o_head chose holds_openN): nothing may have changed at all and no generator may be left -/
theorem attachN {l : OpenLaw} {n : Nat} {q : Program} {loose : List Str} {XP : (Str → Option Value) → Heap → Prop} {YP : World → Heap → Prop} {d : DefRec} {x : Str}
    (hn : l.most = some n) (hdf : d.params.defaults = [])
    (hbind : ∀ pm cd doc v : Value, bindArgs (docDef d.name d.params d.body d.scope pm cd doc) ⟨[v], []⟩ = pure [(x, v)])
    (hx : d.scope.names.lookup x = some .local ∨ d.scope.names.lookup x = some .cell)
    (hk : d.scope.kind = .function) (hco : d.scope.isCoroutine = false) (hgen : d.scope.isGenerator = false)
    (body : ∀ (w : World) (s₀ s₁ s : Shared) (mg mb : Str → Option Value) (fa : Addr) (o : Obj) (pm cd doc : Value) (a : Addr) (vs : List Value) (ns : List Int),
      Ground q loose [] XP w s₀ mg mb s₁.heap → YP w s₁.heap →
      s₁.heap.get? fa = some o → o.data = .func (docDef d.name d.params d.body d.scope pm cd doc) → s₁.heap.CodeRec cd d.name → mg d.name = some (.ref fa) →
      s₁.heap.get? a = some { cls := .type "list", data := .seq vs.toArray } → IntsAre vs ns → ns.length ≤ n →
      s.gens = #[] → s.os = s₁.os →
      Fr s₁.heap s₁.heap.objs.size s.heap (bindL (envOfC d.name d.scope s₁.heap.objs.size fa cd).kindOf [(x, .ref a)] fun _ => none) →
      Cl s₁.heap.objs.size (cellsFrom (s₁.heap.objs.size + 1) d.scope.names []) s.heap (bindC (envOfC d.name d.scope s₁.heap.objs.size fa cd).kindOf [(x, .ref a)] fun _ => none) →
      wpAny (model l.prog w) (callerA.deeper (envOfC d.name d.scope s₁.heap.objs.size fa cd)) (execs d.body (envOfC d.name d.scope s₁.heap.objs.size fa cd))
        (fun f s' => f = .ret (.bool true) ∧ (∀ b o, s₁.heap.get? b = some o → s'.heap.get? b = some o) ∧ s'.os = s₁.os ∧ s'.gens = #[]) (fun _ _ => False) s) :
    WalkN q loose XP YP l.row.toRowW d [] (fun f vs => PySem.call f vs) := by
  intro w s₀ s₁ mg mb G Y fa o pm cd doc dV kV ho hd hcd hD hmg hg args vals as hpre hlay hrd hwl hlo
  obtain rfl : dV = .none := Dflts.none hD hdf
  obtain rfl : kV = .none := Dflts.noKw hD
  obtain ⟨a, vs, ns, rfl, rfl, hobj, hints, hlen⟩ := script_of hn hpre hwl
  refine enter_callW ?_
  refine call_cells_ret (o := o) (by rw [depth_caller]; decide) ho (fd_plain hd) G.T.nolimit hcd (hbind pm cd doc (.ref a)) (fun y hy => ?_) (fun h₁ tk F X => ?_) hco hgen hk
  · obtain rfl : y = (x, Value.ref a) := List.mem_singleton.mp hy
    rcases hx with e | e
    · exact .inl e
    · exact .inr ⟨e, cellsFrom_some _ _ _ (.inl e)⟩
  · refine wpAny_mono (body w s₀ s₁ { s₁ with heap := h₁, toks := tk } mg mb fa o pm cd doc a vs ns G Y ho (fd_plain hd) hcd hmg hobj hints hlen hg rfl F X) (fun f s' hq => ?_) (fun _ _ hq => hq)
    obtain ⟨rfl, h2, h3, h4⟩ := hq
    exact ⟨.inl ⟨.bool true, .bool true, [], rfl, fun _ => rfl, .bool true, post_true l _, fun _ => ⟨List.Pairwise.nil, fun _ hm => (nomatch hm)⟩⟩, h2, h3, h4⟩

/-! ### rules over ANY heap (no ledger) from facts about the written part K: the library's own take a ledger (News) for what they write -/
section
variable {prog : Program} {w : World} {A : Around} {E : Value → Shared → Prop} {s : Shared} {K : Frag}

/-- a def of the module, or a method (qual 'C.m'), entered: the frame is the next address; cells behind it -/
theorem call_fn {R : Result → Shared → Prop} {name qual : Str} {params : Arguments} {body : List Stmt} {scope : Scope} {dV kV doc pm cdv ct oc : Value} {an od : Option Addr} {osl : Array (Option Value)} {f : Addr} {args : Args} {binds : List (Str × Value)}
    (X : K.In s.heap) (hlim : s.heap.NoLimit) (ho : K.lookup f = some ⟨oc, od, .func (fnOf name qual params body scope dV kV doc pm an cdv ct), osl⟩) (hcd : codeIn K cdv qual = true) (hroom : A.depth < recursionLimit)
    (hbind : BindsTo s (fnOf name qual params body scope dV kV doc pm an cdv ct) args binds)
    (hkind : (binds.all fun y => scope.names.lookup y.1 == some .local || scope.names.lookup y.1 == some .cell) = true)
    (h : ∀ s₁, InCallC s s.heap.objs.size (bindL (envOfC qual scope s.heap.objs.size f cdv).kindOf binds fun _ => none) (cellsFrom (s.heap.objs.size + 1) scope.names [])
        (bindC (envOfC qual scope s.heap.objs.size f cdv).kindOf binds fun _ => none) s₁ →
      wpAny (model prog w) (A.deeper (envOfC qual scope s.heap.objs.size f cdv)) (execs body (envOfC qual scope s.heap.objs.size f cdv))
        (fun fl s' => R (.ok (.ret (match fl with | .ret v => v | _ => .none))) s')
        (fun e s' => wpAny (model prog w) (A.deeper (envOfC qual scope s.heap.objs.size f cdv)) (leaving (envOfC qual scope s.heap.objs.size f cdv) e) (fun _ s'' => R (.error e) s'') (fun e' s'' => R (.error e') s'') s') s₁)
    (hco : scope.isCoroutine = false) (hgen : scope.isGenerator = false) (hk : scope.kind = .function) : codeAny (model prog w) A (.call (.ref f) args) R s := by
  refine codeAny_call_function hroom (X _ _ ho) rfl hco hgen rfl (codeRec_of X hcd) (hbind _ _ _ _ ?_)
  refine wpAny_newFunctionEnv_cells hk (kindsX hkind _) fun env he s₁ x => ?_
  subst he
  exact ⟨hlim.keeps x.toInCall.keep, codeAny_func (h s₁ x)⟩

/-- C(..): dict at size, instance at size + 1, then __init__ -/
theorem make_obj {R : Result → Shared → Prop} {C fI : Addr} {rest : List Value} {kw : List (Str × Value)}
    (X : K.In s.heap) (hm : makesIn K C = true) (hi : findIn K (.ref C) "__init__" = some (some (.ref fI))) (hf : isFn K (.ref fI) = true)
    (h : codeAny (model prog w) (A.under (.builtin "type.__call__" ⟨.ref C :: rest, kw⟩)) (.call (.ref fI) ⟨.ref (s.heap.objs.size + 1) :: rest, kw⟩) (InitBack (s.heap.objs.size + 1) R)
      { s with heap := (s.heap.push emptyDict).push (instObj C s.heap.objs.size) }) : codeAny (model prog w) A (.call (.ref C) ⟨rest, kw⟩) R s := by
  obtain ⟨hh, g, d, t, os⟩ := s
  exact make_core (makes_of X hm) (looks_findIn X hi) (fun self => bind_fn X self (beq_iff_eq.mp hf)) (.inl rfl) h

/-- x.name where the instance's dict holds the name and the class does not -/
theorem get_field {x C : Addr} {ox : Obj} {es : List DictEntry} {n : Nat} {name : Str} {expr : Bool} {v : Value} {Q : Value → Shared → Prop}
    (X : K.In s.heap) (I : PySem.W.InstAt s.heap x ox C (some (dictOf es n))) (hg : plainGet K C name = true) (hh : hasDictIn K C = true) (ha : findIn K (.ref C) name = some none)
    (hl : getL name es = some (some v)) (hv : handedIn v = true) (h : Q v { s with toks := s.toks + 1 }) : wpAny (model prog w) A (getAttr (.ref x) name expr) Q E s :=
  get_value X I (plainGet_of hg).1 (findObj_own hh ha rfl hl) hv h

/-- x.m(..): the method found in the class -/
theorem get_method {x C f : Addr} {ox : Obj} {es : List DictEntry} {n : Nat} {name : Str} {pl : Sem Bool} {Q : Value × List Value → Shared → Prop}
    (X : K.In s.heap) (I : PySem.W.InstAt s.heap x ox C (some (dictOf es n))) (hg : plainGet K C name = true) (hf : findIn K (.ref C) name = some (some (.ref f))) (ht : isFn K (.ref f) = true)
    (hl : getL name es = some none) (h : Q (.ref f, [.ref x]) s) : wpAny (model prog w) A (getMethod (.ref x) name pl) Q E s :=
  method_fn X I (plainGet_of hg).1 (plainGet_of hg).2 hf (beq_iff_eq.mp ht) (by show (lookIn name (dictOf es n)).map _ = _; rw [lookIn_dict, hl]; rfl) h

/-! the whole heap as the ledger: makes every rule that writes through a ledger a rule over any heap -/
def noObjs (h : Heap) : Heap := { h with objs := #[] }
theorem noObjs_get (h : Heap) (b : Addr) : (noObjs h).get? b = none := by
  cases e : (noObjs h).get? b with
  | none => rfl
  | some o => exact absurd (Heap.lt_size e) (Nat.not_lt_zero _)
def ledger (h : Heap) (L d : Addr) : List (Addr × Obj) := (List.range h.objs.size).filterMap fun a => if a = L ∨ a = d then none else (h.get? a).map fun o => (a, o)
theorem mem_ledger {h : Heap} {L d a : Addr} {o : Obj} : (a, o) ∈ ledger h L d ↔ a ≠ L ∧ a ≠ d ∧ h.get? a = some o := by
  unfold ledger
  rw [List.mem_filterMap]
  constructor
  · rintro ⟨b, _, e⟩
    split at e
    · cases e
    · rename_i hb
      obtain ⟨o', ho, e'⟩ := Option.map_eq_some_iff.mp e
      cases e'
      exact ⟨fun q => hb (.inl q), fun q => hb (.inr q), ho⟩
  · rintro ⟨n1, n2, ho⟩
    refine ⟨a, List.mem_range.mpr (Heap.lt_size ho), ?_⟩
    rw [if_neg (show ¬ (a = L ∨ a = d) from fun q => q.elim n1 n2), ho] <;> rfl
theorem news_ledger {h : Heap} {L d : Addr} {od : Obj} (hne : d ≠ L) (ho : h.get? d = some od) : News (noObjs h) L h ([] ++ (d, od) :: ledger h L d) := by
  rintro ⟨a, o⟩ hp
  rcases List.mem_cons.mp hp with e | hp
  · cases e
    exact ⟨ho, hne, noObjs_get _ _⟩
  · obtain ⟨n1, n2, e⟩ := mem_ledger.mp hp
    exact ⟨e, n1, noObjs_get _ _⟩
theorem fr_all {h : Heap} {L : Addr} {m : Str → Option Value} (n : h.Ns L m) : Fr (noObjs h) L h m :=
  ⟨n, fun b o e => (by rw [noObjs_get] at e; cases e), Nat.zero_le _⟩
/-- Upd of the head entry (for append_K, setItem_K ..) -/
theorem upd_ledger {h : Heap} {L d : Addr} {o o' : Obj} : Upd d o o' ((d, o) :: ledger h L d) ((d, o') :: ledger h L d) :=
  .head fun ⟨_, _⟩ hp => (mem_ledger.mp hp).2.1

/-- x.name = v over any heap: L is any namespace of the heap (the frame's, say): its map stays, its object is not told; all else but the dict stays -/
theorem set_field {x C dx L : Addr} {ox : Obj} {m : Str → Option Value} {es es' : List DictEntry} {n n' : Nat} {name : Str} {v : Value} {Q : Unit → Shared → Prop}
    (X : K.In s.heap) (I : PySem.W.InstAt s.heap x ox C (some (dictOf es n))) (hd : ox.dict = some dx) (hL : s.heap.Ns L m) (hne : dx ≠ L)
    (hs : findIn K (.ref C) "__setattr__" = some (some (.builtin "object.__setattr__"))) (hp : plainOver K C = true) (ht : takerIn K C name = some none) (hh : hasDictIn K C = true) (hl : (getL name es).isSome = true)
    (e : (putL name (PyData.keyHash w.params name) (.str name (s.toks + 1)) v es, putN name es n) = (es', n')) (hz : es'.length ≤ 1000)
    (h : ∀ h' : Heap, h'.Ns L m → h'.get? dx = some (dictOf es' n') → (∀ b o, b ≠ dx → b ≠ L → s.heap.get? b = some o → h'.get? b = some o) → Q () { s with heap := h', toks := s.toks + 2 }) :
    wpAny (model prog w) A (setAttr (.ref x) name v) Q E s := by
  obtain ⟨e1, e2⟩ := Prod.mk.inj e
  have hdx : s.heap.get? dx = some (dictOf es n) := by
    have := I.dict
    rw [hd] at this
    exact this
  refine set_plain X I hs (osa_dict (s := { s with toks := s.toks + 1 }) (h₀ := noObjs s.heap) (L := L) (m := m) (od := dictOf es n) (od' := dictOf es' n') (es := es') (n := n') (pre := []) (post := ledger s.heap L dx)
    (fr_all hL) (news_ledger hne hdx) X I hd hp ht hh hl (fun _ q => nomatch q) (fun ⟨_, _⟩ q => (mem_ledger.mp q).2.1) (by rw [putName_dict, e1, e2]) rfl hz fun h' F' N' => ?_)
  exact h h' F'.ns (N'.get (List.Mem.head _)) fun b o n1 n2 ho => N'.get (List.Mem.tail _ (mem_ledger.mpr ⟨n2, n1, ho⟩))
end
end Att

namespace L2
open PySem PySem.Spec PyProof.Rows

theorem vals_ints : ∀ {vs : List Value} {ns : List Int}, IntsAre vs ns → Vals (ns.map V.int) vs
  | _, _, .nil => .nil
  | _, _, .cons n t h => .cons ⟨t, rfl⟩ (vals_ints h)

/-- nothing is tracked but the script, known to the object (or it is an object of the module) -/
def Only (H : Hp) : Prop := ∀ b, H b = none ∨ ∃ o xs, H b = some (.frz o (.lst xs))

/-- THE HEAD: the law's promise, at the heap behind the top. F, the promise of the law's def, may use that base is part of the heap (so K.In base, base.Ns mainGlobals mg stand in Mod) -/
theorem law_call {P : Program} {w : World} {K : PySem.W.Frag} {mg mb : Str → Option Value} {CX : CXT} {k : Nat} {fa a : Addr} {fd : FuncData} {x : Str} {sp : Sp} {s₁ : Shared} {vs : List Value} {ns : List Int}
    (KX : K.In s₁.heap) (hns : s₁.heap.Ns mainGlobals mg) (hb : s₁.heap.Ns builtinsNs mb) (hbb : ∀ x : Str, x ≠ "__name__" → mb x = bootBuiltins x) (hlim : s₁.heap.NoLimit) (hg : s₁.gens = #[])
    (ha : s₁.heap.get? a = some { cls := .type "list", data := .seq vs.toArray }) (hi : IntsAre vs ns) (hl : ns.length ≤ sizeLine) (hr : Room k callerA)
    (F : ∀ base : Heap, K.In base → base.Ns mainGlobals mg → FnOk P w K mg base CX k fa fd [x] sp) (hbind : ∀ (s : Shared) (u : Value), BindsTo s fd ⟨[u], []⟩ [(x, u)])
    (hsp : ∀ H : Hp, Only H → SqL K H a (ns.map V.int) → sp [.ref a] H (fun v _ => v = .bl true) fun _ _ _ => False)
    (hCX : ∀ H e s', CX [] H s₁ (fun _ _ _ => False) e s' → False) :
    codeAny (model P w) callerA (.call (.ref fa) ⟨[.ref a], []⟩) (fun r s' => r = .ok (.ret (.bool true)) ∧ OldK s₁.heap s'.heap ∧ s'.os = s₁.os ∧ AllBare s'.gens) s₁ := by
  have rv := vals_ints hi
  have lenV := hi.length
  -- from an abstract heap in which nothing but the script may be tracked
  have core : ∀ H : Hp, Only H → SqL K H a (ns.map V.int) → HOk P w H s₁.heap → (∀ b, H b ≠ none → b = a) → (H a ≠ none → K.lookup a = none) →
      codeAny (model P w) callerA (.call (.ref fa) ⟨[.ref a], []⟩) (fun r s' => r = .ok (.ret (.bool true)) ∧ OldK s₁.heap s'.heap ∧ s'.os = s₁.os ∧ AllBare s'.gens) s₁ := by
    intro H hO hS hok hA hK
    have base_of : ∀ {b : Addr} {o : Obj}, s₁.heap.get? b = some o → H b = none → (hidT s₁.heap H).get? b = some o := fun e n => hidT_get e n
    have noA : ∀ {b : Addr} {o : Obj} {es : Array DictEntry} {ep : Nat}, s₁.heap.get? b = some o → o.data = .dict es ep → H b = none := fun {b o es ep} e d => by
      cases q : H b with
      | none => rfl
      | some u =>
        have e' : b = a := hA b (by rw [q]; simp)
        subst e'
        rw [ha] at e; cases e
        have d' : Data.seq vs.toArray _ = Data.dict es ep := d
        cases d'
    have nsK : ∀ {b : Addr} {m : Str → Option Value}, s₁.heap.Ns b m → (hidT s₁.heap H).Ns b m := fun {b m} ⟨o, es, ep, e, d, r⟩ => ⟨o, es, ep, base_of e (noA e d), d, r⟩
    have hKb : K.In (hidT s₁.heap H) := fun b o e => base_of (KX b o e) (by
      cases q : H b with
      | none => rfl
      | some u =>
        have e' : b = a := hA b (by rw [q]; simp)
        subst e'
        rw [hK (by rw [q]; simp)] at e; cases e)
    have hM : Mod K mg (hidT s₁.heap H) := ⟨hKb, nsK hns, ⟨mb, nsK hb, hbb⟩, let ⟨mc, h1, h2⟩ := hlim; ⟨mc, nsK h1, h2⟩⟩
    have e0 : Env0 P w K mg (hidT s₁.heap H) callerA [] s₁ H := ⟨rfl, hM, fun b o e => of_hidT e, Nat.le_of_eq (hidT_size _ _), trivial, fun b hb => absurd (show b ∈ ([] : List Addr) from hb) (by simp), hok, .of_eq hg⟩
    refine codeAny_mono ((F _ hKb (nsK hns)).run callerA [] s₁ H ⟨[.ref a], []⟩ [.ref a] [.ref a] _ _ hr e0 (hbind s₁ (.ref a)) (.cons rfl .nil) (hsp H hO hS)) fun r s' h => ?_
    cases r with
    | error e => exact (hCX H e s' h).elim
    | ok fl =>
      cases fl with
      | next => exact False.elim h
      | brk => exact False.elim h
      | cont => exact False.elim h
      | ret u =>
        obtain ⟨v, H', os, bare, un, hok', r', q⟩ := h
        have q' : v = .bl true := q
        subst q'
        obtain rfl : u = Value.bool true := r'
        refine ⟨rfl, OldK.of_keep fun b o e => ?_, os, bare⟩
        cases q : H b with
        | none => exact un.keep b o e q (by intro z; exact absurd (show b ∈ ([] : List Addr) from z) (by simp)) (by simp)
        | some u =>
          rcases hO b with z | ⟨ob, xs, z⟩
          · rw [q] at z; cases z
          · have z2 := un.frzs b ob _ z
            obtain ⟨e1, _⟩ := hok b _ z
            obtain ⟨e2, _⟩ := hok' b _ z2
            rw [e] at e1; cases e1
            exact e2
  cases hk : K.lookup a with
  | some o =>
    -- the script is one of the module's own objects
    have e := KX a o hk
    rw [ha] at e
    cases e
    refine core (fun _ => none) (fun _ => .inl rfl) (.inr ⟨_, vs.toArray, _, hk, rfl, rfl, rfl, by rw [List.size_toArray, lenV]; exact hl, by simpa using rv⟩) (fun b u z => by have z' : (none : Option HO) = some u := z; cases z') (fun b z => absurd rfl z) fun z => absurd rfl z
  | none =>
    refine core (fun b => if b = a then some (.frz { cls := .type "list", data := .seq vs.toArray } (.lst (ns.map V.int))) else none) (fun b => ?_) (.inl (.inr ⟨{ cls := .type "list", data := .seq vs.toArray }, if_pos rfl⟩)) (fun b u z => ?_) (fun b z => ?_) fun _ => hk
    · by_cases hb : b = a
      · exact .inr ⟨_, _, if_pos hb⟩
      · exact .inl (if_neg hb)
    · by_cases hb : b = a
      · have z' := (if_pos hb).symm.trans z
        cases z'
        subst hb
        exact ⟨ha, by rw [List.length_map]; exact hl, vs, _, rv, ha⟩
      · have z' := (if_neg hb).symm.trans z
        cases z'
    · by_cases hb : b = a
      · exact hb
      · exact absurd (if_neg hb) z
end L2

namespace L2
open PySem PySem.Spec PyProof.Rows

abbrev KOf {K : PySem.W.Frag} {h : Heap} (_ : K.In h) : PySem.W.Frag := K

/-- the goal that k_head leaves (case hc), from the law's promise. F gives the function object fd (K's own) once, then the promise over every base -/
theorem walk_of {l : PySem.W.OpenLaw} {n k : Nat} {q : Program} {loose : List Str} {XP : (Str → Option Value) → Heap → Prop} {YP : World → Heap → Prop} {d : DefRec} {K : Params → PySem.W.Frag} {CX : World → CXT} {sp : World → Sp} {x : Str}
    (hn : l.most = some n) (hn2 : n ≤ sizeLine) (hdf : d.params.defaults = []) (hr : Room k callerA)
    (hY : ∀ (w : World) (h : Heap), YP w h → (K w.params).In h)
    (F : ∀ (w : World) (mg : Str → Option Value) (fa : Addr) (h : Heap), (K w.params).In h → h.Ns mainGlobals mg → mg d.name = some (.ref fa) →
      ∃ fd : FuncData, (∀ (s : Shared) (u : Value), BindsTo s fd ⟨[u], []⟩ [(x, u)]) ∧
        ∀ base : Heap, (K w.params).In base → base.Ns mainGlobals mg → FnOk l.prog w (K w.params) mg base (CX w) k fa fd [x] (sp w))
    (hsp : ∀ (w : World) (H : Hp) (a : Addr) (ns : List Int), ns.length ≤ n → Only H → SqL (K w.params) H a (ns.map V.int) → sp w [.ref a] H (fun v _ => v = .bl true) fun _ _ _ => False)
    (hCX : ∀ (w : World) (H : Hp) (s : Shared) (e : Value) (s' : Shared), CX w [] H s (fun _ _ _ => False) e s' → False) :
    PySem.W.WalkO q loose XP YP l.row.toRowW d [] (fun f vs => PySem.call f vs) := by
  refine Att.attach_call hn hdf fun w s₀ s₁ mg mb fa o pm cd doc a vs ns G Y ho hd hcd hmg hobj hints hlen hg => ?_
  have KX := hY w _ Y
  obtain ⟨fd, hb, hF⟩ := F w mg fa _ KX G.T.g hmg
  exact law_call KX G.T.g G.T.b G.T.builtins G.T.nolimit hg hobj hints (Nat.le_trans hlen hn2) hr hF hb (fun H hO hS => hsp w H a ns hlen hO hS) fun H e s' => hCX w H s₁ e s'
/-- the same where the promise hangs on the written part alone: (sp := My.sp_law), no hole under a binder -/
theorem walk_ofK {l : PySem.W.OpenLaw} {n k : Nat} {q : Program} {loose : List Str} {XP : (Str → Option Value) → Heap → Prop} {YP : World → Heap → Prop} {d : DefRec} {K : Params → PySem.W.Frag} {CX : CXT} {sp : PySem.W.Frag → Sp} {x : Str}
    (hn : l.most = some n) (hn2 : n ≤ sizeLine) (hdf : d.params.defaults = []) (hr : Room k callerA)
    (hY : ∀ (w : World) (h : Heap), YP w h → (K w.params).In h)
    (F : ∀ (w : World) (mg : Str → Option Value) (fa : Addr) (h : Heap), (K w.params).In h → h.Ns mainGlobals mg → mg d.name = some (.ref fa) →
      ∃ fd : FuncData, (∀ (s : Shared) (u : Value), BindsTo s fd ⟨[u], []⟩ [(x, u)]) ∧
        ∀ base : Heap, (K w.params).In base → base.Ns mainGlobals mg → FnOk l.prog w (K w.params) mg base CX k fa fd [x] (sp (K w.params)))
    (hsp : ∀ (K : PySem.W.Frag) (H : Hp) (a : Addr) (ns : List Int), ns.length ≤ n → Only H → SqL K H a (ns.map V.int) → sp K [.ref a] H (fun v _ => v = .bl true) fun _ _ _ => False)
    (hCX : ∀ (H : Hp) (s : Shared) (e : Value) (s' : Shared), CX [] H s (fun _ _ _ => False) e s' → False) :
    PySem.W.WalkO q loose XP YP l.row.toRowW d [] (fun f vs => PySem.call f vs) :=
  walk_of (K := K) (CX := fun _ => CX) (sp := fun w => sp (K w.params)) hn hn2 hdf hr hY F (fun w H a ns h1 h2 h3 => hsp (K w.params) H a ns h1 h2 h3) fun _ H s e s' => hCX H s e s'
end L2

/- THE LAST THEOREM (shape; LID, My.* are yours):
   My.Adr: a structure of the addresses that your layer names (classes, functions); My.Txt K t: a structure (Prop) of the equations over K;
   My.txt_mk : {K} {implicit addresses ..} (e1 : nsIn K mainGlobals "law" = some (some (.ref f))) (e2 : K.lookup f = some ⟨oc, od, .func (fnOf "law" "law" params body scope dV kV doc pm an cdv ct), sl⟩) (e3 : codeIn K cdv "law" = true) .. : ∃ t, My.Txt K t

set_option maxRecDepth 100000 in
set_option maxHeartbeats 0 in
theorem PySem.Challenge.cw_LID_holds : PySem.Challenge.rw_LID.Holds := by
  w_on; o_law; k_head; (case hw => w_witness2)
  k_fill
  refine L2.walk_of (l := PySem.Challenge.rw_LID) (n := 63) (k := 40) (x := "script") (CX := fun w => ..) (sp := fun _ => My.sp_law) rfl (by decide) rfl ⟨rfl, by decide, by decide⟩ (fun w h Y => PySem.W.kIn_of Y) ?F ?S ?C
  case F =>
    intro w mg fa h KX G hmg
    have T : ∃ t, My.Txt (L2.KOf KX) t := by
      dsimp only [L2.KOf]                          -- K must stand as «<heap const> w.params» for k_is
      refine' My.txt_mk ?e1 ?e2 ?e3 ..
      (case e1 => PySem.W.k_is)                    -- in the order: a name -> its address -> its object -> its parts
      (case e2 => PySem.W.k_is)
      ..
    obtain ⟨t, T⟩ := T
    have e0 := hmg.symm.trans (PySem.W.mg_of KX G T.law)
    cases e0                                       -- fa is the law's own address
    exact ⟨_, fun s u => .of_eq rfl, fun base kb nb => My.law_fn T kb nb⟩     -- if «.of_eq rfl» comes too early: refine' ⟨_, ?b, fun base kb nb => My.law_fn T kb nb⟩; exact fun s u => .of_eq rfl
  case S => exact fun w H a ns hl hO hS => ..
  case C => exact ..
(the tactic k_is has no namespace: write k_is) -/

/-! SHORT WORDS over the layer: a def of the text, its body, what a loop and a test want. -/
namespace L2
open PySem PySem.Spec PyProof.Rows

/-! ### the text by places -/
/-- the j-th statement of a class's body -/
def inClass (s : Stmt) (j : Nat) : Stmt := match s with
  | .ClassDef _ _ _ body _ _ _ _ _ _ _ => body.getD j (.Pass ⟨0, 0, 0, 0⟩)
  | _ => .Pass ⟨0, 0, 0, 0⟩
def defArgs (s : Stmt) : Arguments := match s with
  | .FunctionDef _ a _ _ _ _ _ _ _ _ => a
  | _ => { posonlyargs := [], args := [], vararg := none, kwonlyargs := [], kw_defaults := [], kwarg := none, defaults := [] }
def defBody (s : Stmt) : List Stmt := match s with
  | .FunctionDef _ _ b _ _ _ _ _ _ _ => b
  | _ => []
def defScope (s : Stmt) : Scope := match s with
  | .FunctionDef _ _ _ _ _ _ sc _ _ _ => sc
  | _ => { kind := .function, names := [], isGenerator := false, isCoroutine := false }

/-! ### no exception leaves a def -/
abbrev CX0 : CXT := fun _ _ _ _ _ _ => False
abbrev E0 : XK := fun _ _ _ => False
theorem pass0 {X : Cx} : Passes CX0 X E0 := fun _ _ _ _ _ _ _ h => h.elim

/-! ### a def (or method) of the text as it stands behind the top -/
structure Fun (K : PySem.W.Frag) (x qual : Str) (st : Stmt) (f : Addr) (fd : FuncData) : Prop where
  ex : ∃ (oc : Value) (od : Option Addr) (kV doc pm : Value) (an : Option Addr) (cdv ct : Value) (osl : Array (Option Value)),
    fd = PySem.W.fnOf x qual (defArgs st) (defBody st) (defScope st) .none kV doc pm an cdv ct ∧ K.lookup f = some ⟨oc, od, .func fd, osl⟩ ∧ PySem.W.codeIn K cdv qual = true
  kp : PySem.W.keepIn K (.ref f) = true
section
variable {P : Program} {w : World} {K : PySem.W.Frag} {mg : Str → Option Value} {base : Heap}
/-- THE RULE for a def: its body as a term of rules, and the reading of that term -/
theorem Fun.ok {x qual : Str} {st : Stmt} {f : Addr} {fd : FuncData} {N ps : List Str} {k : Nat} {sp : Sp} (F : Fun K x qual st f fd) (S : FnScope N ps (defScope st)) (len : ∀ vs H Q E, sp vs H Q E → vs.length = ps.length)
    (hbody : ∀ (cdv : Value) (A : Around) (outer : List Env) (s : Shared) (H : Hp) (vs : List V) (Q : VK) (E : XK), Room k (A.deeper (envOfC qual (defScope st) s.heap.objs.size f cdv)) → sp vs H Q E →
      ∃ t, PSs (cxOf CX0 P w K mg base N qual (defScope st) f cdv A outer s H E).nox (defBody st) t ∧ t { nx := fun _ H' => Q .non H', rt := Q } (start N vs) H) : FnOk P w K mg base CX0 (k + 1) f fd ps sp := by
  obtain ⟨oc, od, kV, doc, pm, an, cdv, ct, osl, rfl, lk, hcd⟩ := F.ex
  refine fn_of lk hcd S len fun A outer s H vs Q E hr hsp => ?_
  obtain ⟨t, h, q⟩ := hbody cdv A outer s H vs Q E hr hsp
  exact ⟨t, h.nox, q⟩
/-- how its arguments bind (no defaults): h is «fun _ _ _ _ _ _ us hl => match us, hl with | [_, _], _ => rfl», one _ a parameter -/
theorem Fun.binds {x qual : Str} {st : Stmt} {f : Addr} {fd : FuncData} {ps : List Str} (F : Fun K x qual st f fd)
    (h : ∀ (kV doc pm : Value) (an : Option Addr) (cdv ct : Value) (us : List Value), us.length = ps.length → bindArgs (PySem.W.fnOf x qual (defArgs st) (defBody st) (defScope st) .none kV doc pm an cdv ct) ⟨us, []⟩ = pure (ps.zip us)) : Binds K fd ps [] := by
  obtain ⟨oc, od, kV, doc, pm, an, cdv, ct, osl, rfl, lk, hcd⟩ := F.ex
  exact .all (h kV doc pm an cdv ct)
theorem fun_mk {x qual : Str} {st : Stmt} {f : Addr} {oc : Value} {od an : Option Addr} {osl : Array (Option Value)} {kV doc pm cdv ct : Value} (l : K.lookup f = some ⟨oc, od, .func (PySem.W.fnOf x qual (defArgs st) (defBody st) (defScope st) .none kV doc pm an cdv ct), osl⟩)
    (c : PySem.W.codeIn K cdv qual = true) (k : PySem.W.keepIn K (.ref f) = true) : Fun K x qual st f (PySem.W.fnOf x qual (defArgs st) (defBody st) (defScope st) .none kV doc pm an cdv ct) := ⟨⟨oc, od, kV, doc, pm, an, cdv, ct, osl, rfl, l, c⟩, k⟩
end
theorem hu_of {A : Around} {k : Nat} (hr : Room k A) : A.units + 1 < cLine := Nat.lt_of_le_of_lt (Nat.add_le_add_left (by decide : 1 ≤ 64) _) hr.units
theorem small1000 {n : Nat} (h : n ≤ 1000) : n < sizeLine := Nat.lt_of_le_of_lt h (by decide)

/-! ### expressions in short: the name that stands in the i-th slot -/
section
variable {X : Cx}
theorem pv (i : Nat) {x : Str} {pos : Pos} (hN : X.N[i]? = some x := by rfl) (hv : Vis X.env.scope x := by first | exact Or.inl rfl | exact Or.inr (Or.inl rfl) | exact Or.inr (Or.inr rfl)) (hd : (x == ("__debug__" : Str)) = false := by decide)
    (hcd : (x == ("__classdict__" : Str)) = false := by decide) : PE X (.Name x pos) (tVar i) := pe_var hN hv hd hcd
end

/-! ### tests -/
theorem iteF {A B : Prop} (h : B) : if false = true then A else B := by
  rw [if_neg Bool.false_ne_true]
  exact h
theorem iteT {A B : Prop} (h : A) : if true = true then A else B := by
  rw [if_pos rfl]
  exact h
theorem ite2 {c A B : Prop} [Decidable c] (h1 : c → A) (h2 : ¬ c → B) : if c then A else B := by
  by_cases h : c
  · rw [if_pos h]
    exact h1 h
  · rw [if_neg h]
    exact h2 h
theorem iteNS {c A B : Prop} [Decidable c] (hc : c) (h : B) : if (!decide c) = true then A else B := by
  rw [decide_eq_true hc]
  exact iteF h

/-! ### heaps -/
/-- all that was tracked is as it was -/
def Same (H H' : Hp) : Prop := ∀ b o, H b = some o → H' b = some o
theorem Same.refl (H : Hp) : Same H H := fun _ _ h => h
theorem Same.trans {H H1 H2 : Hp} (a : Same H H1) (b : Same H1 H2) : Same H H2 := fun c o h => b c o (a c o h)
theorem Same.free {H H' : Hp} (e : Same H H') {l : Addr} (h : H' l = Option.none) : H l = Option.none := by
  cases q : H l with
  | none => rfl
  | some o =>
    rw [e l o q] at h
    cases h
theorem Same.seq {K : PySem.W.Frag} {H H' : Hp} {a : Addr} {xs : List V} (e : Same H H') (h : SqL K H a xs) : SqL K H' a xs := by
  rcases h with (h | ⟨o, h⟩) | h
  · exact .inl (.inl (e _ _ h))
  · exact .inl (.inr ⟨o, e _ _ h⟩)
  · exact .inr h

end L2
namespace Bs
/-- bounded by a power of two -/
def Bd (n : Nat) (x : Int) : Prop := x.natAbs < 2 ^ n
theorem Bd.mono {m n : Nat} {x : Int} (h : Bd m x) (hn : m ≤ n) : Bd n x := Nat.lt_of_lt_of_le h (Nat.pow_le_pow_right (by decide) hn)
theorem Bd.le {n : Nat} {x y : Int} (h : Bd n x) (hy : y.natAbs ≤ x.natAbs) : Bd n y := Nat.lt_of_le_of_lt hy h
theorem Bd.neg {n : Nat} {x : Int} (h : Bd n x) : Bd n (-x) := by unfold Bd at *; rw [Int.natAbs_neg]; exact h
theorem Bd.add {n : Nat} {x y : Int} (h : Bd n x) (h' : Bd n y) : Bd (n + 1) (x + y) := by
  unfold Bd at *
  have := Int.natAbs_add_le x y
  rw [Nat.pow_succ]
  omega
theorem Bd.sub {n : Nat} {x y : Int} (h : Bd n x) (h' : Bd n y) : Bd (n + 1) (x - y) := by
  rw [Int.sub_eq_add_neg]; exact h.add h'.neg
theorem Bd.mul {m n : Nat} {x y : Int} (h : Bd m x) (h' : Bd n y) : Bd (m + n) (x * y) := by
  unfold Bd at *
  rw [Int.natAbs_mul, Nat.pow_add]
  exact Nat.mul_lt_mul'' h h'
theorem bd64 {x : Int} (h1 : -18446744073709551616 < x) (h2 : x < 18446744073709551616) : Bd 64 x := by
  unfold Bd
  have : (2 : Nat) ^ 64 = 18446744073709551616 := by decide
  rw [this]; omega
theorem Bd.log2 {n : Nat} {x : Int} (h : Bd n x) (hn : 0 < n) : x.natAbs.log2 < n := by
  unfold Bd at h
  rcases Nat.eq_zero_or_pos x.natAbs with h0 | hp
  · rw [h0]; simpa using hn
  · exact (Nat.log2_lt (Nat.ne_of_gt hp)).mpr h

/-- lowest terms -/
structure Low (t d : Int) : Prop where
  pos : 0 < d
  one : Int.gcd t d = 1
theorem gcd_fmod (a b : Int) : Int.gcd b (a.fmod b) = Int.gcd a b := by
  have e : a.fmod b = a - b * a.fdiv b := Int.fmod_def a b
  rw [e]
  apply Nat.dvd_antisymm
  · apply Int.dvd_gcd
    · have h1 := Int.gcd_dvd_left b (a - b * a.fdiv b)
      have h2 := Int.gcd_dvd_right b (a - b * a.fdiv b)
      have h3 := Int.dvd_add h2 (Int.dvd_mul_of_dvd_left (c := a.fdiv b) h1)
      rw [Int.sub_add_cancel] at h3
      exact h3
    · exact Int.gcd_dvd_left b _
  · apply Int.dvd_gcd
    · exact Int.gcd_dvd_right a b
    · exact Int.dvd_sub (Int.gcd_dvd_left a b) (Int.dvd_mul_of_dvd_left (Int.gcd_dvd_right a b))
theorem gcd_emod (a : Int) {b : Int} (h : 0 ≤ b) : Int.gcd b (a % b) = Int.gcd a b := by
  rw [← Int.fmod_eq_emod_of_nonneg a h, gcd_fmod]
theorem fmod_less (a : Int) {b : Int} (h : b ≠ 0) : (a.fmod b).natAbs < b.natAbs := by
  rcases Int.lt_or_gt_of_ne h with hb | hb
  · rw [Int.fmod_eq_emod]
    have h1 := Int.emod_nonneg a h
    have h2 := Int.emod_lt a h
    split
    · rename_i h'
      rcases h' with h' | h'
      · omega
      · have : a % b = 0 := Int.emod_eq_zero_of_dvd h'
        omega
    · rename_i h'
      have : a % b ≠ 0 := fun z => h' (.inr (Int.dvd_of_emod_eq_zero z))
      omega
  · rw [Int.fmod_eq_emod_of_nonneg a (Int.le_of_lt hb)]
    have h1 := Int.emod_nonneg a h
    have h2 := Int.emod_lt_of_pos a hb
    omega
theorem ratio_math {a b s : Int} (hb : b ≠ 0) (hs : s = if b < 0 then -((Int.gcd a b : Nat) : Int) else ((Int.gcd a b : Nat) : Int)) :
    s ≠ 0 ∧ s.natAbs ≤ b.natAbs ∧ Low (a.fdiv s) (b.fdiv s) ∧ a.fdiv s * b = a * b.fdiv s ∧ (a.fdiv s).natAbs ≤ a.natAbs ∧ (b.fdiv s).natAbs ≤ b.natAbs := by
  have g0 : 0 < Int.gcd a b := Int.gcd_pos_of_ne_zero_right a hb
  have sn : s.natAbs = Int.gcd a b := by rw [hs]; split <;> simp
  have s0 : s ≠ 0 := by intro z; rw [z] at sn; simp at sn; omega
  have da : s ∣ a := by
    rw [← Int.natAbs_dvd, sn]; exact Int.gcd_dvd_left a b
  have db : s ∣ b := by
    rw [← Int.natAbs_dvd, sn]; exact Int.gcd_dvd_right a b
  obtain ⟨t, rfl⟩ := da
  obtain ⟨d, rfl⟩ := db
  rw [Int.mul_fdiv_cancel_left _ s0, Int.mul_fdiv_cancel_left _ s0]
  have d0 : d ≠ 0 := by rintro rfl; simp at hb
  have sp : 1 ≤ s.natAbs := by omega
  have gd : Int.gcd t d = 1 := by
    rw [Int.gcd_mul_left] at sn
    have h2 : s.natAbs * Int.gcd t d = s.natAbs * 1 := by omega
    exact Nat.eq_of_mul_eq_mul_left sp h2
  have dp : 0 < d := by
    by_cases h : s * d < 0
    · rw [if_pos h] at hs
      have sneg : s < 0 := by omega
      rcases Int.lt_or_gt_of_ne d0 with h' | h'
      · have := Int.mul_pos_of_neg_of_neg sneg h'; omega
      · exact h'
    · rw [if_neg h] at hs
      have spos : 0 < s := by omega
      rcases Int.lt_or_gt_of_ne d0 with h' | h'
      · have := Int.mul_neg_of_pos_of_neg spos h'; omega
      · exact h'
  have le1 : ∀ y : Int, y.natAbs ≤ (s * y).natAbs := fun y => by
    rw [Int.natAbs_mul]; exact Nat.le_mul_of_pos_left _ sp
  refine ⟨s0, ?_, ⟨dp, gd⟩, ?_, le1 t, le1 d⟩
  · rw [Int.natAbs_mul]; exact Nat.le_mul_of_pos_right _ (by omega)
  · grind
theorem low_div {t d : Int} (h : Low t d) : t / ((Int.gcd t d : Nat) : Int) = t ∧ d / ((Int.gcd t d : Nat) : Int) = d := by
  rw [h.one]; simp
theorem lowest_math {a b : Int} (hb : 0 < b) : Low (a / ((Int.gcd a b : Nat) : Int)) (b / ((Int.gcd a b : Nat) : Int)) ∧ (a / ((Int.gcd a b : Nat) : Int)).natAbs ≤ a.natAbs ∧ (b / ((Int.gcd a b : Nat) : Int)).natAbs ≤ b.natAbs ∧ 0 < ((Int.gcd a b : Nat) : Int) ∧ ((Int.gcd a b : Nat) : Int) ≤ b := by
  have g0 : 0 < Int.gcd a b := Int.gcd_pos_of_ne_zero_right a (by omega)
  obtain ⟨_, h1, h2, h3, h4, h5⟩ := ratio_math (a := a) (b := b) (s := ((Int.gcd a b : Nat) : Int)) (by omega) (by rw [if_neg (by omega)])
  rw [Int.fdiv_eq_ediv_of_nonneg _ (by omega), Int.fdiv_eq_ediv_of_nonneg _ (by omega)] at h2
  rw [Int.fdiv_eq_ediv_of_nonneg _ (by omega)] at h4 h5
  exact ⟨h2, h4, h5, by omega, by omega⟩
end Bs
namespace Bs
open PySem L2
/-! ### further readings -/
def DivP (_ j : Int) : Prop := 0 < j ∧ Bd 9000 j
def DivN (_ j : Int) : Prop := j ≠ 0 ∧ Bd 9000 j
def PowOk (i j : Int) : Prop := 0 ≤ j ∧ j ≤ 1000000 ∧ i.natAbs < 2 ^ 64
abbrev iAdd : R2 := rI0 fun i j => .int (i + j)
abbrev iSub : R2 := rI0 fun i j => .int (i - j)
abbrev iMul : R2 := rI IntMulOk fun i j => .int (i * j)
abbrev iDivP : R2 := rI DivP fun i j => .int (i / j)
abbrev iDivN : R2 := rI DivN fun i j => .int (i.fdiv j)
abbrev iMod : R2 := rI (fun _ j => 0 < j) fun i j => .int (i % j)
abbrev iModN : R2 := rI (fun _ j => j ≠ 0) fun i j => .int (i.fmod j)
abbrev iPow : R2 := rI PowOk fun i j => .int (i ^ j.toNat)
abbrev iLt : R2 := rI0 fun i j => .bl (decide (i < j))
abbrev iLe : R2 := rI0 fun i j => .bl (decide (i ≤ j))
abbrev iGt : R2 := rI0 fun i j => .bl (decide (j < i))
abbrev iGe : R2 := rI0 fun i j => .bl (decide (j ≤ i))
abbrev uNeg : V → Hp → VK → Prop := rU fun i => .int (-i)
/-- an item of a tracked tuple, of a tracked list, of the script -/
def gT : R2 := fun x y H Q => ∃ p i xs v, x = .ref p ∧ y = .int i ∧ H p = some (.tup xs) ∧ atI xs i = some v ∧ Q v H
def gL : R2 := fun x y H Q => ∃ p i xs v, x = .ref p ∧ y = .int i ∧ H p = some (.lst xs) ∧ atI xs i = some v ∧ Q v H
def gS (K : PySem.W.Frag) : R2 := fun x y H Q => ∃ p i xs v, x = .ref p ∧ y = .int i ∧ SqL K H p xs ∧ atI xs i = some v ∧ Q v H
/-- calls of built-ins -/
def bAbs : List V → Hp → VK → Prop := fun xs H Q => ∃ i, xs = [.int i] ∧ Q (.int (if i < 0 then -i else i)) H
def bMax : List V → Hp → VK → Prop := fun xs H Q => ∃ i j, xs = [.int i, .int j] ∧ Q (.int (if j > i then j else i)) H
def bMin : List V → Hp → VK → Prop := fun xs H Q => ∃ i j, xs = [.int i, .int j] ∧ Q (.int (if j < i then j else i)) H
def bIntB : List V → Hp → VK → Prop := fun xs H Q => ∃ k, xs = [.bl k] ∧ Q (.int (if k = true then 1 else 0)) H
def bLenT : List V → Hp → VK → Prop := fun xs H Q => ∃ p ys, xs = [.ref p] ∧ H p = some (.tup ys) ∧ Q (.int ys.length) H
def bLenL : List V → Hp → VK → Prop := fun xs H Q => ∃ p ys, xs = [.ref p] ∧ H p = some (.lst ys) ∧ Q (.int ys.length) H
def bLenS (K : PySem.W.Frag) : List V → Hp → VK → Prop := fun xs H Q => ∃ p ys, xs = [.ref p] ∧ SqL K H p ys ∧ Q (.int ys.length) H
/-- isinstance(x, T), T one of tuple, int, bool, list -/
def isiO : Option HO → String → Option Bool
  | some (.tup _), n => if n = "tuple" then some true else if n = "bool" ∨ n = "int" ∨ n = "list" then some false else none
  | some (.lst _), n => if n = "list" then some true else if n = "bool" ∨ n = "int" ∨ n = "tuple" then some false else none
  | _, _ => none
def isiV (H : Hp) : V → String → Option Bool
  | .int _, n => if n = "int" then some true else if n = "bool" ∨ n = "tuple" ∨ n = "list" then some false else none
  | .bl _, n => if n = "int" ∨ n = "bool" then some true else if n = "tuple" ∨ n = "list" then some false else none
  | .ref p, n => isiO (H p) n
  | _, _ => none
def bIsi : List V → Hp → VK → Prop := fun xs H Q => ∃ x n b, xs = [x, .ty n] ∧ isiV H x n = some b ∧ Q (.bl b) H
theorem isi_int (H : Hp) (i : Int) : isiV H (.int i) "int" = some true := rfl
theorem isi_int_bool (H : Hp) (i : Int) : isiV H (.int i) "bool" = some false := rfl
theorem isi_bl (H : Hp) (b : Bool) : isiV H (.bl b) "bool" = some true := rfl
theorem isi_tup {H : Hp} {p : Addr} {xs : List V} (h : H p = some (.tup xs)) : isiV H (.ref p) "tuple" = some true := by
  show isiO (H p) "tuple" = _
  rw [h]; rfl
/-- two tuples of ints compared -/
def intV : V → Bool
  | .int _ => true
  | _ => false
def eqJ (xs ys : List V) (j : Nat) : Bool := match xs[j]?, ys[j]? with
  | some (.int a), some (.int b) => a == b
  | _, _ => false
theorem intV_at {xs : List V} {j : Nat} (h : xs.all intV = true) (hj : j < xs.length) : ∃ a, xs[j]? = some (.int a) := by
  have m := List.all_eq_true.mp h xs[j] (List.getElem_mem hj)
  rw [List.getElem?_eq_getElem hj]
  generalize xs[j] = v at m
  cases v with
  | int a => exact ⟨a, rfl⟩
  | _ => exact absurd m Bool.false_ne_true
theorem eqJ_all {xs ys : List V} (hx : xs.all intV = true) (hy : ys.all intV = true) : ((List.range (min xs.length ys.length)).all (eqJ xs ys) && xs.length == ys.length) = decide (xs = ys) := by
  rw [Bool.eq_iff_iff]
  simp only [Bool.and_eq_true, List.all_eq_true, List.mem_range, beq_iff_eq, decide_eq_true_eq]
  constructor
  · rintro ⟨h1, h2⟩
    apply List.ext_getElem?
    intro j
    by_cases hj : j < xs.length
    · obtain ⟨a, ea⟩ := intV_at hx hj
      obtain ⟨b, eb⟩ := intV_at hy (by omega : j < ys.length)
      have h := h1 j (by omega)
      unfold eqJ at h
      rw [ea, eb] at h
      rw [ea, eb, eq_of_beq h]
    · rw [List.getElem?_eq_none (by omega), List.getElem?_eq_none (by omega)]
  · rintro rfl
    refine ⟨fun j hj => ?_, rfl⟩
    obtain ⟨a, ea⟩ := intV_at hx (by omega : j < xs.length)
    unfold eqJ
    rw [ea]
    exact beq_self_eq_true a
def eqT : R2 := fun x y H Q => ∃ a b xs ys, x = .ref a ∧ y = .ref b ∧ H a = some (.tup xs) ∧ H b = some (.tup ys) ∧ xs.all intV = true ∧ ys.all intV = true ∧ Q (.bl (decide (xs = ys))) H
/-! ### loops, kept whole -/
def ForR (lo : Int) (n : Nat) (g : TG) (tb : TS) (D : Ends) (σ : St) (H : Hp) : Prop := ∃ W : Nat → Nat → St → Hp → Prop, (∃ m, W 0 m σ H) ∧ ∀ i m σ H, W i m σ H →
  ((Itr lo n).stop i H ∧ D.nx σ H) ∨ ((Itr lo n).go i H ∧ ∃ N : St → Hp → Prop, (∀ σ' H', N σ' H' → ∃ m', m' < m ∧ W (i + 1) m' σ' H') ∧ ∀ x H', (Itr lo n).yld i H x H' → g x σ H' fun σ2 H2 => tb { D with nx := N, ct := N, bk := D.nx } σ2 H2)
theorem tFor_r1 {ta : TA} {g : TG} {tb : TS} {D : Ends} {σ : St} {H : Hp} : tFor (iRng1 ta) g tb D σ H = ta σ H (fun vs H1 => ∃ j : Int, vs = [.int j] ∧ -(2 ^ 62) ≤ j ∧ j < 2 ^ 62 ∧ ForR 0 j.toNat g tb D σ H1) := rfl
theorem tFor_r2 {ta : TA} {g : TG} {tb : TS} {D : Ends} {σ : St} {H : Hp} : tFor (iRng2 ta) g tb D σ H = ta σ H (fun vs H1 => ∃ i j : Int, vs = [.int i, .int j] ∧ (-(2 ^ 62) ≤ i ∧ i < 2 ^ 62 ∧ -(2 ^ 62) ≤ j ∧ j < 2 ^ 62) ∧ ForR i (j - i).toNat g tb D σ H1) := rfl
theorem ForR.by {lo : Int} {n : Nat} {g : TG} {tb : TS} {D : Ends} {σ : St} {H : Hp} (Pv : Nat → St → Hp → Prop) (h0 : Pv 0 σ H)
    (hs : ∀ i σ H, i < n → Pv i σ H → g (.int (lo + i)) σ H fun σ2 H2 => tb { D with nx := Pv (i + 1), ct := Pv (i + 1), bk := D.nx } σ2 H2) (hd : ∀ σ H, Pv n σ H → D.nx σ H) : ForR lo n g tb D σ H := for_range Pv h0 hs hd
def ForT (K : PySem.W.Frag) (a : Addr) (g : TG) (tb : TS) (D : Ends) (σ : St) (H : Hp) : Prop := ∃ W : Nat → Nat → St → Hp → Prop, (∃ m, W 0 m σ H) ∧ ∀ i m σ H, W i m σ H →
  ((Itt K a).stop i H ∧ D.nx σ H) ∨ ((Itt K a).go i H ∧ ∃ N : St → Hp → Prop, (∀ σ' H', N σ' H' → ∃ m', m' < m ∧ W (i + 1) m' σ' H') ∧ ∀ x H', (Itt K a).yld i H x H' → g x σ H' fun σ2 H2 => tb { D with nx := N, ct := N, bk := D.nx } σ2 H2)
def ForL (K : PySem.W.Frag) (a : Addr) (g : TG) (tb : TS) (D : Ends) (σ : St) (H : Hp) : Prop := ∃ W : Nat → Nat → St → Hp → Prop, (∃ m, W 0 m σ H) ∧ ∀ i m σ H, W i m σ H →
  ((Itl K a).stop i H ∧ D.nx σ H) ∨ ((Itl K a).go i H ∧ ∃ N : St → Hp → Prop, (∀ σ' H', N σ' H' → ∃ m', m' < m ∧ W (i + 1) m' σ' H') ∧ ∀ x H', (Itl K a).yld i H x H' → g x σ H' fun σ2 H2 => tb { D with nx := N, ct := N, bk := D.nx } σ2 H2)
theorem tFor_t {K : PySem.W.Frag} {tl : TE} {g : TG} {tb : TS} {D : Ends} {σ : St} {H : Hp} : tFor (iTup K tl) g tb D σ H = tl σ H (fun x H1 => ∃ a, x = .ref a ∧ (∃ xs, SqT K H1 a xs) ∧ ForT K a g tb D σ H1) := rfl
theorem tFor_l {K : PySem.W.Frag} {tl : TE} {g : TG} {tb : TS} {D : Ends} {σ : St} {H : Hp} : tFor (iList K tl) g tb D σ H = tl σ H (fun x H1 => ∃ a, x = .ref a ∧ (∃ xs, SqL K H1 a xs) ∧ ForL K a g tb D σ H1) := rfl
theorem ForT.by {K : PySem.W.Frag} {a : Addr} {xs : List V} {g : TG} {tb : TS} {D : Ends} {σ : St} {H : Hp} (Pv : Nat → St → Hp → Prop) (h0 : Pv 0 σ H) (hl : ∀ i σ H, i ≤ xs.length → Pv i σ H → H a = some (.tup xs))
    (hs : ∀ i x σ H, xs[i]? = some x → Pv i σ H → g x σ H fun σ2 H2 => tb { D with nx := Pv (i + 1), ct := Pv (i + 1), bk := D.nx } σ2 H2) (hd : ∀ σ H, Pv xs.length σ H → D.nx σ H) : ForT K a g tb D σ H :=
  for_tup Pv h0 (fun i σ H h p => SqT.of (hl i σ H h p)) hs hd
theorem ForL.by {K : PySem.W.Frag} {a : Addr} {xs : List V} {g : TG} {tb : TS} {D : Ends} {σ : St} {H : Hp} (Pv : Nat → St → Hp → Prop) (h0 : Pv 0 σ H) (hl : ∀ i σ H, i ≤ xs.length → Pv i σ H → SqL K H a xs)
    (hs : ∀ i x σ H, xs[i]? = some x → Pv i σ H → g x σ H fun σ2 H2 => tb { D with nx := Pv (i + 1), ct := Pv (i + 1), bk := D.nx } σ2 H2) (hd : ∀ σ H, Pv xs.length σ H → D.nx σ H) : ForL K a g tb D σ H :=
  for_list Pv h0 hl hs hd
theorem while_by {c : TT} {tb : TS} {D : Ends} {σ : St} {H : Hp} (W : Nat → St → Hp → Prop) (m : Nat) (h0 : W m σ H)
    (hs : ∀ m σ H, W m σ H → c σ H fun b H1 => if b = true then ∃ N : St → Hp → Prop, (∀ σ' H', N σ' H' → ∃ m', m' < m ∧ W m' σ' H') ∧ tb { D with nx := N, ct := N, bk := D.nx } σ H1 else D.nx σ H1) : tWhile c tb D σ H := ⟨W, ⟨m, h0⟩, hs⟩
theorem seq_step {t u : TS} {D : Ends} {σ : St} {H : Hp} (h : t { D with nx := u D } σ H) : tSeq t u D σ H := h
/-! ### heaps -/
/-- all that was tracked but at p is as it was -/
def Kp (p : Addr) (H H' : Hp) : Prop := ∀ b o, b ≠ p → H b = some o → H' b = some o
theorem Kp.trans {p : Addr} {H H1 H2 : Hp} (a : Kp p H H1) (b : Kp p H1 H2) : Kp p H H2 := fun c o n h => b c o n (a c o n h)
theorem Kp.same {p : Addr} {H H1 H2 : Hp} (a : Kp p H H1) (b : Same H1 H2) : Kp p H H2 := fun c o n h => b c o (a c o n h)
theorem Kp.of_same {p : Addr} {H H1 : Hp} (b : Same H H1) : Kp p H H1 := fun c o _ h => b c o h
theorem Kp.upd {p : Addr} {H : Hp} {o : HO} : Kp p H (upd H p o) := fun b u n h => by rw [upd_ne n]; exact h
theorem same_new {H : Hp} {p : Addr} (h : H p = none) (o : HO) : Same H (upd H p o) := fun b u q => by rw [upd_ne (ne_of_none q h)]; exact q
/-- what was not tracked ahead, and the one new thing: nothing else is touched -/
theorem Kp.new {p : Addr} {H H1 : Hp} (a : Kp p H H1) (h : H p = none) : Same H H1 := fun b o q => a b o (ne_of_none q h) q
theorem Kp.seq {K : PySem.W.Frag} {p : Addr} {H H' : Hp} {a : Addr} {xs : List V} (e : Kp p H H') (n : a ≠ p) (h : SqL K H a xs) : SqL K H' a xs := by
  rcases h with (h | ⟨o, h⟩) | h
  · exact .inl (.inl (e _ _ n h))
  · exact .inl (.inr ⟨o, e _ _ n h⟩)
  · exact .inr h
theorem sz {n : Nat} (h : n ≤ 1000000) : n ≤ sizeLine := by rw [sizeLine_eq]; omega
end Bs
namespace Bs
open PySem L2
theorem atI_two0 {α : Type} (a b : α) : atI [a, b] 0 = some a := rfl
theorem atI_two1 {α : Type} (a b : α) : atI [a, b] 1 = some b := rfl
theorem atI_three0 {α : Type} (a b c : α) : atI [a, b, c] 0 = some a := rfl
theorem atI_three1 {α : Type} (a b c : α) : atI [a, b, c] 1 = some b := rfl
theorem atI_three2 {α : Type} (a b c : α) : atI [a, b, c] 2 = some c := rfl
theorem scal_ii (a b : Int) : scal (.int a) (.int b) = true := rfl
theorem scal_bb (a b : Bool) : scal (.bl a) (.bl b) = true := rfl
theorem ixN_three0 : ixN 3 0 = some 0 := rfl
theorem ixN_three2 : ixN 3 2 = some 2 := rfl
end Bs
namespace Bs
open PySem PySem.Spec PyProof.Rows L2
theorem bt_abs : bootBuiltins "abs" = some (.builtin "abs") := by decide +kernel
theorem bt_len : bootBuiltins "len" = some (.builtin "len") := by decide +kernel
theorem bt_max : bootBuiltins "max" = some (.builtin "max") := by decide +kernel
theorem bt_min : bootBuiltins "min" = some (.builtin "min") := by decide +kernel
theorem bt_isinstance : bootBuiltins "isinstance" = some (.builtin "isinstance") := by decide +kernel
theorem bt_all : bootBuiltins "all" = some (.builtin "all") := by decide +kernel
theorem bt_sum : bootBuiltins "sum" = some (.builtin "sum") := by decide +kernel
theorem bt_int : bootBuiltins "int" = some (.type "int") := by decide +kernel
theorem bt_bool : bootBuiltins "bool" = some (.type "bool") := by decide +kernel
theorem bt_tuple : bootBuiltins "tuple" = some (.type "tuple") := by decide +kernel
theorem bt_list : bootBuiltins "list" = some (.type "list") := by decide +kernel
theorem bt_range : bootBuiltins "range" = some (.type "range") := by decide +kernel
theorem bt_enumerate : bootBuiltins "enumerate" = some (.type "enumerate") := by decide +kernel
theorem bt_zip : bootBuiltins "zip" = some (.type "zip") := by decide +kernel
theorem bt_reversed : bootBuiltins "reversed" = some (.type "reversed") := by decide +kernel
section
variable {X : Cx}
theorem bits_le {n : Nat} {x : Int} (h : Bd n x) : Builtin.Int.intBits x ≤ n := by
  unfold Builtin.Int.intBits
  split
  · exact Nat.zero_le _
  · rename_i h0
    have hn : x.natAbs ≠ 0 := fun z => h0 (by have e : x = 0 := by omega
                                              subst e; rfl)
    have := (Nat.log2_lt hn).mpr h
    omega
theorem mulOkB {m n : Nat} {a b : Int} (ha : Bd m a) (hb : Bd n b) (hm : m ≤ 2 ^ 20) (hn : n ≤ 2 ^ 20) : IntMulOk a b := IntMulOk.of_bits (Nat.le_trans (bits_le ha) hm) (Nat.le_trans (bits_le hb) hn)
theorem op_mulB : OpR X (binaryOp .Mult) iMul := opI fun _ _ _ _ _ _ _ hc q => mul_int q hc
theorem iop_mulB : OpR X (inplaceOp .Mult) iMul := opI fun _ _ _ _ _ _ _ hc q => imul_int q hc
theorem op_fdivP : OpR X (binaryOp .FloorDiv) iDivP := opI fun i j _ _ _ _ _ hc q => by
  refine floordiv_int (Int.ne_of_gt hc.1) ?_ (.inl (PyProof.noPylong_of_log2 (hc.2.log2 (by decide))))
  rw [Int.fdiv_eq_ediv_of_nonneg i (Int.le_of_lt hc.1)]
  exact q
theorem op_fdivM : OpR X (binaryOp .FloorDiv) iDivN := opI fun _ _ _ _ _ _ _ hc q => floordiv_int hc.1 q (.inl (PyProof.noPylong_of_log2 (hc.2.log2 (by decide))))
theorem op_powB : OpR X (binaryOp .Pow) iPow := opI fun _ _ _ _ _ _ _ hc q => pow_int_small hc.1 hc.2.1 hc.2.2 q
theorem ix_tupH : IxR X gT := by
  intro value slice pins s σ H x y v u Q I rx ry h hs
  obtain ⟨p, i, xs, w, e1, e2, hp, ha, q⟩ := h
  exact ix_tup value slice pins s σ H x y v u Q I rx ry ⟨p, xs, i, w, e1, e2, SqT.of hp, ha, q⟩ hs
theorem ix_lstH : IxR X gL := by
  intro value slice pins s σ H x y v u Q I rx ry h hs
  obtain ⟨p, i, xs, w, e1, e2, hp, ha, q⟩ := h
  exact ix_list value slice pins s σ H x y v u Q I rx ry ⟨p, xs, i, w, e1, e2, SqL.of hp, ha, q⟩ hs
theorem ix_script : IxR X (gS X.K) := by
  intro value slice pins s σ H x y v u Q I rx ry h hs
  obtain ⟨p, i, xs, w, e1, e2, hp, ha, q⟩ := h
  exact ix_list value slice pins s σ H x y v u Q I rx ry ⟨p, xs, i, w, e1, e2, hp, ha, q⟩ hs
theorem call_absB : CallR X (.builtin "abs") bAbs := call_abs
theorem call_maxB (hc : X.calm = true) : CallR X (.builtin "max") bMax := call_max2 hc
theorem call_minB (hc : X.calm = true) : CallR X (.builtin "min") bMin := call_min2 hc
theorem call_intB : CallR X (.type "int") bIntB := fun pins s σ H xs us Q I r h => call_int1 pins s σ H xs us Q I r (.inr h)
theorem call_lenT : CallR X (.builtin "len") bLenT := fun pins s σ H xs us Q I r h => by
  obtain ⟨p, ys, e, hp, q⟩ := h
  exact call_len_seq pins s σ H xs us Q I r ⟨p, ys, e, .inr (SqT.of hp), q⟩
theorem call_lenL : CallR X (.builtin "len") bLenL := fun pins s σ H xs us Q I r h => by
  obtain ⟨p, ys, e, hp, q⟩ := h
  exact call_len_seq pins s σ H xs us Q I r ⟨p, ys, e, .inl (SqL.of hp), q⟩
theorem call_lenS : CallR X (.builtin "len") (bLenS X.K) := fun pins s σ H xs us Q I r h => by
  obtain ⟨p, ys, e, hp, q⟩ := h
  exact call_len_seq pins s σ H xs us Q I r ⟨p, ys, e, .inl hp, q⟩
theorem kit_ib (K : PySem.W.Frag) : PySem.W.kitOne K (.type "int") (.type "bool") = some false := by kernel_rfl
theorem kit_it (K : PySem.W.Frag) : PySem.W.kitOne K (.type "int") (.type "tuple") = some false := by kernel_rfl
theorem kit_il (K : PySem.W.Frag) : PySem.W.kitOne K (.type "int") (.type "list") = some false := by kernel_rfl
theorem kit_bi (K : PySem.W.Frag) : PySem.W.kitOne K (.type "bool") (.type "int") = some true := by kernel_rfl
theorem kit_bt (K : PySem.W.Frag) : PySem.W.kitOne K (.type "bool") (.type "tuple") = some false := by kernel_rfl
theorem kit_bl (K : PySem.W.Frag) : PySem.W.kitOne K (.type "bool") (.type "list") = some false := by kernel_rfl
theorem kit_tb (K : PySem.W.Frag) : PySem.W.kitOne K (.type "tuple") (.type "bool") = some false := by kernel_rfl
theorem kit_ti (K : PySem.W.Frag) : PySem.W.kitOne K (.type "tuple") (.type "int") = some false := by kernel_rfl
theorem kit_tl (K : PySem.W.Frag) : PySem.W.kitOne K (.type "tuple") (.type "list") = some false := by kernel_rfl
theorem kit_lb (K : PySem.W.Frag) : PySem.W.kitOne K (.type "list") (.type "bool") = some false := by kernel_rfl
theorem kit_li (K : PySem.W.Frag) : PySem.W.kitOne K (.type "list") (.type "int") = some false := by kernel_rfl
theorem kit_lt (K : PySem.W.Frag) : PySem.W.kitOne K (.type "list") (.type "tuple") = some false := by kernel_rfl
theorem kit_same (K : PySem.W.Frag) (n : String) : PySem.W.kitOne K (.type n) (.type n) = some true := by
  unfold PySem.W.kitOne
  rw [if_pos (beq_self_eq_true _)]
theorem isiV_ok {H : Hp} {x : V} {n : String} {b : Bool} (K : PySem.W.Frag) (h : isiV H x n = some b) : ∃ t, TyOf K H x t ∧ PySem.W.kitOne K t (.type n) = some b := by
  cases x with
  | int i =>
    refine ⟨_, .int i, ?_⟩
    unfold isiV at h
    dsimp only at h
    split at h
    · rename_i e; cases h; subst e; exact kit_same K _
    · split at h
      · rename_i e; cases h
        rcases e with rfl | rfl | rfl
        · exact kit_ib K
        · exact kit_it K
        · exact kit_il K
      · cases h
  | bl i =>
    refine ⟨_, .bl i, ?_⟩
    unfold isiV at h
    dsimp only at h
    split at h
    · rename_i e; cases h
      rcases e with rfl | rfl
      · exact kit_bi K
      · exact kit_same K _
    · split at h
      · rename_i e; cases h
        rcases e with rfl | rfl
        · exact kit_bt K
        · exact kit_bl K
      · cases h
  | ref p =>
    have h' : isiO (H p) n = some b := h
    cases e : H p with
    | none => rw [e] at h'; cases h'
    | some o =>
      rw [e] at h'
      cases o with
      | tup xs =>
        refine ⟨_, .tup e, ?_⟩
        unfold isiO at h'
        dsimp only at h'
        split at h'
        · rename_i e; cases h'; subst e; exact kit_same K _
        · split at h'
          · rename_i e; cases h'
            rcases e with rfl | rfl | rfl
            · exact kit_tb K
            · exact kit_ti K
            · exact kit_tl K
          · cases h'
      | lst xs =>
        refine ⟨_, .lst e, ?_⟩
        unfold isiO at h'
        dsimp only at h'
        split at h'
        · rename_i e; cases h'; subst e; exact kit_same K _
        · split at h'
          · rename_i e; cases h'
            rcases e with rfl | rfl | rfl
            · exact kit_lb K
            · exact kit_li K
            · exact kit_lt K
          · cases h'
      | _ => cases h'
  | _ => cases h
theorem call_isi : CallR X (.builtin "isinstance") bIsi := fun pins s σ H xs us Q I r h => by
  obtain ⟨x, n, b, rfl, e, q⟩ := h
  obtain ⟨u, w', rfl, rx, rn⟩ := vals2 r
  have rn' : w' = Value.type n := rn
  subst rn'
  obtain ⟨t, ty, k⟩ := isiV_ok X.K e
  exact isinst_ok I rx ty k fun tk => ⟨.bl b, H, I.tok tk, rfl, q⟩
theorem op_eqT (hu : X.A.units < cLine) : OpR X (compareOp .Eq) eqT := by
  intro pins s σ H x y v u Q I rx ry h
  obtain ⟨a, b, xs, ys, rfl, rfl, ha, hb, ix, iy, q⟩ := h
  cases rx
  cases ry
  obtain ⟨its, r1, p1, _⟩ := I.tuple (SqT.of ha)
  obtain ⟨its2, r2, p2, _⟩ := I.tuple (SqT.of hb)
  have l1 : its.toArray.size = xs.length := by rw [List.size_toArray]; exact r1.length.symm
  have l2 : its2.toArray.size = ys.length := by rw [List.size_toArray]; exact r2.length.symm
  refine SeqAt.eq_tupleAt (e := eqJ xs ys) p1 p2 hu (fun j h1 h2 => ?_) ?_
  · rw [l1] at h1
    rw [l2] at h2
    obtain ⟨i, ei⟩ := intV_at ix h1
    obtain ⟨k, ek⟩ := intV_at iy h2
    obtain ⟨u1, g1, ⟨t1, z1⟩⟩ := r1.get ei
    obtain ⟨u2, g2, ⟨t2, z2⟩⟩ := r2.get ek
    have a1 : its.toArray[j] = .int i t1 := by
      have z := (List.getElem?_eq_some_iff.mp g1).2
      simpa [z1] using z
    have a2 : its2.toArray[j] = .int k t2 := by
      have z := (List.getElem?_eq_some_iff.mp g2).2
      simpa [z2] using z
    have e : eqJ xs ys j = (i == k) := by unfold eqJ; rw [ei, ek]
    rw [a1, a2, e]
    exact SeqAt.EqAt.int_int i t1 k t2
  · rw [l1, l2, eqJ_all ix iy]
    exact ⟨.bl (decide (xs = ys)), H, I, rfl, q⟩
end
/-! ### a def that keeps its promise, as a callee -/
structure Cal (P : Program) (w : World) (K : PySem.W.Frag) (mg : Str → Option Value) (base : Heap) (n : Nat) (x : Str) (ps : List Str) (sp : Sp) : Prop where
  ex : ∃ (f : Addr) (fd : FuncData), FnOk P w K mg base CX0 n f fd ps sp ∧ Binds K fd ps [] ∧ PySem.W.keepIn K (.ref f) = true ∧ mg x = some (.ref f)
theorem Cal.pe {X : Cx} {n m : Nat} {x : Str} {ps : List Str} {sp : Sp} {e : Expr} {es : List Expr} {t : TA} {p pos : Pos} (C : Cal X.prog X.w X.K X.mg X.base n x ps sp) (hr : Room m X.A) (hn : n ≤ m) (hg : Gl X x) (ha : PA X (e :: es) t)
    (hdb : (x == ("__debug__" : Str)) = false := by decide) (he : starEach (e :: es) X.env = (false, eval e X.env) :: starEach es X.env := by rfl) (hpl : (backTo pos (starEach es X.env)).any (·.1) = false := by rfl) :
    PE X (.Call (.Name x p) (e :: es) [] pos) (tCall sp [] E0 t) := by
  obtain ⟨f, fd, F, b, k, m⟩ := C.ex
  exact pe_call F (hr.mono hn) hg m k b .nil pass0 ha hdb he hpl
end Bs
namespace Bs
open PySem L2
/-- the block's values at a turn's start -/
def blkSt (capt : List (Option Nat)) (σ : L2.St) : L2.St := capt.map fun o => o.bind fun j => (σ[j]?).join
/-- [te for g in wi]: W i ys H: behind i turns ys was made; n bounds the turns -/
def tComp (wi : TI) (capt : List (Option Nat)) (g : TG) (te : TE) : TE := fun σ H Q => wi σ H fun J H1 => ∃ (n : Nat) (W : Nat → List V → Hp → Prop), W 0 [] H1 ∧ ∀ i ys H, W i ys H → i ≤ n ∧ ys.length ≤ sizeLine ∧
  ((J.stop i H ∧ ∀ p, H p = none → Q (.ref p) (upd H p (.lst ys))) ∨ (i < n ∧ J.go i H ∧ ∀ x H', J.yld i H x H' → g x (blkSt capt σ) H' fun σ2 H2 => te σ2 H2 fun y H3 => W (i + 1) (ys ++ [y]) H3))
def CompJ (J : It) (capt : List (Option Nat)) (g : TG) (te : TE) (σ : L2.St) (Q : VK) (H1 : Hp) : Prop := ∃ (n : Nat) (W : Nat → List V → Hp → Prop), W 0 [] H1 ∧ ∀ i ys H, W i ys H → i ≤ n ∧ ys.length ≤ sizeLine ∧
  ((J.stop i H ∧ ∀ p, H p = none → Q (.ref p) (upd H p (.lst ys))) ∨ (i < n ∧ J.go i H ∧ ∀ x H', J.yld i H x H' → g x (blkSt capt σ) H' fun σ2 H2 => te σ2 H2 fun y H3 => W (i + 1) (ys ++ [y]) H3))
section
variable {K : PySem.W.Frag} {ta : TA} {tl : TE} {capt : List (Option Nat)} {g : TG} {te : TE} {σ : L2.St} {H : Hp} {Q : VK}
theorem tComp_r1 : tComp (iRng1 ta) capt g te σ H Q = ta σ H (fun vs H1 => ∃ j : Int, vs = [.int j] ∧ -(2 ^ 62) ≤ j ∧ j < 2 ^ 62 ∧ CompJ (Itr 0 j.toNat) capt g te σ Q H1) := rfl
theorem tComp_r2 : tComp (iRng2 ta) capt g te σ H Q = ta σ H (fun vs H1 => ∃ i j : Int, vs = [.int i, .int j] ∧ (-(2 ^ 62) ≤ i ∧ i < 2 ^ 62 ∧ -(2 ^ 62) ≤ j ∧ j < 2 ^ 62) ∧ CompJ (Itr i (j - i).toNat) capt g te σ Q H1) := rfl
theorem tComp_t : tComp (iTup K tl) capt g te σ H Q = tl σ H (fun x H1 => ∃ a, x = .ref a ∧ (∃ xs, SqT K H1 a xs) ∧ CompJ (Itt K a) capt g te σ Q H1) := rfl
theorem tComp_l : tComp (iList K tl) capt g te σ H Q = tl σ H (fun x H1 => ∃ a, x = .ref a ∧ (∃ xs, SqL K H1 a xs) ∧ CompJ (Itl K a) capt g te σ Q H1) := rfl
theorem CompJ.range {lo : Int} {n : Nat} (W : Nat → List V → Hp → Prop) (h0 : W 0 [] H) (hb : ∀ i ys H, W i ys H → i ≤ n ∧ ys.length ≤ sizeLine)
    (hs : ∀ i ys H, i < n → W i ys H → g (.int (lo + i)) (blkSt capt σ) H fun σ2 H2 => te σ2 H2 fun y H3 => W (i + 1) (ys ++ [y]) H3) (hd : ∀ ys H, W n ys H → ∀ p, H p = none → Q (.ref p) (upd H p (.lst ys))) : CompJ (Itr lo n) capt g te σ Q H := by
  refine ⟨n, W, h0, fun i ys H w => ⟨(hb i ys H w).1, (hb i ys H w).2, ?_⟩⟩
  by_cases h : i < n
  · refine .inr ⟨h, h, fun x H' y => ?_⟩
    obtain ⟨e, y⟩ := y
    subst e y
    exact hs i ys _ h w
  · have e : i = n := Nat.le_antisymm (hb i ys H w).1 (Nat.not_lt.mp h)
    subst e
    exact .inl ⟨Nat.le_refl _, hd ys H w⟩
theorem CompJ.tup {a : Addr} {xs : List V} (W : Nat → List V → Hp → Prop) (h0 : W 0 [] H) (hb : ∀ i ys H, W i ys H → i ≤ xs.length ∧ ys.length ≤ sizeLine ∧ H a = some (.tup xs))
    (hs : ∀ i x ys H, xs[i]? = some x → W i ys H → g x (blkSt capt σ) H fun σ2 H2 => te σ2 H2 fun y H3 => W (i + 1) (ys ++ [y]) H3) (hd : ∀ ys H, W xs.length ys H → ∀ p, H p = none → Q (.ref p) (upd H p (.lst ys))) : CompJ (Itt K a) capt g te σ Q H := by
  refine ⟨xs.length, W, h0, fun i ys H w => ⟨(hb i ys H w).1, (hb i ys H w).2.1, ?_⟩⟩
  have q : SqT K H a xs := SqT.of (hb i ys H w).2.2
  by_cases h : i < xs.length
  · refine .inr ⟨h, ⟨xs, xs[i], q, by simp [h]⟩, fun x H' y => ?_⟩
    obtain ⟨e, y⟩ := y
    subst e
    exact hs i x ys _ (y xs q) w
  · have e : i = xs.length := Nat.le_antisymm (hb i ys H w).1 (Nat.not_lt.mp h)
    subst e
    exact .inl ⟨⟨xs, q, Nat.le_refl _⟩, hd ys H w⟩
theorem CompJ.lst {a : Addr} {xs : List V} (W : Nat → List V → Hp → Prop) (h0 : W 0 [] H) (hb : ∀ i ys H, W i ys H → i ≤ xs.length ∧ ys.length ≤ sizeLine ∧ SqL K H a xs)
    (hs : ∀ i x ys H, xs[i]? = some x → W i ys H → g x (blkSt capt σ) H fun σ2 H2 => te σ2 H2 fun y H3 => W (i + 1) (ys ++ [y]) H3) (hd : ∀ ys H, W xs.length ys H → ∀ p, H p = none → Q (.ref p) (upd H p (.lst ys))) : CompJ (Itl K a) capt g te σ Q H := by
  refine ⟨xs.length, W, h0, fun i ys H w => ⟨(hb i ys H w).1, (hb i ys H w).2.1, ?_⟩⟩
  have q : SqL K H a xs := (hb i ys H w).2.2
  by_cases h : i < xs.length
  · refine .inr ⟨h, ⟨xs, xs[i], q, by simp [h]⟩, fun x H' y => ?_⟩
    obtain ⟨e, y⟩ := y
    subst e
    exact hs i x ys _ (y xs q) w
  · have e : i = xs.length := Nat.le_antisymm (hb i ys H w).1 (Nat.not_lt.mp h)
    subst e
    exact .inl ⟨⟨xs, q, Nat.le_refl _⟩, hd ys H w⟩
end
/-- (0, x), (1, y), .. of the list, of the tuple at a -/
def IteL (K : PySem.W.Frag) (a : Addr) : It :=
  ⟨fun i H => ∃ xs x, SqL K H a xs ∧ xs[i]? = some x, fun i H v H' => ∃ p x, H p = none ∧ v = .ref p ∧ H' = upd H p (.tup [.int i, x]) ∧ ∀ xs, SqL K H a xs → xs[i]? = some x, fun i H => ∃ xs, SqL K H a xs ∧ xs.length ≤ i⟩
def IteT (K : PySem.W.Frag) (a : Addr) : It :=
  ⟨fun i H => ∃ xs x, SqT K H a xs ∧ xs[i]? = some x, fun i H v H' => ∃ p x, H p = none ∧ v = .ref p ∧ H' = upd H p (.tup [.int i, x]) ∧ ∀ xs, SqT K H a xs → xs[i]? = some x, fun i H => ∃ xs, SqT K H a xs ∧ xs.length ≤ i⟩
def iEnumL (K : PySem.W.Frag) (ta : TA) : TI := fun σ H R => ta σ H fun vs H1 => ∃ a, vs = [.ref a] ∧ (∃ xs, SqL K H1 a xs) ∧ R (IteL K a) H1
def iEnumT (K : PySem.W.Frag) (ta : TA) : TI := fun σ H R => ta σ H fun vs H1 => ∃ a, vs = [.ref a] ∧ (∃ xs, SqT K H1 a xs) ∧ R (IteT K a) H1
def ForJ (J : It) (g : TG) (tb : TS) (D : Ends) (σ : L2.St) (H : Hp) : Prop := ∃ W : Nat → Nat → L2.St → Hp → Prop, (∃ m, W 0 m σ H) ∧ ∀ i m σ H, W i m σ H →
  (J.stop i H ∧ D.nx σ H) ∨ (J.go i H ∧ ∃ N : L2.St → Hp → Prop, (∀ σ' H', N σ' H' → ∃ m', m' < m ∧ W (i + 1) m' σ' H') ∧ ∀ x H', J.yld i H x H' → g x σ H' fun σ2 H2 => tb { D with nx := N, ct := N, bk := D.nx } σ2 H2)
section
variable {K : PySem.W.Frag} {ta : TA} {g : TG} {tb : TS} {D : Ends} {σ : L2.St} {H : Hp} {a : Addr} {xs : List V}
theorem tFor_el : tFor (iEnumL K ta) g tb D σ H = ta σ H (fun vs H1 => ∃ a, vs = [.ref a] ∧ (∃ xs, SqL K H1 a xs) ∧ ForJ (IteL K a) g tb D σ H1) := rfl
theorem tFor_et : tFor (iEnumT K ta) g tb D σ H = ta σ H (fun vs H1 => ∃ a, vs = [.ref a] ∧ (∃ xs, SqT K H1 a xs) ∧ ForJ (IteT K a) g tb D σ H1) := rfl
theorem tComp_el {capt : List (Option Nat)} {te : TE} {Q : VK} : tComp (iEnumL K ta) capt g te σ H Q = ta σ H (fun vs H1 => ∃ a, vs = [.ref a] ∧ (∃ xs, SqL K H1 a xs) ∧ CompJ (IteL K a) capt g te σ Q H1) := rfl
theorem ForJ.enumL (Pv : Nat → L2.St → Hp → Prop) (h0 : Pv 0 σ H) (hl : ∀ i σ H, i ≤ xs.length → Pv i σ H → SqL K H a xs)
    (hs : ∀ i x p σ H, xs[i]? = some x → Pv i σ H → H p = none → g (.ref p) σ (upd H p (.tup [.int i, x])) fun σ2 H2 => tb { D with nx := Pv (i + 1), ct := Pv (i + 1), bk := D.nx } σ2 H2) (hd : ∀ σ H, Pv xs.length σ H → D.nx σ H) : ForJ (IteL K a) g tb D σ H := by
  refine ⟨fun i m σ H => m = xs.length - i ∧ i ≤ xs.length ∧ Pv i σ H, ⟨xs.length, by simp, Nat.zero_le _, h0⟩, ?_⟩
  rintro i m σ H ⟨rfl, hi, pv⟩
  have q := hl i σ H hi pv
  by_cases lt : i < xs.length
  · refine .inr ⟨⟨xs, xs[i], q, by simp [lt]⟩, Pv (i + 1), fun σ' H' p' => ⟨xs.length - (i + 1), by omega, rfl, lt, p'⟩, fun x H' y => ?_⟩
    obtain ⟨p, x', hp, rfl, rfl, y⟩ := y
    exact hs i x' p σ _ (y xs q) pv hp
  · have e : i = xs.length := by omega
    subst e
    exact .inl ⟨⟨xs, q, Nat.le_refl _⟩, hd σ H pv⟩
theorem ForJ.enumT (Pv : Nat → L2.St → Hp → Prop) (h0 : Pv 0 σ H) (hl : ∀ i σ H, i ≤ xs.length → Pv i σ H → H a = some (.tup xs))
    (hs : ∀ i x p σ H, xs[i]? = some x → Pv i σ H → H p = none → g (.ref p) σ (upd H p (.tup [.int i, x])) fun σ2 H2 => tb { D with nx := Pv (i + 1), ct := Pv (i + 1), bk := D.nx } σ2 H2) (hd : ∀ σ H, Pv xs.length σ H → D.nx σ H) : ForJ (IteT K a) g tb D σ H := by
  refine ⟨fun i m σ H => m = xs.length - i ∧ i ≤ xs.length ∧ Pv i σ H, ⟨xs.length, by simp, Nat.zero_le _, h0⟩, ?_⟩
  rintro i m σ H ⟨rfl, hi, pv⟩
  have q : SqT K H a xs := SqT.of (hl i σ H hi pv)
  by_cases lt : i < xs.length
  · refine .inr ⟨⟨xs, xs[i], q, by simp [lt]⟩, Pv (i + 1), fun σ' H' p' => ⟨xs.length - (i + 1), by omega, rfl, lt, p'⟩, fun x H' y => ?_⟩
    obtain ⟨p, x', hp, rfl, rfl, y⟩ := y
    exact hs i x' p σ _ (y xs q) pv hp
  · have e : i = xs.length := by omega
    subst e
    exact .inl ⟨⟨xs, q, Nat.le_refl _⟩, hd σ H pv⟩
end
end Bs
namespace Bs
open PySem PySem.Spec PyProof.Rows L2
/-! ### a list's comprehension -/
/-- the context of its block: the frame is the block's own namespace at C, the entry is s (the iterator's objects fp were made ahead of it) -/
def blk (X : Cx) (N : List Str) (scope : Scope) (cl : List (Str × Addr)) (C : Addr) (s : Shared) (H : Hp) (fp : List Addr) : Cx :=
  { X with N := N, s₀ := s, H₀ := H, env := compEnvC scope cl C X.env, outer := X.stack, stack := X.stack, ex := fp, fn := fun _ => false, pn := [], xe := fun _ _ => False }
/-- what of the text it leans on. capt: for each name of the block where it stands in the frame around it (none: the block's own) -/
structure BlkOk (X : Cx) (N : List Str) (capt : List (Option Nat)) (scope : Scope) (cl : List (Str × Addr)) : Prop where
  kind : scope.kind = .function
  clos : closureFor scope X.env = pure cl
  nocell : ∀ y ∈ scope.names, y.2 ≠ .cell
  names : ∀ y ∈ scope.names, y.2 = .local → scope.names.lookup y.1 = some .local
  cells : ∀ y c, cl.lookup y = some c → X.env.cells.lookup y = some c
  has : ∀ y, ((relabel scope X.env).names.lookup y = some .cell ∨ (relabel scope X.env).names.lookup y = some .free) → ∃ c, cl.lookup y = some c
  cap : ∀ (i : Nat) (x : Str) (j : Nat), N[i]? = some x → capt[i]? = some (some j) → X.N[j]? = some x ∧ Vis X.env.scope x ∧ X.env.kindOf x ≠ some .local ∧ ((relabel scope X.env).names.lookup x = some .cell ∨ (relabel scope X.env).names.lookup x = some .free)
  len : capt.length = N.length
section
variable {X : Cx} {pins : List (Addr × Obj)} {σ : L2.St} {H : Hp} {s : Shared} {N : List Str} {capt : List (Option Nat)} {scope : Scope} {cl : List (Str × Addr)} {C : Addr} {fp : List Addr}
theorem blk_ok (B : BlkOk X N capt scope cl) (I : Inv X pins σ H s) (fo : ∀ b ∈ fp, FpOk X pins H b) (fl : ∀ b ∈ fp, b < s.heap.objs.size) (hC : s.heap.objs.size ≤ C) : (blk X N scope cl C s H fp).Ok where
  mod := I.ok.mod
  kind := B.kind
  glob := I.ok.glob
  blt := I.ok.blt
  above := hC
  inj := fun x y c h1 h2 => I.ok.inj x y c (B.cells x c h1) (B.cells y c h2)
  has := fun x h => B.has x h
  cab := fun _ _ h => nomatch h
  hd := I.ok.hd
  frames := I.ok.frames
  stk := .inl rfl
  exf := fun b hb => ⟨fun e => absurd (Nat.lt_of_lt_of_le (fl b hb) hC) (by rw [show b = C from e]; exact Nat.lt_irrefl _), fun x c e => (fo b hb).2.2.2.2.1 x c (B.cells x c e)⟩
  bs := I.bs
  bsz := Nat.le_trans I.ok.bsz I.sz
  noex := fun b o e hb => by
    rcases (fo b hb).2.2.2.1 with z | z
    · exact I.ok.noex b o e z
    · exact absurd (Nat.lt_of_lt_of_le (Heap.lt_size e) (Nat.le_trans I.ok.bsz z)) (Nat.lt_irrefl _)
  exfs := fun b hb hf => by
    rcases List.mem_cons.mp (I.stkSub b hf) with z | z
    · exact (fo b hb).2.1 z
    · exact (fo b hb).2.2.1 z
  funs := I.stack
  frf := I.stkFree
theorem blk_inv (B : BlkOk X N capt scope cl) (I : Inv X pins σ H s) (fo : ∀ b ∈ fp, FpOk X pins H b) (fl : ∀ b ∈ fp, b < s.heap.objs.size) (hC : s.heap.objs.size ≤ C) {h1 : Heap} {m : Str → Option Value} {tk : Nat}
    (hn : h1.Ns C m) (hk : ∀ b o, s.heap.get? b = some o → h1.get? b = some o) : Inv (blk X N scope cl C s H fp) [] (blkSt capt σ) H { s with heap := h1, toks := tk } where
  ok := blk_ok B I fo fl hC
  os := rfl
  bare := I.bare
  base := Un.kept hk
  loc := by
    refine ⟨m, hn, fun i x v e1 e2 e3 => ?_⟩
    have e2' : (capt.map fun o => o.bind fun j => (σ[j]?).join)[i]? = some (some v) := e2
    rw [List.getElem?_map] at e2'
    cases ec : capt[i]? with
    | none => rw [ec] at e2'; cases e2'
    | some o =>
      rw [ec] at e2'
      cases o with
      | none => cases e2'
      | some j =>
        have e4 : (σ[j]?).join = some v := Option.some.inj e2'
        obtain ⟨c1, c2, c3, c4⟩ := B.cap i x j e1 ec
        have e5 : σ[j]? = some (some v) := by
          cases q : σ[j]? with
          | none => rw [q] at e4; cases e4
          | some w => rw [q] at e4; exact congrArg some e4
        obtain ⟨m', _, hl⟩ := I.loc
        obtain ⟨u, r, l⟩ := hl j x v c1 e5 c2
        refine ⟨u, r, .inr ⟨c4, ?_⟩⟩
        rcases l with ⟨l, _⟩ | ⟨_, c, lc, ic⟩
        · exact absurd l c3
        · obtain ⟨c', hc'⟩ := B.has x c4
          have := B.cells x c' hc'
          rw [lc] at this
          cases this
          obtain ⟨o, ho, hd⟩ := ic
          exact ⟨c, hc', o, hk c o ho, hd⟩
  cell := fun x c e => by
    obtain ⟨v, o, ho, hd⟩ := I.cell x c (B.cells x c e)
    exact ⟨v, o, hk c o ho, hd⟩
  free := I.hok.fresh hC
  freeC := fun x c e => I.freeC x c (B.cells x c e)
  pin := fun p hp => nomatch hp
  hok := I.hok.kept hk
  len := by show (capt.map _).length = N.length; rw [List.length_map]; exact B.len
/-- whatever the block's own names hold: what it has from around stands -/
theorem blk_again {σ6 : L2.St} {H7 : Hp} {s7 : Shared} {pins' : List (Addr × Obj)} (B : BlkOk X N capt scope cl) (I : Inv X pins σ H s) (fo : ∀ b ∈ fp, FpOk X pins H b) (I7 : Inv (blk X N scope cl C s H fp) pins' σ6 H7 s7) : Inv (blk X N scope cl C s H fp) pins' (blkSt capt σ) H7 s7 :=
  ⟨I7.ok, I7.os, I7.bare, I7.base, by
    obtain ⟨m, hn, _⟩ := I7.loc
    refine ⟨m, hn, fun i x v e1 e2 e3 => ?_⟩
    have e2' : (capt.map fun o => o.bind fun j => (σ[j]?).join)[i]? = some (some v) := e2
    rw [List.getElem?_map] at e2'
    cases ec : capt[i]? with
    | none => rw [ec] at e2'; cases e2'
    | some o =>
      rw [ec] at e2'
      cases o with
      | none => cases e2'
      | some j =>
        have e4 : (σ[j]?).join = some v := Option.some.inj e2'
        obtain ⟨c1, c2, c3, c4⟩ := B.cap i x j e1 ec
        have e5 : σ[j]? = some (some v) := by
          cases q : σ[j]? with
          | none => rw [q] at e4; cases e4
          | some w => rw [q] at e4; exact congrArg some e4
        obtain ⟨m', _, hl⟩ := I.loc
        obtain ⟨u, r, l⟩ := hl j x v c1 e5 c2
        refine ⟨u, r, .inr ⟨c4, ?_⟩⟩
        rcases l with ⟨l, _⟩ | ⟨_, c, lc, ic⟩
        · exact absurd l c3
        · obtain ⟨c', hc'⟩ := B.has x c4
          have := B.cells x c' hc'
          rw [lc] at this
          cases this
          obtain ⟨o, ho, hd⟩ := ic
          obtain ⟨sl, hk⟩ := I7.base.any ho (I.freeC x c lc) fun hb => (fo c hb).2.2.2.2.1 x c lc rfl
          exact ⟨c, hc', _, hk, hd⟩, I7.cell, I7.free, I7.freeC, I7.pin, I7.hok, by show (capt.map _).length = N.length; rw [List.length_map]; exact B.len⟩
theorem lookup_mem {κ β : Type} [BEq κ] [LawfulBEq κ] : ∀ {l : List (κ × β)} {y : κ} {c : β}, l.lookup y = some c → (y, c) ∈ l
  | (k, v) :: l, y, c, h => by
    rw [List.lookup_cons] at h
    cases e : y == k with
    | true =>
      rw [e] at h
      cases h
      rw [eq_of_beq e]
      exact List.mem_cons_self ..
    | false =>
      rw [e] at h
      exact List.mem_cons_of_mem _ (lookup_mem h)
/-- .. from facts that compute -/
theorem BlkOk.of (k : scope.kind = .function) (c : closureFor scope X.env = pure cl) (n1 : (scope.names.all fun y => y.2 != .cell) = true) (n2 : (scope.names.all fun y => y.2 != .local || scope.names.lookup y.1 == some .local) = true)
    (cs : ∀ pr ∈ cl, X.env.cells.lookup pr.1 = some pr.2) (hs : ((relabel scope X.env).names.all fun pr => (pr.2 != .cell && pr.2 != .free) || (cl.lookup pr.1).isSome) = true)
    (cp : ((List.range N.length).all fun i => match N[i]?, capt[i]? with
      | some x, some (some j) => X.N[j]? == some x && (X.env.scope.names.lookup x == some .cell || X.env.scope.names.lookup x == some .free) && ((relabel scope X.env).names.lookup x == some .cell || (relabel scope X.env).names.lookup x == some .free)
      | _, _ => true) = true) (ln : capt.length = N.length) : BlkOk X N capt scope cl where
  kind := k
  clos := c
  nocell := fun y hy e => by
    have z := List.all_eq_true.mp n1 y hy
    rw [e] at z
    exact absurd z (by decide)
  names := fun y hy e => by
    have z := List.all_eq_true.mp n2 y hy
    rw [e] at z
    simpa using z
  cells := fun y c h => cs (y, c) (lookup_mem h)
  has := fun y h => by
    have m : ∃ kd, (y, kd) ∈ (relabel scope X.env).names ∧ (kd = .cell ∨ kd = .free) := by
      rcases h with h | h
      · exact ⟨_, lookup_mem h, .inl rfl⟩
      · exact ⟨_, lookup_mem h, .inr rfl⟩
    obtain ⟨kd, m, e⟩ := m
    have z := List.all_eq_true.mp hs _ m
    have z2 : (cl.lookup y).isSome = true := by
      rcases e with rfl | rfl
      · simpa using z
      · simpa using z
    exact Option.isSome_iff_exists.mp z2
  cap := fun i x j e1 e2 => by
    have li : i < N.length := (List.getElem?_eq_some_iff.mp e1).1
    have z := List.all_eq_true.mp cp i (List.mem_range.mpr li)
    rw [e1, e2] at z
    simp only [Bool.and_eq_true, Bool.or_eq_true, beq_iff_eq] at z
    obtain ⟨⟨z1, z2⟩, z3⟩ := z
    refine ⟨z1, .inr z2, fun q => ?_, z3⟩
    have q' : X.env.scope.names.lookup x = some .local := q
    rcases z2 with z2 | z2 <;> (rw [z2] at q'; cases q')
  len := ln
/-- the loop of a comprehension without tests; nothing is raised -/
theorem compLoop_go {prog : Program} {w : World} {A : Around} {R : Result → Shared → Prop} {s : Shared} {elt target iter : Expr} {scope : Scope} {pos : Pos} {it acc : Value} {env : Env} (I : Nat → Shared → Prop)
    (turn : ∀ n s, I n s → wpAny (model prog w) A (pyNext it) (fun r s₁ => match r with
      | none => R (.ok .next) s₁
      | some v => wpAny (model prog w) A (letOwnedTupleGo target it v) (fun _ s₂ => wpAny (model prog w) A (assign target env v) (fun _ s₃ => wpAny (model prog w) A (eval elt env) (fun x s₄ =>
          wpAny (model prog w) A (call (.builtin "list.append") [acc, x]) (fun _ s₅ => ∃ m, m < n ∧ I m s₅) (fun _ _ => False) s₄) (fun _ _ => False) s₃) (fun _ _ => False) s₂) (fun _ _ => False) s₁) (fun _ _ => False) s)
    (n : Nat) (h : I n s) : codeAny (model prog w) A (.compLoop (.ListComp elt [⟨target, iter, [], 0⟩] scope pos) 0 it acc env) R s := by
  refine codeAny_loop rfl I (fun n s hI => ?_) n h
  show wpAny _ A ((compTurn (.ListComp elt [⟨target, iter, [], 0⟩] scope pos) 0 it acc env).onRaise (fun x => do noteFrame x env; theTreesLotGoes x)) _ _ s
  refine wpAny_noted ?_
  rw [compTurn_list]
  have no : ∀ {E' : Value → Shared → Prop} (e : Value) (s' : Shared), (fun (_ : Value) (_ : Shared) => False) e s' → E' e s' := fun _ _ f => f.elim
  refine wpAny_bind (wpAny_standAt (wpAny_bind (wpAny_mono (turn n s hI) (fun r s₁ h₁ => ?_) no)))
  cases r with
  | none => exact wpAny_pure h₁
  | some v =>
    refine wpAny_bind (wpAny_mono h₁ (fun _ s₂ h₂ => ?_) no)
    refine wpAny_bind (wpAny_mono h₂ (fun _ s₃ h₃ => wpAny_bind (wpAny_tests_nil ?_)) no)
    exact wpAny_bind (wpAny_bind (wpAny_mono h₃ (fun x s₄ h₄ => wpAny_bind (wpAny_mono h₄ (fun _ s₅ h₅ => wpAny_pure (wpAny_pure ⟨rfl, h₅⟩)) no)) no))
/-- the block: what is wanted at its end is RR -/
theorem comp_core {elt iter tg : Expr} {pos : Pos} {wi : TI} {g : TG} {te : TE} {pins : List (Addr × Obj)} {s : Shared} {σ : L2.St} {H : Hp} {Q : VK} (RR : Value → Addr → Result → Shared → Prop) (hc : X.calm = true) (B : BlkOk X N capt scope cl) (hi : PI X tg iter wi)
    (hg : ∀ C s H fp, PG (blk X N scope cl C s H fp) tg g) (he : ∀ C s H fp, PE (blk X N scope cl C s H fp) elt te) (I : Inv X pins σ H s) (h : tComp wi capt g te σ H Q)
    (fin : ∀ (D C : Addr) (s4 : Shared) (Hq : Hp) (m : Str → Option Value), Inv X pins σ Hq s4 → Q (.ref D) Hq → s4.heap.Ns C m → Hq C = none → C ≠ X.env.locals → X.s₀.heap.objs.size ≤ C → (∀ x c, X.env.cells.lookup x = some c → c ≠ C) → (∀ p ∈ X.pn ++ pins, p.1 ≠ C) → RR (.ref D) C (.ok .next) s4) :
    wpAny (model X.prog X.w) X.A (eval iter X.env) (fun x s₁ => wpAny (model X.prog X.w) X.A (pyIter x) (fun it s₂ => wpAny (model X.prog X.w) X.A (newList []) (fun acc s₃ =>
      wpAny (model X.prog X.w) X.A (newFunctionEnv scope X.env.globals cl [] X.env.qual none .none (some X.env)) (fun cenv s₄ =>
        codeAny (model X.prog X.w) X.A (.compStart (.ListComp elt [⟨tg, iter, [], 0⟩] scope pos) 0 it acc { cenv with scope := relabel scope X.env }) (RR acc cenv.locals) s₄) X.xe s₃) X.xe s₂) X.xe s₁) X.xe s := by
  refine thn (hi pins s σ H _ I h) fun v s1 h1 => thn h1 fun itv s2 h2 => ?_
  obtain ⟨it, fp, tn, J, H2, e, I2, T, st2, f2, n0, W, w0, turn⟩ := h2
  subst e
  have fl : ∀ b ∈ fp, b < s2.heap.objs.size := fun b hb => by obtain ⟨o, e, _⟩ := T.obj _ _ st2 b hb; exact Heap.lt_size e
  refine wpAny_newObj_type (wpAny_newFunctionEnv B.nocell (by intro y hy; simp at hy) (fun h₁ hns₁ hsb₁ => ?_) B.kind)
  dsimp only at hns₁ hsb₁ ⊢
  generalize hG : s2.heap.push { cls := .type "list", dict := none, data := .seq ([] : List Value).toArray } = G at hns₁ hsb₁ ⊢
  have hC : G.objs.size = s2.heap.objs.size + 1 := by rw [← hG, Heap.size_push]
  have hCle : s2.heap.objs.size ≤ G.objs.size := by rw [hC]; exact Nat.le_succ _
  have hDC : s2.heap.objs.size ≠ G.objs.size := by rw [hC]; exact Nat.ne_of_lt (Nat.lt_succ_self _)
  have old : ∀ b o, s2.heap.get? b = some o → h₁.get? b = some o := fun b o e => hsb₁.extBut b o (by rw [hC]; exact Nat.ne_of_lt (Nat.lt_succ_of_lt (Heap.lt_size e))) (Heap.get?_push_of_some _ (hG ▸ Heap.get?_push_of_some _ e))
  have hacc : h₁.get? s2.heap.objs.size = some { cls := .type "list", data := .seq ([] : List Value).toArray } := hsb₁.extBut _ _ hDC (Heap.get?_push_of_some _ (hG ▸ Heap.get?_push_size _ rfl))
  have ok' := blk_ok B I2 f2 fl hCle
  have nsD : s2.heap.objs.size ∉ frs X.stack := fun hb => by
    rcases List.mem_cons.mp (I2.stkSub _ hb) with z | z
    · exact absurd I2.lt (by rw [← z]; exact Nat.lt_irrefl _)
    · exact I2.nofs (Nat.le_refl _) z
  have ncD : ∀ x c, cl.lookup x = some c → c ≠ s2.heap.objs.size := fun x c e z => by
    obtain ⟨v, q⟩ := I2.cell x c (B.cells x c e)
    exact absurd q.lt (by rw [z]; exact Nat.lt_irrefl _)
  have nfD : ∀ b ∈ fp, s2.heap.objs.size ≠ b := fun b hb z => absurd (fl b hb) (by rw [← z]; exact Nat.lt_irrefl _)
  have I₁ : Inv (blk X N scope cl G.objs.size s2 H2 fp) [] (blkSt capt σ) H2 { s2 with heap := h₁, toks := s2.toks + ([] : List (Str × Value)).length } := blk_inv B I2 f2 fl hCle hns₁ old
  have loop : codeAny (model X.prog X.w) X.A (.compLoop (.ListComp elt [⟨tg, iter, [], 0⟩] scope pos) 0 (.ref it) (.ref s2.heap.objs.size) (compEnvC scope cl G.objs.size X.env))
      (RR (.ref s2.heap.objs.size) G.objs.size) { s2 with heap := h₁, toks := s2.toks + ([] : List (Str × Value)).length } := by
    refine compLoop_go (fun n s' => ∃ (i : Nat) (ys : List V) (its : List Value) (k : Nat) (Hc : Hp), Inv (blk X N scope cl G.objs.size s2 H2 fp) [] (blkSt capt σ) Hc s' ∧ s'.heap.get? s2.heap.objs.size = some { cls := .type "list", data := .seq its.toArray k } ∧ Vals ys its ∧
      Hc s2.heap.objs.size = none ∧ tn i s'.heap ∧ (∀ b ∈ fp, Hc b = none) ∧ W i ys Hc ∧ n = n0 - i) ?_ n0 ⟨0, [], [], 0, H2, I₁, hacc, .nil, I2.hok.fresh (Nat.le_refl _), T.keep _ _ _ st2 (fun b _ o e => old b o e), fun b hb => (f2 b hb).1, w0, rfl⟩
    rintro n s3 ⟨i, ys, its, k, Hc, I3, hD, hv, nD, st3, fr3, w3, en⟩
    obtain ⟨_, hl, step⟩ := turn i ys Hc w3
    have hz : its.toArray.size ≤ sizeLine := by rw [List.size_toArray, ← hv.length]; exact hl
    have I3p : Inv (blk X N scope cl G.objs.size s2 H2 fp) [(s2.heap.objs.size, { cls := .type "list", data := .seq its.toArray k })] (blkSt capt σ) Hc s3 := I3.pins_of fun p hp => by
      rw [List.mem_singleton] at hp
      subst hp
      exact ⟨hD, nD, hDC, nsD, fun v z => nomatch z⟩
    have fo3 : ∀ {Hx : Hp} (_ : ∀ b ∈ fp, Hx b = none), ∀ b ∈ fp, FpOk (blk X N scope cl G.objs.size s2 H2 fp) [(s2.heap.objs.size, { cls := .type "list", data := .seq its.toArray k })] Hx b := fun hx b hb =>
      ⟨hx b hb, (ok'.exf b hb).1, ok'.exfs b hb, .inl hb, (ok'.exf b hb).2, fun p hp => by
        have hp' : p ∈ [((s2.heap.objs.size, { cls := .type "list", data := .seq its.toArray k }) : Addr × Obj)] := hp
        rw [List.mem_singleton] at hp'
        subst hp'
        exact nfD b hb⟩
    rcases step with ⟨stop, q⟩ | ⟨ltn, go, nxt⟩
    · refine thn (T.done (blk X N scope cl G.objs.size s2 H2 fp) rfl rfl rfl hc i _ s3 _ Hc _ I3p (fo3 fr3) st3 stop) fun r s4 ⟨hr, I4⟩ => ?_
      subst hr
      have hD4 := (I4.pin (s2.heap.objs.size, { cls := .type "list", data := .seq its.toArray k }) (List.mem_append_right _ (List.mem_singleton.mpr rfl))).1
      obtain ⟨m, hn, _⟩ := I4.loc
      have nDt : ∀ b u, Hc b = some u → b ≠ s2.heap.objs.size := fun b u e z => by rw [z, nD] at e; cases e
      have oldC : ∀ b o, s2.heap.get? b = some o → b ≠ s2.heap.objs.size := fun b o e => Nat.ne_of_lt (Heap.lt_size e)
      have ub : Un (frs X.stack) fp H2 Hc s2.heap s4.heap := I4.base
      have cC : ∀ b, b < s2.heap.objs.size → b ≠ G.objs.size := fun b hb z => absurd (Nat.lt_of_lt_of_le hb hCle) (by rw [z]; exact Nat.lt_irrefl _)
      refine fin _ G.objs.size s4 (upd Hc s2.heap.objs.size (.lst ys)) m ?_ (q _ nD) hn (by rw [upd_ne (fun z => hDC z.symm)]; exact I4.free) (fun z => cC _ I2.lt z.symm) (Nat.le_trans I2.sz hCle)
        (fun x c e => by obtain ⟨v, q⟩ := I2.cell x c e; exact cC _ q.lt) fun p hp => cC _ (Heap.lt_size (I2.pin p hp).1)
      refine I2.call' (ch := fp) (s' := s4) I4.os ?_ ?_ I4.bare fun b hb => ⟨(f2 b hb).2.2.2.1, (f2 b hb).2.1, (f2 b hb).2.2.2.2.1, (f2 b hb).2.2.2.2.2⟩
      · refine ⟨ub.keep, ub.slot, fun b o e n hx => ?_, ub.there, fun b xs e => ?_, fun b o u e => ?_, fun b ps e => ?_⟩
        · rw [upd_ne (oldC b o e)]; exact ub.free b o e n hx
        · have z := ub.tups b xs e
          rw [upd_ne (nDt b _ z)]; exact z
        · have z := ub.frzs b o u e
          rw [upd_ne (nDt b _ z)]; exact z
        · obtain ⟨more, z⟩ := ub.tbls b ps e
          exact ⟨more, by rw [upd_ne (nDt b _ z)]; exact z⟩
      · intro b u e
        by_cases hb : b = s2.heap.objs.size
        · subst hb
          rw [upd_same] at e
          cases e
          exact ⟨hl, its, k, hv, hD4⟩
        · rw [upd_ne hb] at e
          exact (I4.hok b u e).stay (fun c v _ q => q) (fun c q => by rw [upd_ne (nDt c _ q)]; exact q) fun c xs q => by rw [upd_ne (nDt c _ q)]; exact q
    · refine thn (T.item (blk X N scope cl G.objs.size s2 H2 fp) rfl rfl rfl hc i _ s3 _ Hc _ I3p (fo3 fr3) st3 go) fun r s4 ⟨u, hr, h4⟩ => ?_
      subst hr
      refine thn h4 fun _ s5 ⟨x, H5, I5, r5, y5, st5, fr5⟩ => ?_
      have I5' := I5.pinned (fo3 fr5) (T.obj _ _ st5)
      refine thn (hg _ _ _ _ _ s5 _ H5 x u _ I5' r5 (nxt x H5 y5)) fun _ s6 ⟨σ6, H6, I6, q6⟩ => ?_
      refine thn (he _ _ _ _ _ s6 σ6 H6 _ I6 q6) fun uy s7 ⟨y, H7, I7, r7, w7⟩ => ?_
      have pD := I7.pin (s2.heap.objs.size, { cls := .type "list", data := .seq its.toArray k }) (List.mem_append_right _ (List.mem_append_left _ (List.mem_singleton.mpr rfl)))
      have pF : ∀ b ∈ fp, ∀ o, s5.heap.get? b = some o → s7.heap.get? b = some o ∧ H7 b = none := fun b hb o e => by
        have z := I7.pin (b, o) (List.mem_append_right _ (List.mem_append_right _ (mem_pinsAt hb e)))
        exact ⟨z.1, z.2.1⟩
      refine append_at (hsz := hz) pD.1 fun h8 sb8 hD8 => ?_
      have I7n : Inv (blk X N scope cl G.objs.size s2 H2 fp) [] σ6 H7 s7 := I7.pins_of fun p hp => nomatch hp
      have I8 : Inv (blk X N scope cl G.objs.size s2 H2 fp) [] σ6 H7 { s7 with heap := h8, toks := s7.toks } := I7n.turned (fun b o hb e => sb8.extBut b o hb e) pD.2.1 hDC (.inr (Nat.le_refl _)) ncD (fun p hp => nomatch hp)
      refine ⟨n0 - (i + 1), by omega, i + 1, ys ++ [y], its ++ [uy], k + 1, H7, blk_again B I2 f2 I8, ?_, Paired.snoc hv r7, pD.2.1, T.keep _ _ _ st5 (fun b hb o e => sb8.extBut b o (nfD b hb).symm (pF b hb o e).1), fun b hb => ?_, w7, rfl⟩
      · show h8.get? _ = _
        rw [hD8, List.push_toArray]
      · obtain ⟨o, e, _⟩ := T.obj _ _ st5 b hb
        exact (pF b hb o e).2
  exact codeAny_compStart_list loop (T.self X.A 0 _ _ _ (T.keep _ _ _ st2 (fun b _ o e => old b o e)) loop)
theorem pe_comp {elt iter tg : Expr} {pos : Pos} {wi : TI} {g : TG} {te : TE} (hc : X.calm = true) (B : BlkOk X N capt scope cl) (hi : PI X tg iter wi)
    (hg : ∀ C s H fp, PG (blk X N scope cl C s H fp) tg g) (he : ∀ C s H fp, PE (blk X N scope cl C s H fp) elt te)
    (hs : ∀ x, foldedSetIterable iter X.env x = pure x := by intro _; rfl) : PE X (.ListComp elt [⟨tg, iter, [], 0⟩] scope pos) (tComp wi capt g te) := by
  intro pins s σ H Q I h
  rw [eval_ListComp]
  refine wpAny_comprehension_free (use := none) rfl hs B.clos B.kind B.names (comp_core (fun acc C => compPost (model X.prog X.w) X.A X.xe none (EP X pins σ Q) acc C) hc B hi hg he I h fun D C s4 Hq m I4 q hn hf h1 h2 h3 h4 => ?_)
  exact ⟨m, hn, fun h' sb => ⟨.ref D, Hq, I4.turned (fun b o hb e => sb.extBut b o hb e) hf h1 (.inr h2) h3 h4, rfl, q⟩⟩
/-- name = [.. for ..]: stored ahead of the block's end -/
theorem ps_setC {i : Nat} {x : Str} {pos' spos : Pos} {elt iter tg : Expr} {pos : Pos} {wi : TI} {g : TG} {te : TE} (hN : X.N.Nodup) (hi' : X.N[i]? = some x) (hx : Loc X.env.scope x) (hc : X.calm = true) (B : BlkOk X N capt scope cl) (hi : PI X tg iter wi)
    (hg : ∀ C s H fp, PG (blk X N scope cl C s H fp) tg g) (he : ∀ C s H fp, PE (blk X N scope cl C s H fp) elt te)
    (hsw : swapsWith (.ListComp elt [⟨tg, iter, [], 0⟩] scope pos) (some (.Name x pos')) spos.line X.env = pure true := by rfl)
    (hs : ∀ x, foldedSetIterable iter X.env x = pure x := by intro _; rfl) (hf : X.fn x = true ∨ X.env.scope.names.lookup x = some .local := by first | exact .inl rfl | exact .inr rfl | assumption) :
    PS X (.Assign [.Name x pos'] (.ListComp elt [⟨tg, iter, [], 0⟩] scope pos) spos) (tAsg (tComp wi capt g te) (gName i)) := by
  intro pins s σ H D I h
  rw [exec_Assign_Name_used _ _ _ _ hsw]
  refine wpAny_bind (wpAny_standAt (wpAny_bind ?_))
  show wpAny _ X.A (do let _ ← comprehension (.ListComp elt [⟨tg, iter, [], 0⟩] scope pos) scope X.env _ (newList []) false (eval iter X.env) (some (assign (.Name x pos') X.env))) _ _ s
  refine wpAny_bind (wpAny_mono (wpAny_comprehension_free (use := some (assign (.Name x pos') X.env)) (Q := fun _ s' => SP X pins D .next s') rfl hs B.clos B.kind B.names
    (comp_core (fun acc C => compPost (model X.prog X.w) X.A X.xe (some (assign (.Name x pos') X.env)) (fun _ s' => SP X pins D .next s') acc C) hc B hi hg he I h fun Da C s4 Hq m I4 q hn hfr h1 h2 h3 h4 => ?_)) (fun _ s' hq => wpAny_pure (wpAny_pure hq)) fun _ _ e => e)
  show wpAny _ X.A (assign (.Name x pos') X.env (.ref Da)) _ _ _
  refine wpAny_assign_Name (store_ok2 I4 hN hi' hx (v := .ref Da) rfl (fun s5 I5 ⟨a, sb5, ha⟩ => ⟨m, hn.sameBut sb5 ?_, fun h' sb => ⟨_, _, I5.turned (fun b o hb e => sb.extBut b o hb e) hfr h1 (.inr h2) h3 h4, q⟩⟩) hf)
  rcases ha with z | z
  · rw [z]; exact h1
  · exact fun e => h3 x a z e.symm
end
end Bs
namespace Bs
open PySem PySem.Spec PyProof.Rows L2
open PySem.AutoSeq1 (wpAny_loadPart')
/-! ### enumerate over a tuple, as the library has it over a list -/
section
variable {prog : Program} {w : World} {A : Around} {E : Value → Shared → Prop} {s : Shared} {e it t : Addr} {i : Nat} {zs : Array Value}
theorem nextT_item {x : Value} {Q : Value → Shared → Prop} (si : s.heap.IsTupleIter it t i) (st : s.heap.IsTuple t zs) (hx : zs[i]? = some x)
    (hQ : ∀ g, g.IsTupleIter it t (i + 1) → Heap.SameBut it s.heap g → Q x { s with heap := g }) : wpAny (model prog w) A (Builtin.SmallTypes.nextOf (.ref it)) Q E s := by
  obtain ⟨oi, gi, ci, di⟩ := id si
  obtain ⟨ot, gt, _, kt, dt⟩ := st
  unfold Builtin.SmallTypes.nextOf
  refine wpAny_bind (wpAny_callSpecial?_slot (name := Str.ofString "__next__") si.typeIs F.slot_tuple_iterator_next (wpAny_call_entry F.slot_tuple_iterator_next si.typeIs F.entry_tuple_iterator_next ?_ (F.args_tuple_iterator_next_1 _)))
  show wpAny _ _ (field (.ref it) 0 >>= _) _ _ s
  refine wpAny_bind (wpAny_field gi di (x := .ref t) rfl ?_)
  show wpAny _ _ (if (Value.ref t == Value.none) = true then _ else _) _ _ s
  rw [if_neg (fun q : (Value.ref t == Value.none) = true => Bool.false_ne_true q)]
  show wpAny _ _ (field (.ref it) 1 >>= _) _ _ s
  refine wpAny_bind (wpAny_field gi di (x := .int i 0) rfl ?_)
  show wpAny _ _ (seqItems? (.ref t) >>= _) _ _ s
  refine wpAny_bind (wpAny_seqItems gt dt ?_)
  simp only [Int.toNat_natCast, hx]
  refine wpAny_bind (wpAny_setField gi di (by simp) (wpAny_pure ⟨x, rfl, wpAny_pure (hQ _ ⟨_, Heap.get?_update_self _ gi (Obj.isFreed_of_fields (Obj.data_mapFields di _)), (Obj.cls_mapFields ..).trans ci, ?_⟩ (Heap.SameBut.update ..))⟩))
  rw [Obj.data_mapFields di]
  simp [rawInt]
theorem nextT_end {Q : Value → Shared → Prop} (hh : A.handled = none) (si : s.heap.IsTupleIter it t i) (st : s.heap.IsTuple t zs) (hx : zs[i]? = none)
    (hE : ∀ g x, Heap.ExtBut it s.heap g → (∃ o, g.get? x = some o ∧ o.cls = .type "StopIteration") → E (.ref x) { s with heap := g }) : wpAny (model prog w) A (Builtin.SmallTypes.nextOf (.ref it)) Q E s := by
  obtain ⟨oi, gi, ci, di⟩ := id si
  obtain ⟨ot, gt, _, kt, dt⟩ := st
  unfold Builtin.SmallTypes.nextOf
  refine wpAny_bind (wpAny_callSpecial?_slot (name := Str.ofString "__next__") si.typeIs F.slot_tuple_iterator_next (wpAny_call_entry F.slot_tuple_iterator_next si.typeIs F.entry_tuple_iterator_next ?_ (F.args_tuple_iterator_next_1 _)))
  show wpAny _ _ (field (.ref it) 0 >>= _) _ _ s
  refine wpAny_bind (wpAny_field gi di (x := .ref t) rfl ?_)
  show wpAny _ _ (if (Value.ref t == Value.none) = true then _ else _) _ _ s
  rw [if_neg (fun q : (Value.ref t == Value.none) = true => Bool.false_ne_true q)]
  show wpAny _ _ (field (.ref it) 1 >>= _) _ _ s
  refine wpAny_bind (wpAny_field gi di (x := .int i 0) rfl ?_)
  show wpAny _ _ (seqItems? (.ref t) >>= _) _ _ s
  refine wpAny_bind (wpAny_seqItems gt dt ?_)
  simp only [Int.toNat_natCast, hx]
  refine wpAny_bind (wpAny_rule (wpAny_bind (wpAny_setField gi di (by simp) (wpAny_bind ?_))))
  simp only [newExc, newTuple]
  refine wpAny_bind (wpAny_newObj_type (wpAny_bind (m := firstArgMember _ _) (wpAny_of_eq (a := Value.none) (by first | rfl | (simp only [firstArgMember]; rfl)) (wpAny_newObj_type ?_ (by size_fits)))) (by size_fits))
  simp only [raiseNew]
  refine wpAny_bind (wpAny_handled ?_)
  first
    | rw [show A.in1.handled = none from hh]
    | rw [hh]
  exact wpAny_bind (wpAny_pure (wpAny_throw (hE _ _ (((Heap.SameBut.update ..).extBut.push _).push _) ⟨_, Heap.get?_push_size _ rfl, rfl⟩)))
theorem enumT_item {x old : Value} {Q : Value → Shared → Prop} (se : IsEnum s.heap e it i old) (si : s.heap.IsTupleIter it t i) (st : s.heap.IsTuple t zs) (hx : zs[i]? = some x) (ne : e ≠ it)
    (hQ : ∀ g, IsEnumOut g e it ((i : Int) + 1) x s.heap.objs.size → g.IsTupleIter it t (i + 1) → g.get? s.heap.objs.size = some { cls := .type "tuple", data := .seq #[.int i s.toks, x] } →
      (∀ b o, b ≠ e → b ≠ it → s.heap.get? b = some o → g.get? b = some o) → Q (.ref s.heap.objs.size) { s with heap := g, toks := s.toks + 1 }) :
    wpAny (model prog w) A (Builtin.«enumerate.__next__» ⟨[.ref e], []⟩) (fun fin s' => ∃ v, fin = .done (.ret v) ∧ Q v s') E s := by
  obtain ⟨g0, gn, dr, tk, os⟩ := s
  show wpAny _ _ (field (.ref e) 2 >>= _) _ _ _
  refine wpAny_bind (wpAny_field se rfl (x := .ref it) rfl ?_)
  refine wpAny_bind (nextT_item si st hx fun g1 i1 b1 => ?_)
  replace b1 : Heap.SameBut it g0 g1 := b1
  have e1 : IsEnum g1 e it i old := (b1.2 e ne).trans se
  show wpAny _ _ (field (.ref e) 3 >>= _) _ _ ⟨g1, gn, dr, tk, os⟩
  refine wpAny_bind (wpAny_field e1 rfl (x := rawInt i) rfl ?_)
  show wpAny _ _ (field (.ref e) 4 >>= _) _ _ ⟨g1, gn, dr, tk, os⟩
  refine wpAny_bind (wpAny_field e1 rfl (x := .none) rfl ?_)
  show wpAny _ _ (mkInt i >>= _) _ _ ⟨g1, gn, dr, tk, os⟩
  refine wpAny_bind (wpAny_mkInt ?_)
  show wpAny _ _ (setField (.ref e) 3 (rawInt ((i : Int) + 1)) >>= _) _ _ ⟨g1, gn, dr, tk + 1, os⟩
  refine wpAny_bind (wpAny_setField_rec e1 (by simp) fun g2 e2 b2 => ?_)
  replace b2 : Heap.SameBut e g1 g2 := b2
  replace e2 : IsEnum g2 e it ((i : Int) + 1) old := e2
  show wpAny _ _ (setField (.ref e) 4 .none >>= _) _ _ ⟨g2, gn, dr, tk + 1, os⟩
  refine wpAny_bind (wpAny_setField_rec e2 (by simp) fun g3 e3 b3 => ?_)
  replace b3 : Heap.SameBut e g2 g3 := b3
  replace e3 : IsEnum g3 e it ((i : Int) + 1) old := e3
  show wpAny _ _ (newTuple [.int i tk, x] >>= _) _ _ ⟨g3, gn, dr, tk + 1, os⟩
  refine wpAny_bind (wpAny_newTuple ?_)
  have e4 : IsEnum (g3.push { cls := .type "tuple", data := .seq #[.int i tk, x] }) e it ((i : Int) + 1) old := Heap.get?_push_of_some _ e3
  generalize q4 : g3.push { cls := .type "tuple", data := .seq #[.int i tk, x] } = g4 at e4
  have z3 : g3.objs.size = g0.objs.size := by rw [b3.1, b2.1, b1.1]
  have le : e < g0.objs.size := Heap.lt_size se
  have t4 : g4.get? g0.objs.size = some { cls := .type "tuple", data := .seq #[.int i tk, x] } := by rw [← q4, ← z3]; exact Heap.get?_push_size _ rfl
  have k4 : ∀ b o, b ≠ e → b ≠ it → g0.get? b = some o → g4.get? b = some o := fun b o h1 h2 h3 => by
    rw [← q4]; exact Heap.get?_push_of_some _ (b3.extBut b o h1 (b2.extBut b o h1 (b1.extBut b o h2 h3)))
  have i4 : g4.IsTupleIter it t (i + 1) := by
    obtain ⟨o, ho, hr⟩ := i1
    exact ⟨o, by rw [← q4]; exact Heap.get?_push_of_some _ (b3.extBut it o ne.symm (b2.extBut it o ne.symm ho)), hr⟩
  show wpAny _ _ (Builtin.SmallTypes.ownedTupleIsFree (.ref e) >>= _) _ _ ⟨g4, gn, dr, tk + 1, os⟩
  rw [z3]
  clear q4 e3 b3 e2 b2 e1 b1 i1 z3 g3 g2 g1
  refine wpAny_bind ?_
  unfold Builtin.SmallTypes.ownedTupleIsFree
  refine wpAny_bind (wpAny_field e4 rfl (x := .none) rfl (wpAny_pure ?_))
  simp only [if_true]
  refine wpAny_bind (wpAny_rule (wpAny_bind (wpAny_field e4 rfl (x := old) rfl (wpAny_bind (wpAny_setField_rec e4 (by simp) fun g5 e5 b5 => ?_)))))
  replace b5 : Heap.SameBut e g4 g5 := b5
  replace e5 : IsEnum g5 e it ((i : Int) + 1) x := e5
  show wpAny _ _ (Builtin.SmallTypes.ownedTupleHandOut (.ref e) (.ref g0.objs.size) >>= _) _ _ ⟨g5, gn, dr, tk + 1, os⟩
  refine wpAny_bind ?_
  unfold Builtin.SmallTypes.ownedTupleHandOut
  refine wpAny_bind (wpAny_setField_rec e5 (by simp) fun g6 e6 b6 => ?_)
  replace b6 : Heap.SameBut e g5 g6 := b6
  replace e6 : IsEnumOut g6 e it ((i : Int) + 1) x g0.objs.size := e6
  refine wpAny_setField_rec e6 (by simp) fun g7 e7 b7 => ?_
  replace b7 : Heap.SameBut e g6 g7 := b7
  replace e7 : IsEnumOut g7 e it ((i : Int) + 1) x g0.objs.size := e7
  have up : ∀ b o, b ≠ e → g4.get? b = some o → g7.get? b = some o := fun b o h1 h2 => b7.extBut b o h1 (b6.extBut b o h1 (b5.extBut b o h1 h2))
  refine wpAny_bind (wpAny_letGo (wpAny_pure ⟨_, rfl, hQ g7 e7 ?_ (up _ _ (Nat.ne_of_gt le) t4) fun b o h1 h2 h3 => up b o h1 (k4 b o h1 h2 h3)⟩))
  obtain ⟨o, ho, hr⟩ := i4
  exact ⟨o, up it o ne.symm ho, hr⟩
theorem enumT_next {x old : Value} {Q : Option Value → Shared → Prop} (se : IsEnum s.heap e it i old) (si : s.heap.IsTupleIter it t i) (st : s.heap.IsTuple t zs) (hx : zs[i]? = some x) (ne : e ≠ it)
    (hQ : ∀ g, IsEnumOut g e it ((i : Int) + 1) x s.heap.objs.size → g.IsTupleIter it t (i + 1) → g.get? s.heap.objs.size = some { cls := .type "tuple", data := .seq #[.int i s.toks, x] } →
      (∀ b o, b ≠ e → b ≠ it → s.heap.get? b = some o → g.get? b = some o) → Q (some (.ref s.heap.objs.size)) { s with heap := g, toks := s.toks + 1 }) : wpAny (model prog w) A (pyNext (.ref e)) Q E s := by
  have ty : s.TypeIs (.ref e) "enumerate" := ⟨_, se, rfl⟩
  unfold pyNext
  exact wpAny_bind (wpAny_attempt (wpAny_callSpecial?_slot (name := Str.ofString "__next__") ty F.slot_enumerate_next (wpAny_call_entry F.slot_enumerate_next ty F.entry_enumerate_next (enumT_item se si st hx ne fun g a b c k => wpAny_pure (hQ g a b c k)) (F.args_enumerate_next_1 _))))
theorem enumT_end {old : Value} {Q : Option Value → Shared → Prop} (hh : A.handled = none) (se : IsEnum s.heap e it i old) (si : s.heap.IsTupleIter it t i) (st : s.heap.IsTuple t zs) (hx : zs[i]? = none)
    (hQ : ∀ g, Heap.ExtBut it s.heap g → Q none { s with heap := g }) : wpAny (model prog w) A (pyNext (.ref e)) Q E s := by
  have ty : s.TypeIs (.ref e) "enumerate" := ⟨_, se, rfl⟩
  unfold pyNext
  refine wpAny_bind (wpAny_attempt (wpAny_callSpecial?_slot (name := Str.ofString "__next__") ty F.slot_enumerate_next (wpAny_call_entry F.slot_enumerate_next ty F.entry_enumerate_next ?_ (F.args_enumerate_next_1 _))))
  show wpAny _ _ (field (.ref e) 2 >>= _) _ _ _
  refine wpAny_bind (wpAny_field se rfl (x := .ref it) rfl (wpAny_bind (nextT_end hh si st hx fun g x eb ⟨o, ho, hc⟩ => ?_)))
  exact wpAny_bind (wpAny_isInstance (T := "StopIteration") (b := true) ⟨o, ho, hc⟩ isSubtype_stop (wpAny_pure (hQ _ eb)))
theorem meets_enumT (n : Nat) (dct : Option Addr) (sl : Array (Option Value)) :
    Meets (Builtin.«enumerate.__new__» ⟨[.type "enumerate", .ref t], []⟩) (fun _ R s => s.heap.get? t = some { cls := .type "tuple", dict := dct, data := .seq zs n, slots := sl } ∧
      R (.ok (.ret (.ref (s.heap.push { cls := .type "tuple_iterator", data := .fields #[.ref t, .int 0 0] }).objs.size)))
        { s with heap := (s.heap.push { cls := .type "tuple_iterator", data := .fields #[.ref t, .int 0 0] }).push { cls := .type "enumerate", data := .fields #[.none, .bool false, .ref s.heap.objs.size, rawInt 0, .none, .none] } }) :=
  .of_wp fun prog w A R s h => by
    obtain ⟨g0, gn, dr, tk, os⟩ := s
    obtain ⟨ht, h⟩ := h
    have hsub := sub_enumerate
    have hT : Heap.IsTuple (Shared.heap ⟨g0, gn, dr, tk, os⟩) t zs := ⟨_, ht, rfl, n, rfl⟩
    wp_walk using wpAny_loadPart' ht
    refine wpAny_stack_any fun st => wpAny_pure ?_
    split
    · rename_i c _ _ _ _ _
      cases (c == Value.type "enumerate") <;> (wp_walk using wpAny_loadPart' ht, wpAny_pyIter_tuple hT; exact ⟨_, rfl, h⟩)
    · wp_walk using wpAny_loadPart' ht, wpAny_pyIter_tuple hT
      exact ⟨_, rfl, h⟩
theorem call_enumT {Q : Value → Shared → Prop} (hT : s.heap.IsTuple t zs)
    (h : ∀ g, IsEnum g (s.heap.objs.size + 1) s.heap.objs.size 0 .none → g.IsTupleIter s.heap.objs.size t 0 → (∀ b o, s.heap.get? b = some o → g.get? b = some o) → Q (.ref (s.heap.objs.size + 1)) { s with heap := g }) :
    wpAny (model prog w) A (call (.type "enumerate") [.ref t]) Q E s := by
  obtain ⟨⟨c, dct, da, sl⟩, ht, hc, n, hd⟩ := hT
  replace hc : c = .type "tuple" := hc
  replace hd : da = .seq zs n := hd
  subst hc hd
  refine callType_new F.called_enumerate (by decide) (F.typeCall_enumerate_1 _) (F.newCall_enumerate_1 _) (fun obj => F.args_object_init_2 obj _) F.entry_enumerate_new (meets_enumT n dct sl) ⟨ht, ?_⟩
  have z1 : (s.heap.push { cls := .type "tuple_iterator", data := .fields #[.ref t, .int 0 0] }).objs.size = s.heap.objs.size + 1 := Heap.size_push ..
  show _ ∧ _
  rw [z1]
  have se : IsEnum ((s.heap.push { cls := .type "tuple_iterator", data := .fields #[.ref t, .int 0 0] }).push { cls := .type "enumerate", data := .fields #[.none, .bool false, .ref s.heap.objs.size, rawInt 0, .none, .none] }) (s.heap.objs.size + 1) s.heap.objs.size 0 .none := by
    have z := Heap.get?_push_size (s.heap.push { cls := .type "tuple_iterator", data := .fields #[.ref t, .int 0 0] }) (o := { cls := .type "enumerate", data := .fields #[.none, .bool false, .ref s.heap.objs.size, rawInt 0, .none, .none] }) rfl
    rw [z1] at z
    exact z
  exact ⟨⟨_, se, rfl⟩, h _ se ⟨_, Heap.get?_push_of_some _ (Heap.get?_push_size _ rfl), rfl, rfl⟩ fun b o x => Heap.get?_push_of_some _ (Heap.get?_push_of_some _ x)⟩
end
/-! ### enumerate as what a loop walks: a new pair at each turn -/
section
variable {X : Cx} {pins : List (Addr × Obj)} {σ : L2.St} {H : Hp} {s : Shared}
/-- two untracked records of ours have turned, a tuple is new -/
theorem inv_pair {e it : Addr} {g : Heap} {tk : Nat} {xs : List V} {its : List Value} (I : Inv X pins σ H s) (fe : FpOk X pins H e) (fi : FpOk X pins H it) (k : ∀ b o, b ≠ e → b ≠ it → s.heap.get? b = some o → g.get? b = some o)
    (hz : xs.length ≤ sizeLine) (rv : Vals xs its) (ht : g.get? s.heap.objs.size = some { cls := .type "tuple", data := .seq its.toArray }) : Inv X pins σ (upd H s.heap.objs.size (.tup xs)) { s with heap := g, toks := tk } := by
  have nT : H s.heap.objs.size = none := I.hok.fresh (Nat.le_refl _)
  have old : ∀ b o, s.heap.get? b = some o → b ≠ s.heap.objs.size := fun b o q => Nat.ne_of_lt (Heap.lt_size q)
  have tr : ∀ b u, H b = some u → b ≠ s.heap.objs.size ∧ b ≠ e ∧ b ≠ it := fun b u q => ⟨ne_of_none q nT, ne_of_none q fe.1, ne_of_none q fi.1⟩
  have off : ∀ b, b ∉ [e, it] → b ≠ e ∧ b ≠ it := fun b hb => ⟨fun z => hb (by simp [z]), fun z => hb (by simp [z])⟩
  refine I.step (g' := s.gens) (d' := s.drawn) (ch := [e, it]) (fun b hb => ?_) (fun b o _ _ hc q _ => k b o (off b hc).1 (off b hc).2 q) (fun b o _ _ hc q _ => ⟨o.slots, k b o (off b hc).1 (off b hc).2 q⟩) (fun b o _ q n => ?_) (fun b o hc q => ⟨o, k b o (off b hc).1 (off b hc).2 q⟩)
    (fun b ys q => ?_) (fun b o u q => ?_) (fun b ps q => ⟨#[], ?_⟩) (fun m hm => ?_) (fun b u q => ?_) I.bare
  · have z : b = e ∨ b = it := by simpa using hb
    rcases z with rfl | rfl
    · exact ⟨fe.2.2.2.1, fe.2.1, fe.2.2.2.2.1, fe.2.2.2.2.2⟩
    · exact ⟨fi.2.2.2.1, fi.2.1, fi.2.2.2.2.1, fi.2.2.2.2.2⟩
  · rw [upd_ne (old b o q)]; exact n
  · rw [upd_ne (tr b _ q).1]; exact q
  · rw [upd_ne (tr b _ q).1]; exact q
  · rw [upd_ne (tr b _ q).1, q]; simp
  · obtain ⟨o, es, ep, ho, hr⟩ := hm
    exact ⟨o, es, ep, k _ o fe.2.1.symm fi.2.1.symm ho, hr⟩
  · by_cases hb : b = s.heap.objs.size
    · subst hb
      rw [upd_same] at q
      cases q
      exact ⟨hz, its, rv, ⟨_, ht, rfl, _, rfl⟩⟩
    · rw [upd_ne hb] at q
      refine (I.hok b u q).stay (fun c v hc z => ?_) (fun c z => by rw [upd_ne (tr c _ z).1]; exact z) fun c ys z => by rw [upd_ne (tr c _ z).1]; exact z
      rcases hc with y | y
      · subst y; exact k _ v (tr _ u q).2.1 (tr _ u q).2.2 z
      · exact k c v (tr c _ y).2.1 (tr c _ y).2.2 z
end
theorem turn_enumL {P : Program} {w : World} {K : PySem.W.Frag} {elts : List Expr} {k : Nat} {pos : Pos} (a e it : Addr) (ne : e ≠ it) : Turn P w K (.Tuple elts k pos) (IteL K a) [e, it] e (fun i h => (∃ old, IsEnum h e it i old) ∧ h.IsListIter it a i) where
  mem := by simp
  obj := fun i h st b hb => by
    obtain ⟨⟨old, se⟩, o, ho, c, d⟩ := st
    have z : b = e ∨ b = it := by simpa using hb
    rcases z with rfl | rfl
    · exact ⟨_, se, fun v z => nomatch z⟩
    · exact ⟨o, ho, fun v z => by rw [d] at z; cases z⟩
  keep := fun i h h' st kk => ⟨let ⟨old, se⟩ := st.1; ⟨old, kk e (by simp) _ se⟩, st.2.at fun o q => kk it (by simp) o q⟩
  item := by
    intro X hP hw hK hc i pins s σ H E I hf st hg
    subst hP hw hK
    obtain ⟨xs, x, hq, hx⟩ := hg
    obtain ⟨⟨old, se⟩, si⟩ := st
    obtain ⟨its, rv, p, hz⟩ := I.list hq
    obtain ⟨u, hu, ru⟩ := rv.get hx
    refine wpAny_pyNext_enum_item se si p.isList (x := u) (by simpa using hu) ne fun g eo gi gt _ gk => ?_
    refine ⟨_, rfl, wpAny_letOwnedTupleGo_enum eo fun g' se' sb => ?_⟩
    have I1 := inv_pair (g := g') (tk := s.toks + 1) (xs := [.int i, x]) (its := [.int i s.toks, u]) I (hf e (by simp)) (hf it (by simp)) (fun b o h1 h2 q => sb.extBut b o h1 (gk b o h1 h2 q)) (sz (by simp)) (.cons ⟨_, rfl⟩ (.cons ru .nil)) (sb.extBut _ _ (Nat.ne_of_gt (Heap.lt_size se)) gt)
    refine ⟨.ref s.heap.objs.size, _, I1, rfl, ⟨_, x, I.hok.fresh (Nat.le_refl _), rfl, rfl, fun ys hy => by rw [I.list_inj hy hq]; exact hx⟩, ⟨⟨_, by simpa using se'⟩, gi.at fun o q => sb.extBut it o ne.symm q⟩, fun b hb => ?_⟩
    rw [upd_ne]
    · exact (hf b hb).1
    · have z : b = e ∨ b = it := by simpa using hb
      rcases z with rfl | rfl
      · exact Nat.ne_of_lt (Heap.lt_size se)
      · obtain ⟨o, ho, _⟩ := si; exact Nat.ne_of_lt (Heap.lt_size ho)
  done := by
    intro X hP hw hK hc i pins s σ H E I hf st hg
    subst hP hw hK
    obtain ⟨xs, hq, hx⟩ := hg
    obtain ⟨⟨old, se⟩, si⟩ := st
    obtain ⟨its, rv, p, hz⟩ := I.list hq
    obtain ⟨f0, f1, f2, f3, f4, f5⟩ := hf it (by simp)
    have hl := rv.length
    exact wpAny_pyNext_enum_end (I.ok.hd hc) se si p.isList (by simp; omega) fun g eb => ⟨rfl, I.turned (t' := s.toks) (fun b o hb q => eb b o hb q) f0 f1 f3 f4 f5⟩
  self := fun _ _ _ _ _ st h => let ⟨_, se⟩ := st.1; wpAny_pyIter_enum se h
theorem turn_enumT {P : Program} {w : World} {K : PySem.W.Frag} {elts : List Expr} {k : Nat} {pos : Pos} (a e it : Addr) (ne : e ≠ it) : Turn P w K (.Tuple elts k pos) (IteT K a) [e, it] e (fun i h => (∃ old, IsEnum h e it i old) ∧ h.IsTupleIter it a i) where
  mem := by simp
  obj := fun i h st b hb => by
    obtain ⟨⟨old, se⟩, o, ho, c, d⟩ := st
    have z : b = e ∨ b = it := by simpa using hb
    rcases z with rfl | rfl
    · exact ⟨_, se, fun v z => nomatch z⟩
    · exact ⟨o, ho, fun v z => by rw [d] at z; cases z⟩
  keep := fun i h h' st kk => ⟨let ⟨old, se⟩ := st.1; ⟨old, kk e (by simp) _ se⟩, st.2.at fun o q => kk it (by simp) o q⟩
  item := by
    intro X hP hw hK hc i pins s σ H E I hf st hg
    subst hP hw hK
    obtain ⟨xs, x, hq, hx⟩ := hg
    obtain ⟨⟨old, se⟩, si⟩ := st
    obtain ⟨its, rv, p, hz⟩ := I.tuple hq
    obtain ⟨u, hu, ru⟩ := rv.get hx
    refine enumT_next se si (show s.heap.IsTuple a its.toArray from p) (x := u) (by simpa using hu) ne fun g eo gi gt gk => ?_
    refine ⟨_, rfl, wpAny_letOwnedTupleGo_enum eo fun g' se' sb => ?_⟩
    have I1 := inv_pair (g := g') (tk := s.toks + 1) (xs := [.int i, x]) (its := [.int i s.toks, u]) I (hf e (by simp)) (hf it (by simp)) (fun b o h1 h2 q => sb.extBut b o h1 (gk b o h1 h2 q)) (sz (by simp)) (.cons ⟨_, rfl⟩ (.cons ru .nil)) (sb.extBut _ _ (Nat.ne_of_gt (Heap.lt_size se)) gt)
    refine ⟨.ref s.heap.objs.size, _, I1, rfl, ⟨_, x, I.hok.fresh (Nat.le_refl _), rfl, rfl, fun ys hy => by rw [I.tuple_inj hy hq]; exact hx⟩, ⟨⟨_, by simpa using se'⟩, gi.at fun o q => sb.extBut it o ne.symm q⟩, fun b hb => ?_⟩
    rw [upd_ne]
    · exact (hf b hb).1
    · have z : b = e ∨ b = it := by simpa using hb
      rcases z with rfl | rfl
      · exact Nat.ne_of_lt (Heap.lt_size se)
      · obtain ⟨o, ho, _⟩ := si; exact Nat.ne_of_lt (Heap.lt_size ho)
  done := by
    intro X hP hw hK hc i pins s σ H E I hf st hg
    subst hP hw hK
    obtain ⟨xs, hq, hx⟩ := hg
    obtain ⟨⟨old, se⟩, si⟩ := st
    obtain ⟨its, rv, p, hz⟩ := I.tuple hq
    obtain ⟨f0, f1, f2, f3, f4, f5⟩ := hf it (by simp)
    have hl := rv.length
    exact enumT_end (I.ok.hd hc) se si (show s.heap.IsTuple a its.toArray from p) (by simp; omega) fun g eb => ⟨rfl, I.turned (t' := s.toks) (fun b o hb q => eb b o hb q) f0 f1 f3 f4 f5⟩
  self := fun _ _ _ _ _ st h => let ⟨_, se⟩ := st.1; wpAny_pyIter_enum se h
section
variable {X : Cx} {elts : List Expr} {k : Nat} {tpos : Pos} {a : Expr} {ta : TA} {p pos : Pos}
theorem pi_enumL (hg : Gl X "enumerate") (hm : X.mg "enumerate" = none) (ha : PA X [a] ta) (hs : starEach [a] X.env = [(false, eval a X.env)] := by rfl) : PI X (.Tuple elts k tpos) (.Call (.Name "enumerate" p) [a] [] pos) (iEnumL X.K ta) := by
  intro pins s σ H R I h
  refine Call_ (ld_blt I hg hm bt_enumerate (PyProof.Rows.callWith_type1 (thn (ha pos pins s σ H _ I h) fun us s1 ⟨vs, H1, I1, r1, q1⟩ => ?_) hs rfl))
  obtain ⟨b, rfl, ⟨xs, hq⟩, q⟩ := q1
  obtain ⟨u, rfl, ru⟩ := vals1 r1
  cases ru
  obtain ⟨its, rv, pl, hz⟩ := I1.list hq
  refine call_enumerate_list pl.isList fun g se si _ gk => ?_
  have I2 : Inv X pins σ H1 { s1 with heap := g } := I1.kept (t' := s1.toks) gk
  refine wpAny_pyIter_enum se ⟨_, [s1.heap.objs.size + 1, s1.heap.objs.size], _, _, H1, rfl, I2, turn_enumL b _ _ (Nat.succ_ne_self _), ⟨⟨_, se⟩, si⟩, fun c hc => ?_, q⟩
  have z : c = s1.heap.objs.size + 1 ∨ c = s1.heap.objs.size := by simpa using hc
  rcases z with rfl | rfl
  · exact I1.fpOk (Nat.le_succ _) (I1.hok.fresh (Nat.le_succ _))
  · exact I1.fpOk (Nat.le_refl _) (I1.hok.fresh (Nat.le_refl _))
theorem pi_enumT (hg : Gl X "enumerate") (hm : X.mg "enumerate" = none) (ha : PA X [a] ta) (hs : starEach [a] X.env = [(false, eval a X.env)] := by rfl) : PI X (.Tuple elts k tpos) (.Call (.Name "enumerate" p) [a] [] pos) (iEnumT X.K ta) := by
  intro pins s σ H R I h
  refine Call_ (ld_blt I hg hm bt_enumerate (PyProof.Rows.callWith_type1 (thn (ha pos pins s σ H _ I h) fun us s1 ⟨vs, H1, I1, r1, q1⟩ => ?_) hs rfl))
  obtain ⟨b, rfl, ⟨xs, hq⟩, q⟩ := q1
  obtain ⟨u, rfl, ru⟩ := vals1 r1
  cases ru
  obtain ⟨its, rv, pl, hz⟩ := I1.tuple hq
  refine call_enumT (show s1.heap.IsTuple b its.toArray from pl) fun g se si gk => ?_
  have I2 : Inv X pins σ H1 { s1 with heap := g } := I1.kept (t' := s1.toks) gk
  refine wpAny_pyIter_enum se ⟨_, [s1.heap.objs.size + 1, s1.heap.objs.size], _, _, H1, rfl, I2, turn_enumT b _ _ (Nat.succ_ne_self _), ⟨⟨_, se⟩, si⟩, fun c hc => ?_, q⟩
  have z : c = s1.heap.objs.size + 1 ∨ c = s1.heap.objs.size := by simpa using hc
  rcases z with rfl | rfl
  · exact I1.fpOk (Nat.le_succ _) (I1.hok.fresh (Nat.le_succ _))
  · exact I1.fpOk (Nat.le_refl _) (I1.hok.fresh (Nat.le_refl _))
end
end Bs
namespace Bs
open PySem L2
/-! ### what a tracked value holds, as data -/
mutual
inductive RepD (H : Hp) : V → PySem.W.Dat → Prop
  | int (i : Int) : RepD H (.int i) (.int i)
  | tup {p : Addr} {xs : List V} {ds : List PySem.W.Dat} (h : H p = some (.tup xs)) (r : RepA H xs ds) : RepD H (.ref p) (.tuple ds)
  | lst {p : Addr} {xs : List V} {ds : List PySem.W.Dat} (h : H p = some (.lst xs)) (r : RepA H xs ds) : RepD H (.ref p) (.list ds)
inductive RepA (H : Hp) : List V → List PySem.W.Dat → Prop
  | nil : RepA H [] []
  | cons {x : V} {xs : List V} {d : PySem.W.Dat} {ds : List PySem.W.Dat} (h : RepD H x d) (r : RepA H xs ds) : RepA H (x :: xs) (d :: ds)
end
/-- ==, != of data -/
def eqD : R2 := fun x y H Q => ∃ (d e : PySem.W.Dat) (b : Bool), RepD H x d ∧ RepD H y e ∧ PySem.W.kqdOk 8 d = true ∧ PySem.W.kqdOk 8 e = true ∧ (b = true ↔ d = e) ∧ Q (.bl b) H
def neD : R2 := fun x y H Q => ∃ (d e : PySem.W.Dat) (b : Bool), RepD H x d ∧ RepD H y e ∧ PySem.W.kqdOk 8 d = true ∧ PySem.W.kqdOk 8 e = true ∧ (b = true ↔ d = e) ∧ Q (.bl (!b)) H
/-- truth of a list, of a tuple -/
def tTruL (te : TE) : TT := fun σ H Q => te σ H fun x H' => ∃ p xs, x = .ref p ∧ H' p = some (.lst xs) ∧ Q (!xs.isEmpty) H'
def tTruT (te : TE) : TT := fun σ H Q => te σ H fun x H' => ∃ p xs, x = .ref p ∧ H' p = some (.tup xs) ∧ Q (!xs.isEmpty) H'
/-- slices; tuple(list), list(tuple), list(list), all(list of bools) -/
def sL : V → Option Int → Option Int → Hp → VK → Prop := fun x lo hi H Q => ∃ a xs, x = .ref a ∧ H a = some (.lst xs) ∧ ∀ p, H p = none → Q (.ref p) (upd H p (.lst (cutV xs lo hi)))
def bTupL : List V → Hp → VK → Prop := fun xs H Q => ∃ p ys, xs = [.ref p] ∧ H p = some (.lst ys) ∧ ∀ l, H l = none → Q (.ref l) (upd H l (.tup ys))
def bListT : List V → Hp → VK → Prop := fun xs H Q => ∃ p ys, xs = [.ref p] ∧ H p = some (.tup ys) ∧ ∀ l, H l = none → Q (.ref l) (upd H l (.lst ys))
def bListL : List V → Hp → VK → Prop := fun xs H Q => ∃ p ys, xs = [.ref p] ∧ H p = some (.lst ys) ∧ ∀ l, H l = none → Q (.ref l) (upd H l (.lst ys))
def bAllL : List V → Hp → VK → Prop := fun xs H Q => ∃ (p : Addr) (bs : List Bool), xs = [.ref p] ∧ H p = some (.lst (bs.map V.bl)) ∧ Q (.bl (bs.all id)) H
end Bs
namespace Bs
open PySem PySem.Spec PyProof.Rows L2
section
variable {X : Cx} {pins : List (Addr × Obj)} {σ : L2.St} {H : Hp} {s : Shared}
mutual
theorem rep_reads (I : Inv X pins σ H s) : ∀ {x : V} {d : PySem.W.Dat} {u : Value}, RepD H x d → RelV x u → ∃ as, Reads s.heap u (PySem.W.kqdP d) as
  | _, _, _, .int i, ⟨t, e⟩ => by subst e; rw [PySem.W.kqdP]; exact ⟨_, Reads.int i t⟩
  | _, _, _, .tup h r, e => by
    cases e
    obtain ⟨its, rv, p, _⟩ := I.tuple (SqT.of h)
    obtain ⟨as, q⟩ := rep_all I r rv
    obtain ⟨o, ho, hc, n, hd⟩ := p
    rw [PySem.W.kqdP]
    exact ⟨as, reads_tuple_at ho hc hd (by simpa using q)⟩
  | _, _, _, .lst h r, e => by
    cases e
    obtain ⟨its, rv, p, _⟩ := I.list (SqL.of h)
    obtain ⟨as, q⟩ := rep_all I r rv
    obtain ⟨o, n, ho, hc, _, hd⟩ := p
    rw [PySem.W.kqdP]
    exact ⟨_, reads_list_at ho hc hd (by simpa using q)⟩
theorem rep_all (I : Inv X pins σ H s) : ∀ {xs : List V} {ds : List PySem.W.Dat} {us : List Value}, RepA H xs ds → Vals xs us → ∃ as, ReadsAll s.heap us (PySem.W.kqdPs ds) as
  | _, _, _, .nil, .nil => by rw [PySem.W.kqdPs]; exact ⟨_, ReadsAll.nil⟩
  | _, _, _, .cons h r, .cons e es => by
    obtain ⟨as, q⟩ := rep_reads I h e
    obtain ⟨bs, q2⟩ := rep_all I r es
    rw [PySem.W.kqdPs]
    exact ⟨_, ReadsAll.cons q q2⟩
end
theorem shaped_of {d : PySem.W.Dat} (h : PySem.W.kqdOk 8 d = true) : SeqAt.shaped (PySem.W.kqdP d) = true := by
  have z := PySem.W.kqd_lay 8 d h
  unfold SeqAt.shaped
  rw [z.1, Bool.true_and]
  exact decide_eq_true (Nat.le_trans z.2 (by decide))
theorem eqv_of {d e : PySem.W.Dat} {b : Bool} (h1 : PySem.W.kqdOk 8 d = true) (h2 : PySem.W.kqdOk 8 e = true) (hb : b = true ↔ d = e) : PyData.eqv (PySem.W.kqdP d) (PySem.W.kqdP e) = b := by
  rw [Bool.eq_iff_iff, hb]
  exact PySem.W.kqd_eqv 8 d e 8 h1 h2
theorem op_eqD (hu : X.A.units + 64 < cLine) : OpR X (compareOp .Eq) eqD := by
  intro pins s σ H x y v u Q I rx ry h
  obtain ⟨d, e, b, r1, r2, k1, k2, hb, q⟩ := h
  obtain ⟨as, q1⟩ := rep_reads I r1 rx
  obtain ⟨bs, q2⟩ := rep_reads I r2 ry
  exact eq_dataH q1 q2 (shaped_of k1) (shaped_of k2) hu (by rw [eqv_of k1 k2 hb]; exact ⟨.bl b, H, I, rfl, q⟩)
theorem op_neD (hu : X.A.units + 64 < cLine) : OpR X (compareOp .NotEq) neD := by
  intro pins s σ H x y v u Q I rx ry h
  obtain ⟨d, e, b, r1, r2, k1, k2, hb, q⟩ := h
  obtain ⟨as, q1⟩ := rep_reads I r1 rx
  obtain ⟨bs, q2⟩ := rep_reads I r2 ry
  exact ne_dataH q1 q2 (shaped_of k1) (shaped_of k2) hu (by rw [eqv_of k1 k2 hb]; exact ⟨.bl (!b), H, I, rfl, q⟩)
theorem pt_truL {a : Expr} {ta : TE} (ha : PE X a ta) (he : ∀ whole, isTrue a X.env whole = (do let v ← whole; standAt a.pos; holding [v] (truthy v))) : PT X a (tTruL ta) := fun pins s σ H Q I h =>
  isTrue_plain (thn (ha pins s σ H _ I h) fun v s1 ⟨x, H1, I1, r1, q1⟩ => by
    obtain ⟨p, xs, e, hp, q⟩ := q1
    subst e
    exact tru_ok pins s1 σ H1 _ v Q I1 r1 ⟨_, .inl ⟨xs, SqL.of hp, rfl⟩, q⟩) (he _)
theorem pt_truT {a : Expr} {ta : TE} (ha : PE X a ta) (he : ∀ whole, isTrue a X.env whole = (do let v ← whole; standAt a.pos; holding [v] (truthy v))) : PT X a (tTruT ta) := fun pins s σ H Q I h =>
  isTrue_plain (thn (ha pins s σ H _ I h) fun v s1 ⟨x, H1, I1, r1, q1⟩ => by
    obtain ⟨p, xs, e, hp, q⟩ := q1
    subst e
    exact tru_ok pins s1 σ H1 _ v Q I1 r1 ⟨_, .inr (.inl ⟨xs, SqT.of hp, rfl⟩), q⟩) (he _)
theorem sl_lstH : SlR X sL := by
  intro pins s σ H x v vl vu lo hi sl Q I rx hs pl pu h
  obtain ⟨a, xs, e, ha, q⟩ := h
  exact sl_list pins s σ H x v vl vu lo hi sl Q I rx hs pl pu ⟨a, xs, e, SqL.of ha, q⟩
theorem call_tupL : CallR X (.type "tuple") bTupL := fun pins s σ H xs us Q I r h => by
  obtain ⟨p, ys, e, hp, q⟩ := h
  exact call_tuple_of pins s σ H xs us Q I r ⟨p, ys, e, .inl ⟨SqL.of hp, q⟩⟩
theorem call_listT : CallR X (.type "list") bListT := fun pins s σ H xs us Q I r h => by
  obtain ⟨p, ys, e, hp, q⟩ := h
  exact call_list_of pins s σ H xs us Q I r ⟨p, ys, e, .inr (SqT.of hp), q⟩
theorem call_listL : CallR X (.type "list") bListL := fun pins s σ H xs us Q I r h => by
  obtain ⟨p, ys, e, hp, q⟩ := h
  exact call_list_of pins s σ H xs us Q I r ⟨p, ys, e, .inl (SqL.of hp), q⟩
theorem bool_vals : ∀ {bs : List Bool} {us : List Value}, Vals (bs.map V.bl) us → us = bs.map Value.bool
  | [], _, .nil => rfl
  | b :: bs, _, .cons e r => by rw [show _ = Value.bool b from e, bool_vals r]; rfl
theorem call_allL (hc : X.calm = true) : CallR X (.builtin "all") bAllL := fun pins s σ H xs us Q I r h => by
  obtain ⟨p, bs, rfl, hp, q⟩ := h
  obtain ⟨u, rfl, ru⟩ := vals1 r
  cases ru
  obtain ⟨its, rv, pl, hz⟩ := I.list (SqL.of hp)
  have eb := bool_vals rv
  subst eb
  refine call_all_walk (wpAny_pyIter_list pl.isList ⟨s.heap.objs.size, [s.heap.objs.size, p], [s.heap.objs.size], (bs.map Value.bool).toArray.size, _, _, fun i => bs.getD i false, rfl, Walks.list (A := X.A.in1) (show X.A.in1.handled = none from I.ok.hd hc) s.heap.objs.size p (Nat.ne_of_lt pl.lt) _, ⟨⟨_, Heap.get?_push_size _ rfl, rfl, rfl⟩, pl.isList.push _⟩, ?_, fun g tk gk => ?_⟩)
  · intro i v s' Q' E' hP hQ
    have e : v = Value.bool (bs.getD i false) := by
      have z : (bs.map Value.bool)[i]? = some v := by simpa using hP
      rw [List.getElem?_map] at z
      cases w : bs[i]? with
      | none => rw [w] at z; cases z
      | some c =>
        rw [w] at z
        rw [List.getD_eq_getElem?_getD, w]
        exact (Option.some.inj z).symm
    subst e
    exact wpAny_truthy_bool hQ
  · have kk : ∀ b o, s.heap.get? b = some o → g.get? b = some o := fun b o e => gk b o (fun z => absurd (Heap.lt_size e) (by rw [List.mem_singleton.mp z]; exact Nat.lt_irrefl _)) (Heap.get?_push_of_some _ e)
    refine ⟨.bl (bs.all id), H, I.kept kk, ?_, q⟩
    show Value.bool _ = Value.bool _
    congr 1
    rw [Bool.eq_iff_iff]
    simp only [List.all_eq_true, List.mem_range, List.size_toArray, List.length_map, id]
    constructor
    · intro h x hx
      obtain ⟨i, hi, e⟩ := List.getElem_of_mem hx
      have z := h i hi
      rw [List.getD_eq_getElem?_getD, List.getElem?_eq_getElem hi] at z
      rw [← e]; exact z
    · intro h i hi
      rw [List.getD_eq_getElem?_getD, List.getElem?_eq_getElem hi]
      exact h _ (List.getElem_mem hi)
theorem get_lstH : PGet X gL := by
  intro pins s σ H o i ov iv Q I ro ri h
  obtain ⟨p, k, xs, v, rfl, rfl, hp, ha, q⟩ := h
  cases ro
  obtain ⟨t, rfl⟩ := ri
  obtain ⟨its, r, pl, hz⟩ := I.list (SqL.of hp)
  obtain ⟨j, h1, h2, h3, h4, h5⟩ := atI_get ha
  obtain ⟨w, ew, rw'⟩ := r.get h2
  have hl := r.length
  have hn := line63
  have fin : EP X pins σ Q w s := ⟨v, H, I, rw', q⟩
  by_cases h0 : 0 ≤ k
  · have hj : k.toNat = j := by
      rw [seqIndex_of h0 h5] at h1
      exact Option.some.inj h1
    exact wpAny_getItem_list pl.isList h0 (by omega) (by rw [hj]; simpa using ew) fin
  · have hj : (k + (its.toArray.size : Int)).toNat = j := by
      rw [seqIndex_neg (by omega) h4] at h1
      rw [List.size_toArray, ← hl]
      exact Option.some.inj h1
    exact wpAny_getItem_list_neg pl.isList (by omega) (by rw [List.size_toArray] <;> omega) (by omega) (by rw [hj]; simpa using ew) fin
theorem tyV_lst {K : PySem.W.Frag} {p : Addr} {xs : List V} (h : H p = some (.lst xs)) : tyV K "list" (.ref p) H := .inl ⟨rfl, xs, SqL.of h⟩
end
end Bs
namespace Bs
open PySem L2
/-- (a, b) = a tracked tuple -/
def gTupH (n : Nat) (t : TGs) : TG := fun v σ H Q => ∃ a xs, v = .ref a ∧ H a = some (.tup xs) ∧ xs.length = n ∧ t xs σ H Q
end Bs
namespace Bs
open PySem PySem.Spec PyProof.Rows L2
theorem pg_tupH {X : Cx} {es : List Expr} {k : Nat} {pos : Pos} {t : TGs} {n : Nat} (hc : X.calm = true) (h : PGs X es t)
    (hn : (assignEach es X.env).length = n := by rfl) (hst : (assignEach es X.env).findIdx? (·.1) = none := by rfl) : PG X (.Tuple es k pos) (gTupH n t) := fun pins s σ H v u Q I r q => by
  obtain ⟨a, xs, e, ha, hl, q⟩ := q
  exact pg_tup hc h hn hst pins s σ H v u Q I r ⟨a, xs, e, SqT.of ha, hl, q⟩
theorem iop_fdivP {X : Cx} : OpR X (inplaceOp .FloorDiv) iDivP := opI fun i j _ _ _ _ _ hc q => by
  refine ifloordiv_int (Int.ne_of_gt hc.1) ?_ (.inl (PyProof.noPylong_of_log2 (hc.2.log2 (by decide))))
  rw [Int.fdiv_eq_ediv_of_nonneg i (Int.le_of_lt hc.1)]
  exact q
end Bs
namespace Bs
open PySem L2
/-- t[lo:hi] -/
def sT : V → Option Int → Option Int → Hp → VK → Prop := fun x lo hi H Q => ∃ a xs, x = .ref a ∧ H a = some (.tup xs) ∧ ∀ p H', (H' = H ∧ p = a ∧ cutV xs lo hi = xs) ∨ (H p = none ∧ H' = upd H p (.tup (cutV xs lo hi))) → Q (.ref p) H'
end Bs
namespace HT
open PySem PySem.Spec PyProof.Rows
/-- t[lo:hi], the whole of it: t itself -/
theorem whole_cut {prog : Program} {w : World} {A : Around} {E : Value → Shared → Prop} {s : Shared} {t sl : Addr} {items : Array Value} {vl vu : Value} {lo hi : Option Int} {Q : Value → Shared → Prop} (ht : IsTup s.heap t items) (hs : s.heap.IsSliceOf sl vl vu .none) (pl : IsPart vl lo) (pu : IsPart vu hi)
    (hw : sIx items.size 0 lo = 0 ∧ sIx items.size items.size hi = items.size) (h : Q (.ref t) s) : wpAny (model prog w) A (getItem (.ref t) (.ref sl)) Q E s := by
  obtain ⟨os, hos, hcs, hds⟩ := id hs
  have hTs : s.TypeIs (.ref sl) "slice" := ⟨os, hos, hcs⟩
  unfold getItem
  try with_reducible refine wpAny_holding ?_
  first | refine wpAny_bind (wpAny_pure ?_) | skip
  refine wpAny_bind (wpAny_sequenceKey ht.typeIs (by decide) ?_)
  refine wpAny_bind (wpAny_callSpecial?_slot (name := Str.ofString "__getitem__") ht.typeIs PyProof.Rows.slot_tuple_getitem
    (wpAny_call_entry PyProof.Rows.slot_tuple_getitem ht.typeIs entry_tuple_getitem ?_ (args_tuple_getitem _ _)))
  show wpAny _ _ (Builtin.Tuple.tupleItemsOf (.ref t) >>= _) _ _ s
  refine wpAny_bind (tupleItemsOf_ ht ?_)
  refine wpAny_bind (wpAny_typeOf hTs ?_)
  rw [if_pos (by decide)]
  refine wpAny_bind (sliceApplied_gen hs pl pu ?_)
  show wpAny _ _ (if (((sIx items.size 0 lo : Nat) : Int) == 0 && (1 : Int) == 1 && (sIx items.size items.size hi - sIx items.size 0 lo) == items.size) = true then _ else _) _ _ s
  rw [if_pos (by rw [hw.1, hw.2]; simp)]
  refine wpAny_bind (m := Builtin.Tuple.tupleIsExact (.ref t)) (wpAny_bind (wpAny_typeOf ht.typeIs (wpAny_pure ?_)))
  rw [if_pos (by decide)]
  first
    | exact wpAny_bind (wpAny_rule (wpAny_bind (wpAny_pure (wpAny_pure ⟨_, rfl, wpAny_pure h⟩))))
    | exact wpAny_bind (wpAny_rule (wpAny_bind (wpAny_pure ⟨_, rfl, wpAny_pure h⟩)))
    | exact wpAny_bind (wpAny_rule (wpAny_pure ⟨_, rfl, wpAny_pure h⟩))
    | exact wpAny_bind (wpAny_bind (wpAny_rule (wpAny_pure (wpAny_pure ⟨_, rfl, wpAny_pure h⟩))))
end HT
namespace Bs
open PySem PySem.Spec PyProof.Rows L2
theorem sl_tupH {X : Cx} : SlR X sT := by
  intro pins s σ H x v vl vu lo hi sl Q I rx hs pl pu h
  obtain ⟨a, xs, e, ha, q⟩ := h
  by_cases hw : HT.sIx xs.length 0 lo = 0 ∧ HT.sIx xs.length xs.length hi = xs.length
  · subst e
    cases rx
    obtain ⟨its, r, ht, hz⟩ := I.tuple (SqT.of ha)
    have hlen : its.toArray.size = xs.length := by rw [List.size_toArray]; exact r.length.symm
    refine ⟨"tuple", _, PyProof.Rows.slot_tuple_getitem.lookup, ht.typeIs, HT.whole_cut ht hs pl pu (by rw [hlen]; exact hw) ⟨.ref a, H, I, rfl, q a H (.inl ⟨rfl, rfl, ?_⟩)⟩⟩
    unfold cutV
    rw [hw.1, hw.2, List.drop_zero, Nat.sub_zero, List.take_length]
  · exact sl_tup pins s σ H x v vl vu lo hi sl Q I rx hs pl pu ⟨a, xs, e, SqT.of ha, hw, fun p hp => q p _ (.inr ⟨hp, rfl⟩)⟩
end Bs
namespace Bs
open PySem L2
/-- a range that falls by one; a list from its end -/
def Itd (lo : Int) (n : Nat) : It := ⟨fun i _ => i < n, fun i H x H' => H' = H ∧ x = .int (lo - i), fun i _ => n ≤ i⟩
def Itv (K : PySem.W.Frag) (a : Addr) (n : Nat) : It := ⟨fun i H => i < n ∧ ∃ xs, SqL K H a xs ∧ xs.length = n, fun i H x H' => H' = H ∧ ∀ xs, SqL K H a xs → xs[n - 1 - i]? = some x, fun i _ => n = i⟩
def iRngD (ta : TA) : TI := fun σ H R => ta σ H fun vs H1 => ∃ i j : Int, vs = [.int i, .int j, .int (-1)] ∧ (-(2 ^ 62) ≤ i ∧ i < 2 ^ 62 ∧ -(2 ^ 62) ≤ j ∧ j < 2 ^ 62) ∧ R (Itd i (i - j).toNat) H1
def iRev (K : PySem.W.Frag) (ta : TA) : TI := fun σ H R => ta σ H fun vs H1 => ∃ a xs, vs = [.ref a] ∧ SqL K H1 a xs ∧ R (Itv K a xs.length) H1
section
variable {K : PySem.W.Frag} {ta : TA} {g : TG} {tb : TS} {D : Ends} {σ : L2.St} {H : Hp} {a : Addr} {xs : List V}
theorem tFor_rd : tFor (iRngD ta) g tb D σ H = ta σ H (fun vs H1 => ∃ i j : Int, vs = [.int i, .int j, .int (-1)] ∧ (-(2 ^ 62) ≤ i ∧ i < 2 ^ 62 ∧ -(2 ^ 62) ≤ j ∧ j < 2 ^ 62) ∧ ForJ (Itd i (i - j).toNat) g tb D σ H1) := rfl
theorem tFor_rv : tFor (iRev K ta) g tb D σ H = ta σ H (fun vs H1 => ∃ a xs, vs = [.ref a] ∧ SqL K H1 a xs ∧ ForJ (Itv K a xs.length) g tb D σ H1) := rfl
theorem ForJ.down {lo : Int} {n : Nat} (Pv : Nat → L2.St → Hp → Prop) (h0 : Pv 0 σ H)
    (hs : ∀ i σ H, i < n → Pv i σ H → g (.int (lo - i)) σ H fun σ2 H2 => tb { D with nx := Pv (i + 1), ct := Pv (i + 1), bk := D.nx } σ2 H2) (hd : ∀ σ H, Pv n σ H → D.nx σ H) : ForJ (Itd lo n) g tb D σ H := by
  refine ⟨fun i m σ H => m = n - i ∧ i ≤ n ∧ Pv i σ H, ⟨n, by simp, Nat.zero_le _, h0⟩, ?_⟩
  rintro i m σ H ⟨rfl, hi, pv⟩
  by_cases lt : i < n
  · refine .inr ⟨lt, Pv (i + 1), fun σ' H' p' => ⟨n - (i + 1), by omega, rfl, lt, p'⟩, fun x H' y => ?_⟩
    obtain ⟨e, y⟩ := y
    subst e y
    exact hs i σ _ lt pv
  · have e : i = n := by omega
    subst e
    exact .inl ⟨Nat.le_refl _, hd σ H pv⟩
theorem ForJ.rev (Pv : Nat → L2.St → Hp → Prop) (h0 : Pv 0 σ H) (hl : ∀ i σ H, i ≤ xs.length → Pv i σ H → SqL K H a xs)
    (hs : ∀ i x σ H, i < xs.length → xs[xs.length - 1 - i]? = some x → Pv i σ H → g x σ H fun σ2 H2 => tb { D with nx := Pv (i + 1), ct := Pv (i + 1), bk := D.nx } σ2 H2) (hd : ∀ σ H, Pv xs.length σ H → D.nx σ H) : ForJ (Itv K a xs.length) g tb D σ H := by
  refine ⟨fun i m σ H => m = xs.length - i ∧ i ≤ xs.length ∧ Pv i σ H, ⟨xs.length, by simp, Nat.zero_le _, h0⟩, ?_⟩
  rintro i m σ H ⟨rfl, hi, pv⟩
  have q := hl i σ H hi pv
  by_cases lt : i < xs.length
  · refine .inr ⟨⟨lt, xs, q, rfl⟩, Pv (i + 1), fun σ' H' p' => ⟨xs.length - (i + 1), by omega, rfl, lt, p'⟩, fun x H' y => ?_⟩
    obtain ⟨e, y⟩ := y
    subst e
    exact hs i x σ _ lt (y xs q) pv
  · have e : i = xs.length := by omega
    subst e
    exact .inl ⟨rfl, hd σ H pv⟩
end
end Bs
namespace Bs
open PySem PySem.Spec PyProof.Rows L2
/-! ### ranges that fall, lists from their ends -/
theorem turn_down {P : Program} {w : World} {K : PySem.W.Frag} {tg : Expr} (it : Addr) (lo : Int) (n : Nat) : Turn P w K tg (Itd lo n) [it] it (fun i h => IsRangeIter h it (lo + (i : Nat) * (-1)) ((n : Int) - (i : Nat)) (-1)) where
  mem := by simp
  obj := fun i h st b hb => by
    have e : b = it := by simpa using hb
    subst e
    exact ⟨_, st, fun v z => by
      have z' : Data.fields _ = Data.cell v := z
      cases z'⟩
  keep := fun i h h' st k => k it (by simp) _ st
  item := by
    intro X hP hw hK hc i pins s σ H E I hf st hg
    subst hP hw hK
    obtain ⟨f0, f1, f2, f3, f4, f5⟩ := hf it (by simp)
    have W := Walks.range (prog := X.prog) (w := X.w) (I.ok.hd hc) it lo (-1) n
    refine W.item i s _ _ hg st fun v h' tk hv st' kk => ?_
    obtain ⟨t, rfl⟩ := hv
    have I1 : Inv X pins σ H { s with heap := h', toks := tk } := I.turned (fun b o hb e => kk b o (by simpa using hb) e) f0 f1 f3 f4 f5
    refine ⟨_, rfl, go_of (s := { s with heap := h', toks := tk }) (n := "range_iterator") st' rfl rfl (by decide) ⟨.int (lo - i), H, I1, ⟨t, ?_⟩, ⟨rfl, rfl⟩, st', fun b hb => (hf b hb).1⟩⟩
    rw [show lo + (i : Int) * (-1) = lo - i by omega]
  done := by
    intro X hP hw hK hc i pins s σ H E I hf st hg
    subst hP hw hK
    obtain ⟨f0, f1, f2, f3, f4, f5⟩ := hf it (by simp)
    exact wpAny_pyNext_range_end (I.ok.hd hc) st (by have : n ≤ i := hg; omega) fun h' eb => ⟨rfl, I.turned (t' := s.toks) (fun b o hb e => eb b o hb e) f0 f1 f3 f4 f5⟩
  self := fun _ _ _ _ _ st h => wpAny_pyIter_rangeiter st h
theorem size_down (a b : Int) : Builtin.Range.rangeSize a b (-1) = if b < a then a - b else 0 := by
  unfold Builtin.Range.rangeSize
  simp only [show ¬ ((-1 : Int) > 0) by decide, if_false, Int.neg_neg, Int.ediv_one]
  split <;> omega
theorem small_down {a b : Int} (ha : -(2 ^ 62) ≤ a) (ha' : a < 2 ^ 62) (hb : -(2 ^ 62) ≤ b) (hb' : b < 2 ^ 62) : Builtin.Range.small a b (-1) = true := by
  unfold Builtin.Range.small
  rw [size_down]
  simp only [Builtin.Range.rangeFitsLong, Bool.and_eq_true, Bool.or_eq_true, decide_eq_true_eq, beq_iff_eq, show ¬ ((-1 : Int) > 0) by decide, if_false]
  split <;> omega
theorem pi_range3 {X : Cx} {tg : Expr} {a b c : Expr} {ta : TA} {p pos : Pos} (hg : Gl X "range") (hm : X.mg "range" = none) (ha : PA X [a, b, c] ta) (hs : starEach [a, b, c] X.env = [(false, eval a X.env), (false, eval b X.env), (false, eval c X.env)] := by rfl) (hs2 : starEach [b, c] X.env = [(false, eval b X.env), (false, eval c X.env)] := by rfl) :
    PI X tg (.Call (.Name "range" p) [a, b, c] [] pos) (iRngD ta) := by
  intro pins s σ H R I h
  refine Call_ (ld_blt I hg hm boot_range (PyProof.Rows.callWith_type1 (thn (ha pos pins s σ H _ I h) fun us s1 ⟨vs, H1, I1, r1, q1⟩ => ?_) (by rw [hs, hs2]) (by rw [hs2]; rfl)))
  obtain ⟨i, j, e, ⟨q1, q2, q3, q4⟩, q⟩ := q1
  subst e
  cases r1 with
  | cons r rr =>
    cases rr with
    | cons r' rr =>
      cases rr with
      | cons r'' rr =>
        cases rr
        obtain ⟨t, rfl⟩ := r
        obtain ⟨t', rfl⟩ := r'
        obtain ⟨t'', rfl⟩ := r''
        refine call_range_3 (by decide) ?_ (.inl (PyProof.noPylong_small (by decide)))
        refine wpAny_pyIter_range (IsRange.new ..) (small_down q1 q2 q3 q4) ?_
        have I2 : Inv X pins σ H1 { s1 with heap := s1.heap.push { cls := .type "range", data := .fields #[.int i t, .int j t', .int (-1) t''] }, toks := s1.toks } := I1.kept fun b o e => Heap.get?_push_of_some _ e
        refine ⟨(s1.heap.push { cls := .type "range", data := .fields #[.int i t, .int j t', .int (-1) t''] }).objs.size, [(s1.heap.push { cls := .type "range", data := .fields #[.int i t, .int j t', .int (-1) t''] }).objs.size], _, _, H1, rfl,
          I2.kept (t' := s1.toks) fun b o e => Heap.get?_push_of_some _ e, turn_down _ i (i - j).toNat, ?_, fun b hb => ?_, q⟩
        · have e1 : i + ((0 : Nat) : Int) * (-1) = i := by simp
          have e2 : (((i - j).toNat : Nat) : Int) - ((0 : Nat) : Int) = Builtin.Range.rangeSize i j (-1) := by rw [size_down]; split <;> omega
          show IsRangeIter _ _ (i + ((0 : Nat) : Int) * (-1)) ((((i - j).toNat : Nat) : Int) - ((0 : Nat) : Int)) (-1)
          rw [e1, e2]
          exact Heap.get?_push_size _ rfl
        · have e : b = (s1.heap.push { cls := .type "range", data := .fields #[.int i t, .int j t', .int (-1) t''] }).objs.size := by simpa using hb
          subst e
          exact I2.fpOk (Nat.le_refl _) (I2.hok.fresh (Nat.le_refl _))
theorem turn_rev {P : Program} {w : World} {K : PySem.W.Frag} {tg : Expr} (a it : Addr) (n : Nat) : Turn P w K tg (Itv K a n) [it] it (fun i h => h.IsRevIter it a ((n : Int) - 1 - (i : Int))) where
  mem := by simp
  obj := fun i h st b hb => by
    have e : b = it := by simpa using hb
    subst e
    obtain ⟨o, e, c, d⟩ := st
    exact ⟨o, e, fun v z => by rw [d] at z; cases z⟩
  keep := fun i h h' st k => st.at fun o e => k it (by simp) o e
  item := by
    intro X hP hw hK hc i pins s σ H E I hf st hg
    subst hP hw hK
    obtain ⟨hi, xs, hq, hn⟩ := hg
    obtain ⟨its, rv, p, hz⟩ := I.list hq
    have hx : xs[n - 1 - i]? = some (xs[n - 1 - i]'(by omega)) := List.getElem?_eq_getElem (by omega)
    obtain ⟨u, hu, ru⟩ := rv.get hx
    obtain ⟨f0, f1, f2, f3, f4, f5⟩ := hf it (by simp)
    have st2 : s.heap.IsRevIter it a ((n - 1 - i : Nat) : Int) := by rw [show ((n - 1 - i : Nat) : Int) = (n : Int) - 1 - (i : Int) by omega]; exact st
    refine wpAny_pyNext_rev_item st2 p.isList (x := u) (by simpa using hu) fun h' st' sb => ?_
    have I1 : Inv X pins σ H { s with heap := h' } := I.turned (t' := s.toks) (fun b o hb e => (sb.2 b hb).trans e) f0 f1 f3 f4 f5
    obtain ⟨o, e, c, d⟩ := id st'
    have st3 : h'.IsRevIter it a ((n : Int) - 1 - ((i + 1 : Nat) : Int)) := by rw [show (n : Int) - 1 - ((i + 1 : Nat) : Int) = ((n - 1 - i : Nat) : Int) - 1 by omega]; exact st'
    exact ⟨u, rfl, go_of (s := { s with heap := h' }) e c d (by decide) ⟨_, H, I1, ru, ⟨rfl, fun ys hy => by rw [I.list_inj hy hq]; exact hx⟩, st3, fun b hb => (hf b hb).1⟩⟩
  done := by
    intro X hP hw hK hc i pins s σ H E I hf st hg
    subst hP hw hK
    have hg' : n = i := hg
    subst hg'
    obtain ⟨f0, f1, f2, f3, f4, f5⟩ := hf it (by simp)
    have st2 : s.heap.IsRevIter it a (-1) := by rw [show (-1 : Int) = (n : Int) - 1 - (n : Int) by omega]; exact st
    exact wpAny_pyNext_rev_end (I.ok.hd hc) st2 fun h' eb => ⟨rfl, I.turned (t' := s.toks) (fun b o hb e => eb b o hb e) f0 f1 f3 f4 f5⟩
  self := fun _ _ _ _ _ st h => wpAny_pyIter_revIter st h
theorem pi_rev {X : Cx} {tg : Expr} {a : Expr} {ta : TA} {p pos : Pos} (hg : Gl X "reversed") (hm : X.mg "reversed" = none) (ha : PA X [a] ta) (hs : starEach [a] X.env = [(false, eval a X.env)] := by rfl) : PI X tg (.Call (.Name "reversed" p) [a] [] pos) (iRev X.K ta) := by
  intro pins s σ H R I h
  refine Call_ (ld_blt I hg hm bt_reversed (PyProof.Rows.callWith_type1 (thn (ha pos pins s σ H _ I h) fun us s1 ⟨vs, H1, I1, r1, q1⟩ => ?_) hs rfl))
  obtain ⟨b, xs, rfl, hq, q⟩ := q1
  obtain ⟨u, rfl, ru⟩ := vals1 r1
  cases ru
  obtain ⟨its, rv, pl, hz⟩ := I1.list hq
  refine call_reversed_list pl.isList ?_
  have I2 : Inv X pins σ H1 { s1 with heap := s1.heap.push (revObj b ((its.toArray.size : Int) - 1)) } := I1.kept (t' := s1.toks) fun b o e => Heap.get?_push_of_some _ e
  have hl := rv.length
  have si : (s1.heap.push (revObj b ((its.toArray.size : Int) - 1))).IsRevIter s1.heap.objs.size b ((xs.length : Int) - 1 - ((0 : Nat) : Int)) := by
    rw [show (xs.length : Int) - 1 - ((0 : Nat) : Int) = (its.toArray.size : Int) - 1 by rw [List.size_toArray]; omega]
    exact ⟨_, Heap.get?_push_size _ rfl, rfl, rfl⟩
  refine wpAny_pyIter_revIter si ⟨_, [s1.heap.objs.size], _, _, H1, rfl, I2, turn_rev b _ xs.length, si, fun c hc => ?_, q⟩
  have z : c = s1.heap.objs.size := by simpa using hc
  subst z
  exact I1.fpOk (Nat.le_refl _) (I1.hok.fresh (Nat.le_refl _))
end Bs
namespace Bs
theorem Bd.one : Bd 1 1 := by unfold Bd; decide
theorem Bd.pow {b : Nat} {x : Int} (h : Bd b x) (k : Nat) : Bd (b * k + 1) (x ^ k) := by
  induction k with
  | zero => rw [Int.pow_zero, Nat.mul_zero]; exact Bd.one
  | succ k ih =>
    have e : b * (k + 1) + 1 = (b * k + 1) + b := by rw [Nat.mul_add, Nat.mul_one]; omega
    rw [Int.pow_succ, e]
    exact ih.mul h
theorem pow_pos_int {d : Int} (h : 0 < d) (m : Nat) : 0 < d ^ m := by
  induction m with
  | zero => rw [Int.pow_zero]; decide
  | succ m ih => rw [Int.pow_succ]; exact Int.mul_pos ih h
theorem pow_ne {t : Int} (h : t ≠ 0) (m : Nat) : t ^ m ≠ 0 := by
  induction m with
  | zero => rw [Int.pow_zero]; decide
  | succ m ih => rw [Int.pow_succ]; exact Int.mul_ne_zero ih h
theorem low_pow {t d : Int} (h : Low t d) (m : Nat) : Low (t ^ m) (d ^ m) := by
  refine ⟨pow_pos_int h.pos m, ?_⟩
  have e : Int.gcd (t ^ m) (d ^ m) = Nat.gcd (t.natAbs ^ m) (d.natAbs ^ m) := by
    show Nat.gcd (t ^ m).natAbs (d ^ m).natAbs = _
    rw [Int.natAbs_pow, Int.natAbs_pow]
  rw [e]
  have c : Nat.Coprime t.natAbs d.natAbs := h.one
  exact c.pow m m
theorem Low.swap {t d : Int} (h : Low t d) (ht : 0 < t) : Low d t := ⟨ht, by rw [Int.gcd_comm]; exact h.one⟩
theorem Low.swapN {t d : Int} (h : Low t d) (ht : t < 0) : Low (-d) (-t) := ⟨by omega, by rw [Int.neg_gcd, Int.gcd_neg, Int.gcd_comm]; exact h.one⟩
end Bs
namespace Bs
/-! ### numbers as pairs, rows of them -/
abbrev Nu := Int × Int
/-- n over m in lowest terms, m above nought -/
def red (n m : Int) : Nu := (n / ((Int.gcd n m : Nat) : Int), m / ((Int.gcd n m : Nat) : Int))
def nadd (q r : Nu) : Nu := red (q.1 * r.2 + r.1 * q.2) (q.2 * r.2)
def nsub (q r : Nu) : Nu := red (q.1 * r.2 - r.1 * q.2) (q.2 * r.2)
def nmul (q r : Nu) : Nu := red (q.1 * r.1) (q.2 * r.2)
/-- q's worth is n over m -/
def Wo (q : Nu) (n m : Int) : Prop := q.1 * m = n * q.2
theorem red_low {n m : Int} (hm : 0 < m) : Low (red n m).1 (red n m).2 := (lowest_math (a := n) hm).1
theorem red_wo {n m : Int} (hm : 0 < m) : Wo (red n m) n m := by
  have h := (ratio_math (a := n) (b := m) (s := ((Int.gcd n m : Nat) : Int)) (by omega) (by rw [if_neg (by omega)])).2.2.2.1
  rw [Int.fdiv_eq_ediv_of_nonneg _ (by omega), Int.fdiv_eq_ediv_of_nonneg _ (by omega)] at h
  exact h
theorem dvd_of_low {a b d : Int} (h : Low a b) (hd : b ∣ a * d) : b ∣ d := by
  have c : Nat.Coprime b.natAbs a.natAbs := by
    have : Nat.Coprime a.natAbs b.natAbs := h.one
    exact this.symm
  have z := Int.natAbs_dvd_natAbs.mpr hd
  rw [Int.natAbs_mul] at z
  exact Int.natAbs_dvd_natAbs.mp (c.dvd_of_dvd_mul_left z)
theorem low_unique {a b c d : Int} (h1 : Low a b) (h2 : Low c d) (h : a * d = c * b) : a = c ∧ b = d := by
  have d1 : b ∣ d := dvd_of_low h1 ⟨c, by rw [h, Int.mul_comm]⟩
  have d2 : d ∣ b := dvd_of_low h2 ⟨a, by rw [← h, Int.mul_comm]⟩
  have e : b = d := Int.dvd_antisymm (Int.le_of_lt h1.pos) (Int.le_of_lt h2.pos) d1 d2
  subst e
  exact ⟨Int.eq_of_mul_eq_mul_right (Int.ne_of_gt h1.pos) h, rfl⟩
theorem wo_unique {q r : Nu} {n m : Int} (h1 : Low q.1 q.2) (h2 : Low r.1 r.2) (hm : m ≠ 0) (w1 : Wo q n m) (w2 : Wo r n m) : q = r := by
  unfold Wo at w1 w2
  have e : q.1 * r.2 = r.1 * q.2 := by
    have z : m * (q.1 * r.2) = m * (r.1 * q.2) := by grind
    exact Int.eq_of_mul_eq_mul_left hm z
  obtain ⟨a, b⟩ := low_unique h1 h2 e
  exact Prod.ext a b
/-- lowest terms are the least -/
theorem wo_le {q : Nu} {n m : Int} (h1 : Low q.1 q.2) (hm : 0 < m) (w : Wo q n m) : q.1.natAbs ≤ n.natAbs ∧ q.2.natAbs ≤ m.natAbs := by
  have e : q = red n m := wo_unique h1 (red_low hm) (Int.ne_of_gt hm) w (red_wo hm)
  subst e
  exact ⟨(lowest_math (a := n) hm).2.1, (lowest_math (a := n) hm).2.2.1⟩
theorem nadd_low {q r : Nu} (h1 : 0 < q.2) (h2 : 0 < r.2) : Low (nadd q r).1 (nadd q r).2 := red_low (Int.mul_pos h1 h2)
theorem nsub_low {q r : Nu} (h1 : 0 < q.2) (h2 : 0 < r.2) : Low (nsub q r).1 (nsub q r).2 := red_low (Int.mul_pos h1 h2)
theorem nmul_low {q r : Nu} (h1 : 0 < q.2) (h2 : 0 < r.2) : Low (nmul q r).1 (nmul q r).2 := red_low (Int.mul_pos h1 h2)
theorem nadd_wo {q r : Nu} {n k m : Int} (h1 : 0 < q.2) (h2 : 0 < r.2) (w1 : Wo q n m) (w2 : Wo r k m) : Wo (nadd q r) (n + k) m := by
  have w := red_wo (n := q.1 * r.2 + r.1 * q.2) (Int.mul_pos h1 h2)
  unfold Wo at *
  unfold nadd
  have z : (q.2 * r.2) * ((red (q.1 * r.2 + r.1 * q.2) (q.2 * r.2)).1 * m) = (q.2 * r.2) * ((n + k) * (red (q.1 * r.2 + r.1 * q.2) (q.2 * r.2)).2) := by grind
  exact Int.eq_of_mul_eq_mul_left (Int.ne_of_gt (Int.mul_pos h1 h2)) z
theorem nmul_wo {q r : Nu} {n k m l : Int} (h1 : 0 < q.2) (h2 : 0 < r.2) (w1 : Wo q n m) (w2 : Wo r k l) : Wo (nmul q r) (n * k) (m * l) := by
  have w := red_wo (n := q.1 * r.1) (Int.mul_pos h1 h2)
  unfold Wo at *
  unfold nmul
  have z : (q.2 * r.2) * ((red (q.1 * r.1) (q.2 * r.2)).1 * (m * l)) = (q.2 * r.2) * ((n * k) * (red (q.1 * r.1) (q.2 * r.2)).2) := by grind
  exact Int.eq_of_mul_eq_mul_left (Int.ne_of_gt (Int.mul_pos h1 h2)) z
theorem red_zero {m : Int} (hm : 0 < m) : red 0 m = (0, 1) := wo_unique (red_low hm) ⟨by decide, by decide⟩ (Int.ne_of_gt hm) (red_wo hm) (by unfold Wo; omega)
theorem red_id {q : Nu} (h : Low q.1 q.2) : red q.1 q.2 = q := wo_unique (red_low h.pos) h (Int.ne_of_gt h.pos) (red_wo h.pos) rfl
theorem red_ne {n m : Int} (hm : 0 < m) (hn : n ≠ 0) : (red n m).1 ≠ 0 := fun z => by
  have w := red_wo (n := n) hm
  unfold Wo at w
  rw [z] at w
  have := (red_low (n := n) hm).pos
  rcases Int.mul_eq_zero.mp (by omega : n * (red n m).2 = 0) with e | e
  · exact hn e
  · omega
/-- noughts at the end left out -/
def trimN (l : List Nu) : Nat → Nat
  | 0 => 0
  | m + 1 => if (l.getD m (1, 1)).1 = 0 then trimN l m else m + 1
def trim (l : List Nu) : List Nu := l.take (trimN l l.length)
theorem trimN_le (l : List Nu) : ∀ m, trimN l m ≤ m
  | 0 => Nat.le_refl 0
  | m + 1 => by
    unfold trimN
    split
    · exact Nat.le_succ_of_le (trimN_le l m)
    · exact Nat.le_refl _
theorem trimN_last (l : List Nu) : ∀ m, trimN l m = 0 ∨ (l.getD (trimN l m - 1) (1, 1)).1 ≠ 0
  | 0 => .inl rfl
  | m + 1 => by
    unfold trimN
    split
    · exact trimN_last l m
    · rename_i h; exact .inr h
theorem trimN_zero (l : List Nu) : ∀ m, (∀ i, i < m → (l.getD i (1, 1)).1 = 0) → trimN l m = 0
  | 0, _ => rfl
  | m + 1, h => by
    unfold trimN
    rw [if_pos (h m (Nat.lt_succ_self m))]
    exact trimN_zero l m fun i hi => h i (Nat.lt_succ_of_lt hi)
/-- the last number is not nought -/
def Nz (l : List Nu) : Prop := ∀ q, l.getLast? = some q → q.1 ≠ 0
theorem trim_id {l : List Nu} (h : Nz l) : trim l = l := by
  unfold trim
  have e : trimN l l.length = l.length := by
    cases hl : l.length with
    | zero => rfl
    | succ m =>
      unfold trimN
      have hm : m < l.length := by omega
      have z : (l.getD m (1, 1)).1 ≠ 0 := by
        have q := h l[m] (by rw [List.getLast?_eq_getElem?, hl]; simp [hm])
        rw [List.getD_eq_getElem?_getD, List.getElem?_eq_getElem hm]
        exact q
      rw [if_neg z]
  rw [e, List.take_length]
theorem trim_nz (l : List Nu) : Nz (trim l) := by
  intro q hq
  unfold trim at hq
  have hle := trimN_le l l.length
  rw [List.getLast?_eq_getElem?, List.length_take, Nat.min_eq_left hle] at hq
  rcases trimN_last l l.length with z | z
  · rw [z] at hq; simp at hq
  · by_cases h0 : trimN l l.length = 0
    · rw [h0] at hq; simp at hq
    · rw [List.getElem?_take_of_lt (by omega)] at hq
      rw [List.getD_eq_getElem?_getD, hq] at z
      exact z
theorem trim_mem {l : List Nu} {q : Nu} (h : q ∈ trim l) : q ∈ l := List.mem_of_mem_take h
theorem trim_len (l : List Nu) : (trim l).length ≤ l.length := by
  unfold trim; rw [List.length_take]; omega
def AllLow (l : List Nu) : Prop := ∀ q ∈ l, Low q.1 q.2
def AllBd (n : Nat) (l : List Nu) : Prop := ∀ q ∈ l, Bd n q.1 ∧ Bd n q.2
def getN (l : List Nu) (i : Nat) : Nu := l.getD i (0, 1)
/-- number by number -/
def zipN (f : Nu → Nu → Nu) (l m : List Nu) : List Nu := (List.range (max l.length m.length)).map fun i => f (getN l i) (getN m i)
theorem low01 : Low 0 1 := ⟨by decide, by decide⟩
theorem getN_low {l : List Nu} (h : AllLow l) (i : Nat) : Low (getN l i).1 (getN l i).2 := by
  unfold getN
  rw [List.getD_eq_getElem?_getD]
  cases e : l[i]? with
  | none => exact low01
  | some q => exact h q (List.mem_of_getElem? e)
theorem getN_bd {n : Nat} {l : List Nu} (hn : 1 ≤ n) (h : AllBd n l) (i : Nat) : Bd n (getN l i).1 ∧ Bd n (getN l i).2 := by
  unfold getN
  rw [List.getD_eq_getElem?_getD]
  cases e : l[i]? with
  | none => exact ⟨Nat.lt_of_lt_of_le (by decide : (0 : Int).natAbs < 2 ^ 1) (Nat.pow_le_pow_right (by decide) hn), Nat.lt_of_lt_of_le (by decide : (1 : Int).natAbs < 2 ^ 1) (Nat.pow_le_pow_right (by decide) hn)⟩
  | some q => exact h q (List.mem_of_getElem? e)
end Bs
namespace Bs
/-! ### over one bottom -/
def clrB (l : List Nu) : Int := l.foldl (fun B q => B * (q.2 / ((Int.gcd B q.2 : Nat) : Int))) 1
def clrN (l : List Nu) : List Int := l.map fun q => q.1 * (clrB l / q.2)
theorem lcm_step {B d : Int} (hB : 0 < B) (hd : 0 < d) : 0 < B * (d / ((Int.gcd B d : Nat) : Int)) ∧ B ∣ B * (d / ((Int.gcd B d : Nat) : Int)) ∧ d ∣ B * (d / ((Int.gcd B d : Nat) : Int)) ∧ (d / ((Int.gcd B d : Nat) : Int)).natAbs ≤ d.natAbs ∧ 0 < ((Int.gcd B d : Nat) : Int) ∧ ((Int.gcd B d : Nat) : Int) ≤ d := by
  have g0 : 0 < Int.gcd B d := Int.gcd_pos_of_ne_zero_right B (by omega)
  obtain ⟨k, hk⟩ : ((Int.gcd B d : Nat) : Int) ∣ d := Int.gcd_dvd_right B d
  obtain ⟨m, hm⟩ : ((Int.gcd B d : Nat) : Int) ∣ B := Int.gcd_dvd_left B d
  have gp : (0 : Int) < ((Int.gcd B d : Nat) : Int) := by omega
  have e : d / ((Int.gcd B d : Nat) : Int) = k := by
    have z : d / ((Int.gcd B d : Nat) : Int) = (((Int.gcd B d : Nat) : Int) * k) / ((Int.gcd B d : Nat) : Int) := by rw [← hk]
    rw [z, Int.mul_ediv_cancel_left _ (Int.ne_of_gt gp)]
  have kp : 0 < k := by
    rcases Int.lt_or_le 0 k with h | h
    · exact h
    · exfalso
      have := Int.mul_nonneg (Int.le_of_lt gp) (show 0 ≤ -k by omega)
      rw [Int.mul_neg] at this
      omega
  have le : ((Int.gcd B d : Nat) : Int) ≤ d := Int.le_of_dvd hd (Int.gcd_dvd_right B d)
  refine ⟨by rw [e]; exact Int.mul_pos hB kp, Int.dvd_mul_right .., ?_, ?_, gp, le⟩
  · rw [e]
    refine ⟨m, ?_⟩
    have z : d * m = ((Int.gcd B d : Nat) : Int) * k * m := by rw [← hk]
    have z2 : B * k = ((Int.gcd B d : Nat) : Int) * m * k := by rw [← hm]
    rw [z, z2]; grind
  · rw [e]
    have z : d.natAbs = (Int.gcd B d) * k.natAbs := by
      have : d.natAbs = (((Int.gcd B d : Nat) : Int) * k).natAbs := by rw [← hk]
      rw [this, Int.natAbs_mul]; simp
    rw [z]
    exact Nat.le_mul_of_pos_left _ g0
theorem clrB_fold {b : Nat} : ∀ (l : List Nu) (B : Int) (c : Nat), (∀ q ∈ l, 0 < q.2 ∧ Bd b q.2) → 0 < B → Bd c B →
    0 < l.foldl (fun B q => B * (q.2 / ((Int.gcd B q.2 : Nat) : Int))) B ∧ B ∣ l.foldl (fun B q => B * (q.2 / ((Int.gcd B q.2 : Nat) : Int))) B ∧ (∀ q ∈ l, q.2 ∣ l.foldl (fun B q => B * (q.2 / ((Int.gcd B q.2 : Nat) : Int))) B) ∧ Bd (c + b * l.length) (l.foldl (fun B q => B * (q.2 / ((Int.gcd B q.2 : Nat) : Int))) B)
  | [], B, c, _, hB, bB => ⟨hB, Int.dvd_refl B, (fun _ h => nomatch h), by simpa using bB⟩
  | q :: l, B, c, h, hB, bB => by
    obtain ⟨q0, qb⟩ := h q (List.mem_cons_self ..)
    obtain ⟨s1, s2, s3, s4, _, _⟩ := lcm_step hB q0
    obtain ⟨r1, r2, r3, r4⟩ := clrB_fold l (B * (q.2 / ((Int.gcd B q.2 : Nat) : Int))) (c + b) (fun r hr => h r (List.mem_cons_of_mem _ hr)) s1 (bB.mul (qb.le s4))
    rw [List.foldl_cons]
    refine ⟨r1, Int.dvd_trans s2 r2, fun r hr => ?_, r4.mono (by rw [List.length_cons, Nat.mul_add, Nat.mul_one]; omega)⟩
    rcases List.mem_cons.mp hr with rfl | hr
    · exact Int.dvd_trans s3 r2
    · exact r3 r hr
theorem clrB_ok {b : Nat} {l : List Nu} (h1 : AllLow l) (h2 : AllBd b l) : 0 < clrB l ∧ (∀ q ∈ l, q.2 ∣ clrB l) ∧ Bd (1 + b * l.length) (clrB l) := by
  obtain ⟨r1, _, r3, r4⟩ := clrB_fold (b := b) l 1 1 (fun q hq => ⟨(h1 q hq).pos, (h2 q hq).2⟩) (by decide) Bd.one
  exact ⟨r1, r3, r4⟩
theorem natAbs_ediv_le {B d : Int} (hB : 0 < B) (hd : 0 < d) : (B / d).natAbs ≤ B.natAbs := by
  have h1 : 0 ≤ B / d := Int.ediv_nonneg (Int.le_of_lt hB) (Int.le_of_lt hd)
  have h2 : B / d ≤ B := Int.ediv_le_self d (Int.le_of_lt hB)
  omega
theorem clr_wo {q : Nu} {B : Int} (hd : q.2 ∣ B) : Wo q (q.1 * (B / q.2)) B := by
  unfold Wo
  rw [Int.mul_assoc, Int.ediv_mul_cancel hd]
theorem clrN_wo {b : Nat} {l : List Nu} (h1 : AllLow l) (h2 : AllBd b l) (i : Nat) : Wo (getN l i) ((clrN l).getD i 0) (clrB l) := by
  unfold getN clrN
  rw [List.getD_eq_getElem?_getD, List.getD_eq_getElem?_getD, List.getElem?_map]
  cases e : l[i]? with
  | none => unfold Wo; simp
  | some q => exact clr_wo ((clrB_ok h1 h2).2.1 q (List.mem_of_getElem? e))
theorem clrN_bd {b : Nat} {l : List Nu} (h1 : AllLow l) (h2 : AllBd b l) : ∀ z ∈ clrN l, Bd (b + (1 + b * l.length)) z := by
  intro z hz
  obtain ⟨q, hq, e⟩ := List.mem_map.mp hz
  subst e
  exact (h2 q hq).1.mul ((clrB_ok h1 h2).2.2.le (natAbs_ediv_le (clrB_ok h1 h2).1 (h1 q hq).pos))
/-! ### products of rows: the sum of all that come to the place k, from the first i of the one (and the first j of the other's next) -/
def ps (ns ms : List Int) : Nat → Nat → Int
  | 0, _ => 0
  | i + 1, k => ps ns ms i k + (if i ≤ k ∧ k - i < ms.length then ns.getD i 0 * ms.getD (k - i) 0 else 0)
def in2 (ns ms : List Int) (i j k : Nat) : Int := ps ns ms i k + (if i ≤ k ∧ k - i < j then ns.getD i 0 * ms.getD (k - i) 0 else 0)
theorem in2_zero (ns ms : List Int) (i k : Nat) : in2 ns ms i 0 k = ps ns ms i k := by
  unfold in2; rw [if_neg (by omega)]; omega
theorem in2_full (ns ms : List Int) (i k : Nat) : in2 ns ms i ms.length k = ps ns ms (i + 1) k := rfl
theorem in2_step (ns ms : List Int) (i j k : Nat) : in2 ns ms i (j + 1) k = if k = i + j then in2 ns ms i j k + ns.getD i 0 * ms.getD j 0 else in2 ns ms i j k := by
  unfold in2
  by_cases h : k = i + j
  · subst h
    rw [if_pos rfl, if_pos ⟨by omega, by omega⟩, if_neg (by omega), show i + j - i = j by omega]; omega
  · rw [if_neg h]
    congr 1
    by_cases h2 : i ≤ k ∧ k - i < j
    · rw [if_pos h2, if_pos ⟨h2.1, by omega⟩]
    · rw [if_neg h2, if_neg (by omega)]
theorem getD_bd {c : Nat} {ns : List Int} (h : ∀ z ∈ ns, Bd c z) (i : Nat) : Bd c (ns.getD i 0) := by
  rw [List.getD_eq_getElem?_getD]
  cases e : ns[i]? with
  | none => exact Nat.pow_pos (by decide)
  | some z => exact h z (List.mem_of_getElem? e)
theorem bd_zero (c : Nat) : Bd c 0 := Nat.pow_pos (by decide)
theorem ps_bd {c d : Nat} {ns ms : List Int} (h1 : ∀ z ∈ ns, Bd c z) (h2 : ∀ z ∈ ms, Bd d z) : ∀ i k, Bd (c + d + i) (ps ns ms i k)
  | 0, _ => bd_zero _
  | i + 1, k => by
    unfold ps
    refine (ps_bd h1 h2 i k).add ?_
    split
    · exact ((getD_bd h1 i).mul (getD_bd h2 (k - i))).mono (by omega)
    · exact bd_zero _
theorem in2_bd {c d : Nat} {ns ms : List Int} (h1 : ∀ z ∈ ns, Bd c z) (h2 : ∀ z ∈ ms, Bd d z) (i j k : Nat) : Bd (c + d + i + 1) (in2 ns ms i j k) := by
  unfold in2
  refine (ps_bd h1 h2 i k).add ?_
  split
  · exact ((getD_bd h1 i).mul (getD_bd h2 (k - i))).mono (by omega)
  · exact bd_zero _
theorem ps_high {ns ms : List Int} : ∀ i k, i + ms.length ≤ k + 1 → ps ns ms i k = 0
  | 0, _, _ => rfl
  | i + 1, k, h => by
    unfold ps
    rw [ps_high i k (by omega), if_neg (by omega)]; rfl
/-- the product, number by number -/
def mulN (l m : List Nu) (n : Nat) : List Nu := (List.range n).map fun k => red (ps (clrN l) (clrN m) l.length k) (clrB l * clrB m)
theorem trimN_take {l m : List Nu} : ∀ {n : Nat}, (∀ i, i < n → l.getD i (1, 1) = m.getD i (1, 1)) → trimN l n = trimN m n
  | 0, _ => rfl
  | n + 1, h => by
    unfold trimN
    rw [h n (Nat.lt_succ_self n), trimN_take fun i hi => h i (Nat.lt_succ_of_lt hi)]
/-- noughts more at the end don't matter -/
theorem trim_snoc (l : List Nu) : trim (l ++ [(0, 1)]) = trim l := by
  unfold trim
  rw [List.length_append, List.length_singleton]
  have e : trimN (l ++ [(0, 1)]) (l.length + 1) = trimN l l.length := by
    rw [show trimN (l ++ [(0, 1)]) (l.length + 1) = if ((l ++ [((0, 1) : Nu)]).getD l.length (1, 1)).1 = 0 then trimN (l ++ [(0, 1)]) l.length else l.length + 1 from rfl]
    rw [if_pos (by simp [List.getD_eq_getElem?_getD])]
    exact trimN_take fun i hi => by rw [List.getD_eq_getElem?_getD, List.getD_eq_getElem?_getD, List.getElem?_append_left hi]
  rw [e, List.take_append_of_le_length (trimN_le l l.length)]
theorem mulN_succ (l m : List Nu) (n : Nat) : mulN l m (n + 1) = mulN l m n ++ [red (ps (clrN l) (clrN m) l.length n) (clrB l * clrB m)] := by
  unfold mulN
  rw [List.range_succ, List.map_append]
  rfl
theorem trim_zeros (l m : List Nu) (hB : 0 < clrB l * clrB m) : ∀ n, (∀ k, k < n → ps (clrN l) (clrN m) l.length k = 0) → trim (mulN l m n) = []
  | 0, _ => rfl
  | n + 1, h => by
    rw [mulN_succ, h n (Nat.lt_succ_self n), red_zero hB, trim_snoc]
    exact trim_zeros l m hB n fun k hk => h k (Nat.lt_succ_of_lt hk)
theorem ps_none {ns ms : List Int} (h : ms.length = 0) : ∀ i k, ps ns ms i k = 0
  | 0, _ => rfl
  | i + 1, k => by unfold ps; rw [ps_none h i k, if_neg (by omega)]; rfl
theorem mulN_trim {l m : List Nu} (hB : 0 < clrB l * clrB m) (n2 : (clrN m).length = m.length) :
    trim (mulN l m (l.length + m.length)) = trim (List.map (fun n => red n (clrB l * clrB m)) (if l.length = 0 ∨ m.length = 0 then [] else List.map (fun k => ps (clrN l) (clrN m) l.length k) (List.range (l.length + m.length - 1)))) := by
  by_cases h1 : l.length = 0
  · rw [if_pos (.inl h1)]
    refine trim_zeros l m hB _ fun k _ => ?_
    rw [h1]; rfl
  · by_cases h2 : m.length = 0
    · rw [if_pos (.inr h2)]
      exact trim_zeros l m hB _ fun k _ => ps_none (by rw [n2]; exact h2) _ _
    · rw [if_neg (by omega)]
      obtain ⟨n, hn⟩ : ∃ n, l.length + m.length = n + 1 := ⟨l.length + m.length - 1, by omega⟩
      rw [hn, mulN_succ, ps_high l.length n (by rw [n2]; omega), red_zero hB, trim_snoc, Nat.add_sub_cancel, List.map_map]
      rfl
end Bs
namespace Bs
/-! ### numbers' worths -/
def val (q : Nu) : Rat := (q.1 : Rat) / (q.2 : Rat)
theorem zdiv (x : Rat) : 0 / x = 0 := by rw [Rat.div_def, Rat.zero_mul]
theorem castNe {z : Int} (h : z ≠ 0) : (z : Rat) ≠ 0 := by exact_mod_cast h
theorem val_of_wo {q : Nu} {n m : Int} (hq : q.2 ≠ 0) (hm : m ≠ 0) (w : Wo q n m) : val q = (n : Rat) / (m : Rat) := by
  have h1 := castNe hq
  have h2 := castNe hm
  have w' : (q.1 : Rat) * m = n * q.2 := by unfold Wo at w; exact_mod_cast w
  unfold val
  grind
theorem val_inj {q r : Nu} (h1 : Low q.1 q.2) (h2 : Low r.1 r.2) (h : val q = val r) : q = r := by
  have a := castNe (Int.ne_of_gt h1.pos)
  have b := castNe (Int.ne_of_gt h2.pos)
  unfold val at h
  have z : (q.1 : Rat) * r.2 = r.1 * q.2 := by grind
  have z' : q.1 * r.2 = r.1 * q.2 := by exact_mod_cast z
  obtain ⟨x, y⟩ := low_unique h1 h2 z'
  exact Prod.ext x y
theorem val_red {n m : Int} (hm : 0 < m) : val (red n m) = (n : Rat) / (m : Rat) := val_of_wo (Int.ne_of_gt (red_low hm).pos) (Int.ne_of_gt hm) (red_wo hm)
theorem val_nadd {q r : Nu} (h1 : 0 < q.2) (h2 : 0 < r.2) : val (nadd q r) = val q + val r := by
  unfold nadd
  rw [val_red (Int.mul_pos h1 h2)]
  have a := castNe (Int.ne_of_gt h1)
  have b := castNe (Int.ne_of_gt h2)
  unfold val
  push_cast
  grind
theorem val_nmul {q r : Nu} (h1 : 0 < q.2) (h2 : 0 < r.2) : val (nmul q r) = val q * val r := by
  unfold nmul
  rw [val_red (Int.mul_pos h1 h2)]
  have a := castNe (Int.ne_of_gt h1)
  have b := castNe (Int.ne_of_gt h2)
  unfold val
  push_cast
  grind
/-- n over m in lowest terms, m not nought -/
def redG (n m : Int) : Nu := if m < 0 then red (-n) (-m) else red n m
theorem redG_low {n m : Int} (hm : m ≠ 0) : Low (redG n m).1 (redG n m).2 := by
  unfold redG
  split
  · exact red_low (by omega)
  · exact red_low (by omega)
theorem val_redG {n m : Int} (hm : m ≠ 0) : val (redG n m) = (n : Rat) / (m : Rat) := by
  unfold redG
  split
  · rw [val_red (by omega)]
    have := castNe hm
    push_cast
    grind
  · exact val_red (by omega)
theorem redG_dvd {n m N : Int} (hm : m ≠ 0) (h : m ∣ N) : (redG n m).2 ∣ N := by
  have aux : ∀ {n m : Int}, 0 < m → (red n m).2 ∣ m := fun {n m} h0 => by
    unfold red
    exact Int.ediv_dvd_of_dvd (Int.gcd_dvd_right n m)
  unfold redG
  split
  · exact Int.dvd_trans (aux (by omega)) (Int.dvd_trans (Int.neg_dvd.mpr (Int.dvd_refl m)) h)
  · exact Int.dvd_trans (aux (by omega)) h
theorem redG_bd {c d : Nat} {n m : Int} (hm : m ≠ 0) (h1 : Bd c n) (h2 : Bd d m) : Bd c (redG n m).1 ∧ Bd d (redG n m).2 := by
  have aux : ∀ {n m : Int}, 0 < m → Bd c n → Bd d m → Bd c (red n m).1 ∧ Bd d (red n m).2 := fun {n m} h0 h1 h2 => by
    have w := wo_le (red_low h0) h0 (red_wo (n := n) h0)
    exact ⟨h1.le w.1, h2.le w.2⟩
  unfold redG
  split
  · exact aux (by omega) h1.neg h2.neg
  · exact aux (by omega) h1 h2
theorem red_dvd {n m : Int} : (red n m).2 ∣ m := by
  unfold red
  exact Int.ediv_dvd_of_dvd (Int.gcd_dvd_right n m)
/-! ### polynomials' worths -/
def pwo (l : List Nu) (k : Nat) : Rat := val (getN l k)
theorem low0 {q : Nu} (h : Low q.1 q.2) (z : q.1 = 0) : q = (0, 1) := val_inj h low01 (by unfold val; rw [z]; show ((0 : Int) : Rat) / _ = ((0 : Int) : Rat) / _; rw [show ((0 : Int) : Rat) = 0 from rfl, zdiv, zdiv])
theorem getN_trim {l : List Nu} (hl : AllLow l) (k : Nat) : getN (trim l) k = getN l k := by
  have key : ∀ (m : Nat), m ≤ l.length → (∀ j, m ≤ j → j < l.length → (getN l j).1 = 0) → ∀ j, trimN l m ≤ j → j < l.length → (getN l j).1 = 0 := by
    intro m
    induction m with
    | zero => intro _ h j hj1 hj2; exact h j (by omega) hj2
    | succ m ih =>
      intro hm h j h1 h2
      rw [show trimN l (m + 1) = if (l.getD m (1, 1)).1 = 0 then trimN l m else m + 1 from rfl] at h1
      split at h1
      · rename_i z
        refine ih (by omega) (fun j hj1 hj2 => ?_) j h1 h2
        by_cases e : j = m
        · subst e
          unfold getN
          rw [List.getD_eq_getElem?_getD, List.getElem?_eq_getElem hj2] at z ⊢
          exact z
        · exact h j (by omega) hj2
      · exact h j h1 h2
  unfold trim
  by_cases h1 : k < trimN l l.length
  · unfold getN
    rw [List.getD_eq_getElem?_getD, List.getD_eq_getElem?_getD, List.getElem?_take_of_lt h1]
  · have e : getN (l.take (trimN l l.length)) k = (0, 1) := by
      unfold getN
      rw [List.getD_eq_getElem?_getD, List.getElem?_eq_none (by rw [List.length_take]; omega)]
      rfl
    rw [e]
    by_cases h2 : k < l.length
    · exact (low0 (getN_low hl k) (key l.length (Nat.le_refl _) (fun j a b => absurd b (by omega)) k (by omega) h2)).symm
    · unfold getN
      rw [List.getD_eq_getElem?_getD, List.getElem?_eq_none (by omega)]
      rfl
theorem pv_trim {l : List Nu} (hl : AllLow l) (k : Nat) : pwo (trim l) k = pwo l k := by unfold pwo; rw [getN_trim hl]
theorem getN_end {l : List Nu} {k : Nat} (h : l.length ≤ k) : getN l k = (0, 1) := by
  unfold getN
  rw [List.getD_eq_getElem?_getD, List.getElem?_eq_none h]
  rfl
theorem pv_end {l : List Nu} {k : Nat} (h : l.length ≤ k) : pwo l k = 0 := by
  unfold pwo
  rw [getN_end h]
  exact zdiv _
theorem nz_len {a b : List Nu} (nb : Nz b) (h : ∀ k, getN a k = getN b k) : b.length ≤ a.length := by
  rcases Nat.lt_or_ge a.length b.length with hlt | hge
  · exfalso
    have hb : b.length - 1 < b.length := by omega
    have q := nb b[b.length - 1] (by rw [List.getLast?_eq_getElem?]; exact List.getElem?_eq_getElem hb)
    have e := h (b.length - 1)
    rw [getN_end (by omega)] at e
    unfold getN at e
    rw [List.getD_eq_getElem?_getD, List.getElem?_eq_getElem hb] at e
    have e' : ((0, 1) : Nu) = b[b.length - 1] := e
    rw [← e'] at q
    exact q rfl
  · exact hge
theorem eq_of_pv {a b : List Nu} (ha : AllLow a) (hb : AllLow b) (na : Nz a) (nb : Nz b) (h : ∀ k, pwo a k = pwo b k) : a = b := by
  have g : ∀ k, getN a k = getN b k := fun k => val_inj (getN_low ha k) (getN_low hb k) (h k)
  have e : a.length = b.length := Nat.le_antisymm (nz_len na fun k => (g k).symm) (nz_len nb g)
  refine List.ext_getElem e fun i h1 h2 => ?_
  have z := g i
  unfold getN at z
  rw [List.getD_eq_getElem?_getD, List.getD_eq_getElem?_getD, List.getElem?_eq_getElem h1, List.getElem?_eq_getElem h2] at z
  exact z
theorem pv_zip {l m : List Nu} (hl : AllLow l) (hm : AllLow m) (k : Nat) : pwo (zipN nadd l m) k = pwo l k + pwo m k := by
  by_cases h : k < max l.length m.length
  · have e : getN (zipN nadd l m) k = nadd (getN l k) (getN m k) := by
      unfold zipN
      rw [show getN ((List.range (max l.length m.length)).map fun i => nadd (getN l i) (getN m i)) k = (((List.range (max l.length m.length)).map fun i => nadd (getN l i) (getN m i))[k]?).getD (0, 1) from List.getD_eq_getElem?_getD .., List.getElem?_map, List.getElem?_range h]
      rfl
    unfold pwo
    rw [e, val_nadd (getN_low hl k).pos (getN_low hm k).pos]
  · rw [pv_end (by unfold zipN; rw [List.length_map, List.length_range]; omega), pv_end (by omega), pv_end (by omega)]
    exact (Rat.add_zero 0).symm
/-- the product's worths -/
def cv (f g : Nat → Rat) : Nat → Nat → Rat
  | 0, _ => 0
  | n + 1, k => cv f g n k + (if n ≤ k then f n * g (k - n) else 0)
theorem cv_set {f f' g : Nat → Rat} {s : Nat} {x : Rat} (h0 : f s = 0) (h1 : f' s = x) (h2 : ∀ i, i ≠ s → f' i = f i) : ∀ n k, cv f' g n k = cv f g n k + (if s < n ∧ s ≤ k then x * g (k - s) else 0)
  | 0, k => by unfold cv; rw [if_neg (by omega)]; exact (Rat.add_zero 0).symm
  | n + 1, k => by
    unfold cv
    rw [cv_set h0 h1 h2 n k]
    by_cases e : n = s
    · subst e
      rw [h0, h1]
      by_cases hk : n ≤ k
      · rw [if_pos hk, if_pos hk, if_neg (by omega), if_pos ⟨by omega, hk⟩]
        grind
      · rw [if_neg hk, if_neg hk, if_neg (by omega), if_neg (by omega)]
    · rw [h2 n e]
      have e1 : (s < n + 1 ∧ s ≤ k) ↔ (s < n ∧ s ≤ k) := by omega
      simp only [e1]
      grind
theorem cv_zero {f g : Nat → Rat} : ∀ n k, (∀ i, i < n → f i = 0) → cv f g n k = 0
  | 0, _, _ => rfl
  | n + 1, k, h => by
    unfold cv
    rw [cv_zero n k fun i hi => h i (by omega), h n (by omega)]
    split <;> grind
theorem cv_more {f g : Nat → Rat} {n : Nat} (h : ∀ i, n ≤ i → f i = 0) : ∀ d k, cv f g (n + d) k = cv f g n k
  | 0, _ => rfl
  | d + 1, k => by
    show cv f g (n + d) k + (if n + d ≤ k then f (n + d) * g (k - (n + d)) else 0) = _
    rw [cv_more h d k, h (n + d) (by omega)]
    split <;> grind
theorem cv_congr {f f' g : Nat → Rat} (h : ∀ i, f i = f' i) : ∀ n k, cv f g n k = cv f' g n k
  | 0, _ => rfl
  | n + 1, k => by unfold cv; rw [cv_congr h n k, h n]
/-- over M -/
def ovN (l : List Nu) (M : Int) : List Int := l.map fun q => q.1 * (M / q.2)
def Ov (l : List Nu) (M : Int) : Prop := 0 < M ∧ ∀ q ∈ l, q.2 ∣ M
theorem ovN_get {l : List Nu} {M : Int} (i : Nat) : (ovN l M).getD i 0 = (getN l i).1 * (M / (getN l i).2) := by
  unfold ovN getN
  rw [List.getD_eq_getElem?_getD, List.getD_eq_getElem?_getD, List.getElem?_map]
  cases l[i]? with
  | none => simp
  | some q => rfl
theorem Ov.get {l : List Nu} {M : Int} (h : Ov l M) (i : Nat) : (getN l i).2 ∣ M := by
  unfold getN
  rw [List.getD_eq_getElem?_getD]
  cases e : l[i]? with
  | none => exact Int.one_dvd M
  | some q => exact h.2 q (List.mem_of_getElem? e)
theorem ovN_wo {l : List Nu} {M : Int} (h : Ov l M) (i : Nat) : Wo (getN l i) ((ovN l M).getD i 0) M := by
  rw [ovN_get]
  exact clr_wo (h.get i)
theorem pv_ov {l : List Nu} {M : Int} (hl : AllLow l) (h : Ov l M) (i : Nat) : pwo l i = ((ovN l M).getD i 0 : Rat) / (M : Rat) := val_of_wo (Int.ne_of_gt (getN_low hl i).pos) (Int.ne_of_gt h.1) (ovN_wo h i)
theorem ovN_bd {c d : Nat} {l : List Nu} {M : Int} (hl : AllLow l) (h : Ov l M) (b : ∀ q ∈ l, Bd c q.1) (bM : Bd d M) : ∀ z ∈ ovN l M, Bd (c + d) z := by
  intro z hz
  obtain ⟨q, hq, e⟩ := List.mem_map.mp hz
  subst e
  exact (b q hq).mul (bM.le (natAbs_ediv_le h.1 (hl q hq).pos))
def mulG (l m : List Nu) (M1 M2 : Int) (n : Nat) : List Nu := (List.range n).map fun k => red (ps (ovN l M1) (ovN m M2) l.length k) (M1 * M2)
theorem ps_cv {l m : List Nu} {M1 M2 : Int} (hl : AllLow l) (hm : AllLow m) (h1 : Ov l M1) (h2 : Ov m M2) : ∀ n k, (ps (ovN l M1) (ovN m M2) n k : Rat) / ((M1 * M2 : Int) : Rat) = cv (pwo l) (pwo m) n k
  | 0, k => zdiv _
  | n + 1, k => by
    have a := castNe (Int.ne_of_gt h1.1)
    have b := castNe (Int.ne_of_gt h2.1)
    have ih := ps_cv hl hm h1 h2 n k
    unfold ps cv
    rw [← ih]
    by_cases hk : n ≤ k
    · rw [if_pos hk, pv_ov hl h1, pv_ov hm h2]
      by_cases h3 : k - n < (ovN m M2).length
      · rw [if_pos ⟨hk, h3⟩]
        push_cast
        grind
      · rw [if_neg (by omega), show (ovN m M2).getD (k - n) 0 = 0 by rw [List.getD_eq_getElem?_getD, List.getElem?_eq_none (by omega)]; rfl]
        push_cast
        grind
    · rw [if_neg hk, if_neg (by omega)]
      push_cast
      grind
theorem mulG_low {l m : List Nu} {M1 M2 : Int} {n : Nat} (h1 : Ov l M1) (h2 : Ov m M2) : AllLow (mulG l m M1 M2 n) := by
  intro q hq
  obtain ⟨k, _, rfl⟩ := List.mem_map.mp hq
  exact red_low (Int.mul_pos h1.1 h2.1)
theorem pv_mul {l m : List Nu} {M1 M2 : Int} (hl : AllLow l) (hm : AllLow m) (h1 : Ov l M1) (h2 : Ov m M2) (k : Nat) : pwo (mulG l m M1 M2 (l.length + m.length)) k = cv (pwo l) (pwo m) l.length k := by
  rw [← ps_cv hl hm h1 h2]
  have b0 := Int.mul_pos h1.1 h2.1
  by_cases h : k < l.length + m.length
  · have e : getN (mulG l m M1 M2 (l.length + m.length)) k = red (ps (ovN l M1) (ovN m M2) l.length k) (M1 * M2) := by
      unfold mulG getN
      rw [List.getD_eq_getElem?_getD, List.getElem?_map, List.getElem?_range h]
      rfl
    unfold pwo
    rw [e, val_red b0]
  · rw [pv_end (by unfold mulG; rw [List.length_map, List.length_range]; omega), ps_high l.length k (by unfold ovN; rw [List.length_map]; omega)]
    exact (zdiv _).symm
/-! ### the least common bottom divides each other one -/
theorem lcm_dvd {B d M : Int} (hB : 0 < B) (hd : 0 < d) (h1 : B ∣ M) (h2 : d ∣ M) : B * (d / ((Int.gcd B d : Nat) : Int)) ∣ M := by
  have z : ((Nat.lcm B.natAbs d.natAbs : Nat) : Int) ∣ M := Int.natAbs_dvd_natAbs.mp (by rw [Int.natAbs_natCast]; exact Nat.lcm_dvd (Int.natAbs_dvd_natAbs.mpr h1) (Int.natAbs_dvd_natAbs.mpr h2))
  have e : ((Nat.lcm B.natAbs d.natAbs : Nat) : Int) = B * (d / ((Int.gcd B d : Nat) : Int)) := by
    unfold Nat.lcm
    rw [Nat.mul_div_assoc _ (Nat.gcd_dvd_right _ _)]
    push_cast
    rw [show ((B.natAbs : Nat) : Int) = B by omega, show ((d.natAbs : Nat) : Int) = d by omega]
    rfl
  rw [← e]
  exact z
theorem fold_dvd {M : Int} : ∀ (l : List Nu) (B : Int), (∀ q ∈ l, 0 < q.2 ∧ q.2 ∣ M) → 0 < B → B ∣ M → 0 < l.foldl (fun B q => B * (q.2 / ((Int.gcd B q.2 : Nat) : Int))) B ∧ l.foldl (fun B q => B * (q.2 / ((Int.gcd B q.2 : Nat) : Int))) B ∣ M
  | [], B, _, hB, h => ⟨hB, h⟩
  | q :: l, B, hq, hB, h => by
    obtain ⟨q0, qd⟩ := hq q (List.mem_cons_self ..)
    obtain ⟨s1, _⟩ := lcm_step hB q0
    exact fold_dvd l _ (fun r hr => hq r (List.mem_cons_of_mem _ hr)) s1 (lcm_dvd hB q0 h qd)
theorem dvd_bd {n : Nat} {a b : Int} (hb : b ≠ 0) (h : a ∣ b) (bd : Bd n b) : Bd n a := bd.le (Nat.le_of_dvd (by omega) (Int.natAbs_dvd_natAbs.mpr h))
theorem clrB_ov {l : List Nu} (hl : AllLow l) : Ov l (clrB l) := by
  obtain ⟨a, b, _⟩ := clrB_ok (b := (l.foldl (fun n q => n + q.1.natAbs + q.2.natAbs) 1)) hl (fun q hq => by
    have big : ∀ (l : List Nu) (n : Nat), n ≤ l.foldl (fun n q => n + q.1.natAbs + q.2.natAbs) n ∧ ∀ q ∈ l, q.1.natAbs + q.2.natAbs ≤ l.foldl (fun n q => n + q.1.natAbs + q.2.natAbs) n := by
      intro l
      induction l with
      | nil => intro n; exact ⟨Nat.le_refl _, fun _ h => nomatch h⟩
      | cons r l ih =>
        intro n
        obtain ⟨i1, i2⟩ := ih (n + r.1.natAbs + r.2.natAbs)
        rw [List.foldl_cons]
        refine ⟨by omega, fun q hq => ?_⟩
        rcases List.mem_cons.mp hq with rfl | hq
        · omega
        · exact i2 q hq
    have z := (big l 1).2 q hq
    exact ⟨Nat.lt_of_le_of_lt (by omega) (Nat.lt_two_pow_self), Nat.lt_of_le_of_lt (by omega) (Nat.lt_two_pow_self)⟩)
  exact ⟨a, b⟩
theorem clrB_dvd {l : List Nu} {M : Int} (hl : AllLow l) (h : Ov l M) : clrB l ∣ M := (fold_dvd l 1 (fun q hq => ⟨(hl q hq).pos, h.2 q hq⟩) (by decide) (Int.one_dvd M)).2
theorem clrN_ov (l : List Nu) : clrN l = ovN l (clrB l) := rfl
end Bs
namespace Bs
/-! ### rows of numbers as operators on rows: k goes to the sum of a_i b_(k-i) -/
section
variable {α : Type} [Lean.Grind.CommRing α]
def cvL : List α → (Nat → α) → Nat → α
  | [], _, _ => 0
  | x :: a, b, k => x * b k + (match k with | 0 => 0 | k + 1 => cvL a b k)
theorem cvL_nil (b : Nat → α) (k : Nat) : cvL [] b k = 0 := rfl
theorem cvL_zero (x : α) (a : List α) (b : Nat → α) : cvL (x :: a) b 0 = x * b 0 + 0 := rfl
theorem cvL_succ (x : α) (a : List α) (b : Nat → α) (k : Nat) : cvL (x :: a) b (k + 1) = x * b (k + 1) + cvL a b k := rfl
theorem cvL_congr {b c : Nat → α} (h : ∀ k, b k = c k) : ∀ (a : List α) (k : Nat), cvL a b k = cvL a c k
  | [], _ => rfl
  | x :: a, 0 => by rw [cvL_zero, cvL_zero, h 0]
  | x :: a, k + 1 => by rw [cvL_succ, cvL_succ, h (k + 1), cvL_congr h a k]
theorem cvL_add (b c : Nat → α) : ∀ (a : List α) (k : Nat), cvL a (fun k => b k + c k) k = cvL a b k + cvL a c k
  | [], _ => by rw [cvL_nil, cvL_nil, cvL_nil]; grind
  | x :: a, 0 => by rw [cvL_zero, cvL_zero, cvL_zero]; grind
  | x :: a, k + 1 => by rw [cvL_succ, cvL_succ, cvL_succ, cvL_add b c a k]; grind
theorem cvL_smul (s : α) (b : Nat → α) : ∀ (a : List α) (k : Nat), cvL a (fun k => s * b k) k = s * cvL a b k
  | [], _ => by rw [cvL_nil, cvL_nil]; grind
  | x :: a, 0 => by rw [cvL_zero, cvL_zero]; grind
  | x :: a, k + 1 => by rw [cvL_succ, cvL_succ, cvL_smul s b a k]; grind
/-- moved one place on -/
def up1 (b : Nat → α) : Nat → α
  | 0 => 0
  | k + 1 => b k
theorem cvL_up (b : Nat → α) : ∀ (a : List α) (k : Nat), cvL a (up1 b) k = up1 (cvL a b) k
  | [], 0 => rfl
  | [], k + 1 => rfl
  | x :: a, 0 => by rw [cvL_zero]; show x * 0 + 0 = 0; grind
  | x :: a, 1 => by
    rw [cvL_succ]
    have h := cvL_up b a 0
    rw [h]
    show x * b 0 + 0 = cvL (x :: a) b 0
    rw [cvL_zero]
  | x :: a, k + 2 => by
    rw [cvL_succ, cvL_up b a (k + 1)]
    show x * b (k + 1) + cvL a b k = cvL (x :: a) b (k + 1)
    rw [cvL_succ]
theorem cvL_cons (x : α) (a : List α) (b : Nat → α) (k : Nat) : cvL (x :: a) b k = x * b k + up1 (cvL a b) k := by
  cases k with
  | zero => exact cvL_zero x a b
  | succ k => exact cvL_succ x a b k
theorem cvL_comm (c : Nat → α) : ∀ (a b : List α) (k : Nat), cvL a (cvL b c) k = cvL b (cvL a c) k
  | [], b, k => by
    rw [cvL_nil]
    have e : cvL b (cvL [] c) k = cvL b (fun k => 0 * c k) k := cvL_congr (fun k => by rw [cvL_nil]; grind) b k
    rw [e, cvL_smul]
    grind
  | x :: a, b, k => by
    rw [cvL_cons]
    have e : cvL b (cvL (x :: a) c) k = cvL b (fun k => x * c k + up1 (cvL a c) k) k := cvL_congr (fun k => cvL_cons x a c k) b k
    rw [e, cvL_add, cvL_smul, cvL_up]
    have e2 : up1 (cvL a (cvL b c)) k = up1 (cvL b (cvL a c)) k := by
      cases k with
      | zero => rfl
      | succ k => exact cvL_comm c a b k
    rw [e2]
/-- one -/
def one1 : Nat → α
  | 0 => 1
  | _ + 1 => 0
theorem cvL_one : ∀ (a : List α) (k : Nat), cvL a one1 k = a.getD k 0
  | [], k => by rw [cvL_nil]; simp
  | x :: a, 0 => by rw [cvL_zero]; show x * 1 + 0 = x; grind
  | x :: a, k + 1 => by
    rw [cvL_succ, cvL_one a k]
    show x * 0 + a.getD k 0 = (x :: a).getD (k + 1) 0
    rw [List.getD_cons_succ]
    grind
/-- the n-th power's numbers -/
def powL (f : List α) : Nat → Nat → α
  | 0 => one1
  | n + 1 => cvL f (powL f n)
end
/-! ### whole numbers: places as factors -/
def dI : List Int → Int → List Int
  | [], _ => []
  | x :: a, s => s * x :: dI a (s + 1)
def dF (b : Nat → Int) (k : Nat) : Int := (k : Int) * b k
theorem cvL_d (b : Nat → Int) : ∀ (a : List Int) (s : Int) (k : Nat), (k : Int) * cvL a b k + s * cvL a b k = cvL (dI a s) b k + cvL a (dF b) k
  | [], s, k => by show _ = cvL [] b k + _; rw [cvL_nil, cvL_nil]; grind
  | x :: a, s, 0 => by show _ = cvL (s * x :: dI a (s + 1)) b 0 + _; rw [cvL_zero, cvL_zero, cvL_zero]; show _ = s * x * b 0 + 0 + (x * (((0 : Nat) : Int) * b 0) + 0); grind
  | x :: a, s, k + 1 => by
    show _ = cvL (s * x :: dI a (s + 1)) b (k + 1) + _
    rw [cvL_succ, cvL_succ, cvL_succ]
    have h := cvL_d b a (s + 1) k
    show _ = s * x * b (k + 1) + cvL (dI a (s + 1)) b k + (x * (((k + 1 : Nat) : Int) * b (k + 1)) + cvL a (dF b) k)
    push_cast
    grind
/-- f times the power's slope is n times f's slope times the power (all with x) -/
theorem pow_d (f : List Int) : ∀ (n k : Nat), cvL f (dF (powL f n)) k = (n : Int) * cvL (dI f 0) (powL f n) k
  | 0, k => by
    have e : ∀ k, dF (powL f 0) k = 0 * one1 k := fun k => by
      cases k with
      | zero => rfl
      | succ k => show ((k + 1 : Nat) : Int) * 0 = 0 * 0; grind
    rw [cvL_congr e, cvL_smul]
    show 0 * _ = 0 * _
    grind
  | n + 1, k => by
    have e : ∀ k, dF (powL f (n + 1)) k = cvL (dI f 0) (powL f n) k + cvL f (dF (powL f n)) k := fun k => by
      have h := cvL_d (powL f n) f 0 k
      show (k : Int) * cvL f (powL f n) k = _
      grind
    have e2 : cvL f (cvL f (dF (powL f n))) k = (n : Int) * cvL f (cvL (dI f 0) (powL f n)) k := by
      rw [cvL_congr (pow_d f n), cvL_smul]
    rw [cvL_congr e, cvL_add, e2, cvL_comm (powL f n) f (dI f 0) k]
    show cvL (dI f 0) (powL f (n + 1)) k + (n : Int) * cvL (dI f 0) (powL f (n + 1)) k = _
    push_cast
    grind
theorem pow_rec0 (f : List Int) (n k : Nat) : (k : Int) * cvL f (powL f n) k = ((n : Int) + 1) * cvL (dI f 0) (powL f n) k := by
  have h := cvL_d (powL f n) f 0 k
  have h2 := pow_d f n k
  grind
theorem cvL_snoc {α : Type} [Lean.Grind.CommRing α] (x : α) (b : Nat → α) : ∀ (a : List α) (k : Nat), cvL (a ++ [x]) b k = cvL a b k + (if a.length ≤ k then x * b (k - a.length) else 0)
  | [], 0 => by show x * b 0 + 0 = 0 + (if 0 ≤ 0 then x * b 0 else 0); rw [if_pos (Nat.le_refl 0)]; grind
  | [], k + 1 => by show x * b (k + 1) + 0 = 0 + (if 0 ≤ k + 1 then x * b (k + 1) else 0); rw [if_pos (Nat.zero_le _)]; grind
  | y :: a, 0 => by
    show y * b 0 + 0 = y * b 0 + 0 + (if a.length + 1 ≤ 0 then _ else 0)
    rw [if_neg (by omega)]
    grind
  | y :: a, k + 1 => by
    show y * b (k + 1) + cvL (a ++ [x]) b k = y * b (k + 1) + cvL a b k + (if a.length + 1 ≤ k + 1 then x * b (k + 1 - (a.length + 1)) else 0)
    rw [cvL_snoc x b a k, show k + 1 - (a.length + 1) = k - a.length by omega]
    have e : (a.length + 1 ≤ k + 1) ↔ (a.length ≤ k) := by omega
    simp only [e]
    grind
theorem cvL_take_succ {α : Type} [Lean.Grind.CommRing α] {a : List α} {b : Nat → α} {i k : Nat} (h : i < a.length) (hk : i ≤ k) : cvL (a.take (i + 1)) b k = cvL (a.take i) b k + a.getD i 0 * b (k - i) := by
  rw [List.take_add_one, List.getElem?_eq_getElem h, Option.toList_some, cvL_snoc, if_pos (by rw [List.length_take]; omega), List.length_take, Nat.min_eq_left (Nat.le_of_lt h), List.getD_eq_getElem?_getD, List.getElem?_eq_getElem h]
  rfl
theorem cvL_take {α : Type} [Lean.Grind.CommRing α] (b : Nat → α) : ∀ (a : List α) (m k : Nat), k < m → cvL (a.take m) b k = cvL a b k
  | [], m, k, _ => by rw [List.take_nil]
  | x :: a, 0, k, h => absurd h (by omega)
  | x :: a, m + 1, 0, _ => rfl
  | x :: a, m + 1, k + 1, h => by
    rw [List.take_succ_cons, cvL_succ, cvL_succ, cvL_take b a m k (by omega)]
theorem dI_len : ∀ (a : List Int) (s : Int), (dI a s).length = a.length
  | [], _ => rfl
  | _ :: a, s => by show (dI a (s + 1)).length + 1 = a.length + 1; rw [dI_len a (s + 1)]
theorem dI_get : ∀ (a : List Int) (s : Int) (i : Nat), (dI a s).getD i 0 = (s + i) * a.getD i 0
  | [], s, i => by show ([] : List Int).getD i 0 = _ * ([] : List Int).getD i 0; simp
  | x :: a, s, 0 => by show s * x = (s + ((0 : Nat) : Int)) * x; grind
  | x :: a, s, i + 1 => by
    show (dI a (s + 1)).getD i 0 = (s + ((i + 1 : Nat) : Int)) * a.getD i 0
    rw [dI_get a (s + 1) i]
    push_cast
    grind
/-- the sum that the program makes: over the places 1 .. m -/
def foS (f : List Int) (c : Nat → Int) (n k : Nat) : Nat → Int
  | 0 => 0
  | m + 1 => foS f c n k m + (((n : Int) + 1) * ((m + 1 : Nat) : Int) - (k : Int)) * f.getD (m + 1) 0 * c (k - (m + 1))
theorem foS_eq {f : List Int} {c : Nat → Int} {n k : Nat} (h0 : 0 < f.length) : ∀ m, m < f.length → m ≤ k → foS f c n k m = ((n : Int) + 1) * cvL ((dI f 0).take (m + 1)) c k - (k : Int) * cvL (f.take (m + 1)) c k + (k : Int) * f.getD 0 0 * c k
  | 0, _, _ => by
    rw [cvL_take_succ (by rw [dI_len]; exact h0) (Nat.zero_le k), cvL_take_succ h0 (Nat.zero_le k), dI_get, List.take_zero, List.take_zero, cvL_nil]
    show (0 : Int) = _
    push_cast
    rw [Nat.sub_zero]
    grind
  | m + 1, h1, h2 => by
    rw [cvL_take_succ (by rw [dI_len]; exact h1) h2, cvL_take_succ h1 h2, dI_get]
    show foS f c n k m + _ = _
    rw [foS_eq h0 m (by omega) (by omega)]
    push_cast
    grind
/-- what the division finds -/
theorem pow_rec {f : List Int} {n k : Nat} (h0 : 0 < f.length) : foS f (powL f n) n k (min k (f.length - 1)) = (k : Int) * f.getD 0 0 * powL f n k := by
  have h := pow_rec0 f n k
  rw [foS_eq h0 _ (by omega) (by omega)]
  have e1 : ∀ a : List Int, a.length = f.length → cvL (a.take (min k (f.length - 1) + 1)) (powL f n) k = cvL a (powL f n) k := fun a ha => by
    by_cases hk : k ≤ f.length - 1
    · exact cvL_take _ a _ k (by omega)
    · rw [List.take_of_length_le (by omega)]
  rw [e1 f rfl, e1 (dI f 0) (dI_len f 0)]
  grind
theorem pow_zero (f : List Int) : ∀ n, powL f n 0 = f.getD 0 0 ^ n
  | 0 => by show (1 : Int) = _; simp
  | n + 1 => by
    show cvL f (powL f n) 0 = _
    cases f with
    | nil => rw [cvL_nil]; simp [Int.pow_succ]
    | cons x a =>
      rw [cvL_zero, pow_zero (x :: a) n]
      show x * x ^ n + 0 = x ^ (n + 1)
      rw [Int.pow_succ]
      grind
/-- no more numbers than these -/
theorem cvL_high {α : Type} [Lean.Grind.CommRing α] {b : Nat → α} {d : Nat} (h : ∀ k, d < k → b k = 0) : ∀ (a : List α) (k : Nat), d + a.length ≤ k → cvL a b k = 0
  | [], _, _ => rfl
  | x :: a, 0, hk => absurd hk (by simp)
  | x :: a, k + 1, hk => by
    have hk' : d + a.length ≤ k := by rw [List.length_cons] at hk; omega
    rw [cvL_succ, cvL_high h a k hk', h (k + 1) (by omega)]
    grind
theorem pow_high {f : List Int} (h0 : 0 < f.length) : ∀ n k, n * (f.length - 1) < k → powL f n k = 0
  | 0, 0, h => absurd h (by omega)
  | 0, _ + 1, _ => rfl
  | n + 1, k, h => cvL_high (pow_high h0 n) f k (by rw [Nat.add_mul] at h; omega)
theorem pow_none : ∀ n k, powL ([] : List Int) (n + 1) k = 0 := fun _ _ => rfl
/-- m noughts ahead -/
def upn {α : Type} [Lean.Grind.CommRing α] (m : Nat) (b : Nat → α) (k : Nat) : α := if k < m then 0 else b (k - m)
theorem upn_succ {α : Type} [Lean.Grind.CommRing α] (m : Nat) (b : Nat → α) (k : Nat) : upn (m + 1) b k = up1 (upn m b) k := by
  cases k with
  | zero => exact if_pos (by omega)
  | succ k =>
    show (if k + 1 < m + 1 then 0 else b (k + 1 - (m + 1))) = (if k < m then 0 else b (k - m))
    rw [show k + 1 - (m + 1) = k - m by omega]
    have e : (k + 1 < m + 1) ↔ (k < m) := by omega
    simp only [e]
theorem cvL_upn {α : Type} [Lean.Grind.CommRing α] (b : Nat → α) (a : List α) : ∀ (m k : Nat), cvL a (upn m b) k = upn m (cvL a b) k
  | 0, k => cvL_congr (fun k => rfl) a k
  | m + 1, k => by
    rw [cvL_congr (upn_succ m b) a k, cvL_up, upn_succ]
    cases k with
    | zero => rfl
    | succ k => exact cvL_upn b a m k
theorem cvL_rep {α : Type} [Lean.Grind.CommRing α] (b : Nat → α) (a : List α) : ∀ (m k : Nat), cvL (List.replicate m 0 ++ a) b k = upn m (cvL a b) k
  | 0, k => rfl
  | m + 1, k => by
    rw [List.replicate_succ, List.cons_append, cvL_cons, upn_succ]
    cases k with
    | zero => show 0 * b 0 + 0 = 0; grind
    | succ k =>
      show 0 * b (k + 1) + cvL (List.replicate m 0 ++ a) b k = upn m (cvL a b) k
      rw [cvL_rep b a m k]
      grind
theorem upn_upn {α : Type} [Lean.Grind.CommRing α] (m n : Nat) (b : Nat → α) (k : Nat) : upn m (upn n b) k = upn (m + n) b k := by
  unfold upn
  by_cases h1 : k < m
  · rw [if_pos h1, if_pos (by omega)]
  · rw [if_neg h1]
    by_cases h2 : k - m < n
    · rw [if_pos h2, if_pos (by omega)]
    · rw [if_neg h2, if_neg (by omega), show k - m - n = k - (m + n) by omega]
theorem upn_congr {α : Type} [Lean.Grind.CommRing α] {m : Nat} {b c : Nat → α} (h : ∀ k, b k = c k) (k : Nat) : upn m b k = upn m c k := by
  unfold upn; rw [h]
theorem pow_rep (a : List Int) (m : Nat) : ∀ n k, powL (List.replicate m 0 ++ a) n k = upn (m * n) (powL a n) k
  | 0, k => by show one1 k = if k < m * 0 then 0 else one1 (k - m * 0); rw [if_neg (by omega)]; simp
  | n + 1, k => by
    show cvL (List.replicate m 0 ++ a) (powL (List.replicate m 0 ++ a) n) k = _
    rw [cvL_rep, upn_congr (fun k => cvL_congr (pow_rep a m n) a k), upn_congr (fun k => cvL_upn (powL a n) a (m * n) k), upn_upn, show m + m * n = m * (n + 1) by rw [Nat.mul_succ]; omega]
    rfl
end Bs
namespace Bs
/-! ### products as operators, and worths -/
theorem cv_cvL (f g : Nat → Rat) : ∀ n k, cv f g n k = cvL ((List.range n).map f) g k
  | 0, _ => rfl
  | n + 1, k => by
    rw [List.range_succ, List.map_append, List.map_singleton, cvL_snoc, ← cv_cvL f g n k, List.length_map, List.length_range]
    rfl
theorem pv_getD (l : List Nu) (k : Nat) : (l.map val).getD k 0 = pwo l k := by
  unfold pwo getN
  rw [List.getD_eq_getElem?_getD, List.getD_eq_getElem?_getD, List.getElem?_map]
  cases l[k]? with
  | none => exact (zdiv _).symm
  | some q => rfl
theorem cv_turn {a b : List Nu} (k : Nat) : cv (pwo a) (pwo b) a.length k = cvL (b.map val) (pwo a) k := by
  rw [cv_cvL]
  have e1 : ∀ k, pwo b k = cvL (b.map val) one1 k := fun k => by rw [cvL_one, pv_getD]
  rw [cvL_congr e1, cvL_comm]
  refine cvL_congr (fun k => ?_) _ k
  rw [cvL_one, List.getD_eq_getElem?_getD, List.getElem?_map]
  by_cases h : k < a.length
  · rw [List.getElem?_range h]; rfl
  · rw [List.getElem?_eq_none (by rw [List.length_range]; omega), pv_end (by omega)]; rfl
theorem cvL_cast (p : Nat → Int) : ∀ (w : List Int) (k : Nat), ((cvL w p k : Int) : Rat) = cvL (w.map fun z : Int => (z : Rat)) (fun k => (p k : Rat)) k
  | [], _ => rfl
  | x :: w, 0 => by rw [cvL_zero]; show _ = (x : Rat) * (p 0 : Rat) + 0; push_cast; rfl
  | x :: w, k + 1 => by rw [cvL_succ]; show _ = (x : Rat) * (p (k + 1) : Rat) + cvL (w.map fun z : Int => (z : Rat)) (fun k => (p k : Rat)) k; rw [← cvL_cast p w k]; push_cast; rfl
theorem cvL_over (B : Rat) (b : Nat → Rat) : ∀ (w : List Rat) (k : Nat), cvL (w.map fun z => z / B) b k = cvL w b k / B
  | [], _ => (zdiv B).symm
  | x :: w, 0 => by show x / B * b 0 + 0 = (x * b 0 + 0) / B; grind
  | x :: w, k + 1 => by show x / B * b (k + 1) + cvL (w.map fun z => z / B) b k = (x * b (k + 1) + cvL w b k) / B; rw [cvL_over B b w k]; grind
theorem val_clr {l : List Nu} (hl : AllLow l) : l.map val = ((clrN l).map fun z : Int => (z : Rat)).map fun z => z / (clrB l : Rat) := by
  unfold clrN
  rw [List.map_map, List.map_map]
  refine List.map_congr_left fun q hq => ?_
  exact val_of_wo (Int.ne_of_gt (hl q hq).pos) (Int.ne_of_gt (clrB_ov hl).1) (clr_wo ((clrB_ov hl).2 q hq))
/-- the law's product, once more -/
theorem due_step {l a : List Nu} (hl : AllLow l) {t : Nat} (h : ∀ k, pwo a k = ((powL (clrN l) t k : Int) : Rat) / ((clrB l ^ t : Int) : Rat)) (k : Nat) : cv (pwo a) (pwo l) a.length k = ((powL (clrN l) (t + 1) k : Int) : Rat) / ((clrB l ^ (t + 1) : Int) : Rat) := by
  have hB := castNe (Int.ne_of_gt (clrB_ov hl).1)
  rw [cv_turn, val_clr hl, cvL_over, cvL_congr h]
  have e : ∀ k, ((powL (clrN l) t k : Int) : Rat) / ((clrB l ^ t : Int) : Rat) = (1 / ((clrB l ^ t : Int) : Rat)) * ((powL (clrN l) t k : Int) : Rat) := fun k => by grind
  rw [cvL_congr e, cvL_smul]
  have c := cvL_cast (powL (clrN l) t) (clrN l) k
  rw [← c, Int.pow_succ]
  show _ = ((cvL (clrN l) (powL (clrN l) t) k : Int) : Rat) / _
  push_cast
  grind
/-! ### worths at a place: d numbers from the end -/
def evF (f : Nat → Rat) (n : Nat) (x : Rat) : Nat → Rat
  | 0 => 0
  | d + 1 => f (n - 1 - d) + x * evF f n x d
theorem evF_congr {f g : Nat → Rat} {n : Nat} {x : Rat} : ∀ d, d ≤ n → (∀ i, n - d ≤ i → i < n → f i = g i) → evF f n x d = evF g n x d
  | 0, _, _ => rfl
  | d + 1, hd, h => by
    show f (n - 1 - d) + x * evF f n x d = g (n - 1 - d) + x * evF g n x d
    rw [evF_congr d (by omega) (fun i h1 h2 => h i (by omega) h2), h (n - 1 - d) (by omega) (by omega)]
theorem evF_over {f : Nat → Rat} {n : Nat} {x B : Rat} : ∀ d, evF (fun i => f i / B) n x d = evF f n x d / B
  | 0 => (zdiv B).symm
  | d + 1 => by
    show f (n - 1 - d) / B + x * evF (fun i => f i / B) n x d = (f (n - 1 - d) + x * evF f n x d) / B
    rw [evF_over d]
    grind
/-- each number times its power of s -/
theorem evF_scl {f : Nat → Rat} {n : Nat} {x s : Rat} : ∀ d, d ≤ n → evF (fun i => f i * s ^ i) n x d = s ^ (n - d) * evF f n (s * x) d
  | 0, _ => by show (0 : Rat) = s ^ n * 0; grind
  | d + 1, hd => by
    show f (n - 1 - d) * s ^ (n - 1 - d) + x * evF (fun i => f i * s ^ i) n x d = s ^ (n - (d + 1)) * (f (n - 1 - d) + s * x * evF f n (s * x) d)
    rw [evF_scl d (by omega), show n - d = (n - (d + 1)) + 1 by omega, show n - 1 - d = n - (d + 1) by omega, Rat.pow_succ]
    grind
theorem evF_str {f : Nat → Rat} {n : Nat} {z s : Rat} : ∀ d, d ≤ n → evF (fun i => f i * s ^ (n - 1 - i)) n (s * z) d * s = s ^ d * evF f n z d
  | 0, _ => by show (0 : Rat) * s = s ^ 0 * 0; grind
  | d + 1, hd => by
    show (f (n - 1 - d) * s ^ (n - 1 - (n - 1 - d)) + s * z * evF (fun i => f i * s ^ (n - 1 - i)) n (s * z) d) * s = s ^ (d + 1) * (f (n - 1 - d) + z * evF f n z d)
    have h := evF_str (f := f) (n := n) (z := z) (s := s) d (by omega)
    rw [show n - 1 - (n - 1 - d) = d by omega, Rat.pow_succ]
    generalize evF (fun i => f i * s ^ (n - 1 - i)) n (s * z) d = A at *
    generalize evF f n z d = C at *
    generalize s ^ d = S at *
    grind
/-! ### x moved by c: one division by x - c after another -/
def sy (c : Int) (R : Nat → Int) (n : Nat) : Nat → Int
  | 0 => R (n - 1)
  | d + 1 => R (n - 1 - (d + 1)) + c * sy c R n d
/-- the row after the round `first` -/
def rnd (c : Int) (R : Nat → Int) (n first : Nat) (j : Nat) : Int := if j < first then R j else sy c R n (n - 1 - j)
def toQ (R : Nat → Int) (k : Nat) : Rat := (R k : Rat)
theorem sy_ev {c : Int} {R : Nat → Int} {n first : Nat} {y : Rat} : ∀ d, d + 1 + first ≤ n → evF (toQ R) n y (d + 1) = (sy c R n d : Rat) + (y - c) * evF (toQ (rnd c R n first)) n y d
  | 0, _ => by show (R (n - 1 - 0) : Rat) + y * 0 = (R (n - 1) : Rat) + (y - c) * 0; rw [Nat.sub_zero]; grind
  | d + 1, h => by
    show (R (n - 1 - (d + 1)) : Rat) + y * evF (toQ R) n y (d + 1) = ((R (n - 1 - (d + 1)) + c * sy c R n d : Int) : Rat) + (y - c) * ((rnd c R n first (n - 1 - d) : Rat) + y * evF (toQ (rnd c R n first)) n y d)
    rw [sy_ev (c := c) (first := first) d (by omega)]
    have e : rnd c R n first (n - 1 - d) = sy c R n d := by
      unfold rnd
      rw [if_neg (by omega), show n - 1 - (n - 1 - d) = d by omega]
    rw [e]
    push_cast
    grind
def mx (R : Nat → Int) (n : Nat) (y c : Rat) : Nat → Nat → Rat
  | 0, lo => evF (toQ R) n y (n - lo)
  | t + 1, lo => (R lo : Rat) + (y - c) * mx R n y c t (lo + 1)
theorem mx_rnd {c : Int} {R : Nat → Int} {n first : Nat} {y : Rat} (hf : first + 1 ≤ n) : ∀ t lo, lo + t = first → mx R n y c t lo = mx (rnd c R n first) n y c (t + 1) lo
  | 0, lo, h => by
    show evF (toQ R) n y (n - lo) = (rnd c R n first lo : Rat) + (y - c) * evF (toQ (rnd c R n first)) n y (n - (lo + 1))
    have e : rnd c R n first lo = sy c R n (n - 1 - lo) := by unfold rnd; rw [if_neg (by omega)]
    rw [e, show n - lo = (n - 1 - lo) + 1 by omega, show n - (lo + 1) = n - 1 - lo by omega]
    exact sy_ev _ (by omega)
  | t + 1, lo, h => by
    show (R lo : Rat) + (y - c) * mx R n y c t (lo + 1) = (rnd c R n first lo : Rat) + (y - c) * mx (rnd c R n first) n y c (t + 1) (lo + 1)
    have e : rnd c R n first lo = R lo := by unfold rnd; rw [if_pos (by omega)]
    rw [e, mx_rnd hf t (lo + 1) (by omega)]
theorem mx_end {R : Nat → Int} {n : Nat} {y c : Rat} : ∀ t lo, lo + t + 1 = n → mx R n y c t lo = evF (toQ R) n (y - c) (n - lo)
  | 0, lo, h => by
    show evF (toQ R) n y (n - lo) = _
    rw [show n - lo = 0 + 1 by omega]
    show toQ R (n - 1 - 0) + y * 0 = toQ R (n - 1 - 0) + (y - c) * 0
    grind
  | t + 1, lo, h => by
    show (R lo : Rat) + (y - c) * mx R n y c t (lo + 1) = _
    rw [mx_end t (lo + 1) (by omega), show n - lo = (n - (lo + 1)) + 1 by omega]
    show _ = toQ R (n - 1 - (n - (lo + 1))) + _
    rw [show n - 1 - (n - (lo + 1)) = lo by omega]
    rfl
/-- the row after i rounds -/
def rnds (c : Int) (R : Nat → Int) (n : Nat) : Nat → Nat → Int
  | 0 => R
  | i + 1 => rnd c (rnds c R n i) n i
theorem rnds_mx {c : Int} {R : Nat → Int} {n : Nat} {y : Rat} : ∀ i, i + 1 ≤ n → mx (rnds c R n i) n y c i 0 = evF (toQ R) n y n
  | 0, _ => rfl
  | i + 1, h => by
    rw [← rnds_mx i (by omega)]
    exact (mx_rnd (by omega) i 0 (by omega)).symm
theorem rnds_ev {c : Int} {R : Nat → Int} {n : Nat} {y : Rat} (hn : 1 ≤ n) : evF (toQ (rnds c R n (n - 1))) n y n = evF (toQ R) n (y + c) n := by
  have h := rnds_mx (c := c) (R := R) (n := n) (y := y + c) (n - 1) (by omega)
  rw [mx_end (n - 1) 0 (by omega)] at h
  rw [← h, Nat.sub_zero]
  congr 1
  grind
theorem sy_last {c : Int} {R : Nat → Int} {n first : Nat} (h : first < n) : rnd c R n first (n - 1) = R (n - 1) := by
  unfold rnd
  rw [if_neg (by omega), show n - 1 - (n - 1) = 0 by omega]
  rfl
theorem rnds_last {c : Int} {R : Nat → Int} {n : Nat} : ∀ i, i < n → rnds c R n i (n - 1) = R (n - 1)
  | 0, _ => rfl
  | i + 1, h => by
    show rnd c (rnds c R n i) n i (n - 1) = _
    rw [sy_last (by omega), rnds_last i (by omega)]
end Bs
namespace Bs
open PySem L2
/-! ### numbers in the heap -/
def isN (H : Hp) (v : V) (q : Nu) : Prop := ∃ p, v = .ref p ∧ H p = some (.tup [.int q.1, .int q.2])
def Nums (H : Hp) : List V → List Nu → Prop
  | [], [] => True
  | x :: xs, q :: l => isN H x q ∧ Nums H xs l
  | _, _ => False
/-- tuples stand -/
def Tp (H H' : Hp) : Prop := ∀ b xs, H b = some (.tup xs) → H' b = some (.tup xs)
theorem tpS {H H' : Hp} (s : Same H H') : Tp H H' := fun b xs h => s b _ h
theorem Tp.trans {H H1 H2 : Hp} (a : Tp H H1) (b : Tp H1 H2) : Tp H H2 := fun c xs h => b c xs (a c xs h)
theorem Kp.tp {p : Addr} {H H' : Hp} {xs : List V} (k : Kp p H H') (h : H p = some (.lst xs)) : Tp H H' := fun b ys q => k b _ (ne_of q h (by intro z; cases z)) q
theorem Tp.updL {p : Addr} {H : Hp} {xs ys : List V} (h : H p = some (.lst xs)) : Tp H (upd H p (.lst ys)) := Kp.tp Kp.upd h
theorem isN.tp {H H' : Hp} {v : V} {q : Nu} (h : isN H v q) (t : Tp H H') : isN H' v q := let ⟨p, e, z⟩ := h; ⟨p, e, t _ _ z⟩
theorem Nums.tp {H H' : Hp} (t : Tp H H') : ∀ {xs : List V} {l : List Nu}, Nums H xs l → Nums H' xs l
  | [], [], _ => trivial
  | _ :: _, _ :: _, h => ⟨h.1.tp t, Nums.tp t h.2⟩
  | [], _ :: _, h => h.elim
  | _ :: _, [], h => h.elim
theorem Nums.length {H : Hp} : ∀ {xs : List V} {l : List Nu}, Nums H xs l → xs.length = l.length
  | [], [], _ => rfl
  | _ :: _, _ :: _, h => congrArg (· + 1) (Nums.length h.2)
  | [], _ :: _, h => h.elim
  | _ :: _, [], h => h.elim
theorem Nums.get {H : Hp} : ∀ {xs : List V} {l : List Nu} {i : Nat} {v : V}, Nums H xs l → xs[i]? = some v → ∃ q, l[i]? = some q ∧ isN H v q
  | [], [], _, _, _, e => by simp at e
  | _ :: _, q :: _, 0, _, h, e => by simp at e; subst e; exact ⟨q, rfl, h.1⟩
  | _ :: _, _ :: _, i + 1, _, h, e => by
    obtain ⟨q, h1, h2⟩ := Nums.get (i := i) h.2 (by simpa using e)
    exact ⟨q, by simpa using h1, h2⟩
  | [], _ :: _, _, _, h, _ => h.elim
  | _ :: _, [], _, _, h, _ => h.elim
theorem Nums.at {H : Hp} {xs : List V} {l : List Nu} {i : Nat} (h : Nums H xs l) (hi : i < l.length) (d : Nu) : ∃ v, xs[i]? = some v ∧ isN H v (l.getD i d) := by
  have hx : i < xs.length := by rw [h.length]; exact hi
  obtain ⟨q, h1, h2⟩ := h.get (List.getElem?_eq_getElem hx)
  refine ⟨_, List.getElem?_eq_getElem hx, ?_⟩
  rw [List.getD_eq_getElem?_getD, h1]
  exact h2
theorem Nums.append {H : Hp} : ∀ {xs ys : List V} {l m : List Nu}, Nums H xs l → Nums H ys m → Nums H (xs ++ ys) (l ++ m)
  | [], _, [], _, _, h => h
  | _ :: _, _, _ :: _, _, h, h2 => ⟨h.1, Nums.append h.2 h2⟩
  | [], _, _ :: _, _, h, _ => h.elim
  | _ :: _, _, [], _, h, _ => h.elim
theorem Nums.one {H : Hp} {v : V} {q : Nu} (h : isN H v q) : Nums H [v] [q] := ⟨h, trivial⟩
theorem Nums.take {H : Hp} : ∀ {xs : List V} {l : List Nu} (n : Nat), Nums H xs l → Nums H (xs.take n) (l.take n)
  | [], [], n, _ => by simp [Nums]
  | _ :: _, _ :: _, 0, _ => trivial
  | _ :: _, _ :: _, n + 1, h => ⟨h.1, Nums.take n h.2⟩
  | [], _ :: _, _, h => h.elim
  | _ :: _, [], _, h => h.elim
theorem Nums.set {H : Hp} {v : V} {q : Nu} (hv : isN H v q) : ∀ {xs : List V} {l : List Nu} (i : Nat), Nums H xs l → Nums H (xs.set i v) (l.set i q)
  | [], [], _, _ => trivial
  | _ :: _, _ :: _, 0, h => ⟨hv, h.2⟩
  | _ :: _, _ :: _, i + 1, h => ⟨h.1, Nums.set hv i h.2⟩
  | [], _ :: _, _, h => h.elim
  | _ :: _, [], _, h => h.elim
theorem Nums.rep {H : Hp} {v : V} {q : Nu} (hv : isN H v q) : ∀ n : Nat, Nums H (List.replicate n v) (List.replicate n q)
  | 0 => trivial
  | n + 1 => ⟨hv, Nums.rep hv n⟩
theorem flat_rep {α : Type} (v : α) : ∀ n : Nat, (List.replicate n [v]).flatten = List.replicate n v
  | 0 => rfl
  | n + 1 => by rw [List.replicate_succ, List.flatten_cons, flat_rep v n]; rfl
theorem atI_of {α : Type} {xs : List α} {i : Int} {j : Nat} {v : α} (e : i = (j : Int)) (h : xs[j]? = some v) : atI xs i = some v := by subst e; exact atI_nat h
theorem isN_new {H : Hp} {p : Addr} {q : Nu} : isN (upd H p (.tup [.int q.1, .int q.2])) (.ref p) q := ⟨p, rfl, upd_same⟩
theorem cutV_take {xs : List V} {m : Nat} (h : m ≤ xs.length) : cutV xs none (some (m : Int)) = xs.take m := by
  unfold cutV HT.sIx
  simp only [List.drop_zero, Nat.sub_zero, Int.toNat_natCast]
  rw [if_neg (by omega), Nat.min_eq_left h]
/-- a polynomial handed back -/
def OutP (H : Hp) (Q : VK) (l : List Nu) : Prop := ∀ (r : Addr) (zs : List V) (H' : Hp), Same H H' → H' r = some (.tup zs) → Nums H' zs l → Q (.ref r) H'
/-- a polynomial as data -/
def datN (q : Nu) : PySem.W.Dat := .tuple [.int q.1, .int q.2]
def datP (l : List Nu) : PySem.W.Dat := .tuple (l.map datN)
theorem repN {H : Hp} {v : V} {q : Nu} (h : isN H v q) : RepD H v (datN q) := by
  obtain ⟨p, rfl, hp⟩ := h
  exact .tup hp (.cons (.int _) (.cons (.int _) .nil))
theorem repNs {H : Hp} : ∀ {xs : List V} {l : List Nu}, Nums H xs l → RepA H xs (l.map datN)
  | [], [], _ => .nil
  | _ :: _, _ :: _, h => .cons (repN h.1) (repNs h.2)
  | [], _ :: _, h => h.elim
  | _ :: _, [], h => h.elim
theorem repP {H : Hp} {p : Addr} {xs : List V} {l : List Nu} (hp : H p = some (.tup xs)) (h : Nums H xs l) : RepD H (.ref p) (datP l) := .tup hp (repNs h)
theorem repR {H : Hp} {p : Addr} {xs : List V} {l : List Nu} (hp : H p = some (.lst xs)) (h : Nums H xs l) : RepD H (.ref p) (.list (l.map datN)) := .lst hp (repNs h)
theorem okN (q : Nu) (n : Nat) : PySem.W.kqdOk (n + 1) (datN q) = true := by simp [datN, PySem.W.kqdOk]
theorem okP (l : List Nu) (n : Nat) : PySem.W.kqdOk (n + 2) (datP l) = true := by
  simp only [datP, PySem.W.kqdOk, List.all_map, List.all_eq_true, Function.comp]
  intro q _
  exact okN q n
end Bs
set_option maxHeartbeats 4000000
namespace Bs
open PySem L2
abbrev Nm (H : Hp) (p : Addr) (t d : Int) : Prop := H p = some (.tup [.int t, .int d])
def sp_common_divisor (_ : PySem.W.Frag) : Sp := fun vs H Q _ => ∃ a b : Int, vs = [.int a, .int b] ∧ Q (.int ((Int.gcd a b : Nat) : Int)) H
def Box (H : Hp) (p : Addr) (n : Int) : Prop := ∃ a b c : Int, H p = some (.lst [.int a, .int b, .int c]) ∧ 0 ≤ a ∧ 0 ≤ b ∧ 0 ≤ c ∧ c ≤ n
def sp_l_box (K : PySem.W.Frag) : Sp := fun vs H Q _ => ∃ (s : Addr) (ns : List Int) (k : Int), vs = [.ref s, .int k] ∧ SqL K H s (ns.map V.int) ∧ 0 ≤ k ∧ k ≤ 1000 ∧
  ∀ (p : Addr) (H' : Hp), H p = none → Kp p H H' → Box H' p 7000 → Q (.ref p) H'
def sp_l_take (_ : PySem.W.Frag) : Sp := fun vs H Q _ => ∃ (p : Addr) (m n : Int), vs = [.ref p, .int m] ∧ Box H p n ∧ n ≤ 1000000 ∧ 0 < m ∧ m < 4611686018427387904 ∧
  ∀ (d : Int) (H' : Hp), 0 ≤ d → d < m → Box H' p (n + 1) → Kp p H H' → Q (.int d) H'
def sp_l_lowest (_ : PySem.W.Frag) : Sp := fun vs H Q _ => ∃ a b : Int, vs = [.int a, .int b] ∧ 0 < b ∧ Bd 8000 b ∧
  ∀ (p : Addr), H p = none → Q (.ref p) (upd H p (.tup [.int (a / ((Int.gcd a b : Nat) : Int)), .int (b / ((Int.gcd a b : Nat) : Int))]))
def sp_l_number (_ : PySem.W.Frag) : Sp := fun vs H Q _ => ∃ (p : Addr) (n : Int), vs = [.ref p] ∧ Box H p n ∧ n ≤ 900000 ∧
  ∀ (r : Addr) (t d : Int) (H' : Hp), Nm H' r t d → Low t d → Bd 40 t → Bd 40 d → Box H' p (n + 3) → Kp p H H' → Q (.ref r) H'
def sp_l_is_number (_ : PySem.W.Frag) : Sp := fun vs H Q _ => ∃ (p : Addr) (t d : Int), vs = [.ref p] ∧ Nm H p t d ∧ Low t d ∧ Bd 8000 d ∧ ∀ H', Same H H' → Q (.bl true) H'
def sp_law (K : PySem.W.Frag) : Sp := fun vs H Q _ => ∃ (a : Addr) (ns : List Int), vs = [.ref a] ∧ SqL K H a (ns.map V.int) ∧ ns.length ≤ 63 ∧ ∀ H', Q (.bl true) H'
def sp_raised (_ : PySem.W.Frag) : Sp := fun vs H Q _ => ∃ (x n : Int) (b : Nat), vs = [.int x, .int n] ∧ 0 ≤ n ∧ Bd b x ∧ b * n.toNat + 1 ≤ 8000 ∧ Q (.int (x ^ n.toNat)) H
def Pl (H : Hp) (r : Addr) (L : List Nu) : Prop := ∃ zs, H r = some (.tup zs) ∧ Nums H zs L
def sp_ratio (_ : PySem.W.Frag) : Sp := fun vs H Q _ => ∃ a b : Int, vs = [.int a, .int b] ∧ b ≠ 0 ∧ Bd 8000 b ∧ ∀ (p : Addr), H p = none → Q (.ref p) (upd H p (.tup [.int (redG a b).1, .int (redG a b).2]))
def sp_two (f : Nu → Nu → Nu) (_ : PySem.W.Frag) : Sp := fun vs H Q _ => ∃ (p q : Addr) (a b c d : Int), vs = [.ref p, .ref q] ∧ Nm H p a b ∧ Nm H q c d ∧ 0 < b ∧ 0 < d ∧ Bd 300000 a ∧ Bd 4000 b ∧ Bd 300000 c ∧ Bd 4000 d ∧
  ∀ (r : Addr), H r = none → Q (.ref r) (upd H r (.tup [.int (f (a, b) (c, d)).1, .int (f (a, b) (c, d)).2]))
abbrev sp_l_sum := sp_two nadd
abbrev sp_l_product := sp_two nmul
def sp_poly (_ : PySem.W.Frag) : Sp := fun vs H Q _ => ∃ (p : Addr) (xs : List V) (l : List Nu), vs = [.ref p] ∧ H p = some (.lst xs) ∧ Nums H xs l ∧ l.length ≤ 1000 ∧ OutP H Q (trim l)
abbrev sp_l_poly_of := sp_poly
def sp_cleared (_ : PySem.W.Frag) : Sp := fun vs H Q _ => ∃ (p : Addr) (xs : List V) (l : List Nu) (M : Int), vs = [.ref p] ∧ H p = some (.tup xs) ∧ Nums H xs l ∧ AllLow l ∧ Ov l M ∧ Bd 4000 M ∧ (∀ q ∈ l, Bd 50000 q.1) ∧ l.length ≤ 1000 ∧
  ∀ (r a : Addr) (H' : Hp), Same H H' → H' r = some (.tup [.ref a, .int (clrB l)]) → H' a = some (.lst ((clrN l).map V.int)) → Q (.ref r) H'
def sp_uncleared (_ : PySem.W.Frag) : Sp := fun vs H Q _ => ∃ (p : Addr) (ns : List Int) (B : Int), vs = [.ref p, .int B] ∧ H p = some (.lst (ns.map V.int)) ∧ B ≠ 0 ∧ Bd 8000 B ∧ ns.length ≤ 1000 ∧ OutP H Q (trim (ns.map fun n => redG n B))
def sp_l_added (_ : PySem.W.Frag) : Sp := fun vs H Q _ => ∃ (p q : Addr) (xs ys : List V) (l m : List Nu), vs = [.ref p, .ref q] ∧ H p = some (.tup xs) ∧ H q = some (.tup ys) ∧ Nums H xs l ∧ Nums H ys m ∧ AllLow l ∧ AllLow m ∧ (∀ q ∈ l, Bd 200000 q.1 ∧ Bd 3900 q.2) ∧ (∀ q ∈ m, Bd 200000 q.1 ∧ Bd 3900 q.2) ∧ l.length ≤ 24 ∧ m.length ≤ 24 ∧ OutP H Q (trim (zipN nadd l m))
def sp_l_multiplied (_ : PySem.W.Frag) : Sp := fun vs H Q _ => ∃ (p q : Addr) (xs ys : List V) (l m : List Nu) (M1 M2 : Int), vs = [.ref p, .ref q] ∧ H p = some (.tup xs) ∧ H q = some (.tup ys) ∧ Nums H xs l ∧ Nums H ys m ∧ AllLow l ∧ AllLow m ∧ Ov l M1 ∧ Ov m M2 ∧ Bd 3900 (M1 * M2) ∧ (∀ q ∈ l, Bd 50000 q.1) ∧ (∀ q ∈ m, Bd 50000 q.1) ∧ l.length ≤ 100 ∧ m.length ≤ 12 ∧ OutP H Q (trim (mulG l m M1 M2 (l.length + m.length)))
def sp_l_poly (_ : PySem.W.Frag) : Sp := fun vs H Q _ => ∃ (p : Addr) (m n : Int), vs = [.ref p, .int m] ∧ Box H p n ∧ n ≤ 800000 ∧ 0 ≤ m ∧ m ≤ 9 ∧
  ∀ (r : Addr) (zs : List V) (l : List Nu) (H' : Hp), H' r = some (.tup zs) → Nums H' zs l → AllLow l → AllBd 40 l → Nz l → (l.length : Int) ≤ m + 1 → Box H' p (n + 40) → Kp p H H' → Q (.ref r) H'
def sp_l_is_poly (_ : PySem.W.Frag) : Sp := fun vs H Q _ => ∃ (p : Addr) (xs : List V) (l : List Nu), vs = [.ref p] ∧ H p = some (.tup xs) ∧ Nums H xs l ∧ AllLow l ∧ (∀ q ∈ l, Bd 8000 q.2) ∧ Nz l ∧ l.length ≤ 1000 ∧ ∀ H', Same H H' → Q (.bl true) H'
def rowF (n : Nat) (f : Nat → Int) : List V := ((List.range n).map f).map V.int
end Bs
namespace Bs
open PySem L2
def sp_row_power (_ : PySem.W.Frag) : Sp := fun vs H Q _ => ∃ (p : Addr) (f : List Int) (n b : Nat), vs = [.ref p, .int (n : Int)] ∧ H p = some (.lst (f.map V.int)) ∧ 0 < f.length ∧ f.getD 0 0 ≠ 0 ∧ (∀ z ∈ f, Bd b z) ∧ (b + f.length) * n + 1 ≤ 8000 ∧ b ≤ 300 ∧ f.length ≤ 9 ∧ n ≤ 60 ∧
  ∀ (r : Addr) (H' : Hp), Same H H' → H' r = some (.lst (((List.range (n * (f.length - 1) + 1)).map (powL f n)).map V.int)) → Q (.ref r) H'
def sp_row_moved (_ : PySem.W.Frag) : Sp := fun vs H Q _ => ∃ (p : Addr) (ns : List Int) (c : Int), vs = [.ref p, .int c] ∧ H p = some (.lst (ns.map V.int)) ∧ ns.length ≤ 9 ∧ (∀ z ∈ ns, Bd 2000 z) ∧ Bd 40 c ∧
  ∀ (r : Addr) (H' : Hp), Same H H' → H' r = some (.lst (rowF ns.length (rnds c (fun k => ns.getD k 0) ns.length (ns.length - 1)))) → Q (.ref r) H'
def sp_p_at (_ : PySem.W.Frag) : Sp := fun vs H Q _ => ∃ (p q : Addr) (xs : List V) (l : List Nu) (a b : Int), vs = [.ref p, .ref q] ∧ H p = some (.tup xs) ∧ Nm H q a b ∧ Nums H xs l ∧ AllLow l ∧ AllBd 40 l ∧ Low a b ∧ Bd 40 a ∧ Bd 40 b ∧ l.length ≤ 9 ∧
  ∀ (r : Addr) (H' : Hp) (z : Nu), Same H H' → isN H' (.ref r) z → Low z.1 z.2 → Bd 8000 z.2 → val z = evF (pwo l) l.length (val (a, b)) l.length → Q (.ref r) H'
def sp_p_moved (_ : PySem.W.Frag) : Sp := fun vs H Q _ => ∃ (p q : Addr) (xs : List V) (l : List Nu) (a b : Int), vs = [.ref p, .ref q] ∧ H p = some (.tup xs) ∧ Nm H q a b ∧ Nums H xs l ∧ AllLow l ∧ Nz l ∧ AllBd 40 l ∧ Low a b ∧ Bd 40 a ∧ Bd 40 b ∧ l.length ≤ 9 ∧
  ∀ (r : Addr) (H' : Hp) (L : List Nu) (M : Int), Same H H' → Pl H' r L → AllLow L → Nz L → L.length = l.length → Ov L M → Bd 1500 M → (∀ q ∈ L, Bd 20000 q.1) → (∀ x, evF (pwo L) l.length x l.length = evF (pwo l) l.length (x + val (a, b)) l.length) → Q (.ref r) H'
/-- small enough -/
def PwOk (l : List Nu) (n : Nat) : Prop := (l.length ≤ 4 ∧ n ≤ 6) ∨ (l.length ≤ 2 ∧ n ≤ 40)
def sp_p_power (_ : PySem.W.Frag) : Sp := fun vs H Q _ => ∃ (p : Addr) (xs : List V) (l : List Nu) (n : Nat), vs = [.ref p, .int (n : Int)] ∧ H p = some (.tup xs) ∧ Nums H xs l ∧ AllLow l ∧ Nz l ∧ AllBd 40 l ∧ PwOk l n ∧
  ∀ (r : Addr) (H' : Hp) (L : List Nu), Same H H' → Pl H' r L → AllLow L → Nz L → (∀ k, pwo L k = ((powL (clrN l) n k : Int) : Rat) / ((clrB l ^ n : Int) : Rat)) → Q (.ref r) H'
def sp_l_at (_ : PySem.W.Frag) : Sp := fun vs H Q _ => ∃ (p q : Addr) (xs : List V) (l : List Nu) (a b M : Int), vs = [.ref p, .ref q] ∧ H p = some (.tup xs) ∧ Nm H q a b ∧ Nums H xs l ∧ AllLow l ∧ Ov l M ∧ Bd 1500 M ∧ (∀ q ∈ l, Bd 20000 q.1) ∧ Low a b ∧ Bd 200 a ∧ Bd 200 b ∧ l.length ≤ 9 ∧
  ∀ (r : Addr) (H' : Hp) (z : Nu), Same H H' → isN H' (.ref r) z → Low z.1 z.2 → val z = evF (pwo l) l.length (val (a, b)) l.length → Q (.ref r) H'
def sp_l_moved_right (_ : PySem.W.Frag) : Sp := fun vs H Q _ => ∃ (p q : Addr) (xs : List V) (l : List Nu) (a b : Int), vs = [.ref p, .ref q] ∧ H p = some (.tup xs) ∧ Nm H q a b ∧ Nums H xs l ∧ AllLow l ∧ Nz l ∧ AllBd 40 l ∧ Low a b ∧ Bd 40 a ∧ Bd 40 b ∧ l.length ≤ 9 ∧ ∀ H', Same H H' → Q (.bl true) H'
def sp_l_power_right (_ : PySem.W.Frag) : Sp := fun vs H Q _ => ∃ (p : Addr) (xs : List V) (l : List Nu) (n : Nat), vs = [.ref p, .int (n : Int)] ∧ H p = some (.tup xs) ∧ Nums H xs l ∧ AllLow l ∧ Nz l ∧ AllBd 40 l ∧ PwOk l n ∧ ∀ H', Same H H' → Q (.bl true) H'
end Bs
namespace Bs
open PySem L2
set_option linter.unusedVariables false
/-! ### the readings of the bodies -/
def T_common_divisor (K : PySem.W.Frag) : TS :=
  (tSeq (tWhile (tTest (tOp rNe (tVar 1) (tC (.int 0)))) (tSeq (tAsg (tOp iModN (tVar 0) (tVar 1)) (gName 2))
    (tSeq (tAsg (tVar 1) (gName 0))
    (tAsg (tVar 2) (gName 1)))))
    (tRet (tCB bAbs (tCons (tVar 0) tNil))))
def T_raised (K : PySem.W.Frag) : TS :=
  (tSeq (tAsg (tC (.int 1)) (gName 2))
    (tSeq (tAsg (tVar 0) (gName 3))
    (tSeq (tWhile (tTest (tOp iGt (tVar 1) (tC (.int 0)))) (tSeq (tIfS (tTest (tOp rEq (tOp iMod (tVar 1) (tC (.int 2))) (tC (.int 1)))) (tAug 2 (tVar 3) iMul) tNext)
    (tSeq (tAug 1 (tC (.int 2)) iDivP)
    (tIfS (tTest (tOp iGt (tVar 1) (tC (.int 0)))) (tAug 3 (tVar 3) iMul) tNext))))
    (tRet (tVar 2)))))
def T_row_power_b1_2 (K : PySem.W.Frag) : TS :=
  (tDrop (tBM K "list" rAppend (tVar 2) (tCons (tOp iDivN (tVar 4) (tOp iMul (tVar 3) (tOp gL (tVar 0) (tC (.int 0))))) tNil)))
def T_row_power_b1_1 (K : PySem.W.Frag) : TS :=
  (tSeq (tFor (iRng2 (tCons (tC (.int 1)) (tCons (tOp iAdd (tCB bMin (tCons (tVar 3) (tCons (tOp iSub (tCB bLenL (tCons (tVar 0) tNil)) (tC (.int 1))) tNil))) (tC (.int 1))) tNil))) (gName 5) (tAug 4 (tOp iMul (tOp iMul (tOp iSub (tOp iMul (tOp iAdd (tVar 1) (tC (.int 1))) (tVar 5)) (tVar 3)) (tOp gL (tVar 0) (tVar 5))) (tOp gL (tVar 2) (tOp iSub (tVar 3) (tVar 5)))) iAdd))
    (T_row_power_b1_2 K))
def T_row_power_b1_0 (K : PySem.W.Frag) : TS :=
  (tSeq (tAsg (tC (.int 0)) (gName 4))
    (T_row_power_b1_1 K))
def T_row_power_2 (K : PySem.W.Frag) : TS :=
  (tRet (tVar 2))
def T_row_power_1 (K : PySem.W.Frag) : TS :=
  (tSeq (tFor (iRng2 (tCons (tC (.int 1)) (tCons (tOp iAdd (tOp iMul (tVar 1) (tOp iSub (tCB bLenL (tCons (tVar 0) tNil)) (tC (.int 1)))) (tC (.int 1))) tNil))) (gName 3) (T_row_power_b1_0 K))
    (T_row_power_2 K))
def T_row_power (K : PySem.W.Frag) : TS :=
  (tSeq (tAsg (tLst (tCons (tCall (sp_raised K) [] E0 (tCons (tOp gL (tVar 0) (tC (.int 0))) (tCons (tVar 1) tNil))) tNil)) (gName 2))
    (T_row_power_1 K))
def T_row_moved (K : PySem.W.Frag) : TS :=
  (tSeq (tAsg (tCB bListL (tCons (tVar 0) tNil)) (gName 2))
    (tSeq (tFor (iRng1 (tCons (tOp iSub (tCB bLenL (tCons (tVar 0) tNil)) (tC (.int 1))) tNil)) (gName 3) (tFor (iRngD (tCons (tOp iSub (tCB bLenL (tCons (tVar 0) tNil)) (tC (.int 2))) (tCons (tOp iSub (tVar 3) (tC (.int 1))) (tCons (tUn uNeg (tC (.int 1))) tNil)))) (gName 4) (tAugS (tVar 2) (tVar 4) (tOp iMul (tVar 1) (tOp gL (tVar 2) (tOp iAdd (tVar 4) (tC (.int 1))))) gL iAdd rSetL)))
    (tRet (tVar 2))))
def T_ratio (K : PySem.W.Frag) : TS :=
  (tSeq (tAsg (tCall (sp_common_divisor K) [] E0 (tCons (tVar 0) (tCons (tVar 1) tNil))) (gName 2))
    (tSeq (tIfS (tTest (tOp iLt (tVar 1) (tC (.int 0)))) (tAsg (tUn uNeg (tVar 2)) (gName 2)) tNext)
    (tRet (tTup (tCons (tOp iDivN (tVar 0) (tVar 2)) (tCons (tOp iDivN (tVar 1) (tVar 2)) tNil))))))
def T_poly (K : PySem.W.Frag) : TS :=
  (tSeq (tAsg (tCB bLenL (tCons (tVar 0) tNil)) (gName 1))
    (tSeq (tWhile (tAnd (tTest (tOp iGt (tVar 1) (tC (.int 0)))) (tTest (tOp rEq (tOp gT (tOp gL (tVar 0) (tOp iSub (tVar 1) (tC (.int 1)))) (tC (.int 0))) (tC (.int 0))))) (tAug 1 (tC (.int 1)) iSub))
    (tRet (tCB bTupL (tCons (tSl sL (tVar 0) tNoPart (tPart (tVar 1))) tNil)))))
def T_cleared (K : PySem.W.Frag) : TS :=
  (tSeq (tAsg (tC (.int 1)) (gName 1))
    (tSeq (tFor (iTup K (tVar 0)) (gName 2) (tAug 1 (tOp iDivP (tOp gT (tVar 2) (tC (.int 1))) (tCall (sp_common_divisor K) [] E0 (tCons (tVar 1) (tCons (tOp gT (tVar 2) (tC (.int 1))) tNil)))) iMul))
    (tRet (tTup (tCons (tComp (iTup K (tVar 0)) [none, some 1] (gName 0) (tOp iMul (tOp gT (tVar 0) (tC (.int 0))) (tOp iDivP (tVar 1) (tOp gT (tVar 0) (tC (.int 1)))))) (tCons (tVar 1) tNil))))))
def T_uncleared (K : PySem.W.Frag) : TS :=
  (tRet (tCall (sp_poly K) [] E0 (tCons (tComp (iList K (tVar 0)) [none, some 1] (gName 0) (tCall (sp_ratio K) [] E0 (tCons (tVar 0) (tCons (tVar 1) tNil)))) tNil)))
def T_p_at (K : PySem.W.Frag) : TS :=
  (tSeq (tAsg (tCall (sp_cleared K) [] E0 (tCons (tVar 0) tNil)) (gName 2))
    (tSeq (tAsg (tC (.int 0)) (gName 3))
    (tSeq (tAsg (tC (.int 1)) (gName 4))
    (tSeq (tFor (iRev K (tCons (tOp gT (tVar 2) (tC (.int 0))) tNil)) (gName 5) (tSeq (tAsg (tOp iAdd (tOp iMul (tVar 3) (tOp gT (tVar 1) (tC (.int 0)))) (tOp iMul (tVar 5) (tVar 4))) (gName 3))
    (tAug 4 (tOp gT (tVar 1) (tC (.int 1))) iMul)))
    (tRet (tCall (sp_ratio K) [] E0 (tCons (tOp iMul (tVar 3) (tOp gT (tVar 1) (tC (.int 1)))) (tCons (tOp iMul (tOp gT (tVar 2) (tC (.int 1))) (tVar 4)) tNil))))))))
def T_p_moved_6 (K : PySem.W.Frag) : TS :=
  (tRet (tCall (sp_uncleared K) [] E0 (tCons (tComp (iEnumL K (tCons (tVar 7) tNil)) [none, none, some 3] (gTupH 2 (gCons (gName 0) (gCons (gName 1) gNil))) (tOp iMul (tVar 1) (tOp gL (tVar 2) (tVar 0)))) (tCons (tOp iMul (tOp gT (tVar 2) (tC (.int 1))) (tOp gL (tVar 3) (tVar 5))) tNil))))
def T_p_moved_5 (K : PySem.W.Frag) : TS :=
  (tSeq (tAsg (tCall (sp_row_moved K) [] E0 (tCons (tVar 6) (tCons (tOp gT (tVar 1) (tC (.int 0))) tNil))) (gName 7))
    (T_p_moved_6 K))
def T_p_moved_4 (K : PySem.W.Frag) : TS :=
  (tSeq (tAsg (tComp (iEnumL K (tCons (tOp gT (tVar 2) (tC (.int 0))) tNil)) [none, none, some 3, some 5] (gTupH 2 (gCons (gName 0) (gCons (gName 1) gNil))) (tOp iMul (tVar 1) (tOp gL (tVar 2) (tOp iSub (tVar 3) (tVar 0))))) (gName 6))
    (T_p_moved_5 K))
def T_p_moved_3 (K : PySem.W.Frag) : TS :=
  (tSeq (tAsg (tOp iSub (tCB bLenT (tCons (tVar 0) tNil)) (tC (.int 1))) (gName 5))
    (T_p_moved_4 K))
def T_p_moved_2 (K : PySem.W.Frag) : TS :=
  (tSeq (tFor (iTup K (tVar 0)) (gName 4) (tDrop (tBM K "list" rAppend (tVar 3) (tCons (tOp iMul (tOp gL (tVar 3) (tUn uNeg (tC (.int 1)))) (tOp gT (tVar 1) (tC (.int 1)))) tNil))))
    (T_p_moved_3 K))
def T_p_moved_1 (K : PySem.W.Frag) : TS :=
  (tSeq (tAsg (tLst (tCons (tC (.int 1)) tNil)) (gName 3))
    (T_p_moved_2 K))
def T_p_moved (K : PySem.W.Frag) : TS :=
  (tSeq (tAsg (tCall (sp_cleared K) [] E0 (tCons (tVar 0) tNil)) (gName 2))
    (T_p_moved_1 K))
def T_p_power_5 (K : PySem.W.Frag) : TS :=
  (tRet (tCall (sp_uncleared K) [] E0 (tCons (tOp rCat (tOp rRep (tLst (tCons (tC (.int 0)) tNil)) (tOp iMul (tVar 3) (tVar 1))) (tCall (sp_row_power K) [] E0 (tCons (tSl sL (tOp gT (tVar 2) (tC (.int 0))) (tPart (tVar 3)) tNoPart) (tCons (tVar 1) tNil)))) (tCons (tCall (sp_raised K) [] E0 (tCons (tOp gT (tVar 2) (tC (.int 1))) (tCons (tVar 1) tNil))) tNil))))
def T_p_power_4 (K : PySem.W.Frag) : TS :=
  (tSeq (tIfS (tTest (tOp rEq (tVar 3) (tCB bLenT (tCons (tVar 0) tNil)))) (tRet (tTup tNil)) tNext)
    (T_p_power_5 K))
def T_p_power_3 (K : PySem.W.Frag) : TS :=
  (tSeq (tWhile (tAnd (tTest (tOp iLt (tVar 3) (tCB bLenT (tCons (tVar 0) tNil)))) (tTest (tOp rEq (tOp gL (tOp gT (tVar 2) (tC (.int 0))) (tVar 3)) (tC (.int 0))))) (tAug 3 (tC (.int 1)) iAdd))
    (T_p_power_4 K))
def T_p_power_2 (K : PySem.W.Frag) : TS :=
  (tSeq (tAsg (tC (.int 0)) (gName 3))
    (T_p_power_3 K))
def T_p_power_1 (K : PySem.W.Frag) : TS :=
  (tSeq (tAsg (tCall (sp_cleared K) [] E0 (tCons (tVar 0) tNil)) (gName 2))
    (T_p_power_2 K))
def T_p_power (K : PySem.W.Frag) : TS :=
  (tSeq (tIfS (tTest (tOp rEq (tVar 1) (tC (.int 0)))) (tRet (tTup (tCons (tTup (tCons (tC (.int 1)) (tCons (tC (.int 1)) tNil))) tNil))) tNext)
    (T_p_power_1 K))
def T_l_box (K : PySem.W.Frag) : TS :=
  (tSeq (tAsg (tC (.int 0)) (gName 2))
    (tSeq (tIfS (tTest (tOp iLt (tVar 1) (tCB (bLenS K) (tCons (tVar 0) tNil)))) (tAsg (tOp (gS K) (tVar 0) (tVar 1)) (gName 2)) tNext)
    (tSeq (tAsg (tAndV (tOp iGt (tCB (bLenS K) (tCons (tVar 0) tNil)) (tC (.int 0))) (tOp rEq (tOp iMod (tOp (gS K) (tVar 0) (tC (.int 0))) (tC (.int 2))) (tC (.int 0)))) (gName 3))
    (tRet (tLst (tCons (tOp iMul (tCB bAbs (tCons (tVar 2) tNil)) (tCB bIntB (tCons (tVar 3) tNil))) (tCons (tCB bAbs (tCons (tVar 2) tNil)) (tCons (tOp iMul (tC (.int 7)) (tVar 1)) tNil))))))))
def T_l_take (K : PySem.W.Frag) : TS :=
  (tSeq (tIfS (tTest (tOp iGt (tOp gL (tVar 0) (tC (.int 0))) (tC (.int 0)))) (tSeq (tAsg (tOp iMod (tOp gL (tVar 0) (tC (.int 0))) (tVar 1)) (gName 2))
    (tSeq (tAsg (tOp iDivP (tOp gL (tVar 0) (tC (.int 0))) (tVar 1)) (gSub (tVar 0) (tC (.int 0)) rSetL))
    (tRet (tVar 2)))) tNext)
    (tSeq (tAsg (tOp iAdd (tOp gL (tVar 0) (tC (.int 2))) (tC (.int 1))) (gSub (tVar 0) (tC (.int 2)) rSetL))
    (tSeq (tAsg (tOp iAdd (tOp iMod (tOp gL (tVar 0) (tC (.int 1))) (tC (.int 2305843009213693951))) (tC (.int 3))) (gName 3))
    (tSeq (tAsg (tOp iMod (tOp iMul (tVar 3) (tOp iAdd (tC (.int 48271)) (tOp iMul (tOp gL (tVar 0) (tC (.int 2))) (tOp gL (tVar 0) (tC (.int 2)))))) (tC (.int 2305843009213693921))) (gName 3))
    (tSeq (tAsg (tOp iMod (tOp iMul (tVar 3) (tOp iAdd (tOp iAdd (tOp iMod (tVar 3) (tC (.int 1000003))) (tOp iMul (tOp gL (tVar 0) (tC (.int 2))) (tC (.int 69621)))) (tC (.int 11)))) (tC (.int 2305843009213693907))) (gName 3))
    (tRet (tOp iMod (tOp iAdd (tOp iDivP (tOp iMul (tVar 3) (tVar 3)) (tC (.int 97))) (tOp iDivP (tVar 3) (tC (.int 31)))) (tVar 1))))))))
def T_l_lowest (K : PySem.W.Frag) : TS :=
  (tSeq (tPar 2 3 (tCons (tCB bAbs (tCons (tVar 0) tNil)) (tCons (tVar 1) tNil)))
    (tSeq (tWhile (tTest (tOp iGt (tVar 3) (tC (.int 0)))) (tPar 2 3 (tCons (tVar 3) (tCons (tOp iMod (tVar 2) (tVar 3)) tNil))))
    (tRet (tTup (tCons (tOp iDivP (tVar 0) (tVar 2)) (tCons (tOp iDivP (tVar 1) (tVar 2)) tNil))))))
def T_l_number (K : PySem.W.Frag) : TS :=
  (tSeq (tAsg (tCall (sp_l_take K) [] E0 (tCons (tVar 0) (tCons (tC (.int 5)) tNil))) (gName 1))
    (tSeq (tIfS (tTest (tOp rEq (tVar 1) (tC (.int 0)))) (tRet (tTup (tCons (tOp iSub (tCall (sp_l_take K) [] E0 (tCons (tVar 0) (tCons (tC (.int 19)) tNil))) (tC (.int 9))) (tCons (tC (.int 1)) tNil)))) tNext)
    (tSeq (tIfS (tTest (tOp rEq (tVar 1) (tC (.int 1)))) (tRet (tCall (sp_l_lowest K) [] E0 (tCons (tOp iSub (tCall (sp_l_take K) [] E0 (tCons (tVar 0) (tCons (tC (.int 19)) tNil))) (tC (.int 9))) (tCons (tOp iAdd (tC (.int 1)) (tCall (sp_l_take K) [] E0 (tCons (tVar 0) (tCons (tC (.int 6)) tNil)))) tNil)))) tNext)
    (tSeq (tIfS (tTest (tOp rEq (tVar 1) (tC (.int 2)))) (tRet (tCall (sp_l_lowest K) [] E0 (tCons (tOp iSub (tCall (sp_l_take K) [] E0 (tCons (tVar 0) (tCons (tC (.int 1999999999999)) tNil))) (tC (.int 999999999999))) (tCons (tOp iAdd (tC (.int 1)) (tCall (sp_l_take K) [] E0 (tCons (tVar 0) (tCons (tC (.int 999999999999)) tNil)))) tNil)))) tNext)
    (tRet (tTup (tCons (tOp iSub (tCall (sp_l_take K) [] E0 (tCons (tVar 0) (tCons (tC (.int 3)) tNil))) (tC (.int 1))) (tCons (tC (.int 1)) tNil))))))))
def T_l_sum (K : PySem.W.Frag) : TS :=
  (tRet (tCall (sp_l_lowest K) [] E0 (tCons (tOp iAdd (tOp iMul (tOp gT (tVar 0) (tC (.int 0))) (tOp gT (tVar 1) (tC (.int 1)))) (tOp iMul (tOp gT (tVar 1) (tC (.int 0))) (tOp gT (tVar 0) (tC (.int 1))))) (tCons (tOp iMul (tOp gT (tVar 0) (tC (.int 1))) (tOp gT (tVar 1) (tC (.int 1)))) tNil))))
def T_l_product (K : PySem.W.Frag) : TS :=
  (tRet (tCall (sp_l_lowest K) [] E0 (tCons (tOp iMul (tOp gT (tVar 0) (tC (.int 0))) (tOp gT (tVar 1) (tC (.int 0)))) (tCons (tOp iMul (tOp gT (tVar 0) (tC (.int 1))) (tOp gT (tVar 1) (tC (.int 1)))) tNil))))
def T_l_is_number (K : PySem.W.Frag) : TS :=
  (tSeq (tIfS (tOr (tNot (tB (tCB bIsi (tCons (tVar 0) (tCons (tC (.ty "tuple")) tNil))))) (tTest (tOp rNe (tCB bLenT (tCons (tVar 0) tNil)) (tC (.int 2))))) (tRet (tC (.bl false))) tNext)
    (tSeq (tFor (iTup K (tVar 0)) (gName 1) (tIfS (tOr (tNot (tB (tCB bIsi (tCons (tVar 1) (tCons (tC (.ty "int")) tNil))))) (tB (tCB bIsi (tCons (tVar 1) (tCons (tC (.ty "bool")) tNil))))) (tRet (tC (.bl false))) tNext))
    (tRet (tAndV (tOp iGt (tOp gT (tVar 0) (tC (.int 1))) (tC (.int 0))) (tOp eqT (tCall (sp_l_lowest K) [] E0 (tCons (tOp gT (tVar 0) (tC (.int 0))) (tCons (tOp gT (tVar 0) (tC (.int 1))) tNil))) (tVar 0))))))
def T_l_poly_of (K : PySem.W.Frag) : TS :=
  (tSeq (tAsg (tCB bLenL (tCons (tVar 0) tNil)) (gName 1))
    (tSeq (tWhile (tAnd (tTest (tOp iGt (tVar 1) (tC (.int 0)))) (tTest (tOp rEq (tOp gT (tOp gL (tVar 0) (tOp iSub (tVar 1) (tC (.int 1)))) (tC (.int 0))) (tC (.int 0))))) (tAsg (tOp iSub (tVar 1) (tC (.int 1))) (gName 1)))
    (tRet (tCB bTupL (tCons (tSl sL (tVar 0) tNoPart (tPart (tVar 1))) tNil)))))
def T_l_poly (K : PySem.W.Frag) : TS :=
  (tRet (tCall (sp_l_poly_of K) [] E0 (tCons (tComp (iRng1 (tCons (tCall (sp_l_take K) [] E0 (tCons (tVar 0) (tCons (tOp iAdd (tVar 1) (tC (.int 2))) tNil))) tNil)) [none, some 0] (gName 0) (tCall (sp_l_number K) [] E0 (tCons (tVar 1) tNil))) tNil)))
def T_l_is_poly (K : PySem.W.Frag) : TS :=
  (tSeq (tIfS (tOr (tNot (tB (tCB bIsi (tCons (tVar 0) (tCons (tC (.ty "tuple")) tNil))))) (tNot (tB (tCB bAllL (tCons (tComp (iTup K (tVar 0)) [none] (gName 0) (tCall (sp_l_is_number K) [] E0 (tCons (tVar 0) tNil))) tNil))))) (tRet (tC (.bl false))) tNext)
    (tRet (tOrV (tOp rEq (tCB bLenT (tCons (tVar 0) tNil)) (tC (.int 0))) (tOp rNe (tOp gT (tOp gT (tVar 0) (tUn uNeg (tC (.int 1)))) (tC (.int 0))) (tC (.int 0))))))
def T_l_added (K : PySem.W.Frag) : TS :=
  (tSeq (tAsg (tLst tNil) (gName 2))
    (tSeq (tFor (iRng1 (tCons (tCB bMax (tCons (tCB bLenT (tCons (tVar 0) tNil)) (tCons (tCB bLenT (tCons (tVar 1) tNil)) tNil))) tNil)) (gName 3) (tDrop (tBM K "list" rAppend (tVar 2) (tCons (tCall (sp_l_sum K) [] E0 (tCons (tOp gL (tOp rCat (tCB bListT (tCons (tVar 0) tNil)) (tOp rRep (tLst (tCons (tTup (tCons (tC (.int 0)) (tCons (tC (.int 1)) tNil))) tNil)) (tCB bLenT (tCons (tVar 1) tNil)))) (tVar 3)) (tCons (tOp gL (tOp rCat (tCB bListT (tCons (tVar 1) tNil)) (tOp rRep (tLst (tCons (tTup (tCons (tC (.int 0)) (tCons (tC (.int 1)) tNil))) tNil)) (tCB bLenT (tCons (tVar 0) tNil)))) (tVar 3)) tNil))) tNil))))
    (tRet (tCall (sp_l_poly_of K) [] E0 (tCons (tVar 2) tNil)))))
def T_l_multiplied (K : PySem.W.Frag) : TS :=
  (tSeq (tAsg (tOp rRep (tLst (tCons (tTup (tCons (tC (.int 0)) (tCons (tC (.int 1)) tNil))) tNil)) (tOp iAdd (tCB bLenT (tCons (tVar 0) tNil)) (tCB bLenT (tCons (tVar 1) tNil)))) (gName 2))
    (tSeq (tFor (iEnumT K (tCons (tVar 0) tNil)) (gTupH 2 (gCons (gName 3) (gCons (gName 4) gNil))) (tFor (iEnumT K (tCons (tVar 1) tNil)) (gTupH 2 (gCons (gName 5) (gCons (gName 6) gNil))) (tAsg (tCall (sp_l_sum K) [] E0 (tCons (tOp gL (tVar 2) (tOp iAdd (tVar 3) (tVar 5))) (tCons (tCall (sp_l_product K) [] E0 (tCons (tVar 4) (tCons (tVar 6) tNil))) tNil))) (gSub (tVar 2) (tOp iAdd (tVar 3) (tVar 5)) rSetL))))
    (tRet (tCall (sp_l_poly_of K) [] E0 (tCons (tVar 2) tNil)))))
def T_l_at (K : PySem.W.Frag) : TS :=
  (tSeq (tAsg (tTup (tCons (tC (.int 0)) (tCons (tC (.int 1)) tNil))) (gName 2))
    (tSeq (tAsg (tTup (tCons (tC (.int 1)) (tCons (tC (.int 1)) tNil))) (gName 3))
    (tSeq (tFor (iTup K (tVar 0)) (gName 4) (tSeq (tAsg (tCall (sp_l_sum K) [] E0 (tCons (tVar 2) (tCons (tCall (sp_l_product K) [] E0 (tCons (tVar 4) (tCons (tVar 3) tNil))) tNil))) (gName 2))
    (tAsg (tCall (sp_l_product K) [] E0 (tCons (tVar 3) (tCons (tVar 1) tNil))) (gName 3))))
    (tRet (tVar 2)))))
def T_l_moved_right (K : PySem.W.Frag) : TS :=
  (tSeq (tAsg (tCall (sp_p_moved K) [] E0 (tCons (tVar 0) (tCons (tVar 1) tNil))) (gName 2))
    (tSeq (tIfS (tOr (tNot (tB (tCall (sp_l_is_poly K) [] E0 (tCons (tVar 2) tNil)))) (tTest (tOp rNe (tCB bLenT (tCons (tVar 2) tNil)) (tCB bLenT (tCons (tVar 0) tNil))))) (tRet (tC (.bl false))) tNext)
    (tSeq (tFor (iRng2 (tCons (tUn uNeg (tC (.int 4))) (tCons (tC (.int 5)) tNil))) (gName 3) (tIfS (tTest (tOp neD (tCall (sp_l_at K) [] E0 (tCons (tVar 2) (tCons (tTup (tCons (tVar 3) (tCons (tC (.int 1)) tNil))) tNil))) (tCall (sp_l_at K) [] E0 (tCons (tVar 0) (tCons (tCall (sp_l_sum K) [] E0 (tCons (tTup (tCons (tVar 3) (tCons (tC (.int 1)) tNil))) (tCons (tVar 1) tNil))) tNil))))) (tRet (tC (.bl false))) tNext))
    (tRet (tC (.bl true))))))
def T_l_power_right (K : PySem.W.Frag) : TS :=
  (tSeq (tAsg (tTup (tCons (tTup (tCons (tC (.int 1)) (tCons (tC (.int 1)) tNil))) tNil)) (gName 2))
    (tSeq (tFor (iRng1 (tCons (tVar 1) tNil)) (gName 3) (tAsg (tCall (sp_l_multiplied K) [] E0 (tCons (tVar 2) (tCons (tVar 0) tNil))) (gName 2)))
    (tRet (tOp eqD (tCall (sp_p_power K) [] E0 (tCons (tVar 0) (tCons (tVar 1) tNil))) (tVar 2)))))
def T_law_b1_6 (K : PySem.W.Frag) : TS :=
  (tIfS (tNot (tB (tCall (sp_l_power_right K) [] E0 (tCons (tCall (sp_l_poly K) [] E0 (tCons (tVar 2) (tCons (tC (.int 3)) tNil))) (tCons (tVar 6) tNil))))) (tRet (tC (.bl false))) tNext)
def T_law_b1_5 (K : PySem.W.Frag) : TS :=
  (tSeq (tAsg (tCall (sp_l_take K) [] E0 (tCons (tVar 2) (tCons (tC (.int 7)) tNil))) (gName 6))
    (T_law_b1_6 K))
def T_law_b1_4 (K : PySem.W.Frag) : TS :=
  (tSeq (tIfS (tOr (tNot (tB (tCall (sp_l_is_number K) [] E0 (tCons (tVar 5) tNil)))) (tOr (tTest (tOp neD (tVar 5) (tCall (sp_l_at K) [] E0 (tCons (tVar 3) (tCons (tVar 4) tNil))))) (tNot (tB (tCall (sp_l_moved_right K) [] E0 (tCons (tVar 3) (tCons (tVar 4) tNil))))))) (tRet (tC (.bl false))) tNext)
    (T_law_b1_5 K))
def T_law_b1_3 (K : PySem.W.Frag) : TS :=
  (tSeq (tAsg (tCall (sp_p_at K) [] E0 (tCons (tVar 3) (tCons (tVar 4) tNil))) (gName 5))
    (T_law_b1_4 K))
def T_law_b1_2 (K : PySem.W.Frag) : TS :=
  (tSeq (tAsg (tCall (sp_l_number K) [] E0 (tCons (tCall (sp_l_box K) [] E0 (tCons (tVar 0) (tCons (tOp iAdd (tVar 1) (tC (.int 1))) tNil))) tNil)) (gName 4))
    (T_law_b1_3 K))
def T_law_b1_1 (K : PySem.W.Frag) : TS :=
  (tSeq (tAsg (tCall (sp_l_poly K) [] E0 (tCons (tVar 2) (tCons (tC (.int 8)) tNil))) (gName 3))
    (T_law_b1_2 K))
def T_law_b1_0 (K : PySem.W.Frag) : TS :=
  (tSeq (tAsg (tCall (sp_l_box K) [] E0 (tCons (tVar 0) (tCons (tVar 1) tNil))) (gName 2))
    (T_law_b1_1 K))
def T_law_4 (K : PySem.W.Frag) : TS :=
  (tRet (tCall (sp_l_power_right K) [] E0 (tCons (tCall (sp_l_poly_of K) [] E0 (tCons (tVar 7) tNil)) (tCons (tVar 6) tNil))))
def T_law_3 (K : PySem.W.Frag) : TS :=
  (tSeq (tAsg (tComp (iRng1 (tCons (tC (.int 2)) tNil)) [none, some 2] (gName 0) (tCall (sp_l_lowest K) [] E0 (tCons (tOp iSub (tCall (sp_l_take K) [] E0 (tCons (tVar 1) (tCons (tC (.int 7)) tNil))) (tC (.int 3))) (tCons (tOp iAdd (tC (.int 1)) (tCall (sp_l_take K) [] E0 (tCons (tVar 1) (tCons (tC (.int 3)) tNil)))) tNil)))) (gName 7))
    (T_law_4 K))
def T_law_2 (K : PySem.W.Frag) : TS :=
  (tSeq (tAsg (tCall (sp_l_take K) [] E0 (tCons (tVar 2) (tCons (tC (.int 41)) tNil))) (gName 6))
    (T_law_3 K))
def T_law_1 (K : PySem.W.Frag) : TS :=
  (tSeq (tAsg (tCall (sp_l_box K) [] E0 (tCons (tVar 0) (tCons (tC (.int 0)) tNil))) (gName 2))
    (T_law_2 K))
def T_law (K : PySem.W.Frag) : TS :=
  (tSeq (tFor (iRng1 (tCons (tCB bMax (tCons (tC (.int 1)) (tCons (tCB bMin (tCons (tCB (bLenS K) (tCons (tVar 0) tNil)) (tCons (tC (.int 16)) tNil))) tNil))) tNil)) (gName 1) (T_law_b1_0 K))
    (T_law_1 K))
end Bs
namespace Bs
open PySem L2
local macro_rules | `(tactic| rwa [$[$t:term],*]) => `(tactic| simp only [tSeq, tAsg, tCall, tCons, tVar, tNil, gName, gSub, L2.start, tIfS, tIf, tTest, tB, tOp, rI0, rI, tC, tUn, rU, tNext, tRet, tTup, tLst, tPar, tAug, tDrop, tCB, tChain, tAnd, tOr, tNot, tAndV, tOrV, tNotV, rEq, rNe, rSetL, iAdd, iSub, iMul, iDivP, iDivN, iMod, iModN, iPow, iLt, iLe, iGt, iGe, uNeg, gT, gL, gS, bAbs, bMax, bMin, bIntB, bLenT, bLenL, bLenS, bIsi, isi_int, isi_int_bool, isi_bl, eqT, tFor_r1, tFor_r2, tFor_t, tFor_l, List.map_cons, List.map_nil, List.length_cons, List.length_nil, List.replicate, List.cons_append, List.nil_append, List.append_nil, List.getElem?_cons_zero, List.getElem?_cons_succ, Option.some.injEq, exists_eq_left', exists_eq_left, V.int.injEq, V.bl.injEq, V.ref.injEq, V.ty.injEq, HO.tup.injEq, HO.lst.injEq, List.cons.injEq, and_true, true_and, and_assoc, exists_and_left, List.set_cons_zero, List.set_cons_succ, decide_eq_true_eq, decide_eq_false_iff_not, Bool.not_eq_true', Bool.true_eq_false, Bool.false_eq_true, Bool.not_true, Bool.not_false, if_true, if_false, ite_true, ite_false, scal_ii, scal_bb, atI_two0, atI_two1, atI_three0, atI_three1, atI_three2, ixN_three0, ixN_three2, Nat.zero_add, Nat.reduceAdd, Nat.reduceSub, upd_same, Int.cast_ofNat_Int, decide_true, decide_false, eq_self, not_true_eq_false, not_false_eq_true, Int.natCast_add, Int.natCast_zero, reduceCtorEq, Nm, gTupH, gCons, gNil, tAugS, tSl, tNoPart, tPart, sL, sT, bTupL, bListT, bListL, tTruL, tTruT, rRep, rCat, rAppend, rExtend, tBM, tComp_r1, tComp_r2, tComp_t, tComp_l, tComp_el, tFor_el, tFor_et, tFor_rd, tFor_rv, blkSt, Option.bind_some, Option.bind_none, Option.bind, Option.join, id_eq, sp_common_divisor, sp_raised, sp_row_power, sp_row_moved, sp_ratio, sp_two, sp_poly, sp_cleared, sp_uncleared, sp_p_at, sp_p_moved, sp_p_power, sp_l_box, sp_l_take, sp_l_lowest, sp_l_number, sp_l_is_number, sp_l_added, sp_l_multiplied, sp_l_poly, sp_l_is_poly, sp_l_at, sp_l_moved_right, sp_l_power_right, $[$t:term],*])
theorem bd40 {x : Int} (h1 : -1099511627776 < x) (h2 : x < 1099511627776) : Bd 40 x := by
  show x.natAbs < 1099511627776
  omega
theorem mulOk {a b : Int} (ha : Bd 1000000 a) (hb : Bd 1000000 b) : IntMulOk a b := mulOkB ha hb (by decide) (by decide)
theorem mulR {a b : Int} (h1 : -18446744073709551616 < b) (h2 : b < 18446744073709551616) : IntMulOk a b := IntMulOk.of_right (intBits_le_64 (by omega) (by omega))
theorem mulL {a b : Int} (h1 : -18446744073709551616 < a) (h2 : a < 18446744073709551616) : IntMulOk a b := IntMulOk.of_left (intBits_le_64 (by omega) (by omega))
theorem vc_common_divisor {K : PySem.W.Frag} {vs : List V} {H : Hp} {Q : VK} {E : XK} (h : sp_common_divisor K vs H Q E) : T_common_divisor K { nx := fun _ H' => Q .non H', rt := Q } (L2.start ["one", "other", "rest"] vs) H := by
  obtain ⟨a, b, rfl, q⟩ := h
  unfold T_common_divisor
  rwa []
  refine while_by (fun m σ H' => ∃ (x y : Int) (r : Option V), σ = [some (.int x), some (.int y), r] ∧ H' = H ∧ Int.gcd x y = Int.gcd a b ∧ m = y.natAbs) b.natAbs ⟨a, b, none, rfl, rfl, rfl, rfl⟩ ?_
  rintro m σ H' ⟨x, y, r, rfl, rfl, hg, rfl⟩
  rwa []
  refine ite2 (fun c => ?_) (fun c => ?_)
  · refine ⟨fun σ' H'' => ∃ m', m' < y.natAbs ∧ _, fun _ _ h => h, ?_⟩
    refine ⟨c, _, fmod_less x c, y, x.fmod y, _, rfl, rfl, ?_, rfl⟩
    rw [gcd_fmod]; exact hg
  · have y0 : y = 0 := Decidable.not_not.mp c
    subst y0
    have e : (if x < 0 then -x else x) = ((Int.gcd a b : Nat) : Int) := by
      rw [← hg, Int.gcd_zero_right]; split <;> omega
    rw [e]; exact q
theorem atI_ints {ns : List Int} {k : Int} (h0 : 0 ≤ k) (h : k < (ns.length : Int)) : ∃ v : Int, atI (ns.map V.int) k = some (.int v) := by
  have hk : k.toNat < ns.length := by omega
  have ek : k = ((k.toNat : Nat) : Int) := by omega
  have q : atI (ns.map V.int) ((k.toNat : Nat) : Int) = some (.int ns[k.toNat]) := atI_nat (by rw [List.getElem?_map, List.getElem?_eq_getElem hk] <;> rfl)
  rw [← ek] at q
  exact ⟨_, q⟩
theorem vc_l_box {K : PySem.W.Frag} {vs : List V} {H : Hp} {Q : VK} {E : XK} (h : sp_l_box K vs H Q E) : T_l_box K { nx := fun _ H' => Q .non H', rt := Q } (L2.start ["_law_script", "_law_k", "_law_cell", "_law_plain"] vs) H := by
  obtain ⟨s, ns, k, rfl, hS, k0, k1, q⟩ := h
  unfold T_l_box
  rwa []
  have fin : ∀ (cell : Int) (pl : Bool), IntMulOk (if cell < 0 then -cell else cell) (if pl = true then 1 else 0) ∧ IntMulOk 7 k ∧ 3 ≤ sizeLine ∧ ∀ (p : Addr), H p = none → Q (V.ref p) (upd H p (HO.lst [V.int ((if cell < 0 then -cell else cell) * if pl = true then 1 else 0), V.int (if cell < 0 then -cell else cell), V.int (7 * k)])) := fun cell pl => by
    have c0 : 0 ≤ (if cell < 0 then -cell else cell) := by split <;> omega
    refine ⟨mulR (by split <;> decide) (by split <;> decide), mulL (by decide) (by decide), sz (by decide), fun p hp => q p _ hp Kp.upd ⟨_, _, _, upd_same, ?_, c0, by omega, by omega⟩⟩
    exact Int.mul_nonneg c0 (by split <;> decide)
  refine ⟨_, hS, ite2 (fun c => ?_) (fun c => ?_)⟩
  · rw [List.length_map] at c
    obtain ⟨v, hv⟩ := atI_ints (ns := ns) k0 c
    refine ⟨_, hS, _, hv, _, hS, ite2 (fun c2 => ?_) (fun c2 => ?_)⟩
    · rw [List.length_map] at c2
      obtain ⟨w, hw⟩ := atI_ints (ns := ns) (Int.le_refl 0) c2
      have f := fin v (decide (w % 2 = 0))
      simp only [decide_eq_true_eq] at f
      exact ⟨_, hS, _, hw, w, rfl, by decide, v, rfl, f.1, v, rfl, f.2⟩
    · have f := fin v false
      simp only [Bool.false_eq_true, if_false] at f
      exact ⟨v, rfl, f.1, v, rfl, f.2⟩
  · refine ⟨_, hS, ite2 (fun c2 => ?_) (fun c2 => ?_)⟩
    · rw [List.length_map] at c2
      obtain ⟨w, hw⟩ := atI_ints (ns := ns) (Int.le_refl 0) c2
      have f := fin 0 (decide (w % 2 = 0))
      simp only [decide_eq_true_eq] at f
      exact ⟨_, hS, _, hw, w, rfl, by decide, f⟩
    · have f := fin 0 false
      simp only [Bool.false_eq_true, if_false] at f
      exact f
theorem vc_l_take {K : PySem.W.Frag} {vs : List V} {H : Hp} {Q : VK} {E : XK} (h : sp_l_take K vs H Q E) : T_l_take K { nx := fun _ H' => Q .non H', rt := Q } (L2.start ["_law_box_here", "_law_many", "_law_digit", "_law_m"] vs) H := by
  obtain ⟨p, m, n, rfl, ⟨a, b, c, hp, ha, hb, hc, hcn⟩, hn, hm, hm2, k⟩ := h
  unfold T_l_take
  rwa [hp]
  have D : ∀ x y : Int, 0 < y → y < 4611686018427387904 → DivP x y := fun x y h1 h2 => ⟨h1, (bd64 (by omega) (by omega)).mono (by decide)⟩
  refine ite2 (fun c0 => ?_) (fun c0 => ?_)
  · exact ⟨hm, D _ _ hm hm2, k _ _ (Int.emod_nonneg _ (by omega)) (Int.emod_lt_of_pos _ hm) ⟨_, _, _, upd_same, Int.ediv_nonneg ha (by omega), hb, hc, by omega⟩ Kp.upd⟩
  · have L : ∀ {x y : Int}, 0 ≤ x → x < 4611686018427387904 → IntMulOk x y := fun h1 h2 => mulL (by omega) (by omega)
    have Z : ∀ (x : Int) {y : Int}, 0 < y → y < 4611686018427387904 → 0 ≤ x % y ∧ x % y < 4611686018427387904 := fun x y h1 h2 => ⟨Int.emod_nonneg x (by omega), by have := Int.emod_lt_of_pos x h1; omega⟩
    refine ⟨by decide, L (by omega) (by omega), L (by omega) (by omega), by decide, by decide, L (by omega) (by omega), L (Z _ (by decide) (by decide)).1 (Z _ (by decide) (by decide)).2, by decide, L (Z _ (by decide) (by decide)).1 (Z _ (by decide) (by decide)).2,
      D _ _ (by decide) (by decide), D _ _ (by decide) (by decide), hm, k _ _ (Int.emod_nonneg _ (by omega)) (Int.emod_lt_of_pos _ hm) ⟨_, _, _, upd_same, ha, hb, by omega, by omega⟩ Kp.upd⟩
theorem vc_l_lowest {K : PySem.W.Frag} {vs : List V} {H : Hp} {Q : VK} {E : XK} (h : sp_l_lowest K vs H Q E) : T_l_lowest K { nx := fun _ H' => Q .non H', rt := Q } (L2.start ["_law_top", "_law_bottom", "_law_one", "_law_other"] vs) H := by
  obtain ⟨a, b, rfl, hb, hbd, k⟩ := h
  unfold T_l_lowest
  rwa []
  refine while_by (fun m σ H' => ∃ x y : Int, σ = [some (.int a), some (.int b), some (.int x), some (.int y)] ∧ H' = H ∧ 0 ≤ x ∧ 0 ≤ y ∧ Int.gcd x y = Int.gcd a b ∧ m = y.natAbs) b.natAbs ⟨_, b, rfl, rfl, by split <;> omega, by omega, ?_, rfl⟩ ?_
  · split
    · rw [Int.neg_gcd]
    · rfl
  rintro m σ H' ⟨x, y, rfl, rfl, x0, y0, hg, rfl⟩
  rwa []
  refine ite2 (fun c => ?_) (fun c => ?_)
  · refine ⟨fun σ' H'' => ∃ m', m' < y.natAbs ∧ _, fun _ _ h => h, ?_⟩
    have z1 := Int.emod_nonneg x (show y ≠ 0 by omega)
    have z2 := Int.emod_lt_of_pos x c
    refine ⟨c, (x % y).natAbs, by omega, y, x % y, rfl, rfl, y0, z1, ?_, rfl⟩
    rw [gcd_emod x y0]; exact hg
  · have e : y = 0 := by omega
    subst e
    have ex : x = ((Int.gcd a b : Nat) : Int) := by rw [← hg, Int.gcd_zero_right]; omega
    obtain ⟨_, _, _, g0, gb⟩ := lowest_math (a := a) hb
    rw [← ex] at g0 gb
    have hd : Bd 9000 x := (hbd.le (by omega)).mono (by decide)
    refine ⟨⟨g0, hd⟩, ⟨g0, hd⟩, sz (by decide), fun p hp => ?_⟩
    rw [ex]; exact k p hp
theorem Box.mono {H : Hp} {p : Addr} {m n : Int} (h : Box H p m) (hn : m ≤ n) : Box H p n := by
  obtain ⟨a, b, c, h1, h2, h3, h4, h5⟩ := h
  exact ⟨a, b, c, h1, h2, h3, h4, by omega⟩
theorem Box.at {H : Hp} {p : Addr} {n : Int} (h : Box H p n) : ∃ xs, H p = some (.lst xs) := let ⟨_, _, _, h1, _⟩ := h; ⟨_, h1⟩
theorem Box.kp {H H' : Hp} {p q : Addr} {n : Int} (h : Box H p n) (k : Kp q H H') (e : p ≠ q) : Box H' p n := by
  obtain ⟨a, b, c, h1, h2⟩ := h
  exact ⟨a, b, c, k _ _ e h1, h2⟩
theorem Box.same {H H' : Hp} {p : Addr} {n : Int} (h : Box H p n) (k : Same H H') : Box H' p n := by
  obtain ⟨a, b, c, h1, h2⟩ := h
  exact ⟨a, b, c, k _ _ h1, h2⟩
theorem Box.ne_none {H : Hp} {p q : Addr} {n : Int} (h : Box H p n) (e : H q = none) : p ≠ q := let ⟨_, _, _, h1, _⟩ := h; ne_of_none h1 e
theorem Nm.ne {H : Hp} {p q : Addr} {t d n : Int} (h : Nm H q t d) (b : Box H p n) : q ≠ p := let ⟨_, _, _, h1, _⟩ := b; ne_of h h1 (by intro z; cases z)
theorem low_one (t : Int) : Low t 1 := ⟨by decide, Int.gcd_one_right t⟩
theorem vc_l_number {K : PySem.W.Frag} {vs : List V} {H : Hp} {Q : VK} {E : XK} (h : sp_l_number K vs H Q E) : T_l_number K { nx := fun _ H' => Q .non H', rt := Q } (L2.start ["_law_box_here", "_law_kind"] vs) H := by
  obtain ⟨p, n, rfl, hB, hn, k⟩ := h
  unfold T_l_number
  rwa []
  refine ⟨n, hB, by omega, by decide, by decide, fun d H1 d0 d1 B1 k1 => ?_⟩
  have fin : ∀ (t : Int) (H2 : Hp), Bd 40 t → Box H2 p (n + 2) → Kp p H H2 → 2 ≤ sizeLine ∧ ∀ (r : Addr), H2 r = none → Q (V.ref r) (upd H2 r (HO.tup [V.int t, V.int 1])) := fun t H2 bt B2 k2 =>
    ⟨sz (by decide), fun r hr => k r t 1 _ upd_same (low_one t) bt (bd40 (by decide) (by decide)) ((B2.same (same_new hr _)).mono (by omega)) (k2.same (same_new hr _))⟩
  have low : ∀ (a b : Int) (H2 : Hp), 0 < b → Bd 40 a → Bd 40 b → Box H2 p (n + 3) → Kp p H H2 → 0 < b ∧ Bd 8000 b ∧ ∀ (r : Addr), H2 r = none → Q (V.ref r) (upd H2 r (HO.tup [V.int (a / ((Int.gcd a b : Nat) : Int)), V.int (b / ((Int.gcd a b : Nat) : Int))])) := fun a b H2 b0 ba bb B2 k2 => by
    obtain ⟨m1, m2, m3, _, _⟩ := lowest_math (a := a) b0
    exact ⟨b0, bb.mono (by decide), fun r hr => k r _ _ _ upd_same m1 (ba.le m2) (bb.le m3) (B2.same (same_new hr _)) (k2.same (same_new hr _))⟩
  refine ite2 (fun c => ?_) (fun c => ?_)
  · refine ⟨n + 1, B1, by omega, by decide, by decide, fun e H2 e0 e1 B2 k2 => ?_⟩
    exact fin _ _ (bd40 (by omega) (by omega)) (B2.mono (by omega)) (k1.trans k2)
  refine ite2 (fun c => ?_) (fun c => ?_)
  · refine ⟨n + 1, B1, by omega, by decide, by decide, fun e H2 e0 e1 B2 k2 => ?_⟩
    refine ⟨n + 1 + 1, B2, by omega, by decide, by decide, fun f H3 f0 f1 B3 k3 => ?_⟩
    exact low _ _ _ (by omega) (bd40 (by omega) (by omega)) (bd40 (by omega) (by omega)) (B3.mono (by omega)) ((k1.trans k2).trans k3)
  refine ite2 (fun c => ?_) (fun c => ?_)
  · refine ⟨n + 1, B1, by omega, by decide, by decide, fun e H2 e0 e1 B2 k2 => ?_⟩
    refine ⟨n + 1 + 1, B2, by omega, by decide, by decide, fun f H3 f0 f1 B3 k3 => ?_⟩
    exact low _ _ _ (by omega) (bd40 (by omega) (by omega)) (bd40 (by omega) (by omega)) (B3.mono (by omega)) ((k1.trans k2).trans k3)
  · refine ⟨n + 1, B1, by omega, by decide, by decide, fun e H2 e0 e1 B2 k2 => ?_⟩
    exact fin _ _ (bd40 (by omega) (by omega)) (B2.mono (by omega)) (k1.trans k2)
theorem vc_l_is_number {K : PySem.W.Frag} {vs : List V} {H : Hp} {Q : VK} {E : XK} (h : sp_l_is_number K vs H Q E) : T_l_is_number K { nx := fun _ H' => Q .non H', rt := Q } (L2.start ["_law_found", "_law_part"] vs) H := by
  obtain ⟨p, t, d, rfl, hp, hl, hbd, k⟩ := h
  unfold T_l_is_number
  rwa [hp, isi_tup hp]
  refine ⟨⟨_, SqT.of hp⟩, ?_⟩
  refine ForT.by (xs := [.int t, .int d]) (fun i σ H' => ∃ v, σ = [some (.ref p), v] ∧ H' = H) ⟨none, rfl, rfl⟩ ?_ ?_ ?_
  · rintro i σ H' _ ⟨v, rfl, rfl⟩
    exact hp
  · rintro i x σ H' hi ⟨v, rfl, rfl⟩
    obtain ⟨z, rfl⟩ : ∃ z, x = V.int z := by
      match i, hi with
      | 0, hi => exact ⟨_, (Option.some.inj hi).symm⟩
      | 1, hi => exact ⟨_, (Option.some.inj hi).symm⟩
    rwa []
    exact ⟨some (V.int z), rfl⟩
  · rintro σ H' ⟨v, rfl, rfl⟩
    rwa [hp]
    refine ite2 (fun c => ?_) (fun c => absurd hl.pos c)
    refine ⟨hl.pos, hbd, fun r hr => ?_⟩
    have hs := same_new hr (HO.tup [V.int (t / ((Int.gcd t d : Nat) : Int)), V.int (d / ((Int.gcd t d : Nat) : Int))])
    have hp' := hs _ _ hp
    rwa [hp']
    obtain ⟨e1, e2⟩ := low_div hl
    rw [e1, e2]
    refine ⟨rfl, rfl, ?_⟩
    rw [e1, e2] at hs
    have q := k _ hs
    simpa using q
theorem Bd.near {n : Nat} {x y : Int} (h : Bd n x) (hy : y.natAbs ≤ x.natAbs + 1) : Bd (n + 1) y := by
  unfold Bd at *
  rw [Nat.pow_succ]
  omega
theorem Kp.over {H0 H H1 : Hp} {p : Addr} (s : Same H0 H) (k : Kp p H H1) (n : H0 p = none) : Same H0 H1 := fun b o h => k b o (ne_of_none h n) (s b o h)
theorem poly_end {H : Hp} {Q : VK} {xs : List V} {l : List Nu} {m : Nat} (hN : Nums H xs l) (hm : m ≤ l.length) (e : trimN l l.length = m) (q : OutP H Q (trim l)) :
    ∀ (p : Addr), H p = none → ∀ (r : Addr), upd H p (HO.lst (cutV xs none (some (m : Int)))) r = none → Q (V.ref r) (upd (upd H p (HO.lst (cutV xs none (some (m : Int))))) r (HO.tup (cutV xs none (some (m : Int))))) := fun p hp r hr => by
  have s := (same_new hp (HO.lst (cutV xs none (some (m : Int))))).trans (same_new hr (HO.tup (cutV xs none (some (m : Int)))))
  refine q r _ _ s upd_same ?_
  rw [cutV_take (by rw [hN.length]; exact hm)]
  rw [cutV_take (by rw [hN.length]; exact hm)] at s
  unfold trim
  rw [e]
  exact (hN.take m).tp (tpS s)
theorem trimN_succ (l : List Nu) (m : Nat) : trimN l (m + 1) = if (l.getD m (1, 1)).1 = 0 then trimN l m else m + 1 := rfl
theorem vc_poly {K : PySem.W.Frag} {vs : List V} {H : Hp} {Q : VK} {E : XK} (h : sp_poly K vs H Q E) : T_poly K { nx := fun _ H' => Q .non H', rt := Q } (L2.start ["row", "many"] vs) H := by
  obtain ⟨p, xs, l, rfl, hp, hN, hl, q⟩ := h
  unfold T_poly
  rwa [hp]
  have lx := hN.length
  refine while_by (fun m σ H' => σ = [some (.ref p), some (.int (m : Int))] ∧ H' = H ∧ trimN l m = trimN l l.length ∧ m ≤ l.length) xs.length ⟨rfl, rfl, by rw [lx], by omega⟩ ?_
  rintro m σ H' ⟨rfl, rfl, ht, hm⟩
  rwa [hp]
  refine ite2 (fun c => ?_) (fun c => ?_)
  · obtain ⟨k, rfl⟩ : ∃ k, m = k + 1 := ⟨m - 1, by omega⟩
    obtain ⟨v, hv, p1, rfl, hp1⟩ := hN.at (i := k) (by omega) (1, 1)
    rw [trimN_succ] at ht
    refine ⟨_, atI_of (by omega) hv, p1, rfl, _, hp1, _, rfl, rfl, ite2 (fun c2 => ?_) (fun c2 => ?_)⟩
    · have z : (l.getD k (1, 1)).1 = 0 := by injection c2
      rw [if_pos z] at ht
      exact ⟨fun σ' H'' => ∃ m', m' < k + 1 ∧ _, fun _ _ h => h, k, by omega, by rw [show ((k + 1 : Nat) : Int) - 1 = (k : Int) by omega], rfl, ht, by omega⟩
    · have z : (l.getD k (1, 1)).1 ≠ 0 := fun z => c2 (by rw [z])
      rw [if_neg z] at ht
      exact poly_end hN hm ht.symm q
  · have z : m = 0 := by omega
    subst z
    exact poly_end hN hm ht.symm q
theorem vc_l_poly_of {K : PySem.W.Frag} {vs : List V} {H : Hp} {Q : VK} {E : XK} (h : sp_l_poly_of K vs H Q E) : T_l_poly_of K { nx := fun _ H' => Q .non H', rt := Q } (L2.start ["_law_row", "_law_many"] vs) H := by
  obtain ⟨p, xs, l, rfl, hp, hN, hl, q⟩ := h
  unfold T_l_poly_of
  rwa [hp]
  have lx := hN.length
  refine while_by (fun m σ H' => σ = [some (.ref p), some (.int (m : Int))] ∧ H' = H ∧ trimN l m = trimN l l.length ∧ m ≤ l.length) xs.length ⟨rfl, rfl, by rw [lx], by omega⟩ ?_
  rintro m σ H' ⟨rfl, rfl, ht, hm⟩
  rwa [hp]
  refine ite2 (fun c => ?_) (fun c => ?_)
  · obtain ⟨k, rfl⟩ : ∃ k, m = k + 1 := ⟨m - 1, by omega⟩
    obtain ⟨v, hv, p1, rfl, hp1⟩ := hN.at (i := k) (by omega) (1, 1)
    rw [trimN_succ] at ht
    refine ⟨_, atI_of (by omega) hv, p1, rfl, _, hp1, _, rfl, rfl, ite2 (fun c2 => ?_) (fun c2 => ?_)⟩
    · have z : (l.getD k (1, 1)).1 = 0 := by injection c2
      rw [if_pos z] at ht
      exact ⟨fun σ' H'' => ∃ m', m' < k + 1 ∧ _, fun _ _ h => h, k, by omega, by rw [show ((k + 1 : Nat) : Int) - 1 = (k : Int) by omega], rfl, ht, by omega⟩
    · have z : (l.getD k (1, 1)).1 ≠ 0 := fun z => c2 (by rw [z])
      rw [if_neg z] at ht
      exact poly_end hN hm ht.symm q
  · have z : m = 0 := by omega
    subst z
    exact poly_end hN hm ht.symm q
theorem clr_take {l : List Nu} {i : Nat} {q : Nu} (h : l[i]? = some q) : (l.take (i + 1)).foldl (fun B q => B * (q.2 / ((Int.gcd B q.2 : Nat) : Int))) 1 = (l.take i).foldl (fun B q => B * (q.2 / ((Int.gcd B q.2 : Nat) : Int))) 1 * (q.2 / ((Int.gcd ((l.take i).foldl (fun B q => B * (q.2 / ((Int.gcd B q.2 : Nat) : Int))) 1) q.2 : Nat) : Int)) := by
  rw [List.take_add_one, h, List.foldl_append]
  rfl
theorem map_take_succ {α β : Type} {l : List α} {i : Nat} {q : α} (f : α → β) (h : l[i]? = some q) : (l.take (i + 1)).map f = (l.take i).map f ++ [f q] := by
  rw [List.take_add_one, h, List.map_append]
  rfl
theorem max_len (a b : Nat) : (if (b : Int) > (a : Int) then (b : Int) else (a : Int)).toNat = max a b := by split <;> omega
theorem range_map_succ {β : Type} (f : Nat → β) (i : Nat) : (List.range (i + 1)).map f = (List.range i).map f ++ [f i] := by rw [List.range_succ, List.map_append]; rfl
theorem pad_get {xs : List V} {l : List Nu} {H : Hp} {z : V} (hN : Nums H xs l) (hz : isN H z (0, 1)) {i n : Nat} (h : i < l.length + n) : ∃ v, (xs ++ List.replicate n z)[i]? = some v ∧ isN H v (getN l i) := by
  have hb : Nums H (xs ++ List.replicate n z) (l ++ List.replicate n (0, 1)) := hN.append (Nums.rep hz n)
  obtain ⟨v, hv, hn⟩ := hb.at (i := i) (by rw [List.length_append, List.length_replicate]; exact h) (0, 1)
  refine ⟨v, hv, ?_⟩
  have e : (l ++ List.replicate n (0, 1)).getD i (0, 1) = getN l i := by
    unfold getN
    rw [List.getD_eq_getElem?_getD, List.getD_eq_getElem?_getD]
    by_cases hi : i < l.length
    · rw [List.getElem?_append_left hi]
    · rw [List.getElem?_append_right (by omega), List.getElem?_eq_none (by omega : l.length ≤ i), List.getElem?_replicate]
      split <;> rfl
  rw [← e]; exact hn
theorem pad_read {σ : L2.St} {H : Hp} {Q : VK} {i j n : Nat} {p q : Addr} {xs ys : List V} {l : List Nu} {k : Nat} (hi : σ[i]? = some (some (.ref p))) (hj : σ[j]? = some (some (.ref q))) (hn : σ[n]? = some (some (.int (0 + (k : Int))))) (hp : H p = some (.tup xs)) (hq : H q = some (.tup ys)) (hN : Nums H xs l)
    (h1 : k < l.length + ys.length) (h2 : l.length ≤ 100) (h3 : ys.length ≤ 100) (h : ∀ v H', Same H H' → isN H' v (getN l k) → Q v H') :
    tOp gL (tOp rCat (tCB bListT (tCons (tVar i) tNil)) (tOp rRep (tLst (tCons (tTup (tCons (tC (.int 0)) (tCons (tC (.int 1)) tNil))) tNil)) (tCB bLenT (tCons (tVar j) tNil)))) (tVar n) σ H Q := by
  have lx := hN.length
  refine ⟨_, hi, p, xs, rfl, hp, fun a ha => ⟨sz (by decide), fun b hb => ⟨sz (by simp), fun c hc => ⟨_, hj, q, ys, rfl, ?_, c, _, _, rfl, rfl, upd_same, by omega, by omega, sz ?_, fun d hd => ?_⟩⟩⟩⟩
  · exact same_new hc _ _ _ (same_new hb _ _ _ (same_new ha _ _ _ hq))
  · show 1 * _ ≤ _; omega
  have sa := same_new ha (HO.lst xs)
  have sb := same_new hb (HO.tup [V.int 0, V.int 1])
  have sc := same_new hc (HO.lst [V.ref b])
  have sd := same_new hd (HO.lst (List.replicate ((ys.length : Nat) : Int).toNat [V.ref b]).flatten)
  rw [Int.toNat_natCast, flat_rep] at sd ⊢
  refine ⟨a, d, xs, _, rfl, rfl, sd _ _ (sc _ _ (sb _ _ upd_same)), upd_same, sz (by rw [List.length_replicate]; omega), fun e he => ?_⟩
  have se := same_new he (HO.lst (xs ++ List.replicate ys.length (V.ref b)))
  have st : Same H _ := (((sa.trans sb).trans sc).trans sd).trans se
  have hb1 : isN _ (V.ref b) (0, 1) := ⟨b, rfl, se _ _ (sd _ _ (sc _ _ upd_same))⟩
  obtain ⟨v, hv, hvn⟩ := pad_get (hN.tp (tpS st)) hb1 h1
  exact ⟨_, hn, e, _, _, v, rfl, rfl, upd_same, atI_of (by omega) hv, h v _ st hvn⟩
theorem rowF_len (n : Nat) (f : Nat → Int) : (rowF n f).length = n := by unfold rowF; rw [List.length_map, List.length_map, List.length_range]
theorem rowF_get {n k : Nat} (f : Nat → Int) (h : k < n) : (rowF n f)[k]? = some (.int (f k)) := by
  unfold rowF
  rw [List.getElem?_map, List.getElem?_map, List.getElem?_range h]
  rfl
theorem rowF_set {n k : Nat} {f g : Nat → Int} {z : Int} (h : k < n) (h1 : g k = z) (h2 : ∀ i, i < n → i ≠ k → g i = f i) : (rowF n f).set k (.int z) = rowF n g := by
  apply List.ext_getElem?
  intro i
  by_cases hi : i < n
  · by_cases e : i = k
    · subst e
      rw [List.getElem?_set_self (by rw [rowF_len]; exact hi), rowF_get g hi, h1]
    · rw [List.getElem?_set_ne (fun z => e z.symm), rowF_get f hi, rowF_get g hi, h2 i hi e]
  · rw [List.getElem?_eq_none (by rw [List.length_set, rowF_len]; omega), List.getElem?_eq_none (by rw [rowF_len]; omega)]
theorem rowF_congr {n : Nat} {f g : Nat → Int} (h : ∀ i, i < n → g i = f i) : rowF n f = rowF n g := by
  apply List.ext_getElem?
  intro i
  by_cases hi : i < n
  · rw [rowF_get f hi, rowF_get g hi, h i hi]
  · rw [List.getElem?_eq_none (by rw [rowF_len]; omega), List.getElem?_eq_none (by rw [rowF_len]; omega)]
theorem rep_rowF (n : Nat) : (List.replicate n [V.int 0]).flatten = rowF n fun _ => 0 := by
  rw [flat_rep]
  apply List.ext_getElem?
  intro i
  by_cases hi : i < n
  · rw [rowF_get _ hi, List.getElem?_replicate, if_pos hi]
  · rw [List.getElem?_replicate, if_neg hi, List.getElem?_eq_none (by rw [rowF_len]; omega)]
theorem ixN_of {n k : Nat} {i : Int} (e : i = (k : Int)) (h : k < n) : ixN n i = some k := by
  subst e
  unfold ixN
  rw [if_pos (by omega), if_pos (by omega)]
  simp
theorem rep_snoc : ∀ i : Nat, List.map V.bl (List.replicate i true) ++ [V.bl true] = V.bl true :: List.map V.bl (List.replicate i true)
  | 0 => rfl
  | i + 1 => by rw [List.replicate_succ, List.map_cons, List.cons_append, rep_snoc i]
theorem vc_l_is_poly {K : PySem.W.Frag} {vs : List V} {H : Hp} {Q : VK} {E : XK} (h : sp_l_is_poly K vs H Q E) : T_l_is_poly K { nx := fun _ H' => Q .non H', rt := Q } (L2.start ["_law_found"] vs) H := by
  obtain ⟨p, xs, l, rfl, hp, hN, hl, bl, nz, ll, k⟩ := h
  unfold T_l_is_poly
  rwa [hp, isi_tup hp]
  have lx := hN.length
  refine ⟨⟨_, SqT.of hp⟩, CompJ.tup (xs := xs) (fun i ys H' => i ≤ xs.length ∧ Same H H' ∧ ys = (List.replicate i true).map V.bl) ⟨Nat.zero_le _, Same.refl H, rfl⟩ ?_ ?_ ?_⟩
  · rintro i ys H' ⟨h1, s1, rfl⟩
    exact ⟨h1, sz (by rw [List.length_map, List.length_replicate]; omega), s1 _ _ hp⟩
  · rintro i x ys H' hi ⟨h1, s1, rfl⟩
    obtain ⟨z, hz, p1, rfl, hp1⟩ := hN.get hi
    have hi2 : i < xs.length := (List.getElem?_eq_some_iff.mp hi).1
    have hp1' := s1 _ _ hp1
    rwa [hp1']
    refine ⟨hl z (List.mem_of_getElem? hz), bl z (List.mem_of_getElem? hz), fun H2 s2 => ⟨by omega, s1.trans s2, ?_⟩⟩
    exact rep_snoc i
  · rintro ys H' ⟨_, s1, rfl⟩ a ha
    have s2 := same_new ha (HO.lst ((List.replicate xs.length true).map V.bl))
    have hp2 := s2 _ _ (s1 _ _ hp)
    refine ⟨a, List.replicate xs.length true, rfl, upd_same, ?_⟩
    have al : (List.replicate xs.length true).all id = true := by simp
    rw [al]
    rwa [hp2]
    refine ite2 (fun c => k _ (s1.trans s2)) (fun c => ?_)
    obtain ⟨v, hv, hvn⟩ := (hN.tp (tpS (s1.trans s2))).at (i := l.length - 1) (by omega) (1, 1)
    obtain ⟨pv, rfl, hpv⟩ := hvn
    have hz : (l.getD (l.length - 1) (1, 1)).1 ≠ 0 := by
      have hlt : l.length - 1 < l.length := by omega
      have q := nz l[l.length - 1] (by rw [List.getLast?_eq_getElem?]; exact List.getElem?_eq_getElem hlt)
      rw [List.getD_eq_getElem?_getD, List.getElem?_eq_getElem hlt]
      exact q
    have at1 : atI xs (-1) = some (V.ref pv) := by
      unfold atI ixN
      rw [if_neg (by decide), if_pos (by omega), show (-1 + (xs.length : Int)).toNat = l.length - 1 by omega]
      exact hv
    refine ⟨_, at1, pv, rfl, _, hpv, _, rfl, rfl, ?_⟩
    have ne : (!decide (V.int (l.getD (l.length - 1) (1, 1)).1 = V.int 0)) = true := by
      rw [decide_eq_false (fun z => hz (by injection z))]; rfl
    rw [ne]
    exact k _ (s1.trans s2)
theorem rangeF_get {α : Type} {n k : Nat} (f : Nat → α) (h : k < n) : ((List.range n).map f)[k]? = some (f k) := by
  rw [List.getElem?_map, List.getElem?_range h]; rfl
theorem rangeF_set {α : Type} {n k : Nat} {f g : Nat → α} {z : α} (h : k < n) (h1 : g k = z) (h2 : ∀ i, i < n → i ≠ k → g i = f i) : ((List.range n).map f).set k z = (List.range n).map g := by
  apply List.ext_getElem?
  intro i
  by_cases hi : i < n
  · by_cases e : i = k
    · subst e
      rw [List.getElem?_set_self (by rw [List.length_map, List.length_range]; exact hi), rangeF_get g hi, h1]
    · rw [List.getElem?_set_ne (fun z => e z.symm), rangeF_get f hi, rangeF_get g hi, h2 i hi e]
  · rw [List.getElem?_eq_none (by rw [List.length_set, List.length_map, List.length_range]; omega), List.getElem?_eq_none (by rw [List.length_map, List.length_range]; omega)]
theorem rangeF_congr {α : Type} {n : Nat} {f g : Nat → α} (h : ∀ i, i < n → f i = g i) : (List.range n).map f = (List.range n).map g :=
  List.map_congr_left fun i hi => h i (List.mem_range.mp hi)
theorem rangeF_rep {α : Type} (z : α) : ∀ n : Nat, (List.range n).map (fun _ => z) = List.replicate n z
  | 0 => rfl
  | n + 1 => by rw [List.range_succ, List.map_append, rangeF_rep z n, List.replicate_succ']; rfl
theorem red_bd {c d : Nat} {n m : Int} (hm : 0 < m) (h1 : Bd c n) (h2 : Bd d m) : Bd c (red n m).1 ∧ Bd d (red n m).2 := by
  have w := wo_le (red_low hm) hm (red_wo (n := n) hm)
  exact ⟨h1.le w.1, h2.le w.2⟩
theorem mul_step {n k B : Int} {q r : Nu} {a b c : Int} (hB : 0 < B) (h1 : 0 < q.2) (h2 : 0 < r.2) (w1 : Wo q a b) (w2 : Wo r c k) (e : B = b * k) : nadd (red n B) (nmul q r) = red (n + a * c) B := by
  subst e
  refine wo_unique (nadd_low (red_low hB).pos (nmul_low h1 h2).pos) (red_low hB) (Int.ne_of_gt hB) (nadd_wo (red_low hB).pos (nmul_low h1 h2).pos (red_wo hB) (nmul_wo h1 h2 w1 w2)) (red_wo hB)
theorem Pl.same {H H' : Hp} {r : Addr} {L : List Nu} (h : Pl H r L) (s : Same H H') : Pl H' r L := let ⟨zs, a, b⟩ := h; ⟨zs, s _ _ a, b.tp (tpS s)⟩
theorem Pl.tp {H H' : Hp} {r : Addr} {L : List Nu} (h : Pl H r L) (s : Tp H H') : Pl H' r L := let ⟨zs, a, b⟩ := h; ⟨zs, s _ _ a, b.tp s⟩
theorem Pl.rep {H : Hp} {r : Addr} {L : List Nu} (h : Pl H r L) : RepD H (.ref r) (datP L) := let ⟨_, a, b⟩ := h; repP a b
theorem okR (l : List Nu) : PySem.W.kqdOk 8 (.list (l.map datN)) = true := by
  show (List.all (l.map datN) (PySem.W.kqdOk 7)) = true
  rw [List.all_map, List.all_eq_true]
  intro q _
  exact okN q 6
theorem mul4 {m n : Nat} {x y : Int} (hx : Bd m x) (hy : Bd n y) (hm : m ≤ 1000000 := by decide) (hn : n ≤ 1000000 := by decide) : IntMulOk x y := mulOk (hx.mono hm) (hy.mono hn)
theorem vc_l_sum {K : PySem.W.Frag} {vs : List V} {H : Hp} {Q : VK} {E : XK} (h : sp_l_sum K vs H Q E) : T_l_sum K { nx := fun _ H' => Q .non H', rt := Q } (L2.start ["_law_one", "_law_other"] vs) H := by
  obtain ⟨p, q, a, b, c, d, rfl, hp, hq, b0, d0, ba, bb, bc, bd, k⟩ := h
  unfold T_l_sum
  rwa [hp, hq]
  exact ⟨mul4 ba bd, mul4 bc bb, mul4 bb bd, Int.mul_pos b0 d0, (Bd.mul bb bd).mono (by decide), k⟩
theorem vc_l_product {K : PySem.W.Frag} {vs : List V} {H : Hp} {Q : VK} {E : XK} (h : sp_l_product K vs H Q E) : T_l_product K { nx := fun _ H' => Q .non H', rt := Q } (L2.start ["_law_one", "_law_other"] vs) H := by
  obtain ⟨p, q, a, b, c, d, rfl, hp, hq, b0, d0, ba, bb, bc, bd, k⟩ := h
  unfold T_l_product
  rwa [hp, hq]
  exact ⟨mul4 ba bc, mul4 bb bd, Int.mul_pos b0 d0, (Bd.mul bb bd).mono (by decide), k⟩
theorem vc_ratio {K : PySem.W.Frag} {vs : List V} {H : Hp} {Q : VK} {E : XK} (h : sp_ratio K vs H Q E) : T_ratio K { nx := fun _ H' => Q .non H', rt := Q } (L2.start ["top", "bottom", "shared"] vs) H := by
  obtain ⟨a, b, rfl, hb, hbd, q⟩ := h
  unfold T_ratio
  rwa []
  have go : ∀ s : Int, (s = if b < 0 then -((Int.gcd a b : Nat) : Int) else ((Int.gcd a b : Nat) : Int)) → DivN a s ∧ DivN b s ∧ 2 ≤ sizeLine ∧ ∀ (p : Addr), H p = none → Q (V.ref p) (upd H p (HO.tup [V.int (a.fdiv s), V.int (b.fdiv s)])) := fun s hs => by
    obtain ⟨h1, h2, h3, h4, h5, h6⟩ := ratio_math hb hs
    have hbs : Bd 9000 s := (hbd.le h2).mono (by decide)
    have e : redG a b = (a.fdiv s, b.fdiv s) := by
      refine val_inj (redG_low hb) h3 ?_
      rw [val_redG hb, val_of_wo (q := (a.fdiv s, b.fdiv s)) (Int.ne_of_gt h3.pos) hb h4]
    rw [e] at q
    exact ⟨⟨h1, hbs⟩, ⟨h1, hbs⟩, sz (by decide), q⟩
  refine ite2 (fun c => ?_) (fun c => ?_)
  · exact go _ (by rw [if_pos c])
  · exact go _ (by rw [if_neg c])
theorem vc_cleared {K : PySem.W.Frag} {vs : List V} {H : Hp} {Q : VK} {E : XK} (h : sp_cleared K vs H Q E) : T_cleared K { nx := fun _ H' => Q .non H', rt := Q } (L2.start ["P", "bottom", "number"] vs) H := by
  obtain ⟨p, xs, l, M, rfl, hp, hN, hL, hO, bM, hB, hl, q⟩ := h
  unfold T_cleared
  rwa [hp]
  have lx := hN.length
  have B0 := (clrB_ov hL).1
  have BB := dvd_bd (Int.ne_of_gt hO.1) (clrB_dvd hL hO) bM
  have qb : ∀ q ∈ l, Bd 4000 q.2 := fun q hq => dvd_bd (Int.ne_of_gt hO.1) (hO.2 q hq) bM
  refine ⟨⟨_, SqT.of hp⟩, ForT.by (xs := xs) (fun i σ H' => ∃ x, σ = [some (.ref p), some (.int ((l.take i).foldl (fun B q => B * (q.2 / ((Int.gcd B q.2 : Nat) : Int))) 1)), x] ∧ H' = H) ⟨none, rfl, rfl⟩ ?_ ?_ ?_⟩
  · rintro i σ H' _ ⟨x, rfl, rfl⟩
    exact hp
  · rintro i x σ H' hi ⟨y, rfl, rfl⟩
    obtain ⟨z, hz, p1, rfl, hp1⟩ := hN.get hi
    have zl := hL z (List.mem_of_getElem? hz)
    have zb := qb z (List.mem_of_getElem? hz)
    obtain ⟨f1, f3⟩ := fold_dvd (M := M) (l.take i) 1 (fun q hq => ⟨(hL q (List.mem_of_mem_take hq)).pos, hO.2 q (List.mem_of_mem_take hq)⟩) (by decide) (Int.one_dvd M)
    have f4 := dvd_bd (Int.ne_of_gt hO.1) f3 bM
    obtain ⟨s1, _, _, s4, s5, s6⟩ := lcm_step f1 zl.pos
    rwa [hp1]
    refine ⟨⟨s5, (zb.le (by omega)).mono (by decide)⟩, mul4 f4 (zb.le s4), ?_, _, rfl⟩
    rw [clr_take hz]
  · rintro σ H' ⟨x, rfl, rfl⟩
    rw [lx, List.take_length]
    rwa [hp]
    refine ⟨⟨_, SqT.of hp⟩, CompJ.tup (xs := xs) (fun i ys H'' => i ≤ xs.length ∧ ys = ((clrN l).take i).map V.int ∧ H'' = H') ⟨Nat.zero_le _, rfl, rfl⟩ ?_ ?_ ?_⟩
    · rintro i ys H'' ⟨h1, rfl, rfl⟩
      refine ⟨h1, sz ?_, hp⟩
      rw [List.length_map, List.length_take]; omega
    · rintro i x ys H'' hi ⟨h1, rfl, rfl⟩
      obtain ⟨z, hz, p1, rfl, hp1⟩ := hN.get hi
      have zl := hL z (List.mem_of_getElem? hz)
      have zb := qb z (List.mem_of_getElem? hz)
      have zn := hB z (List.mem_of_getElem? hz)
      have hi2 : i < xs.length := (List.getElem?_eq_some_iff.mp hi).1
      rwa [hp1]
      have eB : l.foldl (fun B q => B * (q.2 / ((Int.gcd B q.2 : Nat) : Int))) 1 = clrB l := rfl
      rw [eB]
      have cz : (clrN l)[i]? = some (z.1 * (clrB l / z.2)) := by unfold clrN; rw [List.getElem?_map, hz]; rfl
      refine ⟨⟨zl.pos, zb.mono (by decide)⟩, mul4 zn (BB.le (natAbs_ediv_le B0 zl.pos)), by omega, ?_⟩
      rw [map_take_succ V.int cz]
    · rintro ys H'' ⟨_, rfl, rfl⟩ a ha
      refine ⟨sz (by decide), fun r hr => ?_⟩
      have e : (clrN l).take xs.length = clrN l := by
        rw [lx, show l.length = (clrN l).length by unfold clrN; rw [List.length_map], List.take_length]
      rw [e] at hr ⊢
      have s := (same_new ha (HO.lst ((clrN l).map V.int))).trans (same_new hr (HO.tup [V.ref a, V.int (clrB l)]))
      exact q r a _ s upd_same (same_new hr _ _ _ upd_same)
theorem vc_uncleared {K : PySem.W.Frag} {vs : List V} {H : Hp} {Q : VK} {E : XK} (h : sp_uncleared K vs H Q E) : T_uncleared K { nx := fun _ H' => Q .non H', rt := Q } (L2.start ["row", "bottom"] vs) H := by
  obtain ⟨p, ns, B, rfl, hp, hB, bB, hl, q⟩ := h
  unfold T_uncleared
  rwa [hp]
  refine ⟨⟨_, SqL.of hp⟩, CompJ.lst (xs := ns.map V.int) (fun i ys H' => i ≤ ns.length ∧ Same H H' ∧ Nums H' ys ((ns.take i).map fun n => redG n B)) ⟨Nat.zero_le _, Same.refl H, trivial⟩ ?_ ?_ ?_⟩
  · rintro i ys H' ⟨h1, s1, hN⟩
    refine ⟨by rw [List.length_map]; exact h1, sz ?_, SqL.of (s1 _ _ hp)⟩
    rw [hN.length, List.length_map, List.length_take]; omega
  · rintro i x ys H' hi ⟨h1, s1, hN⟩
    rw [List.getElem?_map] at hi
    cases e : ns[i]? with
    | none => rw [e] at hi; cases hi
    | some n =>
      rw [e] at hi
      obtain rfl : V.int n = x := Option.some.inj hi
      have hi2 : i < ns.length := (List.getElem?_eq_some_iff.mp e).1
      rwa []
      refine ⟨hB, bB, fun r hr => ⟨by omega, s1.trans (same_new hr _), ?_⟩⟩
      rw [map_take_succ _ e]
      exact (hN.tp (tpS (same_new hr _))).append (Nums.one isN_new)
  · rintro ys H' ⟨_, s1, hN⟩ a ha
    rw [List.length_map, List.take_length] at hN
    have s2 := same_new ha (HO.lst ys)
    rwa []
    refine ⟨_, hN.tp (tpS s2), by rw [List.length_map]; exact hl, fun r zs H'' s3 hr hz => q r zs H'' ((s1.trans s2).trans s3) hr hz⟩
theorem vc_l_poly {K : PySem.W.Frag} {vs : List V} {H : Hp} {Q : VK} {E : XK} (h : sp_l_poly K vs H Q E) : T_l_poly K { nx := fun _ H' => Q .non H', rt := Q } (L2.start ["_law_box_here", "_law_most"] vs) H := by
  obtain ⟨p, m, n, rfl, hB, hn, m0, m1, k⟩ := h
  unfold T_l_poly
  rwa []
  refine ⟨n, hB, by omega, by omega, by omega, fun d H1 d0 d1 B1 k1 => ⟨by omega, by omega, ?_⟩⟩
  refine CompJ.range (fun i ys H' => i ≤ d.toNat ∧ Kp p H H' ∧ Box H' p (n + 1 + 3 * i) ∧ ∃ l, Nums H' ys l ∧ AllLow l ∧ AllBd 40 l ∧ l.length = i) ⟨Nat.zero_le _, k1, B1.mono (by omega), [], trivial, (fun _ h => nomatch h), (fun _ h => nomatch h), rfl⟩ ?_ ?_ ?_
  · rintro i ys H' ⟨h1, _, _, l, hZ, _, _, ll⟩
    exact ⟨h1, sz (by rw [hZ.length, ll]; omega)⟩
  · rintro i ys H' hi ⟨h1, k2, B2, l, hZ, lo, bd, ll⟩
    rwa []
    refine ⟨n + 1 + 3 * (i : Int), B2, by omega, fun r t e H3 h3 l3 bt be B3 k3 => ⟨by omega, k2.trans k3, B3.mono (by omega), l ++ [(t, e)], ?_, ?_, ?_, by rw [List.length_append, ll]; rfl⟩⟩
    · obtain ⟨ws, hws⟩ := B2.at
      exact (hZ.tp (k3.tp hws)).append (Nums.one ⟨r, rfl, h3⟩)
    · intro q hq
      rcases List.mem_append.mp hq with z | z
      · exact lo q z
      · rw [List.mem_singleton.mp z]; exact l3
    · intro q hq
      rcases List.mem_append.mp hq with z | z
      · exact bd q z
      · rw [List.mem_singleton.mp z]; exact ⟨bt, be⟩
  · rintro ys H' ⟨_, k2, B2, l, hZ, lo, bd, ll⟩ a ha
    have s2 := same_new ha (HO.lst ys)
    rwa []
    refine ⟨l, hZ.tp (tpS s2), by omega, fun r zs H3 s3 hr hz => ?_⟩
    have tl := trim_len l
    exact k r zs (trim l) H3 hr hz (fun q hq => lo q (trim_mem hq)) (fun q hq => bd q (trim_mem hq)) (trim_nz l) (by omega) (((B2.same s2).same s3).mono (by omega)) ((k2.same s2).same s3)
theorem max_inG (a b : Nat) (h1 : a ≤ 24) (h2 : b ≤ 24) : (-2 ^ 62 ≤ if (b : Int) > (a : Int) then (b : Int) else (a : Int)) ∧ (if (b : Int) > (a : Int) then (b : Int) else (a : Int)) < 2 ^ 62 := by split <;> omega
theorem getN_bd2 {n m : Nat} {l : List Nu} (hn : 1 ≤ n) (hm : 1 ≤ m) (h : ∀ q ∈ l, Bd n q.1 ∧ Bd m q.2) (i : Nat) : Bd n (getN l i).1 ∧ Bd m (getN l i).2 := by
  unfold getN
  rw [List.getD_eq_getElem?_getD]
  cases e : l[i]? with
  | none => exact ⟨bd_zero n, Bd.one.mono hm⟩
  | some q => exact h q (List.mem_of_getElem? e)
theorem vc_l_added {K : PySem.W.Frag} {vs : List V} {H : Hp} {Q : VK} {E : XK} (h : sp_l_added K vs H Q E) : T_l_added K { nx := fun _ H' => Q .non H', rt := Q } (L2.start ["_law_kp", "_law_kq", "_law_row", "_law_k"] vs) H := by
  obtain ⟨p, q, xs, ys, l, m, rfl, hp, hq, hN, hM, hl, hm, bl, bm, ll, lm, k⟩ := h
  unfold T_l_added
  rwa [hp, hq]
  have lx := hN.length
  have ly := hM.length
  refine ⟨sz (by decide), fun w hw => ?_⟩
  have s0 := same_new hw (HO.lst [])
  have hp0 := s0 _ _ hp
  have hq0 := s0 _ _ hq
  rwa [hp0, hq0]
  rw [max_len, lx, ly]
  refine ⟨(max_inG l.length m.length ll lm).1, (max_inG l.length m.length ll lm).2, ForR.by (fun i σ H' => ∃ (x : Option V) (zs : List V), σ = [some (.ref p), some (.ref q), some (.ref w), x] ∧ Same H H' ∧ H' w = some (.lst zs) ∧ Nums H' zs ((List.range i).map fun i => nadd (getN l i) (getN m i))) ⟨none, [], rfl, s0, upd_same, trivial⟩ ?_ ?_⟩
  · rintro i σ H1 hi ⟨x, zs, rfl, s1, hz, hZ⟩
    have hp1 := s1 _ _ hp
    have hq1 := s1 _ _ hq
    refine ⟨_, rfl, tyV_lst hz, ?_⟩
    refine pad_read (i := 0) (j := 1) (n := 3) (p := p) (q := q) (k := i) rfl rfl rfl hp1 hq1 (hN.tp (tpS s1)) (by omega) (by omega) (by omega) fun v H2 s2 hv => ?_
    refine pad_read (i := 1) (j := 0) (n := 3) (p := q) (q := p) (k := i) rfl rfl rfl (s2 _ _ hq1) (s2 _ _ hp1) (hM.tp (tpS (s1.trans s2))) (by omega) (by omega) (by omega) fun u H3 s3 hu => ?_
    obtain ⟨pwo, rfl, hpv⟩ := hv.tp (tpS s3)
    obtain ⟨pu, rfl, hpu⟩ := hu
    have b1 := getN_bd2 (by decide) (by decide) bl i
    have b2 := getN_bd2 (by decide) (by decide) bm i
    refine ⟨pwo, pu, _, _, _, _, rfl, hpv, hpu, (getN_low hl i).pos, (getN_low hm i).pos, b1.1.mono (by decide), b1.2.mono (by decide), b2.1.mono (by decide), b2.2.mono (by decide), fun r hr => ?_⟩
    have sr := same_new hr (HO.tup [V.int (nadd (getN l i) (getN m i)).1, V.int (nadd (getN l i) (getN m i)).2])
    have hz3 := sr _ _ (s3 _ _ (s2 _ _ hz))
    have lz := hZ.length
    rw [List.length_map, List.length_range] at lz
    refine ⟨w, zs, _, rfl, rfl, hz3, Nat.lt_of_le_of_lt (show zs.length ≤ 1000 by omega) (by rw [sizeLine_eq]; omega), _, _, rfl, ?_, upd_same, ?_⟩
    · exact fun b o h => Kp.upd b o (ne_of_none h hw) (sr b o (s3 b o (s2 b o (s1 b o h))))
    · rw [range_map_succ]
      have t := (tpS ((s2.trans s3).trans sr)).trans (Tp.updL hz3 (ys := zs ++ [V.ref r]))
      exact (hZ.tp t).append (Nums.one ((isN_new (H := H3) (p := r)).tp (Tp.updL hz3)))
  · rintro σ H1 ⟨x, zs, rfl, s1, hz, hZ⟩
    rwa [hz]
    refine ⟨_, hZ, by rw [List.length_map, List.length_range]; omega, fun r us H2 s2 hr hu => k r us H2 (s1.trans s2) hr hu⟩
theorem rowI (ns : List Int) (f : Int) : List.map V.int (ns.map (f * ·)) = rowF ns.length fun k => f * ns.getD k 0 := by
  unfold rowF
  congr 1
  apply List.ext_getElem?
  intro i
  rw [List.getElem?_map, List.getElem?_map]
  by_cases h : i < ns.length
  · rw [List.getElem?_range h, List.getElem?_eq_getElem h]
    show _ = some (f * ns.getD i 0)
    rw [List.getD_eq_getElem?_getD, List.getElem?_eq_getElem h]
    rfl
  · rw [List.getElem?_eq_none (by omega), List.getElem?_eq_none (by rw [List.length_range]; omega)]
    rfl
theorem vc_l_multiplied {K : PySem.W.Frag} {vs : List V} {H : Hp} {Q : VK} {E : XK} (h : sp_l_multiplied K vs H Q E) : T_l_multiplied K { nx := fun _ H' => Q .non H', rt := Q } (L2.start ["_law_kp", "_law_kq", "_law_row", "_law_k", "_law_one", "_law_j", "_law_other"] vs) H := by
  obtain ⟨p, q, xs, ys, l, m, M1, M2, rfl, hp, hq, hN, hM, hl, hm, O1, O2, bMM, bl, bm, ll, lm, k⟩ := h
  unfold T_l_multiplied
  rwa [hp, hq]
  have lx := hN.length
  have ly := hM.length
  refine ⟨sz (by decide), fun b hb => ⟨sz (by simp), fun c hc => ?_⟩⟩
  have sb := same_new hb (HO.tup [V.int 0, V.int 1])
  have sc := same_new hc (HO.lst [V.ref b])
  have hp1 := sc _ _ (sb _ _ hp)
  have hq1 := sc _ _ (sb _ _ hq)
  rwa [hp1, hq1]
  have eL : ((xs.length : Int) + (ys.length : Int)).toNat = l.length + m.length := by omega
  rw [eL, flat_rep]
  refine ⟨by omega, by omega, sz (by omega), fun w hw => ?_⟩
  have sw := same_new hw (HO.lst (List.replicate (l.length + m.length) (V.ref b)))
  have w0 : H w = none := by
    cases e : H w with
    | none => rfl
    | some o => have z := sc _ _ (sb _ _ e); rw [hw] at z; cases z
  have BP := Int.mul_pos O1.1 O2.1
  have BB1 : Bd 3900 M1 := dvd_bd (Int.ne_of_gt BP) (Int.dvd_mul_right ..) bMM
  have BB2 : Bd 3900 M2 := dvd_bd (Int.ne_of_gt BP) (Int.dvd_mul_left ..) bMM
  have n2 : (ovN m M2).length = m.length := by unfold ovN; rw [List.length_map]
  have bd : ∀ i j k, i ≤ 100 → Bd 300000 (in2 (ovN l M1) (ovN m M2) i j k) := fun i j k hi => (in2_bd (ovN_bd hl O1 bl BB1) (ovN_bd hm O2 bm BB2) i j k).mono (by omega)
  refine ⟨⟨_, SqT.of (sw _ _ hp1)⟩, ForJ.enumT (xs := xs) (fun i σ H' => ∃ x1 x2 x3 x4 : Option V, σ = [some (.ref p), some (.ref q), some (.ref w), x1, x2, x3, x4] ∧ Same H H' ∧ ∃ zs, H' w = some (.lst zs) ∧ Nums H' zs ((List.range (l.length + m.length)).map fun k => red (ps (ovN l M1) (ovN m M2) i k) (M1 * M2)))
    ⟨none, none, none, none, rfl, (sb.trans sc).trans sw, _, upd_same, ?_⟩ ?_ ?_ ?_⟩
  · rw [show (fun k => red (ps (ovN l M1) (ovN m M2) 0 k) (M1 * M2)) = fun _ => ((0, 1) : Nu) from funext fun k => red_zero BP, rangeF_rep]
    exact Nums.rep ⟨b, rfl, sw _ _ (sc _ _ upd_same)⟩ _
  · rintro i σ H' _ ⟨_, _, _, _, _, s1, _⟩
    exact s1 _ _ hp
  · rintro i x pp σ H1 hi ⟨x1, x2, x3, x4, rfl, s1, zs, hw1, hz1⟩ hpp
    obtain ⟨z, hz, px, rfl, hpx⟩ := hN.get hi
    have il : i < l.length := (List.getElem?_eq_some_iff.mp hz).1
    have zd : getN l i = z := by unfold getN; rw [List.getD_eq_getElem?_getD, hz]; rfl
    have sp := same_new hpp (HO.tup [V.int (i : Int), V.ref px])
    rwa []
    refine ⟨⟨_, SqT.of (sp _ _ (s1 _ _ hq))⟩, ForJ.enumT (xs := ys) (fun j σ H' => ∃ x3 x4 : Option V, σ = [some (.ref p), some (.ref q), some (.ref w), some (.int (i : Int)), some (.ref px), x3, x4] ∧ Same H H' ∧ ∃ zs, H' w = some (.lst zs) ∧ Nums H' zs ((List.range (l.length + m.length)).map fun k => red (in2 (ovN l M1) (ovN m M2) i j k) (M1 * M2)))
          ⟨x3, x4, rfl, s1.trans sp, _, sp _ _ hw1, ?_⟩ ?_ ?_ ?_⟩
    · rw [rangeF_congr fun k _ => congrArg (red · (M1 * M2)) (in2_zero (ovN l M1) (ovN m M2) i k)]
      exact hz1.tp (tpS sp)
    · rintro j σ H' _ ⟨_, _, _, s2, _⟩
      exact s2 _ _ hq
    · rintro j y pq σ H2 hj ⟨y3, y4, rfl, s2, zs2, hw2, hz2⟩ hpq
      obtain ⟨u, hu, py, rfl, hpy⟩ := hM.get hj
      have jl : j < m.length := (List.getElem?_eq_some_iff.mp hu).1
      have ud : getN m j = u := by unfold getN; rw [List.getD_eq_getElem?_getD, hu]; rfl
      have sq := same_new hpq (HO.tup [V.int (j : Int), V.ref py])
      have hw3 := sq _ _ hw2
      have kl : i + j < l.length + m.length := by omega
      have hz3 := hz2.tp (tpS sq)
      obtain ⟨v, hv, g, rfl, hg⟩ := hz3.at (i := i + j) (by rw [List.length_map, List.length_range]; exact kl) (1, 1)
      rw [List.getD_eq_getElem?_getD, rangeF_get _ kl] at hg
      have hpx3 := sq _ _ (s2 _ _ hpx)
      have hpy3 := sq _ _ (s2 _ _ hpy)
      have lq := hl z (List.mem_of_getElem? hz)
      have lu := hm u (List.mem_of_getElem? hu)
      have bq := bl z (List.mem_of_getElem? hz)
      have bu := bm u (List.mem_of_getElem? hu)
      rwa [hw3, hpx3, hpy3]
      have qd : z.2 * u.2 ∣ M1 * M2 := Int.mul_dvd_mul (O1.2 z (List.mem_of_getElem? hz)) (O2.2 u (List.mem_of_getElem? hu))
      have bq2 : Bd 3900 z.2 := dvd_bd (Int.ne_of_gt O1.1) (O1.2 z (List.mem_of_getElem? hz)) BB1
      have bu2 : Bd 3900 u.2 := dvd_bd (Int.ne_of_gt O2.1) (O2.2 u (List.mem_of_getElem? hu)) BB2
      have bp := red_bd (Int.mul_pos lq.pos lu.pos) (bq.mul bu) (dvd_bd (Int.ne_of_gt BP) qd bMM)
      have br := red_bd BP (bd i j (i + j) (by omega)) bMM
      refine ⟨_, atI_of (by omega) hv, lq.pos, lu.pos, bq.mono (by decide), bq2.mono (by decide), bu.mono (by decide), bu2.mono (by decide), fun r1 hr1 => ?_⟩
      have sr1 := same_new hr1 (HO.tup [V.int (nmul (z.1, z.2) (u.1, u.2)).1, V.int (nmul (z.1, z.2) (u.1, u.2)).2])
      refine ⟨g, rfl, _, _, sr1 _ _ hg, (red_low BP).pos, (nmul_low lq.pos lu.pos).pos, br.1, br.2.mono (by decide), bp.1.mono (by decide), bp.2.mono (by decide), fun r2 hr2 => ?_⟩
      have sr2 := same_new hr2 (HO.tup [V.int (nadd (red (in2 (ovN l M1) (ovN m M2) i j (i + j)) (M1 * M2)) (nmul (z.1, z.2) (u.1, u.2))).1, V.int (nadd (red (in2 (ovN l M1) (ovN m M2) i j (i + j)) (M1 * M2)) (nmul (z.1, z.2) (u.1, u.2))).2])
      have st := (sq.trans sr1).trans sr2
      have lz : zs2.length = l.length + m.length := by rw [hz2.length, List.length_map, List.length_range]
      refine ⟨_, st _ _ hw2, i + j, ixN_of (by omega) (by omega), fun b o h => Kp.upd b o (ne_of_none h w0) (st b o (s2 b o h)), ?_⟩
      have hn := (Nums.set (q := nadd (red (in2 (ovN l M1) (ovN m M2) i j (i + j)) (M1 * M2)) (nmul z u)) ⟨r2, rfl, upd_same⟩ (i + j) (hz2.tp (tpS st))).tp (Tp.updL (ys := zs2.set (i + j) (V.ref r2)) (st _ _ hw2))
      rw [rangeF_set (g := fun k => red (in2 (ovN l M1) (ovN m M2) i (j + 1) k) (M1 * M2)) kl ?_ fun k _ hk => ?_] at hn
      · exact hn
      · have w1 := ovN_wo O1 i
        have w2 := ovN_wo O2 j
        rw [zd] at w1
        rw [ud] at w2
        show red (in2 (ovN l M1) (ovN m M2) i (j + 1) (i + j)) (M1 * M2) = _
        rw [in2_step, if_pos rfl, mul_step BP lq.pos lu.pos w1 w2 rfl]
      · show red (in2 (ovN l M1) (ovN m M2) i (j + 1) k) (M1 * M2) = _
        rw [in2_step, if_neg hk]
    · rintro σ H2 ⟨y3, y4, rfl, s2, zs2, hw2, hz2⟩
      rw [ly, rangeF_congr fun k _ => congrArg (red · (M1 * M2)) (show in2 (ovN l M1) (ovN m M2) i m.length k = ps (ovN l M1) (ovN m M2) (i + 1) k by rw [← n2]; rfl)] at hz2
      exact ⟨_, _, _, _, rfl, s2, zs2, hw2, hz2⟩
  · rintro σ H1 ⟨x1, x2, x3, x4, rfl, s1, zs, hw1, hz1⟩
    rwa [hw1]
    rw [lx] at hz1
    exact ⟨_, hz1, by rw [List.length_map, List.length_range]; omega, fun r vs H2 s2 hr hv => k r vs H2 (s1.trans s2) hr hv⟩
theorem atI_last {xs : List V} {v : V} (h : 1 ≤ xs.length) (e : xs[xs.length - 1]? = some v) : atI xs (-1) = some v := by
  unfold atI ixN
  rw [if_neg (by decide), if_pos (by omega), show (-1 + (xs.length : Int)).toNat = xs.length - 1 by omega]
  exact e
theorem getD_out {ns : List Int} {k : Nat} (h : ns.length ≤ k) : ns.getD k 0 = 0 := by
  rw [List.getD_eq_getElem?_getD, List.getElem?_eq_none h]
  rfl
theorem lead_ne {m : List Nu} (hm : AllLow m) (nm : Nz m) (h1 : 1 ≤ m.length) : (clrN m).getD (m.length - 1) 0 ≠ 0 := by
  rw [clrN_ov, ovN_get]
  have hb : m.length - 1 < m.length := by omega
  have q := nm m[m.length - 1] (by rw [List.getLast?_eq_getElem?]; exact List.getElem?_eq_getElem hb)
  have e : getN m (m.length - 1) = m[m.length - 1] := by unfold getN; rw [List.getD_eq_getElem?_getD, List.getElem?_eq_getElem hb]; rfl
  rw [e]
  refine Int.mul_ne_zero q ?_
  have o := clrB_ov hm
  have d := o.2 m[m.length - 1] (List.getElem_mem hb)
  obtain ⟨y, hy⟩ := d
  have p0 := (hm m[m.length - 1] (List.getElem_mem hb)).pos
  rw [hy, Int.mul_ediv_cancel_left _ (Int.ne_of_gt p0)]
  intro z
  rw [z, Int.mul_zero] at hy
  have := o.1
  omega
theorem vc_raised {K : PySem.W.Frag} {vs : List V} {H : Hp} {Q : VK} {E : XK} (h : sp_raised K vs H Q E) : T_raised K { nx := fun _ H' => Q .non H', rt := Q } (L2.start ["whole", "n", "result", "square"] vs) H := by
  obtain ⟨x, n, b, rfl, n0, bx, hb, q⟩ := h
  unfold T_raised
  rwa []
  have BP : ∀ k : Nat, k ≤ n.toNat → Bd 1000000 (x ^ k) := fun k hk => (bx.pow k).mono (by
    have := Nat.mul_le_mul_left b hk
    omega)
  refine while_by (fun m σ H' => ∃ r s : Nat, σ = [some (.int x), some (.int (m : Int)), some (.int (x ^ r)), some (.int (x ^ s))] ∧ H' = H ∧ r + s * m = n.toNat) n.toNat ⟨0, 1, ?_, rfl, by omega⟩ ?_
  · have e : ((n.toNat : Nat) : Int) = n := by omega
    rw [e, Int.pow_zero, show x ^ 1 = x by rw [Int.pow_succ, Int.pow_zero, Int.one_mul]]
  rintro m σ H' ⟨r, s, rfl, rfl, hm⟩
  rwa []
  refine ite2 (fun c => ?_) (fun c => ?_)
  · have m1 : 1 ≤ m := by omega
    have sl : s ≤ s * m := Nat.le_mul_of_pos_right s m1
    have d2 : DivP (m : Int) 2 := ⟨by decide, (bd64 (by decide) (by decide)).mono (by decide)⟩
    have hm2 : s * m = (s + s) * (m / 2) + s * (m % 2) := by
      have e : m = 2 * (m / 2) + m % 2 := (Nat.div_add_mod m 2).symm
      generalize m / 2 = u at e ⊢
      generalize m % 2 = v at e ⊢
      subst e
      rw [Nat.mul_add]
      congr 1
      rw [← Nat.mul_assoc, Nat.mul_comm s 2]
      congr 1
      omega
    have ed : ((m : Int) / 2) = ((m / 2 : Nat) : Int) := by omega
    rw [ed]
    refine ⟨fun σ' H'' => ∃ m', m' < m ∧ _, fun _ _ h => h, ?_⟩
    have fin : ∀ r' : Nat, r' + (s + s) * (m / 2) = n.toNat → DivP (m : Int) 2 ∧ if 0 < ((m / 2 : Nat) : Int) then IntMulOk (x ^ s) (x ^ s) ∧ ∃ m', m' < m ∧ ∃ r s_1, [some (V.int x), some (V.int ((m / 2 : Nat) : Int)), some (V.int (x ^ r')), some (V.int (x ^ s * x ^ s))] = [some (V.int x), some (V.int (m' : Int)), some (V.int (x ^ r)), some (V.int (x ^ s_1))] ∧ H' = H' ∧ r + s_1 * m' = n.toNat
        else ∃ m', m' < m ∧ ∃ r s_1, [some (V.int x), some (V.int ((m / 2 : Nat) : Int)), some (V.int (x ^ r')), some (V.int (x ^ s))] = [some (V.int x), some (V.int (m' : Int)), some (V.int (x ^ r)), some (V.int (x ^ s_1))] ∧ H' = H' ∧ r + s_1 * m' = n.toNat := fun r' hr' => by
      refine ⟨d2, ite2 (fun c2 => ?_) (fun c2 => ?_)⟩
      · exact ⟨mulOk (BP s (by omega)) (BP s (by omega)), m / 2, by omega, r', s + s, by rw [Int.pow_add], rfl, hr'⟩
      · have z : m / 2 = 0 := by omega
        rw [z] at hr' ⊢
        exact ⟨0, by omega, r', s, rfl, rfl, by omega⟩
    refine ⟨by decide, ite2 (fun c2 => ⟨mulOk (BP r (by omega)) (BP s (by omega)), ?_⟩) (fun c2 => ?_)⟩
    · rw [← Int.pow_add]
      have e1 : m % 2 = 1 := by omega
      rw [e1] at hm2
      exact fin (r + s) (by omega)
    · have e1 : m % 2 = 0 := by omega
      rw [e1] at hm2
      exact fin r (by omega)
  · have z : m = 0 := by omega
    subst z
    have e : r = n.toNat := by omega
    subst e
    exact q
theorem cvL_bd {c d : Nat} {b : Nat → Int} (hb : ∀ k, Bd d (b k)) : ∀ (a : List Int) (k : Nat), (∀ z ∈ a, Bd c z) → Bd (c + d + a.length) (cvL a b k)
  | [], _, _ => bd_zero _
  | x :: a, 0, h => by
    rw [cvL_zero, Int.add_zero]
    exact ((h x (List.mem_cons_self ..)).mul (hb 0)).mono (by omega)
  | x :: a, k + 1, h => by
    rw [cvL_succ]
    exact (((h x (List.mem_cons_self ..)).mul (hb (k + 1))).mono (by omega : c + d ≤ c + d + a.length)).add (cvL_bd hb a k fun z hz => h z (List.mem_cons_of_mem _ hz))
theorem pow_bd {b : Nat} {f : List Int} (h : ∀ z ∈ f, Bd b z) : ∀ (n k : Nat), Bd ((b + f.length) * n + 1) (powL f n k)
  | 0, 0 => Bd.one.mono (by omega)
  | 0, _ + 1 => bd_zero _
  | n + 1, k => (cvL_bd (pow_bd h n) f k h).mono (by rw [Nat.mul_add]; omega)
theorem rowF_succ (m : Nat) (f : Nat → Int) : rowF (m + 1) f = rowF m f ++ [V.int (f m)] := by
  unfold rowF
  rw [List.range_succ, List.map_append, List.map_append]
  rfl
theorem vc_row_power {K : PySem.W.Frag} {vs : List V} {H : Hp} {Q : VK} {E : XK} (h : sp_row_power K vs H Q E) : T_row_power K { nx := fun _ H' => Q .non H', rt := Q } (L2.start ["row", "n", "result", "place", "found", "step"] vs) H := by
  obtain ⟨p, f, n, b, rfl, hp, f0, fn, bf, hb, b3, f9, n60, k⟩ := h
  unfold T_row_power
  have a0 : atI (f.map V.int) 0 = some (V.int (f.getD 0 0)) := atI_of (j := 0) rfl (by rw [List.getElem?_map, List.getD_eq_getElem?_getD, List.getElem?_eq_getElem f0]; rfl)
  have b0 : Bd b (f.getD 0 0) := getD_bd bf 0
  rwa [hp, a0]
  refine ⟨by omega, b, b0, ?_, sz (by decide), fun w hw => ?_⟩
  · rw [Int.toNat_natCast]
    have := Nat.mul_le_mul_right n (Nat.le_add_right b f.length)
    omega
  have sw := same_new hw (HO.lst [V.int (f.getD 0 0 ^ n)])
  have hp1 := sw _ _ hp
  rw [Int.toNat_natCast]
  unfold T_row_power_1
  rwa [hp1]
  have D8 : n * (f.length - 1) ≤ 480 := Nat.le_trans (Nat.mul_le_mul n60 (show f.length - 1 ≤ 8 by omega)) (by decide)
  have eN : (n : Int) * (((f.map V.int).length : Int) - 1) = ((n * (f.length - 1) : Nat) : Int) := by
    rw [List.length_map]
    push_cast
    rw [show ((f.length - 1 : Nat) : Int) = (f.length : Int) - 1 by omega]
  have pb : ∀ k, Bd 8000 (powL f n k) := fun k => (pow_bd bf n k).mono hb
  rw [eN]
  refine ⟨mul4 (bd64 (x := (n : Int)) (by omega) (by omega)) (bd64 (x := ((f.map V.int).length : Int) - 1) (by rw [List.length_map]; omega) (by rw [List.length_map]; omega)), by decide, by decide, by omega, by omega, ?_⟩
  rw [show (((n * (f.length - 1) : Nat) : Int) + 1 - 1).toNat = n * (f.length - 1) by omega]
  refine ForR.by (fun i σ H' => ∃ x3 x4 x5 : Option V, σ = [some (.ref p), some (.int (n : Int)), some (.ref w), x3, x4, x5] ∧ Same H H' ∧ H' w = some (.lst (rowF (i + 1) (powL f n)))) ⟨none, none, none, rfl, sw, ?_⟩ ?_ ?_
  · rw [upd_same, ← pow_zero]
    rfl
  · rintro i σ H1 hi ⟨x3, x4, x5, rfl, s1, hw1⟩
    have hp2 := s1 _ _ hp
    unfold T_row_power_b1_0 T_row_power_b1_1
    rwa [hp2]
    have ei : (1 : Int) + (i : Int) = ((i + 1 : Nat) : Int) := by omega
    rw [ei]
    have em : (if (((f.map V.int).length : Int) - 1) < ((i + 1 : Nat) : Int) then ((f.map V.int).length : Int) - 1 else ((i + 1 : Nat) : Int)) = ((min (i + 1) (f.length - 1) : Nat) : Int) := by
      rw [List.length_map]; split <;> omega
    rw [em]
    refine ⟨by decide, by decide, by omega, by omega, ?_⟩
    rw [show (((min (i + 1) (f.length - 1) : Nat) : Int) + 1 - 1).toNat = min (i + 1) (f.length - 1) by omega]
    refine ForR.by (fun j σ H' => ∃ x5 : Option V, σ = [some (.ref p), some (.int (n : Int)), some (.ref w), some (.int ((i + 1 : Nat) : Int)), some (.int (foS f (powL f n) n (i + 1) j)), x5] ∧ H' = H1) ⟨_, rfl, rfl⟩ ?_ ?_
    · rintro j σ H2 hj ⟨y, rfl, rfl⟩
      have g1 : atI (f.map V.int) (1 + (j : Int)) = some (V.int (f.getD (j + 1) 0)) := atI_of (j := j + 1) (by omega) (by rw [List.getElem?_map, List.getD_eq_getElem?_getD, List.getElem?_eq_getElem (by omega)]; rfl)
      have g2 : atI (rowF (i + 1) (powL f n)) (((i + 1 : Nat) : Int) - (1 + (j : Int))) = some (V.int (powL f n (i - j))) := atI_of (j := i - j) (by omega) (rowF_get _ (by omega))
      rwa [hp2, hw1, g1]
      have g3 : atI (rowF (i + 1) (powL f n)) ((i : Int) + 1 - (1 + (j : Int))) = some (V.int (powL f n (i - j))) := by rw [← g2]; congr 1
      have sm : Bd 64 (((n : Int) + 1) * (1 + (j : Int)) - ((i : Int) + 1)) := by
        have h1 : ((n : Int) + 1) * (1 + (j : Int)) ≤ 61 * 9 := by
          have := Int.mul_le_mul (show (n : Int) + 1 ≤ 61 by omega) (show 1 + (j : Int) ≤ 9 by omega) (by omega) (by decide)
          exact this
        have h2 : 0 ≤ ((n : Int) + 1) * (1 + (j : Int)) := Int.mul_nonneg (by omega) (by omega)
        exact bd64 (by omega) (by omega)
      have bj := getD_bd bf (j + 1)
      refine ⟨mul4 (bd64 (x := (n : Int) + 1) (by omega) (by omega)) (bd64 (x := 1 + (j : Int)) (by omega) (by omega)), mul4 sm (bj.mono b3), _, g3, _, rfl, mul4 (sm.mul (bj.mono b3)) (pb _), ?_, _, rfl⟩
      show _ = foS f (powL f n) n (i + 1) j + (((n : Int) + 1) * ((j + 1 : Nat) : Int) - ((i + 1 : Nat) : Int)) * f.getD (j + 1) 0 * powL f n (i + 1 - (j + 1))
      rw [show i + 1 - (j + 1) = i - j by omega, show ((j + 1 : Nat) : Int) = 1 + (j : Int) by omega, show ((i + 1 : Nat) : Int) = (i : Int) + 1 by omega]
    · rintro σ H2 ⟨y, rfl, rfl⟩
      rw [pow_rec f0]
      unfold T_row_power_b1_2
      rwa [hp2, a0, hw1]
      have pne : ((i : Int) + 1) * f.getD 0 0 ≠ 0 := Int.mul_ne_zero (by omega) fn
      have bi : Bd 64 ((i : Int) + 1) := bd64 (by omega) (by omega)
      refine ⟨tyV_lst hw1, mul4 bi (b0.mono b3), ⟨pne, (bi.mul (b0.mono b3)).mono (by decide)⟩, Nat.lt_of_le_of_lt (show _ ≤ 1000 by rw [rowF_len]; omega) (by rw [sizeLine_eq]; omega), fun b o h => Kp.upd b o (ne_of_none h hw) (s1 b o h), ?_⟩
      rw [Int.mul_fdiv_cancel_left _ pne, rowF_succ (i + 1)]
  · rintro σ H1 ⟨x3, x4, x5, rfl, s1, hw1⟩
    unfold T_row_power_2
    rwa []
    exact k w H1 s1 hw1
theorem sy_bd {b : Nat} {c : Int} {R : Nat → Int} {n : Nat} (hc : Bd 40 c) (h : ∀ j, Bd b (R j)) : ∀ d, Bd (b + 41 * d) (sy c R n d)
  | 0 => h _
  | d + 1 => by
    have a1 := (hc.mul (sy_bd (n := n) hc h d)).mono (show 40 + (b + 41 * d) ≤ b + 41 * d + 40 by omega)
    exact (((h (n - 1 - (d + 1))).mono (show b ≤ b + 41 * d + 40 by omega)).add a1).mono (by omega)
theorem rnd_bd {b : Nat} {c : Int} {R : Nat → Int} {n first : Nat} (hc : Bd 40 c) (h : ∀ j, Bd b (R j)) (hn : n ≤ 9) (j : Nat) : Bd (b + 369) (rnd c R n first j) := by
  unfold rnd
  split
  · exact (h j).mono (by omega)
  · exact (sy_bd hc h _).mono (by omega)
theorem rnds_bd {b : Nat} {c : Int} {R : Nat → Int} {n : Nat} (hc : Bd 40 c) (h : ∀ j, Bd b (R j)) (hn : n ≤ 9) : ∀ i j, Bd (b + 369 * i) (rnds c R n i j)
  | 0, j => h j
  | i + 1, j => (rnd_bd hc (rnds_bd hc h hn i) hn j).mono (by omega)
theorem sy_step {c : Int} {R : Nat → Int} {n p : Nat} (h : p + 1 < n) : sy c R n (n - 1 - p) = R p + c * sy c R n (n - 1 - (p + 1)) := by
  rw [show n - 1 - p = (n - 1 - (p + 1)) + 1 by omega]
  show R (n - 1 - (n - 1 - (p + 1) + 1)) + _ = _
  rw [show n - 1 - (n - 1 - (p + 1) + 1) = p by omega]
theorem rowF_self (ns : List Int) : ns.map V.int = rowF ns.length fun k => ns.getD k 0 := by
  have h := rowI ns 1
  have e : ns.map (1 * ·) = ns := by
    have e2 : (fun x : Int => 1 * x) = id := funext fun x => Int.one_mul x
    rw [e2, List.map_id]
  rw [e] at h
  rw [h]
  exact rowF_congr fun i _ => by rw [Int.one_mul]
theorem vc_row_moved {K : PySem.W.Frag} {vs : List V} {H : Hp} {Q : VK} {E : XK} (h : sp_row_moved K vs H Q E) : T_row_moved K { nx := fun _ H' => Q .non H', rt := Q } (L2.start ["row", "whole", "result", "first", "place"] vs) H := by
  obtain ⟨p, ns, c, rfl, hp, n9, bn, bc, k⟩ := h
  unfold T_row_moved
  rwa [hp]
  intro w hw
  rw [rowF_self]
  have sw := same_new hw (HO.lst (rowF ns.length fun k => ns.getD k 0))
  have hp1 := sw _ _ hp
  rwa [hp1]
  rw [List.length_map]
  have bR : ∀ i j, Bd (2000 + 369 * i) (rnds c (fun k => ns.getD k 0) ns.length i j) := rnds_bd bc (fun j => getD_bd bn j) n9
  refine ⟨by omega, by omega, ForR.by (fun i σ H' => ∃ x3 x4 : Option V, σ = [some (.ref p), some (.int c), some (.ref w), x3, x4] ∧ Same H H' ∧ H' w = some (.lst (rowF ns.length (rnds c (fun k => ns.getD k 0) ns.length i)))) ⟨none, none, rfl, sw, upd_same⟩ ?_ ?_⟩
  · rintro i σ H1 hi ⟨x3, x4, rfl, s1, hw1⟩
    have hp2 := s1 _ _ hp
    rwa [hp2]
    rw [List.length_map]
    refine ⟨by omega, by omega, by omega, by omega, ?_⟩
    have en : ((ns.length : Int) - 2 - (0 + (i : Int) - 1)).toNat = ns.length - 1 - i := by omega
    rw [en]
    refine ForJ.down (fun j σ H' => ∃ x4 : Option V, σ = [some (.ref p), some (.int c), some (.ref w), some (.int (0 + (i : Int))), x4] ∧ Same H H' ∧ H' w = some (.lst (rowF ns.length fun q => if q + j + 1 < ns.length then rnds c (fun k => ns.getD k 0) ns.length i q else sy c (rnds c (fun k => ns.getD k 0) ns.length i) ns.length (ns.length - 1 - q)))) ⟨_, rfl, s1, ?_⟩ ?_ ?_
    · rw [hw1]
      refine congrArg (fun l => some (HO.lst l)) (rowF_congr fun q hq => ?_)
      by_cases h : q + 0 + 1 < ns.length
      · rw [if_pos h]
      · rw [if_neg h, show ns.length - 1 - q = 0 by omega, show q = ns.length - 1 by omega]
        rfl
    · rintro j σ H2 hj ⟨y, rfl, s2, hw2⟩
      have e1 : ((ns.length : Int) - 2 - (j : Int)) = ((ns.length - 2 - j : Nat) : Int) := by omega
      rw [e1]
      have bS := fun q => ((sy_bd (n := ns.length) bc (bR i) (ns.length - 1 - q)).mono (show _ ≤ 10000 by omega))
      generalize rnds c (fun k => ns.getD k 0) ns.length i = R at hw2 bS ⊢
      have g1 : atI (rowF ns.length fun q => if q + j + 1 < ns.length then R q else sy c R ns.length (ns.length - 1 - q)) ((ns.length - 2 - j : Nat) : Int) = some (V.int (R (ns.length - 2 - j))) := by
        rw [atI_nat (rowF_get _ (by omega)), if_pos (by omega)]
      have g2 : atI (rowF ns.length fun q => if q + j + 1 < ns.length then R q else sy c R ns.length (ns.length - 1 - q)) (((ns.length - 2 - j : Nat) : Int) + 1) = some (V.int (sy c R ns.length (ns.length - 1 - (ns.length - 2 - j + 1)))) := by
        rw [atI_of (j := ns.length - 2 - j + 1) (by omega) (rowF_get _ (by omega)), if_neg (by omega)]
      rwa [hw2, g1, g2]
      refine ⟨mul4 bc (bS _), ns.length - 2 - j, ?_, fun b o h => Kp.upd b o (ne_of_none h hw) (s2 b o h), ?_⟩
      · rw [rowF_len]; exact ixN_of rfl (by omega)
      · refine rowF_set (by omega) ?_ fun q hq hne => ?_
        · rw [if_neg (by omega)]
          exact sy_step (by omega)
        · by_cases h : q + j + 1 < ns.length
          · rw [if_pos h, if_pos (by omega)]
          · rw [if_neg h, if_neg (by omega)]
    · rintro σ H2 ⟨y, rfl, s2, hw2⟩
      refine ⟨_, _, rfl, s2, ?_⟩
      rw [hw2]
      refine congrArg (fun l => some (HO.lst l)) (rowF_congr fun q hq => ?_)
      show rnd c (rnds c (fun k => ns.getD k 0) ns.length i) ns.length i q = _
      unfold rnd
      by_cases h : q < i
      · rw [if_pos h, if_pos (by omega)]
      · rw [if_neg h, if_neg (by omega)]
  · rintro σ H1 ⟨x3, x4, rfl, s1, hw1⟩
    rwa []
    have en : ((ns.length : Int) - 1).toNat = ns.length - 1 := by omega
    rw [en] at hw1
    exact k w H1 s1 hw1
theorem evF_step (f : Nat → Rat) (n : Nat) (x : Rat) (d : Nat) : evF f n x (d + 1) = f (n - 1 - d) + x * evF f n x d := rfl
theorem low_dvd {q : Nu} {n N : Int} (h : Low q.1 q.2) (hN : N ≠ 0) (e : val q = (n : Rat) / (N : Rat)) : q.2 ∣ N := by
  have a := castNe (Int.ne_of_gt h.pos)
  have b := castNe hN
  unfold val at e
  have z : (q.1 : Rat) * N = n * q.2 := by grind
  have z' : q.1 * N = n * q.2 := by exact_mod_cast z
  exact dvd_of_low h ⟨n, by rw [z', Int.mul_comm]⟩
theorem nadd_dvd {q r : Nu} {N : Int} (h1 : 0 < q.2) (h2 : 0 < r.2) (hN : 0 < N) (d1 : q.2 ∣ N) (d2 : r.2 ∣ N) : (nadd q r).2 ∣ N := by
  obtain ⟨y, hy⟩ := d1
  obtain ⟨z, hz⟩ := d2
  refine low_dvd (n := q.1 * y + r.1 * z) (nadd_low h1 h2) (Int.ne_of_gt hN) ?_
  rw [val_nadd h1 h2]
  have a := castNe (Int.ne_of_gt h1)
  have b := castNe (Int.ne_of_gt h2)
  have c := castNe (Int.ne_of_gt hN)
  have hy' : (N : Rat) = q.2 * y := by exact_mod_cast hy
  have hz' : (N : Rat) = r.2 * z := by exact_mod_cast hz
  unfold val
  push_cast
  grind
theorem nmul_dvd {q r : Nu} : (nmul q r).2 ∣ q.2 * r.2 := by unfold nmul; exact red_dvd
theorem vc_l_at {K : PySem.W.Frag} {vs : List V} {H : Hp} {Q : VK} {E : XK} (h : sp_l_at K vs H Q E) : T_l_at K { nx := fun _ H' => Q .non H', rt := Q } (L2.start ["_law_kp", "_law_c", "_law_worth", "_law_high", "_law_one"] vs) H := by
  obtain ⟨p, q, xs, l, a, b, M, rfl, hp, hq, hN, hl, hO, bM, bl, lo, ba, bb, l9, k⟩ := h
  unfold T_l_at
  unfold Nm at hq
  rwa []
  have lx := hN.length
  refine ⟨sz (by decide), fun e1 he1 => ⟨sz (by simp), fun e2 he2 => ?_⟩⟩
  have se1 := same_new he1 (HO.tup [V.int 0, V.int 1])
  have se2 := same_new he2 (HO.tup [V.int 1, V.int 1])
  have u := se1.trans se2
  refine ⟨⟨_, SqT.of (u _ _ hp)⟩, ForT.by (xs := xs) (fun i σ H' => ∃ (r2 r3 : Addr) (x4 : Option V) (w z : Nu), σ = [some (.ref p), some (.ref q), some (.ref r2), some (.ref r3), x4] ∧ Same H H' ∧ isN H' (.ref r2) w ∧ isN H' (.ref r3) z ∧ Low w.1 w.2 ∧ Low z.1 z.2 ∧ z.2 ∣ b ^ i ∧ w.2 ∣ M * b ^ i ∧ Bd (1 + 200 * i) z.1 ∧ Bd (30000 + 5000 * i) w.1 ∧ evF (pwo l) l.length (val (a, b)) l.length = val w + val z * evF (pwo l) l.length (val (a, b)) (l.length - i))
    ⟨e1, e2, none, (0, 1), (1, 1), rfl, u, ⟨e1, rfl, se2 _ _ upd_same⟩, ⟨e2, rfl, upd_same⟩, low01, ⟨by decide, by decide⟩, Int.one_dvd _, Int.one_dvd _, Bd.one.mono (by omega), bd_zero _, ?_⟩ ?_ ?_ ?_⟩
  · have v0 : val (0, 1) = 0 := zdiv _
    have v1 : val (1, 1) = 1 := by unfold val; show ((1 : Int) : Rat) / ((1 : Int) : Rat) = 1; grind
    rw [v0, v1, Nat.sub_zero]
    grind
  · rintro i σ H' _ ⟨_, _, _, _, _, _, s1, _⟩
    exact s1 _ _ hp
  · rintro i x σ H1 hi ⟨r2, r3, x4, w, z, rfl, s1, ⟨_, e2', hw⟩, ⟨_, e3', hz⟩, lw, lz, dz, dw, bz, bw, id⟩
    obtain rfl : r2 = _ := by injection e2'
    obtain rfl : r3 = _ := by injection e3'
    have hi2 : i < xs.length := (List.getElem?_eq_some_iff.mp hi).1
    obtain ⟨o, ho, p1, rfl, hp1⟩ := hN.get hi
    have hp1' := s1 _ _ hp1
    have hq1 := s1 _ _ hq
    have lo1 := hl o (List.mem_of_getElem? ho)
    have od := hO.2 o (List.mem_of_getElem? ho)
    have ob := bl o (List.mem_of_getElem? ho)
    have b0 : 0 < b := lo.pos
    have bi0 : 0 < b ^ i := Int.pow_pos b0
    have bpow : ∀ j, Bd (200 * j + 1) (b ^ j) := fun j => bb.pow j
    have zb2 : Bd 1801 z.2 := (dvd_bd (Int.ne_of_gt bi0) dz (bpow i)).mono (by omega)
    have wb2 : Bd 3400 w.2 := (dvd_bd (Int.ne_of_gt (Int.mul_pos hO.1 bi0)) dw (bM.mul (bpow i))).mono (by omega)
    have ob2 : Bd 1500 o.2 := dvd_bd (Int.ne_of_gt hO.1) od bM
    rwa [hp1', hz]
    refine ⟨lo1.pos, lz.pos, ob.mono (by decide), ob2.mono (by decide), bz.mono (by omega), zb2.mono (by decide), fun r5 hr5 => ?_⟩
    have s5 := same_new hr5 (HO.tup [V.int (nmul (o.1, o.2) (z.1, z.2)).1, V.int (nmul (o.1, o.2) (z.1, z.2)).2])
    have pl := nmul_low lo1.pos lz.pos
    have pbd := red_bd (Int.mul_pos lo1.pos lz.pos) (ob.mul (bz.mono (show _ ≤ 1801 by omega))) (ob2.mul zb2)
    have hw5 := s5 _ _ hw
    have hz5 := s5 _ _ hz
    have hq5 := s5 _ _ hq1
    rwa [hw5]
    refine ⟨lw.pos, pl.pos, bw.mono (by omega), wb2.mono (by decide), pbd.1.mono (by decide), pbd.2.mono (by decide), fun r6 hr6 => ?_⟩
    have s6 := same_new hr6 (HO.tup [V.int (nadd (w.1, w.2) (nmul (o.1, o.2) (z.1, z.2))).1, V.int (nadd (w.1, w.2) (nmul (o.1, o.2) (z.1, z.2))).2])
    have hz6 := s6 _ _ hz5
    have hq6 := s6 _ _ hq5
    rwa [hz6, hq6]
    refine ⟨lz.pos, b0, bz.mono (by omega), zb2.mono (by decide), ba.mono (by decide), bb.mono (by decide), fun r7 hr7 => ?_⟩
    have s7 := same_new hr7 (HO.tup [V.int (nmul (z.1, z.2) (a, b)).1, V.int (nmul (z.1, z.2) (a, b)).2])
    have N0 := Int.mul_pos hO.1 (show 0 < b ^ (i + 1) from Int.pow_pos b0)
    have up : b ^ i ∣ b ^ (i + 1) := by rw [Int.pow_succ]; exact Int.dvd_mul_right ..
    refine ⟨((s1.trans s5).trans s6).trans s7, nadd w (nmul o z), ⟨r6, rfl, s7 _ _ upd_same⟩, nmul z (a, b), ⟨r7, rfl, upd_same⟩, nadd_low lw.pos pl.pos, nmul_low lz.pos b0, ?_, ?_, ?_, ?_, ?_⟩
    · rw [Int.pow_succ]
      exact Int.dvd_trans nmul_dvd (Int.mul_dvd_mul dz (Int.dvd_refl b))
    · refine nadd_dvd lw.pos pl.pos N0 (Int.dvd_trans dw (Int.mul_dvd_mul (Int.dvd_refl M) up)) (Int.dvd_trans nmul_dvd (Int.mul_dvd_mul od (Int.dvd_trans dz up)))
    · exact (red_bd (Int.mul_pos lz.pos b0) (bz.mul ba) (zb2.mul bb)).1.mono (by omega)
    · have t1 := (bw.mul (pbd.2.mono (show _ ≤ 3400 by decide))).mono (show _ ≤ 33400 + 5000 * i by omega)
      have t2 := (pbd.1.mul wb2).mono (show _ ≤ 33400 + 5000 * i by omega)
      exact (red_bd (Int.mul_pos lw.pos pl.pos) (t1.add t2) (wb2.mul pbd.2)).1.mono (by omega)
    · have e1 : l.length - i = (l.length - (i + 1)) + 1 := by omega
      have e2 : getN l i = o := by unfold getN; rw [List.getD_eq_getElem?_getD, ho]; rfl
      have e3 : pwo l (l.length - 1 - (l.length - (i + 1))) = val o := by rw [show l.length - 1 - (l.length - (i + 1)) = i by omega]; unfold pwo; rw [e2]
      rw [id, e1, evF_step, e3, val_nadd lw.pos pl.pos, val_nmul lo1.pos lz.pos, val_nmul lz.pos b0]
      grind
  · rintro σ H1 ⟨r2, r3, x4, w, z, rfl, s1, hw, hz, lw, lz, dz, dw, bz, bw, id⟩
    rwa []
    rw [lx, Nat.sub_self] at id
    refine k r2 H1 w s1 hw lw ?_
    rw [id]
    show val w = val w + val z * 0
    grind
theorem vc_p_at {K : PySem.W.Frag} {vs : List V} {H : Hp} {Q : VK} {E : XK} (h : sp_p_at K vs H Q E) : T_p_at K { nx := fun _ H' => Q .non H', rt := Q } (L2.start ["P", "c", "row", "value", "scale", "whole"] vs) H := by
  obtain ⟨p, q, xs, l, a, b, rfl, hp, hq, hN, hl, bl, lo, ba, bb, l9, k⟩ := h
  have OL := clrB_ov hl
  have bL : Bd 361 (clrB l) := (clrB_ok hl bl).2.2.mono (by omega)
  have cll : (clrN l).length = l.length := by unfold clrN; rw [List.length_map]
  have b0 : 0 < b := lo.pos
  unfold T_p_at
  unfold Nm at hq
  rwa [hp]
  refine ⟨l, hN, hl, clrB l, OL, bL.mono (by decide), fun q hq => (bl q hq).1.mono (by decide), by omega, fun r c H1 s1 hr hc => ?_⟩
  have hq1 := s1 _ _ hq
  rwa [hr]
  refine ⟨_, SqL.of hc, ForJ.rev (fun i σ H' => ∃ (v : Int) (x5 : Option V), σ = [some (.ref p), some (.ref q), some (.ref r), some (.int v), some (.int (b ^ i)), x5] ∧ H' = H1 ∧ Bd (5000 + 5000 * i) v ∧ (v : Rat) * b = ((b ^ i : Int) : Rat) * evF (fun j => ((clrN l).getD j 0 : Rat)) l.length (val (a, b)) i) ⟨0, none, by rw [Int.pow_zero], rfl, bd_zero _, ?_⟩ ?_ ?_ ?_⟩
  · show ((0 : Int) : Rat) * b = _ * 0
    push_cast
    grind
  · rintro i σ H' _ ⟨_, _, _, rfl, _⟩
    exact SqL.of hc
  · rintro i x σ H' hi hx ⟨v, y, rfl, rfl, bv, id⟩
    rw [List.length_map, cll] at hi hx
    rw [List.getElem?_map, List.getElem?_eq_getElem (by omega)] at hx
    have ew : (clrN l).getD (l.length - 1 - i) 0 = (clrN l)[l.length - 1 - i]'(by omega) := by rw [List.getD_eq_getElem?_getD, List.getElem?_eq_getElem (by omega)]; rfl
    obtain rfl : V.int _ = x := Option.some.inj hx
    rw [← ew]
    have bw : Bd 401 ((clrN l).getD (l.length - 1 - i) 0) := (getD_bd (clrN_bd hl bl) _).mono (by omega)
    have bp : Bd 361 (b ^ i) := (bb.pow i).mono (by omega)
    rwa [hq1]
    refine ⟨mul4 (bv.mono (show _ ≤ 60000 by omega)) ba, mul4 bw bp, mul4 bp bb, ?_⟩
    refine ⟨by rw [Int.pow_succ], ?_, ?_⟩
    · exact (((bv.mul ba).mono (show _ ≤ 5100 + 5000 * i by omega)).add ((bw.mul bp).mono (by omega))).mono (by omega)
    · rw [evF_step]
      have hb := castNe (Int.ne_of_gt b0)
      have hv : val (a, b) = (a : Rat) / b := rfl
      rw [Int.pow_succ]
      push_cast at id ⊢
      grind
  · rintro σ H' ⟨v, y, rfl, rfl, bv, id⟩
    rw [List.length_map, cll] at *
    have bp : Bd 361 (b ^ l.length) := (bb.pow l.length).mono (by omega)
    have bpos : 0 < b ^ l.length := Int.pow_pos b0
    have B0 := Int.mul_pos OL.1 bpos
    rwa [hq1, hr]
    refine ⟨mul4 (bv.mono (show _ ≤ 60000 by omega)) bb, mul4 bL bp, Int.ne_of_gt B0, (bL.mul bp).mono (by decide), fun t ht => ?_⟩
    refine k t _ (redG (v * b) (clrB l * b ^ l.length)) (s1.trans (same_new ht _)) isN_new (redG_low (Int.ne_of_gt B0)) ((redG_bd (Int.ne_of_gt B0) (Nat.lt_two_pow_self : Bd _ (v * b)) (bL.mul bp)).2.mono (by decide)) ?_
    rw [val_redG (Int.ne_of_gt B0)]
    have e : evF (pwo l) l.length (val (a, b)) l.length = evF (fun j => ((clrN l).getD j 0 : Rat)) l.length (val (a, b)) l.length / (clrB l : Rat) := by
      rw [← evF_over]
      exact evF_congr _ (Nat.le_refl _) fun i _ _ => pv_ov hl OL i
    rw [e]
    have h1 := castNe (Int.ne_of_gt OL.1)
    have h2 := castNe (Int.ne_of_gt bpos)
    push_cast at *
    grind
theorem cutV_from (xs : List V) (j : Nat) : cutV xs (some (j : Int)) none = xs.drop j := by
  unfold cutV HT.sIx
  simp only [Int.toNat_natCast]
  rw [if_neg (by omega)]
  by_cases h : j ≤ xs.length
  · rw [Nat.min_eq_left h, List.take_of_length_le (by rw [List.length_drop]; omega)]
  · rw [Nat.min_eq_right (by omega), List.drop_length, List.take_nil, List.drop_eq_nil_of_le (by omega)]
theorem one_val (k : Nat) : pwo [(1, 1)] k = ((one1 k : Int) : Rat) := by
  cases k with
  | zero => unfold pwo getN; show ((1 : Int) : Rat) / ((1 : Int) : Rat) = ((1 : Int) : Rat); grind
  | succ k => rw [pv_end (by simp)]; rfl
theorem lead_neW {l : List Nu} (hl : AllLow l) (nl : Nz l) (h : 1 ≤ l.length) : (clrN l).getD (l.length - 1) 0 ≠ 0 := lead_ne hl nl h
theorem split0 {w : List Int} {m : Nat} (hm : m ≤ w.length) (h : ∀ j, j < m → w.getD j 0 = 0) : List.replicate m 0 ++ w.drop m = w := by
  apply List.ext_getElem?
  intro i
  by_cases hi : i < m
  · rw [List.getElem?_append_left (by rw [List.length_replicate]; exact hi), List.getElem?_replicate, if_pos hi]
    have z := h i hi
    rw [List.getD_eq_getElem?_getD, List.getElem?_eq_getElem (by omega)] at z
    rw [List.getElem?_eq_getElem (by omega)]
    exact congrArg some z.symm
  · rw [List.getElem?_append_right (by rw [List.length_replicate]; omega), List.length_replicate, List.getElem?_drop, show m + (i - m) = i by omega]
theorem pw_b {l : List Nu} {n : Nat} (hl : AllLow l) (bl : AllBd 40 l) (ok : PwOk l n) : ∃ b, (∀ z ∈ clrN l, Bd b z) ∧ (b + l.length) * n + 1 ≤ 8000 ∧ b ≤ 300 ∧ n ≤ 40 ∧ l.length ≤ 4 ∧ ∃ c, Bd c (clrB l) ∧ c * n + 1 ≤ 3400 ∧ c ≤ 161 := by
  rcases ok with ⟨h1, h2⟩ | ⟨h1, h2⟩
  · refine ⟨201, fun z hz => (clrN_bd hl bl z hz).mono (by omega), ?_, by decide, by omega, by omega, 161, (clrB_ok hl bl).2.2.mono (by omega), ?_, by decide⟩
    · have := Nat.mul_le_mul (show 201 + l.length ≤ 205 by omega) h2
      omega
    · omega
  · refine ⟨121, fun z hz => (clrN_bd hl bl z hz).mono (by omega), ?_, by decide, by omega, by omega, 81, (clrB_ok hl bl).2.2.mono (by omega), ?_, by decide⟩
    · have := Nat.mul_le_mul (show 121 + l.length ≤ 123 by omega) h2
      omega
    · omega
theorem vc_p_power {K : PySem.W.Frag} {vs : List V} {H : Hp} {Q : VK} {E : XK} (h : sp_p_power K vs H Q E) : T_p_power K { nx := fun _ H' => Q .non H', rt := Q } (L2.start ["P", "n", "row", "low"] vs) H := by
  obtain ⟨p, xs, l, n, rfl, hp, hN, hl, nl, bl, ok, k⟩ := h
  obtain ⟨b, bw, hb, b3, n40, l4, c, bc, hc, c3⟩ := pw_b hl bl ok
  have OL := clrB_ov hl
  have lx := hN.length
  have cll : (clrN l).length = l.length := by unfold clrN; rw [List.length_map]
  unfold T_p_power
  rwa []
  refine ite2 (fun n0 => ?_) (fun n0 => ?_)
  · have n0' : n = 0 := by omega
    subst n0'
    refine ⟨sz (by decide), fun e1 he1 => ⟨sz (by simp), fun e2 he2 => ?_⟩⟩
    have s1 := same_new he1 (HO.tup [V.int 1, V.int 1])
    have s2 := same_new he2 (HO.tup [V.ref e1])
    refine k e2 _ [(1, 1)] (s1.trans s2) ⟨_, upd_same, ⟨e1, rfl, s2 _ _ upd_same⟩, trivial⟩ ?_ ?_ fun k => ?_
    · intro q hq; rw [List.mem_singleton.mp hq]; exact ⟨by decide, by decide⟩
    · intro q hq; obtain rfl := Option.some.inj hq; decide
    · rw [one_val, Int.pow_zero]
      show ((one1 k : Int) : Rat) = ((one1 k : Int) : Rat) / ((1 : Int) : Rat)
      push_cast
      grind
  unfold T_p_power_1
  rwa [hp]
  refine ⟨l, hN, hl, clrB l, OL, bc.mono (by omega), fun q hq => (bl q hq).1.mono (by decide), by omega, fun r a H1 s1 hr ha => ?_⟩
  have hp1 := s1 _ _ hp
  unfold T_p_power_2 T_p_power_3
  rwa []
  have fin : ∀ m : Nat, m ≤ l.length → (∀ j, j < m → (clrN l).getD j 0 = 0) → (m < l.length → (clrN l).getD m 0 ≠ 0) → T_p_power_4 K { nx := fun _ H' => Q .non H', rt := Q } [some (.ref p), some (.int (n : Int)), some (.ref r), some (.int (m : Int))] H1 := by
    intro m hm hz hne
    unfold T_p_power_4
    rwa [hp1]
    refine ite2 (fun cc => ?_) (fun cc => ?_)
    · have l0 : l = [] := by
        rcases Nat.eq_zero_or_pos l.length with h | h
        · exact List.length_eq_zero_iff.mp h
        · exact absurd (hz (l.length - 1) (by omega)) (lead_neW hl nl h)
      subst l0
      refine ⟨sz (by decide), fun e he => k e _ [] (s1.trans (same_new he _)) ⟨[], upd_same, trivial⟩ (fun _ h => nomatch h) (fun _ h => nomatch h) fun kk => ?_⟩
      obtain ⟨n', rfl⟩ : ∃ n', n = n' + 1 := ⟨n - 1, by omega⟩
      show (pwo [] kk : Rat) = ((powL [] (n' + 1) kk : Int) : Rat) / _
      rw [pow_none, pv_end (by simp)]
      exact (zdiv _).symm
    · have hml : m < l.length := by omega
      have hne := hne hml
      unfold T_p_power_5
      have mn : m * n ≤ 160 := Nat.le_trans (Nat.mul_le_mul (show m ≤ 4 by omega) n40) (by decide)
      have emn : (m : Int) * (n : Int) = ((m * n : Nat) : Int) := by push_cast; rfl
      rwa []
      refine ⟨sz (by decide), fun e1 he1 => ⟨mul4 (bd64 (x := (m : Int)) (by omega) (by omega)) (bd64 (x := (n : Int)) (by omega) (by omega)), ?_⟩⟩
      have se1 := same_new he1 (HO.lst [V.int 0])
      rw [emn]
      refine ⟨by omega, by omega, sz (by omega), fun e2 he2 => ?_⟩
      rw [Int.toNat_natCast, flat_rep]
      have se2 := same_new he2 (HO.lst (List.replicate (m * n) (V.int 0)))
      have u2 := se1.trans se2
      have hr2 := u2 _ _ hr
      have ha2 := u2 _ _ ha
      rwa [hr2, ha2]
      rw [cutV_from, ← List.map_drop]
      intro e3 he3
      have se3 := same_new he3 (HO.lst (((clrN l).drop m).map V.int))
      have dl : ((clrN l).drop m).length = l.length - m := by rw [List.length_drop, cll]
      have d0 : ((clrN l).drop m).getD 0 0 = (clrN l).getD m 0 := by rw [List.getD_eq_getElem?_getD, List.getD_eq_getElem?_getD, List.getElem?_drop, Nat.add_zero]
      refine ⟨(clrN l).drop m, n, rfl, rfl, by omega, by rw [d0]; exact hne, b, fun z hz => bw z (List.mem_of_mem_drop hz), ?_, b3, by omega, by omega, fun e4 H4 s4 h4 => ?_⟩
      · have := Nat.mul_le_mul_right n (show b + ((clrN l).drop m).length ≤ b + l.length by omega)
        omega
      have u4 := se3.trans s4
      have h22 : upd (upd H1 e1 (HO.lst [V.int 0])) e2 (HO.lst (List.replicate (m * n) (V.int 0))) e2 = some (HO.lst (List.replicate (m * n) (V.int 0))) := upd_same
      have h24 := u4 _ _ h22
      rwa [h24, h4]
      have hr4 := u4 _ _ hr2
      have nl : n * (((clrN l).drop m).length - 1) ≤ 160 := Nat.le_trans (Nat.mul_le_mul n40 (show _ ≤ 4 by omega)) (by decide)
      refine ⟨sz (by rw [List.length_replicate, List.length_map, List.length_map, List.length_range]; omega), fun e5 he5 => ?_⟩
      have se5 := same_new he5 (HO.lst (List.replicate (m * n) (V.int 0) ++ ((List.range (n * (((clrN l).drop m).length - 1) + 1)).map (powL ((clrN l).drop m) n)).map V.int))
      have Bn : 0 < clrB l ^ n := Int.pow_pos OL.1
      have bBn : Bd 3400 (clrB l ^ n) := (bc.pow n).mono hc
      refine ⟨_, se5 _ _ hr4, _, rfl, clrB l, rfl, by omega, c, bc, by rw [Int.toNat_natCast]; omega, List.replicate (m * n) 0 ++ (List.range (n * (((clrN l).drop m).length - 1) + 1)).map (powL ((clrN l).drop m) n), ?_, ?_, ?_, ?_, ?_⟩
      · rw [List.map_append, List.map_replicate]
      · rw [Int.toNat_natCast]; exact Int.ne_of_gt Bn
      · rw [Int.toNat_natCast]; exact bBn.mono (by decide)
      · rw [List.length_append, List.length_replicate, List.length_map, List.length_range]; omega
      rw [Int.toNat_natCast]
      intro t zs H6 s6 h6 n6
      have rlow : AllLow ((List.replicate (m * n) 0 ++ (List.range (n * (((clrN l).drop m).length - 1) + 1)).map (powL ((clrN l).drop m) n)).map fun z => redG z (clrB l ^ n)) := fun q hq => by obtain ⟨z, _, rfl⟩ := List.mem_map.mp hq; exact redG_low (Int.ne_of_gt Bn)
      refine k t H6 _ ((((s1.trans u2).trans u4).trans se5).trans s6) ⟨zs, h6, n6⟩ (fun q hq => rlow q (trim_mem hq)) (trim_nz _) fun kk => ?_
      rw [pv_trim rlow]
      have e1 : ∀ ns : List Int, pwo (ns.map fun z => redG z (clrB l ^ n)) kk = (ns.getD kk 0 : Rat) / ((clrB l ^ n : Int) : Rat) := fun ns => by
        unfold pwo getN
        rw [List.getD_eq_getElem?_getD, List.getD_eq_getElem?_getD, List.getElem?_map]
        cases ns[kk]? with
        | none => exact (zdiv _).trans (zdiv _).symm
        | some z => exact val_redG (Int.ne_of_gt Bn)
      rw [e1]
      have e2 : (List.replicate (m * n) 0 ++ (List.range (n * (((clrN l).drop m).length - 1) + 1)).map (powL ((clrN l).drop m) n)).getD kk 0 = powL (clrN l) n kk := by
        have w : powL (clrN l) n kk = powL (List.replicate m 0 ++ (clrN l).drop m) n kk := by rw [split0 (by omega) hz]
        rw [w, pow_rep]
        unfold upn
        rw [List.getD_eq_getElem?_getD]
        by_cases h1 : kk < m * n
        · rw [if_pos h1, List.getElem?_append_left (by rw [List.length_replicate]; exact h1), List.getElem?_replicate, if_pos h1]; rfl
        · rw [if_neg h1, List.getElem?_append_right (by rw [List.length_replicate]; omega), List.length_replicate, List.getElem?_map]
          by_cases h2 : kk - m * n < n * (((clrN l).drop m).length - 1) + 1
          · rw [List.getElem?_range h2]; rfl
          · rw [List.getElem?_eq_none (by rw [List.length_range]; omega), pow_high (by omega) n _ (by omega)]; rfl
      rw [e2]
  refine while_by (fun d σ H' => ∃ m : Nat, σ = [some (.ref p), some (.int (n : Int)), some (.ref r), some (.int (m : Int))] ∧ H' = H1 ∧ m ≤ l.length ∧ (∀ j, j < m → (clrN l).getD j 0 = 0) ∧ d = l.length - m) l.length ⟨0, rfl, rfl, Nat.zero_le _, fun j hj => absurd hj (by omega), rfl⟩ ?_
  rintro d σ H' ⟨m, rfl, rfl, hm, hz, rfl⟩
  rwa [hp1, hr, ha]
  refine ite2 (fun c1 => ?_) (fun c1 => ?_)
  · have hv : atI ((clrN l).map V.int) (m : Int) = some (V.int ((clrN l).getD m 0)) := atI_nat (by rw [List.getElem?_map, List.getD_eq_getElem?_getD, List.getElem?_eq_getElem (by omega)]; rfl)
    rwa [hv]
    refine ite2 (fun c2 => ?_) (fun c2 => ?_)
    · refine ⟨_, fun _ _ h => h, l.length - (m + 1), by omega, m + 1, ?_, rfl, by omega, fun j hj => ?_, rfl⟩
      · push_cast; rfl
      · by_cases e : j = m
        · rw [e]; exact c2
        · exact hz j (by omega)
    · exact fin m hm hz fun _ => c2
  · exact fin m hm hz fun h => absurd h (by omega)
theorem vc_l_power_right {K : PySem.W.Frag} {vs : List V} {H : Hp} {Q : VK} {E : XK} (h : sp_l_power_right K vs H Q E) : T_l_power_right K { nx := fun _ H' => Q .non H', rt := Q } (L2.start ["_law_kp", "_law_n", "_law_due", "_law_turn"] vs) H := by
  obtain ⟨p, xs, l, n, rfl, hp, hN, hl, nl, bl, ok, k⟩ := h
  obtain ⟨b, bw, hb, b3, n40, l4, c, bc, hc, c3⟩ := pw_b hl bl ok
  have OL := clrB_ov hl
  have lx := hN.length
  unfold T_l_power_right
  rwa []
  refine ⟨sz (by decide), fun e1 he1 => ⟨sz (by simp), fun e2 he2 => ?_⟩⟩
  have s1 := same_new he1 (HO.tup [V.int 1, V.int 1])
  have s2 := same_new he2 (HO.tup [V.ref e1])
  refine ⟨by omega, by omega, ?_⟩
  rw [Int.toNat_natCast]
  refine ForR.by (fun i σ H' => ∃ (r : Addr) (x3 : Option V) (D : List Nu), σ = [some (.ref p), some (.int (n : Int)), some (.ref r), x3] ∧ Same H H' ∧ Pl H' r D ∧ AllLow D ∧ Nz D ∧ D.length ≤ 1 + i * l.length ∧ ∀ k, pwo D k = ((powL (clrN l) i k : Int) : Rat) / ((clrB l ^ i : Int) : Rat))
    ⟨e2, none, [(1, 1)], rfl, s1.trans s2, ⟨_, upd_same, ⟨e1, rfl, s2 _ _ upd_same⟩, trivial⟩, ?_, ?_, by simp, fun k => ?_⟩ ?_ ?_
  · intro q hq; rw [List.mem_singleton.mp hq]; exact ⟨by decide, by decide⟩
  · intro q hq; obtain rfl := Option.some.inj hq; decide
  · rw [one_val, Int.pow_zero]
    show ((one1 k : Int) : Rat) = ((one1 k : Int) : Rat) / ((1 : Int) : Rat)
    push_cast
    grind
  · rintro i σ H1 hi ⟨r, x3, D, rfl, s3, ⟨zs, hr, nr⟩, lD, nD, dl, id⟩
    have hp1 := s3 _ _ hp
    have Bi : 0 < clrB l ^ i := Int.pow_pos OL.1
    have ci : c * i ≤ c * n := Nat.mul_le_mul_left c (by omega)
    have bBi : Bd (c * i + 1) (clrB l ^ i) := bc.pow i
    have il : i * l.length ≤ 40 * 4 := Nat.mul_le_mul (by omega) l4
    have il2 : i * l.length ≤ 90 := by
      rcases ok with ⟨h1, h2⟩ | ⟨h1, h2⟩
      · exact Nat.le_trans (Nat.mul_le_mul (show i ≤ 6 by omega) h1) (by decide)
      · exact Nat.le_trans (Nat.mul_le_mul (show i ≤ 40 by omega) h1) (by decide)
    have inD : ∀ q ∈ D, q.2 ∣ clrB l ^ i ∧ Bd 8000 q.1 := fun q hq => by
      obtain ⟨j, hj, e⟩ := List.getElem_of_mem hq
      have e2 : getN D j = q := by unfold getN; rw [List.getD_eq_getElem?_getD, List.getElem?_eq_getElem hj, e]; rfl
      have e3 := id j
      unfold pwo at e3
      rw [e2] at e3
      have lq := lD q hq
      refine ⟨low_dvd lq (Int.ne_of_gt Bi) e3, ?_⟩
      have eq : q = red (powL (clrN l) i j) (clrB l ^ i) := val_inj lq (red_low Bi) (by rw [e3, val_red Bi])
      rw [eq]
      have pb : Bd 8000 (powL (clrN l) i j) := (pow_bd bw i j).mono (by
        have cl : (clrN l).length = l.length := by unfold clrN; rw [List.length_map]
        have := Nat.mul_le_mul_left (b + l.length) (show i ≤ n by omega)
        rw [cl]; omega)
      exact (red_bd Bi pb bBi).1
    have oD : Ov D (clrB l ^ i) := ⟨Bi, fun q hq => (inD q hq).1⟩
    rwa [hr, hp1]
    refine ⟨D, nr, l, hN.tp (tpS s3), lD, hl, clrB l ^ i, oD, clrB l, OL, (bBi.mul bc).mono (by omega), fun q hq => (inD q hq).2.mono (by decide), fun q hq => (bl q hq).1.mono (by decide), by omega, by omega, fun t ws H2 s4 ht nt => ?_⟩
    have gl : AllLow (mulG D l (clrB l ^ i) (clrB l) (D.length + l.length)) := mulG_low oD OL
    refine ⟨t, rfl, s3.trans s4, _, ⟨ws, ht, nt⟩, fun q hq => gl q (trim_mem hq), trim_nz _, ?_, fun kk => ?_⟩
    · have t1 := trim_len (mulG D l (clrB l ^ i) (clrB l) (D.length + l.length))
      have e : (mulG D l (clrB l ^ i) (clrB l) (D.length + l.length)).length = D.length + l.length := by unfold mulG; rw [List.length_map, List.length_range]
      rw [Nat.add_mul]
      omega
    · rw [pv_trim gl, pv_mul lD hl oD OL]
      exact due_step hl id kk
  · rintro σ H1 ⟨r, x3, D, rfl, s3, ⟨zs, hr, nr⟩, lD, nD, dl, id⟩
    have hp1 := s3 _ _ hp
    rwa [hp1]
    refine ⟨xs, l, n, rfl, rfl, hN.tp (tpS s3), hl, nl, bl, ok, fun t H2 L s4 PL lL nL idL => ?_⟩
    have e : L = D := eq_of_pv lL lD nL nD fun kk => by rw [idL, id]
    subst e
    exact ⟨_, _, true, PL.rep, repP (s4 _ _ hr) (nr.tp (tpS s4)), okP _ 6, okP _ 6, by simp, k _ (s3.trans s4)⟩
theorem CompJ.enumL {K : PySem.W.Frag} {capt : List (Option Nat)} {g : TG} {te : TE} {σ : L2.St} {H : Hp} {Q : VK} {a : Addr} {xs : List V} (W : Nat → List V → Hp → Prop) (h0 : W 0 [] H) (hb : ∀ i ys H, W i ys H → i ≤ xs.length ∧ ys.length ≤ sizeLine ∧ SqL K H a xs)
    (hs : ∀ i x p ys H, xs[i]? = some x → W i ys H → H p = none → g (.ref p) (blkSt capt σ) (upd H p (.tup [.int i, x])) fun σ2 H2 => te σ2 H2 fun y H3 => W (i + 1) (ys ++ [y]) H3) (hd : ∀ ys H, W xs.length ys H → ∀ p, H p = none → Q (.ref p) (upd H p (.lst ys))) : CompJ (IteL K a) capt g te σ Q H := by
  refine ⟨xs.length, W, h0, fun i ys H w => ⟨(hb i ys H w).1, (hb i ys H w).2.1, ?_⟩⟩
  have q : SqL K H a xs := (hb i ys H w).2.2
  by_cases h : i < xs.length
  · refine .inr ⟨h, ⟨xs, xs[i], q, by simp [h]⟩, fun x H' y => ?_⟩
    obtain ⟨p, x', hp, rfl, rfl, y⟩ := y
    exact hs i x' p ys _ (y xs q) w hp
  · have e : i = xs.length := Nat.le_antisymm (hb i ys H w).1 (Nat.not_lt.mp h)
    subst e
    exact .inl ⟨⟨xs, q, Nat.le_refl _⟩, hd ys H w⟩
theorem rowF_at {n k : Nat} {f : Nat → Int} {v : V} (h : (rowF n f)[k]? = some v) : k < n ∧ v = .int (f k) := by
  have hk : k < n := by have := (List.getElem?_eq_some_iff.mp h).1; rw [rowF_len] at this; exact this
  rw [rowF_get f hk] at h
  exact ⟨hk, (Option.some.inj h).symm⟩
theorem moved_id {l : List Nu} {a b : Int} {mv R : Nat → Int} (hl : AllLow l) (b0 : 0 < b) (hR : ∀ k, k < l.length → R k = (clrN l).getD k 0 * b ^ (l.length - 1 - k)) (hmv : mv = rnds a R l.length (l.length - 1)) (x : Rat) :
    evF (fun k => ((mv k * b ^ k : Int) : Rat) / ((clrB l * b ^ (l.length - 1) : Int) : Rat)) l.length x l.length = evF (pwo l) l.length (x + val (a, b)) l.length := by
  rcases Nat.eq_zero_or_pos l.length with h | h
  · rw [h]; rfl
  have OL := clrB_ov hl
  have hB := castNe (Int.ne_of_gt OL.1)
  have hb := castNe (Int.ne_of_gt b0)
  have e0 : evF (pwo l) l.length (x + val (a, b)) l.length = evF (fun j => ((clrN l).getD j 0 : Rat)) l.length (x + val (a, b)) l.length / (clrB l : Rat) := by
    rw [← evF_over]
    exact evF_congr _ (Nat.le_refl _) fun i _ _ => pv_ov hl OL i
  have e1 : evF (fun k => ((mv k * b ^ k : Int) : Rat)) l.length x l.length = evF (toQ mv) l.length (b * x) l.length := by
    have z := evF_scl (f := toQ mv) (n := l.length) (x := x) (s := (b : Rat)) l.length (Nat.le_refl _)
    rw [Nat.sub_self] at z
    have z2 : evF (fun k => ((mv k * b ^ k : Int) : Rat)) l.length x l.length = evF (fun i => toQ mv i * (b : Rat) ^ i) l.length x l.length := evF_congr _ (Nat.le_refl _) fun i _ _ => by unfold toQ; push_cast; rfl
    rw [z2, z]
    grind
  have e2 : evF (toQ mv) l.length (b * x) l.length = evF (toQ R) l.length (b * x + a) l.length := by
    rw [hmv]
    exact rnds_ev h
  have e3 := evF_str (f := fun j => ((clrN l).getD j 0 : Rat)) (n := l.length) (z := x + val (a, b)) (s := (b : Rat)) l.length (Nat.le_refl _)
  have e4 : (b : Rat) * (x + val (a, b)) = b * x + a := by
    show (b : Rat) * (x + (a : Rat) / (b : Rat)) = _
    grind
  rw [e4] at e3
  have e5 : evF (toQ R) l.length (b * x + a) l.length = evF (fun i => ((clrN l).getD i 0 : Rat) * (b : Rat) ^ (l.length - 1 - i)) l.length (b * x + a) l.length := evF_congr _ (Nat.le_refl _) fun i _ hi => by unfold toQ; rw [hR i hi]; push_cast; rfl
  rw [evF_over, e1, e2, e5, e0]
  obtain ⟨m, hm⟩ : ∃ m, l.length = m + 1 := ⟨l.length - 1, by omega⟩
  have e6 : (b : Rat) ^ l.length = (b : Rat) ^ (l.length - 1) * b := by
    rw [hm]
    exact Rat.pow_succ ..
  rw [e6] at e3
  have bp : ((b ^ (l.length - 1) : Int) : Rat) ≠ 0 := castNe (Int.ne_of_gt (Int.pow_pos b0))
  have bp2 : ((b ^ (l.length - 1) : Int) : Rat) = (b : Rat) ^ (l.length - 1) := by push_cast; rfl
  rw [bp2] at bp
  push_cast
  generalize evF (fun i => ((clrN l).getD i 0 : Rat) * (b : Rat) ^ (l.length - 1 - i)) l.length (b * x + a) l.length = A at *
  generalize evF (fun j => ((clrN l).getD j 0 : Rat)) l.length (x + val (a, b)) l.length = C at *
  generalize (b : Rat) ^ (l.length - 1) = S at *
  grind
theorem vc_p_moved {K : PySem.W.Frag} {vs : List V} {H : Hp} {Q : VK} {E : XK} (h : sp_p_moved K vs H Q E) : T_p_moved K { nx := fun _ H' => Q .non H', rt := Q } (L2.start ["P", "c", "row", "scales", "number", "last", "stretched", "moved"] vs) H := by
  obtain ⟨p, q, xs, l, a, b, rfl, hp, hq, hN, hl, nl, bl, lo, ba, bb, l9, k⟩ := h
  have OL := clrB_ov hl
  have bL : Bd 361 (clrB l) := (clrB_ok hl bl).2.2.mono (by omega)
  have cll : (clrN l).length = l.length := by unfold clrN; rw [List.length_map]
  have lx := hN.length
  have b0 : 0 < b := lo.pos
  have bp : ∀ i, i ≤ 9 → Bd 361 (b ^ i) := fun i hi => (bb.pow i).mono (by omega)
  unfold T_p_moved
  unfold Nm at hq
  rwa [hp]
  refine ⟨l, hN, hl, clrB l, OL, bL.mono (by decide), fun q hq => (bl q hq).1.mono (by decide), by omega, fun r c H1 s1 hr hc => ?_⟩
  unfold T_p_moved_1 T_p_moved_2
  rwa []
  refine ⟨sz (by decide), fun w hw => ?_⟩
  have sw := same_new hw (HO.lst [V.int 1])
  have hp1 := sw _ _ (s1 _ _ hp)
  refine ⟨⟨_, SqT.of hp1⟩, ForT.by (xs := xs) (fun i σ H' => ∃ x4 : Option V, σ = [some (.ref p), some (.ref q), some (.ref r), some (.ref w), x4, none, none, none] ∧ Same H1 H' ∧ H' w = some (.lst (rowF (i + 1) fun k => b ^ k))) ⟨none, rfl, sw, ?_⟩ ?_ ?_ ?_⟩
  · rw [upd_same]
    show some (HO.lst [V.int 1]) = some (HO.lst [V.int (b ^ 0)])
    rw [Int.pow_zero]
  · rintro i σ H' _ ⟨_, _, s2, _⟩
    exact s2 _ _ (s1 _ _ hp)
  · rintro i x σ H' hi ⟨x4, rfl, s2, hw2⟩
    have hi2 : i < xs.length := (List.getElem?_eq_some_iff.mp hi).1
    have hq2 := s2 _ _ (s1 _ _ hq)
    have g1 : atI (rowF (i + 1) fun k => b ^ k) (-1) = some (V.int (b ^ i)) := atI_last (by rw [rowF_len]; omega) (by rw [rowF_len]; exact rowF_get _ (by omega))
    rwa [hw2, g1, hq2]
    refine ⟨tyV_lst hw2, mul4 (bp i (by omega)) bb, Nat.lt_of_le_of_lt (show _ ≤ 1000 by rw [rowF_len]; omega) (by rw [sizeLine_eq]; omega), fun b o h => Kp.upd b o (ne_of_none h hw) (s2 b o h), ?_⟩
    rw [rowF_succ (i + 1), Int.pow_succ]
  · rintro σ H2 ⟨x4, rfl, s2, hw2⟩
    rw [lx] at hw2
    have hp2 := s2 _ _ (s1 _ _ hp)
    have hr2 := s2 _ _ hr
    have hc2 := s2 _ _ hc
    unfold T_p_moved_3 T_p_moved_4
    rwa [hp2, hr2]
    refine ⟨⟨_, SqL.of hc2⟩, CompJ.enumL (xs := (clrN l).map V.int) (fun i ys H' => i ≤ l.length ∧ Same H2 H' ∧ ys = rowF i fun k => (clrN l).getD k 0 * b ^ (l.length - 1 - k)) ⟨Nat.zero_le _, Same.refl H2, rfl⟩ ?_ ?_ ?_⟩
    · rintro i ys H' ⟨h1, s3, rfl⟩
      exact ⟨by rw [List.length_map, cll]; exact h1, sz (by rw [rowF_len]; omega), SqL.of (s3 _ _ hc2)⟩
    · rintro i x e ys H' hx ⟨h1, s3, rfl⟩ he
      rw [rowF_self, cll] at hx
      obtain ⟨hi, rfl⟩ := rowF_at hx
      have se := same_new he (HO.tup [V.int (i : Int), V.int ((clrN l).getD i 0)])
      have hw3 := se _ _ (s3 _ _ hw2)
      have g1 : atI (rowF (l.length + 1) fun k => b ^ k) ((xs.length : Int) - 1 - (i : Int)) = some (V.int (b ^ (l.length - 1 - i))) := atI_of (j := l.length - 1 - i) (by omega) (rowF_get _ (by omega))
      rwa [hw3, g1]
      refine ⟨mul4 ((getD_bd (clrN_bd hl bl) i).mono (show _ ≤ 401 by omega)) (bp _ (by omega)), by omega, s3.trans se, ?_⟩
      rw [rowF_succ i]
    · rintro ys H3 ⟨_, s3, rfl⟩ d hd
      rw [List.length_map, cll] at *
      have sd := same_new hd (HO.lst (rowF l.length fun k => (clrN l).getD k 0 * b ^ (l.length - 1 - k)))
      have u3 := s3.trans sd
      have hq3 := u3 _ _ (s2 _ _ (s1 _ _ hq))
      have hd3 : upd H3 d (HO.lst (rowF l.length fun k => (clrN l).getD k 0 * b ^ (l.length - 1 - k))) d = some (HO.lst (rowF l.length fun k => (clrN l).getD k 0 * b ^ (l.length - 1 - k))) := upd_same
      unfold T_p_moved_5
      rwa [hq3, hd3]
      have sl : ((List.range l.length).map fun k => (clrN l).getD k 0 * b ^ (l.length - 1 - k)).length = l.length := by rw [List.length_map, List.length_range]
      have sg : ∀ k, k < l.length → ((List.range l.length).map fun k => (clrN l).getD k 0 * b ^ (l.length - 1 - k)).getD k 0 = (clrN l).getD k 0 * b ^ (l.length - 1 - k) := fun k hk => by
        rw [show ∀ t : List Int, t.getD k 0 = (t[k]?).getD 0 from fun t => List.getD_eq_getElem?_getD .., rangeF_get _ hk]; rfl
      refine ⟨(List.range l.length).map fun k => (clrN l).getD k 0 * b ^ (l.length - 1 - k), rfl, by omega, fun z hz => ?_, ba, fun m H4 s4 hm => ?_⟩
      · obtain ⟨i, hi, rfl⟩ := List.mem_map.mp hz
        exact (((getD_bd (clrN_bd hl bl) i).mono (show _ ≤ 401 by omega)).mul (bp (l.length - 1 - i) (by omega))).mono (by decide)
      rw [sl] at hm
      generalize hR : (fun k => ((List.range l.length).map fun k => (clrN l).getD k 0 * b ^ (l.length - 1 - k)).getD k 0) = R at hm
      have hRk : ∀ k, k < l.length → R k = (clrN l).getD k 0 * b ^ (l.length - 1 - k) := fun k hk => by rw [← hR]; exact sg k hk
      have bR : ∀ j, Bd 2000 (R j) := fun j => by
        rw [← hR]
        refine getD_bd (fun z hz => ?_) j
        obtain ⟨i, hi, rfl⟩ := List.mem_map.mp hz
        exact (((getD_bd (clrN_bd hl bl) i).mono (show _ ≤ 401 by omega)).mul (bp (l.length - 1 - i) (by omega))).mono (by decide)
      have bmv := fun j => (rnds_bd ba bR l9 (l.length - 1) j).mono (show _ ≤ 6000 by omega)
      generalize hmv : rnds a R l.length (l.length - 1) = mv at hm bmv
      have mlast : 1 ≤ l.length → mv (l.length - 1) = (clrN l).getD (l.length - 1) 0 := fun h => by
        rw [← hmv, rnds_last _ (by omega), hRk _ (by omega), Nat.sub_self, Int.pow_zero, Int.mul_one]
      have u4 := u3.trans s4
      have hw4 := u4 _ _ hw2
      have hr4 := u4 _ _ hr2
      unfold T_p_moved_6
      rwa []
      refine ⟨⟨_, SqL.of hm⟩, CompJ.enumL (xs := rowF l.length mv) (fun i ys H' => i ≤ l.length ∧ Same H4 H' ∧ ys = rowF i fun k => mv k * b ^ k) ⟨Nat.zero_le _, Same.refl H4, rfl⟩ ?_ ?_ ?_⟩
      · rintro i ys H' ⟨h1, s5, rfl⟩
        exact ⟨by rw [rowF_len]; exact h1, sz (by rw [rowF_len]; omega), SqL.of (s5 _ _ hm)⟩
      · rintro i x e ys H' hx ⟨h1, s5, rfl⟩ he
        obtain ⟨hi, rfl⟩ := rowF_at hx
        have se := same_new he (HO.tup [V.int (i : Int), V.int (mv i)])
        have hw5 := se _ _ (s5 _ _ hw4)
        have g1 : atI (rowF (l.length + 1) fun k => b ^ k) (i : Int) = some (V.int (b ^ i)) := atI_nat (rowF_get _ (by omega))
        rwa [hw5, g1]
        refine ⟨mul4 (bmv i) (bp _ (by omega)), by omega, s5.trans se, ?_⟩
        rw [rowF_succ i]
      · rintro ys H5 ⟨_, s5, rfl⟩ d5 hd5
        rw [rowF_len]
        have sd5 := same_new hd5 (HO.lst (rowF l.length fun k => mv k * b ^ k))
        have u5 := s5.trans sd5
        have hr5 := u5 _ _ hr4
        have hw5 := u5 _ _ hw4
        have hd6 : upd H5 d5 (HO.lst (rowF l.length fun k => mv k * b ^ k)) d5 = some (HO.lst (rowF l.length fun k => mv k * b ^ k)) := upd_same
        have g1 : atI (rowF (l.length + 1) fun k => b ^ k) ((xs.length : Int) - 1) = some (V.int (b ^ (l.length - 1))) := by
          rcases Nat.eq_zero_or_pos l.length with h | h
          · rw [lx, h]; show some (V.int (b ^ 0)) = some (V.int (b ^ 0)); rfl
          · exact atI_of (j := l.length - 1) (by omega) (rowF_get _ (by omega))
        have Bp : 0 < clrB l * b ^ (l.length - 1) := Int.mul_pos OL.1 (Int.pow_pos b0)
        have bBp : Bd 722 (clrB l * b ^ (l.length - 1)) := bL.mul (bp _ (by omega))
        rwa [hr5, hw5, hd6, g1]
        refine ⟨mul4 bL (bp _ (by omega)), (List.range l.length).map fun k => mv k * b ^ k, rfl, Int.ne_of_gt Bp, bBp.mono (by decide), by rw [List.length_map, List.length_range]; omega, fun t zs H6 s6 h6 n6 => ?_⟩
        generalize hL : ((List.range l.length).map fun k => mv k * b ^ k).map (fun n => redG n (clrB l * b ^ (l.length - 1))) = L at n6
        have Ll : L.length = l.length := by rw [← hL, List.length_map, List.length_map, List.length_range]
        have Lg : ∀ i, i < l.length → L[i]? = some (redG (mv i * b ^ i) (clrB l * b ^ (l.length - 1))) := fun i hi => by rw [← hL, List.getElem?_map, rangeF_get _ hi]; rfl
        have Lm : ∀ q ∈ L, ∃ i, q = redG (mv i * b ^ i) (clrB l * b ^ (l.length - 1)) ∧ i < l.length := fun q hq => by
          rw [← hL] at hq
          obtain ⟨z, hz, rfl⟩ := List.mem_map.mp hq
          obtain ⟨i, hi, rfl⟩ := List.mem_map.mp hz
          exact ⟨i, rfl, List.mem_range.mp hi⟩
        have Llow : AllLow L := fun q hq => by obtain ⟨i, rfl, _⟩ := Lm q hq; exact redG_low (Int.ne_of_gt Bp)
        have Lnz : Nz L := fun q hq => by
          rw [List.getLast?_eq_getElem?, Ll] at hq
          rcases Nat.eq_zero_or_pos l.length with h | h
          · rw [List.getElem?_eq_none (by omega)] at hq; cases hq
          · rw [Lg _ (by omega)] at hq
            obtain rfl := Option.some.inj hq
            intro z
            have z2 := val_redG (n := mv (l.length - 1) * b ^ (l.length - 1)) (Int.ne_of_gt Bp)
            unfold val at z2
            rw [z] at z2
            have n1 : mv (l.length - 1) * b ^ (l.length - 1) ≠ 0 := Int.mul_ne_zero (by rw [mlast h]; exact lead_ne hl nl h) (Int.ne_of_gt (Int.pow_pos b0))
            have c1 := castNe n1
            have c2 := castNe (Int.ne_of_gt Bp)
            push_cast at z2 c1 c2
            grind
        rw [trim_id Lnz] at n6
        refine k t H6 L (clrB l * b ^ (l.length - 1)) ((((((s1.trans s2).trans u3).trans s4).trans u5)).trans s6) ⟨zs, h6, n6⟩ Llow Lnz Ll ⟨Bp, fun q hq => ?_⟩ (bBp.mono (by decide)) (fun q hq => ?_) fun x => ?_
        · obtain ⟨i, rfl, _⟩ := Lm q hq
          exact redG_dvd (Int.ne_of_gt Bp) (Int.dvd_refl _)
        · obtain ⟨i, rfl, hi⟩ := Lm q hq
          exact (redG_bd (Int.ne_of_gt Bp) ((bmv i).mul (bp i (by omega))) bBp).1.mono (by decide)
        · rw [← moved_id hl b0 hRk hmv.symm x]
          refine evF_congr _ (Nat.le_refl _) fun i _ hi => ?_
          unfold pwo getN
          rw [List.getD_eq_getElem?_getD, Lg i hi]
          exact val_redG (Int.ne_of_gt Bp)
theorem vc_l_moved_right {K : PySem.W.Frag} {vs : List V} {H : Hp} {Q : VK} {E : XK} (h : sp_l_moved_right K vs H Q E) : T_l_moved_right K { nx := fun _ H' => Q .non H', rt := Q } (L2.start ["_law_kp", "_law_c", "_law_found", "_law_place"] vs) H := by
  obtain ⟨p, q, xs, l, a, b, rfl, hp, hq, hN, hl, nl, bl, lo, ba, bb, l9, k⟩ := h
  have lx := hN.length
  have b0 := lo.pos
  have OL := clrB_ov hl
  have bL : Bd 361 (clrB l) := (clrB_ok hl bl).2.2.mono (by omega)
  unfold T_l_moved_right
  unfold Nm at hq
  rwa [hp, hq]
  refine ⟨l, hN, hl, nl, bl, lo, ba, bb, l9, fun r H1 L M s1 PL lL nL Ll oL bM bLn idL => ?_⟩
  obtain ⟨zs, hr, nr⟩ := PL
  have lz := nr.length
  rwa [hr]
  refine ⟨L, nr, lL, fun q hq => (dvd_bd (Int.ne_of_gt oL.1) (oL.2 q hq) bM).mono (by decide), nL, by omega, fun H2 s2 => ?_⟩
  have hr2 := s2 _ _ hr
  have hp2 := s2 _ _ (s1 _ _ hp)
  rwa [hr2, hp2]
  rw [if_neg (by omega)]
  have s12 := s1.trans s2
  refine ⟨by decide, by decide, by decide, by decide, ?_⟩
  refine ForR.by (fun i σ H' => ∃ x3 : Option V, σ = [some (.ref p), some (.ref q), some (.ref r), x3] ∧ Same H2 H') ⟨none, rfl, Same.refl H2⟩ ?_ ?_
  · rintro i σ H3 hi ⟨x3, rfl, s3⟩
    have hi9 : i < 9 := hi
    have hr3 := s3 _ _ hr2
    have hp3 := s3 _ _ hp2
    have hq3 := s3 _ _ (s12 _ _ hq)
    have k1 : -4 ≤ -4 + (i : Int) ∧ -4 + (i : Int) ≤ 4 := by omega
    generalize -4 + (i : Int) = pl at k1 ⊢
    have lp : Low pl 1 := low_one pl
    have bp : Bd 40 pl := bd40 (by omega) (by omega)
    have b1 : Bd 40 1 := bd40 (by decide) (by decide)
    rwa [hr3]
    refine ⟨sz (by simp), fun e1 he1 => ?_⟩
    have se1 := same_new he1 (HO.tup [V.int pl, V.int 1])
    have hr4 := se1 _ _ hr3
    have u1 := s3.trans se1
    rwa [hr4]
    refine ⟨L, nr.tp (tpS (s2.trans u1)), lL, M, oL, bM, bLn, lp, bp.mono (by decide), b1.mono (by decide), by omega, fun t1 H4 z1 s4 i1 l1 v1 => ?_⟩
    have u4 := u1.trans s4
    have hq4 := u4 _ _ (s12 _ _ hq)
    refine ⟨sz (by simp), fun e2 he2 => ?_⟩
    have se2 := same_new he2 (HO.tup [V.int pl, V.int 1])
    have hq5 := se2 _ _ hq4
    have u5 := u4.trans se2
    rwa [hq5]
    refine ⟨by decide, b0, bp.mono (by decide), b1.mono (by decide), ba.mono (by decide), bb.mono (by decide), fun e3 he3 => ?_⟩
    have se3 := same_new he3 (HO.tup [V.int (nadd (pl, 1) (a, b)).1, V.int (nadd (pl, 1) (a, b)).2])
    have u6 := u5.trans se3
    have hp6 := u6 _ _ hp2
    have sl := nadd_low (q := (pl, 1)) (r := (a, b)) (show (0 : Int) < 1 by decide) b0
    have sb := red_bd (Int.mul_pos (show (0 : Int) < 1 by decide) b0) ((bp.mul bb).add (ba.mul b1)) (b1.mul bb)
    rwa [hp6]
    refine ⟨l, hN.tp (tpS (s12.trans u6)), hl, clrB l, OL, bL.mono (by decide), fun q hq => (bl q hq).1.mono (by decide), sl, sb.1.mono (by decide), sb.2.mono (by decide), l9, fun t2 H7 z2 s7 i2 l2 v2 => ?_⟩
    have u7 := (se2.trans se3).trans s7
    have e : z1 = z2 := by
      refine val_inj l1 l2 ?_
      rw [v1, Ll, idL, v2, val_nadd (show (0 : Int) < 1 by decide) b0]
    subst e
    refine ⟨_, _, true, repN (i1.tp (tpS u7)), repN i2, okN _ 7, okN _ 7, by simp, false, rfl, ?_⟩
    rw [if_neg (by decide)]
    exact u4.trans u7
  · rintro σ H3 ⟨x3, rfl, s3⟩
    rwa []
    exact k _ (s12.trans s3)
theorem vc_law {K : PySem.W.Frag} {vs : List V} {H : Hp} {Q : VK} {E : XK} (h : sp_law K vs H Q E) : T_law K { nx := fun _ H' => Q .non H', rt := Q } (L2.start ["_law_script", "_law_k", "_law_box_here", "_law_kp", "_law_c", "_law_found", "_law_n", "_law_row"] vs) H := by
  obtain ⟨a, ns, rfl, hS, h63, k⟩ := h
  unfold T_law
  rwa []
  refine ⟨_, hS, ?_⟩
  rw [List.length_map]
  have hL : ∀ L : Int, L = (if (if (16 : Int) < (ns.length : Int) then (16 : Int) else (ns.length : Int)) > 1 then (if (16 : Int) < (ns.length : Int) then (16 : Int) else (ns.length : Int)) else 1) → 1 ≤ L ∧ L ≤ 16 := fun L e => by
    rw [e]; split <;> split <;> omega
  generalize hLe : (if (if (16 : Int) < (ns.length : Int) then (16 : Int) else (ns.length : Int)) > 1 then (if (16 : Int) < (ns.length : Int) then (16 : Int) else (ns.length : Int)) else 1) = L
  obtain ⟨hL1, hL2⟩ := hL L hLe.symm
  refine ⟨by omega, by omega, ?_⟩
  refine ForR.by (fun i σ H' => ∃ x1 x2 x3 x4 x5 x6 x7 : Option V, σ = [some (.ref a), x1, x2, x3, x4, x5, x6, x7] ∧ Same H H') ⟨none, none, none, none, none, none, none, rfl, Same.refl H⟩ ?_ ?_
  · rintro i σ H1 hi ⟨x1, x2, x3, x4, x5, x6, x7, rfl, s1⟩
    unfold T_law_b1_0
    rwa []
    have ki : (0 : Int) + (i : Int) ≤ 62 ∧ 0 ≤ (0 : Int) + (i : Int) := by omega
    generalize (0 : Int) + (i : Int) = kk at ki ⊢
    obtain ⟨k1, k0⟩ := ki
    refine ⟨ns, s1.seq hS, k0, by omega, fun p H2 p0 kp2 B2 => ?_⟩
    have s12 : Same H1 H2 := kp2.new p0
    unfold T_law_b1_1
    rwa []
    refine ⟨7000, B2, by omega, by decide, by decide, fun r3 z3 l H3 h3 n3 lo3 bd3 nz3 ln3 B3 kp3 => ?_⟩
    have s13 : Same H1 H3 := Kp.over s12 kp3 p0
    unfold T_law_b1_2
    rwa []
    refine ⟨ns, (s1.trans s13).seq hS, by omega, by omega, fun p1 H4 p10 kp4 B4 => ⟨7000, B4, by omega, fun r4 t d H5 h4 lo4 bt bd _ kp5 => ?_⟩⟩
    have s35 : Same H3 H5 := Kp.over (kp4.new p10) kp5 p10
    have h35 := s35 _ _ h3
    have n35 := n3.tp (tpS s35)
    have B5 := B3.same s35
    unfold Nm at h4
    unfold T_law_b1_3
    rwa [h35, h4]
    refine ⟨l, n35, lo3, bd3, lo4, bt, bd, by omega, fun r5 H6 z s6 i6 l6 bz v6 => ?_⟩
    obtain ⟨_, er, h6⟩ := i6
    obtain rfl : r5 = _ := by injection er
    have h36 := s6 _ _ h35
    have h46 := s6 _ _ h4
    unfold T_law_b1_4
    rwa [h6]
    refine ⟨l6, bz, fun H7 s7 => ?_⟩
    have u7 := s6.trans s7
    have h37 := u7 _ _ h35
    have h47 := u7 _ _ h4
    rwa [h37, h47]
    refine ⟨l, n35.tp (tpS u7), lo3, clrB l, clrB_ov lo3, (clrB_ok lo3 bd3).2.2.mono (by omega), fun q hq => (bd3 q hq).1.mono (by decide), lo4, bt.mono (by decide), bd.mono (by decide), by omega, fun t8 H8 z8 s8 i8 l8 v8 => ?_⟩
    have ez : z = z8 := val_inj l6 l8 (by rw [v6, v8])
    subst ez
    have h68 := s8 _ _ (s7 _ _ h6)
    refine ⟨_, _, true, repN (q := z) ⟨_, rfl, h68⟩, repN i8, okN _ 7, okN _ 7, by simp, false, rfl, ?_⟩
    rw [if_neg (by decide)]
    have u8 := u7.trans s8
    have h38 := u8 _ _ h35
    have h48 := u8 _ _ h4
    rwa [h38, h48]
    refine ⟨l, n35.tp (tpS u8), lo3, nz3, bd3, lo4, bt, bd, by omega, fun H9 s9 => ?_⟩
    have B9 := B5.same (u8.trans s9)
    have s19 := (s13.trans s35).trans (u8.trans s9)
    unfold T_law_b1_5
    rwa []
    refine ⟨_, B9, by omega, by decide, by decide, fun n H10 n0 n1 B10 kp10 => ?_⟩
    have s110 := Kp.over s19 kp10 p0
    unfold T_law_b1_6
    rwa []
    refine ⟨_, B10, by omega, by decide, by decide, fun r11 z11 l2 H11 h11 n11 lo11 bd11 nz11 ln11 B11 kp11 => ?_⟩
    have s111 := Kp.over s110 kp11 p0
    rwa [h11]
    obtain ⟨m, rfl⟩ : ∃ m : Nat, n = (m : Int) := ⟨n.toNat, by omega⟩
    exact ⟨z11, l2, m, rfl, rfl, n11, lo11, nz11, bd11, .inl ⟨by omega, by omega⟩, fun H' s => (s1.trans s111).trans s⟩
  · rintro σ H1 ⟨x1, x2, x3, x4, x5, x6, x7, rfl, s1⟩
    unfold T_law_1
    rwa []
    refine ⟨ns, s1.seq hS, by decide, by decide, fun p H2 p0 kp2 B2 => ?_⟩
    unfold T_law_2
    rwa []
    refine ⟨_, B2, by omega, by decide, by decide, fun n H3 n0 n1 B3 kp3 => ?_⟩
    unfold T_law_3
    rwa []
    refine ⟨by decide, by decide, ?_⟩
    refine CompJ.range (fun i ys H' => i ≤ 2 ∧ Box H' p (8000 + 3 * i) ∧ ∃ l, Nums H' ys l ∧ AllLow l ∧ AllBd 40 l ∧ l.length = i) ⟨Nat.zero_le _, B3.mono (by omega), [], trivial, (fun _ h => nomatch h), (fun _ h => nomatch h), rfl⟩ ?_ ?_ ?_
    · rintro i ys H' ⟨h1, _, l, hZ, _, _, ll⟩
      exact ⟨h1, sz (by rw [hZ.length, ll]; omega)⟩
    · rintro i ys H' hi ⟨h1, B', l, hZ, lo, bd, ll⟩
      rwa []
      refine ⟨_, B', by omega, by decide, by decide, fun d1 H4 d10 d11 B4 kp4 => ⟨_, B4, by omega, by decide, by decide, fun d2 H5 d20 d21 B5 kp5 => ?_⟩⟩
      have d0 : 0 < 1 + d2 := by omega
      have ba : Bd 40 (d1 - 3) := bd40 (by omega) (by omega)
      have bb : Bd 40 (1 + d2) := bd40 (by omega) (by omega)
      obtain ⟨m1, m2, m3, _, _⟩ := lowest_math (a := d1 - 3) d0
      refine ⟨d0, bb.mono (by decide), fun r hr => ⟨by omega, ((B5.same (same_new hr _)).mono (by omega)), l ++ [((d1 - 3) / (((d1 - 3).gcd (1 + d2) : Nat) : Int), (1 + d2) / (((d1 - 3).gcd (1 + d2) : Nat) : Int))], ?_, ?_, ?_, by rw [List.length_append, ll]; rfl⟩⟩
      · obtain ⟨ws, hws⟩ := B'.at
        obtain ⟨ws2, hws2⟩ := B4.at
        exact (hZ.tp (((kp4.tp hws).trans (kp5.tp hws2)).trans (tpS (same_new hr _)))).append (Nums.one ⟨r, rfl, upd_same⟩)
      · intro q hq
        rcases List.mem_append.mp hq with z | z
        · exact lo q z
        · rw [List.mem_singleton.mp z]; exact m1
      · intro q hq
        rcases List.mem_append.mp hq with z | z
        · exact bd q z
        · rw [List.mem_singleton.mp z]; exact ⟨ba.le m2, bb.le m3⟩
    · rintro ys H4 ⟨_, B4, l, hZ, lo, bd, ll⟩ q hq
      have sq := same_new hq (HO.lst ys)
      have l2 : l.length = 2 := ll
      unfold T_law_4
      rwa []
      refine ⟨l, hZ.tp (tpS sq), by omega, fun r zs H5 s5 hr nr => ?_⟩
      obtain ⟨m, rfl⟩ : ∃ m : Nat, n = (m : Int) := ⟨n.toNat, by omega⟩
      have tl := trim_len l
      rwa [hr]
      exact ⟨zs, trim l, m, rfl, rfl, nr, fun q hq => lo q (trim_mem hq), trim_nz l, fun q hq => bd q (trim_mem hq), .inr ⟨by omega, by omega⟩, fun H' _ => k H'⟩
end Bs
namespace Bs
open PySem PySem.Spec PyProof.Rows L2
set_option maxHeartbeats 4000000
def top (i : Nat) : Stmt := PySem.Challenge.pw_backslope_k06_worths_and_moves.main.body.getD i (.Pass ⟨0, 0, 0, 0⟩)
abbrev s_common_divisor : Stmt := top 1
abbrev s_raised : Stmt := top 2
abbrev s_row_power : Stmt := top 3
abbrev s_row_moved : Stmt := top 4
abbrev s_ratio : Stmt := top 6
abbrev s_poly : Stmt := top 8
abbrev s_cleared : Stmt := top 9
abbrev s_uncleared : Stmt := top 10
abbrev s_p_at : Stmt := top 11
abbrev s_p_moved : Stmt := top 12
abbrev s_p_power : Stmt := top 13
abbrev s_l_box : Stmt := top 15
abbrev s_l_take : Stmt := top 16
abbrev s_l_lowest : Stmt := top 17
abbrev s_l_number : Stmt := top 18
abbrev s_l_sum : Stmt := top 19
abbrev s_l_product : Stmt := top 20
abbrev s_l_is_number : Stmt := top 21
abbrev s_l_poly_of : Stmt := top 22
abbrev s_l_poly : Stmt := top 23
abbrev s_l_is_poly : Stmt := top 24
abbrev s_l_multiplied : Stmt := top 26
abbrev s_l_at : Stmt := top 27
abbrev s_l_moved_right : Stmt := top 28
abbrev s_l_power_right : Stmt := top 29
abbrev s_law : Stmt := top 30
/-- the built-ins that the text does not hide -/
structure Bl (mg : Str → Option Value) : Prop where
  abs : mg "abs" = none
  len : mg "len" = none
  range : mg "range" = none
  min : mg "min" = none
  list : mg "list" = none
  tuple : mg "tuple" = none
  reversed : mg "reversed" = none
  enumerate : mg "enumerate" = none
  int : mg "int" = none
  isinstance : mg "isinstance" = none
  bool : mg "bool" = none
  all : mg "all" = none
  max : mg "max" = none
section
variable {P : Program} {w : World} {K : PySem.W.Frag} {mg : Str → Option Value} {base : Heap} {f : Addr} {fd : FuncData}
theorem sc_common_divisor : FnScope ["one", "other", "rest"] ["one", "other"] (defScope s_common_divisor) := ⟨rfl, rfl, rfl, by decide +kernel, rfl, by decide +kernel, by decide +kernel⟩
theorem ok_common_divisor (F : Fun K "common_divisor" "common_divisor" s_common_divisor f fd) (B : Bl mg)  : FnOk P w K mg base CX0 1 f fd ["one", "other"] (sp_common_divisor K) := by
  refine F.ok sc_common_divisor (fun vs H Q E h => ?_) (fun cdv A outer s H vs Q E hr h => ?_)
  · obtain ⟨_, _, rfl, _⟩ := h
    rfl
  have nd := sc_common_divisor.nd
  have hu := hr.units0
  have hu64 := hr.units
  exact ⟨T_common_divisor K, (pss_cons (ps_while PassesOwn.never (pt_cmpR op_ne (pv 1) pe_int (nomark _)) (pss_cons (ps_set (i := 2) nd rfl (Or.inl rfl) (pe_op op_modN (pv 0) (pv 1)))
    (pss_cons (ps_set (i := 0) nd rfl (Or.inl rfl) (pv 1))
    (pss_one (ps_set (i := 1) nd rfl (Or.inl rfl) (pv 2))))))
    (pss_one (ps_ret (pe_callB call_absB rfl B.abs bt_abs (pa_cons (pv 0) pa_nil))))), vc_common_divisor h⟩
theorem sc_raised : FnScope ["whole", "n", "result", "square"] ["whole", "n"] (defScope s_raised) := ⟨rfl, rfl, rfl, by decide +kernel, rfl, by decide +kernel, by decide +kernel⟩
theorem ok_raised (F : Fun K "raised" "raised" s_raised f fd) (B : Bl mg)  : FnOk P w K mg base CX0 1 f fd ["whole", "n"] (sp_raised K) := by
  refine F.ok sc_raised (fun vs H Q E h => ?_) (fun cdv A outer s H vs Q E hr h => ?_)
  · obtain ⟨_, _, _, rfl, _⟩ := h
    rfl
  have nd := sc_raised.nd
  have hu := hr.units0
  have hu64 := hr.units
  exact ⟨T_raised K, (pss_cons (ps_set (i := 2) nd rfl (Or.inl rfl) pe_int)
    (pss_cons (ps_set (i := 3) nd rfl (Or.inl rfl) (pv 0))
    (pss_cons (ps_while PassesOwn.never (pt_cmpR op_gt (pv 1) pe_int (nomark _)) (pss_cons (ps_if (pt_cmpR op_eq (pe_op op_mod (pv 1) pe_int) pe_int (nomark _)) (pss_one (ps_aug (i := 2) nd rfl (Or.inl rfl) (pv 3) iop_mulB)) pss_nil)
    (pss_cons (ps_aug (i := 1) nd rfl (Or.inl rfl) pe_int iop_fdivP)
    (pss_one (ps_if (pt_cmpR op_gt (pv 1) pe_int (nomark _)) (pss_one (ps_aug (i := 3) nd rfl (Or.inl rfl) (pv 3) iop_mulB)) pss_nil)))))
    (pss_one (ps_ret (pv 2)))))), vc_raised h⟩
theorem sc_row_power : FnScope ["row", "n", "result", "place", "found", "step"] ["row", "n"] (defScope s_row_power) := ⟨rfl, rfl, rfl, by decide +kernel, rfl, by decide +kernel, by decide +kernel⟩
theorem ok_row_power (F : Fun K "row_power" "row_power" s_row_power f fd) (B : Bl mg) (c_raised : Cal P w K mg base 1 "raised" ["whole", "n"] (sp_raised K)) : FnOk P w K mg base CX0 2 f fd ["row", "n"] (sp_row_power K) := by
  refine F.ok sc_row_power (fun vs H Q E h => ?_) (fun cdv A outer s H vs Q E hr h => ?_)
  · obtain ⟨_, _, _, _, rfl, _⟩ := h
    rfl
  have nd := sc_row_power.nd
  have hu := hr.units0
  have hu64 := hr.units
  exact ⟨T_row_power K, (pss_cons (ps_set (i := 2) nd rfl (Or.inl rfl) (pe_lst (pa_cons (c_raised.pe hr (by decide) rfl (pa_cons (pe_ix ix_lstH (pv 0) pe_int (fun _ _ => rfl)) (pa_cons (pv 1) pa_nil))) pa_nil)))
    (pss_cons (ps_for PassesOwn.never rfl (pi_range2 rfl B.range (pa_cons pe_int (pa_cons (pe_op op_add (pe_op op_mulB (pv 1) (pe_op op_sub (pe_callB call_lenL rfl B.len bt_len (pa_cons (pv 0) pa_nil)) pe_int)) pe_int) pa_nil))) (pg_name (i := 3) nd rfl (Or.inl rfl)) (pss_cons (ps_set (i := 4) nd rfl (Or.inl rfl) pe_int)
    (pss_cons (ps_for PassesOwn.never rfl (pi_range2 rfl B.range (pa_cons pe_int (pa_cons (pe_op op_add (pe_callB (call_minB rfl) rfl B.min bt_min (pa_cons (pv 3) (pa_cons (pe_op op_sub (pe_callB call_lenL rfl B.len bt_len (pa_cons (pv 0) pa_nil)) pe_int) pa_nil))) pe_int) pa_nil))) (pg_name (i := 5) nd rfl (Or.inl rfl)) (pss_one (ps_aug (i := 4) nd rfl (Or.inl rfl) (pe_op op_mulB (pe_op op_mulB (pe_op op_sub (pe_op op_mulB (pe_op op_add (pv 1) pe_int) (pv 5)) (pv 3)) (pe_ix ix_lstH (pv 0) (pv 5) (fun _ _ => rfl))) (pe_ix ix_lstH (pv 2) (pe_op op_sub (pv 3) (pv 5)) (fun _ _ => rfl))) iop_add)))
    (pss_one (ps_expr (pe_bm PySem.F.plainAttrs_list PySem.F.slot_list_append PySem.F.type_list_append mt_append (pv 2) (pa_cons (pe_op op_fdivM (pv 4) (pe_op op_mulB (pv 3) (pe_ix ix_lstH (pv 0) pe_int (fun _ _ => rfl)))) pa_nil)))))))
    (pss_one (ps_ret (pv 2))))), vc_row_power h⟩
theorem sc_row_moved : FnScope ["row", "whole", "result", "first", "place"] ["row", "whole"] (defScope s_row_moved) := ⟨rfl, rfl, rfl, by decide +kernel, rfl, by decide +kernel, by decide +kernel⟩
theorem ok_row_moved (F : Fun K "row_moved" "row_moved" s_row_moved f fd) (B : Bl mg)  : FnOk P w K mg base CX0 1 f fd ["row", "whole"] (sp_row_moved K) := by
  refine F.ok sc_row_moved (fun vs H Q E h => ?_) (fun cdv A outer s H vs Q E hr h => ?_)
  · obtain ⟨_, _, _, rfl, _⟩ := h
    rfl
  have nd := sc_row_moved.nd
  have hu := hr.units0
  have hu64 := hr.units
  exact ⟨T_row_moved K, (pss_cons (ps_set (i := 2) nd rfl (Or.inl rfl) (pe_callTy call_listL rfl B.list bt_list (pa_cons (pv 0) pa_nil)))
    (pss_cons (ps_for PassesOwn.never rfl (pi_range1 rfl B.range (pa_cons (pe_op op_sub (pe_callB call_lenL rfl B.len bt_len (pa_cons (pv 0) pa_nil)) pe_int) pa_nil)) (pg_name (i := 3) nd rfl (Or.inl rfl)) (pss_one (ps_for PassesOwn.never rfl (pi_range3 rfl B.range (pa_cons (pe_op op_sub (pe_callB call_lenL rfl B.len bt_len (pa_cons (pv 0) pa_nil)) pe_int) (pa_cons (pe_op op_sub (pv 3) pe_int) (pa_cons (pe_un un_neg pe_int) pa_nil)))) (pg_name (i := 4) nd rfl (Or.inl rfl)) (pss_one (ps_augS (pv 2) (pv 4) get_lstH (pe_op op_mulB (pv 1) (pe_ix ix_lstH (pv 2) (pe_op op_add (pv 4) pe_int) (fun _ _ => rfl))) iop_add set_list)))))
    (pss_one (ps_ret (pv 2))))), vc_row_moved h⟩
theorem sc_ratio : FnScope ["top", "bottom", "shared"] ["top", "bottom"] (defScope s_ratio) := ⟨rfl, rfl, rfl, by decide +kernel, rfl, by decide +kernel, by decide +kernel⟩
theorem ok_ratio (F : Fun K "ratio" "ratio" s_ratio f fd) (B : Bl mg) (c_common_divisor : Cal P w K mg base 1 "common_divisor" ["one", "other"] (sp_common_divisor K)) : FnOk P w K mg base CX0 2 f fd ["top", "bottom"] (sp_ratio K) := by
  refine F.ok sc_ratio (fun vs H Q E h => ?_) (fun cdv A outer s H vs Q E hr h => ?_)
  · obtain ⟨_, _, rfl, _⟩ := h
    rfl
  have nd := sc_ratio.nd
  have hu := hr.units0
  have hu64 := hr.units
  exact ⟨T_ratio K, (pss_cons (ps_set (i := 2) nd rfl (Or.inl rfl) (c_common_divisor.pe hr (by decide) rfl (pa_cons (pv 0) (pa_cons (pv 1) pa_nil))))
    (pss_cons (ps_if (pt_cmpR op_lt (pv 1) pe_int (nomark _)) (pss_one (ps_set (i := 2) nd rfl (Or.inl rfl) (pe_un un_neg (pv 2)))) pss_nil)
    (pss_one (ps_ret (pe_tup (pa_cons (pe_op op_fdivM (pv 0) (pv 2)) (pa_cons (pe_op op_fdivM (pv 1) (pv 2)) pa_nil))))))), vc_ratio h⟩
theorem sc_poly : FnScope ["row", "many"] ["row"] (defScope s_poly) := ⟨rfl, rfl, rfl, by decide +kernel, rfl, by decide +kernel, by decide +kernel⟩
theorem ok_poly (F : Fun K "poly" "poly" s_poly f fd) (B : Bl mg)  : FnOk P w K mg base CX0 1 f fd ["row"] (sp_poly K) := by
  refine F.ok sc_poly (fun vs H Q E h => ?_) (fun cdv A outer s H vs Q E hr h => ?_)
  · obtain ⟨_, _, _, rfl, _⟩ := h
    rfl
  have nd := sc_poly.nd
  have hu := hr.units0
  have hu64 := hr.units
  exact ⟨T_poly K, (pss_cons (ps_set (i := 1) nd rfl (Or.inl rfl) (pe_callB call_lenL rfl B.len bt_len (pa_cons (pv 0) pa_nil)))
    (pss_cons (ps_while PassesOwn.never (PW.pt (pw_and (pt_cmpR op_gt (pv 1) pe_int (nomark _)) (pw_and1 (pt_cmpR op_eq (pe_ix ix_tupH (pe_ix ix_lstH (pv 0) (pe_op op_sub (pv 1) pe_int) (fun _ _ => rfl)) pe_int (fun _ _ => rfl)) pe_int (nomark _))))) (pss_one (ps_aug (i := 1) nd rfl (Or.inl rfl) pe_int iop_sub)))
    (pss_one (ps_ret (pe_callTy call_tupL rfl B.tuple bt_tuple (pa_cons (pe_slice sl_lstH (pv 0) po_none (po_some (pv 1))) pa_nil)))))), vc_poly h⟩
theorem sc_cleared : FnScope ["P", "bottom", "number"] ["P"] (defScope s_cleared) := ⟨rfl, rfl, rfl, by decide +kernel, rfl, by decide +kernel, by decide +kernel⟩
theorem ok_cleared (F : Fun K "cleared" "cleared" s_cleared f fd) (B : Bl mg) (c_common_divisor : Cal P w K mg base 1 "common_divisor" ["one", "other"] (sp_common_divisor K)) : FnOk P w K mg base CX0 2 f fd ["P"] (sp_cleared K) := by
  refine F.ok sc_cleared (fun vs H Q E h => ?_) (fun cdv A outer s H vs Q E hr h => ?_)
  · obtain ⟨_, _, _, _, rfl, _⟩ := h
    rfl
  have nd := sc_cleared.nd
  have hu := hr.units0
  have hu64 := hr.units
  exact ⟨T_cleared K, (pss_cons (ps_set (i := 1) nd rfl (Or.inr rfl) pe_int)
    (pss_cons (ps_for PassesOwn.never rfl (pi_tup (pv 0)) (pg_name (i := 2) nd rfl (Or.inl rfl)) (pss_one (ps_aug (i := 1) nd rfl (Or.inr rfl) (pe_op op_fdivP (pe_ix ix_tupH (pv 2) pe_int (fun _ _ => rfl)) (c_common_divisor.pe hr (by decide) rfl (pa_cons (pv 1) (pa_cons (pe_ix ix_tupH (pv 2) pe_int (fun _ _ => rfl)) pa_nil)))) iop_mulB)))
    (pss_one (ps_ret (pe_tup (pa_cons (pe_comp (N := ["number", "bottom"]) (capt := [none, some 1]) rfl (BlkOk.of rfl rfl rfl rfl (List.forall_mem_singleton.mpr rfl) rfl rfl rfl) (pi_tup (pv 0)) (fun _ _ _ _ => (pg_name (i := 0) (show (["number", "bottom"] : List PySem.Str).Nodup by decide +kernel) rfl (Or.inl rfl))) (fun _ _ _ _ => (pe_op op_mulB (pe_ix ix_tupH (pv 0) pe_int (fun _ _ => rfl)) (pe_op op_fdivP (pv 1) (pe_ix ix_tupH (pv 0) pe_int (fun _ _ => rfl)))))) (pa_cons (pv 1) pa_nil))))))), vc_cleared h⟩
theorem sc_uncleared : FnScope ["row", "bottom"] ["row", "bottom"] (defScope s_uncleared) := ⟨rfl, rfl, rfl, by decide +kernel, rfl, by decide +kernel, by decide +kernel⟩
theorem ok_uncleared (F : Fun K "uncleared" "uncleared" s_uncleared f fd) (B : Bl mg) (c_ratio : Cal P w K mg base 2 "ratio" ["top", "bottom"] (sp_ratio K)) (c_poly : Cal P w K mg base 1 "poly" ["row"] (sp_poly K)) : FnOk P w K mg base CX0 3 f fd ["row", "bottom"] (sp_uncleared K) := by
  refine F.ok sc_uncleared (fun vs H Q E h => ?_) (fun cdv A outer s H vs Q E hr h => ?_)
  · obtain ⟨_, _, _, rfl, _⟩ := h
    rfl
  have nd := sc_uncleared.nd
  have hu := hr.units0
  have hu64 := hr.units
  exact ⟨T_uncleared K, (pss_one (ps_ret (c_poly.pe hr (by decide) rfl (pa_cons (pe_comp (N := ["whole", "bottom"]) (capt := [none, some 1]) rfl (BlkOk.of rfl rfl rfl rfl (List.forall_mem_singleton.mpr rfl) rfl rfl rfl) (pi_list (pv 0)) (fun _ _ _ _ => (pg_name (i := 0) (show (["whole", "bottom"] : List PySem.Str).Nodup by decide +kernel) rfl (Or.inl rfl))) (fun _ _ _ _ => (c_ratio.pe hr (by decide) rfl (pa_cons (pv 0) (pa_cons (pv 1) pa_nil))))) pa_nil)))), vc_uncleared h⟩
theorem sc_p_at : FnScope ["P", "c", "row", "value", "scale", "whole"] ["P", "c"] (defScope s_p_at) := ⟨rfl, rfl, rfl, by decide +kernel, rfl, by decide +kernel, by decide +kernel⟩
theorem ok_p_at (F : Fun K "p_at" "p_at" s_p_at f fd) (B : Bl mg) (c_cleared : Cal P w K mg base 2 "cleared" ["P"] (sp_cleared K)) (c_ratio : Cal P w K mg base 2 "ratio" ["top", "bottom"] (sp_ratio K)) : FnOk P w K mg base CX0 3 f fd ["P", "c"] (sp_p_at K) := by
  refine F.ok sc_p_at (fun vs H Q E h => ?_) (fun cdv A outer s H vs Q E hr h => ?_)
  · obtain ⟨_, _, _, _, _, _, rfl, _⟩ := h
    rfl
  have nd := sc_p_at.nd
  have hu := hr.units0
  have hu64 := hr.units
  exact ⟨T_p_at K, (pss_cons (ps_set (i := 2) nd rfl (Or.inl rfl) (c_cleared.pe hr (by decide) rfl (pa_cons (pv 0) pa_nil)))
    (pss_cons (ps_set (i := 3) nd rfl (Or.inl rfl) pe_int)
    (pss_cons (ps_set (i := 4) nd rfl (Or.inl rfl) pe_int)
    (pss_cons (ps_for PassesOwn.never rfl (pi_rev rfl B.reversed (pa_cons (pe_ix ix_tupH (pv 2) pe_int (fun _ _ => rfl)) pa_nil)) (pg_name (i := 5) nd rfl (Or.inl rfl)) (pss_cons (ps_set (i := 3) nd rfl (Or.inl rfl) (pe_op op_add (pe_op op_mulB (pv 3) (pe_ix ix_tupH (pv 1) pe_int (fun _ _ => rfl))) (pe_op op_mulB (pv 5) (pv 4))))
    (pss_one (ps_aug (i := 4) nd rfl (Or.inl rfl) (pe_ix ix_tupH (pv 1) pe_int (fun _ _ => rfl)) iop_mulB))))
    (pss_one (ps_ret (c_ratio.pe hr (by decide) rfl (pa_cons (pe_op op_mulB (pv 3) (pe_ix ix_tupH (pv 1) pe_int (fun _ _ => rfl))) (pa_cons (pe_op op_mulB (pe_ix ix_tupH (pv 2) pe_int (fun _ _ => rfl)) (pv 4)) pa_nil))))))))), vc_p_at h⟩
theorem sc_p_moved : FnScope ["P", "c", "row", "scales", "number", "last", "stretched", "moved"] ["P", "c"] (defScope s_p_moved) := ⟨rfl, rfl, rfl, by decide +kernel, rfl, by decide +kernel, by decide +kernel⟩
theorem ok_p_moved (F : Fun K "p_moved" "p_moved" s_p_moved f fd) (B : Bl mg) (c_cleared : Cal P w K mg base 2 "cleared" ["P"] (sp_cleared K)) (c_row_moved : Cal P w K mg base 1 "row_moved" ["row", "whole"] (sp_row_moved K)) (c_uncleared : Cal P w K mg base 3 "uncleared" ["row", "bottom"] (sp_uncleared K)) : FnOk P w K mg base CX0 4 f fd ["P", "c"] (sp_p_moved K) := by
  refine F.ok sc_p_moved (fun vs H Q E h => ?_) (fun cdv A outer s H vs Q E hr h => ?_)
  · obtain ⟨_, _, _, _, _, _, rfl, _⟩ := h
    rfl
  have nd := sc_p_moved.nd
  have hu := hr.units0
  have hu64 := hr.units
  exact ⟨T_p_moved K, (pss_cons (ps_set (i := 2) nd rfl (Or.inl rfl) (c_cleared.pe hr (by decide) rfl (pa_cons (pv 0) pa_nil)))
    (pss_cons (ps_set (i := 3) nd rfl (Or.inr rfl) (pe_lst (pa_cons pe_int pa_nil)))
    (pss_cons (ps_for PassesOwn.never rfl (pi_tup (pv 0)) (pg_name (i := 4) nd rfl (Or.inl rfl)) (pss_one (ps_expr (pe_bm PySem.F.plainAttrs_list PySem.F.slot_list_append PySem.F.type_list_append mt_append (pv 3) (pa_cons (pe_op op_mulB (pe_ix ix_lstH (pv 3) (pe_un un_neg pe_int) (fun _ _ => rfl)) (pe_ix ix_tupH (pv 1) pe_int (fun _ _ => rfl))) pa_nil)))))
    (pss_cons (ps_set (i := 5) nd rfl (Or.inr rfl) (pe_op op_sub (pe_callB call_lenT rfl B.len bt_len (pa_cons (pv 0) pa_nil)) pe_int))
    (pss_cons (ps_setC (i := 6) (N := ["place", "whole", "scales", "last"]) (capt := [none, none, some 3, some 5]) nd rfl (Or.inl rfl) rfl (BlkOk.of rfl rfl rfl rfl (List.forall_mem_cons.mpr ⟨rfl, (List.forall_mem_singleton.mpr rfl)⟩) rfl rfl rfl) (pi_enumL rfl B.enumerate (pa_cons (pe_ix ix_tupH (pv 2) pe_int (fun _ _ => rfl)) pa_nil)) (fun _ _ _ _ => (pg_tupH rfl (pgs_cons (pg_name (i := 0) (show (["place", "whole", "scales", "last"] : List PySem.Str).Nodup by decide +kernel) rfl (Or.inl rfl)) (pgs_cons (pg_name (i := 1) (show (["place", "whole", "scales", "last"] : List PySem.Str).Nodup by decide +kernel) rfl (Or.inl rfl)) pgs_nil)))) (fun _ _ _ _ => (pe_op op_mulB (pv 1) (pe_ix ix_lstH (pv 2) (pe_op op_sub (pv 3) (pv 0)) (fun _ _ => rfl)))))
    (pss_cons (ps_set (i := 7) nd rfl (Or.inl rfl) (c_row_moved.pe hr (by decide) rfl (pa_cons (pv 6) (pa_cons (pe_ix ix_tupH (pv 1) pe_int (fun _ _ => rfl)) pa_nil))))
    (pss_one (ps_ret (c_uncleared.pe hr (by decide) rfl (pa_cons (pe_comp (N := ["place", "whole", "scales"]) (capt := [none, none, some 3]) rfl (BlkOk.of rfl rfl rfl rfl (List.forall_mem_singleton.mpr rfl) rfl rfl rfl) (pi_enumL rfl B.enumerate (pa_cons (pv 7) pa_nil)) (fun _ _ _ _ => (pg_tupH rfl (pgs_cons (pg_name (i := 0) (show (["place", "whole", "scales"] : List PySem.Str).Nodup by decide +kernel) rfl (Or.inl rfl)) (pgs_cons (pg_name (i := 1) (show (["place", "whole", "scales"] : List PySem.Str).Nodup by decide +kernel) rfl (Or.inl rfl)) pgs_nil)))) (fun _ _ _ _ => (pe_op op_mulB (pv 1) (pe_ix ix_lstH (pv 2) (pv 0) (fun _ _ => rfl))))) (pa_cons (pe_op op_mulB (pe_ix ix_tupH (pv 2) pe_int (fun _ _ => rfl)) (pe_ix ix_lstH (pv 3) (pv 5) (fun _ _ => rfl))) pa_nil))))))))))), vc_p_moved h⟩
theorem sc_p_power : FnScope ["P", "n", "row", "low"] ["P", "n"] (defScope s_p_power) := ⟨rfl, rfl, rfl, by decide +kernel, rfl, by decide +kernel, by decide +kernel⟩
theorem ok_p_power (F : Fun K "p_power" "p_power" s_p_power f fd) (B : Bl mg) (c_cleared : Cal P w K mg base 2 "cleared" ["P"] (sp_cleared K)) (c_row_power : Cal P w K mg base 2 "row_power" ["row", "n"] (sp_row_power K)) (c_raised : Cal P w K mg base 1 "raised" ["whole", "n"] (sp_raised K)) (c_uncleared : Cal P w K mg base 3 "uncleared" ["row", "bottom"] (sp_uncleared K)) : FnOk P w K mg base CX0 4 f fd ["P", "n"] (sp_p_power K) := by
  refine F.ok sc_p_power (fun vs H Q E h => ?_) (fun cdv A outer s H vs Q E hr h => ?_)
  · obtain ⟨_, _, _, _, rfl, _⟩ := h
    rfl
  have nd := sc_p_power.nd
  have hu := hr.units0
  have hu64 := hr.units
  exact ⟨T_p_power K, (pss_cons (ps_if (pt_cmpR op_eq (pv 1) pe_int (nomark _)) (pss_one (ps_ret (pe_tup (pa_cons (pe_tup (pa_cons pe_int (pa_cons pe_int pa_nil))) pa_nil)))) pss_nil)
    (pss_cons (ps_set (i := 2) nd rfl (Or.inl rfl) (c_cleared.pe hr (by decide) rfl (pa_cons (pv 0) pa_nil)))
    (pss_cons (ps_set (i := 3) nd rfl (Or.inl rfl) pe_int)
    (pss_cons (ps_while PassesOwn.never (PW.pt (pw_and (pt_cmpR op_lt (pv 3) (pe_callB call_lenT rfl B.len bt_len (pa_cons (pv 0) pa_nil)) (nomark _)) (pw_and1 (pt_cmpR op_eq (pe_ix ix_lstH (pe_ix ix_tupH (pv 2) pe_int (fun _ _ => rfl)) (pv 3) (fun _ _ => rfl)) pe_int (nomark _))))) (pss_one (ps_aug (i := 3) nd rfl (Or.inl rfl) pe_int iop_add)))
    (pss_cons (ps_if (pt_cmpR op_eq (pv 3) (pe_callB call_lenT rfl B.len bt_len (pa_cons (pv 0) pa_nil)) (nomark _)) (pss_one (ps_ret (pe_tup pa_nil))) pss_nil)
    (pss_one (ps_ret (c_uncleared.pe hr (by decide) rfl (pa_cons (pe_op op_cat (pe_op op_rep (pe_lst (pa_cons pe_int pa_nil)) (pe_op op_mulB (pv 3) (pv 1))) (c_row_power.pe hr (by decide) rfl (pa_cons (pe_slice sl_lstH (pe_ix ix_tupH (pv 2) pe_int (fun _ _ => rfl)) (po_some (pv 3)) po_none) (pa_cons (pv 1) pa_nil)))) (pa_cons (c_raised.pe hr (by decide) rfl (pa_cons (pe_ix ix_tupH (pv 2) pe_int (fun _ _ => rfl)) (pa_cons (pv 1) pa_nil))) pa_nil)))))))))), vc_p_power h⟩
theorem sc_l_box : FnScope ["_law_script", "_law_k", "_law_cell", "_law_plain"] ["_law_script", "_law_k"] (defScope s_l_box) := ⟨rfl, rfl, rfl, by decide +kernel, rfl, by decide +kernel, by decide +kernel⟩
theorem ok_l_box (F : Fun K "_law_box" "_law_box" s_l_box f fd) (B : Bl mg)  : FnOk P w K mg base CX0 1 f fd ["_law_script", "_law_k"] (sp_l_box K) := by
  refine F.ok sc_l_box (fun vs H Q E h => ?_) (fun cdv A outer s H vs Q E hr h => ?_)
  · obtain ⟨_, _, _, rfl, _⟩ := h
    rfl
  have nd := sc_l_box.nd
  have hu := hr.units0
  have hu64 := hr.units
  exact ⟨T_l_box K, (pss_cons (ps_set (i := 2) nd rfl (Or.inl rfl) pe_int)
    (pss_cons (ps_if (pt_cmpR op_lt (pv 1) (pe_callB call_lenS rfl B.len bt_len (pa_cons (pv 0) pa_nil)) (nomark _)) (pss_one (ps_set (i := 2) nd rfl (Or.inl rfl) (pe_ix ix_script (pv 0) (pv 1) (fun _ _ => rfl)))) pss_nil)
    (pss_cons (ps_set (i := 3) nd rfl (Or.inl rfl) (pe_and (pe_cmpR op_gt (pe_callB call_lenS rfl B.len bt_len (pa_cons (pv 0) pa_nil)) pe_int (nomark _)) (pe_one (pe_cmpR op_eq (pe_op op_mod (pe_ix ix_script (pv 0) pe_int (fun _ _ => rfl)) pe_int) pe_int (nomark _)))))
    (pss_one (ps_ret (pe_lst (pa_cons (pe_op op_mulB (pe_callB call_absB rfl B.abs bt_abs (pa_cons (pv 2) pa_nil)) (pe_callTy call_intB rfl B.int bt_int (pa_cons (pv 3) pa_nil))) (pa_cons (pe_callB call_absB rfl B.abs bt_abs (pa_cons (pv 2) pa_nil)) (pa_cons (pe_op op_mulB pe_int (pv 1)) pa_nil))))))))), vc_l_box h⟩
theorem sc_l_take : FnScope ["_law_box_here", "_law_many", "_law_digit", "_law_m"] ["_law_box_here", "_law_many"] (defScope s_l_take) := ⟨rfl, rfl, rfl, by decide +kernel, rfl, by decide +kernel, by decide +kernel⟩
theorem ok_l_take (F : Fun K "_law_take" "_law_take" s_l_take f fd) (B : Bl mg)  : FnOk P w K mg base CX0 1 f fd ["_law_box_here", "_law_many"] (sp_l_take K) := by
  refine F.ok sc_l_take (fun vs H Q E h => ?_) (fun cdv A outer s H vs Q E hr h => ?_)
  · obtain ⟨_, _, _, rfl, _⟩ := h
    rfl
  have nd := sc_l_take.nd
  have hu := hr.units0
  have hu64 := hr.units
  exact ⟨T_l_take K, (pss_cons (ps_if (pt_cmpR op_gt (pe_ix ix_lstH (pv 0) pe_int (fun _ _ => rfl)) pe_int (nomark _)) (pss_cons (ps_set (i := 2) nd rfl (Or.inl rfl) (pe_op op_mod (pe_ix ix_lstH (pv 0) pe_int (fun _ _ => rfl)) (pv 1)))
    (pss_cons (ps_asg (pe_op op_fdivP (pe_ix ix_lstH (pv 0) pe_int (fun _ _ => rfl)) (pv 1)) (pg_sub (pv 0) pe_int set_list))
    (pss_one (ps_ret (pv 2))))) pss_nil)
    (pss_cons (ps_asg (pe_op op_add (pe_ix ix_lstH (pv 0) pe_int (fun _ _ => rfl)) pe_int) (pg_sub (pv 0) pe_int set_list))
    (pss_cons (ps_set (i := 3) nd rfl (Or.inl rfl) (pe_op op_add (pe_op op_mod (pe_ix ix_lstH (pv 0) pe_int (fun _ _ => rfl)) pe_int) pe_int))
    (pss_cons (ps_set (i := 3) nd rfl (Or.inl rfl) (pe_op op_mod (pe_op op_mulB (pv 3) (pe_op op_add pe_int (pe_op op_mulB (pe_ix ix_lstH (pv 0) pe_int (fun _ _ => rfl)) (pe_ix ix_lstH (pv 0) pe_int (fun _ _ => rfl))))) pe_int))
    (pss_cons (ps_set (i := 3) nd rfl (Or.inl rfl) (pe_op op_mod (pe_op op_mulB (pv 3) (pe_op op_add (pe_op op_add (pe_op op_mod (pv 3) pe_int) (pe_op op_mulB (pe_ix ix_lstH (pv 0) pe_int (fun _ _ => rfl)) pe_int)) pe_int)) pe_int))
    (pss_one (ps_ret (pe_op op_mod (pe_op op_add (pe_op op_fdivP (pe_op op_mulB (pv 3) (pv 3)) pe_int) (pe_op op_fdivP (pv 3) pe_int)) (pv 1))))))))), vc_l_take h⟩
theorem sc_l_lowest : FnScope ["_law_top", "_law_bottom", "_law_one", "_law_other"] ["_law_top", "_law_bottom"] (defScope s_l_lowest) := ⟨rfl, rfl, rfl, by decide +kernel, rfl, by decide +kernel, by decide +kernel⟩
theorem ok_l_lowest (F : Fun K "_law_lowest" "_law_lowest" s_l_lowest f fd) (B : Bl mg)  : FnOk P w K mg base CX0 1 f fd ["_law_top", "_law_bottom"] (sp_l_lowest K) := by
  refine F.ok sc_l_lowest (fun vs H Q E h => ?_) (fun cdv A outer s H vs Q E hr h => ?_)
  · obtain ⟨_, _, rfl, _⟩ := h
    rfl
  have nd := sc_l_lowest.nd
  have hu := hr.units0
  have hu64 := hr.units
  exact ⟨T_l_lowest K, (pss_cons (ps_par (i := 2) (j := 3) rfl nd rfl rfl (by decide) rfl rfl (pa_cons (pe_callB call_absB rfl B.abs bt_abs (pa_cons (pv 0) pa_nil)) (pa_cons (pv 1) pa_nil)) rfl)
    (pss_cons (ps_while PassesOwn.never (pt_cmpR op_gt (pv 3) pe_int (nomark _)) (pss_one (ps_par (i := 2) (j := 3) rfl nd rfl rfl (by decide) rfl rfl (pa_cons (pv 3) (pa_cons (pe_op op_mod (pv 2) (pv 3)) pa_nil)) rfl)))
    (pss_one (ps_ret (pe_tup (pa_cons (pe_op op_fdivP (pv 0) (pv 2)) (pa_cons (pe_op op_fdivP (pv 1) (pv 2)) pa_nil))))))), vc_l_lowest h⟩
theorem sc_l_number : FnScope ["_law_box_here", "_law_kind"] ["_law_box_here"] (defScope s_l_number) := ⟨rfl, rfl, rfl, by decide +kernel, rfl, by decide +kernel, by decide +kernel⟩
theorem ok_l_number (F : Fun K "_law_number" "_law_number" s_l_number f fd) (B : Bl mg) (c_l_take : Cal P w K mg base 1 "_law_take" ["_law_box_here", "_law_many"] (sp_l_take K)) (c_l_lowest : Cal P w K mg base 1 "_law_lowest" ["_law_top", "_law_bottom"] (sp_l_lowest K)) : FnOk P w K mg base CX0 2 f fd ["_law_box_here"] (sp_l_number K) := by
  refine F.ok sc_l_number (fun vs H Q E h => ?_) (fun cdv A outer s H vs Q E hr h => ?_)
  · obtain ⟨_, _, rfl, _⟩ := h
    rfl
  have nd := sc_l_number.nd
  have hu := hr.units0
  have hu64 := hr.units
  exact ⟨T_l_number K, (pss_cons (ps_set (i := 1) nd rfl (Or.inl rfl) (c_l_take.pe hr (by decide) rfl (pa_cons (pv 0) (pa_cons pe_int pa_nil))))
    (pss_cons (ps_if (pt_cmpR op_eq (pv 1) pe_int (nomark _)) (pss_one (ps_ret (pe_tup (pa_cons (pe_op op_sub (c_l_take.pe hr (by decide) rfl (pa_cons (pv 0) (pa_cons pe_int pa_nil))) pe_int) (pa_cons pe_int pa_nil))))) pss_nil)
    (pss_cons (ps_if (pt_cmpR op_eq (pv 1) pe_int (nomark _)) (pss_one (ps_ret (c_l_lowest.pe hr (by decide) rfl (pa_cons (pe_op op_sub (c_l_take.pe hr (by decide) rfl (pa_cons (pv 0) (pa_cons pe_int pa_nil))) pe_int) (pa_cons (pe_op op_add pe_int (c_l_take.pe hr (by decide) rfl (pa_cons (pv 0) (pa_cons pe_int pa_nil)))) pa_nil))))) pss_nil)
    (pss_cons (ps_if (pt_cmpR op_eq (pv 1) pe_int (nomark _)) (pss_one (ps_ret (c_l_lowest.pe hr (by decide) rfl (pa_cons (pe_op op_sub (c_l_take.pe hr (by decide) rfl (pa_cons (pv 0) (pa_cons pe_int pa_nil))) pe_int) (pa_cons (pe_op op_add pe_int (c_l_take.pe hr (by decide) rfl (pa_cons (pv 0) (pa_cons pe_int pa_nil)))) pa_nil))))) pss_nil)
    (pss_one (ps_ret (pe_tup (pa_cons (pe_op op_sub (c_l_take.pe hr (by decide) rfl (pa_cons (pv 0) (pa_cons pe_int pa_nil))) pe_int) (pa_cons pe_int pa_nil))))))))), vc_l_number h⟩
theorem sc_l_sum : FnScope ["_law_one", "_law_other"] ["_law_one", "_law_other"] (defScope s_l_sum) := ⟨rfl, rfl, rfl, by decide +kernel, rfl, by decide +kernel, by decide +kernel⟩
theorem ok_l_sum (F : Fun K "_law_sum" "_law_sum" s_l_sum f fd) (B : Bl mg) (c_l_lowest : Cal P w K mg base 1 "_law_lowest" ["_law_top", "_law_bottom"] (sp_l_lowest K)) : FnOk P w K mg base CX0 2 f fd ["_law_one", "_law_other"] (sp_l_sum K) := by
  refine F.ok sc_l_sum (fun vs H Q E h => ?_) (fun cdv A outer s H vs Q E hr h => ?_)
  · obtain ⟨_, _, _, _, _, _, rfl, _⟩ := h
    rfl
  have nd := sc_l_sum.nd
  have hu := hr.units0
  have hu64 := hr.units
  exact ⟨T_l_sum K, (pss_one (ps_ret (c_l_lowest.pe hr (by decide) rfl (pa_cons (pe_op op_add (pe_op op_mulB (pe_ix ix_tupH (pv 0) pe_int (fun _ _ => rfl)) (pe_ix ix_tupH (pv 1) pe_int (fun _ _ => rfl))) (pe_op op_mulB (pe_ix ix_tupH (pv 1) pe_int (fun _ _ => rfl)) (pe_ix ix_tupH (pv 0) pe_int (fun _ _ => rfl)))) (pa_cons (pe_op op_mulB (pe_ix ix_tupH (pv 0) pe_int (fun _ _ => rfl)) (pe_ix ix_tupH (pv 1) pe_int (fun _ _ => rfl))) pa_nil))))), vc_l_sum h⟩
theorem sc_l_product : FnScope ["_law_one", "_law_other"] ["_law_one", "_law_other"] (defScope s_l_product) := ⟨rfl, rfl, rfl, by decide +kernel, rfl, by decide +kernel, by decide +kernel⟩
theorem ok_l_product (F : Fun K "_law_product" "_law_product" s_l_product f fd) (B : Bl mg) (c_l_lowest : Cal P w K mg base 1 "_law_lowest" ["_law_top", "_law_bottom"] (sp_l_lowest K)) : FnOk P w K mg base CX0 2 f fd ["_law_one", "_law_other"] (sp_l_product K) := by
  refine F.ok sc_l_product (fun vs H Q E h => ?_) (fun cdv A outer s H vs Q E hr h => ?_)
  · obtain ⟨_, _, _, _, _, _, rfl, _⟩ := h
    rfl
  have nd := sc_l_product.nd
  have hu := hr.units0
  have hu64 := hr.units
  exact ⟨T_l_product K, (pss_one (ps_ret (c_l_lowest.pe hr (by decide) rfl (pa_cons (pe_op op_mulB (pe_ix ix_tupH (pv 0) pe_int (fun _ _ => rfl)) (pe_ix ix_tupH (pv 1) pe_int (fun _ _ => rfl))) (pa_cons (pe_op op_mulB (pe_ix ix_tupH (pv 0) pe_int (fun _ _ => rfl)) (pe_ix ix_tupH (pv 1) pe_int (fun _ _ => rfl))) pa_nil))))), vc_l_product h⟩
theorem sc_l_is_number : FnScope ["_law_found", "_law_part"] ["_law_found"] (defScope s_l_is_number) := ⟨rfl, rfl, rfl, by decide +kernel, rfl, by decide +kernel, by decide +kernel⟩
theorem ok_l_is_number (F : Fun K "_law_is_number" "_law_is_number" s_l_is_number f fd) (B : Bl mg) (c_l_lowest : Cal P w K mg base 1 "_law_lowest" ["_law_top", "_law_bottom"] (sp_l_lowest K)) : FnOk P w K mg base CX0 2 f fd ["_law_found"] (sp_l_is_number K) := by
  refine F.ok sc_l_is_number (fun vs H Q E h => ?_) (fun cdv A outer s H vs Q E hr h => ?_)
  · obtain ⟨_, _, _, rfl, _⟩ := h
    rfl
  have nd := sc_l_is_number.nd
  have hu := hr.units0
  have hu64 := hr.units
  exact ⟨T_l_is_number K, (pss_cons (ps_if (PW.pt (pw_or (pt_not (pt_val (pe_callB call_isi rfl B.isinstance bt_isinstance (pa_cons (pv 0) (pa_cons (pe_bltn rfl B.tuple bt_tuple rfl) pa_nil))))) (pw_or1 (pt_cmpR op_ne (pe_callB call_lenT rfl B.len bt_len (pa_cons (pv 0) pa_nil)) pe_int (nomark _))))) (pss_one (ps_ret pe_bl)) pss_nil)
    (pss_cons (ps_for PassesOwn.never rfl (pi_tup (pv 0)) (pg_name (i := 1) nd rfl (Or.inl rfl)) (pss_one (ps_if (PW.pt (pw_or (pt_not (pt_val (pe_callB call_isi rfl B.isinstance bt_isinstance (pa_cons (pv 1) (pa_cons (pe_bltn rfl B.int bt_int rfl) pa_nil))))) (pw_or1 (pt_val (pe_callB call_isi rfl B.isinstance bt_isinstance (pa_cons (pv 1) (pa_cons (pe_bltn rfl B.bool bt_bool rfl) pa_nil))))))) (pss_one (ps_ret pe_bl)) pss_nil)))
    (pss_one (ps_ret (pe_and (pe_cmpR op_gt (pe_ix ix_tupH (pv 0) pe_int (fun _ _ => rfl)) pe_int (nomark _)) (pe_one (pe_cmpR (op_eqT hu) (c_l_lowest.pe hr (by decide) rfl (pa_cons (pe_ix ix_tupH (pv 0) pe_int (fun _ _ => rfl)) (pa_cons (pe_ix ix_tupH (pv 0) pe_int (fun _ _ => rfl)) pa_nil))) (pv 0) (nomark _)))))))), vc_l_is_number h⟩
theorem sc_l_poly_of : FnScope ["_law_row", "_law_many"] ["_law_row"] (defScope s_l_poly_of) := ⟨rfl, rfl, rfl, by decide +kernel, rfl, by decide +kernel, by decide +kernel⟩
theorem ok_l_poly_of (F : Fun K "_law_poly_of" "_law_poly_of" s_l_poly_of f fd) (B : Bl mg)  : FnOk P w K mg base CX0 1 f fd ["_law_row"] (sp_l_poly_of K) := by
  refine F.ok sc_l_poly_of (fun vs H Q E h => ?_) (fun cdv A outer s H vs Q E hr h => ?_)
  · obtain ⟨_, _, _, rfl, _⟩ := h
    rfl
  have nd := sc_l_poly_of.nd
  have hu := hr.units0
  have hu64 := hr.units
  exact ⟨T_l_poly_of K, (pss_cons (ps_set (i := 1) nd rfl (Or.inl rfl) (pe_callB call_lenL rfl B.len bt_len (pa_cons (pv 0) pa_nil)))
    (pss_cons (ps_while PassesOwn.never (PW.pt (pw_and (pt_cmpR op_gt (pv 1) pe_int (nomark _)) (pw_and1 (pt_cmpR op_eq (pe_ix ix_tupH (pe_ix ix_lstH (pv 0) (pe_op op_sub (pv 1) pe_int) (fun _ _ => rfl)) pe_int (fun _ _ => rfl)) pe_int (nomark _))))) (pss_one (ps_set (i := 1) nd rfl (Or.inl rfl) (pe_op op_sub (pv 1) pe_int))))
    (pss_one (ps_ret (pe_callTy call_tupL rfl B.tuple bt_tuple (pa_cons (pe_slice sl_lstH (pv 0) po_none (po_some (pv 1))) pa_nil)))))), vc_l_poly_of h⟩
theorem sc_l_poly : FnScope ["_law_box_here", "_law_most"] ["_law_box_here", "_law_most"] (defScope s_l_poly) := ⟨rfl, rfl, rfl, by decide +kernel, rfl, by decide +kernel, by decide +kernel⟩
theorem ok_l_poly (F : Fun K "_law_poly" "_law_poly" s_l_poly f fd) (B : Bl mg) (c_l_take : Cal P w K mg base 1 "_law_take" ["_law_box_here", "_law_many"] (sp_l_take K)) (c_l_number : Cal P w K mg base 2 "_law_number" ["_law_box_here"] (sp_l_number K)) (c_l_poly_of : Cal P w K mg base 1 "_law_poly_of" ["_law_row"] (sp_l_poly_of K)) : FnOk P w K mg base CX0 3 f fd ["_law_box_here", "_law_most"] (sp_l_poly K) := by
  refine F.ok sc_l_poly (fun vs H Q E h => ?_) (fun cdv A outer s H vs Q E hr h => ?_)
  · obtain ⟨_, _, _, rfl, _⟩ := h
    rfl
  have nd := sc_l_poly.nd
  have hu := hr.units0
  have hu64 := hr.units
  exact ⟨T_l_poly K, (pss_one (ps_ret (c_l_poly_of.pe hr (by decide) rfl (pa_cons (pe_comp (N := ["_law_k", "_law_box_here"]) (capt := [none, some 0]) rfl (BlkOk.of rfl rfl rfl rfl (List.forall_mem_singleton.mpr rfl) rfl rfl rfl) (pi_range1 rfl B.range (pa_cons (c_l_take.pe hr (by decide) rfl (pa_cons (pv 0) (pa_cons (pe_op op_add (pv 1) pe_int) pa_nil))) pa_nil)) (fun _ _ _ _ => (pg_name (i := 0) (show (["_law_k", "_law_box_here"] : List PySem.Str).Nodup by decide +kernel) rfl (Or.inl rfl))) (fun _ _ _ _ => (c_l_number.pe hr (by decide) rfl (pa_cons (pv 1) pa_nil)))) pa_nil)))), vc_l_poly h⟩
theorem sc_l_is_poly : FnScope ["_law_found"] ["_law_found"] (defScope s_l_is_poly) := ⟨rfl, rfl, rfl, by decide +kernel, rfl, by decide +kernel, by decide +kernel⟩
theorem ok_l_is_poly (F : Fun K "_law_is_poly" "_law_is_poly" s_l_is_poly f fd) (B : Bl mg) (c_l_is_number : Cal P w K mg base 2 "_law_is_number" ["_law_found"] (sp_l_is_number K)) : FnOk P w K mg base CX0 3 f fd ["_law_found"] (sp_l_is_poly K) := by
  refine F.ok sc_l_is_poly (fun vs H Q E h => ?_) (fun cdv A outer s H vs Q E hr h => ?_)
  · obtain ⟨_, _, _, rfl, _⟩ := h
    rfl
  have nd := sc_l_is_poly.nd
  have hu := hr.units0
  have hu64 := hr.units
  exact ⟨T_l_is_poly K, (pss_cons (ps_if (PW.pt (pw_or (pt_not (pt_val (pe_callB call_isi rfl B.isinstance bt_isinstance (pa_cons (pv 0) (pa_cons (pe_bltn rfl B.tuple bt_tuple rfl) pa_nil))))) (pw_or1 (pt_not (pt_val (pe_callB (call_allL rfl) rfl B.all bt_all (pa_cons (pe_comp (N := ["_law_one"]) (capt := [none]) rfl (BlkOk.of rfl rfl rfl rfl (fun _ h => nomatch h) rfl rfl rfl) (pi_tup (pv 0)) (fun _ _ _ _ => (pg_name (i := 0) (show (["_law_one"] : List PySem.Str).Nodup by decide +kernel) rfl (Or.inl rfl))) (fun _ _ _ _ => (c_l_is_number.pe hr (by decide) rfl (pa_cons (pv 0) pa_nil)))) pa_nil))))))) (pss_one (ps_ret pe_bl)) pss_nil)
    (pss_one (ps_ret (pe_or (pe_cmpR op_eq (pe_callB call_lenT rfl B.len bt_len (pa_cons (pv 0) pa_nil)) pe_int (nomark _)) (pe_one (pe_cmpR op_ne (pe_ix ix_tupH (pe_ix ix_tupH (pv 0) (pe_un un_neg pe_int) (fun _ _ => rfl)) pe_int (fun _ _ => rfl)) pe_int (nomark _))))))), vc_l_is_poly h⟩
theorem sc_l_multiplied : FnScope ["_law_kp", "_law_kq", "_law_row", "_law_k", "_law_one", "_law_j", "_law_other"] ["_law_kp", "_law_kq"] (defScope s_l_multiplied) := ⟨rfl, rfl, rfl, by decide +kernel, rfl, by decide +kernel, by decide +kernel⟩
theorem ok_l_multiplied (F : Fun K "_law_multiplied" "_law_multiplied" s_l_multiplied f fd) (B : Bl mg) (c_l_product : Cal P w K mg base 2 "_law_product" ["_law_one", "_law_other"] (sp_l_product K)) (c_l_sum : Cal P w K mg base 2 "_law_sum" ["_law_one", "_law_other"] (sp_l_sum K)) (c_l_poly_of : Cal P w K mg base 1 "_law_poly_of" ["_law_row"] (sp_l_poly_of K)) : FnOk P w K mg base CX0 3 f fd ["_law_kp", "_law_kq"] (sp_l_multiplied K) := by
  refine F.ok sc_l_multiplied (fun vs H Q E h => ?_) (fun cdv A outer s H vs Q E hr h => ?_)
  · obtain ⟨_, _, _, _, _, _, _, _, rfl, _⟩ := h
    rfl
  have nd := sc_l_multiplied.nd
  have hu := hr.units0
  have hu64 := hr.units
  exact ⟨T_l_multiplied K, (pss_cons (ps_set (i := 2) nd rfl (Or.inl rfl) (pe_op op_rep (pe_lst (pa_cons (pe_tup (pa_cons pe_int (pa_cons pe_int pa_nil))) pa_nil)) (pe_op op_add (pe_callB call_lenT rfl B.len bt_len (pa_cons (pv 0) pa_nil)) (pe_callB call_lenT rfl B.len bt_len (pa_cons (pv 1) pa_nil)))))
    (pss_cons (ps_for PassesOwn.never rfl (pi_enumT rfl B.enumerate (pa_cons (pv 0) pa_nil)) (pg_tupH rfl (pgs_cons (pg_name (i := 3) nd rfl (Or.inl rfl)) (pgs_cons (pg_name (i := 4) nd rfl (Or.inl rfl)) pgs_nil))) (pss_one (ps_for PassesOwn.never rfl (pi_enumT rfl B.enumerate (pa_cons (pv 1) pa_nil)) (pg_tupH rfl (pgs_cons (pg_name (i := 5) nd rfl (Or.inl rfl)) (pgs_cons (pg_name (i := 6) nd rfl (Or.inl rfl)) pgs_nil))) (pss_one (ps_asg (c_l_sum.pe hr (by decide) rfl (pa_cons (pe_ix ix_lstH (pv 2) (pe_op op_add (pv 3) (pv 5)) (fun _ _ => rfl)) (pa_cons (c_l_product.pe hr (by decide) rfl (pa_cons (pv 4) (pa_cons (pv 6) pa_nil))) pa_nil))) (pg_sub (pv 2) (pe_op op_add (pv 3) (pv 5)) set_list))))))
    (pss_one (ps_ret (c_l_poly_of.pe hr (by decide) rfl (pa_cons (pv 2) pa_nil)))))), vc_l_multiplied h⟩
theorem sc_l_at : FnScope ["_law_kp", "_law_c", "_law_worth", "_law_high", "_law_one"] ["_law_kp", "_law_c"] (defScope s_l_at) := ⟨rfl, rfl, rfl, by decide +kernel, rfl, by decide +kernel, by decide +kernel⟩
theorem ok_l_at (F : Fun K "_law_at" "_law_at" s_l_at f fd) (B : Bl mg) (c_l_product : Cal P w K mg base 2 "_law_product" ["_law_one", "_law_other"] (sp_l_product K)) (c_l_sum : Cal P w K mg base 2 "_law_sum" ["_law_one", "_law_other"] (sp_l_sum K)) : FnOk P w K mg base CX0 3 f fd ["_law_kp", "_law_c"] (sp_l_at K) := by
  refine F.ok sc_l_at (fun vs H Q E h => ?_) (fun cdv A outer s H vs Q E hr h => ?_)
  · obtain ⟨_, _, _, _, _, _, _, rfl, _⟩ := h
    rfl
  have nd := sc_l_at.nd
  have hu := hr.units0
  have hu64 := hr.units
  exact ⟨T_l_at K, (pss_cons (ps_set (i := 2) nd rfl (Or.inl rfl) (pe_tup (pa_cons pe_int (pa_cons pe_int pa_nil))))
    (pss_cons (ps_set (i := 3) nd rfl (Or.inl rfl) (pe_tup (pa_cons pe_int (pa_cons pe_int pa_nil))))
    (pss_cons (ps_for PassesOwn.never rfl (pi_tup (pv 0)) (pg_name (i := 4) nd rfl (Or.inl rfl)) (pss_cons (ps_set (i := 2) nd rfl (Or.inl rfl) (c_l_sum.pe hr (by decide) rfl (pa_cons (pv 2) (pa_cons (c_l_product.pe hr (by decide) rfl (pa_cons (pv 4) (pa_cons (pv 3) pa_nil))) pa_nil))))
    (pss_one (ps_set (i := 3) nd rfl (Or.inl rfl) (c_l_product.pe hr (by decide) rfl (pa_cons (pv 3) (pa_cons (pv 1) pa_nil)))))))
    (pss_one (ps_ret (pv 2)))))), vc_l_at h⟩
theorem sc_l_moved_right : FnScope ["_law_kp", "_law_c", "_law_found", "_law_place"] ["_law_kp", "_law_c"] (defScope s_l_moved_right) := ⟨rfl, rfl, rfl, by decide +kernel, rfl, by decide +kernel, by decide +kernel⟩
theorem ok_l_moved_right (F : Fun K "_law_moved_right" "_law_moved_right" s_l_moved_right f fd) (B : Bl mg) (c_p_moved : Cal P w K mg base 4 "p_moved" ["P", "c"] (sp_p_moved K)) (c_l_is_poly : Cal P w K mg base 3 "_law_is_poly" ["_law_found"] (sp_l_is_poly K)) (c_l_at : Cal P w K mg base 3 "_law_at" ["_law_kp", "_law_c"] (sp_l_at K)) (c_l_sum : Cal P w K mg base 2 "_law_sum" ["_law_one", "_law_other"] (sp_l_sum K)) : FnOk P w K mg base CX0 5 f fd ["_law_kp", "_law_c"] (sp_l_moved_right K) := by
  refine F.ok sc_l_moved_right (fun vs H Q E h => ?_) (fun cdv A outer s H vs Q E hr h => ?_)
  · obtain ⟨_, _, _, _, _, _, rfl, _⟩ := h
    rfl
  have nd := sc_l_moved_right.nd
  have hu := hr.units0
  have hu64 := hr.units
  exact ⟨T_l_moved_right K, (pss_cons (ps_set (i := 2) nd rfl (Or.inl rfl) (c_p_moved.pe hr (by decide) rfl (pa_cons (pv 0) (pa_cons (pv 1) pa_nil))))
    (pss_cons (ps_if (PW.pt (pw_or (pt_not (pt_val (c_l_is_poly.pe hr (by decide) rfl (pa_cons (pv 2) pa_nil)))) (pw_or1 (pt_cmpR op_ne (pe_callB call_lenT rfl B.len bt_len (pa_cons (pv 2) pa_nil)) (pe_callB call_lenT rfl B.len bt_len (pa_cons (pv 0) pa_nil)) (nomark _))))) (pss_one (ps_ret pe_bl)) pss_nil)
    (pss_cons (ps_for PassesOwn.never rfl (pi_range2 rfl B.range (pa_cons (pe_un un_neg pe_int) (pa_cons pe_int pa_nil))) (pg_name (i := 3) nd rfl (Or.inl rfl)) (pss_one (ps_if (pt_cmpR (op_neD hu64) (c_l_at.pe hr (by decide) rfl (pa_cons (pv 2) (pa_cons (pe_tup (pa_cons (pv 3) (pa_cons pe_int pa_nil))) pa_nil))) (c_l_at.pe hr (by decide) rfl (pa_cons (pv 0) (pa_cons (c_l_sum.pe hr (by decide) rfl (pa_cons (pe_tup (pa_cons (pv 3) (pa_cons pe_int pa_nil))) (pa_cons (pv 1) pa_nil))) pa_nil))) (nomark _)) (pss_one (ps_ret pe_bl)) pss_nil)))
    (pss_one (ps_ret pe_bl))))), vc_l_moved_right h⟩
theorem sc_l_power_right : FnScope ["_law_kp", "_law_n", "_law_due", "_law_turn"] ["_law_kp", "_law_n"] (defScope s_l_power_right) := ⟨rfl, rfl, rfl, by decide +kernel, rfl, by decide +kernel, by decide +kernel⟩
theorem ok_l_power_right (F : Fun K "_law_power_right" "_law_power_right" s_l_power_right f fd) (B : Bl mg) (c_l_multiplied : Cal P w K mg base 3 "_law_multiplied" ["_law_kp", "_law_kq"] (sp_l_multiplied K)) (c_p_power : Cal P w K mg base 4 "p_power" ["P", "n"] (sp_p_power K)) : FnOk P w K mg base CX0 5 f fd ["_law_kp", "_law_n"] (sp_l_power_right K) := by
  refine F.ok sc_l_power_right (fun vs H Q E h => ?_) (fun cdv A outer s H vs Q E hr h => ?_)
  · obtain ⟨_, _, _, _, rfl, _⟩ := h
    rfl
  have nd := sc_l_power_right.nd
  have hu := hr.units0
  have hu64 := hr.units
  exact ⟨T_l_power_right K, (pss_cons (ps_set (i := 2) nd rfl (Or.inl rfl) (pe_tup (pa_cons (pe_tup (pa_cons pe_int (pa_cons pe_int pa_nil))) pa_nil)))
    (pss_cons (ps_for PassesOwn.never rfl (pi_range1 rfl B.range (pa_cons (pv 1) pa_nil)) (pg_name (i := 3) nd rfl (Or.inl rfl)) (pss_one (ps_set (i := 2) nd rfl (Or.inl rfl) (c_l_multiplied.pe hr (by decide) rfl (pa_cons (pv 2) (pa_cons (pv 0) pa_nil))))))
    (pss_one (ps_ret (pe_cmpR (op_eqD hu64) (c_p_power.pe hr (by decide) rfl (pa_cons (pv 0) (pa_cons (pv 1) pa_nil))) (pv 2) (nomark _)))))), vc_l_power_right h⟩
theorem sc_law : FnScope ["_law_script", "_law_k", "_law_box_here", "_law_kp", "_law_c", "_law_found", "_law_n", "_law_row"] ["_law_script"] (defScope s_law) := ⟨rfl, rfl, rfl, by decide +kernel, rfl, by decide +kernel, by decide +kernel⟩
theorem ok_law (F : Fun K "law" "law" s_law f fd) (B : Bl mg) (c_l_box : Cal P w K mg base 1 "_law_box" ["_law_script", "_law_k"] (sp_l_box K)) (c_l_poly : Cal P w K mg base 3 "_law_poly" ["_law_box_here", "_law_most"] (sp_l_poly K)) (c_l_number : Cal P w K mg base 2 "_law_number" ["_law_box_here"] (sp_l_number K)) (c_p_at : Cal P w K mg base 3 "p_at" ["P", "c"] (sp_p_at K)) (c_l_is_number : Cal P w K mg base 2 "_law_is_number" ["_law_found"] (sp_l_is_number K)) (c_l_at : Cal P w K mg base 3 "_law_at" ["_law_kp", "_law_c"] (sp_l_at K)) (c_l_moved_right : Cal P w K mg base 5 "_law_moved_right" ["_law_kp", "_law_c"] (sp_l_moved_right K)) (c_l_take : Cal P w K mg base 1 "_law_take" ["_law_box_here", "_law_many"] (sp_l_take K)) (c_l_power_right : Cal P w K mg base 5 "_law_power_right" ["_law_kp", "_law_n"] (sp_l_power_right K)) (c_l_lowest : Cal P w K mg base 1 "_law_lowest" ["_law_top", "_law_bottom"] (sp_l_lowest K)) (c_l_poly_of : Cal P w K mg base 1 "_law_poly_of" ["_law_row"] (sp_l_poly_of K)) : FnOk P w K mg base CX0 6 f fd ["_law_script"] (sp_law K) := by
  refine F.ok sc_law (fun vs H Q E h => ?_) (fun cdv A outer s H vs Q E hr h => ?_)
  · obtain ⟨_, _, rfl, _⟩ := h
    rfl
  have nd := sc_law.nd
  have hu := hr.units0
  have hu64 := hr.units
  exact ⟨T_law K, (pss_cons (ps_for PassesOwn.never rfl (pi_range1 rfl B.range (pa_cons (pe_callB (call_maxB rfl) rfl B.max bt_max (pa_cons pe_int (pa_cons (pe_callB (call_minB rfl) rfl B.min bt_min (pa_cons (pe_callB call_lenS rfl B.len bt_len (pa_cons (pv 0) pa_nil)) (pa_cons pe_int pa_nil))) pa_nil))) pa_nil)) (pg_name (i := 1) nd rfl (Or.inl rfl)) (pss_cons (ps_set (i := 2) nd rfl (Or.inr rfl) (c_l_box.pe hr (by decide) rfl (pa_cons (pv 0) (pa_cons (pv 1) pa_nil))))
    (pss_cons (ps_set (i := 3) nd rfl (Or.inl rfl) (c_l_poly.pe hr (by decide) rfl (pa_cons (pv 2) (pa_cons pe_int pa_nil))))
    (pss_cons (ps_set (i := 4) nd rfl (Or.inl rfl) (c_l_number.pe hr (by decide) rfl (pa_cons (c_l_box.pe hr (by decide) rfl (pa_cons (pv 0) (pa_cons (pe_op op_add (pv 1) pe_int) pa_nil))) pa_nil)))
    (pss_cons (ps_set (i := 5) nd rfl (Or.inl rfl) (c_p_at.pe hr (by decide) rfl (pa_cons (pv 3) (pa_cons (pv 4) pa_nil))))
    (pss_cons (ps_if (PW.pt (pw_or (pt_not (pt_val (c_l_is_number.pe hr (by decide) rfl (pa_cons (pv 5) pa_nil)))) (pw_or (pt_cmpR (op_neD hu64) (pv 5) (c_l_at.pe hr (by decide) rfl (pa_cons (pv 3) (pa_cons (pv 4) pa_nil))) (nomark _)) (pw_or1 (pt_not (pt_val (c_l_moved_right.pe hr (by decide) rfl (pa_cons (pv 3) (pa_cons (pv 4) pa_nil))))))))) (pss_one (ps_ret pe_bl)) pss_nil)
    (pss_cons (ps_set (i := 6) nd rfl (Or.inl rfl) (c_l_take.pe hr (by decide) rfl (pa_cons (pv 2) (pa_cons pe_int pa_nil))))
    (pss_one (ps_if (pt_not (pt_val (c_l_power_right.pe hr (by decide) rfl (pa_cons (c_l_poly.pe hr (by decide) rfl (pa_cons (pv 2) (pa_cons pe_int pa_nil))) (pa_cons (pv 6) pa_nil))))) (pss_one (ps_ret pe_bl)) pss_nil)))))))))
    (pss_cons (ps_set (i := 2) nd rfl (Or.inr rfl) (c_l_box.pe hr (by decide) rfl (pa_cons (pv 0) (pa_cons pe_int pa_nil))))
    (pss_cons (ps_set (i := 6) nd rfl (Or.inl rfl) (c_l_take.pe hr (by decide) rfl (pa_cons (pv 2) (pa_cons pe_int pa_nil))))
    (pss_cons (ps_setC (i := 7) (N := ["_law_k", "_law_box_here"]) (capt := [none, some 2]) nd rfl (Or.inl rfl) rfl (BlkOk.of rfl rfl rfl rfl (List.forall_mem_singleton.mpr rfl) rfl rfl rfl) (pi_range1 rfl B.range (pa_cons pe_int pa_nil)) (fun _ _ _ _ => (pg_name (i := 0) (show (["_law_k", "_law_box_here"] : List PySem.Str).Nodup by decide +kernel) rfl (Or.inl rfl))) (fun _ _ _ _ => (c_l_lowest.pe hr (by decide) rfl (pa_cons (pe_op op_sub (c_l_take.pe hr (by decide) rfl (pa_cons (pv 1) (pa_cons pe_int pa_nil))) pe_int) (pa_cons (pe_op op_add pe_int (c_l_take.pe hr (by decide) rfl (pa_cons (pv 1) (pa_cons pe_int pa_nil)))) pa_nil)))))
    (pss_one (ps_ret (c_l_power_right.pe hr (by decide) rfl (pa_cons (c_l_poly_of.pe hr (by decide) rfl (pa_cons (pv 7) pa_nil)) (pa_cons (pv 6) pa_nil))))))))), vc_law h⟩
end
theorem all_mk {l : PySem.W.OpenLaw} {w : World} {K : PySem.W.Frag} {h : Heap} {mg : Str → Option Value} {fa f0 f1 f2 f3 f4 f5 f6 f7 f8 f9 f10 f11 f12 f13 f14 f15 f16 f17 f18 f19 f20 f21 f22 f23 f24 f25 : Addr} (X : K.In h) (G : h.Ns mainGlobals mg) (hfa : mg "law" = some (.ref fa))
    {od0 an0 od1 an1 od2 an2 od3 an3 od4 an4 od5 an5 od6 an6 od7 an7 od8 an8 od9 an9 od10 an10 od11 an11 od12 an12 od13 an13 od14 an14 od15 an15 od16 an16 od17 an17 od18 an18 od19 an19 od20 an20 od21 an21 od22 an22 od23 an23 od24 an24 od25 an25 : Option Addr} {sl0 sl1 sl2 sl3 sl4 sl5 sl6 sl7 sl8 sl9 sl10 sl11 sl12 sl13 sl14 sl15 sl16 sl17 sl18 sl19 sl20 sl21 sl22 sl23 sl24 sl25 : Array (Option Value)} {oc0 kV0 dc0 pm0 cd0 ct0 oc1 kV1 dc1 pm1 cd1 ct1 oc2 kV2 dc2 pm2 cd2 ct2 oc3 kV3 dc3 pm3 cd3 ct3 oc4 kV4 dc4 pm4 cd4 ct4 oc5 kV5 dc5 pm5 cd5 ct5 oc6 kV6 dc6 pm6 cd6 ct6 oc7 kV7 dc7 pm7 cd7 ct7 oc8 kV8 dc8 pm8 cd8 ct8 oc9 kV9 dc9 pm9 cd9 ct9 oc10 kV10 dc10 pm10 cd10 ct10 oc11 kV11 dc11 pm11 cd11 ct11 oc12 kV12 dc12 pm12 cd12 ct12 oc13 kV13 dc13 pm13 cd13 ct13 oc14 kV14 dc14 pm14 cd14 ct14 oc15 kV15 dc15 pm15 cd15 ct15 oc16 kV16 dc16 pm16 cd16 ct16 oc17 kV17 dc17 pm17 cd17 ct17 oc18 kV18 dc18 pm18 cd18 ct18 oc19 kV19 dc19 pm19 cd19 ct19 oc20 kV20 dc20 pm20 cd20 ct20 oc21 kV21 dc21 pm21 cd21 ct21 oc22 kV22 dc22 pm22 cd22 ct22 oc23 kV23 dc23 pm23 cd23 ct23 oc24 kV24 dc24 pm24 cd24 ct24 oc25 kV25 dc25 pm25 cd25 ct25 : Value}
    (a0 : PySem.W.nsIn K mainGlobals "common_divisor" = some (some (.ref f0))) (l0 : K.lookup f0 = some ⟨oc0, od0, .func (PySem.W.fnOf "common_divisor" "common_divisor" (defArgs s_common_divisor) (defBody s_common_divisor) (defScope s_common_divisor) .none kV0 dc0 pm0 an0 cd0 ct0), sl0⟩) (c0 : PySem.W.codeIn K cd0 "common_divisor" = true) (k0 : PySem.W.keepIn K (.ref f0) = true)
    (a1 : PySem.W.nsIn K mainGlobals "raised" = some (some (.ref f1))) (l1 : K.lookup f1 = some ⟨oc1, od1, .func (PySem.W.fnOf "raised" "raised" (defArgs s_raised) (defBody s_raised) (defScope s_raised) .none kV1 dc1 pm1 an1 cd1 ct1), sl1⟩) (c1 : PySem.W.codeIn K cd1 "raised" = true) (k1 : PySem.W.keepIn K (.ref f1) = true)
    (a2 : PySem.W.nsIn K mainGlobals "row_power" = some (some (.ref f2))) (l2 : K.lookup f2 = some ⟨oc2, od2, .func (PySem.W.fnOf "row_power" "row_power" (defArgs s_row_power) (defBody s_row_power) (defScope s_row_power) .none kV2 dc2 pm2 an2 cd2 ct2), sl2⟩) (c2 : PySem.W.codeIn K cd2 "row_power" = true) (k2 : PySem.W.keepIn K (.ref f2) = true)
    (a3 : PySem.W.nsIn K mainGlobals "row_moved" = some (some (.ref f3))) (l3 : K.lookup f3 = some ⟨oc3, od3, .func (PySem.W.fnOf "row_moved" "row_moved" (defArgs s_row_moved) (defBody s_row_moved) (defScope s_row_moved) .none kV3 dc3 pm3 an3 cd3 ct3), sl3⟩) (c3 : PySem.W.codeIn K cd3 "row_moved" = true) (k3 : PySem.W.keepIn K (.ref f3) = true)
    (a4 : PySem.W.nsIn K mainGlobals "ratio" = some (some (.ref f4))) (l4 : K.lookup f4 = some ⟨oc4, od4, .func (PySem.W.fnOf "ratio" "ratio" (defArgs s_ratio) (defBody s_ratio) (defScope s_ratio) .none kV4 dc4 pm4 an4 cd4 ct4), sl4⟩) (c4 : PySem.W.codeIn K cd4 "ratio" = true) (k4 : PySem.W.keepIn K (.ref f4) = true)
    (a5 : PySem.W.nsIn K mainGlobals "poly" = some (some (.ref f5))) (l5 : K.lookup f5 = some ⟨oc5, od5, .func (PySem.W.fnOf "poly" "poly" (defArgs s_poly) (defBody s_poly) (defScope s_poly) .none kV5 dc5 pm5 an5 cd5 ct5), sl5⟩) (c5 : PySem.W.codeIn K cd5 "poly" = true) (k5 : PySem.W.keepIn K (.ref f5) = true)
    (a6 : PySem.W.nsIn K mainGlobals "cleared" = some (some (.ref f6))) (l6 : K.lookup f6 = some ⟨oc6, od6, .func (PySem.W.fnOf "cleared" "cleared" (defArgs s_cleared) (defBody s_cleared) (defScope s_cleared) .none kV6 dc6 pm6 an6 cd6 ct6), sl6⟩) (c6 : PySem.W.codeIn K cd6 "cleared" = true) (k6 : PySem.W.keepIn K (.ref f6) = true)
    (a7 : PySem.W.nsIn K mainGlobals "uncleared" = some (some (.ref f7))) (l7 : K.lookup f7 = some ⟨oc7, od7, .func (PySem.W.fnOf "uncleared" "uncleared" (defArgs s_uncleared) (defBody s_uncleared) (defScope s_uncleared) .none kV7 dc7 pm7 an7 cd7 ct7), sl7⟩) (c7 : PySem.W.codeIn K cd7 "uncleared" = true) (k7 : PySem.W.keepIn K (.ref f7) = true)
    (a8 : PySem.W.nsIn K mainGlobals "p_at" = some (some (.ref f8))) (l8 : K.lookup f8 = some ⟨oc8, od8, .func (PySem.W.fnOf "p_at" "p_at" (defArgs s_p_at) (defBody s_p_at) (defScope s_p_at) .none kV8 dc8 pm8 an8 cd8 ct8), sl8⟩) (c8 : PySem.W.codeIn K cd8 "p_at" = true) (k8 : PySem.W.keepIn K (.ref f8) = true)
    (a9 : PySem.W.nsIn K mainGlobals "p_moved" = some (some (.ref f9))) (l9 : K.lookup f9 = some ⟨oc9, od9, .func (PySem.W.fnOf "p_moved" "p_moved" (defArgs s_p_moved) (defBody s_p_moved) (defScope s_p_moved) .none kV9 dc9 pm9 an9 cd9 ct9), sl9⟩) (c9 : PySem.W.codeIn K cd9 "p_moved" = true) (k9 : PySem.W.keepIn K (.ref f9) = true)
    (a10 : PySem.W.nsIn K mainGlobals "p_power" = some (some (.ref f10))) (l10 : K.lookup f10 = some ⟨oc10, od10, .func (PySem.W.fnOf "p_power" "p_power" (defArgs s_p_power) (defBody s_p_power) (defScope s_p_power) .none kV10 dc10 pm10 an10 cd10 ct10), sl10⟩) (c10 : PySem.W.codeIn K cd10 "p_power" = true) (k10 : PySem.W.keepIn K (.ref f10) = true)
    (a11 : PySem.W.nsIn K mainGlobals "_law_box" = some (some (.ref f11))) (l11 : K.lookup f11 = some ⟨oc11, od11, .func (PySem.W.fnOf "_law_box" "_law_box" (defArgs s_l_box) (defBody s_l_box) (defScope s_l_box) .none kV11 dc11 pm11 an11 cd11 ct11), sl11⟩) (c11 : PySem.W.codeIn K cd11 "_law_box" = true) (k11 : PySem.W.keepIn K (.ref f11) = true)
    (a12 : PySem.W.nsIn K mainGlobals "_law_take" = some (some (.ref f12))) (l12 : K.lookup f12 = some ⟨oc12, od12, .func (PySem.W.fnOf "_law_take" "_law_take" (defArgs s_l_take) (defBody s_l_take) (defScope s_l_take) .none kV12 dc12 pm12 an12 cd12 ct12), sl12⟩) (c12 : PySem.W.codeIn K cd12 "_law_take" = true) (k12 : PySem.W.keepIn K (.ref f12) = true)
    (a13 : PySem.W.nsIn K mainGlobals "_law_lowest" = some (some (.ref f13))) (l13 : K.lookup f13 = some ⟨oc13, od13, .func (PySem.W.fnOf "_law_lowest" "_law_lowest" (defArgs s_l_lowest) (defBody s_l_lowest) (defScope s_l_lowest) .none kV13 dc13 pm13 an13 cd13 ct13), sl13⟩) (c13 : PySem.W.codeIn K cd13 "_law_lowest" = true) (k13 : PySem.W.keepIn K (.ref f13) = true)
    (a14 : PySem.W.nsIn K mainGlobals "_law_number" = some (some (.ref f14))) (l14 : K.lookup f14 = some ⟨oc14, od14, .func (PySem.W.fnOf "_law_number" "_law_number" (defArgs s_l_number) (defBody s_l_number) (defScope s_l_number) .none kV14 dc14 pm14 an14 cd14 ct14), sl14⟩) (c14 : PySem.W.codeIn K cd14 "_law_number" = true) (k14 : PySem.W.keepIn K (.ref f14) = true)
    (a15 : PySem.W.nsIn K mainGlobals "_law_sum" = some (some (.ref f15))) (l15 : K.lookup f15 = some ⟨oc15, od15, .func (PySem.W.fnOf "_law_sum" "_law_sum" (defArgs s_l_sum) (defBody s_l_sum) (defScope s_l_sum) .none kV15 dc15 pm15 an15 cd15 ct15), sl15⟩) (c15 : PySem.W.codeIn K cd15 "_law_sum" = true) (k15 : PySem.W.keepIn K (.ref f15) = true)
    (a16 : PySem.W.nsIn K mainGlobals "_law_product" = some (some (.ref f16))) (l16 : K.lookup f16 = some ⟨oc16, od16, .func (PySem.W.fnOf "_law_product" "_law_product" (defArgs s_l_product) (defBody s_l_product) (defScope s_l_product) .none kV16 dc16 pm16 an16 cd16 ct16), sl16⟩) (c16 : PySem.W.codeIn K cd16 "_law_product" = true) (k16 : PySem.W.keepIn K (.ref f16) = true)
    (a17 : PySem.W.nsIn K mainGlobals "_law_is_number" = some (some (.ref f17))) (l17 : K.lookup f17 = some ⟨oc17, od17, .func (PySem.W.fnOf "_law_is_number" "_law_is_number" (defArgs s_l_is_number) (defBody s_l_is_number) (defScope s_l_is_number) .none kV17 dc17 pm17 an17 cd17 ct17), sl17⟩) (c17 : PySem.W.codeIn K cd17 "_law_is_number" = true) (k17 : PySem.W.keepIn K (.ref f17) = true)
    (a18 : PySem.W.nsIn K mainGlobals "_law_poly_of" = some (some (.ref f18))) (l18 : K.lookup f18 = some ⟨oc18, od18, .func (PySem.W.fnOf "_law_poly_of" "_law_poly_of" (defArgs s_l_poly_of) (defBody s_l_poly_of) (defScope s_l_poly_of) .none kV18 dc18 pm18 an18 cd18 ct18), sl18⟩) (c18 : PySem.W.codeIn K cd18 "_law_poly_of" = true) (k18 : PySem.W.keepIn K (.ref f18) = true)
    (a19 : PySem.W.nsIn K mainGlobals "_law_poly" = some (some (.ref f19))) (l19 : K.lookup f19 = some ⟨oc19, od19, .func (PySem.W.fnOf "_law_poly" "_law_poly" (defArgs s_l_poly) (defBody s_l_poly) (defScope s_l_poly) .none kV19 dc19 pm19 an19 cd19 ct19), sl19⟩) (c19 : PySem.W.codeIn K cd19 "_law_poly" = true) (k19 : PySem.W.keepIn K (.ref f19) = true)
    (a20 : PySem.W.nsIn K mainGlobals "_law_is_poly" = some (some (.ref f20))) (l20 : K.lookup f20 = some ⟨oc20, od20, .func (PySem.W.fnOf "_law_is_poly" "_law_is_poly" (defArgs s_l_is_poly) (defBody s_l_is_poly) (defScope s_l_is_poly) .none kV20 dc20 pm20 an20 cd20 ct20), sl20⟩) (c20 : PySem.W.codeIn K cd20 "_law_is_poly" = true) (k20 : PySem.W.keepIn K (.ref f20) = true)
    (a21 : PySem.W.nsIn K mainGlobals "_law_multiplied" = some (some (.ref f21))) (l21 : K.lookup f21 = some ⟨oc21, od21, .func (PySem.W.fnOf "_law_multiplied" "_law_multiplied" (defArgs s_l_multiplied) (defBody s_l_multiplied) (defScope s_l_multiplied) .none kV21 dc21 pm21 an21 cd21 ct21), sl21⟩) (c21 : PySem.W.codeIn K cd21 "_law_multiplied" = true) (k21 : PySem.W.keepIn K (.ref f21) = true)
    (a22 : PySem.W.nsIn K mainGlobals "_law_at" = some (some (.ref f22))) (l22 : K.lookup f22 = some ⟨oc22, od22, .func (PySem.W.fnOf "_law_at" "_law_at" (defArgs s_l_at) (defBody s_l_at) (defScope s_l_at) .none kV22 dc22 pm22 an22 cd22 ct22), sl22⟩) (c22 : PySem.W.codeIn K cd22 "_law_at" = true) (k22 : PySem.W.keepIn K (.ref f22) = true)
    (a23 : PySem.W.nsIn K mainGlobals "_law_moved_right" = some (some (.ref f23))) (l23 : K.lookup f23 = some ⟨oc23, od23, .func (PySem.W.fnOf "_law_moved_right" "_law_moved_right" (defArgs s_l_moved_right) (defBody s_l_moved_right) (defScope s_l_moved_right) .none kV23 dc23 pm23 an23 cd23 ct23), sl23⟩) (c23 : PySem.W.codeIn K cd23 "_law_moved_right" = true) (k23 : PySem.W.keepIn K (.ref f23) = true)
    (a24 : PySem.W.nsIn K mainGlobals "_law_power_right" = some (some (.ref f24))) (l24 : K.lookup f24 = some ⟨oc24, od24, .func (PySem.W.fnOf "_law_power_right" "_law_power_right" (defArgs s_l_power_right) (defBody s_l_power_right) (defScope s_l_power_right) .none kV24 dc24 pm24 an24 cd24 ct24), sl24⟩) (c24 : PySem.W.codeIn K cd24 "_law_power_right" = true) (k24 : PySem.W.keepIn K (.ref f24) = true)
    (a25 : PySem.W.nsIn K mainGlobals "law" = some (some (.ref f25))) (l25 : K.lookup f25 = some ⟨oc25, od25, .func (PySem.W.fnOf "law" "law" (defArgs s_law) (defBody s_law) (defScope s_law) .none kV25 dc25 pm25 an25 cd25 ct25), sl25⟩) (c25 : PySem.W.codeIn K cd25 "law" = true) (k25 : PySem.W.keepIn K (.ref f25) = true)
    (z_abs : PySem.W.nsIn K mainGlobals "abs" = some none)
    (z_len : PySem.W.nsIn K mainGlobals "len" = some none)
    (z_range : PySem.W.nsIn K mainGlobals "range" = some none)
    (z_min : PySem.W.nsIn K mainGlobals "min" = some none)
    (z_list : PySem.W.nsIn K mainGlobals "list" = some none)
    (z_tuple : PySem.W.nsIn K mainGlobals "tuple" = some none)
    (z_reversed : PySem.W.nsIn K mainGlobals "reversed" = some none)
    (z_enumerate : PySem.W.nsIn K mainGlobals "enumerate" = some none)
    (z_int : PySem.W.nsIn K mainGlobals "int" = some none)
    (z_isinstance : PySem.W.nsIn K mainGlobals "isinstance" = some none)
    (z_bool : PySem.W.nsIn K mainGlobals "bool" = some none)
    (z_all : PySem.W.nsIn K mainGlobals "all" = some none)
    (z_max : PySem.W.nsIn K mainGlobals "max" = some none)
    : ∃ fd : FuncData, (∀ (s : Shared) (v : Value), BindsTo s fd ⟨[v], []⟩ [("_law_script", v)]) ∧ ∀ base : Heap, K.In base → base.Ns mainGlobals mg → FnOk l.prog w K mg base CX0 6 fa fd ["_law_script"] (sp_law K) := by
  have e := hfa.symm.trans (PySem.W.mg_of X G a25)
  cases e
  have B : Bl mg := ⟨PySem.W.mg_none_of X G z_abs, PySem.W.mg_none_of X G z_len, PySem.W.mg_none_of X G z_range, PySem.W.mg_none_of X G z_min, PySem.W.mg_none_of X G z_list, PySem.W.mg_none_of X G z_tuple, PySem.W.mg_none_of X G z_reversed, PySem.W.mg_none_of X G z_enumerate, PySem.W.mg_none_of X G z_int, PySem.W.mg_none_of X G z_isinstance, PySem.W.mg_none_of X G z_bool, PySem.W.mg_none_of X G z_all, PySem.W.mg_none_of X G z_max⟩
  have F0 := fun_mk (st := s_common_divisor) l0 c0 k0
  have b0 := F0.binds (ps := ["one", "other"]) fun _ _ _ _ _ _ us hl => match us, hl with | [_, _], _ => rfl
  have F1 := fun_mk (st := s_raised) l1 c1 k1
  have b1 := F1.binds (ps := ["whole", "n"]) fun _ _ _ _ _ _ us hl => match us, hl with | [_, _], _ => rfl
  have F2 := fun_mk (st := s_row_power) l2 c2 k2
  have b2 := F2.binds (ps := ["row", "n"]) fun _ _ _ _ _ _ us hl => match us, hl with | [_, _], _ => rfl
  have F3 := fun_mk (st := s_row_moved) l3 c3 k3
  have b3 := F3.binds (ps := ["row", "whole"]) fun _ _ _ _ _ _ us hl => match us, hl with | [_, _], _ => rfl
  have F4 := fun_mk (st := s_ratio) l4 c4 k4
  have b4 := F4.binds (ps := ["top", "bottom"]) fun _ _ _ _ _ _ us hl => match us, hl with | [_, _], _ => rfl
  have F5 := fun_mk (st := s_poly) l5 c5 k5
  have b5 := F5.binds (ps := ["row"]) fun _ _ _ _ _ _ us hl => match us, hl with | [_], _ => rfl
  have F6 := fun_mk (st := s_cleared) l6 c6 k6
  have b6 := F6.binds (ps := ["P"]) fun _ _ _ _ _ _ us hl => match us, hl with | [_], _ => rfl
  have F7 := fun_mk (st := s_uncleared) l7 c7 k7
  have b7 := F7.binds (ps := ["row", "bottom"]) fun _ _ _ _ _ _ us hl => match us, hl with | [_, _], _ => rfl
  have F8 := fun_mk (st := s_p_at) l8 c8 k8
  have b8 := F8.binds (ps := ["P", "c"]) fun _ _ _ _ _ _ us hl => match us, hl with | [_, _], _ => rfl
  have F9 := fun_mk (st := s_p_moved) l9 c9 k9
  have b9 := F9.binds (ps := ["P", "c"]) fun _ _ _ _ _ _ us hl => match us, hl with | [_, _], _ => rfl
  have F10 := fun_mk (st := s_p_power) l10 c10 k10
  have b10 := F10.binds (ps := ["P", "n"]) fun _ _ _ _ _ _ us hl => match us, hl with | [_, _], _ => rfl
  have F11 := fun_mk (st := s_l_box) l11 c11 k11
  have b11 := F11.binds (ps := ["_law_script", "_law_k"]) fun _ _ _ _ _ _ us hl => match us, hl with | [_, _], _ => rfl
  have F12 := fun_mk (st := s_l_take) l12 c12 k12
  have b12 := F12.binds (ps := ["_law_box_here", "_law_many"]) fun _ _ _ _ _ _ us hl => match us, hl with | [_, _], _ => rfl
  have F13 := fun_mk (st := s_l_lowest) l13 c13 k13
  have b13 := F13.binds (ps := ["_law_top", "_law_bottom"]) fun _ _ _ _ _ _ us hl => match us, hl with | [_, _], _ => rfl
  have F14 := fun_mk (st := s_l_number) l14 c14 k14
  have b14 := F14.binds (ps := ["_law_box_here"]) fun _ _ _ _ _ _ us hl => match us, hl with | [_], _ => rfl
  have F15 := fun_mk (st := s_l_sum) l15 c15 k15
  have b15 := F15.binds (ps := ["_law_one", "_law_other"]) fun _ _ _ _ _ _ us hl => match us, hl with | [_, _], _ => rfl
  have F16 := fun_mk (st := s_l_product) l16 c16 k16
  have b16 := F16.binds (ps := ["_law_one", "_law_other"]) fun _ _ _ _ _ _ us hl => match us, hl with | [_, _], _ => rfl
  have F17 := fun_mk (st := s_l_is_number) l17 c17 k17
  have b17 := F17.binds (ps := ["_law_found"]) fun _ _ _ _ _ _ us hl => match us, hl with | [_], _ => rfl
  have F18 := fun_mk (st := s_l_poly_of) l18 c18 k18
  have b18 := F18.binds (ps := ["_law_row"]) fun _ _ _ _ _ _ us hl => match us, hl with | [_], _ => rfl
  have F19 := fun_mk (st := s_l_poly) l19 c19 k19
  have b19 := F19.binds (ps := ["_law_box_here", "_law_most"]) fun _ _ _ _ _ _ us hl => match us, hl with | [_, _], _ => rfl
  have F20 := fun_mk (st := s_l_is_poly) l20 c20 k20
  have b20 := F20.binds (ps := ["_law_found"]) fun _ _ _ _ _ _ us hl => match us, hl with | [_], _ => rfl
  have F21 := fun_mk (st := s_l_multiplied) l21 c21 k21
  have b21 := F21.binds (ps := ["_law_kp", "_law_kq"]) fun _ _ _ _ _ _ us hl => match us, hl with | [_, _], _ => rfl
  have F22 := fun_mk (st := s_l_at) l22 c22 k22
  have b22 := F22.binds (ps := ["_law_kp", "_law_c"]) fun _ _ _ _ _ _ us hl => match us, hl with | [_, _], _ => rfl
  have F23 := fun_mk (st := s_l_moved_right) l23 c23 k23
  have b23 := F23.binds (ps := ["_law_kp", "_law_c"]) fun _ _ _ _ _ _ us hl => match us, hl with | [_, _], _ => rfl
  have F24 := fun_mk (st := s_l_power_right) l24 c24 k24
  have b24 := F24.binds (ps := ["_law_kp", "_law_n"]) fun _ _ _ _ _ _ us hl => match us, hl with | [_, _], _ => rfl
  have F25 := fun_mk (st := s_law) l25 c25 k25
  refine ⟨PySem.W.fnOf "law" "law" (defArgs s_law) (defBody s_law) (defScope s_law) .none kV25 dc25 pm25 an25 cd25 ct25, fun s v => .of_eq rfl, fun base _ _ => ?_⟩
  have C_common_divisor : Cal l.prog w K mg base 1 "common_divisor" ["one", "other"] (sp_common_divisor K) := ⟨f0, _, ok_common_divisor F0 B , b0, k0, PySem.W.mg_of X G a0⟩
  have C_raised : Cal l.prog w K mg base 1 "raised" ["whole", "n"] (sp_raised K) := ⟨f1, _, ok_raised F1 B , b1, k1, PySem.W.mg_of X G a1⟩
  have C_row_power : Cal l.prog w K mg base 2 "row_power" ["row", "n"] (sp_row_power K) := ⟨f2, _, ok_row_power F2 B C_raised, b2, k2, PySem.W.mg_of X G a2⟩
  have C_row_moved : Cal l.prog w K mg base 1 "row_moved" ["row", "whole"] (sp_row_moved K) := ⟨f3, _, ok_row_moved F3 B , b3, k3, PySem.W.mg_of X G a3⟩
  have C_ratio : Cal l.prog w K mg base 2 "ratio" ["top", "bottom"] (sp_ratio K) := ⟨f4, _, ok_ratio F4 B C_common_divisor, b4, k4, PySem.W.mg_of X G a4⟩
  have C_poly : Cal l.prog w K mg base 1 "poly" ["row"] (sp_poly K) := ⟨f5, _, ok_poly F5 B , b5, k5, PySem.W.mg_of X G a5⟩
  have C_cleared : Cal l.prog w K mg base 2 "cleared" ["P"] (sp_cleared K) := ⟨f6, _, ok_cleared F6 B C_common_divisor, b6, k6, PySem.W.mg_of X G a6⟩
  have C_uncleared : Cal l.prog w K mg base 3 "uncleared" ["row", "bottom"] (sp_uncleared K) := ⟨f7, _, ok_uncleared F7 B C_ratio C_poly, b7, k7, PySem.W.mg_of X G a7⟩
  have C_p_at : Cal l.prog w K mg base 3 "p_at" ["P", "c"] (sp_p_at K) := ⟨f8, _, ok_p_at F8 B C_cleared C_ratio, b8, k8, PySem.W.mg_of X G a8⟩
  have C_p_moved : Cal l.prog w K mg base 4 "p_moved" ["P", "c"] (sp_p_moved K) := ⟨f9, _, ok_p_moved F9 B C_cleared C_row_moved C_uncleared, b9, k9, PySem.W.mg_of X G a9⟩
  have C_p_power : Cal l.prog w K mg base 4 "p_power" ["P", "n"] (sp_p_power K) := ⟨f10, _, ok_p_power F10 B C_cleared C_row_power C_raised C_uncleared, b10, k10, PySem.W.mg_of X G a10⟩
  have C_l_box : Cal l.prog w K mg base 1 "_law_box" ["_law_script", "_law_k"] (sp_l_box K) := ⟨f11, _, ok_l_box F11 B , b11, k11, PySem.W.mg_of X G a11⟩
  have C_l_take : Cal l.prog w K mg base 1 "_law_take" ["_law_box_here", "_law_many"] (sp_l_take K) := ⟨f12, _, ok_l_take F12 B , b12, k12, PySem.W.mg_of X G a12⟩
  have C_l_lowest : Cal l.prog w K mg base 1 "_law_lowest" ["_law_top", "_law_bottom"] (sp_l_lowest K) := ⟨f13, _, ok_l_lowest F13 B , b13, k13, PySem.W.mg_of X G a13⟩
  have C_l_number : Cal l.prog w K mg base 2 "_law_number" ["_law_box_here"] (sp_l_number K) := ⟨f14, _, ok_l_number F14 B C_l_take C_l_lowest, b14, k14, PySem.W.mg_of X G a14⟩
  have C_l_sum : Cal l.prog w K mg base 2 "_law_sum" ["_law_one", "_law_other"] (sp_l_sum K) := ⟨f15, _, ok_l_sum F15 B C_l_lowest, b15, k15, PySem.W.mg_of X G a15⟩
  have C_l_product : Cal l.prog w K mg base 2 "_law_product" ["_law_one", "_law_other"] (sp_l_product K) := ⟨f16, _, ok_l_product F16 B C_l_lowest, b16, k16, PySem.W.mg_of X G a16⟩
  have C_l_is_number : Cal l.prog w K mg base 2 "_law_is_number" ["_law_found"] (sp_l_is_number K) := ⟨f17, _, ok_l_is_number F17 B C_l_lowest, b17, k17, PySem.W.mg_of X G a17⟩
  have C_l_poly_of : Cal l.prog w K mg base 1 "_law_poly_of" ["_law_row"] (sp_l_poly_of K) := ⟨f18, _, ok_l_poly_of F18 B , b18, k18, PySem.W.mg_of X G a18⟩
  have C_l_poly : Cal l.prog w K mg base 3 "_law_poly" ["_law_box_here", "_law_most"] (sp_l_poly K) := ⟨f19, _, ok_l_poly F19 B C_l_take C_l_number C_l_poly_of, b19, k19, PySem.W.mg_of X G a19⟩
  have C_l_is_poly : Cal l.prog w K mg base 3 "_law_is_poly" ["_law_found"] (sp_l_is_poly K) := ⟨f20, _, ok_l_is_poly F20 B C_l_is_number, b20, k20, PySem.W.mg_of X G a20⟩
  have C_l_multiplied : Cal l.prog w K mg base 3 "_law_multiplied" ["_law_kp", "_law_kq"] (sp_l_multiplied K) := ⟨f21, _, ok_l_multiplied F21 B C_l_product C_l_sum C_l_poly_of, b21, k21, PySem.W.mg_of X G a21⟩
  have C_l_at : Cal l.prog w K mg base 3 "_law_at" ["_law_kp", "_law_c"] (sp_l_at K) := ⟨f22, _, ok_l_at F22 B C_l_product C_l_sum, b22, k22, PySem.W.mg_of X G a22⟩
  have C_l_moved_right : Cal l.prog w K mg base 5 "_law_moved_right" ["_law_kp", "_law_c"] (sp_l_moved_right K) := ⟨f23, _, ok_l_moved_right F23 B C_p_moved C_l_is_poly C_l_at C_l_sum, b23, k23, PySem.W.mg_of X G a23⟩
  have C_l_power_right : Cal l.prog w K mg base 5 "_law_power_right" ["_law_kp", "_law_n"] (sp_l_power_right K) := ⟨f24, _, ok_l_power_right F24 B C_l_multiplied C_p_power, b24, k24, PySem.W.mg_of X G a24⟩
  exact ok_law F25 B C_l_box C_l_poly C_l_number C_p_at C_l_is_number C_l_at C_l_moved_right C_l_take C_l_power_right C_l_lowest C_l_poly_of
theorem walk {l : PySem.W.OpenLaw} {q : Program} {loose : List Str} {XP : (Str → Option Value) → Heap → Prop} {YP : World → Heap → Prop} {d : DefRec} {K : Params → PySem.W.Frag} (hn : l.most = some 63) (hdf : d.params.defaults = [])
    (hY : ∀ (w : World) (h : Heap), YP w h → (K w.params).In h)
    (F : ∀ (w : World) (mg : Str → Option Value) (fa : Addr) (h : Heap), (K w.params).In h → h.Ns mainGlobals mg → mg d.name = some (.ref fa) →
      ∃ fd : FuncData, (∀ (s : Shared) (u : Value), BindsTo s fd ⟨[u], []⟩ [("_law_script", u)]) ∧ ∀ base : Heap, (K w.params).In base → base.Ns mainGlobals mg → FnOk l.prog w (K w.params) mg base CX0 6 fa fd ["_law_script"] (sp_law (K w.params))) :
    PySem.W.WalkO q loose XP YP l.row.toRowW d [] (fun f vs => PySem.call f vs) :=
  L2.walk_of (n := 63) (k := 6) (x := "_law_script") (CX := fun _ => CX0) (sp := fun w => sp_law (K w.params)) hn (by decide) hdf ⟨rfl, by decide, by decide⟩ hY F (fun _ _ a ns hl _ hS => ⟨a, ns, rfl, hS, hl, fun _ => rfl⟩) fun _ _ _ _ _ z => z
end Bs
open PySem PySem.W PyProof.Rows
set_option maxRecDepth 100000 in
set_option maxHeartbeats 0 in
theorem PySem.Challenge.cw_backslope_k06_worths_and_moves_holds : PySem.Challenge.rw_backslope_k06_worths_and_moves.Holds := by
  w_on; o_law; k_head; (case hw => w_witness2)
  k_fill
  refine Bs.walk (l := PySem.Challenge.rw_backslope_k06_worths_and_moves) rfl rfl (fun w h Y => PySem.W.kIn_of Y) ?F
  case F =>
    intro w mg fa h KX G hmg
    refine' Bs.all_mk KX G hmg ?a0 ?l0 ?c0 ?k0 ?a1 ?l1 ?c1 ?k1 ?a2 ?l2 ?c2 ?k2 ?a3 ?l3 ?c3 ?k3 ?a4 ?l4 ?c4 ?k4 ?a5 ?l5 ?c5 ?k5 ?a6 ?l6 ?c6 ?k6 ?a7 ?l7 ?c7 ?k7 ?a8 ?l8 ?c8 ?k8 ?a9 ?l9 ?c9 ?k9 ?a10 ?l10 ?c10 ?k10 ?a11 ?l11 ?c11 ?k11 ?a12 ?l12 ?c12 ?k12 ?a13 ?l13 ?c13 ?k13 ?a14 ?l14 ?c14 ?k14 ?a15 ?l15 ?c15 ?k15 ?a16 ?l16 ?c16 ?k16 ?a17 ?l17 ?c17 ?k17 ?a18 ?l18 ?c18 ?k18 ?a19 ?l19 ?c19 ?k19 ?a20 ?l20 ?c20 ?k20 ?a21 ?l21 ?c21 ?k21 ?a22 ?l22 ?c22 ?k22 ?a23 ?l23 ?c23 ?k23 ?a24 ?l24 ?c24 ?k24 ?a25 ?l25 ?c25 ?k25 ?z_abs ?z_len ?z_range ?z_min ?z_list ?z_tuple ?z_reversed ?z_enumerate ?z_int ?z_isinstance ?z_bool ?z_all ?z_max
    (case a0 => k_is); (case l0 => k_is); (case c0 => k_is); (case k0 => k_is)
    (case a1 => k_is); (case l1 => k_is); (case c1 => k_is); (case k1 => k_is)
    (case a2 => k_is); (case l2 => k_is); (case c2 => k_is); (case k2 => k_is)
    (case a3 => k_is); (case l3 => k_is); (case c3 => k_is); (case k3 => k_is)
    (case a4 => k_is); (case l4 => k_is); (case c4 => k_is); (case k4 => k_is)
    (case a5 => k_is); (case l5 => k_is); (case c5 => k_is); (case k5 => k_is)
    (case a6 => k_is); (case l6 => k_is); (case c6 => k_is); (case k6 => k_is)
    (case a7 => k_is); (case l7 => k_is); (case c7 => k_is); (case k7 => k_is)
    (case a8 => k_is); (case l8 => k_is); (case c8 => k_is); (case k8 => k_is)
    (case a9 => k_is); (case l9 => k_is); (case c9 => k_is); (case k9 => k_is)
    (case a10 => k_is); (case l10 => k_is); (case c10 => k_is); (case k10 => k_is)
    (case a11 => k_is); (case l11 => k_is); (case c11 => k_is); (case k11 => k_is)
    (case a12 => k_is); (case l12 => k_is); (case c12 => k_is); (case k12 => k_is)
    (case a13 => k_is); (case l13 => k_is); (case c13 => k_is); (case k13 => k_is)
    (case a14 => k_is); (case l14 => k_is); (case c14 => k_is); (case k14 => k_is)
    (case a15 => k_is); (case l15 => k_is); (case c15 => k_is); (case k15 => k_is)
    (case a16 => k_is); (case l16 => k_is); (case c16 => k_is); (case k16 => k_is)
    (case a17 => k_is); (case l17 => k_is); (case c17 => k_is); (case k17 => k_is)
    (case a18 => k_is); (case l18 => k_is); (case c18 => k_is); (case k18 => k_is)
    (case a19 => k_is); (case l19 => k_is); (case c19 => k_is); (case k19 => k_is)
    (case a20 => k_is); (case l20 => k_is); (case c20 => k_is); (case k20 => k_is)
    (case a21 => k_is); (case l21 => k_is); (case c21 => k_is); (case k21 => k_is)
    (case a22 => k_is); (case l22 => k_is); (case c22 => k_is); (case k22 => k_is)
    (case a23 => k_is); (case l23 => k_is); (case c23 => k_is); (case k23 => k_is)
    (case a24 => k_is); (case l24 => k_is); (case c24 => k_is); (case k24 => k_is)
    (case a25 => k_is); (case l25 => k_is); (case c25 => k_is); (case k25 => k_is)
    (case z_abs => k_is); (case z_len => k_is); (case z_range => k_is); (case z_min => k_is)
    (case z_list => k_is); (case z_tuple => k_is); (case z_reversed => k_is); (case z_enumerate => k_is)
    (case z_int => k_is); (case z_isinstance => k_is); (case z_bool => k_is); (case z_all => k_is)
    (case z_max => k_is)
#print axioms PySem.Challenge.cw_backslope_k06_worths_and_moves_holds
